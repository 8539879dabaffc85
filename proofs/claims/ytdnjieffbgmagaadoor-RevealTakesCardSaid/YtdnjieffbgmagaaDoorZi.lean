/- The package reveal's Covers and Change. -/
import Derived.Test.YtdnjieffbgmagaaDoorZb
import Derived.Test.YtdnjieffbgmagaaDoorZc
import Derived.Test.YtdnjieffbgmagaaDoorZd
import Derived.Test.YtdnjieffbgmagaaDoorZf
import Derived.BigQuiet
namespace Go.Proofs.YtdnjieffbgmagaaDoor
open Go.RowKit Go.Sort
set_option maxRecDepth 100000

def zeroSl : List Value := [.string ⟨#[]⟩, .string ⟨#[]⟩, .string ⟨#[]⟩]
theorem whySeal_len (f : Fr) : (whySeal f).length = 3 := by unfold whySeal; split <;> rfl
theorem whySeal_one (f : Fr) : ∀ v ∈ whySeal f, v.oneCell' = true := by
  intro v hv
  unfold whySeal at hv
  split at hv <;> (simp only [List.mem_cons, List.not_mem_nil, or_false] at hv; rcases hv with rfl | rfl | rfl <;> rfl)
theorem whySeal_zero {f : Fr} (h : whyF f = 0) : whySeal f = [.string (strL (headF f)), .string (hidB f), .string f.body] := by unfold whySeal; rw [if_pos h]
/-- a frame's, whose keys can be read -/
structure FrZ (w : World) (f : Fr) (a : Option Addr) : Prop where
  keys : f.keys.length ≤ maxLen
  ok : FrOk f
  body : f.body.size ≤ 2000
  at_ : SSl w a f.keys
theorem FrZ.on {w w' : World} {f : Fr} {a : Option Addr} (h : FrZ w f a) (hb : Below w.heap.size w w') : FrZ w' f a := ⟨h.keys, h.ok, h.body, h.at_.on hb⟩
structure Vq (w : World) : Prop where
  first : FirstAt w
  keys : KeysAt w
  fmt : FmtAt w
theorem Vq.on {w w' : World} (h : Vq w) (hb : Below w.heap.size w w') : Vq w' := ⟨h.first.on hb, h.keys.on hb, h.fmt.on hb⟩
theorem sealedQ (f : Fr) (a : Option Addr) (c : Nat) (w : World) (h : FrZ w f a) (hV : Vq w) :
    Calls Tryd.prog 30 #[.agg (frL f a c).toArray] w fun e w' => e = .returned (.tuple #[.agg (whySeal f).toArray, .int .i64 (whyF f)]) ∧ Below w.heap.size w w' :=
  sealedIn_any f a c h.keys h.ok h.body w h.at_ hV.fmt
theorem coveredQ (f : Fr) (hw0 : whyF f = 0) (ho : FrOk f) (la : Option Addr) (lc : Nat) (l : List ByteArray) (hl : l.length ≤ 1000) (w : World) (hV : Vq w) (hp : SSl w la l) :
    Calls Tryd.prog 31 #[.agg #[.string (strL (headF f)), .string (hidB f), .string f.body], .slice la l.length lc] w fun e w' => e = .returned (.tuple #[.string (keyF f l), .bool (!decide ((keyF f l).size = 0))]) ∧ Below w.heap.size w w' := by
  obtain ⟨hr, hk2, hb32⟩ := whyF_zero hw0
  have hab := able_of hr hk2 ho
  exact coveredBy_any _ _ _ hab.head (by rw [hidB_size f hb32]; have := hab.body; omega) la lc l hl w hV.first hV.keys hp
set_option maxHeartbeats 8000000 in
theorem Covers_any (f : Fr) (a : Option Addr) (c : Nat) (la : Option Addr) (lc : Nat) (l : List ByteArray) (hl : l.length ≤ 1000) (w : World) (hf : FrZ w f a) (hV : Vq w) (hp : SSl w la l) :
    Calls Tryd.prog 15 #[.slice la l.length lc, .agg (frL f a c).toArray] w fun e w' => e = .returned (.tuple #[.bool (decide (whyF f = 0) && !decide ((keyF f l).size = 0)), .int .i64 (whyF f)]) ∧ Below w.heap.size w w' := by
  obtain ⟨W, eW⟩ : ∃ W, w.alloc (.cells (frL f a c).toArray 32) = W := ⟨_, rfl⟩
  have hbW : Below w.heap.size w W := by rw [← eW]; exact (Below.refl _ _).alloc (Nat.le_refl _) _
  have hX : BlkV W w.heap.size 32 (frL f a c) := by rw [← eW]; exact BlkV.fresh _ _ _ _ rfl _ rfl
  have hs := sealedQ f a c W (hf.on hbW) (hV.on hbW)
  have hcv := fun (h0 : whyF f = 0) (V : World) (hb : Below w.heap.size w V) => coveredQ f h0 hf.ok la lc l hl V (hV.on hb) (hp.on hb)
  have hSl := whySeal_len f
  have hSo := whySeal_one f
  have hSz := fun (h0 : whyF f = 0) => whySeal_zero h0
  obtain ⟨S, eS⟩ : ∃ S, whySeal f = S := ⟨_, rfl⟩
  obtain ⟨y, ey⟩ : ∃ y, whyF f = y := ⟨_, rfl⟩
  rw [eS] at hs hSl hSo hSz
  rw [ey] at hs hcv hSz ⊢
  have HX := Lib.hid hX; have HB := Lib.hid hbW; have HE := Lib.hid eW; have HS := Lib.hid hs; have HC := Lib.hid hcv; have HSS := Lib.hid (And.intro hSl (And.intro hSo hSz))
  clear hX hbW eW hs hcv hSl hSo hSz eS ey hl hf hV hp
  go_enter Tryd.func15, Tryd.ntmps15
  go_upto_region 1 with fail
  generalize hG : World.alloc w _ = G
  obtain rfl : W = G := by rw [← hG, ← HE.out]
  clear hG HE
  refine wp_region_lit ?_
  refine load_v rfl _ _ rfl w.heap.size rfl HX.out Tryd.underlying32 rfl (by kernel_rfl) ?_
  go_wp2_with fail
  refine HS.out.mono ?_
  rintro e w1 ⟨rfl, hb⟩
  have HB1 := Lib.hid (HB.out.trans (hb.mono HB.out.size))
  clear hb HX HB HS
  rename_i K hK
  refine hK _ _ ?_
  clear hK K
  iterate 4 (refine wpList_step (fun K hK => ?_); go_simp; refine hK _ _ ?_; clear hK K)
  obtain ⟨g0, g1, g2⟩ := newBlk w1 64 zeroSl S HSS.out.1
  obtain ⟨V, eV⟩ : ∃ V, w1.alloc (.cells zeroSl.toArray 64) = V := ⟨_, rfl⟩
  rw [eV] at g0 g1 g2
  generalize hG : World.alloc w1 _ = G
  obtain rfl : V = G := by rw [← hG, ← eV]; rfl
  clear hG eV
  refine store_v rfl rfl _ _ _ rfl w1.heap.size rfl (l' := S) rfl g0 HSS.out.1 HSS.out.2.1 (by kernel_rfl) ?_
  generalize World.setCells V _ _ _ = V2 at g1 g2 ⊢
  have HB2 := Lib.hid (HB1.out.trans (g2.mono HB1.out.size))
  have G1 := Lib.hid g1
  clear g0 g1 g2 HB1
  by_cases h0 : y = 0
  case neg =>
    have hne : (y != 0) = true := by rw [bne_iff_ne]; exact h0
    have HN := Lib.hid (decide_eq_false h0)
    clear h0
    go_wp2_with fail
    go_ret2
    exact ⟨by rw [HN.out]; rfl, HB2.out⟩
  case pos =>
    subst h0
    go_upto_region 4 with fail
    refine wp_region_lit ?_
    refine load_v rfl _ _ rfl w1.heap.size rfl G1.out Tryd.underlying64 rfl (by rw [HSS.out.1]; kernel_rfl) ?_
    rw [HSS.out.2.2 (by first | rfl | trivial)]
    go_wp2_with fail
    refine (HC.out (by first | rfl | trivial) _ HB2.out).mono ?_
    rintro e w3 ⟨rfl, hb⟩
    have HB3 := Lib.hid (HB2.out.trans (hb.mono HB2.out.size))
    clear hb HC HB2 G1 HSS
    go_wp2_with fail
    go_ret2
    exact ⟨rfl, HB3.out⟩
end Go.Proofs.YtdnjieffbgmagaaDoor
