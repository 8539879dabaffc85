/- The texts Ys, Yt, one behind the other. -/
import Derived.Test.YthjlhcmdpeinpaaGreatDoorYf
import Derived.Test.YthjlhcmdpeinpaaGreatDoorBg13
import Derived.Test.YthjlhcmdpeinpaaGreatDoorBg18
import Derived.Deep.RegionHeld3
import Derived.Test.YthjlhcmdpeinpaaGreatDoorBg21
import Derived.Test.YthjlhcmdpeinpaaGreatDoorBg20
import Derived.Test.YthjlhcmdpeinpaaGreatDoorGg9
/- The package session's seal: the frame of a text. -/
namespace Go.Proofs.YthjlhcmdpeinpaaGreatDoor
open Go.RowKit Go.Sort
set_option maxRecDepth 100000
theorem tp_len (s : ByteArray) (h : s.size ≤ 32) : (partB (tp s)).length ≤ 41 := by
  have e : partB (tp s) = numB s.size ++ bl s := rfl
  have := numB_le9 s.size (by omega)
  rw [e, List.length_append, bl_length]; omega
theorem np_len (n : Nat) (h : n < 18446744073709551616) : (partB (np n)).length ≤ 9 := numB_le9 n h
/-- the head of a frame that may be has room -/
theorem head_len (f : Fr) (h : rightF (probeF f) = true) (ho : FrOk f) (s : Se) (hs : s.sent < 4294967296) (hp : s.prev < 4294967296) : (strL (headF (sealH s f))).size ≤ 1024 := by
  have hk := probe_kind h
  have hz : tenW.size = 32 := rfl
  have hid : f.ident.size ≤ 32 ∧ f.base.size ≤ 32 := by
    unfold rightF probeF at h
    simp only [hz] at h
    by_cases h0 : f.kind = 0
    · rw [if_pos h0] at h
      simp only [Bool.and_eq_true, decide_eq_true_eq] at h
      omega
    · rw [if_neg h0] at h
      split at h
      · rename_i h1; omega
      · cases h
  have e1 : (sealH s f).kind = f.kind := rfl
  rw [strL_size]
  unfold headF headP packL
  rw [e1]
  have hr : (sealH s f).ratchet.size ≤ 32 := by show (bptY s.own).size ≤ 32; unfold bptY; rw [ptY_size]; omega
  have n1 := np_len (sealH s f).frm ho.frm; have n2 := np_len (sealH s f).dst ho.dst; have n3 := np_len (sealH s f).id ho.id
  have n4 := np_len (sealH s f).signed ho.signed; have n5 := np_len (sealH s f).once ho.once
  have n6 := np_len (sealH s f).prev (show s.prev < _ by omega); have n7 := np_len (sealH s f).num (show s.sent < _ by omega)
  have n8 := np_len f.kind.toNat (by omega)
  have t1 := tp_len (sealH s f).ident hid.1; have t2 := tp_len (sealH s f).base hid.2; have t3 := tp_len (sealH s f).ratchet hr
  rcases hk with h0 | h0
  · rw [if_pos h0, if_pos (by omega)]
    simp only [List.flatMap_append, List.flatMap_cons, List.flatMap_nil, List.length_append, List.length_nil]
    omega
  · rw [if_neg (by omega), if_pos (by omega)]
    simp only [List.flatMap_append, List.flatMap_cons, List.flatMap_nil, List.length_append, List.length_nil]
    omega
theorem seal_ok (f : Fr) (ho : FrOk f) (s : Se) (hs : s.sent < 4294967296) (hp : s.prev < 4294967296) : FrOk (sealH s f) :=
  ⟨ho.frm, ho.dst, ho.id, ho.signed, ho.once, (show s.prev < _ by omega), (show s.sent < _ by omega)⟩
/-- a text's error, of a session that may be -/
def sealE2 (s : Se) (f : Fr) (x : ByteArray) : Int := if rightF (probeF f) = false then 1 else if 992 < x.size then 2 else if s.send.size = 0 then 9 else 0
def SealPost (s : Se) (f : Fr) (x : ByteArray) (B : Nat) (t : TypeId) (a1 : Option Addr) (c1 : Nat) (b1 : Option Addr) (d1 : Nat) (w : World) (e : Ending) (w' : World) : Prop :=
  (sealE2 s f x = 0 ∧ e = .returned (frV (sealF s f x) none 0) ∧ Below B w w' ∧ BlkV w' B t (seL (sealS s) a1 c1 b1 d1) ∧ ∀ k, k < w.heap.size → k ≠ B → w'.heap[k]? = w.heap[k]?) ∨ (sealE2 s f x ≠ 0 ∧ e = thrown (sealE2 s f x) ∧ Below B w w')
theorem bel_3y {w0 w : World} {p0 p1 p2 : Addr} {v0 v1 v2 : Value} (h : w0.cell? p0 = some v0 ∧ w0.cell? p1 = some v1 ∧ w0.cell? p2 = some v2) (hb : Bel w0 w) : (w.cell? p0 = some v0 ∧ w.cell? p1 = some v1 ∧ w.cell? p2 = some v2) ∧ Bel w0 w := by
  have f : ∀ p v, w0.cell? p = some v → w.cell? p = some v := fun p v h => by rw [hb.b.cell (World.block_lt_of_cell? w0 _ h)]; exact h
  obtain ⟨h0, h1, h2⟩ := h
  exact ⟨⟨f _ _ h0, f _ _ h1, f _ _ h2⟩, hb⟩
theorem frL_oneY (f : Fr) (a : Option Addr) (c : Nat) : ∀ v ∈ frL f a c, v.oneCell' = true := by
  intro v hv
  simp only [frL, List.mem_cons, List.not_mem_nil, or_false] at hv
  rcases hv with rfl | rfl | rfl | rfl | rfl | rfl | rfl | rfl | rfl | rfl | rfl | rfl | rfl <;> rfl
def fr0 : Fr := ⟨0, 0, 0, 0, ⟨#[]⟩, ⟨#[]⟩, 0, 0, ⟨#[]⟩, 0, 0, ⟨#[]⟩, []⟩
def zeroY : List Value := frL fr0 none 0
/-- behind the frame's own numbers -/
structure HeadAt (w : World) (n : Nat) (l z : List Value) (wx : World) : Prop where
  bel : Bel w wx
  box : BlkV wx n 43 l
  res : BlkV wx (n + 1) 43 z
/-- the work, the frame's box and the result's lie in memory -/
structure WorkAt (w : World) (B n : Nat) (t : TypeId) (lw lf lz : List Value) (wx : World) : Prop where
  below : Below w.heap.size w wx
  hB : B < w.heap.size
  hn : w.heap.size ≤ n
  wb : BlkV wx B t lw
  bx : BlkV wx n 43 lf
  rs : BlkV wx (n + 1) 43 lz
theorem WorkAt.on {w wx wy : World} {B n : Nat} {t : TypeId} {lw lf lz : List Value} (h : WorkAt w B n t lw lf lz wx) (hb : Below wx.heap.size wx wy) : WorkAt w B n t lw lf lz wy :=
  ⟨h.below.trans (hb.mono h.below.size), h.hB, h.hn, h.wb.on hb, h.bx.on hb, h.rs.on hb⟩
/-- the same, but for what has turned in the work -/
structure WorkIn (w : World) (B n : Nat) (t : TypeId) (lw lf lz : List Value) (wx : World) : Prop where
  below : Below B w wx
  hB : B < w.heap.size
  hn : w.heap.size ≤ n
  wb : BlkV wx B t lw
  bx : BlkV wx n 43 lf
  rs : BlkV wx (n + 1) 43 lz
  oth : ∀ k, k < w.heap.size → k ≠ B → wx.heap[k]? = w.heap[k]?
  big : w.heap.size ≤ wx.heap.size
theorem WorkIn.on {w wx wy : World} {B n : Nat} {t : TypeId} {lw lf lz : List Value} (h : WorkIn w B n t lw lf lz wx) (hb : Below wx.heap.size wx wy) : WorkIn w B n t lw lf lz wy :=
  ⟨h.below.trans (hb.mono (Nat.le_of_lt h.wb.lt)), h.hB, h.hn, h.wb.on hb, h.bx.on hb, h.rs.on hb, fun k hk hne => (hb.block k (Nat.lt_of_lt_of_le hk h.big)).trans (h.oth k hk hne), Nat.le_trans h.big hb.size⟩
theorem WorkAt.into {w wx : World} {B n : Nat} {t : TypeId} {lw lf lz : List Value} (h : WorkAt w B n t lw lf lz wx) : WorkIn w B n t lw lf lz wx :=
  ⟨h.below.mono (Nat.le_of_lt h.hB), h.hB, h.hn, h.wb, h.bx, h.rs, fun k hk _ => h.below.block k hk, h.below.size⟩
theorem WorkIn.setW {w wx : World} {B n : Nat} {t : TypeId} {lw lf lz : List Value} (h : WorkIn w B n t lw lf lz wx) (i : Nat) (v : Value) : WorkIn w B n t (lw.set i v) lf lz (wx.setCell ⟨B, i, none⟩ v) :=
  ⟨h.below.setCell (Nat.le_refl _) v, h.hB, h.hn, h.wb.set i v, h.bx.far ⟨B, i, none⟩ (by have := h.hB; have := h.hn; show n ≠ B; omega) v, h.rs.far ⟨B, i, none⟩ (by have := h.hB; have := h.hn; show n + 1 ≠ B; omega) v,
    fun k hk hne => (Below.heap_setCell _ _ _ _ hne).trans (h.oth k hk hne), by simpa [World.setCell] using h.big⟩
theorem WorkIn.setF {w wx : World} {B n : Nat} {t : TypeId} {lw lf lz : List Value} (h : WorkIn w B n t lw lf lz wx) (i : Nat) (v : Value) : WorkIn w B n t lw (lf.set i v) lz (wx.setCell ⟨n, i, none⟩ v) :=
  ⟨h.below.setCell (by have := h.hB; have := h.hn; show B ≤ n; omega) v, h.hB, h.hn, h.wb.far ⟨n, i, none⟩ (by have := h.hB; have := h.hn; show B ≠ n; omega) v, h.bx.set i v, h.rs.far ⟨n, i, none⟩ (by show n + 1 ≠ n; omega) v,
    fun k hk hne => (Below.heap_setCell _ _ _ _ (by have := h.hn; show k ≠ n; omega)).trans (h.oth k hk hne), by simpa [World.setCell] using h.big⟩
theorem sent_more (n : Nat) (h : n < 4294967296) : IntKind.u64.wrap ((n : Int) + 1) = ((n + 1 : Nat) : Int) := by
  rw [IntKind.wrap_u64]; omega
set_option maxHeartbeats 8000000 in
theorem seal_y (s : Se) (a1 : Option Addr) (c1 : Nat) (b1 : Option Addr) (d1 : Nat) (ho : s.own.size = 32) (hse : s.send.size = 0 ∨ s.send.size = 32) (hst : s.sent < 4294967296) (hpv : s.prev < 4294967296)
    (f : Fr) (a : Option Addr) (c : Nat) (hl : f.keys.length ≤ maxLen) (hok : FrOk f) (x : ByteArray) (w0 : World) (hV : Vr w0) (B : Nat) (hB : w0.heap.size ≤ B) (t : TypeId) (w : World) (hb0 : Below w0.heap.size w0 w) (hw : BlkV w B t (seL s a1 c1 b1 d1)) (hf : SSl w a f.keys) :
    Calls Tryz.prog 39 #[.pointer (some ⟨B, 0, none⟩), frV f a c, .string x] w (SealPost s f x B t a1 c1 b1 d1 w) := by
  obtain ⟨W0, eW0⟩ : ∃ W0, w.alloc (.cells (frL f a c).toArray 43) = W0 := ⟨_, rfl⟩
  obtain ⟨W, eW⟩ : ∃ W, W0.alloc (.cells zeroY.toArray 43) = W := ⟨_, rfl⟩
  have hbW0 : Below w.heap.size w W0 := by rw [← eW0]; exact (Below.refl _ _).alloc (Nat.le_refl _) _
  have hbW : Below w.heap.size w W := by rw [← eW]; exact hbW0.alloc hbW0.size _
  have z0 : W0.heap.size = w.heap.size + 1 := by rw [← eW0]; simp
  have hX : BlkV W.drew w.heap.size 43 (frL f a c) := by
    have : BlkV W w.heap.size 43 (frL f a c) := by rw [← eW, ← eW0]; exact (BlkV.fresh _ _ _ _ rfl _ rfl).alloc _
    exact this
  have hZ : BlkV W.drew (w.heap.size + 1) 43 zeroY := by
    have : BlkV W (w.heap.size + 1) 43 zeroY := by rw [← eW]; exact BlkV.fresh _ _ _ _ rfl _ z0.symm
    exact this
  have hc : w.cell? ⟨B, 0, none⟩ = some (.string s.own) ∧ w.cell? ⟨B, 7, none⟩ = some (.int .u64 (s.prev : Int)) ∧ w.cell? ⟨B, 5, none⟩ = some (.int .u64 (s.sent : Int)) := ⟨hw.cell 0 _ rfl, hw.cell 7 _ rfl, hw.cell 5 _ rfl⟩
  have hba := fun (V : World) (h : Bel w V) => base_good s.own ho V (hV.on (hb0.trans (h.b.mono hb0.size))).prime
  change ∀ (V : World), Bel w V → Calls _ _ _ V (fun e w' => e = .returned (.tuple #[.string (bptY s.own), .int .i64 0]) ∧ _) at hba
  have HBA := Lib.hid hba; have HX := Lib.hid hX; have HZ := Lib.hid hZ; have HC := Lib.hid hc; have HW := Lib.hid hw; have HBW := Lib.hid hbW; have HE := Lib.hid (And.intro eW0 eW)
  clear hba hX hZ hc hw hbW hbW0 eW0 eW z0 ho
  have ef : frV f a c = .agg (frL f a c).toArray := rfl
  rw [ef]
  clear ef
  go_enter Tryz.func39, Tryz.ntmps39
  go_upto_region 1 with fail
  generalize hG : World.alloc (World.alloc w _) _ = G
  obtain rfl : W = G := by rw [← hG, ← HE.out.2, ← HE.out.1]; rfl
  clear hG HE
  go_cut [] (HeadAt w w.heap.size (frL (sealH s f) a c) zeroY)
  case first =>
    have HB2 := Lib.hid (fun (w' : World) (h : (w'.cell? ⟨B, 0, none⟩ = some (.string s.own) ∧ w'.cell? ⟨B, 7, none⟩ = some (.int .u64 (s.prev : Int)) ∧ w'.cell? ⟨B, 5, none⟩ = some (.int .u64 (s.sent : Int))) ∧ Bel w w') => h.2)
    have hBW : Bel w W := ⟨HBW.out⟩
    have hBD : Bel w W.drew := hBW.drew
    have hS : (fun w' : World => (w'.cell? ⟨B, 0, none⟩ = some (.string s.own) ∧ w'.cell? ⟨B, 7, none⟩ = some (.int .u64 (s.prev : Int)) ∧ w'.cell? ⟨B, 5, none⟩ = some (.int .u64 (s.sent : Int))) ∧ Bel w w') W := bel_3y HC.out ⟨HBW.out⟩
    go_region_held3 (fun w' : World => (w'.cell? ⟨B, 0, none⟩ = some (.string s.own) ∧ w'.cell? ⟨B, 7, none⟩ = some (.int .u64 (s.prev : Int)) ∧ w'.cell? ⟨B, 5, none⟩ = some (.int .u64 (s.sent : Int))) ∧ Bel w w')
      ((refine bel_3y HC.out ?_; (repeat ((with_reducible refine Bel.far ?_ ?far _); (case far => first | exact Nat.le_refl _ | assumption | (simp; done) | (simp; omega) | omega))); first | with_reducible assumption | ((with_reducible refine Bel.drew ?_); with_reducible assumption) | exact HB2.out _ (by with_reducible assumption) | ((with_reducible refine Bel.drew ?_); exact HB2.out _ (by with_reducible assumption)) | ((with_reducible refine Bel.on ?_ hb); with_reducible assumption) | ((with_reducible refine Bel.on ?_ hb); exact HB2.out _ (by with_reducible assumption))))
      (first
        | (go_at_call 45; refine (HBA.out _ (HB2.out _ (by with_reducible assumption))).mono ?_; rintro e w' ⟨rfl, hb⟩; have zx := HX.out.on hb; have zz := HZ.out.on hb; have f8 := zx.cell 8 _ rfl; have f9 := zx.cell 9 _ rfl; have f10 := zx.cell 10 _ rfl; have f11 := zx.cell 11 _ rfl; have y8 := zx.frozen 8; have y9 := zx.frozen 9; have y10 := zx.frozen 10; have y11 := zx.frozen 11)
        | (go_at_call 50; refine (sure_ok _ _).mono ?_; rintro e w2 ⟨rfl, rfl⟩))
    all_goals
      have hh : BlkV ((((w'.setCell ⟨w.heap.size, 8, none⟩ (.string (bptY s.own))).setCell ⟨w.heap.size, 9, none⟩ (.int .u64 (s.prev : Int))).setCell ⟨w.heap.size, 10, none⟩ (.int .u64 (s.sent : Int))).setCell ⟨w.heap.size, 11, none⟩ (.string ⟨#[]⟩)) w.heap.size 43 (frL (sealH s f) a c) := (((zx.set 8 _).set 9 _).set 10 _).set 11 _
      have hz : BlkV ((((w'.setCell ⟨w.heap.size, 8, none⟩ (.string (bptY s.own))).setCell ⟨w.heap.size, 9, none⟩ (.int .u64 (s.prev : Int))).setCell ⟨w.heap.size, 10, none⟩ (.int .u64 (s.sent : Int))).setCell ⟨w.heap.size, 11, none⟩ (.string ⟨#[]⟩)) (w.heap.size + 1) 43 zeroY := (((zz.far _ (by simp) _).far _ (by simp) _).far _ (by simp) _).far _ (by simp) _
      go_wp2_with fail
      go_meet
      exact ⟨HB2.out _ (by with_reducible assumption), hh, hz⟩
  case rest =>
    obtain ⟨hbel, hbx, hrs⟩ := hcut
    have hkl : (sealH s f).keys.length ≤ maxLen := hl
    have hss : SSl wc a (sealH s f).keys := hf.on hbel.b
    have hV1 := hV.on (hb0.trans (hbel.b.mono hb0.size))
    have hhd := fHead_any (sealH s f) a c hkl (seal_ok f hok s hst hpv) wc hss hV1.fmt
    have ef : frV (sealH s f) a c = .agg (frL (sealH s f) a c).toArray := rfl
    rw [ef] at hhd
    have hlen : (frL (sealH s f) a c).length = 13 := rfl
    have hwa : WorkAt w B w.heap.size t (seL s a1 c1 b1 d1) (frL (sealH s f) a c) zeroY wc := ⟨hbel.b, HW.out.lt, Nat.le_refl _, HW.out.on hbel.b, hbx, hrs⟩
    have HH := Lib.hid hhd; have HWA := Lib.hid hwa; have HL := Lib.hid hlen
    clear hhd hbx hrs hlen hbel ef hss hV1 hwa HW HBA HX HZ HBW hkl
    go_upto_region 2 with fail
    refine wp_region_lit ?_
    refine load_v rfl _ _ rfl w.heap.size rfl HWA.out.bx Tryz.underlying43 rfl (by rw [HL.out]; kernel_rfl) ?_
    cases hr : rightF (sealH s f)
    case false =>
      have e1 : headS (sealH s f) = ⟨#[]⟩ := (head_err hr).1
      have e2 : putE (sealH s f) = 1 := (head_err hr).2
      have e3 : sealE2 s f x = 1 := by unfold sealE2; rw [if_pos (by rw [← right_seal s f]; exact hr)]
      have hh := HH.out
      rw [e1, e2] at hh
      have HH1 := Lib.hid hh; have HE := Lib.hid e3
      clear hh e1 e2 e3 HH HC hr
      go_wp2_with fail
      refine HH1.out.mono ?_
      rintro e w1 ⟨rfl, hb⟩
      have HB1 := Lib.hid (HWA.out.on hb).into.below
      clear hb HH1 HWA HL
      go_wp2_with fail
      refine (sure_bad ⟨#[]⟩ 1 (by decide) w1).mono ?_
      rintro e w2 ⟨rfl, rfl⟩
      go_wp2_with fail
      exact ⟨rfl, Or.inr ⟨by rw [HE.out]; decide, by rw [HE.out], HB1.out⟩⟩
    case true =>
      have hpr : rightF (probeF f) = true := by rw [← right_seal s f]; exact hr
      have hkn : f.keys = [] := probe_keys hpr
      have hln := head_len f hpr hok s hst hpv
      have e1 : headS (sealH s f) = strL (headF (sealH s f)) := by unfold headS; rw [hr]; rfl
      have e2 : putE (sealH s f) = 0 := by unfold putE; rw [hr]; rfl
      have hh := HH.out
      rw [e1, e2] at hh
      have e3 : sealE2 s f x = if 992 < x.size then 2 else if s.send.size = 0 then 9 else 0 := by unfold sealE2; rw [if_neg (by rw [hpr]; decide)]
      obtain ⟨H, eH⟩ : ∃ H, strL (headF (sealH s f)) = H := ⟨_, rfl⟩
      have hsb : sealB s f x = strL (lockL (bl (spB s.send stWord)) (bl H) (bl x)) := by unfold sealB; rw [eH]
      rw [eH] at hh hln
      have HH1 := Lib.hid hh; have HE := Lib.hid e3; have HKN := Lib.hid hkn; have HLN := Lib.hid hln; have HSB := Lib.hid hsb
      clear hh e1 e2 e3 HH HC hr hkn hln hsb eH hpr
      go_wp2_with fail
      refine HH1.out.mono ?_
      rintro e w1 ⟨rfl, hb⟩
      have HW1 := Lib.hid (HWA.out.on hb)
      clear hb HH1 HWA
      go_wp2_with fail
      refine (sure_ok H w1).mono ?_
      rintro e w2 ⟨rfl, rfl⟩
      by_cases hx : 992 < x.size
      case pos =>
        have h1 : (992 : Int) < (x.size : Int) := by omega
        have HE1 := Lib.hid (HE.out.trans (if_pos hx))
        clear hx HE
        go_wp2_with fail
        refine (refuse_yes 2 w1).mono ?_
        rintro e w2 ⟨rfl, rfl⟩
        go_wp2_with fail
        exact ⟨rfl, Or.inr ⟨by rw [HE1.out]; decide, by rw [HE1.out], HW1.out.into.below⟩⟩
      case neg =>
        have h1 : decide ((992 : Int) < (x.size : Int)) = false := decide_eq_false (by omega)
        have HX1 := Lib.hid hx
        have HE1 := Lib.hid (HE.out.trans (if_neg hx))
        clear hx HE
        go_wp2_with fail
        refine (refuse_not 2 w1).mono ?_
        rintro e w2 ⟨rfl, rfl⟩
        clear h1
        have d3 := HW1.out.wb.cell 3 _ rfl
        have s3 := str_nilY s.send
        by_cases hz : s.send.size = 0
        case pos =>
          rw [decide_eq_true hz] at s3
          have HE2 := Lib.hid (HE1.out.trans (if_pos hz))
          clear hz HE1
          go_wp2_with fail
          refine (refuse_yes 9 w1).mono ?_
          rintro e w2 ⟨rfl, rfl⟩
          clear d3 s3
          go_wp2_with fail
          exact ⟨rfl, Or.inr ⟨by rw [HE2.out]; decide, by rw [HE2.out], HW1.out.into.below⟩⟩
        case neg =>
          rw [decide_eq_false hz] at s3
          have HE2 := Lib.hid (HE1.out.trans (if_neg hz))
          have hs32 : s.send.size = 32 := by omega
          have hbw1 := hb0.trans (HW1.out.below.mono hb0.size)
          have HST := Lib.hid (step_y s.send hs32 w0 hV B 3 t (seL s a1 c1 b1 d1) rfl w1 hbw1 HW1.out.wb)
          clear hz HE1 hbw1
          go_wp2_with fail
          refine (refuse_not 9 w1).mono ?_
          rintro e w2 ⟨rfl, rfl⟩
          clear d3 s3
          go_wp2_with fail
          refine HST.out.mono ?_
          rintro e w2 ⟨rfl, w3, hb, rfl⟩
          have hw3 := (HW1.out.into.on hb).setW 3 (.string (spA s.send stWord))
          have hbw3 : Below w0.heap.size w0 (w3.setCell ⟨B, 3, none⟩ (.string (spA s.send stWord))) := hb0.trans (hw3.below.mono hB)
          have HW3 := Lib.hid hw3
          generalize World.setCell w3 _ _ = w4 at HW3 hbw3 ⊢
          have hLk := Lock_good (spB s.send stWord) H x (spB_sizeY _ _) HLN.out (by have := HX1.out; omega) w4 (hV.on hbw3).first (hV.on hbw3).keys
          rw [← HSB.out] at hLk
          have HLK := Lib.hid hLk
          clear hLk hbw3 hw3 hb HST HW1 HSB
          go_wp2_with fail
          refine HLK.out.mono ?_
          rintro e w5 ⟨rfl, hb⟩
          have hw5 := HW3.out.on hb
          have f11 := hw5.bx.cell 11 _ rfl
          have y11 := hw5.bx.frozen 11
          have HW5 := Lib.hid hw5
          have HSO := Lib.hid (sure_ok (sealB s f x) w5)
          clear hb hw5 HW3 HLK
          go_wp2_with fail
          refine HSO.out.mono ?_
          rintro e w6 ⟨rfl, rfl⟩
          clear HSO
          go_upto_region 6 with fail
          have hw6 := HW5.out.setF 11 (.string (sealB s f x))
          generalize World.setCell w5 _ _ = w6 at hw6 ⊢
          have f12 := hw6.bx.cell 12 _ rfl
          have y12 := hw6.bx.frozen 12
          have HW6 := Lib.hid hw6
          clear f11 y11 hw6 HW5
          go_upto_region 7 with fail
          have hw7 := HW6.out.setF 12 (.slice none 0 0)
          have hfl : ((frL (sealH s f) a c).set 11 (.string (sealB s f x))).set 12 (.slice none 0 0) = frL (sealF s f x) none 0 := by
            have : (sealF s f x).keys.length = 0 := by show f.keys.length = 0; rw [HKN.out]; rfl
            unfold frL
            rw [this]; rfl
          rw [hfl] at hw7
          generalize World.setCell w6 _ _ = w7 at hw7 ⊢
          have d5 := hw7.wb.cell 5 _ rfl
          have y5 := hw7.wb.frozen 5
          have hwr := sent_more s.sent hst
          have HW7 := Lib.hid hw7
          clear f12 y12 hw7 HW6 hfl
          go_upto_region 8 with fail
          have hw8 := HW7.out.setW 5 (.int .u64 ((s.sent + 1 : Nat) : Int))
          have hsl : ((seL s a1 c1 b1 d1).set 3 (.string (spA s.send stWord))).set 5 (.int .u64 ((s.sent + 1 : Nat) : Int)) = seL (sealS s) a1 c1 b1 d1 := rfl
          rw [hsl] at hw8
          generalize hG : World.setCell w7 _ _ = w8
          have hw9 : WorkIn w B w.heap.size t (seL (sealS s) a1 c1 b1 d1) (frL (sealF s f x) none 0) zeroY w8 := by rw [← hG]; exact hw8
          have hrr : (frL (sealF s f x) none 0).length = zeroY.length := rfl
          have HW9 := Lib.hid hw9
          clear hw8 hw9 hsl hG d5 y5 hwr HW7
          refine wp_region_lit ?_
          refine load_v rfl _ _ rfl w.heap.size rfl HW9.out.bx Tryz.underlying43 rfl (by kernel_rfl) ?_
          refine store_v rfl rfl _ _ _ rfl (w.heap.size + 1) rfl (l' := frL (sealF s f x) none 0) rfl HW9.out.rs rfl (frL_oneY _ _ _) (by kernel_rfl) ?_
          have hF := HW9.out.rs.stored (frL (sealF s f x) none 0) rfl
          have hBF := below_setCells (show B ≤ w.heap.size + 1 by have := HW9.out.hB; omega) (frL (sealF s f x) none 0) 0 _ HW9.out.below
          have hWF := HW9.out.wb.farS (show B ≠ w.heap.size + 1 by have := HW9.out.hB; omega) (frL (sealF s f x) none 0)
          have hoth : ∀ k, k < w.heap.size → k ≠ B → (w8.setCells (w.heap.size + 1) 0 (frL (sealF s f x) none 0)).heap[k]? = w.heap[k]? := fun k hk hne => by rw [heap_setCells_other (w.heap.size + 1) k (by omega)]; exact HW9.out.oth k hk hne
          generalize World.setCells w8 _ _ _ = W9 at hF hBF hWF hoth ⊢
          refine wpList_nil ?_
          rename_i K hK
          refine hK _ _ ?_
          refine wp_ret ?_
          exact bodyPost_ret (results_v (p := 6) (T := 43) (by kernel_rfl) _ _ (w.heap.size + 1) rfl hF Tryz.underlying43 rfl (by kernel_rfl)) rfl (Or.inl ⟨by rw [HE2.out], rfl, hBF, hWF, hoth⟩)
end Go.Proofs.YthjlhcmdpeinpaaGreatDoor

/- The package session's Seal. -/
namespace Go.Proofs.YthjlhcmdpeinpaaGreatDoor
open Go.RowKit Go.Sort
set_option maxRecDepth 100000
set_option maxHeartbeats 4000000 in
theorem sealFn_y (s : Se) (a1 : Option Addr) (c1 : Nat) (b1 : Option Addr) (d1 : Nat) (ho : s.own.size = 32) (hse : s.send.size = 0 ∨ s.send.size = 32) (hst : s.sent < 4294967296) (hpv : s.prev < 4294967296)
    (f : Fr) (a : Option Addr) (c : Nat) (hl : f.keys.length ≤ maxLen) (hok : FrOk f) (x : ByteArray) (w0 : World) (hV : Vr w0) (B : Nat) (hB : w0.heap.size ≤ B) (t : TypeId) (w : World) (hb0 : Below w0.heap.size w0 w) (hw : BlkV w B t (seL s a1 c1 b1 d1)) (hf : SSl w a f.keys)
    (Fb Xb : Nat) (hF : BlkV w Fb 43 (frL f a c)) (hX : w.cell? ⟨Xb, 0, none⟩ = some (.string x)) :
    Calls Tryz.prog 38 #[.pointer (some ⟨B, 0, none⟩), .pointer (some ⟨Fb, 0, none⟩), .pointer (some ⟨Xb, 0, none⟩)] w (SealPost s f x B t a1 c1 b1 d1 w) := by
  obtain ⟨W, eW⟩ : ∃ W, w.alloc (.cells zeroY.toArray 43) = W := ⟨_, rfl⟩
  have hbW : Below w.heap.size w W := by rw [← eW]; exact (Below.refl _ _).alloc (Nat.le_refl _) _
  have hZ : BlkV W w.heap.size 43 zeroY := by rw [← eW]; exact BlkV.fresh _ _ _ _ rfl _ rfl
  have hF1 := hF.on hbW
  have x0 : W.cell? ⟨Xb, 0, none⟩ = some (.string x) := by rw [hbW.cell (World.block_lt_of_cell? w _ hX)]; exact hX
  have hs := seal_y s a1 c1 b1 d1 ho hse hst hpv f a c hl hok x w0 hV B hB t W (hb0.trans (hbW.mono hb0.size)) (hw.on hbW) (hf.on hbW)
  have ef : frV f a c = .agg (frL f a c).toArray := rfl
  rw [ef] at hs
  have hlt := hw.lt
  have HS := Lib.hid hs; have HZ := Lib.hid hZ; have HF := Lib.hid hF1; have HBW := Lib.hid hbW; have HB := Lib.hid (hbW.mono (Nat.le_of_lt hw.lt)); have HLT := Lib.hid hlt; have HE := Lib.hid eW
  clear hs hZ hF1 hbW eW ef hF hX hw hf hb0 hV hlt
  go_enter Tryz.func38, Tryz.ntmps38
  go_upto_region 1 with fail
  generalize hG : World.alloc w _ = G
  obtain rfl : W = G := by rw [← hG, ← HE.out]; rfl
  clear hG HE
  refine wp_region_lit ?_
  iterate 1 (refine wpList_step (fun K hK => ?_); go_simp; refine hK _ _ ?_; clear hK K)
  refine load_v rfl _ _ rfl Fb rfl HF.out Tryz.underlying43 rfl (by kernel_rfl) ?_
  have ezl : (zeroY.length, (frL (sealF s f x) none 0).length) = (13, 13) := rfl
  go_wp2_with fail
  refine HS.out.mono ?_
  rintro e w2 (⟨h0, rfl, hb, hw2, hoth⟩ | ⟨h0, rfl, hb⟩)
  · have hB2 := HB.out.trans hb
    have hz2 : BlkV w2 w.heap.size 43 zeroY := by
      unfold BlkV
      rw [hoth w.heap.size HZ.out.lt (by have := HLT.out; omega)]
      exact HZ.out
    have hoth2 : ∀ k, k < w.heap.size → k ≠ B → (w2.setCells w.heap.size 0 (frL (sealF s f x) none 0)).heap[k]? = w.heap[k]? := fun k hk hne => by
      rw [heap_setCells_other w.heap.size k (by omega), hoth k (Nat.lt_of_lt_of_le hk HBW.out.size) hne]
      exact HBW.out.block k hk
    rename_i K hK
    refine hK _ _ ?_
    clear hK K
    refine store_v rfl rfl _ _ _ rfl w.heap.size rfl (l' := frL (sealF s f x) none 0) rfl hz2 rfl (frL_oneY _ _ _) (by kernel_rfl) ?_
    have hF2 := hz2.stored (frL (sealF s f x) none 0) rfl
    have hBF := below_setCells (Nat.le_of_lt HLT.out) (frL (sealF s f x) none 0) 0 _ hB2
    have hWF := hw2.farS (show B ≠ w.heap.size by have := HLT.out; omega) (frL (sealF s f x) none 0)
    generalize World.setCells w2 _ _ _ = W9 at hF2 hBF hWF hoth2 ⊢
    refine wpList_nil ?_
    rename_i K hK
    refine hK _ _ ?_
    refine wp_ret ?_
    exact bodyPost_ret (results_v (p := 4) (T := 43) (by kernel_rfl) _ _ w.heap.size rfl hF2 Tryz.underlying43 rfl (by kernel_rfl)) rfl (Or.inl ⟨h0, rfl, hBF, hWF, hoth2⟩)
  · have HR := Lib.hid (And.intro h0 (HB.out.trans hb))
    clear h0 hb HS HF x0
    go_wp2_with fail
    exact ⟨rfl, Or.inr ⟨HR.out.1, rfl, HR.out.2⟩⟩
/-- what is told lies in three cells -/
theorem results_ccc {P : Program} {fn : Func} {p q r : Tmp} {T U V : TypeId} (h : fn.results = #[.cell p T, .cell q U, .cell r V]) (tmps : Array Value) (w : World) (ap aq ar : Addr) {v1 v2 v3 : Value}
    (hp : tmps.getD p undef = .pointer (some ap)) (hq : tmps.getD q undef = .pointer (some aq)) (hr : tmps.getD r undef = .pointer (some ar))
    (e1 : (loadVar T ap).run P w = .ok v1 w) (e2 : (loadVar U aq).run P w = .ok v2 w) (e3 : (loadVar V ar).run P w = .ok v3 w) : (results fn tmps).run P w = .ok (.tuple #[v1, v2, v3]) w := by
  rw [Array.getD_eq_getD_getElem?] at hp hq hr
  simp only [results, h]
  simp [Sem.run_bind, Result.andThen, asAddr, hp, hq, hr, e1, e2, e3]
theorem loadVar_one {P : Program} {T : TypeId} {a : Addr} {v : Value} {w : World} (hT : (isAgg T).run P w = .ok false w) (hc : w.cell? a = some v) : (loadVar T a).run P w = .ok v w := by
  simp [loadVar, go_sem, hT, hc, Result.andThen]
theorem agg_errno (w : World) : (isAgg 29).run Tryz.prog w = .ok false w := by kernel_rfl
theorem eqlS_nil (n c : Nat) (W : World) : (binOp .eql 24 (.slice none n c) (.slice none 0 0)).run Tryz.prog W = .ok (.bool true) W := by rfl
theorem eqlS_some (ad : Addr) (n c : Nat) (W : World) : (binOp .eql 24 (.slice (some ad) n c) (.slice none 0 0)).run Tryz.prog W = .ok (.bool false) W := by rfl
set_option maxHeartbeats 1000000 in
theorem CloneS_any (a : Option Addr) (c : Nat) (l : List ByteArray) (hl : l.length ≤ 1000) (w : World) (hp : SSl w a l) :
    Calls Tryz.prog 67 #[.slice a l.length c] w fun e w' => ∃ v, e = .returned v ∧ OwnS w' w.heap.size v l ∧ Below w.heap.size w w' := by
  cases a with
  | none =>
    have h0 : l = [] := by
      rcases l with _ | ⟨x, l⟩
      · rfl
      · obtain ⟨b, off, e, -⟩ := hp (by simp)
        cases e
    subst h0
    have q := fun W => eqlS_nil 0 c W
    clear hp hl
    go_enter Tryz.func67, Tryz.ntmps67
    go_wp2_with fail
    go_ret
    exact ⟨_, rfl, ⟨rfl, .inl ⟨rfl, rfl⟩⟩, Below.refl _ _⟩
  | some ad =>
    have hO := OwnS.empty w w.heap.size (Nat.le_refl _)
    have hB : Below w.heap.size w (w.alloc (.cells #[] 9)) := by go_grown
    have hks := hp.on hB
    have HO := Lib.hid hO; have HB := Lib.hid hB; have HK := Lib.hid hks; have HL := Lib.hid hl
    have q := fun W => eqlS_some ad l.length c W
    clear hO hB hks hp hl
    go_enter Tryz.func67, Tryz.ntmps67
    go_wp2_with (at_builtin; refine append_ss rfl _ _ rfl w.heap.size _ [] l (some ad) c rfl HO.out rfl (fun h => by cases h) HK.out (by have := HL.out; simp; omega) HB.out.size ?_)
    intro v' w' hO' hg'
    have HF := Lib.hid (And.intro hO' (HB.out.grown hg' HB.out.size fun k hk => (World.ownsRow.lt HO.out k hk).1))
    clear hO' hg' HO HB HK
    go_wp2_with fail
    go_ret
    exact ⟨_, rfl, HF.out.1, HF.out.2⟩
section
variable {P : Program} {ops : Array Oper} {Q : Exit → Act → World → Prop}
theorem wpOp_onY {i : Nat} {o : Oper} {K : Act → World → Prop} {a : Act} {w : World} (hi : ops[i]? = some o) (hw : Region.wanted o (yielded ops a.tmps) = true) (h : o.wp P a w K Q) : wpOp P ops Q i K a w := by
  unfold wpOp
  simp only [hi, hw, if_true]
  exact .inl h
theorem val_any {i : Nat} {o : Oper} {K : Act → World → Prop} {a : Act} {w w' : World} {v : Value} (hi : ops[i]? = some o) (hw : Region.wanted o (yielded ops a.tmps) = true) (he : (execOp a.eval o).run P w = .ok (.value v) w') (h : K (a.put o.dst v) w') : wpOp P ops Q i K a w := by
  refine wpOp_onY hi hw ?_
  unfold Oper.wp
  rw [he]
  exact h
theorem skip_any {i : Nat} {o : Oper} {K : Act → World → Prop} {a : Act} {w w' : World} (hi : ops[i]? = some o) (hw : Region.wanted o (yielded ops a.tmps) = true) (he : (execOp a.eval o).run P w = .ok .skip w') (h : K (a.put o.dst undef) w') : wpOp P ops Q i K a w := by
  refine wpOp_onY hi hw ?_
  unfold Oper.wp
  rw [he]
  exact h
theorem load_anyY {i : Nat} {o : Oper} {K : Act → World → Prop} {a : Act} {w : World} (hi : ops[i]? = some o) (hw : Region.wanted o (yielded ops a.tmps) = true) (T : TypeId) (x : Operand) (ho : o.op = .load T x)
    (B : Nat) (hx : a.eval x = .pointer (some ⟨B, 0, none⟩)) {t : TypeId} {l : List Value} (hb : BlkV w B t l) {d : TypeDesc} (hu : P.underlying T = some d) (hd : d.isRow = true) (hs : (P.info? T).map (·.size) = some l.length)
    (h : K (a.put o.dst (.agg l.toArray)) w) : wpOp P ops Q i K a w :=
  wpOp_onY hi hw (wp_load_mid T x ho B 0 hx l d hb.range hu hd hs h)
theorem store_anyY {i : Nat} {o : Oper} {K : Act → World → Prop} {a : Act} {w : World} (hi : ops[i]? = some o) (hw : Region.wanted o (yielded ops a.tmps) = true) (hdst : o.dst = none) (T : TypeId) (x y : Operand) (ho : o.op = .store T x y)
    (B : Nat) (hx : a.eval x = .pointer (some ⟨B, 0, none⟩)) {l' : List Value} (hy : a.eval y = .agg l'.toArray) {t : TypeId} {l : List Value} (hb : BlkV w B t l) (hl : l'.length = l.length) (h1 : ∀ v ∈ l', v.oneCell' = true)
    (hs : (P.info? T).map (·.size) = some l.length) (h : K a (w.setCells B 0 l')) : wpOp P ops Q i K a w := by
  refine wpOp_onY hi hw (wp_store_mid T x y ho B 0 l'.toArray hx hy ?_ ?_ ?_ ?_)
  · rw [List.size_toArray, hl]; exact hb.there _ (Nat.le_refl _)
  · rw [List.size_toArray, hl]; exact hs
  · exact all_oneCell_toArray h1
  · rw [hdst]; simpa [Act.put] using h
theorem callx_any {i : Nat} {o : Oper} {K : Act → World → Prop} {a : Act} {w : World} {f : FuncId} {args : Array Value} (hi : ops[i]? = some o) (hw : Region.wanted o (yielded ops a.tmps) = true) (he : (execOp a.eval o).run P w = .ok (.enter f args) w)
    {R : Value → World → Prop} (hc : Calls P f args w (fun e w' => ∃ v, e = .returned v ∧ R v w')) (h : ∀ v w', R v w' → K (a.put o.dst v) w') : wpOp P ops Q i K a w := by
  refine wpOp_onY hi hw ?_
  unfold Oper.wp
  rw [he]
  refine hc.mono fun e w' ⟨v, h1, h2⟩ => ?_
  subst h1
  exact h v w' h2
end
/-- the argument's box and three results' lie in memory -/
structure At4 (w : World) (l0 l1 l2 : List Value) (z : Int) (wx : World) : Prop where
  below : Below w.heap.size w wx
  b0 : BlkV wx w.heap.size 26 l0
  b1 : BlkV wx (w.heap.size + 1) 26 l1
  b2 : BlkV wx (w.heap.size + 2) 43 l2
  b3 : BlkV wx (w.heap.size + 3) 29 [.int .i64 z]
theorem At4.on {w wx wy : World} {l0 l1 l2 : List Value} {z : Int} (h : At4 w l0 l1 l2 z wx) (hb : Below wx.heap.size wx wy) : At4 w l0 l1 l2 z wy :=
  ⟨h.below.trans (hb.mono h.below.size), h.b0.on hb, h.b1.on hb, h.b2.on hb, h.b3.on hb⟩
theorem At4.low {w wx wy : World} {l0 l1 l2 : List Value} {z : Int} {n : Nat} (h : At4 w l0 l1 l2 z wx) (hb : Below n wx wy) (hn : w.heap.size + 3 < n) : At4 w l0 l1 l2 z wy :=
  ⟨h.below.trans (hb.mono (by omega)), h.b0.low hb (by omega), h.b1.low hb (by omega), h.b2.low hb (by omega), h.b3.low hb (by omega)⟩
theorem ownK_lo {w : World} {base n : Nat} {a : Option Addr} {k c : Nat} {l : List Kk} (h : OwnK w base (.slice a k c) l) (hn : n < base) : ∀ b off sp, a = some ⟨b, off, sp⟩ → n < b := by
  rintro b off sp rfl
  rcases h.2 with ⟨e, -⟩ | ⟨g', cap', cur, e, hg, -, -⟩
  · cases e
  · cases e; omega
theorem ownS_lo {w : World} {base n : Nat} {a : Option Addr} {k c : Nat} {l : List ByteArray} (h : OwnS w base (.slice a k c) l) (hn : n < base) : ∀ b off sp, a = some ⟨b, off, sp⟩ → n < b := by
  rintro b off sp rfl
  rcases h.2 with ⟨e, -⟩ | ⟨g', cap', cur, e, hg, -, -⟩
  · cases e
  · cases e; omega
theorem KSl.via {w w' : World} {a : Option Addr} {l : List Kk} (h : KSl w a l) (hs : w.heap.size ≤ w'.heap.size) (hh : ∀ b off sp, a = some ⟨b, off, sp⟩ → w'.heap[b]? = w.heap[b]?) : KSl w' a l := by
  intro h0
  obtain ⟨b, off, ha, hlt, hc⟩ := h h0
  have e : ∀ i, w'.cell? ⟨b, i, none⟩ = w.cell? ⟨b, i, none⟩ := fun i => World.cell?_of_block (w := w) (hh _ _ _ ha)
  exact ⟨b, off, ha, Nat.lt_of_lt_of_le hlt hs, fun i hi => ⟨by rw [e]; exact (hc i hi).c0, by rw [e]; exact (hc i hi).c1, by rw [e]; exact (hc i hi).c2⟩⟩
theorem SSl.via {w w' : World} {a : Option Addr} {l : List ByteArray} (h : SSl w a l) (hs : w.heap.size ≤ w'.heap.size) (hh : ∀ b off sp, a = some ⟨b, off, sp⟩ → w'.heap[b]? = w.heap[b]?) : SSl w' a l := by
  intro h0
  obtain ⟨b, off, ha, hlt, hc⟩ := h h0
  have e : ∀ i, w'.cell? ⟨b, i, none⟩ = w.cell? ⟨b, i, none⟩ := fun i => World.cell?_of_block (w := w) (hh _ _ _ ha)
  exact ⟨b, off, ha, Nat.lt_of_lt_of_le hlt hs, fun i hi => by rw [e]; exact hc i hi⟩
/-- lists that lie neither in the argument's box nor in the results' -/
structure FarAt (w : World) (s : Se) (a b : Option Addr) (wx : World) : Prop where
  at_ : SeAt wx s a b
  ka : ∀ g off sp, a = some ⟨g, off, sp⟩ → w.heap.size + 3 < g
  ua : ∀ g off sp, b = some ⟨g, off, sp⟩ → w.heap.size + 3 < g
theorem FarAt.on {w wx wy : World} {s : Se} {a b : Option Addr} (h : FarAt w s a b wx) (hb : Below wx.heap.size wx wy) : FarAt w s a b wy := ⟨h.at_.on hb, h.ka, h.ua⟩
theorem FarAt.put {w wx : World} {s : Se} {a b : Option Addr} (h : FarAt w s a b wx) (B : Nat) (hB : B ≤ w.heap.size + 3) (vs : List Value) : FarAt w s a b (wx.setCells B 0 vs) :=
  ⟨⟨h.at_.kept.via (below_setCells (Nat.zero_le B) vs 0 wx (Below.refl 0 wx)).size fun g off sp e => heap_setCells_other B g (by have := h.ka g off sp e; omega) _ _ _,
    h.at_.used.via (below_setCells (Nat.zero_le B) vs 0 wx (Below.refl 0 wx)).size fun g off sp e => heap_setCells_other B g (by have := h.ua g off sp e; omega) _ _ _⟩, h.ka, h.ua⟩
theorem FarAt.put1 {w wx : World} {s : Se} {a b : Option Addr} (h : FarAt w s a b wx) (p : Addr) (hB : p.block ≤ w.heap.size + 3) (v : Value) : FarAt w s a b (wx.setCell p v) :=
  ⟨⟨h.at_.kept.via (by simp [World.setCell]) fun g off sp e => Below.heap_setCell _ _ _ _ (by have := h.ka g off sp e; omega),
    h.at_.used.via (by simp [World.setCell]) fun g off sp e => Below.heap_setCell _ _ _ _ (by have := h.ua g off sp e; omega)⟩, h.ka, h.ua⟩
/-- the argument has lists of the call's own -/
def ClonedAt (w : World) (s : Se) (wx : World) : Prop :=
  ∃ a c b d, At4 w (seL s a c b d) (seL se0 none 0 none 0) zeroY 0 wx ∧ FarAt w s a b wx ∧ s.kept.length ≤ c ∧ s.used.length ≤ d
/-- both stored -/
theorem cloned_at {w wx : World} {s : Se} {a : Option Addr} {c : Nat} {b : Option Addr} {d : Nat} (h : At4 w (seL s a c b d) (seL se0 none 0 none 0) zeroY 0 wx) (a' : Option Addr) (c' : Nat) (b' : Option Addr) (d' : Nat) (hk : KSl wx a' s.kept) (hu : SSl wx b' s.used) (hkc : s.kept.length ≤ c') (hud : s.used.length ≤ d')
    (hka : ∀ b off sp, a' = some ⟨b, off, sp⟩ → w.heap.size + 3 < b) (hua : ∀ b off sp, b' = some ⟨b, off, sp⟩ → w.heap.size + 3 < b) :
    ClonedAt w s ((wx.setCell ⟨w.heap.size, 8, none⟩ (.slice a' s.kept.length c')).setCell ⟨w.heap.size, 9, none⟩ (.slice b' s.used.length d')) := by
  have hb := (h.below.setCell (p := ⟨w.heap.size, 8, none⟩) (Nat.le_refl _) (.slice a' s.kept.length c')).setCell (p := ⟨w.heap.size, 9, none⟩) (Nat.le_refl _) (.slice b' s.used.length d')
  have f : ∀ {B : Nat} {t : TypeId} {l : List Value}, w.heap.size ≠ B → BlkV wx B t l → BlkV ((wx.setCell ⟨w.heap.size, 8, none⟩ (.slice a' s.kept.length c')).setCell ⟨w.heap.size, 9, none⟩ (.slice b' s.used.length d')) B t l := fun hne hB =>
    (hB.far ⟨w.heap.size, 8, none⟩ (fun e => hne e.symm) _).far ⟨w.heap.size, 9, none⟩ (fun e => hne e.symm) _
  have hf : FarAt w s a' b' wx := ⟨⟨hk, hu⟩, hka, hua⟩
  exact ⟨a', c', b', d', ⟨hb, (h.b0.set 8 _).set 9 _, f (by omega) h.b1, f (by omega) h.b2, f (by omega) h.b3⟩, (hf.put1 ⟨w.heap.size, 8, none⟩ (by show w.heap.size ≤ w.heap.size + 3; omega) _).put1 ⟨w.heap.size, 9, none⟩ (by show w.heap.size ≤ w.heap.size + 3; omega) _, hkc, hud⟩
/-- the end of a call that was refused -/
def AtPost (s : Se) (f : Fr) (x : ByteArray) (w : World) (e : Ending) (w' : World) : Prop :=
  (sealE s f x = 0 ∧ ∃ a' c' b' d', e = .returned (.tuple #[seV (sealS s) a' c' b' d', frV (sealF s f x) none 0, .int .i64 0]) ∧ SeAt w' (sealS s) a' b' ∧ s.kept.length ≤ c' ∧ s.used.length ≤ d' ∧ Below w.heap.size w w' ∧ (∀ g off sp, a' = some ⟨g, off, sp⟩ → w.heap.size ≤ g) ∧ ∀ g off sp, b' = some ⟨g, off, sp⟩ → w.heap.size ≤ g) ∨
  (sealE s f x ≠ 0 ∧ e = .returned (.tuple #[seV se0 none 0 none 0, frV fr0 none 0, .int .i64 (sealE s f x)]) ∧ Below w.heap.size w w')
theorem door_bad (s : Se) (f : Fr) (x : ByteArray) (k : Int) (h0 : sealE s f x ≠ 0) (hk : sealE s f x = k) (w : World) (l0 : List Value) (w1 : World) (h4 : At4 w l0 (seL se0 none 0 none 0) zeroY 0 w1) (tmps : Array Value)
    (hp : tmps.getD 4 undef = .pointer (some ⟨w.heap.size + 1, 0, none⟩)) (hq : tmps.getD 5 undef = .pointer (some ⟨w.heap.size + 2, 0, none⟩)) (hr : tmps.getD 6 undef = .pointer (some ⟨w.heap.size + 3, 0, none⟩)) :
    bodyPostD Tryz.prog Tryz.f37 (AtPost s f x w) (Exit.panic [{ v := .iface 29 (.int .i64 k), recovered := false }])
      { tmps := tmps, defers := [{ target := Target.fn (Fn.func 64) #[.pointer (some ⟨w.heap.size + 3, 0, none⟩)], args := #[] }] } w1 := by
  refine leaves_cons (f := 64) (args := #[.pointer (some ⟨w.heap.size + 3, 0, none⟩)]) (by simp) (by simp [go_sem]) ?_
  refine (catch_thrown ⟨w.heap.size + 3, 0, none⟩ k (.int .i64 0) [] w1 (h4.b3.cell 0 _ rfl) (h4.b3.frozen 0)).mono ?_
  rintro e u' w'' ⟨rfl, rfl, rfl⟩
  have g1 := h4.b1.far ⟨w.heap.size + 3, 0, none⟩ (by show w.heap.size + 1 ≠ w.heap.size + 3; omega) (.int .i64 k)
  have g2 := h4.b2.far ⟨w.heap.size + 3, 0, none⟩ (by show w.heap.size + 2 ≠ w.heap.size + 3; omega) (.int .i64 k)
  have g3 := h4.b3.set 0 (.int .i64 k)
  have gb := h4.below.setCell (p := ⟨w.heap.size + 3, 0, none⟩) (by show w.heap.size ≤ w.heap.size + 3; omega) (.int .i64 k)
  generalize World.setCell w1 _ _ = w2 at g1 g2 g3 gb ⊢
  have q3 := g3.cell 0 _ rfl
  refine ⟨_, results_ccc (p := 4) (q := 5) (r := 6) (T := 26) (U := 43) (V := 29) (by kernel_rfl) _ _ _ _ _ hp hq hr (run_loadVar_mid w2 (w.heap.size + 1) 0 _ _ _ g1.range Tryz.underlying26 rfl (by kernel_rfl)) (run_loadVar_mid w2 (w.heap.size + 2) 0 _ _ _ g2.range Tryz.underlying43 rfl (by kernel_rfl)) (v3 := .int .i64 k) ?_, ?_⟩
  · exact loadVar_one (agg_errno _) q3
  · exact Or.inr ⟨h0, by rw [hk]; rfl, gb⟩
theorem At4.put1 {w wx : World} {l0 l1 l2 : List Value} {z : Int} (h : At4 w l0 l1 l2 z wx) (l' : List Value) (hl : l'.length = l1.length) : At4 w l0 l' l2 z (wx.setCells (w.heap.size + 1) 0 l') :=
  ⟨below_setCells (by omega) _ _ _ h.below, h.b0.farS (by omega) _, h.b1.stored l' hl, h.b2.farS (by omega) _, h.b3.farS (by omega) _⟩
theorem At4.put2 {w wx : World} {l0 l1 l2 : List Value} {z : Int} (h : At4 w l0 l1 l2 z wx) (l' : List Value) (hl : l'.length = l2.length) : At4 w l0 l1 l' z (wx.setCells (w.heap.size + 2) 0 l') :=
  ⟨below_setCells (by omega) _ _ _ h.below, h.b0.farS (by omega) _, h.b1.farS (by omega) _, h.b2.stored l' hl, h.b3.farS (by omega) _⟩
theorem At4.put3 {w wx : World} {l0 l1 l2 : List Value} {z : Int} (h : At4 w l0 l1 l2 z wx) (k : Int) : At4 w l0 l1 l2 k (wx.setCell ⟨w.heap.size + 3, 0, none⟩ (.int .i64 k)) :=
  ⟨h.below.setCell (by show w.heap.size ≤ w.heap.size + 3; omega) _, h.b0.far _ (by show w.heap.size ≠ w.heap.size + 3; omega) _, h.b1.far _ (by show w.heap.size + 1 ≠ w.heap.size + 3; omega) _, h.b2.far _ (by show w.heap.size + 2 ≠ w.heap.size + 3; omega) _, h.b3.set 0 _⟩
theorem door_good (s : Se) (f : Fr) (x : ByteArray) (h0 : sealE s f x = 0) (w : World) (l0 : List Value) (a : Option Addr) (c : Nat) (b : Option Addr) (d : Nat) (w1 : World) (h4 : At4 w l0 (seL (sealS s) a c b d) (frL (sealF s f x) none 0) 0 w1) (hs : FarAt w s a b w1) (hc : s.kept.length ≤ c) (hd : s.used.length ≤ d) (tmps : Array Value)
    (hp : tmps.getD 4 undef = .pointer (some ⟨w.heap.size + 1, 0, none⟩)) (hq : tmps.getD 5 undef = .pointer (some ⟨w.heap.size + 2, 0, none⟩)) (hr : tmps.getD 6 undef = .pointer (some ⟨w.heap.size + 3, 0, none⟩)) :
    bodyPostD Tryz.prog Tryz.f37 (AtPost s f x w) Exit.ret
      { tmps := tmps, defers := [{ target := Target.fn (Fn.func 64) #[.pointer (some ⟨w.heap.size + 3, 0, none⟩)], args := #[] }] } w1 := by
  refine leaves_cons (f := 64) (args := #[.pointer (some ⟨w.heap.size + 3, 0, none⟩)]) (by simp) (by simp [go_sem]) ?_
  refine (catch_idle ⟨w.heap.size + 3, 0, none⟩ w1).mono ?_
  rintro e u' w'' ⟨rfl, rfl, rfl⟩
  have q3 := h4.b3.cell 0 _ rfl
  refine ⟨_, results_ccc (p := 4) (q := 5) (r := 6) (T := 26) (U := 43) (V := 29) (by kernel_rfl) _ _ _ _ _ hp hq hr (run_loadVar_mid w'' (w.heap.size + 1) 0 _ _ _ h4.b1.range Tryz.underlying26 rfl (by kernel_rfl)) (run_loadVar_mid w'' (w.heap.size + 2) 0 _ _ _ h4.b2.range Tryz.underlying43 rfl (by kernel_rfl)) (v3 := .int .i64 0) (loadVar_one (agg_errno _) q3), ?_⟩
  exact Or.inl ⟨h0, a, c, b, d, rfl, ⟨hs.at_.kept, hs.at_.used⟩, hc, hd, h4.below, fun g off sp e => by have := hs.ka g off sp e; omega, fun g off sp e => by have := hs.ua g off sp e; omega⟩
end Go.Proofs.YthjlhcmdpeinpaaGreatDoor
