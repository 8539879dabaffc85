/- The reference's Get: the frame that bytes tell. -/
import Derived.Test.YtollaaooinoafaaDoorTm
import Derived.Test.YtollaaooinoafaaDoorPy
import Derived.Deep.DeepCutAuto
namespace Go.Proofs.YtollaaooinoafaaDoor
open Go.RowKit Go.Sort
set_option maxRecDepth 100000
def nineFr : Fr := ⟨9, 0, 0, 0, ⟨#[]⟩, ⟨#[]⟩, 0, 0, ⟨#[]⟩, 0, 0, ⟨#[]⟩, []⟩
def finF (s : List UInt8) : Fr := if hitU s fmC 2 then revealC (unpackL s fmC).1 else if hitU s fmB 1 then helloB (unpackL s fmB).1 else if hitU s fmA 0 then helloA (unpackL s fmA).1 else nineFr
theorem finF_get (s : List UInt8) : getF s = if rightF (finF s) = true then some (finF s) else none := by
  unfold getF finF
  by_cases hC : hitU s fmC 2 = true
  · simp only [hC, if_true]
  · by_cases hB : hitU s fmB 1 = true
    · simp only [hC, hB, if_true, Bool.false_eq_true, if_false]
    · by_cases hA : hitU s fmA 0 = true
      · simp only [hC, hB, hA, if_true, Bool.false_eq_true, if_false]
      · simp only [hC, hB, hA, Bool.false_eq_true, if_false]
        rfl
def cut14 (f : Fr) (a : Option Addr) (c : Nat) (b : Bool) : List Value := frL f a c ++ [.bool b]
theorem cut14_one (f : Fr) (a : Option Addr) (c : Nat) (b : Bool) : ∀ v ∈ cut14 f a c b, v.oneCell' = true := by
  intro v hv
  unfold cut14 at hv
  rw [List.mem_append] at hv
  rcases hv with hv | hv
  · exact frL_one f a c v hv
  · simp at hv; subst hv; rfl
/-- three cells of a row of parts with an error -/
structure RAt (w : World) (B : Nat) (U : List Pt × Nat × Nat) (a : Option Addr) (c : Nat) : Prop where
  h : w.heap[B]? = some (.cells #[.slice a U.1.length c, .int .i64 (U.2.1 : Int), .int .i64 (U.2.2 : Int)] 61)
  p : PSl w a U.1
  c : U.1.length ≤ c
  q : ∀ b off : Nat, a = some ⟨b, off, none⟩ → 0 < U.1.length → b < B
theorem RAt.on {w w' : World} {B : Nat} {U : List Pt × Nat × Nat} {a : Option Addr} {c : Nat} (h : RAt w B U a c) (hb : Below w.heap.size w w') : RAt w' B U a c :=
  ⟨by rw [hb.block B (Array.getElem?_eq_some_iff.1 h.h).1]; exact h.h, h.p.on hb, h.c, h.q⟩
theorem RAt.lt {w : World} {B : Nat} {U : List Pt × Nat × Nat} {a : Option Addr} {c : Nat} (h : RAt w B U a c) : B < w.heap.size := (Array.getElem?_eq_some_iff.1 h.h).1
theorem RAt.box {w w1 : World} {U : List Pt × Nat × Nat} {a : Option Addr} {c : Nat} (hp : PSl w1 a U.1) (hc : U.1.length ≤ c) (e : w1.alloc (.cells #[.slice a U.1.length c, .int .i64 (U.2.1 : Int), .int .i64 (U.2.2 : Int)] 61) = w) : RAt w w1.heap.size U a c := by
  subst e
  refine ⟨heap_alloc_new _ _, hp.on ((Below.refl _ _).alloc (Nat.le_refl _) _), hc, fun b off ha h0 => ?_⟩
  obtain ⟨b', off', e, hlt, -⟩ := hp h0
  rw [ha] at e
  simp only [Option.some.injEq, Addr.mk.injEq, and_true] at e
  omega
theorem PSl.farO {w : World} {a : Option Addr} {l : List Pt} (h : PSl w a l) (B o : Nat) (vs : List Value) (hne : ∀ b off : Nat, a = some ⟨b, off, none⟩ → 0 < l.length → b ≠ B) : PSl (w.setCells B o vs) a l := by
  intro h0
  obtain ⟨b, off, ha, hlt, hc⟩ := h h0
  have hb := hne b off ha h0
  have hk : (w.setCells B o vs).heap[b]? = w.heap[b]? := heap_setCells_other B b hb vs o w
  have hcell : ∀ i, (w.setCells B o vs).cell? ⟨b, i, none⟩ = w.cell? ⟨b, i, none⟩ := fun i => by unfold World.cell?; simp only; rw [hk]
  have hpt : ∀ i, i < l.length → PtAt (w.setCells B o vs) b (off + i * 3) (l.getD i p0) := fun i hi => by
    obtain ⟨c0, c1, c2⟩ := hc i hi
    exact ⟨by rw [hcell]; exact c0, by rw [hcell]; exact c1, by rw [hcell]; exact c2⟩
  exact ⟨b, off, ha, World.block_lt_of_cell? _ _ (hpt 0 h0).c0, hpt⟩
theorem RAt.far {w : World} {B D : Nat} {U : List Pt × Nat × Nat} {a : Option Addr} {c : Nat} (h : RAt w B U a c) (hlt : B < D) (o : Nat) (vs : List Value) : RAt (w.setCells D o vs) B U a c :=
  ⟨by rw [heap_setCells_other D B (Nat.ne_of_lt hlt)]; exact h.h, h.p.farO D o vs (fun b off e h0 => by have := h.q b off e h0; omega), h.c, h.q⟩
theorem PSl.low {w w' : World} {n : Nat} {a : Option Addr} {l : List Pt} (h : PSl w a l) (hb : Below n w w') (hq : ∀ b off : Nat, a = some ⟨b, off, none⟩ → 0 < l.length → b < n) : PSl w' a l := by
  intro h0
  obtain ⟨b, off, ha, hlt, hc⟩ := h h0
  have hn := hq b off ha h0
  exact ⟨b, off, ha, World.block_lt_of_cell? _ _ ((hc 0 h0).below hb hn).c0, fun i hi => (hc i hi).below hb hn⟩
theorem RAt.low {w w' : World} {B n : Nat} {U : List Pt × Nat × Nat} {a : Option Addr} {c : Nat} (h : RAt w B U a c) (hb : Below n w w') (hlt : B < n) : RAt w' B U a c :=
  ⟨by rw [hb.block B hlt]; exact h.h, h.p.low hb (fun b off e h0 => by have := h.q b off e h0; omega), h.c, h.q⟩
theorem BlkV.low {w w' : World} {B n : Nat} {t : TypeId} {l : List Value} (h : BlkV w B t l) (hb : Below n w w') (hlt : B < n) : BlkV w' B t l := by
  unfold BlkV; rw [hb.block B hlt]; exact h
def frC12 (f : Fr) (v : Value) : List Value := [.int .i64 f.kind, .int .u64 (f.frm : Int), .int .u64 (f.dst : Int), .int .u64 (f.id : Int), .string f.ident, .string f.base, .int .u64 (f.signed : Int), .int .u64 (f.once : Int), .string f.ratchet, .int .u64 (f.prev : Int), .int .u64 (f.num : Int), .string f.body, v]
def TakeRel (W10 : World) (D base : Nat) (G : Fr) (rest : List Pt) (i : Value) (wr : World) : Prop :=
  ∃ (j : Nat) (v : Value), j ≤ rest.length ∧ i = .int .i64 (j : Int) ∧ OwnS wr base v ((rest.take j).map (·.s)) ∧ BlkV wr D 25 (frC12 G v) ∧ Below D W10 wr ∧ base ≤ wr.heap.size
def blank14 : List Value := cut14 zeroFr none 0 false
def Fin8 (w : World) (RB D : Nat) (F : Fr) (wx : World) : Prop :=
  ∃ (a : Option Addr) (c : Nat), BlkV wx D 25 (frL F a c) ∧ SSl wx a F.keys ∧ F.keys.length ≤ 40 ∧ (∀ b off : Nat, a = some ⟨b, off, none⟩ → D < b) ∧ BlkV wx RB 37 blank14 ∧ Below w.heap.size w wx
theorem okA (s : List UInt8) (h : (unpackL s fmA).2.2 = 0) : (unpackL s fmA).1.length = 12 := by
  obtain ⟨h1, h2⟩ := unpackL_shape s fmA fmA_nt h
  rw [rowA _ h1 h2]; rfl
theorem okB (s : List UInt8) (h : (unpackL s fmB).2.2 = 0) : (unpackL s fmB).1.length = 8 := by
  obtain ⟨h1, h2⟩ := unpackL_shape s fmB fmB_nt h
  rw [rowB _ h1 h2]; rfl
theorem okC (s : List UInt8) (h : (unpackL s fmC).2.2 = 0) : 5 ≤ (unpackL s fmC).1.length ∧ (unpackL s fmC).1.length ≤ 40 := by
  obtain ⟨ts, hts, e⟩ := rowC s h
  rw [e]; simp; omega
def Mid (w : World) (RB A B C D : Nat) (UA UB UC : List Pt × Nat × Nat) (aA aB aC : Option Addr) (cA cB cC : Nat) (F : Fr) (wx : World) : Prop :=
  RAt wx A UA aA cA ∧ RAt wx B UB aB cB ∧ RAt wx C UC aC cC ∧ BlkV wx D 25 (frL F none 0) ∧ BlkV wx RB 37 blank14 ∧ Below w.heap.size w wx
theorem Mid.put {w wx w1 : World} {RB A B C D : Nat} {UA UB UC : List Pt × Nat × Nat} {aA aB aC : Option Addr} {cA cB cC : Nat} {F : Fr} (h : Mid w RB A B C D UA UB UC aA aB aC cA cB cC F wx) (hb : Below wx.heap.size wx w1) (hL : RB < A ∧ A < B ∧ B < C ∧ C < D) (hw : w.heap.size ≤ D) (F' : Fr) :
    Mid w RB A B C D UA UB UC aA aB aC cA cB cC F' (w1.setCells D 0 (frL F' none 0)) := by
  obtain ⟨h1, h2, h3, h4, h5, h6⟩ := h
  exact ⟨(h1.on hb).far (by omega) 0 _, (h2.on hb).far (by omega) 0 _, (h3.on hb).far (by omega) 0 _, (h4.on hb).stored _ rfl, (h5.on hb).farS (by omega) _, below_setCells hw _ 0 _ (h6.trans (hb.mono h6.size))⟩
theorem build_g {P : Program} {ops : Array Oper} {Q : Exit → Act → World → Prop} {rest : List Oper} {o : Oper} {a : Act} {w : World} (hgd : o.guard = none) (t : TypeId) (parts : Array (Nat × Operand)) (ho : o.op = .build t parts) {cells : Array Value}
    (hc : P.built t (parts.map fun (i, x) => (i, a.eval x)).toList = some cells) (h : wpList P ops Q rest (a.put o.dst (.agg cells)) w) : wpList P ops Q (o :: rest) a w :=
  wpList_plain hgd fun _ hK => wp_build t parts ho (by rw [hc]; rfl) (hK _ _ (by rw [hc]; exact h))
set_option maxHeartbeats 8000000 in
theorem r8Get_any (s : ByteArray) (hs : s.size ≤ maxLen) (w : World) :
    Calls Tryd.prog 17 #[.string s] w fun e w' => ∃ (a : Option Addr) (c : Nat), e = .returned (.agg (cut14 (gotF (getF (bl s))) a c (getF (bl s)).isSome).toArray) ∧ SSl w' a (gotF (getF (bl s))).keys ∧ Below w.heap.size w w' := by
  obtain ⟨W0, eW0⟩ : ∃ W0, w.alloc (.cells blank14.toArray 37) = W0 := ⟨_, rfl⟩
  have hB0 : Below w.heap.size w W0 := by rw [← eW0]; exact (Below.refl _ _).alloc (Nat.le_refl _) _
  have hR0 : BlkV W0 w.heap.size 37 blank14 := by rw [← eW0]; exact BlkV.fresh _ _ _ _ rfl _ rfl
  have hU : ∀ (l : List UInt8) (K : ByteArray), bl K = l → l.length ≤ 100 → ∀ W, Calls Tryd.prog 31 #[.string s, .string K] W (RetU W (unpackL (bl s) l)) := fun l K e hl W => by
    have := rUnpack_any s K hs (by rw [← bl_length, e]; omega) W
    rw [e] at this
    exact this
  have hUA : ∀ W, Calls Tryd.prog 31 #[.string s, .string ⟨#[110, 110, 110, 110, 116, 116, 110, 110, 116, 110, 110, 116]⟩] W (RetU W (unpackL (bl s) fmA)) := hU fmA _ rfl (by decide)
  have hUB : ∀ W, Calls Tryd.prog 31 #[.string s, .string ⟨#[110, 110, 110, 110, 116, 110, 110, 116]⟩] W (RetU W (unpackL (bl s) fmB)) := hU fmB _ rfl (by decide)
  have hUC : ∀ W, Calls Tryd.prog 31 #[.string s, .string ⟨#[110, 110, 110, 110, 42]⟩] W (RetU W (unpackL (bl s) fmC)) := hU fmC _ rfl (by decide)
  obtain ⟨ans, eans⟩ : ∃ ans, getF (bl s) = ans := ⟨_, rfl⟩
  rw [eans]
  obtain ⟨RB, eRB⟩ : ∃ RB, w.heap.size = RB := ⟨_, rfl⟩
  rw [eRB] at hR0
  have HEW := Lib.hid eW0; have HB0 := Lib.hid hB0; have HR0 := Lib.hid hR0; have HANS := Lib.hid eans; have HRB := Lib.hid eRB; have HUA := Lib.hid hUA; have HUB := Lib.hid hUB; have HUC := Lib.hid hUC
  clear eW0 hB0 hR0 eans hs eRB hUA hUB hUC hU
  obtain ⟨UA, eUA⟩ : ∃ U, unpackL (bl s) fmA = U := ⟨_, rfl⟩
  obtain ⟨UB, eUB⟩ : ∃ U, unpackL (bl s) fmB = U := ⟨_, rfl⟩
  obtain ⟨UC, eUC⟩ : ∃ U, unpackL (bl s) fmC = U := ⟨_, rfl⟩
  rw [eUA] at HUA
  rw [eUB] at HUB
  rw [eUC] at HUC
  have HEU := Lib.hid (And.intro eUA (And.intro eUB eUC))
  clear eUA eUB eUC
  go_enter Tryd.func17, Tryd.ntmps17
  go_upto_region 1 with fail
  change Code.wp Tryd.prog _ _ _ (w.alloc (.cells blank14.toArray 37))
  rw [HEW.out, HRB.out]
  clear HEW
  have HS0 := Lib.hid (And.intro HB0.out HR0.out)
  clear HB0 HR0
  go_wp2_with fail
  refine (HUA.out _).mono ?_
  rintro e w1 ⟨aA, cA, rfl, hp, hb1, hc⟩
  obtain ⟨VA, eV⟩ : ∃ V, w1.alloc (.cells #[.slice aA UA.1.length cA, .int .i64 (UA.2.1 : Int), .int .i64 (UA.2.2 : Int)] 61) = V := ⟨_, rfl⟩
  have hRA := RAt.box hp hc eV
  have hv : Below w1.heap.size w1 VA := by rw [← eV]; exact (Below.refl _ _).alloc (Nat.le_refl _) _
  have hB1 := HS0.out.1.trans (hb1.mono HS0.out.1.size)
  have hB2 := hB1.trans (hv.mono hB1.size)
  have hZ2 := (HS0.out.2.on hb1).on hv
  have hlt := (HS0.out.2.on hb1).lt
  obtain ⟨A, eA⟩ : ∃ B, w1.heap.size = B := ⟨_, rfl⟩
  rw [eA] at hRA hlt
  have HS1 := Lib.hid (And.intro hB2 (And.intro hZ2 (And.intro hRA hlt))); have HE := Lib.hid (And.intro eV eA)
  clear hB2 hZ2 hRA hv hB1 hlt eV eA hp hb1 hc HS0 HUA
  go_upto_region 2 with fail
  rw [HE.out.1, HE.out.2]
  clear HE
  go_wp2_with fail
  refine (HUB.out _).mono ?_
  rintro e w1 ⟨aB, cB, rfl, hp, hb1, hc⟩
  obtain ⟨VB, eV⟩ : ∃ V, w1.alloc (.cells #[.slice aB UB.1.length cB, .int .i64 (UB.2.1 : Int), .int .i64 (UB.2.2 : Int)] 61) = V := ⟨_, rfl⟩
  have hRB := RAt.box hp hc eV
  have hv : Below w1.heap.size w1 VB := by rw [← eV]; exact (Below.refl _ _).alloc (Nat.le_refl _) _
  have hB1 := HS1.out.1.trans (hb1.mono HS1.out.1.size)
  have hB2 := hB1.trans (hv.mono hB1.size)
  have hZ2 := (HS1.out.2.1.on hb1).on hv
  have hlt := (HS1.out.2.1.on hb1).lt
  have hRA2 := (HS1.out.2.2.1.on hb1).on hv
  have hlA2 := HS1.out.2.2.2
  have hlt2 := (HS1.out.2.2.1.on hb1).lt
  obtain ⟨B, eB⟩ : ∃ B, w1.heap.size = B := ⟨_, rfl⟩
  rw [eB] at hRB hlt2
  have HS2 := Lib.hid (And.intro hB2 (And.intro hZ2 (And.intro hRA2 (And.intro hlA2 (And.intro hRB hlt2))))); have HE := Lib.hid (And.intro eV eB)
  clear hB2 hZ2 hRA2 hlA2 hRB hlt2 hv hB1 hlt eV eB hp hb1 hc HS1 HUB
  go_upto_region 3 with fail
  rw [HE.out.1, HE.out.2]
  clear HE
  go_wp2_with fail
  refine (HUC.out _).mono ?_
  rintro e w1 ⟨aC, cC, rfl, hp, hb1, hc⟩
  obtain ⟨VC, eV⟩ : ∃ V, w1.alloc (.cells #[.slice aC UC.1.length cC, .int .i64 (UC.2.1 : Int), .int .i64 (UC.2.2 : Int)] 61) = V := ⟨_, rfl⟩
  have hRC := RAt.box hp hc eV
  have hv : Below w1.heap.size w1 VC := by rw [← eV]; exact (Below.refl _ _).alloc (Nat.le_refl _) _
  have hB1 := HS2.out.1.trans (hb1.mono HS2.out.1.size)
  have hB2 := hB1.trans (hv.mono hB1.size)
  have hZ2 := (HS2.out.2.1.on hb1).on hv
  have hlt := (HS2.out.2.1.on hb1).lt
  have hRA2 := (HS2.out.2.2.1.on hb1).on hv
  have hlA2 := HS2.out.2.2.2.1
  have hRB2 := (HS2.out.2.2.2.2.1.on hb1).on hv
  have hlB2 := HS2.out.2.2.2.2.2
  have hlt2 := (HS2.out.2.2.2.2.1.on hb1).lt
  obtain ⟨C, eC⟩ : ∃ B, w1.heap.size = B := ⟨_, rfl⟩
  rw [eC] at hRC hlt2
  have HS3 := Lib.hid (And.intro hB2 (And.intro hZ2 (And.intro hRA2 (And.intro hlA2 (And.intro hRB2 (And.intro hlB2 (And.intro hRC hlt2))))))); have HE := Lib.hid (And.intro eV eC)
  clear hB2 hZ2 hRA2 hlA2 hRB2 hlB2 hRC hlt2 hv hB1 hlt eV eC hp hb1 hc HS2 HUC
  go_upto_region 4 with fail
  rw [HE.out.1, HE.out.2]
  clear HE
  obtain ⟨VD, eVD⟩ : ∃ V, VC.alloc (.cells (frL nineFr none 0).toArray 25) = V := ⟨_, rfl⟩
  have hv : Below VC.heap.size VC VD := by rw [← eVD]; exact (Below.refl _ _).alloc (Nat.le_refl _) _
  obtain ⟨D, eD⟩ : ∃ D, VC.heap.size = D := ⟨_, rfl⟩
  have hD : BlkV VD D 25 (frL nineFr none 0) := by rw [← eVD]; exact BlkV.fresh _ _ _ _ rfl _ eD.symm
  obtain ⟨hB, hRB, hRA, hlA, hRB', hlB, hRC, hlC⟩ := HS3.out
  have hlD : C < D := by rw [← eD]; exact hRC.lt
  have HA := Lib.hid (hRA.on hv); have HBB := Lib.hid (hRB'.on hv); have HC := Lib.hid (hRC.on hv); have HD := Lib.hid hD; have HR := Lib.hid (hRB.on hv); have HB := Lib.hid (hB.trans (hv.mono hB.size)); have HL := Lib.hid (And.intro hlA (And.intro hlB (And.intro hlC hlD))); have HE := Lib.hid (And.intro eVD eD)
  clear hB hRB hRA hlA hRB' hlB hRC hlC hlD hD hv HS3 eVD eD
  go_upto_region 5 with fail
  change Code.wp Tryd.prog _ _ _ (VC.alloc (.cells (frL nineFr none 0).toArray 25))
  rw [HE.out.1, HE.out.2]
  clear HE
  have HM := Lib.hid (show Mid w RB A B C D UA UB UC aA aB aC cA cB cC nineFr VD from ⟨HA.out, HBB.out, HC.out, HD.out, HR.out, HB.out⟩)
  clear HA HBB HC HD HR HB
  have hHit : hitU (bl s) fmA 0 = (decide (UA.2.2 = 0) && decide (gN UA.1 0 = 0)) := by rw [hitU_iff, HEU.out.1]
  have hok := okA (bl s)
  rw [HEU.out.1] at hok
  obtain ⟨hitA, ehit⟩ : ∃ hitA, hitU (bl s) fmA 0 = hitA := ⟨_, rfl⟩
  rw [ehit] at hHit
  have HH := Lib.hid (And.intro hHit hok)
  have HITA := Lib.hid ehit
  clear hHit hok ehit
  go_cut [26] (fun c wx => c = .bool hitA ∧ wx = VD)
  case first =>
    have hx := HM.out.1
    have c2 : VD.cell? ⟨A, 2, none⟩ = some (.int .i64 (UA.2.2 : Int)) := by rw [cell_of_row _ _ _ _ _ _ hx.h]; rfl
    have c0 : VD.cell? ⟨A, 0, none⟩ = some (.slice aA UA.1.length cA) := by rw [cell_of_row _ _ _ _ _ _ hx.h]; rfl
    obtain ⟨hh1, hh2⟩ := HH.out
    by_cases hz : UA.2.2 = 0
    · have hl := hh2 hz
      rw [hz] at c2
      have h0l : (0 : Int) < (UA.1.length : Int) := by omega
      obtain ⟨b, off, rfl, -, hc⟩ := hx.p (by omega)
      have cn := psl_n hc 0 (by omega)
      simp only [Nat.zero_mul, Nat.add_zero] at cn
      rw [hz, decide_eq_true (show (0 : Nat) = 0 from rfl), Bool.true_and, show decide (gN UA.1 0 = 0) = ((gN UA.1 0 : Int) == ((0 : Nat) : Int)) from (nat_eq _ _).symm] at hh1
      obtain ⟨n, en⟩ : ∃ n, gN UA.1 0 = n := ⟨_, rfl⟩
      rw [en] at cn hh1
      have HQ := Lib.hid hh1
      clear hx hc hl hz hh1 hh2 en HM HH
      go_wp2_with fail
      go_meet
      exact ⟨congrArg Value.bool HQ.out.symm, rfl⟩
    · have hz9 : ((UA.2.2 : Int) == 0) = false := by rw [beq_eq_false_iff_ne]; omega
      rw [decide_eq_false hz, Bool.false_and] at hh1
      have HQ := Lib.hid hh1
      clear hx hz hh1 hh2 HM HH c0
      go_wp2_with fail
      go_meet
      exact ⟨congrArg Value.bool HQ.out.symm, rfl⟩
  case rest =>
  obtain ⟨rfl, rfl⟩ := hcut
  obtain ⟨VD, rfl⟩ : ∃ V : World, V = wc := ⟨_, rfl⟩
  obtain ⟨F1, eF1⟩ : ∃ F, (if hitA = true then helloA UA.1 else nineFr) = F := ⟨_, rfl⟩
  have HF1 := Lib.hid eF1
  clear eF1
  go_upto_if 26 with (fail)
  go_cut [] (fun wx => Mid w RB A B C D UA UB UC aA aB aC cA cB cC F1 wx)
  case first =>
    cases hitA
    · have hf : nineFr = F1 := HF1.out
      subst hf
      go_wp2_with fail
      go_meet
      exact HM.out
    · have hf : helloA UA.1 = F1 := HF1.out
      have hx := HM.out.1
      have c0 : VD.cell? ⟨A, 0, none⟩ = some (.slice aA UA.1.length cA) := by rw [cell_of_row _ _ _ _ _ _ hx.h]; rfl
      obtain ⟨hh0, hh2⟩ := HH.out
      have hh1 := hh0.symm
      clear hh0
      simp only [Bool.and_eq_true, decide_eq_true_eq] at hh1
      have hcl := r8helloA_any aA cA UA.1 (hh2 hh1.1) hh1.2 VD hx.p
      rw [hf] at hcl
      have HCL := Lib.hid hcl
      clear hx hh1 hh2 hcl hf HH
      go_upto_region 6 with fail
      refine wp_region_lit ?_
      iterate 2 (refine wpList_step (fun K hK => ?_); go_simp; refine hK _ _ ?_; clear hK K)
      refine wpList_step (fun K hK => ?_)
      go_simp
      refine HCL.out.mono ?_
      rintro e w4 ⟨rfl, hb⟩
      refine hK _ _ ?_
      clear hK K c0
      refine store_v rfl rfl _ _ _ rfl D rfl (l' := frL F1 none 0) rfl (HM.out.2.2.2.1.on hb) rfl (frL_one _ none 0) (by kernel_rfl) ?_
      have hM2 := HM.out.put hb HL.out (by have := HL.out; have := HRB.out; omega) F1
      generalize World.setCells w4 _ _ _ = W at hM2 ⊢
      have HM2 := Lib.hid hM2
      clear hM2 hb HM HCL
      go_wp2_with fail
      go_meet
      exact HM2.out
  case rest =>
  obtain ⟨VE, rfl⟩ : ∃ V : World, V = wc := ⟨_, rfl⟩
  clear HM HH
  have HM := Lib.hid hcut
  clear hcut
  go_upto_region 7 with fail
  have hHit : hitU (bl s) fmB 1 = (decide (UB.2.2 = 0) && decide (gN UB.1 0 = 1)) := by rw [hitU_iff, HEU.out.2.1]
  have hok := okB (bl s)
  rw [HEU.out.2.1] at hok
  obtain ⟨hitB, ehit⟩ : ∃ hitB, hitU (bl s) fmB 1 = hitB := ⟨_, rfl⟩
  rw [ehit] at hHit
  have HH := Lib.hid (And.intro hHit hok)
  have HITB := Lib.hid ehit
  clear hHit hok ehit
  go_cut [40] (fun c wx => c = .bool hitB ∧ wx = VE)
  case first =>
    have hx := HM.out.2.1
    have c2 : VE.cell? ⟨B, 2, none⟩ = some (.int .i64 (UB.2.2 : Int)) := by rw [cell_of_row _ _ _ _ _ _ hx.h]; rfl
    have c0 : VE.cell? ⟨B, 0, none⟩ = some (.slice aB UB.1.length cB) := by rw [cell_of_row _ _ _ _ _ _ hx.h]; rfl
    obtain ⟨hh1, hh2⟩ := HH.out
    by_cases hz : UB.2.2 = 0
    · have hl := hh2 hz
      rw [hz] at c2
      have h0l : (0 : Int) < (UB.1.length : Int) := by omega
      obtain ⟨b, off, rfl, -, hc⟩ := hx.p (by omega)
      have cn := psl_n hc 0 (by omega)
      simp only [Nat.zero_mul, Nat.add_zero] at cn
      rw [hz, decide_eq_true (show (0 : Nat) = 0 from rfl), Bool.true_and, show decide (gN UB.1 0 = 1) = ((gN UB.1 0 : Int) == ((1 : Nat) : Int)) from (nat_eq _ _).symm] at hh1
      obtain ⟨n, en⟩ : ∃ n, gN UB.1 0 = n := ⟨_, rfl⟩
      rw [en] at cn hh1
      have HQ := Lib.hid hh1
      clear hx hc hl hz hh1 hh2 en HM HH
      go_wp2_with fail
      go_meet
      exact ⟨congrArg Value.bool HQ.out.symm, rfl⟩
    · have hz9 : ((UB.2.2 : Int) == 0) = false := by rw [beq_eq_false_iff_ne]; omega
      rw [decide_eq_false hz, Bool.false_and] at hh1
      have HQ := Lib.hid hh1
      clear hx hz hh1 hh2 HM HH c0
      go_wp2_with fail
      go_meet
      exact ⟨congrArg Value.bool HQ.out.symm, rfl⟩
  case rest =>
  obtain ⟨rfl, rfl⟩ := hcut
  obtain ⟨VE, rfl⟩ : ∃ V : World, V = wc := ⟨_, rfl⟩
  obtain ⟨F2, eF2⟩ : ∃ F, (if hitB = true then helloB UB.1 else F1) = F := ⟨_, rfl⟩
  have HF2 := Lib.hid eF2
  clear eF2
  go_upto_if 40 with (fail)
  go_cut [] (fun wx => Mid w RB A B C D UA UB UC aA aB aC cA cB cC F2 wx)
  case first =>
    cases hitB
    · have hf : F1 = F2 := HF2.out
      subst hf
      go_wp2_with fail
      go_meet
      exact HM.out
    · have hf : helloB UB.1 = F2 := HF2.out
      have hx := HM.out.2.1
      have c0 : VE.cell? ⟨B, 0, none⟩ = some (.slice aB UB.1.length cB) := by rw [cell_of_row _ _ _ _ _ _ hx.h]; rfl
      obtain ⟨hh0, hh2⟩ := HH.out
      have hh1 := hh0.symm
      clear hh0
      simp only [Bool.and_eq_true, decide_eq_true_eq] at hh1
      have hcl := r8helloB_any aB cB UB.1 (hh2 hh1.1) hh1.2 VE hx.p
      rw [hf] at hcl
      have HCL := Lib.hid hcl
      clear hx hh1 hh2 hcl hf HH
      go_upto_region 8 with fail
      refine wp_region_lit ?_
      iterate 2 (refine wpList_step (fun K hK => ?_); go_simp; refine hK _ _ ?_; clear hK K)
      refine wpList_step (fun K hK => ?_)
      go_simp
      refine HCL.out.mono ?_
      rintro e w4 ⟨rfl, hb⟩
      refine hK _ _ ?_
      clear hK K c0
      refine store_v rfl rfl _ _ _ rfl D rfl (l' := frL F2 none 0) rfl (HM.out.2.2.2.1.on hb) rfl (frL_one _ none 0) (by kernel_rfl) ?_
      have hM2 := HM.out.put hb HL.out (by have := HL.out; have := HRB.out; omega) F2
      generalize World.setCells w4 _ _ _ = W at hM2 ⊢
      have HM2 := Lib.hid hM2
      clear hM2 hb HM HCL
      go_wp2_with fail
      go_meet
      exact HM2.out
  case rest =>
  obtain ⟨VG, rfl⟩ : ∃ V : World, V = wc := ⟨_, rfl⟩
  clear HM HH
  have HM := Lib.hid hcut
  clear hcut
  go_upto_region 9 with fail
  have hHit : hitU (bl s) fmC 2 = (decide (UC.2.2 = 0) && decide (gN UC.1 0 = 2)) := by rw [hitU_iff, HEU.out.2.2]
  have hok := okC (bl s)
  rw [HEU.out.2.2] at hok
  obtain ⟨hitC, ehit⟩ : ∃ hitC, hitU (bl s) fmC 2 = hitC := ⟨_, rfl⟩
  rw [ehit] at hHit
  have HH := Lib.hid (And.intro hHit hok)
  have HITC := Lib.hid ehit
  clear hHit hok ehit
  go_cut [54] (fun c wx => c = .bool hitC ∧ wx = VG)
  case first =>
    have hx := HM.out.2.2.1
    have c2 : VG.cell? ⟨C, 2, none⟩ = some (.int .i64 (UC.2.2 : Int)) := by rw [cell_of_row _ _ _ _ _ _ hx.h]; rfl
    have c0 : VG.cell? ⟨C, 0, none⟩ = some (.slice aC UC.1.length cC) := by rw [cell_of_row _ _ _ _ _ _ hx.h]; rfl
    obtain ⟨hh1, hh2⟩ := HH.out
    by_cases hz : UC.2.2 = 0
    · have hl := hh2 hz
      rw [hz] at c2
      have h0l : (0 : Int) < (UC.1.length : Int) := by omega
      obtain ⟨b, off, rfl, -, hc⟩ := hx.p (by omega)
      have cn := psl_n hc 0 (by omega)
      simp only [Nat.zero_mul, Nat.add_zero] at cn
      rw [hz, decide_eq_true (show (0 : Nat) = 0 from rfl), Bool.true_and, show decide (gN UC.1 0 = 2) = ((gN UC.1 0 : Int) == ((2 : Nat) : Int)) from (nat_eq _ _).symm] at hh1
      obtain ⟨n, en⟩ : ∃ n, gN UC.1 0 = n := ⟨_, rfl⟩
      rw [en] at cn hh1
      have HQ := Lib.hid hh1
      clear hx hc hl hz hh1 hh2 en HM HH
      go_wp2_with fail
      go_meet
      exact ⟨congrArg Value.bool HQ.out.symm, rfl⟩
    · have hz9 : ((UC.2.2 : Int) == 0) = false := by rw [beq_eq_false_iff_ne]; omega
      rw [decide_eq_false hz, Bool.false_and] at hh1
      have HQ := Lib.hid hh1
      clear hx hz hh1 hh2 HM HH c0
      go_wp2_with fail
      go_meet
      exact ⟨congrArg Value.bool HQ.out.symm, rfl⟩
  case rest =>
  obtain ⟨rfl, rfl⟩ := hcut
  obtain ⟨VG, rfl⟩ : ∃ V : World, V = wc := ⟨_, rfl⟩
  have hk2 : F2.keys = [] := by
    rw [← HF2.out, ← HF1.out]
    split
    · rfl
    · split <;> rfl
  obtain ⟨F3, eF3⟩ : ∃ F, (if hitC = true then revealC UC.1 else F2) = F := ⟨_, rfl⟩
  have HF3 := Lib.hid eF3; have HK2 := Lib.hid hk2
  clear eF3 hk2
  go_upto_if 54 with (fail)
  go_cut [] (fun wx => Fin8 w RB D F3 wx)
  case first =>
    cases hitC
    · have hf : F2 = F3 := HF3.out
      subst hf
      have hfin : Fin8 w RB D F2 VG := ⟨none, 0, HM.out.2.2.2.1, by rw [HK2.out]; exact fun h => absurd h (Nat.lt_irrefl 0), by rw [HK2.out]; exact Nat.zero_le _, fun b off e => (by cases e), HM.out.2.2.2.2.1, HM.out.2.2.2.2.2⟩
      have HFIN := Lib.hid hfin
      clear hfin HM HH
      go_wp2_with fail
      go_meet
      exact HFIN.out
    · have hf : revealC UC.1 = F3 := HF3.out
      have hx := HM.out.2.2.1
      have c0 : VG.cell? ⟨C, 0, none⟩ = some (.slice aC UC.1.length cC) := by rw [cell_of_row _ _ _ _ _ _ hx.h]; rfl
      obtain ⟨hh0, hh2⟩ := HH.out
      have hh1 := hh0.symm
      clear hh0
      simp only [Bool.and_eq_true, decide_eq_true_eq] at hh1
      obtain ⟨hl5, hl40⟩ := hh2 hh1.1
      obtain ⟨b, off, rfl, hbl, hc⟩ := hx.p (by omega)
      have d1 := psl_n hc 1 (by omega)
      have d2 := psl_n hc 2 (by omega)
      have d3 := psl_n hc 3 (by omega)
      simp only [Nat.one_mul, Nat.reduceMul, Nat.add_assoc, Nat.reduceAdd] at d1 d2 d3
      obtain ⟨n1, en1⟩ : ∃ n, gN UC.1 1 = n := ⟨_, rfl⟩
      obtain ⟨n2, en2⟩ : ∃ n, gN UC.1 2 = n := ⟨_, rfl⟩
      obtain ⟨n3, en3⟩ : ∃ n, gN UC.1 3 = n := ⟨_, rfl⟩
      rw [en1] at d1
      rw [en2] at d2
      rw [en3] at d3
      obtain ⟨G, eG⟩ : ∃ G : Fr, (⟨2, n1, n2, n3, ⟨#[]⟩, ⟨#[]⟩, 0, 0, ⟨#[]⟩, 0, 0, ⟨#[]⟩, []⟩ : Fr) = G := ⟨_, rfl⟩
      have hG : ∀ ks : List ByteArray, (UC.1.drop 5).map (·.s) = ks → F3 = { G with keys := ks } := fun ks e => by
        rw [← hf, ← eG, ← e]; unfold revealC; rw [en1, en2, en3]
      have h0l : (5 : Int) ≤ (UC.1.length : Int) := by omega
      have h1l : (1 : Int) < (UC.1.length : Int) := by omega
      have h2l : (2 : Int) < (UC.1.length : Int) := by omega
      have h3l : (3 : Int) < (UC.1.length : Int) := by omega
      have q0 := cell_regrown c0
      have q1 := cell_regrown d1
      have q2 := cell_regrown d2
      have q3 := cell_regrown d3
      have HG := Lib.hid (And.intro hG (And.intro eG (And.intro hl5 hl40)))
      clear hx hh1 hh2 hf HH hbl hc d1 d2 d3 c0 en1 en2 en3 hG hl5 hl40 eG
      go_upto_region 10 with fail
      refine wp_region_last_below 16 _ (by kernel_rfl) rfl rfl rfl rfl (by kernel_rfl) (by kernel_rfl) ?_
      simp only [List.take_succ_cons, List.take_zero]
      iterate 16 (quiet_step (fail))
      refine wpQuiet_nil ?_
      intro _ hw'
      obtain ⟨⟨dq, osq⟩, hw''⟩ := hw'
      subst hw''
      have hrg := below_regrown VG dq osq
      obtain ⟨eG, -⟩ := HG.out.2
      have hM2 := HM.out
      have hCx := hM2.2.2.1.on hrg
      have hDx := hM2.2.2.2.1.on hrg
      have hRx := hM2.2.2.2.2.1.on hrg
      have hBx := hM2.2.2.2.2.2.trans (hrg.mono hM2.2.2.2.2.2.size)
      clear hrg q0 q1 q2 q3 HM hM2 h1l h2l h3l
      generalize grow (redrawn VG dq) osq = V1 at hCx hDx hRx hBx ⊢
      refine store_v rfl rfl _ _ _ rfl D rfl (l' := frL G none 0) (by rw [← eG]; rfl) hDx rfl (frL_one _ none 0) (by kernel_rfl) ?_
      refine wpList_nil ?_
      obtain ⟨l1, l2, l3, l4⟩ := HL.out
      have hD6 := hDx.stored (frL G none 0) rfl
      have hC6 := hCx.far l4 0 (frL G none 0)
      have hR6 := hRx.farS (show RB ≠ D by omega) (frL G none 0)
      have hB6 := below_setCells (show w.heap.size ≤ D by have := HRB.out; omega) (frL G none 0) 0 _ hBx
      generalize World.setCells V1 _ _ _ = W10 at hD6 hC6 hR6 hB6 ⊢
      have HD := Lib.hid hD6; have HC := Lib.hid hC6; have HR := Lib.hid hR6; have HB := Lib.hid hB6; have HGE := Lib.hid eG
      clear hDx hCx hRx hBx hD6 hC6 hR6 hB6 l1 l2 l3 l4 eG
      rename_i K hK
      refine hK _ _ ?_
      clear hK K
      obtain ⟨a5, c5, hsl, hp5, hb5⟩ := slice_ps W10 b off UC.1 cC 5 HG.out.2.2.1 HC.out.c HC.out.p
      obtain ⟨rest, erest⟩ : ∃ rest, UC.1.drop 5 = rest := ⟨_, rfl⟩
      have hrl : rest.length ≤ 40 := by rw [← erest, List.length_drop]; have := HG.out.2.2.2; omega
      have hq5 : ∀ b' off' : Nat, a5 = some ⟨b', off', none⟩ → 0 < rest.length → b' < D := by
        intro b' off' e h0
        obtain rfl := hb5 b' off' e
        rw [← erest, List.length_drop] at h0
        have h1 := HC.out.q b' off rfl (by omega)
        have h2 := HL.out.2.2.2
        omega
      have hend := HG.out.1 (rest.map (·.s)) (by rw [erest])
      have hq0 : W10.cell? ⟨C, 0, none⟩ = some (.slice (some ⟨b, off, none⟩) UC.1.length cC) := by rw [cell_of_row _ _ _ _ _ _ HC.out.h]; rfl
      rw [erest] at hsl hp5
      have hsl : ∀ W, (Instr.slice 42 (.slice (some ⟨b, off, none⟩) UC.1.length cC) (some (.int .i64 5)) none none).run Tryd.prog W = .ok (.slice a5 rest.length c5) W := hsl
      have hD12 : BlkV W10 D 25 (frC12 G (.slice none 0 0)) := by
        have := HD.out
        rw [← HGE.out] at this ⊢
        exact this
      have hDl := HD.out.lt
      have HP5 := Lib.hid (And.intro hp5 hq5); have HEND := Lib.hid (And.intro hend (And.intro hrl hDl)); have HD12 := Lib.hid hD12
      clear hb5 hp5 hq5 erest hend hrl hDl hD12 HG HGE HC HD
      go_upto_region 12 with fail
      clear hsl hq0
      go_loopw [75] (TakeRel W10 D W10.heap.size G rest) (fun i _ => rest.length - (intOf i).toNat)
      case atStart => exact ⟨0, .slice none 0 0, Nat.zero_le _, rfl, ⟨rfl, .inl ⟨rfl, rfl⟩⟩, HD12.out, Below.refl _ _, Nat.le_refl _⟩
      case round =>
        clear HD12
        obtain ⟨j, v, hj, rfl, hO, hM, hB, hS⟩ := hrel
        by_cases hlj : j < rest.length
        · have h1 : (j : Int) < (rest.length : Int) := by omega
          have h1k : (j : Int) < 1000 := by have := HEND.out.2.1; omega
          obtain ⟨b5, off5, rfl, hbl, hc⟩ := (HP5.out.1.low hB HP5.out.2) (by omega)
          have hpt := hc j hlj
          have hst : (rest.take (j + 1)).map (·.s) = (rest.take j).map (·.s) ++ [(rest.getD j p0).s] := by
            have e : rest.getD j p0 = rest[j] := by simp [List.getD, hlj]
            rw [e, List.take_succ_eq_append_getElem hlj, List.map_append]; rfl
          obtain ⟨p, ep⟩ : ∃ p, rest.getD j p0 = p := ⟨_, rfl⟩
          rw [ep] at hpt hst
          obtain ⟨c0, c1, c2⟩ := hpt
          obtain ⟨acc, eacc⟩ : ∃ acc, (rest.take j).map (·.s) = acc := ⟨_, rfl⟩
          have hkl : acc.length ≤ 40 := by rw [← eacc, List.length_map, List.length_take]; have := HEND.out.2.1; omega
          rw [eacc] at hO hst
          have hv : Below wr.heap.size wr (wr.alloc (.cells #[.bool p.text, .int .u64 (p.n : Int), .string p.s] 48)) := (Below.refl _ _).alloc (Nat.le_refl _) _
          have hPA := PtAt.fresh wr p 48
          have hO2 := hO.on hv
          have hM2 := hM.on hv
          have hDs : D ≤ wr.heap.size := by have := HEND.out.2.2; omega
          have hB2 := hB.trans (hv.mono hDs)
          have hS2 := Nat.le_trans hS hv.size
          have HO := Lib.hid hO2; have HM := Lib.hid hM2; have HB := Lib.hid (And.intro hB2 hS2); have HPA := Lib.hid hPA; have HST := Lib.hid (And.intro hst hkl)
          clear hO hM hB hS hO2 hM2 hB2 hS2 hPA hv hst hkl hDs eacc ep hc hbl hj
          go_upto_region 14 with fail
          clear c0 c1 c2
          generalize World.alloc wr _ = V at HO HM HB HPA ⊢
          obtain ⟨c0, c1, c2⟩ := HPA.out
          simp only [Nat.zero_add] at c1 c2
          have cd : V.cell? ⟨D, 12, none⟩ = some v := HM.out.cell 12 v rfl
          have hv : Below V.heap.size V (V.alloc (.cells #[.string p.s] 9)) := (Below.refl _ _).alloc (Nat.le_refl _) _
          have hcs : (V.alloc (.cells #[.string p.s] 9)).cell? ⟨V.heap.size, 0, none⟩ = some (.string p.s) := by rw [cell_of_row _ _ _ _ _ _ (heap_alloc_new _ _)]; rfl
          have hO3 := HO.out.on hv
          have hM3 := HM.out.on hv
          have hDs : D ≤ V.heap.size := by have := HEND.out.2.2; have := HB.out.2; omega
          have hB3 := HB.out.1.trans (hv.mono hDs)
          have hs3 : W10.heap.size ≤ (V.alloc (.cells #[.string p.s] 9)).heap.size := Nat.le_trans HB.out.2 hv.size
          have hDs3 := Nat.le_trans hDs hv.size
          have HO3 := Lib.hid hO3; have HM3 := Lib.hid hM3; have HB3 := Lib.hid (And.intro hB3 hDs3); have HCS := Lib.hid (And.intro hcs hs3)
          clear hv hcs hO3 hM3 hB3 hs3 hDs hDs3 HO HM HB HPA
          go_wp2_with (at_builtin; refine append_s rfl _ _ rfl W10.heap.size v acc p.s V.heap.size rfl HO3.out rfl HCS.out.1 (by have := HST.out.2; omega) HCS.out.2 ?_)
          intro g' cap' w6 hO4 hg
          have hB4 := HB3.out.1.grown hg HB3.out.2 (fun i hi => by have := (World.ownsRow.lt HO3.out i hi).1; have := HEND.out.2.2; omega)
          have hM4 : BlkV w6 D 25 (frC12 G v) := HO3.out.keepsT hg D _ _ _ HM3.out (by decide)
          have hS4 := Nat.le_trans HCS.out.2 hg.size
          have hl : acc.length + 1 = (acc ++ [p.s]).length := by simp
          rw [← HST.out.1] at hO4 hl
          have cd6 : w6.cell? ⟨D, 12, none⟩ = some v := hM4.cell 12 v rfl
          have fd6 : w6.frozen? ⟨D, 12, none⟩ = false := hM4.frozen 12
          have hO5 : OwnS (w6.setCell ⟨D, 12, none⟩ (.slice (some ⟨g', 0, none⟩) (acc.length + 1) cap')) W10.heap.size (.slice (some ⟨g', 0, none⟩) (acc.length + 1) cap') ((rest.take (j + 1)).map (·.s)) := ownsRow_setCell_below hO4 (a := ⟨D, 12, none⟩) (show D < W10.heap.size from HEND.out.2.2) _
          have hM5 := hM4.set 12 (.slice (some ⟨g', 0, none⟩) (acc.length + 1) cap')
          have hB5 := hB4.setCell (p := ⟨D, 12, none⟩) (Nat.le_refl D) (.slice (some ⟨g', 0, none⟩) (acc.length + 1) cap')
          have hS5 : W10.heap.size ≤ (w6.setCell ⟨D, 12, none⟩ (.slice (some ⟨g', 0, none⟩) (acc.length + 1) cap')).heap.size := by simpa [World.setCell] using hS4
          have HW5 := Lib.hid (And.intro hO5 (And.intro hM5 (And.intro hB5 hS5)))
          clear hO4 hB4 hM4 hg hO5 hM5 hB5 hS4 hS5 hl HO3 HM3 HB3 HCS HST c0 c1 c2 cd
          go_upto_region 15 with fail
          generalize World.setCell w6 _ _ = w7 at HW5 ⊢
          clear cd6 fd6
          go_wp2_with fail
          exact ⟨⟨j + 1, _, by omega, by simp, HW5.out.1, HW5.out.2.1, HW5.out.2.2.1, HW5.out.2.2.2⟩, by simp [intOf]; omega⟩
        · obtain rfl : j = rest.length := by omega
          have hnj : ¬ (rest.length : Int) < (rest.length : Int) := by omega
          rw [List.take_length] at hO
          obtain ⟨a6, c6, rfl, hc6, hb6, hp6⟩ := hO.ssl
          have hfin : Fin8 w RB D F3 wr := by
            obtain ⟨hend, hrl, hDl⟩ := HEND.out
            obtain ⟨l1, l2, l3, l4⟩ := HL.out
            have hRw := HR.out.low hB (by omega)
            have hBw := HB.out.trans (hB.mono (show w.heap.size ≤ D by have := HRB.out; omega))
            rw [hend]
            exact ⟨a6, c6, hM, hp6, by rw [List.length_map]; exact hrl, fun b off e => Nat.lt_of_lt_of_le hDl (hb6 b off e), hRw, hBw⟩
          have HFIN := Lib.hid hfin
          clear hfin hO hM hB hS hc6 hb6 hp6 hj HR HB HEND HP5 HL
          go_wp2_with fail
          go_meet
          exact HFIN.out
  case rest =>
    clear HM HH HK2
    obtain ⟨a, c, hD, hp, hl, hb, hR, hB⟩ := hcut
    have hans : ans = if rightF F3 = true then some F3 else none := by
      rw [← HANS.out, finF_get]
      have : finF (bl s) = F3 := by
        unfold finF
        rw [HITA.out, HITB.out, HITC.out, ← HF3.out, ← HF2.out, ← HF1.out, HEU.out.1, HEU.out.2.1, HEU.out.2.2]
      rw [this]
    have hl9 : F3.keys.length ≤ maxLen := by unfold maxLen; omega
    have hrt := r8Right_any F3 a c hl9 wc hp
    have hfv : frV F3 a c = .agg (frL F3 a c).toArray := rfl
    rw [hfv] at hrt
    have hlD := HL.out
    have hqD : ∀ b off : Nat, a = some ⟨b, off, none⟩ → b ≠ RB := fun b off e => by have := hb b off e; omega
    have HD := Lib.hid hD; have HP := Lib.hid hp; have HR := Lib.hid hR; have HB := Lib.hid hB; have HQ := Lib.hid hqD; have HRT := Lib.hid hrt; have HA2 := Lib.hid hans
    clear hD hp hl hb hR hB hans hl9 hrt hfv hlD hqD HL HITA HITB HITC HF1 HF2 HF3 HEU HANS
    go_upto_region 16 with fail
    refine wp_region_lit ?_
    refine load_v rfl _ _ rfl D rfl HD.out Tryd.underlying25 rfl (by kernel_rfl) ?_
    go_wp2_with fail
    refine HRT.out.mono ?_
    rintro e w5 ⟨rfl, hb5⟩
    have HD5 := Lib.hid (HD.out.on hb5); have HR5 := Lib.hid (HR.out.on hb5); have HB5 := Lib.hid (HB.out.trans (hb5.mono HB.out.size)); have HP5 := Lib.hid (HP.out.on hb5)
    clear hb5 HD HR HB HP HRT
    cases hrf : rightF F3
    · have hans := HA2.out
      rw [hrf, if_neg (by decide)] at hans
      subst hans
      clear hrf HD5 HP5 HA2
      go_upto_region 17 with fail
      refine wp_region_lit ?_
      refine build_g rfl 37 _ rfl (cells := blank14.toArray) (by kernel_rfl) ?_
      refine store_v rfl rfl _ _ _ rfl RB rfl (l' := blank14) rfl HR5.out rfl (cut14_one zeroFr none 0 false) (by kernel_rfl) ?_
      have hF2 := HR5.out.stored blank14 rfl
      have hBF := below_setCells (show w.heap.size ≤ RB by have := HRB.out; omega) blank14 0 _ HB5.out
      generalize World.setCells w5 _ _ _ = W at hF2 hBF ⊢
      have HF2 := Lib.hid hF2; have HBF := Lib.hid hBF
      clear hF2 hBF HB5 HR5
      refine wpList_nil ?_
      rename_i K hK
      refine hK _ _ ?_
      refine wp_ret ?_
      dsimp only [Exit.then]
      refine bodyPost_ret (results_v (p := 2) (T := 37) (by kernel_rfl) _ _ RB rfl HF2.out Tryd.underlying37 rfl (by kernel_rfl)) rfl ?_
      exact ⟨none, 0, rfl, fun h => absurd h (Nat.lt_irrefl 0), HBF.out⟩
    · have hans := HA2.out
      rw [hrf, if_pos rfl] at hans
      subst hans
      clear hrf HA2
      go_upto_region 18 with fail
      refine wp_region_lit ?_
      refine load_v rfl _ _ rfl D rfl HD5.out Tryd.underlying25 rfl (by kernel_rfl) ?_
      refine build_g rfl 37 _ rfl (cells := (cut14 F3 a c true).toArray) (by kernel_rfl) ?_
      refine store_v rfl rfl _ _ _ rfl RB rfl (l' := cut14 F3 a c true) rfl HR5.out rfl (cut14_one F3 a c true) (by kernel_rfl) ?_
      have hF2 := HR5.out.stored (cut14 F3 a c true) rfl
      have hBF := below_setCells (show w.heap.size ≤ RB by have := HRB.out; omega) (cut14 F3 a c true) 0 _ HB5.out
      have hP9 := HP5.out.farB RB 0 (cut14 F3 a c true) HQ.out
      generalize World.setCells w5 _ _ _ = W at hF2 hBF hP9 ⊢
      have HF2 := Lib.hid hF2; have HBF := Lib.hid hBF; have HP9 := Lib.hid hP9
      clear hF2 hBF hP9 HB5 HR5 HP5 HD5
      refine wpList_nil ?_
      rename_i K hK
      refine hK _ _ ?_
      refine wp_ret ?_
      refine bodyPost_ret (results_v (p := 2) (T := 37) (by kernel_rfl) _ _ RB rfl HF2.out Tryd.underlying37 rfl (by kernel_rfl)) rfl ?_
      exact ⟨a, c, rfl, HP9.out, HBF.out⟩
end Go.Proofs.YtollaaooinoafaaDoor