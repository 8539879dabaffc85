/- Regions by hand: an operation that comes up, whatever the order; a whole frame read in a region that draws its order, or under a guard. -/
import Derived.Test.YtollaaooinoafaaDoorThi
import Derived.Test.YtollaaooinoafaaDoorRb
import Derived.Lib.QuietBelow
namespace Go.Proofs.YtollaaooinoafaaDoor
open Go.RowKit Go.Sort
set_option maxRecDepth 100000
section
variable {P : Program} {ops : Array Oper} {Q : Exit → Act → World → Prop} {md : Region.Mode} {C : World → Prop}
theorem wpOp_on {i : Nat} {o : Oper} {K : Act → World → Prop} {a : Act} {w : World} (hi : ops[i]? = some o) (hw : Region.wanted o (yielded ops a.tmps) = true) (h : o.wp P a w K Q) : wpOp P ops Q i K a w := by
  unfold wpOp
  simp only [hi, hw, if_true]
  exact .inl h
theorem load_any {i : Nat} {o : Oper} {K : Act → World → Prop} {a : Act} {w : World} (hi : ops[i]? = some o) (hw : Region.wanted o (yielded ops a.tmps) = true) (T : TypeId) (x : Operand) (ho : o.op = .load T x)
    (B : Nat) (hx : a.eval x = .pointer (some ⟨B, 0, none⟩)) {t : TypeId} {l : List Value} (hb : BlkV w B t l) {d : TypeDesc} (hu : P.underlying T = some d) (hd : d.isRow = true) (hs : (P.info? T).map (·.size) = some l.length)
    (h : K (a.put o.dst (.agg l.toArray)) w) : wpOp P ops Q i K a w :=
  wpOp_on hi hw (wp_load_mid T x ho B 0 hx l d hb.range hu hd hs h)
theorem store_any {i : Nat} {o : Oper} {K : Act → World → Prop} {a : Act} {w : World} (hi : ops[i]? = some o) (hw : Region.wanted o (yielded ops a.tmps) = true) (hdst : o.dst = none) (T : TypeId) (x y : Operand) (ho : o.op = .store T x y)
    (B : Nat) (hx : a.eval x = .pointer (some ⟨B, 0, none⟩)) {l' : List Value} (hy : a.eval y = .agg l'.toArray) {t : TypeId} {l : List Value} (hb : BlkV w B t l) (hl : l'.length = l.length) (h1 : ∀ v ∈ l', v.oneCell' = true)
    (hs : (P.info? T).map (·.size) = some l.length) (h : K a (w.setCells B 0 l')) : wpOp P ops Q i K a w := by
  refine wpOp_on hi hw (wp_store_mid T x y ho B 0 l'.toArray hx hy ?_ ?_ ?_ ?_)
  · rw [List.size_toArray, hl]; exact hb.there _ (Nat.le_refl _)
  · rw [List.size_toArray, hl]; exact hs
  · exact all_oneCell_toArray h1
  · rw [hdst]; simpa [Act.put] using h
theorem call_any {i : Nat} {o : Oper} {K : Act → World → Prop} {a : Act} {w : World} (hi : ops[i]? = some o) (hw : Region.wanted o (yielded ops a.tmps) = true) {f : FuncId} {args : Array Value} (he : (execOp a.eval o).run P w = .ok (.enter f args) w)
    {v : Value} {R : World → Prop} (hc : Calls P f args w (fun e w' => e = .returned v ∧ R w')) (h : ∀ w', R w' → K (a.put o.dst v) w') : wpOp P ops Q i K a w := by
  refine wpOp_on hi hw ?_
  unfold Oper.wp
  rw [he]
  refine hc.mono fun e w' ⟨h1, h2⟩ => ?_
  subst h1
  exact h w' h2
theorem load_q {rest : List Oper} {o : Oper} {a : Act} {R : Act → Prop} (hw : Region.wanted o (yielded ops a.tmps) = true) (T : TypeId) (x : Operand) (ho : o.op = .load T x)
    (B : Nat) (hx : a.eval x = .pointer (some ⟨B, 0, none⟩)) {t : TypeId} {l : List Value} (hb : ∀ w, C w → BlkV w B t l) {d : TypeDesc} (hu : P.underlying T = some d) (hd : d.isRow = true) (hs : (P.info? T).map (·.size) = some l.length)
    (h : wpQuiet P ops C R rest (a.put o.dst (.agg l.toArray))) : wpQuiet P ops C R (o :: rest) a := by
  unfold wpQuiet
  rw [if_pos hw]
  refine ⟨.agg l.toArray, fun w hC => ?_, h⟩
  unfold Oper.quietAt execOp
  simp only [ho, hx, Instr.loadAt, Instr.sureAddr, Sem.run_bind, Sem.run_pure, Result.andThen_ok, run_loadVar_mid w B 0 T l d (hb w hC).range hu hd hs]
  exact ⟨rfl, rfl⟩
theorem load_g {rest : List Oper} {o : Oper} {a : Act} {w : World} (hw : Region.wanted o (yielded ops a.tmps) = true) (T : TypeId) (x : Operand) (ho : o.op = .load T x)
    (B : Nat) (hx : a.eval x = .pointer (some ⟨B, 0, none⟩)) {t : TypeId} {l : List Value} (hb : BlkV w B t l) {d : TypeDesc} (hu : P.underlying T = some d) (hd : d.isRow = true) (hs : (P.info? T).map (·.size) = some l.length)
    (h : wpList P ops Q rest (a.put o.dst (.agg l.toArray)) w) : wpList P ops Q (o :: rest) a w :=
  wpList_step fun K hK => by
    rw [if_pos hw]
    exact wp_load_mid T x ho B 0 hx l d hb.range hu hd hs (hK _ _ h)
end
/-- two frames in blocks of their own, below them nothing has turned -/
structure TwoF (w0 w : World) (n D E : Nat) (la lb : List Value) (a b : Option Addr) (ka kb : List ByteArray) : Prop where
  below : Below n w0 w
  hn : n ≤ D
  hd : D < E
  one : BlkV w D 25 la
  two : BlkV w E 25 lb
  ka : SSl w a ka
  kb : SSl w b kb
  fmt : FmtAt w
theorem TwoF.on {w0 w w' : World} {n D E : Nat} {la lb : List Value} {a b : Option Addr} {ka kb : List ByteArray} (h : TwoF w0 w n D E la lb a b ka kb) (hb : Below w.heap.size w w') : TwoF w0 w' n D E la lb a b ka kb :=
  ⟨h.below.trans (hb.mono (by have := h.one.lt; have := h.hn; omega)), h.hn, h.hd, h.one.on hb, h.two.on hb, h.ka.on hb, h.kb.on hb, h.fmt.on hb⟩
/-- what the caller had lies below the two frames -/
structure LowF (w0 : World) (a b : Option Addr) (ka kb : List ByteArray) : Prop where
  ka : SSl w0 a ka
  kb : SSl w0 b kb
  fmt : FmtAt w0
theorem TwoF.put1 {w0 w : World} {D E : Nat} {la lb : List Value} {a b : Option Addr} {ka kb : List ByteArray} (h : TwoF w0 w w0.heap.size D E la lb a b ka kb) (l' : List Value) (hl : l'.length = la.length) (hw : LowF w0 a b ka kb) : TwoF w0 (w.setCells D 0 l') w0.heap.size D E l' lb a b ka kb := by
  have hb := below_setCells h.hn l' 0 _ h.below
  exact ⟨hb, h.hn, h.hd, h.one.stored l' hl, h.two.farS (by have := h.hd; omega) _, hw.ka.on hb, hw.kb.on hb, hw.fmt.on hb⟩
theorem TwoF.put2 {w0 w : World} {D E : Nat} {la lb : List Value} {a b : Option Addr} {ka kb : List ByteArray} (h : TwoF w0 w w0.heap.size D E la lb a b ka kb) (l' : List Value) (hl : l'.length = lb.length) (hw : LowF w0 a b ka kb) : TwoF w0 (w.setCells E 0 l') w0.heap.size D E la l' a b ka kb := by
  have hb := below_setCells (show w0.heap.size ≤ E by have := h.hn; have := h.hd; omega) l' 0 _ h.below
  exact ⟨hb, h.hn, h.hd, h.one.farS (by have := h.hd; omega) _, h.two.stored l' hl, hw.ka.on hb, hw.kb.on hb, hw.fmt.on hb⟩
end Go.Proofs.YtollaaooinoafaaDoor