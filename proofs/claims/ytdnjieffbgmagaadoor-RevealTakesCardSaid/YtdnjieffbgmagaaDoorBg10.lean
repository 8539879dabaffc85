/- The texts Od, Oe, Oh0, Pa, Pb, Pc, one behind the other. -/
import Derived.Test.YtdnjieffbgmagaaDoorBg9
import Derived.Test.YtdnjieffbgmagaaDoorQl
import Derived.Test.YtdnjieffbgmagaaDoorFmask
import Derived.Test.YtdnjieffbgmagaaDoorBg1
import Derived.Test.YtdnjieffbgmagaaDoorRows
import Derived.Lib.ConvBytes
import Derived.Lib.BitFns
import Derived.Test.YtdnjieffbgmagaaDoorBg3
/- The contracts of lock's Keys, Lock, Again and Open. -/
namespace Go.Proofs.YtdnjieffbgmagaaDoor
open Go.RowKit Go.Sort
set_option maxRecDepth 100000
theorem Again_bad (k h x : ByteArray) (hbad : ¬ (k.size = 32 ∧ h.size ≤ 1024 ∧ x.size ≤ 1024)) (w : World) :
    Calls Tryd.prog 48 #[.string k, .string h, .string x] w fun e w' => e = .returned (.tuple #[.string ⟨#[]⟩, .int .i64 2]) ∧ w = w' := by
  have h1 := isKey_any k; have h2 := isText_any h; have h3 := isText_any x
  by_cases a : k.size = 32
  · by_cases b : h.size ≤ 1024
    · have c : ¬ (x.size ≤ 1024) := fun c => hbad ⟨a, b, c⟩
      rw [decide_eq_true a] at h1
      rw [decide_eq_true b] at h2
      rw [decide_eq_false c] at h3
      have H1 := Lib.hid h1; have H2 := Lib.hid h2; have H3 := Lib.hid h3
      clear h1 h2 h3 a b c hbad
      go_enter Tryd.func48, Tryd.ntmps48
      go_wp2_with (first | (go_at_call 61; with_reducible refine (H1.out _).mono ?_; rintro e w' ⟨rfl, rfl⟩) | (go_at_call_of 62 (Value.string h); with_reducible refine (H2.out _).mono ?_; rintro e w' ⟨rfl, rfl⟩) | (go_at_call 62; with_reducible refine (H3.out _).mono ?_; rintro e w' ⟨rfl, rfl⟩))
      go_ret2
      exact ⟨rfl, rfl⟩
    · rw [decide_eq_true a] at h1
      rw [decide_eq_false b] at h2
      have H1 := Lib.hid h1; have H2 := Lib.hid h2; have H3 := Lib.hid h3
      clear h1 h2 h3 a b hbad
      go_enter Tryd.func48, Tryd.ntmps48
      go_wp2_with (first | (go_at_call 61; with_reducible refine (H1.out _).mono ?_; rintro e w' ⟨rfl, rfl⟩) | (go_at_call_of 62 (Value.string h); with_reducible refine (H2.out _).mono ?_; rintro e w' ⟨rfl, rfl⟩) | (go_at_call 62; with_reducible refine (H3.out _).mono ?_; rintro e w' ⟨rfl, rfl⟩))
      go_ret2
      exact ⟨rfl, rfl⟩
  · rw [decide_eq_false a] at h1
    have H1 := Lib.hid h1; have H2 := Lib.hid h2; have H3 := Lib.hid h3
    clear h1 h2 h3 a hbad
    go_enter Tryd.func48, Tryd.ntmps48
    go_wp2_with (first | (go_at_call 61; with_reducible refine (H1.out _).mono ?_; rintro e w' ⟨rfl, rfl⟩) | (go_at_call_of 62 (Value.string h); with_reducible refine (H2.out _).mono ?_; rintro e w' ⟨rfl, rfl⟩) | (go_at_call 62; with_reducible refine (H3.out _).mono ?_; rintro e w' ⟨rfl, rfl⟩))
    go_ret2
    exact ⟨rfl, rfl⟩
set_option maxHeartbeats 1000000 in
theorem Again_good (k h x : ByteArray) (hk : k.size = 32) (hh : h.size ≤ 1024) (hx : x.size ≤ 1024) (w : World) (hF : FirstAt w) (hK : KeysAt w) :
    Calls Tryd.prog 48 #[.string k, .string h, .string x] w fun e w' => e = .returned (.tuple #[.string (strL (againL (bl k) (bl h) (bl x))), .int .i64 0]) ∧ Below w.heap.size w w' := by
  have h1 := isKey_any k; have h2 := isText_any h; have h3 := isText_any x
  rw [decide_eq_true hk] at h1
  rw [decide_eq_true hh] at h2
  rw [decide_eq_true hx] at h3
  have H1 := Lib.hid h1; have H2 := Lib.hid h2; have H3 := Lib.hid h3
  have hb0 : Below w.heap.size w (w.alloc (.cells #[.string ⟨#[]⟩, .string k, .string ⟨#[]⟩, .string h] 107)) := by go_grown
  have ht := tagged_any ⟨#[]⟩ k ⟨#[]⟩ h x (by omega) hh (by omega) _ (hF.on hb0) (hK.on hb0)
  have HT := Lib.hid ht; have HB0 := Lib.hid hb0
  clear h1 h2 h3 ht hb0 hF hK hk hh hx
  go_enter Tryd.func48, Tryd.ntmps48
  go_wp2_with (first | (go_at_call 61; with_reducible refine (H1.out _).mono ?_; rintro e w' ⟨rfl, rfl⟩) | (go_at_call_of 62 (Value.string h); with_reducible refine (H2.out _).mono ?_; rintro e w' ⟨rfl, rfl⟩) | (go_at_call 62; with_reducible refine (H3.out _).mono ?_; rintro e w' ⟨rfl, rfl⟩))
  refine HT.out.mono ?_
  rintro e w1 ⟨rfl, hb1⟩
  have hbb := HB0.out.trans (hb1.mono HB0.out.size)
  clear HT HB0 hb1
  go_wp2_with fail
  go_ret2
  exact ⟨rfl, hbb⟩

end Go.Proofs.YtdnjieffbgmagaaDoor

/- The reference 06: whether a key, a head and so many bytes may be; a message's keys; bytes and their tag. -/
namespace Go.Proofs.YtdnjieffbgmagaaDoor
open Go.RowKit Go.Sort
set_option maxRecDepth 100000
set_option maxHeartbeats 4000000 in
theorem refagain_any (kv : Value) (k h b : ByteArray) (hk0 : k.size ≤ 1000000) (hh : h.size ≤ 1024) (hb : b.size ≤ 1100) (w : World) (hk : KAt w kv) :
    Calls Tryd.prog 35 #[kv, .string k, .string h, .string b] w fun e w' => e = .returned (.string (strL (againL (bl k) (bl h) (bl b)))) ∧ Below w.heap.size w w' := by
  have hKA := id hk
  obtain ⟨k0, k1, rfl, hK0, hK1⟩ := hk
  obtain ⟨g0, o0, c0, rfl, hg0, -⟩ := hK0
  obtain ⟨g1, o1, c1, rfl, hg1, -⟩ := hK1
  simp only [S8.l_length, keysL_length] at hKA ⊢
  have hb0 : Below w.heap.size w (w.alloc (.cells #[.slice (some ⟨g0, o0, none⟩) 64 c0, .slice (some ⟨g1, o1, none⟩) 8 c1] 49)) := by go_grown
  have hc0 : (w.alloc (.cells #[.slice (some ⟨g0, o0, none⟩) 64 c0, .slice (some ⟨g1, o1, none⟩) 8 c1] 49)).heap[w.heap.size]? = some (.cells #[.slice (some ⟨g0, o0, none⟩) 64 c0, .slice (some ⟨g1, o1, none⟩) 8 c1] 49) := heap_alloc_new _ _
  have hKA0 := hKA.on hb0
  obtain ⟨W, hW⟩ : ∃ W, w.alloc (.cells #[.slice (some ⟨g0, o0, none⟩) 64 c0, .slice (some ⟨g1, o1, none⟩) 8 c1] 49) = W := ⟨_, rfl⟩
  rw [hW] at hb0 hc0 hKA0
  obtain ⟨s, es⟩ : ∃ s, strL (sizeL h.size) = s := ⟨_, rfl⟩
  have h2t := two_text (UInt8.ofNat (h.size / 256)) (UInt8.ofNat h.size) _ _ (size_hi h.size hh) (size_lo h.size) W
  have h2t' : strL [UInt8.ofNat (h.size / 256), UInt8.ofNat h.size] = s := es
  rw [h2t'] at h2t
  have hss : s.size = 2 := by rw [← es, strL_size]; rfl
  have hsb : bl s = sizeL (bl h).length := by rw [← es, bl_strL, bl_length]
  obtain ⟨p, t, hcat1, hcat2, hns1, hns2, -, -, hps, hts, htb⟩ := cat_ex s h b (by omega)
  have hb1 : Below W.heap.size W (W.alloc (.cells #[.int .u8 ((h.size : Int) / 256), .int .u8 ((h.size : Int) % 256)] 5)) := by go_grown
  have ht := reftag_any (.agg #[.slice (some ⟨g0, o0, none⟩) 64 c0, .slice (some ⟨g1, o1, none⟩) 8 c1]) k t hk0 (by omega) _ (hKA0.on hb1)
  obtain ⟨S, eS⟩ : ∃ S, strL (tagL (bl k) (bl t)) = S := ⟨_, rfl⟩
  have hSs : S.size = 32 := by rw [← eS, strL_size]; exact ofL_length _
  have hfin : b ++ S = strL (againL (bl k) (bl h) (bl b)) := bl_inj (by rw [bl_append, bl_strL, ← eS, bl_strL, htb, hsb]; rfl)
  rw [eS] at ht
  have hns : (9223372036854775807 < b.size + S.size) = False := by simp; omega
  have hcat : ∀ W : World, (Op.stringOp .add b S).run Tryd.prog W = .ok (.string (b ++ S)) W := fun W => by rw [run_string_add_sum W _ _ (by omega)]
  have e0 : W.cell? ⟨w.heap.size, 0, none⟩ = some (.slice (some ⟨g0, o0, none⟩) 64 c0) := by rw [cell_of_row _ _ _ _ _ _ hc0]; rfl
  have e1 : W.cell? ⟨w.heap.size, 1, none⟩ = some (.slice (some ⟨g1, o1, none⟩) 8 c1) := by rw [cell_of_row _ _ _ _ _ _ hc0]; rfl
  have hbw := hb0.trans (hb1.mono hb0.size)
  have hwq : IntKind.i64.wrap ((h.size : Int).tdiv 256) = (h.size : Int) / 256 := by rw [Int.tdiv_eq_ediv_of_nonneg (by omega)]; exact IntWalk.i64_in _ (by omega)
  have hwm : IntKind.i64.wrap ((h.size : Int).tmod 256) = (h.size : Int) % 256 := by rw [Int.tmod_eq_emod_of_nonneg (by omega)]; exact IntWalk.i64_in _ (by omega)
  have HT := Lib.hid ht; have HFIN := Lib.hid hfin; have HBW := Lib.hid hbw; have HW := Lib.hid hW
  clear ht hfin hbw hW eS hSs hss hsb h2t' es hps hts htb hKA hKA0 hb0 hb1 hc0 hk0
  go_enter Tryd.func35, Tryd.ntmps35
  go_upto_region 1 with fail
  rw [HW.out]
  clear HW
  go_wp2_with fail
  refine HT.out.mono ?_
  rintro e w1 ⟨rfl, hb2⟩
  have hbb := HBW.out.trans (hb2.mono HBW.out.size)
  clear HT HBW hb2 h2t e0 e1
  go_wp2_with fail
  go_ret
  exact ⟨by rw [← HFIN.out]; rfl, hbb⟩
end Go.Proofs.YtdnjieffbgmagaaDoor

/- A slice of bytes that a conversion has laid: what it holds, stores into it, and the text that is made of it. -/
namespace Go.Proofs.YtdnjieffbgmagaaDoor
open Go.RowKit
set_option maxRecDepth 100000
/-- block g begins with the bytes l, and they may be turned -/
structure BytesAt (w : World) (g : Nat) (l : List UInt8) : Prop where
  lt : g < w.heap.size
  cell : ∀ i, i < l.length → w.cell? ⟨g, i, none⟩ = some (.int .u8 ((l.getD i 0).toNat : Int))
  free : ∀ i, i < l.length → w.frozen? ⟨g, i, none⟩ = false
theorem BytesAt.on {w w' : World} {g : Nat} {l : List UInt8} (h : BytesAt w g l) (hb : Below w.heap.size w w') : BytesAt w' g l :=
  ⟨Nat.lt_of_lt_of_le h.lt hb.size, fun i hi => by rw [hb.cell (p := ⟨g, i, none⟩) h.lt]; exact h.cell i hi, fun i hi => by rw [hb.frozen (p := ⟨g, i, none⟩) h.lt]; exact h.free i hi⟩
theorem BytesAt.set {w : World} {g : Nat} {l : List UInt8} (h : BytesAt w g l) (i : Nat) (x : UInt8) : BytesAt (w.setCell ⟨g, i, none⟩ (.int .u8 (x.toNat : Int))) g (l.set i x) := by
  refine ⟨by simpa using h.lt, fun j hj => ?_, fun j hj => ?_⟩
  · rw [List.length_set] at hj
    by_cases e : i = j
    · subst e
      rw [World.cell?_setCell_same _ _ _ (h.cell i hj)]
      simp [hj]
    · rw [setCell_far (h.cell j hj) (fun h => e h.symm)]
      congr 3
      simp [List.getD, List.getElem?_set_ne e]
  · rw [List.length_set] at hj
    have := World.frozen?_setCells g [.int .u8 (x.toNat : Int)] i w ⟨g, j, none⟩
    rw [show w.setCell ⟨g, i, none⟩ (.int .u8 (x.toNat : Int)) = w.setCells g i [.int .u8 (x.toNat : Int)] from rfl, this]
    exact h.free j hj
theorem BytesAt.far {w : World} {g : Nat} {l : List UInt8} (h : BytesAt w g l) (b i : Nat) (hne : b ≠ g) (v : Value) : BytesAt (w.setCell ⟨b, i, none⟩ v) g l := by
  refine ⟨by simpa using h.lt, fun j hj => ?_, fun j hj => ?_⟩
  · rw [World.cell?_setCell_other _ _ _ _ (fun e => hne (by cases e; rfl))]
    exact h.cell j hj
  · have := World.frozen?_setCells b [v] i w ⟨g, j, none⟩
    rw [show w.setCell ⟨b, i, none⟩ v = w.setCells b i [v] from rfl, this]
    exact h.free j hj
/-- string(b) -/
theorem BytesAt.text {w : World} {g : Nat} {l : List UInt8} (h : BytesAt w g l) (n c : Nat) (hn : n = l.length) :
    (convert 74 9 (.slice (some ⟨g, 0, none⟩) n c)).run Tryd.prog w = .ok (.string (strL l)) w := by
  subst hn
  exact run_convert_bytes_back (P := Tryd.prog) w 74 9 5 ⟨g, 0, none⟩ c l Tryd.underlying74 Tryd.underlying5 Tryd.underlying9 (fun j hj => by
    rw [Addr.add_mid, Nat.zero_add, h.cell j hj]
    simp [hj])
/-- []byte(s) -/
theorem made_of (s : ByteArray) (w : World) : ∃ c W, (convert 9 74 (.string s)).run Tryd.prog w = .ok (.slice (some ⟨w.heap.size, 0, none⟩) s.size c) W ∧ BytesAt W w.heap.size (bl s) ∧ Below w.heap.size w W ∧ W.heap.size = w.heap.size + 1 := by
  refine ⟨_, _, Lib.run_convert_string_bytes w 9 74 5 s Tryd.underlying9 Tryd.underlying74 Tryd.underlying5, ⟨?_, fun i hi => ?_, fun i hi => ?_⟩, ⟨rfl, rfl, rfl, by rw [Lib.bytesWorld_size]; omega, fun k hk => Lib.bytesWorld_at_old w _ s k hk⟩, Lib.bytesWorld_size _ _ _⟩
  · rw [Lib.bytesWorld_size]; omega
  · exact Lib.bytesWorld_cell w _ s i hi
  · have h2 : (Lib.bytesCells w 5 s).size ≥ s.size := by
      unfold Lib.bytesCells
      simp
    rw [bl_length] at hi
    unfold World.frozen?
    rw [Lib.bytesWorld_at_new]
    simp
    omega
end Go.Proofs.YtdnjieffbgmagaaDoor

/- Records as bytes, in plain mathematics: a number's bytes, what stands at a place, and that what is packed is unpacked as it was. -/
namespace Go.Proofs.YtdnjieffbgmagaaDoor
set_option maxRecDepth 100000
theorem revRec {α : Type} {M : List α → Prop} (h0 : M []) (h1 : ∀ l a, M l → M (l ++ [a])) (l : List α) : M l := by
  have h : ∀ r : List α, M r.reverse := fun r => by
    induction r with
    | nil => exact h0
    | cons a r ih => rw [List.reverse_cons]; exact h1 _ _ ih
  have := h l.reverse
  rwa [List.reverse_reverse] at this
/-- a number's bytes without those that are 0 ahead, the highest first -/
def digL (n : Nat) : List UInt8 := if _h : n = 0 then [] else digL (n / 256) ++ [UInt8.ofNat (n % 256)]
termination_by n
decreasing_by omega
def valL (l : List UInt8) : Nat := l.foldl (fun a d => 256 * a + d.toNat) 0
def numB (n : Nat) : List UInt8 := UInt8.ofNat (digL n).length :: digL n

theorem digL_zero : digL 0 = [] := by rw [digL]; simp
theorem digL_pos (n : Nat) (h : n ≠ 0) : digL n = digL (n / 256) ++ [UInt8.ofNat (n % 256)] := by
  rw [digL, dif_neg h]
theorem valL_snoc (l : List UInt8) (d : UInt8) : valL (l ++ [d]) = 256 * valL l + d.toNat := by
  unfold valL; rw [List.foldl_append]; rfl
theorem ofNat_mod (n : Nat) : (UInt8.ofNat (n % 256)).toNat = n % 256 := by
  rw [UInt8.toNat_ofNat']; omega
theorem valL_digL (n : Nat) : valL (digL n) = n := by
  induction n using Nat.strongRecOn with
  | _ n ih =>
    by_cases h : n = 0
    · subst h; rw [digL_zero]; rfl
    · rw [digL_pos n h, valL_snoc, ih (n / 256) (by omega), ofNat_mod]; omega
theorem digL_len_le (k n : Nat) (h : n < 256 ^ k) : (digL n).length ≤ k := by
  induction k generalizing n with
  | zero => have : n = 0 := by simpa using h
            subst this; rw [digL_zero]; simp
  | succ k ih =>
    by_cases h0 : n = 0
    · subst h0; rw [digL_zero]; simp
    · rw [digL_pos n h0, List.length_append]
      have := ih (n / 256) (by rw [Nat.pow_succ] at h; omega)
      simp; omega
theorem valL_lt (l : List UInt8) : valL l < 256 ^ l.length := by
  induction l using revRec with
  | h0 => simp [valL]
  | h1 l d ih =>
    rw [valL_snoc, List.length_append, List.length_singleton, Nat.pow_succ]
    have := d.toNat_lt
    omega
theorem digL_lt (n : Nat) : n < 256 ^ (digL n).length := by
  have := valL_lt (digL n); rwa [valL_digL] at this
theorem pow256_8 : (256 : Nat) ^ 8 = 18446744073709551616 := by decide
theorem digL_len8 (n : Nat) (h : n < 18446744073709551616) : (digL n).length ≤ 8 := digL_len_le 8 n (by rw [pow256_8]; exact h)
/-- how many bytes a number has, told by how many bits -/
theorem digL_len_bits (n L : Nat) (h1 : n < 2 ^ L) (h2 : L = 0 ∨ 2 ^ (L - 1) ≤ n) : (digL n).length = (L + 7) / 8 := by
  have hp : ∀ k, (256 : Nat) ^ k = 2 ^ (8 * k) := fun k => by rw [show (256 : Nat) = 2 ^ 8 from rfl, ← Nat.pow_mul]
  apply Nat.le_antisymm
  · apply digL_len_le
    rw [hp]
    exact Nat.lt_of_lt_of_le h1 (Nat.pow_le_pow_right (by omega) (by omega))
  · rcases h2 with h2 | h2
    · subst h2; simp
    · by_cases hL : L = 0
      · subst hL; simp
      · rcases Nat.lt_or_ge (digL n).length ((L + 7) / 8) with hlt | hge
        · exfalso
          have := digL_lt n
          rw [hp] at this
          have h3 : 2 ^ (8 * (digL n).length) ≤ 2 ^ (L - 1) := Nat.pow_le_pow_right (by omega) (by omega)
          omega
        · exact hge
/-- a number's byte at a place -/
theorem digL_get (n i : Nat) (h : i < (digL n).length) : (digL n).getD i 0 = UInt8.ofNat (n / 256 ^ ((digL n).length - 1 - i) % 256) := by
  induction n using Nat.strongRecOn generalizing i with
  | _ n ih =>
    by_cases h0 : n = 0
    · subst h0; rw [digL_zero] at h; simp at h
    · have e := digL_pos n h0
      have el : (digL n).length = (digL (n / 256)).length + 1 := by rw [e]; simp
      rw [el] at h ⊢
      rw [e]
      by_cases hi : i < (digL (n / 256)).length
      · rw [show (digL (n / 256) ++ [UInt8.ofNat (n % 256)]).getD i 0 = (digL (n / 256)).getD i 0 by simp [List.getD, List.getElem?_append_left hi], ih (n / 256) (by omega) i hi, Nat.div_div_eq_div_mul, ← Nat.pow_succ']
        rw [show (digL (n / 256)).length + 1 - 1 - i = ((digL (n / 256)).length - 1 - i).succ by omega]
      · obtain rfl : i = (digL (n / 256)).length := by omega
        rw [show (digL (n / 256)).length + 1 - 1 - (digL (n / 256)).length = 0 by omega]
        simp

theorem numB_length (n : Nat) : (numB n).length = 1 + (digL n).length := by unfold numB; simp; omega
/-- a part -/
structure Pt where
  text : Bool
  n : Nat
  s : ByteArray
def partB (p : Pt) : List UInt8 := if p.text then numB p.s.size ++ bl p.s else numB p.n
def packL (l : List Pt) : List UInt8 := l.flatMap partB
def longP (p : Pt) : Bool := p.text && decide (1024 < p.s.size)
def longL (l : List Pt) : Bool := l.any longP
theorem packL_append (a b : List Pt) : packL (a ++ b) = packL a ++ packL b := List.flatMap_append
theorem packL_one (p : Pt) : packL [p] = partB p := List.flatMap_singleton ..
theorem longL_append (a b : List Pt) : longL (a ++ b) = (longL a || longL b) := List.any_append

/-- parts that are told so far, and the place -/
abbrev St := List Pt × Nat
/-- the parts so far are those that the bytes up to the place tell -/
structure Told (s : List UInt8) (st : St) : Prop where
  le : st.2 ≤ s.length
  pack : packL st.1 = s.take st.2
  long : longL st.1 = false
  num : ∀ p ∈ st.1, p.n < 18446744073709551616
theorem Told.nil (s : List UInt8) : Told s ([], 0) := ⟨by simp, by simp [packL], rfl, by simp⟩
end Go.Proofs.YtdnjieffbgmagaaDoor

/- The contract of bits.Len64: how many bits a number has. -/
namespace Go.Proofs.YtdnjieffbgmagaaDoor
open Go.RowKit
set_option maxRecDepth 100000
theorem len8_fin : ∀ n : Fin 256, ∃ l : Fin 9, Lib.len8 (n.val : Int) = (l.val : Int) ∧ n.val < 2 ^ l.val ∧ (l.val = 0 ∧ n.val = 0 ∨ 0 < l.val ∧ 2 ^ (l.val - 1) ≤ n.val) := by decide +kernel
theorem len8_bits (x k : Nat) (h : x / 2 ^ k < 256) (hk : k = 0 ∨ 2 ^ k ≤ x) : ∃ l : Nat, Lib.len8 ((x / 2 ^ k : Nat) : Int) = (l : Int) ∧ l ≤ 8 ∧ x < 2 ^ (l + k) ∧ (l + k = 0 ∨ 2 ^ (l + k - 1) ≤ x) := by
  obtain ⟨l, h1, h2, h3⟩ := len8_fin ⟨x / 2 ^ k, h⟩
  have hp := Nat.two_pow_pos k
  refine ⟨l.val, h1, by omega, ?_, ?_⟩
  · rw [Nat.pow_add]
    exact (Nat.div_lt_iff_lt_mul hp).1 h2
  · rcases h3 with ⟨h4, h5⟩ | ⟨h4, h5⟩
    · rcases hk with rfl | hk
      · left; omega
      · exfalso
        have : 1 ≤ x / 2 ^ k := (Nat.le_div_iff_mul_le hp).2 (by omega)
        simp only at h5
        omega
    · right
      rw [show l.val + k - 1 = l.val - 1 + k by omega, Nat.pow_add]
      exact (Nat.le_div_iff_mul_le hp).1 h5
theorem ret_i64 {a b : Int} (h : a = b) : Ending.returned (.int .i64 a) = .returned (.int .i64 b) := by rw [h]
/-- what the table tells of the byte that is left -/
theorem len_leaf (x k z : Nat) (ez : x / 2 ^ k = z) (hz : z < 256) (hk : k = 0 ∨ 2 ^ k ≤ x) (hk2 : k ≤ 56) : ∃ l : Nat,
    (∀ W : World, (Instr.index 9 (.string Lib.len8tab) (.int .u8 (z : Int))).run Tryd.prog W = .ok (.int .u8 (l : Int)) W) ∧ l ≤ 8 ∧
    wrap64 ((k : Int) + wrap64 (l : Int)) = ((l + k : Nat) : Int) ∧ x < 2 ^ (l + k) ∧ (l + k = 0 ∨ 2 ^ (l + k - 1) ≤ x) ∧ l + k ≤ 64 := by
  obtain ⟨l, h1, h2, h3, h4⟩ := len8_bits x k (by omega) hk
  rw [ez] at h1
  have e1 : wrap64 (l : Int) = l := by unfold wrap64; omega
  refine ⟨l, fun W => ?_, h2, ?_, h3, h4, by omega⟩
  · rw [Lib.run_index_len8tab (P := Tryd.prog) W 9 .u8 (z : Int) Tryd.underlying9 (by omega) (by omega), h1]
  · rw [e1]; unfold wrap64; omega
set_option maxHeartbeats 4000000 in
theorem Len64_any (x : Nat) (hx : x < 18446744073709551616) (w : World) :
    Calls Tryd.prog 84 #[.int .u64 (x : Int)] w fun e w' => ∃ L : Nat, e = .returned (.int .i64 (L : Int)) ∧ w = w' ∧ x < 2 ^ L ∧ (L = 0 ∨ 2 ^ (L - 1) ≤ x) ∧ L ≤ 64 := by
  by_cases c1 : (4294967296 : Int) ≤ (x : Int)
  · have k1 : (x : Int) / 4294967296 < 4294967296 := by omega
    by_cases c2 : (65536 : Int) ≤ (x : Int) / 4294967296
    · have k2 : (x : Int) / 4294967296 / 65536 < 65536 := by omega
      by_cases c3 : (256 : Int) ≤ (x : Int) / 4294967296 / 65536
      · have dy1 : (4294967296 : Int) ≤ (x : Int) := by omega
        obtain ⟨y1, ey1⟩ : ∃ y1 : Nat, (x : Int) / 4294967296 = (y1 : Int) := ⟨x / 4294967296, by omega⟩
        have dy2 : (65536 : Int) ≤ (y1 : Int) := by omega
        obtain ⟨y2, ey2⟩ : ∃ y2 : Nat, (y1 : Int) / 65536 = (y2 : Int) := ⟨y1 / 65536, by omega⟩
        have dy3 : (256 : Int) ≤ (y2 : Int) := by omega
        obtain ⟨y3, ey3⟩ : ∃ y3 : Nat, (y2 : Int) / 256 = (y3 : Int) := ⟨y2 / 256, by omega⟩
        have hz : (y3 : Int) < 256 := by omega
        obtain ⟨l, hix, hl, hw, h1, h2, h3⟩ := len_leaf x 56 y3 (by omega) (by omega) (by omega) (by omega)
        clear c1 c2 c3 k1 k2
        have HF := Lib.hid (And.intro hw (And.intro h1 (And.intro h2 h3)))
        clear hw h1 h2 h3
        go_enter Tryd.func84, Tryd.ntmps84
        go_upto_region 10 with fail
        generalize hT : ByteArray.mk _ = T
        obtain rfl : Lib.len8tab = T := by subst hT; kernel_rfl
        clear hT
        go_wp2_with fail
        go_ret
        obtain ⟨hw, h1, h2, h3⟩ := HF.out
        exact ⟨_, ret_i64 (by first | exact hw | omega), rfl, h1, h2, h3⟩
      · have dy1 : (4294967296 : Int) ≤ (x : Int) := by omega
        obtain ⟨y1, ey1⟩ : ∃ y1 : Nat, (x : Int) / 4294967296 = (y1 : Int) := ⟨x / 4294967296, by omega⟩
        have dy2 : (65536 : Int) ≤ (y1 : Int) := by omega
        obtain ⟨y2, ey2⟩ : ∃ y2 : Nat, (y1 : Int) / 65536 = (y2 : Int) := ⟨y1 / 65536, by omega⟩
        have dy3 : ¬ (256 : Int) ≤ (y2 : Int) := by omega
        have hz : (y2 : Int) < 256 := by omega
        obtain ⟨l, hix, hl, hw, h1, h2, h3⟩ := len_leaf x 48 y2 (by omega) (by omega) (by omega) (by omega)
        clear c1 c2 c3 k1 k2
        have HF := Lib.hid (And.intro hw (And.intro h1 (And.intro h2 h3)))
        clear hw h1 h2 h3
        go_enter Tryd.func84, Tryd.ntmps84
        go_upto_region 10 with fail
        generalize hT : ByteArray.mk _ = T
        obtain rfl : Lib.len8tab = T := by subst hT; kernel_rfl
        clear hT
        go_wp2_with fail
        go_ret
        obtain ⟨hw, h1, h2, h3⟩ := HF.out
        exact ⟨_, ret_i64 (by first | exact hw | omega), rfl, h1, h2, h3⟩
    · have k2 : (x : Int) / 4294967296 < 65536 := by omega
      by_cases c3 : (256 : Int) ≤ (x : Int) / 4294967296
      · have dy1 : (4294967296 : Int) ≤ (x : Int) := by omega
        obtain ⟨y1, ey1⟩ : ∃ y1 : Nat, (x : Int) / 4294967296 = (y1 : Int) := ⟨x / 4294967296, by omega⟩
        have dy2 : ¬ (65536 : Int) ≤ (y1 : Int) := by omega
        have dy3 : (256 : Int) ≤ (y1 : Int) := by omega
        obtain ⟨y3, ey3⟩ : ∃ y3 : Nat, (y1 : Int) / 256 = (y3 : Int) := ⟨y1 / 256, by omega⟩
        have hz : (y3 : Int) < 256 := by omega
        obtain ⟨l, hix, hl, hw, h1, h2, h3⟩ := len_leaf x 40 y3 (by omega) (by omega) (by omega) (by omega)
        clear c1 c2 c3 k1 k2
        have HF := Lib.hid (And.intro hw (And.intro h1 (And.intro h2 h3)))
        clear hw h1 h2 h3
        go_enter Tryd.func84, Tryd.ntmps84
        go_upto_region 10 with fail
        generalize hT : ByteArray.mk _ = T
        obtain rfl : Lib.len8tab = T := by subst hT; kernel_rfl
        clear hT
        go_wp2_with fail
        go_ret
        obtain ⟨hw, h1, h2, h3⟩ := HF.out
        exact ⟨_, ret_i64 (by first | exact hw | omega), rfl, h1, h2, h3⟩
      · have dy1 : (4294967296 : Int) ≤ (x : Int) := by omega
        obtain ⟨y1, ey1⟩ : ∃ y1 : Nat, (x : Int) / 4294967296 = (y1 : Int) := ⟨x / 4294967296, by omega⟩
        have dy2 : ¬ (65536 : Int) ≤ (y1 : Int) := by omega
        have dy3 : ¬ (256 : Int) ≤ (y1 : Int) := by omega
        have hz : (y1 : Int) < 256 := by omega
        obtain ⟨l, hix, hl, hw, h1, h2, h3⟩ := len_leaf x 32 y1 (by omega) (by omega) (by omega) (by omega)
        clear c1 c2 c3 k1 k2
        have HF := Lib.hid (And.intro hw (And.intro h1 (And.intro h2 h3)))
        clear hw h1 h2 h3
        go_enter Tryd.func84, Tryd.ntmps84
        go_upto_region 10 with fail
        generalize hT : ByteArray.mk _ = T
        obtain rfl : Lib.len8tab = T := by subst hT; kernel_rfl
        clear hT
        go_wp2_with fail
        go_ret
        obtain ⟨hw, h1, h2, h3⟩ := HF.out
        exact ⟨_, ret_i64 (by first | exact hw | omega), rfl, h1, h2, h3⟩
  · have k1 : (x : Int) < 4294967296 := by omega
    by_cases c2 : (65536 : Int) ≤ (x : Int)
    · have k2 : (x : Int) / 65536 < 65536 := by omega
      by_cases c3 : (256 : Int) ≤ (x : Int) / 65536
      · have dy1 : ¬ (4294967296 : Int) ≤ (x : Int) := by omega
        have dy2 : (65536 : Int) ≤ (x : Int) := by omega
        obtain ⟨y2, ey2⟩ : ∃ y2 : Nat, (x : Int) / 65536 = (y2 : Int) := ⟨x / 65536, by omega⟩
        have dy3 : (256 : Int) ≤ (y2 : Int) := by omega
        obtain ⟨y3, ey3⟩ : ∃ y3 : Nat, (y2 : Int) / 256 = (y3 : Int) := ⟨y2 / 256, by omega⟩
        have hz : (y3 : Int) < 256 := by omega
        obtain ⟨l, hix, hl, hw, h1, h2, h3⟩ := len_leaf x 24 y3 (by omega) (by omega) (by omega) (by omega)
        clear c1 c2 c3 k1 k2
        have HF := Lib.hid (And.intro hw (And.intro h1 (And.intro h2 h3)))
        clear hw h1 h2 h3
        go_enter Tryd.func84, Tryd.ntmps84
        go_upto_region 10 with fail
        generalize hT : ByteArray.mk _ = T
        obtain rfl : Lib.len8tab = T := by subst hT; kernel_rfl
        clear hT
        go_wp2_with fail
        go_ret
        obtain ⟨hw, h1, h2, h3⟩ := HF.out
        exact ⟨_, ret_i64 (by first | exact hw | omega), rfl, h1, h2, h3⟩
      · have dy1 : ¬ (4294967296 : Int) ≤ (x : Int) := by omega
        have dy2 : (65536 : Int) ≤ (x : Int) := by omega
        obtain ⟨y2, ey2⟩ : ∃ y2 : Nat, (x : Int) / 65536 = (y2 : Int) := ⟨x / 65536, by omega⟩
        have dy3 : ¬ (256 : Int) ≤ (y2 : Int) := by omega
        have hz : (y2 : Int) < 256 := by omega
        obtain ⟨l, hix, hl, hw, h1, h2, h3⟩ := len_leaf x 16 y2 (by omega) (by omega) (by omega) (by omega)
        clear c1 c2 c3 k1 k2
        have HF := Lib.hid (And.intro hw (And.intro h1 (And.intro h2 h3)))
        clear hw h1 h2 h3
        go_enter Tryd.func84, Tryd.ntmps84
        go_upto_region 10 with fail
        generalize hT : ByteArray.mk _ = T
        obtain rfl : Lib.len8tab = T := by subst hT; kernel_rfl
        clear hT
        go_wp2_with fail
        go_ret
        obtain ⟨hw, h1, h2, h3⟩ := HF.out
        exact ⟨_, ret_i64 (by first | exact hw | omega), rfl, h1, h2, h3⟩
    · have k2 : (x : Int) < 65536 := by omega
      by_cases c3 : (256 : Int) ≤ (x : Int)
      · have dy1 : ¬ (4294967296 : Int) ≤ (x : Int) := by omega
        have dy2 : ¬ (65536 : Int) ≤ (x : Int) := by omega
        have dy3 : (256 : Int) ≤ (x : Int) := by omega
        obtain ⟨y3, ey3⟩ : ∃ y3 : Nat, (x : Int) / 256 = (y3 : Int) := ⟨x / 256, by omega⟩
        have hz : (y3 : Int) < 256 := by omega
        obtain ⟨l, hix, hl, hw, h1, h2, h3⟩ := len_leaf x 8 y3 (by omega) (by omega) (by omega) (by omega)
        clear c1 c2 c3 k1 k2
        have HF := Lib.hid (And.intro hw (And.intro h1 (And.intro h2 h3)))
        clear hw h1 h2 h3
        go_enter Tryd.func84, Tryd.ntmps84
        go_upto_region 10 with fail
        generalize hT : ByteArray.mk _ = T
        obtain rfl : Lib.len8tab = T := by subst hT; kernel_rfl
        clear hT
        go_wp2_with fail
        go_ret
        obtain ⟨hw, h1, h2, h3⟩ := HF.out
        exact ⟨_, ret_i64 (by first | exact hw | omega), rfl, h1, h2, h3⟩
      · have dy1 : ¬ (4294967296 : Int) ≤ (x : Int) := by omega
        have dy2 : ¬ (65536 : Int) ≤ (x : Int) := by omega
        have dy3 : ¬ (256 : Int) ≤ (x : Int) := by omega
        have hz : (x : Int) < 256 := by omega
        obtain ⟨l, hix, hl, hw, h1, h2, h3⟩ := len_leaf x 0 x (by omega) (by omega) (by omega) (by omega)
        clear c1 c2 c3 k1 k2
        have HF := Lib.hid (And.intro hw (And.intro h1 (And.intro h2 h3)))
        clear hw h1 h2 h3
        go_enter Tryd.func84, Tryd.ntmps84
        go_upto_region 10 with fail
        generalize hT : ByteArray.mk _ = T
        obtain rfl : Lib.len8tab = T := by subst hT; kernel_rfl
        clear hT
        go_wp2_with fail
        go_ret
        obtain ⟨hw, h1, h2, h3⟩ := HF.out
        exact ⟨_, ret_i64 (by first | exact hw | omega), rfl, h1, h2, h3⟩
end Go.Proofs.YtdnjieffbgmagaaDoor

/- The contract of wire's withNumber: bytes, and a number's behind them. -/
namespace Go.Proofs.YtdnjieffbgmagaaDoor
open Go.RowKit
set_option maxRecDepth 100000
/-- m bytes put behind a slice of the call's own, also where it is long -/
theorem append_long {ops : Array Oper} {rest : List Oper} {o : Oper} {a : Act} {Q : Exit → Act → World → Prop} {w : World} (hgd : o.guard = none) (s x : Operand)
    (ho : o.op = .call { callee := .builtin .append, args := #[s, x], argTypes := #[74, 74] })
    (base : Nat) (v : Value) (l : List UInt8) (b : UInt8) (B : Nat) (hs : a.eval s = v) (hown : Own w base v l) (hx : a.eval x = .slice (some ⟨B, 0, none⟩) 1 1)
    (hc : w.cell? ⟨B, 0, none⟩ = some (.int .u8 (b.toNat : Int))) (hl : l.length ≤ 100000000) (hbase : base ≤ w.heap.size)
    (h : ∀ g cap w', Own w' base (.slice (some ⟨g, 0, none⟩) (l.length + 1) cap) (l ++ [b]) → w.grownBy w' v.ownBlock → wpList Tryd.prog ops Q rest (a.put o.dst (.slice (some ⟨g, 0, none⟩) (l.length + 1) cap)) w') :
    wpList Tryd.prog ops Q (o :: rest) a w := by
  obtain ⟨i0, hi, hz0, hz1, hz2⟩ := info_parts infoB
  refine wpList_append_own w hgd s x 74 ho base 5 i0 (.int .u8 0) 1 1 Tryd.underlying74 hi hz0 hz1 hz2 rfl (by decide) v l.length (Lib.byteCells l) hs hown ⟨B, 0, none⟩ 1 1 [.int .u8 (b.toNat : Int)] hx rfl ?_ ?_ (by unfold maxLen; omega) (by omega) hbase ?_
  · intro j u hu
    rcases j with _ | j
    · simp at hu; subst hu; simpa [Addr.add] using hc
    · simp at hu
  · intro u hu; simp at hu; subst hu; rfl
  · intro v' w' ho' hg _
    obtain ⟨g, cap, rfl, -, -⟩ := World.ownsRow.form ho' (by omega)
    refine h g cap w' ?_ hg
    unfold Own
    rw [List.length_append, Lib.byteCells_append]
    exact ho'
theorem Own.nil (w : World) (base : Nat) : Own w base (.slice none 0 0) [] := ⟨rfl, .inl ⟨rfl, rfl⟩⟩

/-- what is no row of bytes stands as it was -/
def Keeps (w w' : World) : Prop := ∀ (k : Nat) (cs : Array Value) (t : TypeId) (fr : Nat × Nat), w.heap[k]? = some (.cells cs t fr) → t ≠ 5 → w'.heap[k]? = some (.cells cs t fr)
theorem Keeps.refl (w : World) : Keeps w w := fun _ _ _ _ h _ => h
theorem Keeps.trans {w w1 w2 : World} (h : Keeps w w1) (h2 : Keeps w1 w2) : Keeps w w2 := fun k cs t fr h3 h4 => h2 k cs t fr (h k cs t fr h3 h4) h4
theorem Own.keeps {w w' : World} {base : Nat} {v : Value} {l : List UInt8} (h : Own w base v l) (hg : w.grownBy w' v.ownBlock) : Keeps w w' := by
  intro k cs t fr h1 h2
  rw [hg.block k (Array.getElem?_eq_some_iff.1 h1).1 ?_]
  · exact h1
  · intro e
    rcases h.2 with ⟨rfl, -⟩ | ⟨g, cap, cur, rfl, -, hc, -⟩
    · cases e
    · cases e
      rw [h1] at hc
      cases hc
      exact h2 rfl
theorem Keeps.alloc {w w1 : World} (h : Keeps w w1) (o : Obj) : Keeps w (w1.alloc o) := h.trans fun k cs t fr h1 _ => by
  rw [(World.grownBy_alloc w1 o none).block k (Array.getElem?_eq_some_iff.1 h1).1 (by simp)]; exact h1
def NumRel (w : World) (base : Nat) (l : List UInt8) (n M : Nat) (v i : Value) (wr : World) : Prop :=
  ∃ (k g cap : Nat), k ≤ M ∧ i = .int .i64 (k : Int) ∧ v = .slice (some ⟨g, 0, none⟩) (l.length + 1 + k) cap ∧ Own wr base v (l ++ UInt8.ofNat M :: (digL n).take k) ∧ Below base w wr ∧ Keeps w wr
theorem u8_of (M : Nat) (h : M < 256) : ((UInt8.ofNat M).toNat : Int) = (M : Int) := by rw [UInt8.toNat_ofNat']; omega
theorem take_snoc (l : List UInt8) (k : Nat) (h : k < l.length) : l.take (k + 1) = l.take k ++ [l.getD k 0] := by
  rw [List.take_succ_eq_append_getElem h]; simp [List.getD, h]
set_option maxHeartbeats 2000000 in
theorem withNumber_any (v : Value) (l : List UInt8) (base n : Nat) (hn : n < 18446744073709551616) (hl : l.length ≤ 10000000) (w : World) (hown : Own w base v l) (hbase : base ≤ w.heap.size) :
    Calls Tryd.prog 79 #[v, .int .u64 (n : Int)] w fun e w' => ∃ v', e = .returned v' ∧ Own w' base v' (l ++ numB n) ∧ Below base w w' ∧ Keeps w w' := by
  have hO := Lib.hid hown; have hB := Lib.hid hbase; have hL := Lib.hid hl
  clear hown hbase hl
  go_enter Tryd.func79, Tryd.ntmps79
  go_wp2_with fail
  refine (Len64_any n hn _).mono ?_
  rintro e w1 ⟨L, rfl, rfl, h1, h2, h3⟩
  have hlen := digL_len_bits n L h1 h2
  obtain ⟨M, eM⟩ : ∃ M : Nat, (L + 7) / 8 = M := ⟨_, rfl⟩
  have eMi : ((L : Int) + 7) / 8 = (M : Int) := by omega
  have hM8 : (M : Int) ≤ 8 := by omega
  rw [eM] at hlen
  have HLEN := Lib.hid hlen
  have hu8 := u8_of M (by omega)
  clear h1 h2 hlen eM
  have HU := Lib.hid hu8
  go_wp2_with (at_builtin; refine append_long rfl _ _ rfl base _ l (UInt8.ofNat M) w.heap.size rfl (Own.alloc hO.out _) rfl (by rw [HU.out]; simp) (by have := hL.out; omega) (by have := hB.out; simp; omega) ?_)
  intro g cap w1 hO1 hg1
  have hB1 := hO.out.below (Below.refl _ _) hB.out hg1
  have hK1 := ((Keeps.refl w).alloc _).trans ((hO.out.alloc _).keeps hg1)
  have HO1 := Lib.hid hO1; have HB1 := Lib.hid (And.intro hB1 hK1)
  clear hO1 hB1 hK1 hg1 hO hu8 HU
  clear eMi h3
  go_wp2_with fail
  go_loopw [0, 17] (NumRel w base l n M) (fun _ i _ => M - (intOf i).toNat)
  case atStart => exact ⟨0, g, cap, by omega, rfl, by rw [Nat.add_zero], by rw [List.take_zero]; exact HO1.out, HB1.out.1, HB1.out.2⟩
  case round =>
    clear HO1 HB1
    obtain ⟨k, g, cap, hk, rfl, rfl, hY, hBel, hKp⟩ := hrel
    have hsz := hBel.size
    have hbr : base ≤ wr.heap.size := Nat.le_trans hB.out hsz
    have HBR := Lib.hid hbr
    by_cases hlt : k < M
    · have h1 : (k : Int) < (M : Int) := by omega
      obtain ⟨d, hd⟩ : ∃ d : Nat, (M : Int) - 1 - (k : Int) = (d : Int) := ⟨M - 1 - k, by omega⟩
      obtain ⟨s, hs⟩ : ∃ s : Nat, 8 * (d : Int) = (s : Int) := ⟨8 * d, by omega⟩
      obtain ⟨b, hb⟩ : ∃ b, (digL n).getD k 0 = b := ⟨_, rfl⟩
      have hbv : (n : Int) / 2 ^ s % 256 = (b.toNat : Int) := by
        rw [← hb, digL_get n k (by rw [HLEN.out]; exact hlt), HLEN.out, ofNat_mod, show M - 1 - k = d by omega, show s = 8 * d by omega, show (256 : Nat) ^ d = 2 ^ (8 * d) by rw [show (256 : Nat) = 2 ^ 8 from rfl, ← Nat.pow_mul]]
        norm_cast
      obtain ⟨Y, eY⟩ : ∃ Y, l ++ UInt8.ofNat M :: (digL n).take k = Y := ⟨_, rfl⟩
      have hYl : Y.length = l.length + 1 + k := by rw [← eY]; simp [HLEN.out]; omega
      have hstep : l ++ UInt8.ofNat M :: (digL n).take (k + 1) = Y ++ [b] := by
        rw [take_snoc _ _ (by rw [HLEN.out]; exact hlt), hb, ← eY]; simp
      rw [eY] at hY
      have HY := Lib.hid hY; have HBe := Lib.hid hBel; have HKp := Lib.hid hKp; have HYL := Lib.hid hYl; have HST := Lib.hid hstep
      clear hY hBel hKp hsz hbr hb eY hYl hstep
      go_wp2_with (at_builtin; refine append_long rfl _ _ rfl base _ Y b wr.heap.size rfl ?c0 rfl ?c1 ?c2 ?c3 ?_)
      case c0 => exact Own.alloc HY.out _
      case c1 => simp
      case c2 => rw [HYL.out]; have := hL.out; omega
      case c3 => have := HBR.out; simp; omega
      intro g' cap' w' hO3 hg'
      have hB3 := HY.out.below HBe.out HBR.out hg'
      have hK3 := (HKp.out.alloc _).trans ((HY.out.alloc _).keeps hg')
      rw [HYL.out] at hO3 ⊢
      have HO3 := Lib.hid hO3; have HB3 := Lib.hid (And.intro hB3 hK3)
      clear hO3 hB3 hK3 hg' hd hs hbv
      go_wp2_with fail
      refine ⟨⟨k + 1, g', cap', by omega, by simp, by simp [Nat.add_assoc], ?_, HB3.out.1, HB3.out.2⟩, by simp [intOf]; omega⟩
      rw [HST.out]
      exact HO3.out
    · obtain rfl : k = M := by omega
      rw [List.take_of_length_le (by rw [HLEN.out]; exact Nat.le_refl _)] at hY
      have hN : UInt8.ofNat k :: digL n = numB n := by unfold numB; rw [HLEN.out]
      rw [hN] at hY
      have HY := Lib.hid hY; have HBe := Lib.hid (And.intro hBel hKp)
      clear hY hBel hKp hsz hbr hN
      have h1 : ¬ (k : Int) < (k : Int) := by omega
      go_wp2_with fail
      go_ret
      exact ⟨_, rfl, HY.out, HBe.out⟩
end Go.Proofs.YtdnjieffbgmagaaDoor
