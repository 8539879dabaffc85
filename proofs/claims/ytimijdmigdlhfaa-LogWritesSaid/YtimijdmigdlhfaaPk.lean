/- The map of wire's kinds: what it holds, and what is looked up in it. -/
import Derived.Test.YtimijdmigdlhfaaPd
import Derived.MapKept
import Derived.Carry
namespace Go.Proofs.Ytimijdmigdlhfaa
open Go.RowKit Go.Sort Go.MapKept
set_option maxRecDepth 100000
def e110 : MapEntry := ⟨.int .u8 110, .func (.func 56) #[] #[], 0⟩
def e116 : MapEntry := ⟨.int .u8 116, .func (.func 57) #[] #[], 1⟩
def e42 : MapEntry := ⟨.int .u8 42, .func (.func 58) #[] #[], 2⟩
theorem push_set (h : Array Obj) (o o' : Obj) : (h.push o).setIfInBounds h.size o' = h.push o' := by
  apply Array.ext_getElem?
  intro i
  rw [Array.getElem?_setIfInBounds, Array.getElem?_push, Array.getElem?_push]
  by_cases e : i = h.size
  · subst e; simp
  · rw [if_neg (Ne.symm e), if_neg e, if_neg e]
theorem alloc_set (w : World) (o o' : Obj) : ({ w.alloc o with heap := (w.alloc o).heap.setIfInBounds w.heap.size o' } : World) = w.alloc o' := by
  show ({ w.alloc o with heap := (w.heap.push o).setIfInBounds w.heap.size o' } : World) = w.alloc o'
  rw [push_set]; rfl
theorem mapU (es : Array MapEntry) (clock : Nat) (k : Int) (v : Value) (hf : Instr.findNow (.int .u8) (.int .u8 k) es.toList 0 = some none) (w : World) :
    (Instr.mapUpdate 97 (.map (some w.heap.size)) (.int .u8 k) v).run Try.prog (w.alloc (.map es clock)) = .ok () (w.alloc (.map (es.push ⟨.int .u8 k, v, clock⟩) (clock + 1))) := by
  have hk : IsKey (.int .u8) (.int .u8 k) := rfl
  have h1 := run_checkKey (P := Try.prog) (w := w.alloc (.map es clock)) (kt := 5) (d := .int .u8) (k := .int .u8 k) Try.underlying5 hk false 9999
  have h2 := run_findKey (P := Try.prog) (w := w.alloc (.map es clock)) (kt := 5) Try.underlying5 hf
  have h3 := MapKept.run_getObj_map (P := Try.prog) (w := w.alloc (.map es clock)) (heap_alloc_new w (.map es clock))
  have h4 := MapKept.run_setObj_map (P := Try.prog) (w := w.alloc (.map es clock)) (.map (es.push ⟨.int .u8 k, v, clock⟩) (clock + 1)) (heap_alloc_new w (.map es clock))
  rw [alloc_set] at h4
  unfold Instr.mapUpdate
  simp only [Sem.run_bind, run_underlying Try.underlying97, Result.andThen_ok, h3, h1, h2, h4]
/-- the map of the kinds lies in block B -/
def KM (w : World) (B : Nat) : Prop := w.heap[B]? = some (.map #[e110, e116, e42] 3)
theorem KM.lt {w : World} {B : Nat} (h : KM w B) : B < w.heap.size := (Array.getElem?_eq_some_iff.1 h).1
theorem KM.on {w w' : World} {B : Nat} (h : KM w B) (hb : Below w.heap.size w w') : KM w' B := by
  unfold KM; rw [hb.block B h.lt]; exact h
/-- what a kind is read by -/
def rdV (k : UInt8) : Value := if k = 110 then .func (.func 56) #[] #[] else if k = 116 then .func (.func 57) #[] #[] else if k = 42 then .func (.func 58) #[] #[] else .nilFunc
theorem zeroF (w : World) : (zeroValue 99).run Try.prog w = .ok .nilFunc w := by kernel_rfl
theorem find_kind (k : UInt8) : Instr.findNow (.int .u8) (.int .u8 (k.toNat : Int)) #[e110, e116, e42].toList 0 = some (if k = 110 then some (0, rdV k) else if k = 116 then some (1, rdV k) else if k = 42 then some (2, rdV k) else none) := by
  have hne : ∀ c : UInt8, k ≠ c → ((k.toNat : Int) == (c.toNat : Int)) = false := fun c h => by
    rw [beq_eq_false_iff_ne]; intro e; exact h (UInt8.toNat_inj.1 (by omega))
  by_cases h1 : k = 110
  · subst h1; rfl
  · by_cases h2 : k = 116
    · subst h2; rfl
    · by_cases h3 : k = 42
      · subst h3; rfl
      · rw [if_neg h1, if_neg h2, if_neg h3]
        have a1 := hne 110 h1
        have a2 := hne 116 h2
        have a3 := hne 42 h3
        rw [show (((110 : UInt8).toNat : Nat) : Int) = 110 from rfl] at a1
        rw [show (((116 : UInt8).toNat : Nat) : Int) = 116 from rfl] at a2
        rw [show (((42 : UInt8).toNat : Nat) : Int) = 42 from rfl] at a3
        simp only [Instr.findNow, Instr.sameNow, e110, e116, e42, if_true, a1, a2, a3]
theorem look_kind (k : UInt8) (B : Nat) (w : World) (h : KM w B) : (Instr.lookup 97 (.map (some B)) (.int .u8 (k.toNat : Int)) false).run Try.prog w = .ok (rdV k) w := by
  have hk : IsKey (.int .u8) (.int .u8 (k.toNat : Int)) := rfl
  have h1 := run_checkKey (P := Try.prog) (w := w) (kt := 5) (d := .int .u8) (k := .int .u8 (k.toNat : Int)) Try.underlying5 hk false 9999
  have h2 := run_findKey (P := Try.prog) (w := w) (kt := 5) Try.underlying5 (find_kind k)
  have h3 := MapKept.run_getObj_map (P := Try.prog) (w := w) h
  unfold Instr.lookup
  simp only [Sem.run_bind, Sem.run_pure, run_underlying Try.underlying97, Result.andThen_ok, h3]
  rw [show (#[e110, e116, e42] : Array MapEntry).isEmpty = false from rfl, h1]
  simp only [Result.andThen_ok, h2]
  by_cases a1 : k = 110
  · rw [if_pos a1]; rfl
  · by_cases a2 : k = 116
    · rw [if_neg a1, if_pos a2]; rfl
    · by_cases a3 : k = 42
      · rw [if_neg a1, if_neg a2, if_pos a3]; rfl
      · rw [if_neg a1, if_neg a2, if_neg a3, show rdV k = .nilFunc by unfold rdV; rw [if_neg a1, if_neg a2, if_neg a3]]
        simp only [Sem.run_bind, zeroF, Result.andThen_ok, Sem.run_pure]
        rfl
set_option maxHeartbeats 1000000 in
theorem readers_any (w : World) :
    Calls Try.prog 50 #[] w fun e w' => e = .returned (.map (some w.heap.size)) ∧ Below w.heap.size w w' ∧ KM w' w.heap.size := by
  have hm := run_makeMap (P := Try.prog) 97 w
  have h0 := mapU #[] 0 110 (.func (.func 56) #[] #[]) rfl w
  have h1 := mapU #[e110] 1 116 (.func (.func 57) #[] #[]) rfl w
  have h2 := mapU #[e110, e116] 2 42 (.func (.func 58) #[] #[]) rfl w
  rw [show (#[] : Array MapEntry).push ⟨.int .u8 110, .func (.func 56) #[] #[], 0⟩ = #[e110] from rfl] at h0
  rw [show (#[e110] : Array MapEntry).push ⟨.int .u8 116, .func (.func 57) #[] #[], 1⟩ = #[e110, e116] from rfl] at h1
  rw [show (#[e110, e116] : Array MapEntry).push ⟨.int .u8 42, .func (.func 58) #[] #[], 2⟩ = #[e110, e116, e42] from rfl] at h2
  have hb : Below w.heap.size w (w.alloc (.map #[e110, e116, e42] 3)) := (Below.refl _ _).alloc (Nat.le_refl _) _
  have hk : KM (w.alloc (.map #[e110, e116, e42] 3)) w.heap.size := heap_alloc_new w _
  have HB := Lib.hid (And.intro hb hk)
  clear hb hk
  go_enter Try.func50, Try.ntmps50
  go_wp2_with fail
  go_ret
  exact ⟨rfl, HB.out.1, HB.out.2⟩
end Go.Proofs.Ytimijdmigdlhfaa