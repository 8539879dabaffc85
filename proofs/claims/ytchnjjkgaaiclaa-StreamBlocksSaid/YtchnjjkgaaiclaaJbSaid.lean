/- For every four words, key, number and nonce the law StreamBlocks returns true: four words mixed, and a block, are the reference's; a key or a nonce of another size is refused, with nothing. Conditions: none but those that the given row bears. -/
import Derived.Test.YtchnjjkgaaiclaaJb
import Derived.WalkKit
import Derived.ProofKit
import Derived.OpenShut
import Derived.ChangeBears2
namespace Go.Proofs.Ytchnjjkgaaiclaa.StreamBlocksLaw
open Go.ChangeShapes Go.WideShapes Go.ChangeAt Go.RowKit
open Go.ChangeMaps (open_string shut_string)
set_option maxRecDepth 100000

theorem own : ownKnob Try.prog.godebug = none := by kernel_rfl
theorem lifted (os : Os) (started : os.Started) (H : Type) (enc : TypeId × Value → H) :
    ReturnsInHanded {} Try.checked os 3 .any (Rows.streamBlocksSpec.pre6 enc Try.prog Try.f3 Rows.streamBlocksRow.domain false) (Rows.streamBlocksSpec.post enc Try.prog Try.f3 false true false false) := by
  refine returnsInHanded_of_change (C := Try.checked) own started (by kernel_rfl) Try.func3
    (ChangeSpec.witness6 (enc := enc) (C := Try.checked) false ⟨#[], #[.int .u32 0, .int .u32 0, .int .u32 0, .int .u32 0, .string ⟨#[]⟩, .int .u32 0, .string ⟨#[]⟩], []⟩ 8 (by kernel_rfl) (by kernel_rfl) (by kernel_rfl) (by kernel_rfl)) ?_
  intro W base args ds gs before hval0 hW hcnd _
  have hval : ∀ (j : Nat) t v, Try.f3.params[j]? = some t → args[j]? = some v → Value.okWide Try.prog W .any base t v := hval0
  have hW' := hW
  obtain ⟨p, q, hA0, hV, rfl, hfz, hnd⟩ := hW
  have hA : DataW.TrodAll enc Try.prog W 0 (fun _ => true) true Try.f3.params.toList args.toList ds p := hA0
  rw [Try.params3] at hA hval
  obtain ⟨v0, vs0, d0, ds0, p0, q0, hargs, rfl, rfl, h0, r0⟩ := trodAll_cons hA
  obtain ⟨v1, vs1, d1, ds1, p1, q1, hargs1, rfl, rfl, h1, r1⟩ := trodAll_cons r0
  obtain ⟨v2, vs2, d2, ds2, p2, q2, hargs2, rfl, rfl, h2, r2⟩ := trodAll_cons r1
  obtain ⟨v3, vs3, d3, ds3, p3, q3, hargs3, rfl, rfl, h3, r3⟩ := trodAll_cons r2
  obtain ⟨v4, vs4, d4, ds4, p4, q4, hargs4, rfl, rfl, h4, r4⟩ := trodAll_cons r3
  obtain ⟨v5, vs5, d5, ds5, p5, q5, hargs5, rfl, rfl, h5, r5⟩ := trodAll_cons r4
  obtain ⟨v6, vs6, d6, ds6, p6, q6, hargs6, rfl, rfl, h6, r6⟩ := trodAll_cons r5
  obtain ⟨rfl, rfl, rfl⟩ := trodAll_nil r6
  obtain rfl : args = #[v0, v1, v2, v3, v4, v5, v6] := by cases args; simp_all
  obtain ⟨rfl, rfl⟩ := trodVars_none hV
  obtain ⟨i0, rfl, rfl, rfl, z0⟩ := open_int Try.underlying22 (hval 0 22 v0 rfl rfl) h0
  obtain ⟨b0, rfl⟩ : ∃ b : BitVec 32, i0 = (b.toNat : Int) := by
    have e : IntKind.u32.min = 0 := by rfl
    have e2 : IntKind.u32.max = 4294967295 := by rfl
    have := z0
    simp [Lit.wf, e, e2] at this
    exact ⟨BitVec.ofNat 32 i0.toNat, by rw [BitVec.toNat_ofNat]; omega⟩
  obtain ⟨i1, rfl, rfl, rfl, z1⟩ := open_int Try.underlying22 (hval 1 22 v1 rfl rfl) h1
  obtain ⟨b1, rfl⟩ : ∃ b : BitVec 32, i1 = (b.toNat : Int) := by
    have e : IntKind.u32.min = 0 := by rfl
    have e2 : IntKind.u32.max = 4294967295 := by rfl
    have := z1
    simp [Lit.wf, e, e2] at this
    exact ⟨BitVec.ofNat 32 i1.toNat, by rw [BitVec.toNat_ofNat]; omega⟩
  obtain ⟨i2, rfl, rfl, rfl, z2⟩ := open_int Try.underlying22 (hval 2 22 v2 rfl rfl) h2
  obtain ⟨b2, rfl⟩ : ∃ b : BitVec 32, i2 = (b.toNat : Int) := by
    have e : IntKind.u32.min = 0 := by rfl
    have e2 : IntKind.u32.max = 4294967295 := by rfl
    have := z2
    simp [Lit.wf, e, e2] at this
    exact ⟨BitVec.ofNat 32 i2.toNat, by rw [BitVec.toNat_ofNat]; omega⟩
  obtain ⟨i3, rfl, rfl, rfl, z3⟩ := open_int Try.underlying22 (hval 3 22 v3 rfl rfl) h3
  obtain ⟨b3, rfl⟩ : ∃ b : BitVec 32, i3 = (b.toNat : Int) := by
    have e : IntKind.u32.min = 0 := by rfl
    have e2 : IntKind.u32.max = 4294967295 := by rfl
    have := z3
    simp [Lit.wf, e, e2] at this
    exact ⟨BitVec.ofNat 32 i3.toNat, by rw [BitVec.toNat_ofNat]; omega⟩
  obtain ⟨s4, rfl, rfl, rfl, z4⟩ := open_string Try.underlying9 (hval 4 9 v4 rfl rfl) h4
  obtain ⟨i5, rfl, rfl, rfl, z5⟩ := open_int Try.underlying22 (hval 5 22 v5 rfl rfl) h5
  obtain ⟨b5, rfl⟩ : ∃ b : BitVec 32, i5 = (b.toNat : Int) := by
    have e : IntKind.u32.min = 0 := by rfl
    have e2 : IntKind.u32.max = 4294967295 := by rfl
    have := z5
    simp [Lit.wf, e, e2] at this
    exact ⟨BitVec.ofNat 32 i5.toNat, by rw [BitVec.toNat_ofNat]; omega⟩
  obtain ⟨s6, rfl, rfl, rfl, z6⟩ := open_string Try.underlying9 (hval 6 9 v6 rfl rfl) h6
  refine (streamBlocks_any b0 b1 b2 b3 s4 b5 s6 z4 z6 W).mono fun e W' ⟨he, hb⟩ => ?_
  subst he
  refine ⟨_, rfl, _, _, _, [], [], [], hW', ?_, ?_, ?_, hb.frame _, fun h => by cases h⟩
  · exact trodAll_cons_mk (shut_bool Try.underlying4 _) trodAll_mk0
  · exact (trodAll_cons_mk (shut_int Try.underlying22 z0) (trodAll_cons_mk (shut_int Try.underlying22 z1) (trodAll_cons_mk (shut_int Try.underlying22 z2) (trodAll_cons_mk (shut_int Try.underlying22 z3) (trodAll_cons_mk (shut_string Try.underlying9 z4) (trodAll_cons_mk (shut_int Try.underlying22 z5) (trodAll_cons_mk (shut_string Try.underlying9 z6) trodAll_mk0)))))))
  · rfl

theorem said : Rows.StreamBlocksSaid :=
  OpenClaim.holds_of_wide 3 Try.f3 rfl rfl rfl rfl rfl rfl rfl ⟨rfl, rfl, rfl, rfl, rfl⟩ rfl rfl rfl rfl rfl (by kernel_rfl) Try.func3 (by kernel_rfl)
    (of_decide_eq_true (by kernel_rfl)) (by unfold Func.isWrapper; first | (rw [if_pos (by decide +kernel)]; kernel_rfl) | (rw [if_neg (by decide +kernel)]; exact ⟨rfl, rfl⟩))
    (fun os started H enc _ => lifted os started H enc)
end Go.Proofs.Ytchnjjkgaaiclaa.StreamBlocksLaw
