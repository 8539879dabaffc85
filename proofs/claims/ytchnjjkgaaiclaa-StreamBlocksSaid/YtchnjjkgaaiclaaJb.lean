/- StreamBlocks: any four words mixed, and any block, are the reference's, or refused. -/
import Derived.Test.YtchnjjkgaaiclaaJe
import Derived.Test.YtchnjjkgaaiclaaHj
namespace Go.Proofs.Ytchnjjkgaaiclaa
open Go.RowKit
set_option maxRecDepth 100000

set_option maxHeartbeats 2000000 in
theorem streamBlocks_any (a b c d : BitVec 32) (key : ByteArray) (m : BitVec 32) (nonce : ByteArray) (hk : key.size ≤ maxLen) (hn : nonce.size ≤ maxLen) (w : World) :
    Calls Try.prog 3 #[.int .u32 (a.toNat : Int), .int .u32 (b.toNat : Int), .int .u32 (c.toNat : Int), .int .u32 (d.toNat : Int), .string key, .int .u32 (m.toNat : Int), .string nonce] w
      fun e w' => e = .returned (.bool true) ∧ Below w.heap.size w w' := by
  have h1 := cut5_any key hk
  have h2 := cut5_any nonce hn
  obtain ⟨k, ek⟩ : ∃ x, cutS key 40 = x := ⟨_, rfl⟩
  obtain ⟨n, en⟩ : ∃ x, cutS nonce 40 = x := ⟨_, rfl⟩
  rw [ek] at h1
  rw [en] at h2
  have H1 := Lib.hid h1; have H2 := Lib.hid h2
  have hq1 := quarter_any a b c d
  have hq2 := quarter5_any a b c d
  obtain ⟨q, eq⟩ : ∃ q, qtr ⟨a, b, c, d⟩ = q := ⟨_, rfl⟩
  rw [eq] at hq1 hq2
  have HQ1 := Lib.hid hq1; have HQ2 := Lib.hid hq2
  clear h1 h2 ek en hq1 hq2 eq hk hn
  have hmy := may_any k n
  by_cases hfit : k.size = 32 ∧ n.size = 12
  · have hb1 := Block_any k m n hfit.1 hfit.2
    have hb2 := Block5_any k n m hfit.1 hfit.2
    obtain ⟨s, es⟩ : ∃ s, strL (blockC (bl k) m (bl n)) = s := ⟨_, rfl⟩
    rw [es] at hb1 hb2
    rw [decide_eq_true hfit] at hmy
    have HB1 := Lib.hid hb1; have HB2 := Lib.hid hb2; have HMY := Lib.hid hmy
    clear hb1 hb2 hmy es hfit
    go_enter Try.func3, Try.ntmps3
    go_wp2_with fail
    refine (H1.out _).mono ?_
    rintro e w1 ⟨rfl, rfl⟩
    go_wp2_with fail
    refine (H2.out _).mono ?_
    rintro e w1 ⟨rfl, rfl⟩
    go_wp2_with fail
    refine (HQ1.out _).mono ?_
    rintro e w1 ⟨rfl, rfl⟩
    simp only [Q4.v]
    go_wp2_with fail
    refine (HB1.out _).mono ?_
    rintro e w1 ⟨rfl, c1⟩
    clear H1 H2 HQ1 HB1
    go_wp2_with fail
    refine (HQ2.out _).mono ?_
    rintro e w2 ⟨rfl, c2⟩
    simp only [Q4.s]
    replace c2 := c1.trans (c2.mono c1.size)
    clear c1 HQ2
    go_wp2_with fail
    refine (alive5_any _).mono ?_
    rintro e w3 ⟨rfl, c3⟩
    replace c3 := c2.trans (c3.mono c2.size)
    clear c2
    go_wp2_with fail
    refine (HMY.out _).mono ?_
    rintro e w4 ⟨rfl, rfl⟩
    go_wp2_with fail
    refine (HB2.out _).mono ?_
    rintro e w5 ⟨rfl, c5⟩
    replace c5 := c3.trans (c5.mono c3.size)
    clear c3
    go_wp2_with fail
    go_ret
    exact ⟨rfl, c5⟩
  · have hb1 := Block_bad k m n hfit
    rw [decide_eq_false hfit] at hmy
    have HB1 := Lib.hid hb1; have HMY := Lib.hid hmy
    clear hb1 hmy hfit
    go_enter Try.func3, Try.ntmps3
    go_wp2_with fail
    refine (H1.out _).mono ?_
    rintro e w1 ⟨rfl, rfl⟩
    go_wp2_with fail
    refine (H2.out _).mono ?_
    rintro e w1 ⟨rfl, rfl⟩
    go_wp2_with fail
    refine (HQ1.out _).mono ?_
    rintro e w1 ⟨rfl, rfl⟩
    simp only [Q4.v]
    go_wp2_with fail
    refine (HB1.out _).mono ?_
    rintro e w1 ⟨rfl, rfl⟩
    clear H1 H2 HQ1 HB1
    go_wp2_with fail
    refine (HQ2.out _).mono ?_
    rintro e w2 ⟨rfl, c2⟩
    simp only [Q4.s]
    clear HQ2
    go_wp2_with fail
    refine (alive5_any _).mono ?_
    rintro e w3 ⟨rfl, c3⟩
    replace c3 := c2.trans (c3.mono c2.size)
    clear c2
    go_wp2_with fail
    refine (HMY.out _).mono ?_
    rintro e w4 ⟨rfl, rfl⟩
    go_wp2_with fail
    go_ret
    exact ⟨rfl, c3⟩
end Go.Proofs.Ytchnjjkgaaiclaa
