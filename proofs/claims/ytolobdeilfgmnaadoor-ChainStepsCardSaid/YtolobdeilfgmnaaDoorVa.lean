/- Chains of keys in plain mathematics: a chain's steps, one behind the other. -/
import Derived.Test.YtolobdeilfgmnaaDoorFexa
namespace Go.Proofs.YtolobdeilfgmnaaDoor
open Go.RowKit
set_option maxRecDepth 100000

def rtWord : ByteArray := ⟨#[114, 111, 111, 116]⟩
def stWord : ByteArray := ⟨#[115, 116, 101, 112]⟩
/-- the first of two keys of a secret, by a word -/
def spA (k wd : ByteArray) : ByteArray := strL (lastT (bl k) (bl wd) 1)
/-- the second -/
def spB (k wd : ByteArray) : ByteArray := strL (lastT (bl k) (bl wd) 2)
theorem spA_size (k wd : ByteArray) : (spA k wd).size = 32 := by unfold spA; rw [strL_size]; exact ofL_length _
theorem spB_size (k wd : ByteArray) : (spB k wd).size = 32 := by unfold spB; rw [strL_size]; exact ofL_length _
theorem row2 (k wd : ByteArray) : rowT (bl k) (bl wd) 2 = [spA k wd, spB k wd] := rfl
/-- a chain behind so many steps -/
def runC (c : ByteArray) : Nat → ByteArray
  | 0 => c
  | n + 1 => spA (runC c n) stWord
/-- so many steps of a chain: of each the next chain, and a message's key -/
def stepsL (c : ByteArray) : Nat → List (ByteArray × ByteArray)
  | 0 => []
  | n + 1 => stepsL c n ++ [(spA (runC c n) stWord, spB (runC c n) stWord)]
/-- the keys of so many steps -/
def runK (c : ByteArray) (n : Nat) : List ByteArray := (stepsL c n).map Prod.snd
theorem runC_size (c : ByteArray) (hc : c.size = 32) (n : Nat) : (runC c n).size = 32 := by
  cases n with
  | zero => exact hc
  | succ n => exact spA_size _ _
theorem stepsL_length (c : ByteArray) (n : Nat) : (stepsL c n).length = n := by
  induction n with
  | zero => rfl
  | succ n ih => simp [stepsL, ih]
theorem runK_length (c : ByteArray) (n : Nat) : (runK c n).length = n := by simp [runK, stepsL_length]
theorem runK_succ (c : ByteArray) (n : Nat) : runK c (n + 1) = runK c n ++ [spB (runC c n) stWord] := by simp [runK, stepsL]
/-- so many steps, and then others, are as many at once -/
theorem runC_add (c : ByteArray) (a b : Nat) : runC c (a + b) = runC (runC c a) b := by
  induction b with
  | zero => rfl
  | succ b ih => rw [← Nat.add_assoc, runC, ih, runC]
theorem runK_add (c : ByteArray) (a b : Nat) : runK c (a + b) = runK c a ++ runK (runC c a) b := by
  induction b with
  | zero => simp [runK, stepsL]
  | succ b ih => rw [← Nat.add_assoc, runK_succ, ih, runK_succ, runC_add, List.append_assoc]
/-- the chain that the last of some steps comes to -/
def atC (c : ByteArray) (xs : List (ByteArray × ByteArray)) : ByteArray := match xs.getLast? with | none => c | some p => p.1
theorem atC_snoc (c : ByteArray) (xs : List (ByteArray × ByteArray)) (p : ByteArray × ByteArray) : atC c (xs ++ [p]) = p.1 := by unfold atC; simp
theorem atC_steps (c : ByteArray) (n : Nat) : atC c (stepsL c n) = runC c n := by
  cases n with
  | zero => rfl
  | succ n => rw [stepsL, atC_snoc, runC]
end Go.Proofs.YtolobdeilfgmnaaDoor
