/-
  LAW PARTS of IpCompareIsOrder: the order's antisymmetry and transitivity, and the contract of Mod.
  Conditions: as each theorem says.
-/
import Derived.Test.YtfodjcpcdnajbaaDoorC
namespace Go.Proofs.YtfodjcpcdnajbaaDoor
open Go.ChangeShapes Go.WideShapes Go.ChangeAt Go.RowKit
set_option linter.unusedVariables false

theorem cmpN_neg : ∀ xs ys : List Nat, cmpN ys xs = - cmpN xs ys
  | [], [] => rfl
  | [], _ :: _ => rfl
  | _ :: _, [] => rfl
  | a :: l, b :: m => by
    have ih := cmpN_neg l m
    unfold cmpN
    by_cases h1 : a < b
    · have h2 : ¬ b < a := by omega
      simp [h1, h2]
    · by_cases h2 : b < a
      · simp [h1, h2]
      · simp [h1, h2, ih]
theorem cmpN_self : ∀ xs : List Nat, cmpN xs xs = 0
  | [] => rfl
  | a :: l => by unfold cmpN; simp [cmpN_self l]
theorem cmpN_range : ∀ xs ys : List Nat, cmpN xs ys = -1 ∨ cmpN xs ys = 0 ∨ cmpN xs ys = 1
  | [], [] => .inr (.inl rfl)
  | [], _ :: _ => .inl rfl
  | _ :: _, [] => .inr (.inr rfl)
  | a :: l, b :: m => by
    have ih := cmpN_range l m
    unfold cmpN
    by_cases h1 : a < b
    · simp [h1]
    · by_cases h2 : b < a
      · simp [h1, h2]
      · simpa [h1, h2] using ih
theorem cmpN_trans : ∀ xs ys zs : List Nat, cmpN xs ys ≤ 0 → cmpN ys zs ≤ 0 → cmpN xs zs ≤ 0
  | [], [], [], _, _ => by decide
  | [], [], _ :: _, _, _ => by simp [cmpN]
  | [], _ :: _, [], _, _ => by simp [cmpN]
  | [], _ :: _, _ :: _, _, _ => by simp [cmpN]
  | _ :: _, [], _, h, _ => by simp [cmpN] at h
  | _ :: _, _ :: _, [], _, h => by simp [cmpN] at h
  | a :: l, b :: m, c :: n, h1, h2 => by
    have ih := cmpN_trans l m n
    unfold cmpN at h1 h2 ⊢
    by_cases ab : a < b
    · by_cases bc : b < c
      · have : a < c := by omega
        simp [this]
      · by_cases cb : c < b
        · simp [bc, cb] at h2
        · have : a < c := by omega
          simp [this]
    · by_cases ba : b < a
      · simp [ab, ba] at h1
      · by_cases bc : b < c
        · have : a < c := by omega
          simp [this]
        · by_cases cb : c < b
          · simp [bc, cb] at h2
          · have e1 : ¬ a < c := by omega
            have e2 : ¬ c < a := by omega
            simp only [ab, ba, bc, cb, e1, e2, if_false] at h1 h2 ⊢
            exact ih h1 h2

theorem cmpA_neg (b c : Bool) (xs ys : List Nat) : cmpA c b ys xs = - cmpA b c xs ys := by
  unfold cmpA
  by_cases h : b = c
  · subst h; simp only [if_true]; exact cmpN_neg xs ys
  · have h' : ¬ c = b := fun e => h e.symm
    simp only [h, h', if_false]
    cases b <;> cases c <;> simp_all
theorem cmpA_self (b : Bool) (xs : List Nat) : cmpA b b xs xs = 0 := by simp [cmpA, cmpN_self]
theorem cmpA_range (b c : Bool) (xs ys : List Nat) : cmpA b c xs ys = -1 ∨ cmpA b c xs ys = 0 ∨ cmpA b c xs ys = 1 := by
  unfold cmpA
  split
  · exact cmpN_range _ _
  · split <;> simp
theorem cmpA_trans (b c d : Bool) (xs ys zs : List Nat) (h1 : cmpA b c xs ys ≤ 0) (h2 : cmpA c d ys zs ≤ 0) : cmpA b d xs zs ≤ 0 := by
  unfold cmpA at h1 h2 ⊢
  cases b <;> cases c <;> cases d <;> simp at h1 h2 ⊢ <;> exact cmpN_trans _ _ _ h1 h2

/-- The remainder of a number that is taken as an unsigned one. -/
def modU (i n : Int) : Int := wrap64 ((IntKind.u64.wrap i).tmod n)

set_option maxHeartbeats 1000000 in
set_option maxRecDepth 100000 in
theorem mod_any (i : Int) (w : World) :
    Calls Tryd.prog 22 #[.int .i64 i, .int .i64 130] w fun e w' => e = .returned (.int .i64 (modU i 130)) ∧ Fr No w w' := by
  go_enter Tryd.func22, Tryd.ntmps22
  go_wp2_with fail
  go_ret
  exact ⟨rfl, Fr.refl _ _⟩
end Go.Proofs.YtfodjcpcdnajbaaDoor
