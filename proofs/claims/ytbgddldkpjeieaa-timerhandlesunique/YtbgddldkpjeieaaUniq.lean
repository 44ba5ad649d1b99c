/-
  CONTRACTS of Deadline, Start and Cancel of the timers of strings at any handle, over this seat's translation.
  Conditions: the timers lie in memory as Tim says; fewer than 900 have been started.
-/
import Derived.Test.YtbgddldkpjeieaaRow
namespace Go.Proofs.Ytbgddldkpjeieaa.M
open Go.ChangeShapes Go.WideShapes Go.ChangeAt Go.RowKit Go.Maps
set_option linter.unusedVariables false

theorem deadline_either (S : Nat → Prop) (tb : Nat) (L : List Rec) (last k : Int) (w : World) (h : TI S w tb L last) (hk : (Lit.int .i64 k).wf = true) :
    Calls Try.prog 19 #[.pointer (some ⟨tb, 0, none⟩), .int .i64 k] w fun e w' => ∃ (d : Int) (b : Bool), (b = true ↔ ∃ q ∈ L, q.id = k) ∧ e = .returned (.tuple #[.int .u64 d, .bool b]) ∧ Fr No w w' := by
  by_cases hq : ∃ q ∈ L, q.id = k
  · obtain ⟨q, hq, rfl⟩ := hq
    refine (deadline_hit S tb L last q w h hq).mono ?_
    rintro e w' ⟨d, rfl, _, hf⟩
    exact ⟨d, true, by simp; exact ⟨q, hq, rfl⟩, rfl, hf⟩
  · refine (deadline_miss S tb L last k w h hk fun r hr e => hq ⟨r, hr, e⟩).mono ?_
    rintro e w' ⟨rfl, rfl⟩
    exact ⟨0, false, by simpa using hq, rfl, Fr.refl _ _⟩

theorem start_either (S : Nat → Prop) (tb : Nat) (L : List Rec) (last d k : Int) (x : ByteArray) (w : World) (h : TI S w tb L last) (hk : (Lit.int .i64 k).wf = true) (hS : ∀ k, w.heap.size ≤ k → S k) (hl : last < 900) (hd : 0 ≤ d ∧ d ≤ 18446744073709551615) :
    Calls Try.prog 20 #[.pointer (some ⟨tb, 0, none⟩), .int .i64 k, .int .u64 d, .string x] w fun e w' => ∃ (L' : List Rec) (b : Bool), (b = true ↔ k = 0 ∨ ∃ q ∈ L, q.id = k) ∧ e = .returned (.tuple #[.int .i64 (if b then last + 1 else 0), .bool b]) ∧ TI S w' tb L' (if b then last + 1 else last) ∧ Fr S w w' := by
  by_cases hk0 : k = 0
  · subst hk0
    refine (start_root S tb L last d x w h hS hl hd).mono ?_
    rintro e w' ⟨rfl, hT, hf⟩
    exact ⟨_, true, by simp, rfl, hT, hf⟩
  · by_cases hq : ∃ q ∈ L, q.id = k
    · obtain ⟨q, hq, rfl⟩ := hq
      refine (start_child S tb L last d q x w h hq hS hl hd).mono ?_
      rintro e w' ⟨rfl, hT, hf⟩
      exact ⟨_, true, by simp; exact .inr ⟨q, hq, rfl⟩, rfl, hT, hf⟩
    · refine (start_miss S tb L last d k x w h hk hk0 fun r hr e => hq ⟨r, hr, e⟩).mono ?_
      rintro e w' ⟨rfl, hT, hf⟩
      exact ⟨_, false, by simp [hk0]; simpa using hq, rfl, hT, hf⟩

theorem cancel_either (S : Nat → Prop) (tb : Nat) (L : List Rec) (last k : Int) (w : World) (h : TI S w tb L last) (hk : (Lit.int .i64 k).wf = true) :
    Calls Try.prog 21 #[.pointer (some ⟨tb, 0, none⟩), .int .i64 k] w fun e w' => ∃ (n : Int) (L' : List Rec), e = .returned (.int .i64 n) ∧ TI S w' tb L' last ∧ Fr S w w' := by
  by_cases hq : ∃ q ∈ L, q.id = k
  · obtain ⟨q, hq, rfl⟩ := hq
    refine (cancel_hit S tb L last q w h hq).mono ?_
    rintro e w' ⟨rfl, hT, hf⟩
    exact ⟨_, _, rfl, hT, hf⟩
  · refine (cancel_miss S tb L last k w h hk fun r hr e => hq ⟨r, hr, e⟩).mono ?_
    rintro e w' ⟨rfl, rfl⟩
    exact ⟨_, _, rfl, h, Fr.refl _ _⟩

end Go.Proofs.Ytbgddldkpjeieaa.M
