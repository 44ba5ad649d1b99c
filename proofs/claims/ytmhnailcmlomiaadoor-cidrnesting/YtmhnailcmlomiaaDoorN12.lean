/-
  CONTRACTS of package host's Valid and formatHost, over this seat's translation: what each call returns.
  Conditions: the address is one; the package variables are as Gl says.
  CONTRACT of package host's Format, over this seat's translation: what the call returns.
  Conditions: the address is one; the package variables are as Gl says.
-/
import Derived.Test.YtmhnailcmlomiaaDoorN8
import Derived.Test.YtmhnailcmlomiaaDoorA
import Derived.Test.YtmhnailcmlomiaaDoorPg
namespace Go.Proofs.YtmhnailcmlomiaaDoor
open Go.ChangeShapes Go.WideShapes Go.ChangeAt Go.RowKit
set_option linter.unusedVariables false

theorem tgt_letter (n : ByteArray) (b : Bool) (xs : List Nat) (p : Int) (hx : Bytes xs) : ∃ T : Array Value, (tgt n b xs p).toArray = T ∧ T[0]? = some (.string n) ∧ T[1]? = some (.bool b) ∧ T[18]? = some (.int .i64 p) ∧ T.size = 19 ∧ (∀ j v, (adr b xs).toArray[j]? = some v → T[1 + j]? = some v) ∧ ∀ u ∈ T.toList, u.oneCell' = true := by
  have h17 : (adr b xs).length = 17 := by rw [adr_length, hx.1]
  refine ⟨_, rfl, rfl, rfl, ?_, by rw [List.size_toArray]; exact tgt_length _ _ _ _ hx.1, ?_, by intro u hu; exact tgt_one _ _ _ _ u (by simpa using hu)⟩
  · rw [List.getElem?_toArray, tgt, List.getElem?_cons_succ, List.getElem?_append_right (by omega), h17]; rfl
  · intro j v hj
    rw [List.getElem?_toArray] at hj ⊢
    rw [tgt, Nat.add_comm, List.getElem?_cons_succ]
    rw [List.getElem?_append_left (List.getElem?_eq_some_iff.1 hj).1]
    exact hj

/-- Whether a target is valid. -/
def vT (nl : List UInt8) (b : Bool) (xs : List Nat) (p : Int) : Bool := decide (1 ≤ p) && decide (p ≤ 65535) && (if nl = [] then validA b xs else nameV nl && decide (b = false ∧ xs = zeros))
theorem bs_empty (l : List UInt8) : (bs l).toList.isEmpty = decide (l = []) := by
  rw [bs_toList]; cases l <;> rfl

/-- What stands before the port. -/
def fhV (nl : List UInt8) (b : Bool) (xs : List Nat) : List UInt8 := if nl = [] then (if b then 91 :: (oct8 (fmtA b xs) ++ [93]) else oct8 (fmtA b xs)) else nl
theorem bs_app (a b : List UInt8) : bs a ++ bs b = bs (a ++ b) := by
  apply ByteArray.ext
  apply Array.toList_inj.1
  simp [bs]

end Go.Proofs.YtmhnailcmlomiaaDoor
namespace Go.Proofs.YtmhnailcmlomiaaDoor
open Go.ChangeShapes Go.WideShapes Go.ChangeAt Go.RowKit
set_option linter.unusedVariables false

/-- The notation of a target. -/
def fT (nl : List UInt8) (b : Bool) (xs : List Nat) (p : Int) : List UInt8 := if vT nl b xs p then fhV nl b xs ++ 58 :: oct8 (decN p.toNat) else []

theorem itoa_big (x : Nat) (hx : x < 4294967296) (w : World) (hG : Gl w) : Calls Tryd.prog 30 #[.int .i64 x] w fun e w' => e = .returned (.string (str (decN x))) ∧ Fr No w w' := by
  refine (Tryd.strconv_Itoa (x : Int) (by omega) (by omega) w hG.tab).mono ?_
  rintro e w' ⟨rfl, k, os, rfl⟩
  refine ⟨?_, ?_⟩
  · rw [Lib.itoa, if_neg (by omega), show ((x : Nat) : Int).toNat = x by omega, decN_digits]; rfl
  · exact (Fr.drewN No w k).trans ⟨rfl, rfl, rfl, by simp [Go.Sort.grow], fun j hj _ => by
      have hj' : j < w.heap.size := hj
      simp [Go.Sort.grow, Array.getElem?_append]
      omega⟩
theorem decN_len (n : Nat) : (decN n).length ≤ n + 1 := by
  induction n using Nat.strongRecOn with
  | ind n ih =>
    by_cases h : n < 10
    · rw [decN_small h]; simp
    · have := ih (n / 10) (by omega)
      rw [decN_big (by omega), List.length_append]; simp; omega
theorem nameV_len {l : List UInt8} (h : nameV l = true) : l.length ≤ 253 := by
  unfold nameV at h
  simp at h
  exact h.1.1
theorem vT_parts {nl : List UInt8} {b : Bool} {xs : List Nat} {p : Int} (h : vT nl b xs p = true) (hx : Bytes xs) : 1 ≤ p ∧ p ≤ 65535 ∧ (fhV nl b xs).length ≤ 253 := by
  unfold vT at h
  simp only [Bool.and_eq_true, decide_eq_true_eq] at h
  refine ⟨h.1.1, h.1.2, ?_⟩
  have hf := fmtA_length (b := b) hx
  unfold fhV
  by_cases hn : nl = []
  · rw [if_pos hn]
    split
    · simp [oct8_length]; omega
    · rw [oct8_length]; omega
  · rw [if_neg hn]
    have h2 := h.2
    rw [if_neg hn, Bool.and_eq_true] at h2
    exact nameV_len h2.1

end Go.Proofs.YtmhnailcmlomiaaDoor
