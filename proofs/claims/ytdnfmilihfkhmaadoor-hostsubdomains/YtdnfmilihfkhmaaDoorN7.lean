/-
  CONTRACTS of package host's IsSubdomain and LabelCount, over this seat's translation: what each call returns.
  Conditions: the strings are shorter than 2 to the 31.
-/
import Derived.Test.YtdnfmilihfkhmaaDoorN5
namespace Go.Proofs.YtdnfmilihfkhmaaDoor
open Go.ChangeShapes Go.WideShapes Go.ChangeAt Go.RowKit
set_option linter.unusedVariables false

/-- Whether a name is a suffix or below it. -/
def subV (a b : List UInt8) : Bool := nameV a && nameV b && (decide (a = b) || sufV a (46 :: b))
/-- A name's labels. -/
def cntV (a : List UInt8) : Nat := if nameV a then (splitc 46 a).length else 0

theorem splitc_count (c : UInt8) : ∀ l : List UInt8, (splitc c l).length = l.count c + 1
  | [] => by simp [splitc]
  | x :: l => by
    have ih := splitc_count c l
    rw [splitc]
    by_cases h : x = c
    · subst h
      simp [ih]
    · rw [List.count_cons_of_ne (by simpa using h)]
      split
      · rename_i h2; exact absurd h2 h
      · split
        · rename_i e; rw [e] at ih; simp at ih
        · rename_i a t e; rw [e] at ih; simpa using ih
theorem bs_append (a b : List UInt8) : bs a ++ bs b = bs (a ++ b) := by
  apply ByteArray.ext
  apply Array.toList_inj.1
  simp [bs]

set_option maxHeartbeats 2000000 in
set_option maxRecDepth 100000 in
theorem sub_any (a b : List UInt8) (ha : a.length < 4611686018427387904) (hb : b.length < 4611686018427387904) (w : World) : Calls Tryd.prog 30 #[.string (bs a), .string (bs b)] w fun e w' => e = .returned (.bool (subV a b)) ∧ w' = w := by
  have HN1 := Lib.hid (name_any a)
  have HN2 := Lib.hid (name_any b)
  have HSF := Lib.hid (suf_any a (46 :: b) (by omega))
  have heq := bs_eq a b
  have hap : (⟨#[46]⟩ : ByteArray) ++ bs b = bs (46 :: b) := bs_append [46] b
  have HV : Hid (subV a b = (nameV a && nameV b && (decide (a = b) || sufV a (46 :: b)))) := rfl
  have hys : (bs b).size = b.length := rfl
  generalize b.length = lb at hys hb
  generalize nameV a = b1 at HN1 HV
  generalize nameV b = b2 at HN2 HV
  generalize sufV a (46 :: b) = b3 at HSF HV
  generalize decide (a = b) = b4 at heq HV
  generalize bs (46 :: b) = z at HSF hap
  generalize bs a = x at HN1 HSF heq ⊢
  generalize bs b = y at HN2 heq hap hys ⊢
  cases b1
  · go_enter Tryd.func30, Tryd.ntmps30
    go_wp2_with (first | (go_at_call 50; with_reducible refine (HN1.out _).mono ?_; rintro e w3 ⟨rfl, rfl⟩) | (go_at_call 50; with_reducible refine (HN2.out _).mono ?_; rintro e w3 ⟨rfl, rfl⟩) | (go_at_call 51; refine (HSF.out _).mono ?_; rintro e w3 ⟨rfl, rfl⟩))
    go_ret
    exact ⟨by rw [HV.out]; rfl, rfl⟩
  · cases b2
    · go_enter Tryd.func30, Tryd.ntmps30
      go_wp2_with (first | (go_at_call 50; with_reducible refine (HN1.out _).mono ?_; rintro e w3 ⟨rfl, rfl⟩) | (go_at_call 50; with_reducible refine (HN2.out _).mono ?_; rintro e w3 ⟨rfl, rfl⟩) | (go_at_call 51; refine (HSF.out _).mono ?_; rintro e w3 ⟨rfl, rfl⟩))
      go_ret
      exact ⟨by rw [HV.out]; rfl, rfl⟩
    · cases b4
      · go_enter Tryd.func30, Tryd.ntmps30
        go_wp2_with (first | (go_at_call 50; with_reducible refine (HN1.out _).mono ?_; rintro e w3 ⟨rfl, rfl⟩) | (go_at_call 50; with_reducible refine (HN2.out _).mono ?_; rintro e w3 ⟨rfl, rfl⟩) | (go_at_call 51; refine (HSF.out _).mono ?_; rintro e w3 ⟨rfl, rfl⟩))
        go_ret
        exact ⟨by rw [HV.out]; rfl, rfl⟩
      · go_enter Tryd.func30, Tryd.ntmps30
        go_wp2_with (first | (go_at_call 50; with_reducible refine (HN1.out _).mono ?_; rintro e w3 ⟨rfl, rfl⟩) | (go_at_call 50; with_reducible refine (HN2.out _).mono ?_; rintro e w3 ⟨rfl, rfl⟩) | (go_at_call 51; refine (HSF.out _).mono ?_; rintro e w3 ⟨rfl, rfl⟩))
        go_ret
        exact ⟨by rw [HV.out]; rfl, rfl⟩

set_option maxHeartbeats 2000000 in
set_option maxRecDepth 100000 in
theorem cnt_any (a : List UInt8) (w : World) : Calls Tryd.prog 33 #[.string (bs a)] w fun e w' => e = .returned (.int .i64 (cntV a : Nat)) ∧ w' = w := by
  have HN1 := Lib.hid (name_any a)
  have HC := Lib.hid (count_any a)
  cases hb : nameV a with
  | false =>
    have HV : Hid (cntV a = 0) := by show _ = _; rw [cntV, if_neg (by rw [hb]; simp)]
    rw [hb] at HN1
    generalize bs a = x at HN1 HC ⊢
    clear hb
    go_enter Tryd.func33, Tryd.ntmps33
    go_wp2_with (first | (go_at_call 50; refine (HN1.out _).mono ?_; rintro e w3 ⟨rfl, rfl⟩) | (go_at_call 56; refine (HC.out _).mono ?_; rintro e w3 ⟨rfl, rfl⟩))
    go_ret
    exact ⟨by rw [HV.out]; rfl, rfl⟩
  | true =>
    have HV : Hid ((cntV a : Nat) = 1 + a.count 46) := by show _ = _; rw [cntV, if_pos hb, splitc_count]; omega
    have hle : a.count 46 ≤ 253 := by
      have h1 := List.count_le_length (a := (46 : UInt8)) (l := a)
      have h2 : a.length ≤ 253 := by
        unfold nameV at hb
        simp at hb
        exact hb.1.1
      omega
    rw [hb] at HN1
    generalize a.count 46 = n at HC HV hle
    generalize bs a = x at HN1 HC ⊢
    clear hb
    go_enter Tryd.func33, Tryd.ntmps33
    go_wp2_with (first | (go_at_call 50; refine (HN1.out _).mono ?_; rintro e w3 ⟨rfl, rfl⟩) | (go_at_call 56; refine (HC.out _).mono ?_; rintro e w3 ⟨rfl, rfl⟩))
    go_ret
    exact ⟨by rw [HV.out]; exact ret_int (by omega), rfl⟩
end Go.Proofs.YtdnfmilihfkhmaaDoor
