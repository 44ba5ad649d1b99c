/-
  CONTRACTS of the library's strings.HasSuffix, strings.Count at one byte and strings.LastIndexByte, over this seat's translation: what each call returns.
  Conditions: none.
  CONTRACT of package host's ParsePort, over this seat's translation: what the call returns.
  Conditions: the string is shorter than 2 to the 31.
  CONTRACTS of package host's IsSubdomain and LabelCount, over this seat's translation: what each call returns.
  Conditions: the strings are shorter than 2 to the 31.
-/
import Derived.Test.YtnadendhboiliaaGreatHn
import Derived.Lib.Bytealg
namespace Go.Proofs.YtnadendhboiliaaGreat
open Go.ChangeShapes Go.WideShapes Go.ChangeAt Go.RowKit
set_option linter.unusedVariables false

set_option maxHeartbeats 1000000 in
set_option maxRecDepth 100000 in
theorem suf_in (l m : List UInt8) (hl : l.length < 4611686018427387904) (w : World) : Calls Tryz.prog 89 #[.string (bs l), .string (bs m)] w fun e w' => e = .returned (.bool (sufV l m)) ∧ w' = w := by
  have hs1 : (bs l).size = l.length := rfl
  have hs2 : (bs m).size = m.length := rfl
  by_cases hle : m.length ≤ l.length
  · obtain ⟨d, hd⟩ : ∃ d, l.length = d + m.length := ⟨l.length - m.length, by omega⟩
    have hdb : d < 4611686018427387904 := by omega
    have hwd : wrap64 (d : Int) = d := by unfold wrap64; omega
    have hex : (bs l).extract d (d + m.length) = bs (l.drop d) := by rw [bs_extract, List.take_of_length_le]; rw [List.length_drop]; omega
    have heq := bs_eq (l.drop d) m
    have HV : Hid (sufV l m = decide (l.drop d = m)) := by show _ = _; unfold sufV; rw [decide_eq_true hle, show l.length - m.length = d by omega]; rfl
    generalize decide (l.drop d = m) = b at heq HV
    generalize bs (l.drop d) = x at hex heq
    rw [hd] at hs1
    generalize bs l = s at hs1 hex ⊢
    generalize bs m = t at hs2 heq ⊢
    generalize m.length = lm at hs1 hs2 hex hd
    clear hle hd hl
    go_enter Tryz.func89, Tryz.ntmps89
    go_wp2_with fail
    go_ret
    exact ⟨by rw [HV.out]; rfl, rfl⟩
  · have HV : Hid (sufV l m = false) := by show _ = _; unfold sufV; rw [decide_eq_false hle]; rfl
    have p1 : ¬ (m.length : Int) ≤ (l.length : Int) := by omega
    generalize bs l = s at hs1 ⊢
    generalize bs m = t at hs2 ⊢
    generalize m.length = lm at hs2 p1
    generalize l.length = ll at hs1 p1 hl
    clear hle
    go_enter Tryz.func89, Tryz.ntmps89
    go_wp2_with fail
    go_ret
    exact ⟨by rw [HV.out]; rfl, rfl⟩
set_option maxHeartbeats 1000000 in
set_option maxRecDepth 100000 in
theorem suf_any (l m : List UInt8) (hl : l.length < 4611686018427387904) (w : World) : Calls Tryz.prog 74 #[.string (bs l), .string (bs m)] w fun e w' => e = .returned (.bool (sufV l m)) ∧ w' = w := by
  have HC := Lib.hid (suf_in l m hl)
  generalize sufV l m = b at HC ⊢
  generalize bs l = s at HC ⊢
  generalize bs m = t at HC ⊢
  go_enter Tryz.func74, Tryz.ntmps74
  go_wp2_with (first | (go_at_call 89; refine (HC.out _).mono ?_; rintro e w3 ⟨rfl, rfl⟩))
  go_ret
  exact ⟨rfl, rfl⟩

set_option maxHeartbeats 1000000 in
set_option maxRecDepth 100000 in
theorem count_any (l : List UInt8) (w : World) : Calls Tryz.prog 73 #[.string (bs l), .string ⟨#[46]⟩] w fun e w' => e = .returned (.int .i64 (l.count 46 : Nat)) ∧ w' = w := by
  have HR : Hid (∀ w : World, Sem.run Tryz.prog (Extern.BytealgCount.count #[.string (bs l), .int .u8 46]) w = .ok (.int .i64 (l.count 46 : Nat)) w) := fun w => Lib.run_countString (bs l) 46 w
  generalize l.count 46 = n at HR ⊢
  generalize bs l = s at HR ⊢
  go_enter Tryz.func73, Tryz.ntmps73
  go_wp2
  rw [run_callFunc_extern Tryz.func87 (by kernel_rfl) (by kernel_rfl) (by kernel_rfl) (e := Extern.BytealgCount.count) (by kernel_rfl)]
  erw [HR.out]
  simp only [Result.andThen]
  rw [Oper.upon_value]
  go_wp2
  go_ret
  exact ⟨rfl, rfl⟩

end Go.Proofs.YtnadendhboiliaaGreat
namespace Go.Proofs.YtnadendhboiliaaGreat
open Go.ChangeShapes Go.WideShapes Go.ChangeAt Go.RowKit
set_option linter.unusedVariables false

end Go.Proofs.YtnadendhboiliaaGreat
namespace Go.Proofs.YtnadendhboiliaaGreat
open Go.ChangeShapes Go.WideShapes Go.ChangeAt Go.RowKit
set_option linter.unusedVariables false

set_option maxHeartbeats 2000000 in
set_option maxRecDepth 100000 in
theorem sub_any (a b : List UInt8) (ha : a.length < 4611686018427387904) (hb : b.length < 4611686018427387904) (w : World) : Calls Tryz.prog 51 #[.string (bs a), .string (bs b)] w fun e w' => e = .returned (.bool (subV a b)) ∧ w' = w := by
  have HN1 := Lib.hid (name_any a)
  have HN2 := Lib.hid (name_any b)
  have HSF := Lib.hid (suf_any a (46 :: b) (by omega))
  have heq := bs_eq a b
  have hap : (⟨#[46]⟩ : ByteArray) ++ bs b = bs (46 :: b) := bs_append [46] b
  have HV : Hid (subV a b = (nameV a && nameV b && (decide (a = b) || sufV a (46 :: b)))) := rfl
  have hys : (bs b).size = b.length := rfl
  generalize b.length = lb at hys hb
  generalize nameV a = b1 at HN1 HV
  generalize nameV b = b2 at HN2 HV
  generalize sufV a (46 :: b) = b3 at HSF HV
  generalize decide (a = b) = b4 at heq HV
  generalize bs (46 :: b) = z at HSF hap
  generalize bs a = x at HN1 HSF heq ⊢
  generalize bs b = y at HN2 heq hap hys ⊢
  cases b1
  · go_enter Tryz.func51, Tryz.ntmps51
    go_wp2_with (first | (go_at_call 72; with_reducible refine (HN1.out _).mono ?_; rintro e w3 ⟨rfl, rfl⟩) | (go_at_call 72; with_reducible refine (HN2.out _).mono ?_; rintro e w3 ⟨rfl, rfl⟩) | (go_at_call 74; refine (HSF.out _).mono ?_; rintro e w3 ⟨rfl, rfl⟩))
    go_ret
    exact ⟨by rw [HV.out]; rfl, rfl⟩
  · cases b2
    · go_enter Tryz.func51, Tryz.ntmps51
      go_wp2_with (first | (go_at_call 72; with_reducible refine (HN1.out _).mono ?_; rintro e w3 ⟨rfl, rfl⟩) | (go_at_call 72; with_reducible refine (HN2.out _).mono ?_; rintro e w3 ⟨rfl, rfl⟩) | (go_at_call 74; refine (HSF.out _).mono ?_; rintro e w3 ⟨rfl, rfl⟩))
      go_ret
      exact ⟨by rw [HV.out]; rfl, rfl⟩
    · cases b4
      · go_enter Tryz.func51, Tryz.ntmps51
        go_wp2_with (first | (go_at_call 72; with_reducible refine (HN1.out _).mono ?_; rintro e w3 ⟨rfl, rfl⟩) | (go_at_call 72; with_reducible refine (HN2.out _).mono ?_; rintro e w3 ⟨rfl, rfl⟩) | (go_at_call 74; refine (HSF.out _).mono ?_; rintro e w3 ⟨rfl, rfl⟩))
        go_ret
        exact ⟨by rw [HV.out]; rfl, rfl⟩
      · go_enter Tryz.func51, Tryz.ntmps51
        go_wp2_with (first | (go_at_call 72; with_reducible refine (HN1.out _).mono ?_; rintro e w3 ⟨rfl, rfl⟩) | (go_at_call 72; with_reducible refine (HN2.out _).mono ?_; rintro e w3 ⟨rfl, rfl⟩) | (go_at_call 74; refine (HSF.out _).mono ?_; rintro e w3 ⟨rfl, rfl⟩))
        go_ret
        exact ⟨by rw [HV.out]; rfl, rfl⟩

set_option maxHeartbeats 2000000 in
set_option maxRecDepth 100000 in
theorem cnt_any (a : List UInt8) (w : World) : Calls Tryz.prog 50 #[.string (bs a)] w fun e w' => e = .returned (.int .i64 (cntV a : Nat)) ∧ w' = w := by
  have HN1 := Lib.hid (name_any a)
  have HC := Lib.hid (count_any a)
  cases hb : nameV a with
  | false =>
    have HV : Hid (cntV a = 0) := by show _ = _; rw [cntV, if_neg (by rw [hb]; simp)]
    rw [hb] at HN1
    generalize bs a = x at HN1 HC ⊢
    clear hb
    go_enter Tryz.func50, Tryz.ntmps50
    go_wp2_with (first | (go_at_call 72; refine (HN1.out _).mono ?_; rintro e w3 ⟨rfl, rfl⟩) | (go_at_call 73; refine (HC.out _).mono ?_; rintro e w3 ⟨rfl, rfl⟩))
    go_ret
    exact ⟨by rw [HV.out]; rfl, rfl⟩
  | true =>
    have HV : Hid ((cntV a : Nat) = 1 + a.count 46) := by show _ = _; rw [cntV, if_pos hb, splitc_count]; omega
    have hle : a.count 46 ≤ 253 := by
      have h1 := List.count_le_length (a := (46 : UInt8)) (l := a)
      have h2 : a.length ≤ 253 := by
        unfold nameV at hb
        simp at hb
        exact hb.1.1
      omega
    rw [hb] at HN1
    generalize a.count 46 = n at HC HV hle
    generalize bs a = x at HN1 HC ⊢
    clear hb
    go_enter Tryz.func50, Tryz.ntmps50
    go_wp2_with (first | (go_at_call 72; refine (HN1.out _).mono ?_; rintro e w3 ⟨rfl, rfl⟩) | (go_at_call 73; refine (HC.out _).mono ?_; rintro e w3 ⟨rfl, rfl⟩))
    go_ret
    exact ⟨by rw [HV.out]; exact ret_int (by omega), rfl⟩
end Go.Proofs.YtnadendhboiliaaGreat
