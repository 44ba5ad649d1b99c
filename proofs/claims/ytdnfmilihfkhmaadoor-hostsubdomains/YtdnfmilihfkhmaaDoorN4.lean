/-
  CONTRACT of package host's ParseName, over this seat's translation: what the call returns.
  Conditions: the string is shorter than 2 to the 31.
-/
import Derived.Test.YtdnfmilihfkhmaaDoorN3
namespace Go.Proofs.YtdnfmilihfkhmaaDoor
open Go.ChangeShapes Go.WideShapes Go.ChangeAt Go.RowKit
set_option linter.unusedVariables false

/-- These bytes without the dot that may end them. -/
def trimV (l : List UInt8) : List UInt8 := if l.getLast? = some 46 then l.dropLast else l
/-- The host name that these bytes are written for. -/
def nameP (l : List UInt8) : Option (List UInt8) := if nameV (lowV (trimV l)) then some (lowV (trimV l)) else none
/-- A string and whether there is one. -/
def ansN : Option (List UInt8) → Value
  | some n => .tuple #[.string (bs n), .bool true]
  | none => .tuple #[.string ⟨#[]⟩, .bool false]

theorem nameP_of {l m : List UInt8} (hm : trimV l = m) (h : nameV (lowV m) = true) : nameP l = some (lowV m) := by rw [nameP, hm, if_pos h]
theorem nameP_no {l m : List UInt8} (hm : trimV l = m) (h : nameV (lowV m) = false) : nameP l = none := by rw [nameP, hm, if_neg (by rw [h]; simp)]
theorem nameV_long {m : List UInt8} (h : 253 < m.length) : nameV (lowV m) = false := by
  unfold nameV
  rw [decide_eq_false (by rw [lowV, List.length_map]; omega)]; rfl

set_option maxHeartbeats 4000000 in
set_option maxRecDepth 100000 in
theorem pname_any (l : List UInt8) (hl : l.length < 2147483648) (w : World) : Calls Tryd.prog 52 #[.string (bs l)] w fun e w' => e = .returned (ansN (nameP l)) ∧ Fr No w w' := by
  have hsz : (bs l).size = l.length := rfl
  have HIX : Hid (∀ (i : Nat) (x : UInt8) (w : World), l[i]? = some x → Sem.run Tryd.prog (Instr.index 9 (.string (bs l)) (.int .i64 i)) w = .ok (.int .u8 (x.toNat : Int)) w) := fun i x w h => bs_index h w
  by_cases hlast : l.getLast? = some 46
  · have hm : trimV l = l.dropLast := by rw [trimV, if_pos hlast]
    have hlen0 : 0 < l.length := by
      cases l with
      | nil => cases hlast
      | cons x r => simp
    obtain ⟨k, hk⟩ : ∃ k, l.length = k + 1 := ⟨l.length - 1, by omega⟩
    have hx := fun w => HIX.out k 46 w (by rw [List.getLast?_eq_getElem?, hk] at hlast; exact hlast)
    have hex : (bs l).extract 0 k = bs l.dropLast := by rw [bs_extract, List.dropLast_eq_take, List.drop_zero, hk]; rfl
    have hsz2 : (bs l.dropLast).size = k := by rw [bs_size, List.length_dropLast, hk]; rfl
    have hkm : l.dropLast.length = k := by rw [List.length_dropLast, hk]; rfl
    have HLW : Hid (∀ w, Calls Tryd.prog 76 #[.string (bs l.dropLast)] w fun e w' => e = .returned (.string (bs (lowV l.dropLast))) ∧ Fr No w w') := fun w => lower_any _ (by omega) w
    generalize l.dropLast = m at hm hex hsz2 hkm HLW
    have HNM : Hid (∀ w, Calls Tryd.prog 50 #[.string (bs (lowV m))] w fun e w' => e = .returned (.bool (nameV (lowV m))) ∧ w' = w) := fun w => name_any _ w
    have HM : Hid (trimV l = m ∧ m.length = k) := ⟨hm, hkm⟩
    have hk31 : k < 2147483648 := by omega
    rw [hk] at hsz
    generalize bs l = s at hsz hx hex ⊢
    generalize bs m = sm at hex hsz2 HLW
    clear HIX hlast hm hlen0 hl hk hkm
    have e46 : (((46 : UInt8).toNat : Nat) : Int) = 46 := rfl
    rw [e46] at hx
    clear e46
    have c1 : (((k + 1 : Nat) : Int)) - 1 = (k : Int) := by omega
    by_cases hbig : 253 < k
    · have HV : Hid (nameP l = none) := nameP_no HM.out.1 (nameV_long (by rw [HM.out.2]; exact hbig))
      go_enter Tryd.func52, Tryd.ntmps52
      go_wp2_with fail
      go_ret2
      exact ⟨by rw [HV.out]; rfl, Fr.refl _ _⟩
    · obtain ⟨sn, hsn⟩ : ∃ sn, bs (lowV m) = sn := ⟨_, rfl⟩
      cases hb : nameV (lowV m) with
      | true =>
        have HV : Hid (ansN (nameP l) = .tuple #[.string sn, .bool true]) := by show _ = _; rw [nameP_of HM.out.1 hb, ← hsn]; rfl
        rw [hb] at HNM
        rw [hsn] at HNM HLW
        clear hb hsn
        go_enter Tryd.func52, Tryd.ntmps52
        go_wp2_with (first | (go_at_call 76; refine (HLW.out _).mono ?_; rintro e w3 ⟨rfl, hf3⟩) | (go_at_call 50; refine (HNM.out _).mono ?_; rintro e w4 ⟨rfl, rfl⟩))
        go_ret2
        exact ⟨by rw [HV.out]; rfl, hf3⟩
      | false =>
        have HV : Hid (nameP l = none) := nameP_no HM.out.1 hb
        rw [hb] at HNM
        rw [hsn] at HNM HLW
        clear hb hsn
        go_enter Tryd.func52, Tryd.ntmps52
        go_wp2_with (first | (go_at_call 76; refine (HLW.out _).mono ?_; rintro e w3 ⟨rfl, hf3⟩) | (go_at_call 50; refine (HNM.out _).mono ?_; rintro e w4 ⟨rfl, rfl⟩))
        go_ret2
        exact ⟨by rw [HV.out]; rfl, hf3⟩
  · obtain ⟨m, hm⟩ : ∃ m, trimV l = m := ⟨_, rfl⟩
    have hml : m = l := by rw [← hm, trimV, if_neg hlast]
    obtain ⟨k, hk⟩ : ∃ k, l.length = k := ⟨_, rfl⟩
    have HLW : Hid (∀ w, Calls Tryd.prog 76 #[.string (bs l)] w fun e w' => e = .returned (.string (bs (lowV m))) ∧ Fr No w w') := fun w => by rw [hml]; exact lower_any _ (by omega) w
    have HNM : Hid (∀ w, Calls Tryd.prog 50 #[.string (bs (lowV m))] w fun e w' => e = .returned (.bool (nameV (lowV m))) ∧ w' = w) := fun w => name_any _ w
    have HM : Hid (trimV l = m ∧ m.length = k) := ⟨hm, by rw [hml]; exact hk⟩
    have hk31 : k < 2147483648 := by omega
    rw [hk] at hsz
    by_cases h0 : k = 0
    · generalize bs l = s at hsz HLW ⊢
      clear HIX hlast hm hml hl hk
      have p0 : ¬ (0 : Int) < (k : Int) := by omega
      have hbig : ¬ 253 < k := by omega
      obtain ⟨sn, hsn⟩ : ∃ sn, bs (lowV m) = sn := ⟨_, rfl⟩
      cases hb : nameV (lowV m) with
      | true =>
        have HV : Hid (ansN (nameP l) = .tuple #[.string sn, .bool true]) := by show _ = _; rw [nameP_of HM.out.1 hb, ← hsn]; rfl
        rw [hb] at HNM
        rw [hsn] at HNM HLW
        clear hb hsn
        go_enter Tryd.func52, Tryd.ntmps52
        go_wp2_with (first | (go_at_call 76; refine (HLW.out _).mono ?_; rintro e w3 ⟨rfl, hf3⟩) | (go_at_call 50; refine (HNM.out _).mono ?_; rintro e w4 ⟨rfl, rfl⟩))
        go_ret2
        exact ⟨by rw [HV.out]; rfl, hf3⟩
      | false =>
        have HV : Hid (nameP l = none) := nameP_no HM.out.1 hb
        rw [hb] at HNM
        rw [hsn] at HNM HLW
        clear hb hsn
        go_enter Tryd.func52, Tryd.ntmps52
        go_wp2_with (first | (go_at_call 76; refine (HLW.out _).mono ?_; rintro e w3 ⟨rfl, hf3⟩) | (go_at_call 50; refine (HNM.out _).mono ?_; rintro e w4 ⟨rfl, rfl⟩))
        go_ret2
        exact ⟨by rw [HV.out]; rfl, hf3⟩
    · obtain ⟨z, hz⟩ : ∃ z, l[k - 1]? = some z := ⟨_, List.getElem?_eq_getElem (by omega)⟩
      have hz46 : z ≠ 46 := by intro e; rw [List.getLast?_eq_getElem?, hk, hz, e] at hlast; exact hlast rfl
      have pz : ¬ (z.toNat : Int) = 46 := fun e => hz46 (UInt8.toNat_inj.1 (by show z.toNat = 46; omega))
      have hx := fun w => HIX.out (k - 1) z w hz
      have hc : ((k - 1 : Nat) : Int) = (k : Int) - 1 := by omega
      rw [hc] at hx
      generalize (z.toNat : Int) = zx at hx pz
      generalize bs l = s at hsz hx HLW ⊢
      clear HIX hlast hm hml hl hk hc hz hz46
      have p0 : (0 : Int) < (k : Int) := by omega
      by_cases hbig : 253 < k
      · have HV : Hid (nameP l = none) := nameP_no HM.out.1 (nameV_long (by rw [HM.out.2]; exact hbig))
        go_enter Tryd.func52, Tryd.ntmps52
        go_wp2_with fail
        go_ret2
        exact ⟨by rw [HV.out]; rfl, Fr.refl _ _⟩
      · obtain ⟨sn, hsn⟩ : ∃ sn, bs (lowV m) = sn := ⟨_, rfl⟩
        cases hb : nameV (lowV m) with
        | true =>
          have HV : Hid (ansN (nameP l) = .tuple #[.string sn, .bool true]) := by show _ = _; rw [nameP_of HM.out.1 hb, ← hsn]; rfl
          rw [hb] at HNM
          rw [hsn] at HNM HLW
          clear hb hsn
          go_enter Tryd.func52, Tryd.ntmps52
          go_wp2_with (first | (go_at_call 76; refine (HLW.out _).mono ?_; rintro e w3 ⟨rfl, hf3⟩) | (go_at_call 50; refine (HNM.out _).mono ?_; rintro e w4 ⟨rfl, rfl⟩))
          go_ret2
          exact ⟨by rw [HV.out]; rfl, hf3⟩
        | false =>
          have HV : Hid (nameP l = none) := nameP_no HM.out.1 hb
          rw [hb] at HNM
          rw [hsn] at HNM HLW
          clear hb hsn
          go_enter Tryd.func52, Tryd.ntmps52
          go_wp2_with (first | (go_at_call 76; refine (HLW.out _).mono ?_; rintro e w3 ⟨rfl, hf3⟩) | (go_at_call 50; refine (HNM.out _).mono ?_; rintro e w4 ⟨rfl, rfl⟩))
          go_ret2
          exact ⟨by rw [HV.out]; rfl, hf3⟩
end Go.Proofs.YtdnfmilihfkhmaaDoor
