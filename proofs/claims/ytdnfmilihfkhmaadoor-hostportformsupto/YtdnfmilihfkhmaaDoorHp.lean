/-
  THE WALK OF HostPortForms, over this seat's translation: the call returns true.
  Conditions: the string is shorter than 2 to the 31; the package variables are as Gl says.
-/
import Derived.Test.YtdnfmilihfkhmaaDoorN13
import Derived.Test.YtdnfmilihfkhmaaDoorR11
namespace Go.Proofs.YtdnfmilihfkhmaaDoor
open Go.ChangeShapes Go.WideShapes Go.ChangeAt Go.RowKit
set_option linter.unusedVariables false

set_option maxHeartbeats 1000000 in
set_option maxRecDepth 100000 in
theorem mod_big (i : Int) (w : World) :
    Calls Tryd.prog 23 #[.int .i64 i, .int .i64 70000] w fun e w' => ∃ p : Nat, p < 70000 ∧ e = .returned (.int .i64 p) ∧ w' = w := by
  have hw : ∃ p : Nat, p < 70000 ∧ wrap64 ((IntKind.u64.wrap i).tmod 70000) = p := by
    have h1 : 0 ≤ IntKind.u64.wrap i := by rw [show IntKind.u64.wrap i = i % 18446744073709551616 from rfl]; omega
    rw [Int.tmod_eq_emod_of_nonneg h1]
    refine ⟨(IntKind.u64.wrap i % 70000).toNat, by omega, ?_⟩
    unfold wrap64
    omega
  obtain ⟨p, hp, he⟩ := hw
  have HE := Lib.hid (And.intro hp he)
  clear hp he
  go_enter Tryd.func23, Tryd.ntmps23
  go_wp2_with fail
  go_ret
  exact ⟨p, HE.out.1, by rw [← HE.out.2]; rfl, rfl⟩

theorem portV_dec {p : Nat} (hp : p < 70000) : portV (oct8 (decN p)) = if 1 ≤ p ∧ p ≤ 65535 then some p else none := by
  by_cases h0 : p = 0
  · subst h0
    rw [decN_small (by omega), if_neg (by omega)]
    rfl
  · obtain ⟨x, r, e, h2, h3⟩ := decN_head (n := p) (by omega)
    have hne : ¬ (oct8 (decN p) = [] ∨ (oct8 (decN p)).head? = some 48) := by
      rw [e]
      rintro (h | h)
      · cases h
      · exact ofNat_ne (x := x) (c := 48) (by omega) (by omega) (by omega) (Option.some.inj h)
    rw [portV, if_neg hne, limGo_dig 65535 _ 0 (by omega), digGo_decN]
    show (if p ≤ 65535 then some p else none) = _
    by_cases h : p ≤ 65535
    · rw [if_pos h, if_pos ⟨by omega, h⟩]
    · rw [if_neg h, if_neg (by omega)]
theorem portV_nought (r : List UInt8) : portV (48 :: r) = none := by rw [portV, if_pos (.inr rfl)]
theorem portV_plus (r : List UInt8) : portV (43 :: r) = none := by
  rw [portV, if_neg (by rintro (h | h); cases h; exact absurd (Option.some.inj h) (by decide))]
  rfl

set_option maxHeartbeats 8000000 in
set_option maxRecDepth 100000 in
theorem forms_law (n : Int) (l : List UInt8) (hn : -9223372036854775808 ≤ n ∧ n ≤ 9223372036854775807) (hz : l.length < 2147483648) (w : World) (hG : Gl w) :
    Calls Tryd.prog 9 #[.int .i64 n, .string (bs l)] w fun e w' => e = .returned (.bool true) ∧ Fr No w w' := by
  have HMD := Lib.hid (mod_big n)
  have hlz : l.length ≤ 2147483648 := by omega
  have HD : Hid (∀ p : Nat, p < 70000 → ∀ w, Calls Tryd.prog 24 #[.int .i64 p] w fun e w' => e = .returned (.string (bs (oct8 (decN p)))) ∧ Fr No w w') := fun p h w => fdec_ref p (by omega) w
  have HAW : Hid (∀ w', Fr No w w' → Calls Tryd.prog 32 #[] w' fun e w'' => e = .returned (.bool true) ∧ Fr No w' w'') := fun w' hf => hawake_any w' (hG.fr hf)
  clear hG hz hn
  go_enter Tryd.func9, Tryd.ntmps9
  go_wp2_with (first | (go_at_call 23; refine (HMD.out _).mono ?_; rintro e w1 ⟨p, hp, rfl, hw1⟩; subst hw1) | fail)
  have HD1 := HD.out p hp
  have HP1 : Hid (∀ w, Calls Tryd.prog 35 #[.string (bs (oct8 (decN p)))] w fun e w' => e = .returned (ansP (portV (oct8 (decN p)))) ∧ w' = w) := fun w => pport_any _ (by rw [oct8_length]; have := decN_len p; omega) w
  have HP2 : Hid (∀ w, Calls Tryd.prog 35 #[.string (bs (48 :: oct8 (decN p)))] w fun e w' => e = .returned (.tuple #[.int .i64 0, .bool false]) ∧ w' = w) := fun w => by
    have h1 := pport_any (48 :: oct8 (decN p)) (by rw [List.length_cons, oct8_length]; have := decN_len p; omega) w
    rw [portV_nought] at h1
    exact h1
  have HP3 : Hid (∀ w, Calls Tryd.prog 35 #[.string (bs (43 :: oct8 (decN p)))] w fun e w' => e = .returned (.tuple #[.int .i64 0, .bool false]) ∧ w' = w) := fun w => by
    have h1 := pport_any (43 :: oct8 (decN p)) (by rw [List.length_cons, oct8_length]; have := decN_len p; omega) w
    rw [portV_plus] at h1
    exact h1
  have HP4 : Hid (∀ w, Calls Tryd.prog 35 #[.string (bs (oct8 (decN p) ++ l))] w fun e w' => e = .returned (.tuple #[.int .i64 (portN (portV (oct8 (decN p) ++ l)) : Nat), .bool (portV (oct8 (decN p) ++ l)).isSome]) ∧ w' = w) := fun w => pport_any _ (by rw [List.length_append, oct8_length]; have := decN_len p; omega) w
  have HP5 : Hid (∀ w, Calls Tryd.prog 36 #[.string (bs (oct8 (decN p) ++ l))] w fun e w' => e = .returned (.tuple #[.int .i64 (portN (portV (oct8 (decN p) ++ l)) : Nat), .bool (portV (oct8 (decN p) ++ l)).isSome]) ∧ w' = w) := fun w => pport_ref _ w
  generalize ((portN (portV (oct8 (decN p) ++ l)) : Nat) : Int) = q at HP4 HP5
  generalize (portV (oct8 (decN p) ++ l)).isSome = r at HP4 HP5
  have ha0 : (⟨#[48]⟩ : ByteArray) ++ bs (oct8 (decN p)) = bs (48 :: oct8 (decN p)) := bs_app [48] _
  have ha1 : (⟨#[43]⟩ : ByteArray) ++ bs (oct8 (decN p)) = bs (43 :: oct8 (decN p)) := bs_app [43] _
  have ha2 : bs (oct8 (decN p)) ++ bs l = bs (oct8 (decN p) ++ l) := bs_app _ l
  have hzd : (bs (oct8 (decN p))).size = (decN p).length := by rw [bs_size, oct8_length]
  have hzd2 : (decN p).length ≤ 70000 := by have := decN_len p; omega
  have hzl : (bs l).size = l.length := rfl
  rw [portV_dec hp] at HP1
  generalize (decN p).length = zd at hzd hzd2
  generalize l.length = zl at hzl hlz
  generalize bs (oct8 (decN p) ++ l) = s4 at HP4 HP5 ha2
  generalize bs (43 :: oct8 (decN p)) = s3 at HP3 ha1
  generalize bs (48 :: oct8 (decN p)) = s2 at HP2 ha0
  generalize bs (oct8 (decN p)) = s1 at HD1 HP1 ha0 ha1 ha2 hzd
  generalize bs l = sl at ha2 hzl ⊢
  have HD2 := Lib.hid HD1
  clear HD1
  have hor : p = 0 ∨ (1 ≤ p ∧ p ≤ 65535) ∨ 65535 < p := by omega
  rcases hor with h0 | h1 | h2
  · rw [if_neg (by omega)] at HP1
    have hp1 : (p : Int) = 0 := by omega
    have HV : Hid (ansP none = .tuple #[.int .i64 0, .bool false]) := rfl
    rw [HV.out] at HP1
    rw [hp1] at HD2 ⊢
    clear h0 hp hp1
    go_wp2_with (first | (go_at_call 24; refine (HD2.out _).mono ?_; rintro e w2 ⟨rfl, hf2⟩) | (go_at_call 35; with_reducible refine (HP1.out _).mono ?_; rintro e w3 ⟨rfl, hw3⟩; subst hw3) | (go_at_call 35; with_reducible refine (HP2.out _).mono ?_; rintro e w4 ⟨rfl, hw4⟩; subst hw4) | (go_at_call 35; with_reducible refine (HP3.out _).mono ?_; rintro e w5 ⟨rfl, hw5⟩; subst hw5) | (go_at_call 35; with_reducible refine (HP4.out _).mono ?_; rintro e w6 ⟨rfl, hw6⟩; subst hw6) | (go_at_call 36; refine (HP5.out _).mono ?_; rintro e w7 ⟨rfl, hw7⟩; subst hw7) | (go_at_call 32; refine (HAW.out _ hf2).mono ?_; rintro e w8 ⟨rfl, hf8⟩) | fail)
    go_ret
    exact ⟨rfl, hf2.trans hf8⟩
  · rw [if_pos h1] at HP1
    have HV : Hid (ansP (some p) = .tuple #[.int .i64 p, .bool true]) := rfl
    rw [HV.out] at HP1
    have hp1 : (1 : Int) ≤ (p : Int) := by omega
    have hp2 : (p : Int) ≤ 65535 := by omega
    clear HV h1 hp
    generalize (p : Int) = pi at HP1 HD2 hp1 hp2 ⊢
    go_wp2_with (first | (go_at_call 24; refine (HD2.out _).mono ?_; rintro e w2 ⟨rfl, hf2⟩) | (go_at_call 35; with_reducible refine (HP1.out _).mono ?_; rintro e w3 ⟨rfl, hw3⟩; subst hw3) | (go_at_call 35; with_reducible refine (HP2.out _).mono ?_; rintro e w4 ⟨rfl, hw4⟩; subst hw4) | (go_at_call 35; with_reducible refine (HP3.out _).mono ?_; rintro e w5 ⟨rfl, hw5⟩; subst hw5) | (go_at_call 35; with_reducible refine (HP4.out _).mono ?_; rintro e w6 ⟨rfl, hw6⟩; subst hw6) | (go_at_call 36; refine (HP5.out _).mono ?_; rintro e w7 ⟨rfl, hw7⟩; subst hw7) | (go_at_call 32; refine (HAW.out _ hf2).mono ?_; rintro e w8 ⟨rfl, hf8⟩) | fail)
    go_ret
    exact ⟨rfl, hf2.trans hf8⟩
  · rw [if_neg (by omega)] at HP1
    have HV : Hid (ansP none = .tuple #[.int .i64 0, .bool false]) := rfl
    rw [HV.out] at HP1
    have hp1 : (1 : Int) ≤ (p : Int) := by omega
    have hp2 : ¬ (p : Int) ≤ 65535 := by omega
    clear HV h2 hp
    generalize (p : Int) = pi at HP1 HD2 hp1 hp2 ⊢
    go_wp2_with (first | (go_at_call 24; refine (HD2.out _).mono ?_; rintro e w2 ⟨rfl, hf2⟩) | (go_at_call 35; with_reducible refine (HP1.out _).mono ?_; rintro e w3 ⟨rfl, hw3⟩; subst hw3) | (go_at_call 35; with_reducible refine (HP2.out _).mono ?_; rintro e w4 ⟨rfl, hw4⟩; subst hw4) | (go_at_call 35; with_reducible refine (HP3.out _).mono ?_; rintro e w5 ⟨rfl, hw5⟩; subst hw5) | (go_at_call 35; with_reducible refine (HP4.out _).mono ?_; rintro e w6 ⟨rfl, hw6⟩; subst hw6) | (go_at_call 36; refine (HP5.out _).mono ?_; rintro e w7 ⟨rfl, hw7⟩; subst hw7) | (go_at_call 32; refine (HAW.out _ hf2).mono ?_; rintro e w8 ⟨rfl, hf8⟩) | fail)
    go_ret
    exact ⟨rfl, hf2.trans hf8⟩
end Go.Proofs.YtdnfmilihfkhmaaDoor
