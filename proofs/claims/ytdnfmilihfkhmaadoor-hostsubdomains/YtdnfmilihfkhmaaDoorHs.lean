/-
  THE WALK OF HostSubdomains, over this seat's translation: the call returns true.
  Conditions: the strings are no longer than a string can be; the package variables are as Gl says.
-/
import Derived.Test.YtdnfmilihfkhmaaDoorSp
import Derived.Test.YtdnfmilihfkhmaaDoorN13
namespace Go.Proofs.YtdnfmilihfkhmaaDoor
open Go.ChangeShapes Go.WideShapes Go.ChangeAt Go.RowKit
set_option linter.unusedVariables false

set_option maxHeartbeats 8000000 in
set_option maxRecDepth 100000 in
theorem subs_law (a b c : List UInt8) (ha : a.length ≤ maxLen) (hb : b.length ≤ maxLen) (hc : c.length ≤ maxLen) (w : World) (hG : Gl w) :
    Calls Tryd.prog 8 #[.string (bs a), .string (bs b), .string (bs c)] w fun e w' => e = .returned (.bool true) ∧ Fr No w w' := by
  have HP1 : Hid (∀ w, Calls Tryd.prog 29 #[.string (bs a)] w fun e w' => e = .returned (.tuple #[.string (nmS (nameP a)), .bool (nameP a).isSome]) ∧ Fr No w w') := fun w => by rw [← ansN_eq]; exact pname_ref a (by unfold maxLen at ha; omega) w
  have HP2 : Hid (∀ w, Calls Tryd.prog 29 #[.string (bs b)] w fun e w' => e = .returned (.tuple #[.string (nmS (nameP b)), .bool (nameP b).isSome]) ∧ Fr No w w') := fun w => by rw [← ansN_eq]; exact pname_ref b (by unfold maxLen at hb; omega) w
  have HS1 := Lib.hid (sub_all a b)
  have HR1 := Lib.hid (sub_ref a b)
  have HS2 := Lib.hid (sub_all b c)
  have HR2 := Lib.hid (sub_ref b c)
  have HAW : Hid (∀ w', Fr No w w' → Calls Tryd.prog 32 #[] w' fun e w'' => e = .returned (.bool true) ∧ Fr No w' w'') := fun w' hf => hawake_any w' (hG.fr hf)
  clear ha hb hc hG
  generalize subV a b = v1 at HS1 HR1
  generalize subV b c = v2 at HS2 HR2
  cases hx : nameP a with
  | none =>
    rw [hx] at HP1
    generalize nmS (nameP b) = sy at HP2
    generalize (nameP b).isSome = oy at HP2
    generalize bs a = sa at HP1 HS1 HR1 ⊢
    generalize bs b = sb at HP2 HS1 HR1 HS2 HR2 ⊢
    generalize bs c = sc at HS2 HR2 ⊢
    have HE : Hid (nmS none = ⟨#[]⟩ ∧ (none : Option (List UInt8)).isSome = false) := ⟨rfl, rfl⟩
    rw [HE.out.1, HE.out.2] at HP1
    clear HE hx
    go_enter Tryd.func8, Tryd.ntmps8
    go_wp2_with (first | (go_at_call 29; with_reducible refine (HP1.out _).mono ?_; rintro e w1 ⟨rfl, hf1⟩) | (go_at_call 29; with_reducible refine (HP2.out _).mono ?_; rintro e w2 ⟨rfl, hf2⟩) | (go_at_call 30; with_reducible refine (HS1.out _).mono ?_; rintro e wa ⟨rfl, hwa⟩; subst hwa) | (go_at_call 31; with_reducible refine (HR1.out _).mono ?_; rintro e w3 ⟨rfl, hf3⟩) | (go_at_call 30; with_reducible refine (HS2.out _).mono ?_; rintro e wb ⟨rfl, hwb⟩; subst hwb) | (go_at_call 31; with_reducible refine (HR2.out _).mono ?_; rintro e w4 ⟨rfl, hf4⟩) | (go_at_call 32; with_reducible refine (HAW.out w4 (((hf1.trans hf2).trans hf3).trans hf4)).mono ?_; rintro e w5 ⟨rfl, hf5⟩) | fail)
    go_ret
    exact ⟨rfl, (((hf1.trans hf2).trans hf3).trans hf4).trans hf5⟩
  | some x =>
    have hnx := nameP_name hx
    rw [hx] at HP1
    have HE : Hid (nmS (some x) = bs x ∧ (some x : Option (List UInt8)).isSome = true) := ⟨rfl, rfl⟩
    rw [HE.out.1, HE.out.2] at HP1
    clear HE hx
    cases hy : nameP b with
    | none =>
      rw [hy] at HP2
      have HE : Hid (nmS none = ⟨#[]⟩ ∧ (none : Option (List UInt8)).isSome = false) := ⟨rfl, rfl⟩
      rw [HE.out.1, HE.out.2] at HP2
      generalize bs x = sx at HP1
      generalize bs a = sa at HP1 HS1 HR1 ⊢
      generalize bs b = sb at HP2 HS1 HR1 HS2 HR2 ⊢
      generalize bs c = sc at HS2 HR2 ⊢
      clear HE hy hnx
      go_enter Tryd.func8, Tryd.ntmps8
      go_wp2_with (first | (go_at_call 29; with_reducible refine (HP1.out _).mono ?_; rintro e w1 ⟨rfl, hf1⟩) | (go_at_call 29; with_reducible refine (HP2.out _).mono ?_; rintro e w2 ⟨rfl, hf2⟩) | (go_at_call 30; with_reducible refine (HS1.out _).mono ?_; rintro e wa ⟨rfl, hwa⟩; subst hwa) | (go_at_call 31; with_reducible refine (HR1.out _).mono ?_; rintro e w3 ⟨rfl, hf3⟩) | (go_at_call 30; with_reducible refine (HS2.out _).mono ?_; rintro e wb ⟨rfl, hwb⟩; subst hwb) | (go_at_call 31; with_reducible refine (HR2.out _).mono ?_; rintro e w4 ⟨rfl, hf4⟩) | (go_at_call 32; with_reducible refine (HAW.out w4 (((hf1.trans hf2).trans hf3).trans hf4)).mono ?_; rintro e w5 ⟨rfl, hf5⟩) | fail)
      go_ret
      exact ⟨rfl, (((hf1.trans hf2).trans hf3).trans hf4).trans hf5⟩
    | some y =>
      have hny := nameP_name hy
      rw [hy] at HP2
      have HE : Hid (nmS (some y) = bs y ∧ (some y : Option (List UInt8)).isSome = true) := ⟨rfl, rfl⟩
      rw [HE.out.1, HE.out.2] at HP2
      clear HE hy
      have hzx : (bs x).size = x.length := rfl
      have hzy : (bs y).size = y.length := rfl
      have hlx := nameV_short hnx
      have hly := nameV_short hny
      by_cases hbig : 120 < x.length + y.length
      · have p1 : (120 : Int) < (x.length : Int) + (y.length : Int) := by omega
        generalize x.length = lx at hzx hlx p1 hbig
        generalize y.length = ly at hzy hly p1 hbig
        generalize bs x = sx at HP1 hzx
        generalize bs y = sy at HP2 hzy
        generalize bs a = sa at HP1 HS1 HR1 ⊢
        generalize bs b = sb at HP2 HS1 HR1 HS2 HR2 ⊢
        generalize bs c = sc at HS2 HR2 ⊢
        clear hbig hnx hny
        go_enter Tryd.func8, Tryd.ntmps8
        go_wp2_with (first | (go_at_call 29; with_reducible refine (HP1.out _).mono ?_; rintro e w1 ⟨rfl, hf1⟩) | (go_at_call 29; with_reducible refine (HP2.out _).mono ?_; rintro e w2 ⟨rfl, hf2⟩) | (go_at_call 30; with_reducible refine (HS1.out _).mono ?_; rintro e wa ⟨rfl, hwa⟩; subst hwa) | (go_at_call 31; with_reducible refine (HR1.out _).mono ?_; rintro e w3 ⟨rfl, hf3⟩) | (go_at_call 30; with_reducible refine (HS2.out _).mono ?_; rintro e wb ⟨rfl, hwb⟩; subst hwb) | (go_at_call 31; with_reducible refine (HR2.out _).mono ?_; rintro e w4 ⟨rfl, hf4⟩) | (go_at_call 32; with_reducible refine (HAW.out w4 (((hf1.trans hf2).trans hf3).trans hf4)).mono ?_; rintro e w5 ⟨rfl, hf5⟩) | fail)
        go_ret
        exact ⟨rfl, (((hf1.trans hf2).trans hf3).trans hf4).trans hf5⟩
      · have p1 : ¬ (120 : Int) < (x.length : Int) + (y.length : Int) := by omega
        have hlen : x.length + y.length ≤ 250 := by omega
        have HZ1 : Hid (∀ w, Calls Tryd.prog 30 #[.string (bs (x ++ 46 :: y)), .string (bs y)] w fun e w' => e = .returned (.bool true) ∧ w' = w) := fun w => by
          have h := sub_all (x ++ 46 :: y) y w
          rw [sub1 hnx hny (by omega)] at h
          exact h
        have HZ2 : Hid (∀ w, Calls Tryd.prog 30 #[.string (bs y), .string (bs y)] w fun e w' => e = .returned (.bool true) ∧ w' = w) := fun w => by
          have h := sub_all y y w
          rw [sub2 hny] at h
          exact h
        have HZ3 : Hid (∀ w, Calls Tryd.prog 30 #[.string (bs y), .string (bs (x ++ 46 :: y))] w fun e w' => e = .returned (.bool false) ∧ w' = w) := fun w => by
          have h := sub_all y (x ++ 46 :: y) w
          rw [sub3] at h
          exact h
        have HZ4 : Hid (∀ w, Calls Tryd.prog 30 #[.string (bs (107 :: 46 :: (x ++ 46 :: y))), .string (bs y)] w fun e w' => e = .returned (.bool true) ∧ w' = w) := fun w => by
          have h := sub_all (107 :: 46 :: (x ++ 46 :: y)) y w
          rw [sub4 hnx hny (by omega)] at h
          exact h
        have HZ5 : Hid (∀ w, Calls Tryd.prog 30 #[.string (bs (107 :: y)), .string (bs y)] w fun e w' => e = .returned (.bool false) ∧ w' = w) := fun w => by
          have h := sub_all (107 :: y) y w
          rw [sub5] at h
          exact h
        have HZ6 : Hid (∀ w, Calls Tryd.prog 33 #[.string (bs (x ++ 46 :: y))] w fun e w' => e = .returned (.int .i64 ((cntV x : Nat) + (cntV y : Nat))) ∧ w' = w) := fun w => by
          have h := cnt_any (x ++ 46 :: y) w
          rw [cntV_join hnx hny (by omega)] at h
          exact h
        have HZ7 := Lib.hid (cnt_ref x)
        have HZ8 := Lib.hid (cnt_ref y)
        have HZ9 := Lib.hid (sub_all (x ++ 46 :: y) c)
        have HZ10 := Lib.hid (sub_ref (x ++ 46 :: y) c)
        have hcx : cntV x ≤ 254 := by have h := splitc_len 46 x; unfold cntV; split <;> omega
        have hcy : cntV y ≤ 254 := by have h := splitc_len 46 y; unfold cntV; split <;> omega
        have ha1 : bs x ++ (⟨#[46]⟩ : ByteArray) = bs (x ++ [46]) := bs_app x [46]
        have ha2 : bs (x ++ [46]) ++ bs y = bs (x ++ 46 :: y) := by rw [bs_app]; simp
        have ha3 : (⟨#[107, 46]⟩ : ByteArray) ++ bs (x ++ 46 :: y) = bs (107 :: 46 :: (x ++ 46 :: y)) := bs_app [107, 46] _
        have ha4 : (⟨#[107]⟩ : ByteArray) ++ bs y = bs (107 :: y) := bs_app [107] _
        have hz1 : (bs (x ++ [46])).size = x.length + 1 := by rw [bs_size, List.length_append]; rfl
        have hz2 : (bs (x ++ 46 :: y)).size = x.length + (y.length + 1) := by rw [bs_size, List.length_append]; rfl
        generalize subV (x ++ 46 :: y) c = v3 at HZ9 HZ10
        generalize cntV x = nx at HZ6 HZ7 hcx
        generalize cntV y = ny at HZ6 HZ8 hcy
        generalize x.length = lx at hzx hlx p1 hlen hz1 hz2
        generalize y.length = ly at hzy hly p1 hlen hz2
        generalize bs (107 :: 46 :: (x ++ 46 :: y)) = skz at HZ4 ha3
        generalize bs (107 :: y) = sky at HZ5 ha4
        generalize bs (x ++ 46 :: y) = sz at HZ1 HZ3 HZ6 HZ9 HZ10 ha2 ha3 hz2
        generalize bs (x ++ [46]) = sxd at ha1 ha2 hz1
        generalize bs x = sx at HP1 hzx HZ7 ha1
        generalize bs y = sy at HP2 hzy HZ1 HZ2 HZ3 HZ4 HZ5 HZ8 ha2 ha4
        generalize bs a = sa at HP1 HS1 HR1 ⊢
        generalize bs b = sb at HP2 HS1 HR1 HS2 HR2 ⊢
        generalize bs c = sc at HS2 HR2 HZ9 HZ10 ⊢
        clear hnx hny
        go_enter Tryd.func8, Tryd.ntmps8
        go_wp2_with (first | (go_at_call 29; with_reducible refine (HP1.out _).mono ?_; rintro e w1 ⟨rfl, hf1⟩) | (go_at_call 29; with_reducible refine (HP2.out _).mono ?_; rintro e w2 ⟨rfl, hf2⟩) | (go_at_call 30; with_reducible refine (HS1.out _).mono ?_; rintro e wa ⟨rfl, hwa⟩; subst hwa) | (go_at_call 31; with_reducible refine (HR1.out _).mono ?_; rintro e w3 ⟨rfl, hf3⟩) | (go_at_call 30; with_reducible refine (HS2.out _).mono ?_; rintro e wb ⟨rfl, hwb⟩; subst hwb) | (go_at_call 31; with_reducible refine (HR2.out _).mono ?_; rintro e w4 ⟨rfl, hf4⟩) | (go_at_call 32; with_reducible refine (HAW.out w4 (((hf1.trans hf2).trans hf3).trans hf4)).mono ?_; rintro e w5 ⟨rfl, hf5⟩) | (go_at_call 30; with_reducible refine (HZ1.out _).mono ?_; rintro e u1 ⟨rfl, hu1⟩; subst hu1) | (go_at_call 30; with_reducible refine (HZ2.out _).mono ?_; rintro e u2 ⟨rfl, hu2⟩; subst hu2) | (go_at_call 30; with_reducible refine (HZ3.out _).mono ?_; rintro e u3 ⟨rfl, hu3⟩; subst hu3) | (go_at_call 30; with_reducible refine (HZ4.out _).mono ?_; rintro e u4 ⟨rfl, hu4⟩; subst hu4) | (go_at_call 30; with_reducible refine (HZ5.out _).mono ?_; rintro e u5 ⟨rfl, hu5⟩; subst hu5) | (go_at_call 33; with_reducible refine (HZ6.out _).mono ?_; rintro e u6 ⟨rfl, hu6⟩; subst hu6) | (go_at_call 34; with_reducible refine (HZ7.out _).mono ?_; rintro e w6 ⟨rfl, hf6⟩) | (go_at_call 34; with_reducible refine (HZ8.out _).mono ?_; rintro e w7 ⟨rfl, hf7⟩) | (go_at_call 30; with_reducible refine (HZ9.out _).mono ?_; rintro e u9 ⟨rfl, hu9⟩; subst hu9) | (go_at_call 31; with_reducible refine (HZ10.out _).mono ?_; rintro e w8 ⟨rfl, hf8⟩) | fail)
        go_ret
        exact ⟨rfl, (((((((hf1.trans hf2).trans hf3).trans hf4).trans hf5).trans hf6).trans hf7).trans hf8)⟩
end Go.Proofs.YtdnfmilihfkhmaaDoor
