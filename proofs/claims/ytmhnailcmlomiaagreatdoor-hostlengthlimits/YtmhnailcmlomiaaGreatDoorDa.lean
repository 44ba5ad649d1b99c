/-
  CONTRACT of package cidr's parseBits, over this seat's translation: what the call returns; decimal numbers and their only notation.
  Conditions: the string is shorter than 2 to the 31; the package variables are as Gl says.
-/
import Derived.Test.YtmhnailcmlomiaaGreatDoorSa
import Derived.Test.YtmhnailcmlomiaaGreatDoorN12
import Derived.Test.YtmhnailcmlomiaaGreatDoorCe
import Derived.Lib.AtoiAllCases
namespace Go.Proofs.YtmhnailcmlomiaaGreatDoor
open Go.ChangeShapes Go.WideShapes Go.ChangeAt Go.RowKit
set_option linter.unusedVariables false

/-- Digits without a leading zero are the notation of their number. -/
theorem digits_unique : ∀ (k : Nat) (l : List UInt8) (n : Nat), l.length = k → l ≠ [] → (l.head? = some 48 → l.length = 1) → digGo 0 l = some n → l = oct8 (decN n) := by
  intro k
  induction k with
  | zero => intro l n hl hne; exact absurd (List.length_eq_zero_iff.1 hl) hne
  | succ k ih =>
    intro l n hl hne h0 hd
    obtain ⟨r, c, rfl⟩ : ∃ r c, l = r ++ [c] := ⟨l.dropLast, l.getLast hne, (List.dropLast_concat_getLast hne).symm⟩
    rw [digGo_snoc] at hd
    have hrl : r.length = k := by simpa using hl
    cases hr : digGo 0 r with
    | none => rw [hr] at hd; cases hd
    | some a =>
      rw [hr] at hd
      have hd2 : (if 48 ≤ c.toNat ∧ c.toNat ≤ 57 then some (10 * a + (c.toNat - 48)) else none) = some n := hd
      by_cases hc : 48 ≤ c.toNat ∧ c.toNat ≤ 57
      · rw [if_pos hc] at hd2
        have hn : n = 10 * a + (c.toNat - 48) := (Option.some.inj hd2).symm
        have hcc : c = UInt8.ofNat (48 + (c.toNat - 48)) := by
          apply UInt8.toNat_inj.1
          rw [show 48 + (c.toNat - 48) = c.toNat by omega]
          simp
        by_cases hre : r = []
        · subst hre
          have ha : a = 0 := by rw [show digGo 0 ([] : List UInt8) = some 0 from rfl] at hr; exact (Option.some.inj hr).symm
          rw [decN_small (by omega), hn, ha]
          show [c] = [UInt8.ofNat _]
          rw [show 48 + (10 * 0 + (c.toNat - 48)) = 48 + (c.toNat - 48) by omega, ← hcc]
        · have hh : (r ++ [c]).head? = r.head? := by cases r with
            | nil => exact absurd rfl hre
            | cons x t => rfl
          have h48 : r.head? ≠ some 48 := fun e => by
            have := h0 (by rw [hh]; exact e)
            rw [List.length_append] at this
            cases r with
            | nil => exact hre rfl
            | cons x t => simp at this
          have hrr := ih r a hrl hre (fun e => absurd e h48) hr
          have ha1 : 1 ≤ a := by
            cases r with
            | nil => exact absurd rfl hre
            | cons x t =>
              rw [digGo] at hr
              split at hr
              · have hx : x.toNat ≠ 48 := fun e => h48 (by rw [List.head?_cons]; congr 1; rw [← UInt8.toNat_inj]; exact e)
                have := digGo_acc hr
                omega
              · cases hr
          rw [decN_big (by omega), show n / 10 = a by omega, show n % 10 = c.toNat - 48 by omega, oct8_append, ← hrr]
          show r ++ [c] = r ++ [UInt8.ofNat _]
          rw [← hcc]
      · rw [if_neg hc] at hd2; cases hd2

theorem decR_unique {M : Nat} {l : List UInt8} {n : Nat} (h : decR M l = some n) : l = oct8 (decN n) := by
  unfold decR at h
  split at h
  · cases h
  · rename_i hc
    split at h
    · rename_i u hu
      split at h
      · cases h
        refine digits_unique l.length l n rfl (fun e => hc (.inl e)) (fun e => ?_) hu
        have h1 : ¬ 1 < l.length := fun e2 => hc (.inr (.inr ⟨e, e2⟩))
        have h2 : l ≠ [] := fun e => hc (.inl e)
        have h3 : 0 < l.length := List.length_pos_iff.2 h2
        omega
      · cases h
    · cases h

/-- The number that a string is the notation of. -/
def bitsV (l : List UInt8) : Option Int := match Lib.atoiAll l with
  | .ok v => if Lib.itoa v = l then some v else none
  | _ => none

theorem uint10_dig : ∀ (l : List UInt8) (acc u : Nat), digGo acc l = some u → u < 9223372036854775808 → Lib.parseUint10 acc l = .ok u
  | [], acc, u, h, _ => by rw [digGo] at h; cases h; rfl
  | c :: r, acc, u, h, hu => by
    rw [digGo] at h
    rw [Lib.parseUint10]
    by_cases hd : 48 ≤ c.toNat ∧ c.toNat ≤ 57
    · rw [if_pos hd] at h ⊢
      have h1 := digGo_acc h
      rw [if_neg (by omega), if_neg (by omega), Nat.mul_comm acc 10]
      exact uint10_dig r _ u h hu
    · rw [if_neg hd] at h; cases h

theorem itoa_nat (n : Nat) : Lib.itoa (n : Int) = oct8 (decN n) := by
  rw [Lib.itoa, if_neg (by omega), show ((n : Nat) : Int).toNat = n by omega, decN_digits]; rfl

theorem atoi_dec {n : Nat} (hn : n ≤ 128) : Lib.atoiAll (oct8 (decN n)) = .ok (n : Int) := by
  have hg := digGo_decN n
  cases hl : oct8 (decN n) with
  | nil =>
    have h := decN_nil n
    rw [oct8, List.map_eq_nil_iff] at hl
    exact absurd hl h
  | cons c r =>
    have hc : 48 ≤ c.toNat ∧ c.toNat ≤ 57 := digGo_all hg c (by rw [hl]; exact List.mem_cons_self ..)
    rw [hl] at hg
    rw [Lib.atoiAll_plain c r (by omega) (by omega), Lib.parseMag, if_neg (by simp), uint10_dig _ _ _ hg (by omega)]
    simp only [Lib.signless]
    rw [if_neg (by omega)]

theorem bitsV_dec {l : List UInt8} {n : Nat} (h : decR 128 l = some n) : bitsV l = some (n : Int) := by
  have hle := decR_le h
  have hl := decR_unique h
  rw [bitsV, hl, atoi_dec hle]
  show (if Lib.itoa (n : Int) = oct8 (decN n) then _ else _) = _
  rw [if_pos (itoa_nat n)]
theorem bitsV_inv {l : List UInt8} {v : Int} (h : bitsV l = some v) (h0 : 0 ≤ v) (h1 : v ≤ 128) : decR 128 l = some v.toNat := by
  unfold bitsV at h
  split at h
  · rename_i u hu
    split at h
    · rename_i he
      cases h
      rw [← he, show v = ((v.toNat : Nat) : Int) by omega, itoa_nat]
      exact decR_decN (by omega) (by omega)
    · cases h
  · cases h

set_option maxHeartbeats 4000000 in
set_option maxRecDepth 100000 in
theorem pbits_any (l : List UInt8) (w : World) (hG : Gl w) (hl : l.length < 2147483648) :
    Calls Tryz.prog 67 #[.string (bs l)] w fun e w' => e = .returned (.tuple #[.int .i64 ((bitsV l).getD 0), .bool (bitsV l).isSome]) ∧ Fr No w w' := by
  obtain ⟨ts, ps, hs⟩ := hG.g.syn
  obtain ⟨tr, pr, hr⟩ := hG.g.rng
  have hsz : (bs l).size = l.length := rfl
  cases h : Lib.atoiAll l with
  | ok v =>
    have hb := Lib.atoiAll_bounds h
    have HA : Hid (∀ w', Calls Tryz.prog 94 #[.string (bs l)] w' fun e w'' => e = .returned (.tuple #[.int .i64 v, .nilIface]) ∧ Fr No w' w'') := fun w' => by
      refine (Tryz.strconv_Atoi_ok (bs l) (by rw [hsz]; omega) v h w').mono ?_
      rintro e w'' ⟨rfl, hw⟩
      refine ⟨rfl, ?_⟩
      rcases hw with rfl | ⟨t, rfl⟩
      · exact Fr.refl _ _
      · exact Fr.bytesWorld _ _ _
    have HI : Hid (∀ w', Gl w' → Calls Tryz.prog 49 #[.int .i64 v] w' fun e w'' => e = .returned (.string (bs (Lib.itoa v))) ∧ Fr No w' w'') := fun w' hG' => by
      refine (Tryz.strconv_Itoa v hb.1 hb.2 w' hG'.tab).mono ?_
      rintro e w'' ⟨rfl, k, os, rfl⟩
      refine ⟨rfl, ?_⟩
      exact (Fr.drewN No w' k).trans ⟨rfl, rfl, rfl, by simp [Go.Sort.grow], fun j hj _ => by
        have hj' : j < w'.heap.size := hj
        simp [Go.Sort.grow, Array.getElem?_append]
        omega⟩
    have HG := Lib.hid hG
    have heq := bs_eq (Lib.itoa v) l
    by_cases he : Lib.itoa v = l
    · have HV : Hid (bitsV l = some v) := by show _ = _; rw [bitsV, h]; exact if_pos he
      rw [decide_eq_true he] at heq
      generalize bs (Lib.itoa v) = t at HI heq
      generalize bs l = s at HA heq ⊢
      clear h hG hs hr he hsz hl
      go_enter Tryz.func67, Tryz.ntmps67
      go_wp2_with (first | (go_at_call 94; refine (HA.out _).mono ?_; rintro e w3 ⟨rfl, hf3⟩) | (go_at_call 49; refine (HI.out _ (HG.out.fr hf3)).mono ?_; rintro e w4 ⟨rfl, hf4⟩) | fail)
      go_ret2
      exact ⟨by rw [HV.out]; rfl, hf3.trans hf4⟩
    · have HV : Hid (bitsV l = none) := by show _ = _; rw [bitsV, h]; exact if_neg he
      rw [decide_eq_false he] at heq
      generalize bs (Lib.itoa v) = t at HI heq
      generalize bs l = s at HA heq ⊢
      clear h hG hs hr he hsz hl
      go_enter Tryz.func67, Tryz.ntmps67
      go_wp2_with (first | (go_at_call 94; refine (HA.out _).mono ?_; rintro e w3 ⟨rfl, hf3⟩) | (go_at_call 49; refine (HI.out _ (HG.out.fr hf3)).mono ?_; rintro e w4 ⟨rfl, hf4⟩) | fail)
      go_ret2
      exact ⟨by rw [HV.out]; rfl, hf3.trans hf4⟩
  | range =>
    have HA : Hid (∀ w', Fr No w w' → Calls Tryz.prog 94 #[.string (bs l)] w' fun e w'' => ∃ (v : Int) (p : Value), e = .returned (.tuple #[.int .i64 v, .iface 130 p]) ∧ Fr No w' w'') := fun w' hf => by
      refine (Tryz.strconv_Atoi_range (bs l) (by rw [hsz]; omega) h _ w' (hf.cell hr) (.inr ⟨_, _, rfl⟩)).mono ?_
      rintro e w'' ⟨N, rfl, _, _, hb⟩
      exact ⟨_, _, rfl, Fr.ofBelow hb⟩
    have HV : Hid (bitsV l = none) := by show _ = _; rw [bitsV, h]
    generalize bs l = s at HA ⊢
    clear h hG hs hr hsz hl
    go_enter Tryz.func67, Tryz.ntmps67
    go_wp2_with (first | (go_at_call 94; refine (HA.out _ (Fr.refl _ _)).mono ?_; rintro e w3 ⟨v, p, rfl, hf3⟩) | fail)
    go_ret2
    exact ⟨by rw [HV.out]; rfl, hf3⟩
  | _ =>
    have HA : Hid (∀ w', Fr No w w' → Calls Tryz.prog 94 #[.string (bs l)] w' fun e w'' => ∃ (v : Int) (p : Value), e = .returned (.tuple #[.int .i64 v, .iface 130 p]) ∧ Fr No w' w'') := fun w' hf => by
      refine (Tryz.strconv_Atoi_syntax (bs l) (by rw [hsz]; omega) h _ w' (hf.cell hs) (.inr ⟨_, _, rfl⟩)).mono ?_
      rintro e w'' ⟨N, rfl, _, _, hb⟩
      exact ⟨_, _, rfl, Fr.ofBelow hb⟩
    have HV : Hid (bitsV l = none) := by show _ = _; rw [bitsV, h]
    generalize bs l = s at HA ⊢
    clear h hG hs hr hsz hl
    go_enter Tryz.func67, Tryz.ntmps67
    go_wp2_with (first | (go_at_call 94; refine (HA.out _ (Fr.refl _ _)).mono ?_; rintro e w3 ⟨v, p, rfl, hf3⟩) | fail)
    go_ret2
    exact ⟨by rw [HV.out]; rfl, hf3⟩
end Go.Proofs.YtmhnailcmlomiaaGreatDoor
