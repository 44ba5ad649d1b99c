/-
  THE LAW AclNameDecision: its walk.
  Conditions: the list lies in memory.
-/
import Derived.Test.YtnadendhboiliaaLa
namespace Go.Proofs.Ytnadendhboiliaa
open Go.ChangeShapes Go.WideShapes Go.ChangeAt Go.RowKit
set_option linter.unusedVariables false

theorem bs_w (l : List UInt8) : bs (119 :: 46 :: l) = ⟨#[119, 46]⟩ ++ bs l := (bs_append [119, 46] l).symm

set_option maxHeartbeats 8000000 in
set_option maxRecDepth 100000 in
theorem name_walk (a : Option Addr) (n cp : Nat) (nl : List UInt8) (k port : Int) (w : World) (ha : InR w a n) :
    Calls Try.prog 5 #[.slice a n cp, .string (bs nl), .int .i64 k, .int .i64 port] w fun e w' => e = .returned (.bool true) ∧ Fr No w w' := by
  obtain ⟨L0, hL0, hr0⟩ := ha.row
  have HRL : Hid (∀ w', Fr No w w' → Calls Try.prog 15 #[.slice a n cp, .int .i64 12, .bool false] w' (GenL 12 w')) := fun w' hf => rules_gen L0 n hL0 a cp w' (hr0.no hf) 12 (by decide) false
  clear hL0 hr0 ha
  obtain ⟨hl, -, -, hl100, hhl⟩ := host_gen k
  have HHN : Hid (∀ w', Calls Try.prog 22 #[.int .i64 k] w' fun e w'' => e = .returned (.string (bs hl)) ∧ w'' = w') := fun w' => hhl w'
  obtain ⟨p, -, -, hp⟩ := port_gen port
  have HPG : Hid (∀ w', Calls Try.prog 17 #[.int .i64 port] w' fun e w'' => e = .returned (.int .i64 p) ∧ w'' = w') := fun w' => hp w'
  have hsz : (bs hl).size ≤ 100 := hl100
  have K00 := Fr.refl No w
  clear hhl hp hl100
  go_enter Try.func5, Try.ntmps5
  have t3 := Try.underlying3
  have u3 := Try.runUnderlying3
  have g3 := Try.isAgg3
  have z3 := Try.sizeOf3
  have t4 := Try.underlying4
  have u4 := Try.runUnderlying4
  have g4 := Try.isAgg4
  have z4 := Try.sizeOf4
  have t9 := Try.underlying9
  have u9 := Try.runUnderlying9
  have g9 := Try.isAgg9
  have z9 := Try.sizeOf9
  have t22 := Try.underlying22
  have u22 := Try.runUnderlying22
  have g22 := Try.isAgg22
  have z22 := Try.sizeOf22
  have t32 := Try.underlying32
  have u32 := Try.runUnderlying32
  have g32 := Try.isAgg32
  have z32 := Try.sizeOf32
  have t33 := Try.underlying33
  have u33 := Try.runUnderlying33
  have g33 := Try.isAgg33
  have z33 := Try.sizeOf33
  have c11 := Try.call11
  have c14 := Try.call14
  have c15 := Try.call15
  have c17 := Try.call17
  have c22 := Try.call22
  have c23 := Try.call23
  have c24 := Try.call24
  have c25 := Try.call25
  have c26 := Try.call26
  have mixed : Try.prog.follows .mixedOrders = true := by kernel_rfl
  have hP : Try.prog = PD := rfl
  rw [hP] at t3 u3 g3 z3 t4 u4 g4 z4 t9 u9 g9 z9 t22 u22 g22 z22 t32 u32 g32 z32 t33 u33 g33 z33 c11 c14 c15 c17 c22 c23 c24 c25 c26 mixed ⊢
  have HP := Lib.hid hP.symm
  clear hP 
  go_upto_region 5 with (first | (go_at_call 15; ((refine (at_prog HP.out (HRL.out _ K00)).mono ?_); rintro e w1 ⟨L, m, ad, c, rfl, hLm, hm, hok, hv, ho, hf1⟩)) | (go_at_call 11; ((refine (at_prog HP.out (newl L m hLm hok hv ad c _ w1 ho)).mono ?_); rintro e w2 ⟨x, rfl, hI, hf2⟩)) | fail)
  have hRow2 : RowR w2 ad L := (RowR.own hok ho).1.no hf2
  have HW2 : Hid (Fr No w w2) := hf1.trans hf2
  have HX : Hid (∀ (nl : List UInt8) (port : Int) (s : ByteArray), bs nl = s → ∃ (i : Int) (b : Bool), ∀ w', Fr No w2 w' → Calls Try.prog 23 #[.pointer (some ⟨x, 0, none⟩), .string s, .int .i64 port] w' (fun e w'' => e = .returned (.int .i64 i) ∧ Fr No w' w'') ∧ Calls Try.prog 24 #[.slice ad m c, .string s, .int .i64 port] w' (fun e w'' => e = .returned (.int .i64 i) ∧ Fr No w' w'') ∧ Calls Try.prog 25 #[.pointer (some ⟨x, 0, none⟩), .string s, .int .i64 port] w' (fun e w'' => e = .returned (.bool b) ∧ Fr No w' w'') ∧ Calls Try.prog 26 #[.slice ad m c, .string s, .int .i64 port] w' (fun e w'' => e = .returned (.bool b) ∧ Fr No w' w'')) := fun nl port s hs => ⟨_, _, fun w' hf => by
    subst hs
    obtain ⟨n0, tb, ra, rc, T, X, h⟩ := hI.out
    exact ⟨matchn_any n0 w' x L tb ra rc T X (h.no hf) (by omega) nl port, matchn_ref L m hLm (by omega) ad c nl port w' (hRow2.no hf), allown_any n0 w' x L tb ra rc T X (h.no hf) (by omega) nl port, allown_ref L m hLm (by omega) ad c nl port w' (hRow2.no hf)⟩⟩
  obtain ⟨i0, b0, h0⟩ := HX.out nl port _ rfl
  obtain ⟨i1, b1, h1⟩ := HX.out hl p _ rfl
  obtain ⟨i2, b2, h2⟩ := HX.out (119 :: 46 :: hl) p _ (bs_w hl)
  obtain ⟨s0, hs0⟩ : ∃ s, bs nl = s := ⟨_, rfl⟩
  obtain ⟨s1, hs1⟩ : ∃ s, bs hl = s := ⟨_, rfl⟩
  rw [hs0] at h0 ⊢
  rw [hs1] at h1 h2 hsz HHN
  have HC0 := Lib.hid h0
  have HC1 := Lib.hid h1
  have HC2 := Lib.hid h2
  have g1 : ¬ 9223372036854775807 < 2 + s1.size := by omega
  have K0 : Fr No w2 w2 := Fr.refl No w2
  have q0 : (i0 == i0) = true := by simp
  have q1 : (i1 == i1) = true := by simp
  have q2 : (i2 == i2) = true := by simp
  have q3 : (b0 == b0) = true := by simp
  have q4 : (b1 == b1) = true := by simp
  clear hRow2 hI ho hf1 hf2 hok hv hLm hm h0 h1 h2 hs0 hs1 hsz HX
  go_wp2_with (first | (go_at_call 14; ((with_reducible refine (at_prog HP.out (awake_any _)).mono ?_); rintro e wv ⟨rfl, hv⟩; have K : Fr No w2 wv := Fr.trans (by assumption) hv; clear hv)) | (go_at_call 22; ((with_reducible refine (at_prog HP.out (HHN.out _)).mono ?_); rintro e wv ⟨rfl, hv⟩; replace hv := hv.symm; subst hv)) | (go_at_call 17; ((with_reducible refine (at_prog HP.out (HPG.out _)).mono ?_); rintro e wv ⟨rfl, hv⟩; replace hv := hv.symm; subst hv)) | (go_at_call 23; ((with_reducible refine (at_prog HP.out (HC0.out _ (by assumption)).1).mono ?_); rintro e wv ⟨rfl, hv⟩; have K : Fr No w2 wv := Fr.trans (by assumption) hv; clear hv)) | (go_at_call 23; ((with_reducible refine (at_prog HP.out (HC1.out _ (by assumption)).1).mono ?_); rintro e wv ⟨rfl, hv⟩; have K : Fr No w2 wv := Fr.trans (by assumption) hv; clear hv)) | (go_at_call 23; ((with_reducible refine (at_prog HP.out (HC2.out _ (by assumption)).1).mono ?_); rintro e wv ⟨rfl, hv⟩; have K : Fr No w2 wv := Fr.trans (by assumption) hv; clear hv)) | (go_at_call 24; ((with_reducible refine (at_prog HP.out (HC0.out _ (by assumption)).2.1).mono ?_); rintro e wv ⟨rfl, hv⟩; have K : Fr No w2 wv := Fr.trans (by assumption) hv; clear hv)) | (go_at_call 24; ((with_reducible refine (at_prog HP.out (HC1.out _ (by assumption)).2.1).mono ?_); rintro e wv ⟨rfl, hv⟩; have K : Fr No w2 wv := Fr.trans (by assumption) hv; clear hv)) | (go_at_call 24; ((with_reducible refine (at_prog HP.out (HC2.out _ (by assumption)).2.1).mono ?_); rintro e wv ⟨rfl, hv⟩; have K : Fr No w2 wv := Fr.trans (by assumption) hv; clear hv)) | (go_at_call 25; ((with_reducible refine (at_prog HP.out (HC0.out _ (by assumption)).2.2.1).mono ?_); rintro e wv ⟨rfl, hv⟩; have K : Fr No w2 wv := Fr.trans (by assumption) hv; clear hv)) | (go_at_call 25; ((with_reducible refine (at_prog HP.out (HC1.out _ (by assumption)).2.2.1).mono ?_); rintro e wv ⟨rfl, hv⟩; have K : Fr No w2 wv := Fr.trans (by assumption) hv; clear hv)) | (go_at_call 25; ((with_reducible refine (at_prog HP.out (HC2.out _ (by assumption)).2.2.1).mono ?_); rintro e wv ⟨rfl, hv⟩; have K : Fr No w2 wv := Fr.trans (by assumption) hv; clear hv)) | (go_at_call 26; ((with_reducible refine (at_prog HP.out (HC0.out _ (by assumption)).2.2.2).mono ?_); rintro e wv ⟨rfl, hv⟩; have K : Fr No w2 wv := Fr.trans (by assumption) hv; clear hv)) | (go_at_call 26; ((with_reducible refine (at_prog HP.out (HC1.out _ (by assumption)).2.2.2).mono ?_); rintro e wv ⟨rfl, hv⟩; have K : Fr No w2 wv := Fr.trans (by assumption) hv; clear hv)) | (go_at_call 26; ((with_reducible refine (at_prog HP.out (HC2.out _ (by assumption)).2.2.2).mono ?_); rintro e wv ⟨rfl, hv⟩; have K : Fr No w2 wv := Fr.trans (by assumption) hv; clear hv)) | fail)
  go_ret
  exact ⟨rfl, HW2.out.trans (by assumption)⟩
end Go.Proofs.Ytnadendhboiliaa
