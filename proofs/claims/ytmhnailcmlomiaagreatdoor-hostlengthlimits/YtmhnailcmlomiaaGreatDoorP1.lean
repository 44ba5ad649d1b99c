/-
  CONTRACTS of strings.Cut, parseByte and parseV4, over this seat's translation: what each call returns.
  Conditions: the string is shorter than 2 to the 31; the package variables are as Glob says.
-/
import Derived.Test.YtmhnailcmlomiaaGreatDoorW
import Derived.Test.YtmhnailcmlomiaaGreatDoorH3
import Derived.Lib.AtoiErrMem
namespace Go.Proofs.YtmhnailcmlomiaaGreatDoor
open Go.ChangeShapes Go.WideShapes Go.ChangeAt Go.RowKit
set_option linter.unusedVariables false

theorem cut1_any (l : List UInt8) (c : UInt8) (w : World) (hG : Glob w) (hl : l.length < 2147483648) : Calls Tryz.prog 65 #[.string (bs l), .string ⟨#[c]⟩] w fun e w' =>
    e = .returned (.tuple #[.string (bs (cutR l (cutc c l)).1), .string (bs (cutR l (cutc c l)).2.1), .bool (cutR l (cutc c l)).2.2]) ∧ Fr No w w' := by
  obtain ⟨m, hm⟩ := hG.lim
  refine (Tryz.strings_Cut (bs l) ⟨#[c]⟩ m w (by rw [bs_size]; omega) hm).mono ?_
  rintro e w' ⟨rfl, n, rfl⟩
  refine ⟨?_, Fr.drewN _ _ _⟩
  rw [bs_list, show (⟨#[c]⟩ : ByteArray).data.toList = [c] from rfl, cut_one]
  rfl

theorem cut2_any (l : List UInt8) (w : World) (hG : Glob w) (hl : l.length < 2147483648) : Calls Tryz.prog 65 #[.string (bs l), .string ⟨#[58, 58]⟩] w fun e w' =>
    e = .returned (.tuple #[.string (bs (cutR l (cut2 l)).1), .string (bs (cutR l (cut2 l)).2.1), .bool (cutR l (cut2 l)).2.2]) ∧ Fr No w w' := by
  obtain ⟨m, hm⟩ := hG.lim
  refine (Tryz.strings_Cut (bs l) ⟨#[58, 58]⟩ m w (by rw [bs_size]; omega) hm).mono ?_
  rintro e w' ⟨rfl, n, rfl⟩
  refine ⟨?_, Fr.drewN _ _ _⟩
  rw [bs_list, show (⟨#[58, 58]⟩ : ByteArray).data.toList = [58, 58] from rfl, cut_two]
  rfl

theorem contains_any (l : List UInt8) (c : UInt8) (w : World) : Calls Tryz.prog 91 #[.string (bs l), .string ⟨#[c]⟩] w fun e w' => e = .returned (.bool (l.contains c)) ∧ w' = w := by
  refine (Tryz.strings_Contains_one (bs l) c w).mono ?_
  rintro e w' ⟨rfl, rfl⟩
  exact ⟨by rw [bs_list, contains_one], rfl⟩

theorem Fr.bytesWorld (w : World) (t : TypeId) (s : ByteArray) : Fr No w (Lib.bytesWorld w t s) := Fr.ofBelow (Lib.bytesWorld_below w t s)

/-- A number and no error, or an error. -/
theorem parse10 (l : List UInt8) (w : World) (hG : Glob w) (hl : l.length < 2147483648) : Calls Tryz.prog 131 #[.string (bs l), .int .i64 10, .int .i64 8] w fun e w' =>
    Fr No w w' ∧ ((∃ u, Lib.parseUintB 8 l = .ok u ∧ e = .returned (.tuple #[.int .u64 (u : Nat), .nilIface])) ∨ ((∀ u, Lib.parseUintB 8 l ≠ .ok u) ∧ ∃ (v : Nat) (t : TypeId) (p : Value), e = .returned (.tuple #[.int .u64 v, .iface t p]))) := by
  obtain ⟨ts, ps, hs⟩ := hG.syn
  obtain ⟨tr, pr, hr⟩ := hG.rng
  cases h : Lib.parseUintB 8 l with
  | ok u =>
    refine (Tryz.strconv_ParseUint_10_at8_ok (bs l) (by rw [bs_size]; omega) u h w).mono ?_
    rintro e w' ⟨rfl, hw⟩
    refine ⟨?_, .inl ⟨u, rfl, rfl⟩⟩
    rcases hw with rfl | rfl
    · exact Fr.refl _ _
    · exact Fr.bytesWorld _ _ _
  | range =>
    refine (Tryz.strconv_ParseUint_10_at8_range (bs l) (by rw [bs_size]; omega) h _ w hr (.inr ⟨_, _, rfl⟩)).mono ?_
    rintro e w' ⟨N, rfl, _, _, hb⟩
    exact ⟨Fr.ofBelow hb, .inr ⟨fun u => by simp, 255, _, _, rfl⟩⟩
  | _ =>
    refine (Tryz.strconv_ParseUint_10_at8_syntax (bs l) (by rw [bs_size]; omega) h _ w hs (.inr ⟨_, _, rfl⟩)).mono ?_
    rintro e w' ⟨N, rfl, _, _, hb⟩
    exact ⟨Fr.ofBelow hb, .inr ⟨fun u => by simp, 0, _, _, rfl⟩⟩

/-- What a parser of numbers hands back. -/
def optV : Option Nat → Nat
  | some x => x
  | none => 0
def optB : Option Nat → Bool
  | some _ => true
  | none => false

set_option maxHeartbeats 2000000 in
set_option maxRecDepth 100000 in
theorem parseByte_any (l : List UInt8) (w : World) (hG : Glob w) (hl : l.length < 2147483648) :
    Calls Tryz.prog 112 #[.string (bs l)] w fun e w' => e = .returned (.tuple #[.int .u8 (optV (decV l) : Nat), .bool (optB (decV l))]) ∧ Fr No w w' := by
  by_cases hz : 1 < l.length ∧ l.head? = some 48
  · rw [show decV l = none by rw [decV, if_pos hz]]
    have hsz : (bs l).size = l.length := rfl
    have p1 : (1 : Int) < (l.length : Int) := by omega
    have hx : ∀ w, Sem.run Tryz.prog (Instr.index 9 (.string (bs l)) (.int .i64 0)) w = .ok (.int .u8 48) w := by
      intro w
      obtain ⟨h1, h2⟩ := hz
      cases l with
      | nil => cases h2
      | cons x r =>
        cases h2
        simp [Instr.index, asIntOf, run_underlying Tryz.underlying9]
        rfl
    generalize bs l = s at hsz hx ⊢
    clear hz hG hl
    go_enter Tryz.func112, Tryz.ntmps112
    go_wp2_with fail
    go_ret2
    exact ⟨rfl, Fr.refl _ _⟩
  · have hd : decV l = match Lib.parseUintB 8 l with
        | .ok u => some u
        | _ => none := by rw [decV, if_neg hz]; rfl
    have HD := Lib.hid hd
    have hsz : (bs l).size = l.length := rfl
    have HP := Lib.hid (fun w hG => parse10 l w hG hl)
    have HLT : Hid (∀ u, Lib.parseUintB 8 l = .ok u → u < 256) := fun u hu => decV_lt (l := l) (by rw [hd, hu])
    clear hd
    by_cases p1 : (1 : Int) < (l.length : Int)
    · obtain ⟨c, hc, hx⟩ : ∃ c : UInt8, c ≠ 48 ∧ ∀ w, Sem.run Tryz.prog (Instr.index 9 (.string (bs l)) (.int .i64 0)) w = .ok (.int .u8 (c.toNat : Int)) w := by
        cases l with
        | nil => simp at p1
        | cons x r =>
          refine ⟨x, fun e => hz ⟨by simp at p1 ⊢; omega, by rw [e]; rfl⟩, fun w => ?_⟩
          simp [Instr.index, asIntOf, run_underlying Tryz.underlying9]
          rfl
      have p2 : ¬ (c.toNat : Int) = 48 := fun e => hc (by rw [← UInt8.toNat_inj]; show c.toNat = 48; omega)
      generalize bs l = s at hsz hx HP ⊢
      clear hz hl hc
      have HG := Lib.hid hG
      clear hG
      go_enter Tryz.func112, Tryz.ntmps112
      go_wp2_with fail
      refine (HP.out _ HG.out).mono ?_
      rintro e w1 ⟨hf, ⟨u, hu, rfl⟩ | ⟨hno, v, t, p, rfl⟩⟩
      · have hu8 := HLT.out u hu
        have HU : Hid (decV l = some u) := by show _ = _; rw [HD.out, hu]
        have HF := Lib.hid hf
        clear hf hu
        go_wp2_with fail
        go_ret2
        exact ⟨by rw [HU.out]; rfl, HF.out⟩
      · have HU : Hid (decV l = none) := by
          show _ = _
          rw [HD.out]
          split
          · rename_i u hu; exact absurd hu (hno u)
          · rfl
        have HF := Lib.hid hf
        clear hf hno
        go_wp2_with fail
        go_ret2
        exact ⟨by rw [HU.out]; rfl, HF.out⟩
    · generalize bs l = s at hsz HP ⊢
      clear hz hl
      have HG := Lib.hid hG
      clear hG
      go_enter Tryz.func112, Tryz.ntmps112
      go_wp2_with fail
      refine (HP.out _ HG.out).mono ?_
      rintro e w1 ⟨hf, ⟨u, hu, rfl⟩ | ⟨hno, v, t, p, rfl⟩⟩
      · have hu8 := HLT.out u hu
        have HU : Hid (decV l = some u) := by show _ = _; rw [HD.out, hu]
        have HF := Lib.hid hf
        clear hf hu
        go_wp2_with fail
        go_ret2
        exact ⟨by rw [HU.out]; rfl, HF.out⟩
      · have HU : Hid (decV l = none) := by
          show _ = _
          rw [HD.out]
          split
          · rename_i u hu; exact absurd hu (hno u)
          · rfl
        have HF := Lib.hid hf
        clear hf hno
        go_wp2_with fail
        go_ret2
        exact ⟨by rw [HU.out]; rfl, HF.out⟩
end Go.Proofs.YtmhnailcmlomiaaGreatDoor
