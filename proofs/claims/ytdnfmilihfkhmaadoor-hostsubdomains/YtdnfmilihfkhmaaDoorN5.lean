/-
  CONTRACTS of the library's strings.HasSuffix, strings.Count at one byte and strings.LastIndexByte, over this seat's translation: what each call returns.
  Conditions: none.
-/
import Derived.Test.YtdnfmilihfkhmaaDoorN2
import Derived.Test.YtdnfmilihfkhmaaDoorP3
import Derived.Lib.Bytealg
namespace Go.Proofs.YtdnfmilihfkhmaaDoor
open Go.ChangeShapes Go.WideShapes Go.ChangeAt Go.RowKit
set_option linter.unusedVariables false

/-- Whether the first bytes end with the second. -/
def sufV (l m : List UInt8) : Bool := decide (m.length ≤ l.length) && decide (l.drop (l.length - m.length) = m)

set_option maxHeartbeats 1000000 in
set_option maxRecDepth 100000 in
theorem suf_in (l m : List UInt8) (hl : l.length < 4611686018427387904) (w : World) : Calls Tryd.prog 75 #[.string (bs l), .string (bs m)] w fun e w' => e = .returned (.bool (sufV l m)) ∧ w' = w := by
  have hs1 : (bs l).size = l.length := rfl
  have hs2 : (bs m).size = m.length := rfl
  by_cases hle : m.length ≤ l.length
  · obtain ⟨d, hd⟩ : ∃ d, l.length = d + m.length := ⟨l.length - m.length, by omega⟩
    have hdb : d < 4611686018427387904 := by omega
    have hwd : wrap64 (d : Int) = d := by unfold wrap64; omega
    have hex : (bs l).extract d (d + m.length) = bs (l.drop d) := by rw [bs_extract, List.take_of_length_le]; rw [List.length_drop]; omega
    have heq := bs_eq (l.drop d) m
    have HV : Hid (sufV l m = decide (l.drop d = m)) := by show _ = _; unfold sufV; rw [decide_eq_true hle, show l.length - m.length = d by omega]; rfl
    generalize decide (l.drop d = m) = b at heq HV
    generalize bs (l.drop d) = x at hex heq
    rw [hd] at hs1
    generalize bs l = s at hs1 hex ⊢
    generalize bs m = t at hs2 heq ⊢
    generalize m.length = lm at hs1 hs2 hex hd
    clear hle hd hl
    go_enter Tryd.func75, Tryd.ntmps75
    go_wp2_with fail
    go_ret
    exact ⟨by rw [HV.out]; rfl, rfl⟩
  · have HV : Hid (sufV l m = false) := by show _ = _; unfold sufV; rw [decide_eq_false hle]; rfl
    have p1 : ¬ (m.length : Int) ≤ (l.length : Int) := by omega
    generalize bs l = s at hs1 ⊢
    generalize bs m = t at hs2 ⊢
    generalize m.length = lm at hs2 p1
    generalize l.length = ll at hs1 p1 hl
    clear hle
    go_enter Tryd.func75, Tryd.ntmps75
    go_wp2_with fail
    go_ret
    exact ⟨by rw [HV.out]; rfl, rfl⟩
set_option maxHeartbeats 1000000 in
set_option maxRecDepth 100000 in
theorem suf_any (l m : List UInt8) (hl : l.length < 4611686018427387904) (w : World) : Calls Tryd.prog 51 #[.string (bs l), .string (bs m)] w fun e w' => e = .returned (.bool (sufV l m)) ∧ w' = w := by
  have HC := Lib.hid (suf_in l m hl)
  generalize sufV l m = b at HC ⊢
  generalize bs l = s at HC ⊢
  generalize bs m = t at HC ⊢
  go_enter Tryd.func51, Tryd.ntmps51
  go_wp2_with (first | (go_at_call 75; refine (HC.out _).mono ?_; rintro e w3 ⟨rfl, rfl⟩))
  go_ret
  exact ⟨rfl, rfl⟩

set_option maxHeartbeats 1000000 in
set_option maxRecDepth 100000 in
theorem count_any (l : List UInt8) (w : World) : Calls Tryd.prog 56 #[.string (bs l), .string ⟨#[46]⟩] w fun e w' => e = .returned (.int .i64 (l.count 46 : Nat)) ∧ w' = w := by
  have HR : Hid (∀ w : World, Sem.run Tryd.prog (Extern.BytealgCount.count #[.string (bs l), .int .u8 46]) w = .ok (.int .i64 (l.count 46 : Nat)) w) := fun w => Lib.run_countString (bs l) 46 w
  generalize l.count 46 = n at HR ⊢
  generalize bs l = s at HR ⊢
  go_enter Tryd.func56, Tryd.ntmps56
  go_wp2
  rw [run_callFunc_extern Tryd.func81 (by kernel_rfl) (by kernel_rfl) (by kernel_rfl) (e := Extern.BytealgCount.count) (by kernel_rfl)]
  erw [HR.out]
  simp only [Result.andThen]
  rw [Oper.upon_value]
  go_wp2
  go_ret
  exact ⟨rfl, rfl⟩

/-- Where a byte stands last. -/
def lastc (c : UInt8) : List UInt8 → Option Nat
  | [] => none
  | x :: r => match lastc c r with
    | some i => some (i + 1)
    | none => if x = c then some 0 else none
def lastN : Option Nat → Int
  | some i => i
  | none => -1
theorem lastc_none {c : UInt8} : ∀ {l : List UInt8}, (∀ (j : Nat) (x : UInt8), l[j]? = some x → x ≠ c) → lastc c l = none
  | [], h => rfl
  | x :: r, h => by
    have ih := lastc_none (c := c) (l := r) (fun (j : Nat) (y : UInt8) hy => h (j + 1) y (by rw [List.getElem?_cons_succ]; exact hy))
    rw [lastc, ih]
    exact if_neg (h 0 x rfl)
theorem lastc_some {c : UInt8} : ∀ {l : List UInt8} {i : Nat}, l[i]? = some c → (∀ (j : Nat) (x : UInt8), i < j → l[j]? = some x → x ≠ c) → lastc c l = some i
  | x :: r, 0, h, hn => by
    have ih := lastc_none (c := c) (l := r) (fun (j : Nat) (y : UInt8) hy => hn (j + 1) y (by omega) (by rw [List.getElem?_cons_succ]; exact hy))
    rw [lastc, ih]
    cases h
    exact if_pos rfl
  | x :: r, i + 1, h, hn => by
    rw [List.getElem?_cons_succ] at h
    have ih := lastc_some (c := c) (l := r) h (fun (j : Nat) (y : UInt8) hj hy => hn (j + 1) y (by omega) (by rw [List.getElem?_cons_succ]; exact hy))
    rw [lastc, ih]
theorem lastc_lt {c : UInt8} : ∀ {l : List UInt8} {i : Nat}, lastc c l = some i → l[i]? = some c
  | x :: r, i, h => by
    rw [lastc] at h
    cases hr : lastc c r with
    | some k => rw [hr] at h; cases h; rw [List.getElem?_cons_succ]; exact lastc_lt hr
    | none =>
      rw [hr] at h
      by_cases hx : x = c
      · rw [if_pos hx] at h; cases h; rw [hx]; rfl
      · rw [if_neg hx] at h; cases h

set_option maxHeartbeats 2000000 in
set_option maxRecDepth 100000 in
theorem last_in (l : List UInt8) (c : UInt8) (hl : l.length < 4611686018427387904) (w : World) : Calls Tryd.prog 95 #[.string (bs l), .int .u8 (c.toNat : Int)] w fun e w' => e = .returned (.int .i64 (lastN (lastc c l))) ∧ w' = w := by
  have hsz : (bs l).size = l.length := rfl
  have HIX : Hid (∀ (i : Nat) (x : UInt8) (w : World), l[i]? = some x → Sem.run Tryd.prog (Instr.index 9 (.string (bs l)) (.int .i64 i)) w = .ok (.int .u8 (x.toNat : Int)) w) := fun i x w h => bs_index h w
  have HC : Hid (∀ x : UInt8, x ≠ c → ¬ (x.toNat : Int) = (c.toNat : Int)) := fun x hx e => hx (UInt8.toNat_inj.1 (Int.ofNat_inj.1 e))
  generalize hln : l.length = ln at hsz hl
  have HLN := Lib.hid hln
  obtain ⟨ci, hci⟩ : ∃ ci : Int, (c.toNat : Int) = ci := ⟨_, rfl⟩
  have HCI := Lib.hid hci
  rw [hci]
  generalize bs l = s at hsz HIX ⊢
  clear hln hci
  go_enter Tryd.func95, Tryd.ntmps95
  go_wp2_with fail
  go_loopg [5] (ln + 1) (fun g s5 wr => ∃ i : Nat, s5 = .int .i64 ((i : Int) - 1) ∧ i ≤ ln ∧ i < g ∧ Hid (wr = w ∧ ∀ (j : Nat) (x : UInt8), i ≤ j → l[j]? = some x → x ≠ c))
  case atStart => exact ⟨ln, by go_num, by omega, by omega, rfl, fun j x hj hx => by have := (List.getElem?_eq_some_iff.1 hx).1; have := HLN.out; omega⟩
  case round =>
    obtain ⟨i, rfl, hil, hig, HR⟩ := hrel
    obtain ⟨hw, hall⟩ := HR.out
    have hw' := hw.symm
    subst hw'
    clear hw HR
    cases i with
    | zero =>
      have HV : Hid (lastc c l = none) := lastc_none fun j x hx => hall j x (Nat.zero_le _) hx
      clear hall
      go_wp2_with fail
      go_ret
      exact ⟨by rw [HV.out]; rfl, rfl⟩
    | succ k =>
      have q1 : (0 : Int) ≤ (k : Int) := by omega
      have q2 : (k : Int) < (ln : Int) := by omega
      have hk1 : ((k + 1 : Nat) : Int) - 1 = (k : Int) := by omega
      obtain ⟨x, hx⟩ : ∃ x, l[k]? = some x := ⟨_, List.getElem?_eq_getElem (by rw [HLN.out]; omega)⟩
      have hix := HIX.out k x w hx
      by_cases hxc : x = c
      · subst hxc
        have HV : Hid (lastc x l = some k) := lastc_some hx fun j y hj hy => hall j y (by omega) hy
        rw [HCI.out] at hix
        clear hall hx
        rw [hk1]
        go_wp2_with fail
        go_ret
        exact ⟨by rw [HV.out]; rfl, rfl⟩
      · have p1 : ¬ (x.toNat : Int) = ci := by rw [← HCI.out]; exact HC.out x hxc
        have HN : Hid (∀ (j : Nat) (y : UInt8), k ≤ j → l[j]? = some y → y ≠ c) := fun j y hj hy => by
          by_cases hjk : j = k
          · subst hjk; rw [hx] at hy; cases hy; exact hxc
          · exact hall j y (by omega) hy
        clear hall hx
        rw [hk1]
        go_wp2_with fail
        go_roundg (k + 1)
        case measure => exact hig
        case rel => exact ⟨k, by go_num, by omega, by omega, rfl, HN.out⟩
set_option maxHeartbeats 1000000 in
set_option maxRecDepth 100000 in
theorem last_any (l : List UInt8) (c : UInt8) (hl : l.length < 4611686018427387904) (w : World) : Calls Tryd.prog 77 #[.string (bs l), .int .u8 (c.toNat : Int)] w fun e w' => e = .returned (.int .i64 (lastN (lastc c l))) ∧ w' = w := by
  have HC := Lib.hid (last_in l c hl)
  generalize lastN (lastc c l) = b at HC ⊢
  generalize bs l = s at HC ⊢
  generalize (c.toNat : Int) = t at HC ⊢
  go_enter Tryd.func77, Tryd.ntmps77
  go_wp2_with (first | (go_at_call 95; refine (HC.out _).mono ?_; rintro e w3 ⟨rfl, rfl⟩))
  go_ret
  exact ⟨rfl, rfl⟩
end Go.Proofs.YtdnfmilihfkhmaaDoor
