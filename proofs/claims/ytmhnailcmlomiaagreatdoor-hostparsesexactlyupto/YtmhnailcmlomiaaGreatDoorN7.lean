/-
  CONTRACTS of the library's strings.HasSuffix, strings.Count at one byte and strings.LastIndexByte, over this seat's translation: what each call returns.
  Conditions: none.
  CONTRACT of package host's ParsePort, over this seat's translation: what the call returns.
  Conditions: the string is shorter than 2 to the 31.
  CONTRACTS of package host's IsSubdomain and LabelCount, over this seat's translation: what each call returns.
  Conditions: the strings are shorter than 2 to the 31.
-/
import Derived.Test.YtmhnailcmlomiaaGreatDoorN2
import Derived.Test.YtmhnailcmlomiaaGreatDoorP3
import Derived.Lib.Bytealg
import Derived.Test.YtmhnailcmlomiaaGreatDoorR2
namespace Go.Proofs.YtmhnailcmlomiaaGreatDoor
open Go.ChangeShapes Go.WideShapes Go.ChangeAt Go.RowKit
set_option linter.unusedVariables false

/-- Whether the first bytes end with the second. -/
def sufV (l m : List UInt8) : Bool := decide (m.length ≤ l.length) && decide (l.drop (l.length - m.length) = m)

set_option maxHeartbeats 1000000 in
set_option maxRecDepth 100000 in
theorem suf_in (l m : List UInt8) (hl : l.length < 4611686018427387904) (w : World) : Calls Tryz.prog 97 #[.string (bs l), .string (bs m)] w fun e w' => e = .returned (.bool (sufV l m)) ∧ w' = w := by
  have hs1 : (bs l).size = l.length := rfl
  have hs2 : (bs m).size = m.length := rfl
  by_cases hle : m.length ≤ l.length
  · obtain ⟨d, hd⟩ : ∃ d, l.length = d + m.length := ⟨l.length - m.length, by omega⟩
    have hdb : d < 4611686018427387904 := by omega
    have hwd : wrap64 (d : Int) = d := by unfold wrap64; omega
    have hex : (bs l).extract d (d + m.length) = bs (l.drop d) := by rw [bs_extract, List.take_of_length_le]; rw [List.length_drop]; omega
    have heq := bs_eq (l.drop d) m
    have HV : Hid (sufV l m = decide (l.drop d = m)) := by show _ = _; unfold sufV; rw [decide_eq_true hle, show l.length - m.length = d by omega]; rfl
    generalize decide (l.drop d = m) = b at heq HV
    generalize bs (l.drop d) = x at hex heq
    rw [hd] at hs1
    generalize bs l = s at hs1 hex ⊢
    generalize bs m = t at hs2 heq ⊢
    generalize m.length = lm at hs1 hs2 hex hd
    clear hle hd hl
    go_enter Tryz.func97, Tryz.ntmps97
    go_wp2_with fail
    go_ret
    exact ⟨by rw [HV.out]; rfl, rfl⟩
  · have HV : Hid (sufV l m = false) := by show _ = _; unfold sufV; rw [decide_eq_false hle]; rfl
    have p1 : ¬ (m.length : Int) ≤ (l.length : Int) := by omega
    generalize bs l = s at hs1 ⊢
    generalize bs m = t at hs2 ⊢
    generalize m.length = lm at hs2 p1
    generalize l.length = ll at hs1 p1 hl
    clear hle
    go_enter Tryz.func97, Tryz.ntmps97
    go_wp2_with fail
    go_ret
    exact ⟨by rw [HV.out]; rfl, rfl⟩
set_option maxHeartbeats 1000000 in
set_option maxRecDepth 100000 in
theorem suf_any (l m : List UInt8) (hl : l.length < 4611686018427387904) (w : World) : Calls Tryz.prog 74 #[.string (bs l), .string (bs m)] w fun e w' => e = .returned (.bool (sufV l m)) ∧ w' = w := by
  have HC := Lib.hid (suf_in l m hl)
  generalize sufV l m = b at HC ⊢
  generalize bs l = s at HC ⊢
  generalize bs m = t at HC ⊢
  go_enter Tryz.func74, Tryz.ntmps74
  go_wp2_with (first | (go_at_call 97; refine (HC.out _).mono ?_; rintro e w3 ⟨rfl, rfl⟩))
  go_ret
  exact ⟨rfl, rfl⟩

set_option maxHeartbeats 1000000 in
set_option maxRecDepth 100000 in
theorem count_any (l : List UInt8) (w : World) : Calls Tryz.prog 75 #[.string (bs l), .string ⟨#[46]⟩] w fun e w' => e = .returned (.int .i64 (l.count 46 : Nat)) ∧ w' = w := by
  have HR : Hid (∀ w : World, Sem.run Tryz.prog (Extern.BytealgCount.count #[.string (bs l), .int .u8 46]) w = .ok (.int .i64 (l.count 46 : Nat)) w) := fun w => Lib.run_countString (bs l) 46 w
  generalize l.count 46 = n at HR ⊢
  generalize bs l = s at HR ⊢
  go_enter Tryz.func75, Tryz.ntmps75
  go_wp2
  rw [run_callFunc_extern Tryz.func99 (by kernel_rfl) (by kernel_rfl) (by kernel_rfl) (e := Extern.BytealgCount.count) (by kernel_rfl)]
  erw [HR.out]
  simp only [Result.andThen]
  rw [Oper.upon_value]
  go_wp2
  go_ret
  exact ⟨rfl, rfl⟩

/-- Where a byte stands last. -/
def lastc (c : UInt8) : List UInt8 → Option Nat
  | [] => none
  | x :: r => match lastc c r with
    | some i => some (i + 1)
    | none => if x = c then some 0 else none
def lastN : Option Nat → Int
  | some i => i
  | none => -1
theorem lastc_none {c : UInt8} : ∀ {l : List UInt8}, (∀ (j : Nat) (x : UInt8), l[j]? = some x → x ≠ c) → lastc c l = none
  | [], h => rfl
  | x :: r, h => by
    have ih := lastc_none (c := c) (l := r) (fun (j : Nat) (y : UInt8) hy => h (j + 1) y (by rw [List.getElem?_cons_succ]; exact hy))
    rw [lastc, ih]
    exact if_neg (h 0 x rfl)
theorem lastc_some {c : UInt8} : ∀ {l : List UInt8} {i : Nat}, l[i]? = some c → (∀ (j : Nat) (x : UInt8), i < j → l[j]? = some x → x ≠ c) → lastc c l = some i
  | x :: r, 0, h, hn => by
    have ih := lastc_none (c := c) (l := r) (fun (j : Nat) (y : UInt8) hy => hn (j + 1) y (by omega) (by rw [List.getElem?_cons_succ]; exact hy))
    rw [lastc, ih]
    cases h
    exact if_pos rfl
  | x :: r, i + 1, h, hn => by
    rw [List.getElem?_cons_succ] at h
    have ih := lastc_some (c := c) (l := r) h (fun (j : Nat) (y : UInt8) hj hy => hn (j + 1) y (by omega) (by rw [List.getElem?_cons_succ]; exact hy))
    rw [lastc, ih]
theorem lastc_lt {c : UInt8} : ∀ {l : List UInt8} {i : Nat}, lastc c l = some i → l[i]? = some c
  | x :: r, i, h => by
    rw [lastc] at h
    cases hr : lastc c r with
    | some k => rw [hr] at h; cases h; rw [List.getElem?_cons_succ]; exact lastc_lt hr
    | none =>
      rw [hr] at h
      by_cases hx : x = c
      · rw [if_pos hx] at h; cases h; rw [hx]; rfl
      · rw [if_neg hx] at h; cases h

set_option maxHeartbeats 2000000 in
set_option maxRecDepth 100000 in
theorem last_in (l : List UInt8) (c : UInt8) (hl : l.length < 4611686018427387904) (w : World) : Calls Tryz.prog 82 #[.string (bs l), .int .u8 (c.toNat : Int)] w fun e w' => e = .returned (.int .i64 (lastN (lastc c l))) ∧ w' = w := by
  have hsz : (bs l).size = l.length := rfl
  have HIX : Hid (∀ (i : Nat) (x : UInt8) (w : World), l[i]? = some x → Sem.run Tryz.prog (Instr.index 9 (.string (bs l)) (.int .i64 i)) w = .ok (.int .u8 (x.toNat : Int)) w) := fun i x w h => bs_index h w
  have HC : Hid (∀ x : UInt8, x ≠ c → ¬ (x.toNat : Int) = (c.toNat : Int)) := fun x hx e => hx (UInt8.toNat_inj.1 (Int.ofNat_inj.1 e))
  generalize hln : l.length = ln at hsz hl
  have HLN := Lib.hid hln
  obtain ⟨ci, hci⟩ : ∃ ci : Int, (c.toNat : Int) = ci := ⟨_, rfl⟩
  have HCI := Lib.hid hci
  rw [hci]
  generalize bs l = s at hsz HIX ⊢
  clear hln hci
  go_enter Tryz.func82, Tryz.ntmps82
  go_wp2_with fail
  go_loopg [5] (ln + 1) (fun g s5 wr => ∃ i : Nat, s5 = .int .i64 ((i : Int) - 1) ∧ i ≤ ln ∧ i < g ∧ Hid (wr = w ∧ ∀ (j : Nat) (x : UInt8), i ≤ j → l[j]? = some x → x ≠ c))
  case atStart => exact ⟨ln, by go_num, by omega, by omega, rfl, fun j x hj hx => by have := (List.getElem?_eq_some_iff.1 hx).1; have := HLN.out; omega⟩
  case round =>
    obtain ⟨i, rfl, hil, hig, HR⟩ := hrel
    obtain ⟨hw, hall⟩ := HR.out
    have hw' := hw.symm
    subst hw'
    clear hw HR
    cases i with
    | zero =>
      have HV : Hid (lastc c l = none) := lastc_none fun j x hx => hall j x (Nat.zero_le _) hx
      clear hall
      go_wp2_with fail
      go_ret
      exact ⟨by rw [HV.out]; rfl, rfl⟩
    | succ k =>
      have q1 : (0 : Int) ≤ (k : Int) := by omega
      have q2 : (k : Int) < (ln : Int) := by omega
      have hk1 : ((k + 1 : Nat) : Int) - 1 = (k : Int) := by omega
      obtain ⟨x, hx⟩ : ∃ x, l[k]? = some x := ⟨_, List.getElem?_eq_getElem (by rw [HLN.out]; omega)⟩
      have hix := HIX.out k x w hx
      by_cases hxc : x = c
      · subst hxc
        have HV : Hid (lastc x l = some k) := lastc_some hx fun j y hj hy => hall j y (by omega) hy
        rw [HCI.out] at hix
        clear hall hx
        rw [hk1]
        go_wp2_with fail
        go_ret
        exact ⟨by rw [HV.out]; rfl, rfl⟩
      · have p1 : ¬ (x.toNat : Int) = ci := by rw [← HCI.out]; exact HC.out x hxc
        have HN : Hid (∀ (j : Nat) (y : UInt8), k ≤ j → l[j]? = some y → y ≠ c) := fun j y hj hy => by
          by_cases hjk : j = k
          · subst hjk; rw [hx] at hy; cases hy; exact hxc
          · exact hall j y (by omega) hy
        clear hall hx
        rw [hk1]
        go_wp2_with fail
        go_roundg (k + 1)
        case measure => exact hig
        case rel => exact ⟨k, by go_num, by omega, by omega, rfl, HN.out⟩
set_option maxHeartbeats 1000000 in
set_option maxRecDepth 100000 in
theorem last_any (l : List UInt8) (c : UInt8) (hl : l.length < 4611686018427387904) (w : World) : Calls Tryz.prog 53 #[.string (bs l), .int .u8 (c.toNat : Int)] w fun e w' => e = .returned (.int .i64 (lastN (lastc c l))) ∧ w' = w := by
  have HC := Lib.hid (last_in l c hl)
  generalize lastN (lastc c l) = b at HC ⊢
  generalize bs l = s at HC ⊢
  generalize (c.toNat : Int) = t at HC ⊢
  go_enter Tryz.func53, Tryz.ntmps53
  go_wp2_with (first | (go_at_call 82; refine (HC.out _).mono ?_; rintro e w3 ⟨rfl, rfl⟩))
  go_ret
  exact ⟨rfl, rfl⟩
end Go.Proofs.YtmhnailcmlomiaaGreatDoor
namespace Go.Proofs.YtmhnailcmlomiaaGreatDoor
open Go.ChangeShapes Go.WideShapes Go.ChangeAt Go.RowKit
set_option linter.unusedVariables false

/-- A port and whether there is one. -/
def ansP (o : Option Nat) : Value := .tuple #[.int .i64 (portN o : Nat), .bool o.isSome]

set_option maxHeartbeats 4000000 in
set_option maxRecDepth 100000 in
theorem pport_any (l : List UInt8) (hl : l.length < 4611686018427387904) (w : World) : Calls Tryz.prog 41 #[.string (bs l)] w fun e w' => e = .returned (ansP (portV l)) ∧ w' = w := by
  cases l with
  | nil =>
    have HV : Hid (portV [] = none) := by show _ = _; rw [portV, if_pos (.inl rfl)]
    have hb : bs [] = ⟨#[]⟩ := rfl
    rw [hb]
    go_enter Tryz.func41, Tryz.ntmps41
    go_wp2_with fail
    go_ret2
    exact ⟨by rw [HV.out]; rfl, rfl⟩
  | cons a r =>
    have HIX : Hid (∀ (i : Nat) (x : UInt8) (w : World), (a :: r)[i]? = some x → Sem.run Tryz.prog (Instr.index 9 (.string (bs (a :: r))) (.int .i64 i)) w = .ok (.int .u8 (x.toNat : Int)) w) := fun i x w h => bs_index h w
    have hsz : (bs (a :: r)).size = (a :: r).length := rfl
    have hne : (bs (a :: r)).toList.isEmpty = false := by rw [bs_toList]; rfl
    have hx0 : ∀ w, Sem.run Tryz.prog (Instr.index 9 (.string (bs (a :: r))) (.int .i64 0)) w = .ok (.int .u8 (a.toNat : Int)) w := fun w => HIX.out 0 a w rfl
    have HP : Hid (portV (a :: r) = if a = 48 then none else limGo 65535 0 (a :: r)) := by
      show _ = _
      rw [portV]
      by_cases h : a = 48
      · rw [if_pos (.inr (by rw [h]; rfl)), if_pos h]
      · rw [if_neg (by rintro (e | e); cases e; cases e; exact h rfl), if_neg h]
    generalize a :: r = l at HIX hsz hne hx0 HP hl ⊢
    generalize hln : l.length = ln at hsz hl
    have HLN := Lib.hid hln
    generalize bs l = s at HIX hsz hne hx0 ⊢
    clear hln
    by_cases ha : a = 48
    · have pa : (a.toNat : Int) = 48 := by rw [ha]; rfl
      have HV : Hid (portV l = none) := by show _ = _; rw [HP.out, if_pos ha]
      rw [pa] at hx0
      clear ha pa
      go_enter Tryz.func41, Tryz.ntmps41
      go_wp2_with fail
      go_ret2
      exact ⟨by rw [HV.out]; rfl, rfl⟩
    · have pa : ¬ (a.toNat : Int) = 48 := fun e => ha (UInt8.toNat_inj.1 (by show a.toNat = 48; omega))
      have HV : Hid (portV l = limGo 65535 0 l) := by show _ = _; rw [HP.out, if_neg ha]
      generalize (a.toNat : Int) = ai at hx0 pa
      have pb : (ai == 48) = false := by simpa using pa
      clear ha
      go_enter Tryz.func41, Tryz.ntmps41
      go_wp2_with fail
      clear hx0 pa pb hne
      go_loopg [4, 15] (ln + 1) (fun g s4 s15 wr => ∃ (acc : Int) (i : Nat), s4 = .int .i64 acc ∧ s15 = .int .i64 i ∧ 0 ≤ acc ∧ acc ≤ 65535 ∧ i ≤ ln ∧ ln - i < g ∧ Hid (wr = w ∧ portV l = limGo 65535 acc.toNat (l.drop i)))
      case atStart => exact ⟨0, 0, rfl, by go_num, by omega, by omega, by omega, by omega, rfl, HV.out⟩
      case round =>
        obtain ⟨acc, i, rfl, rfl, ha0, ha1, hil, hig, HR⟩ := hrel
        obtain ⟨hw, hgo⟩ := HR.out
        have hw' := hw.symm
        subst hw'
        clear hw HR
        have q1 : (0 : Int) ≤ (i : Int) := by omega
        by_cases hi : i = ln
        · subst hi
          rw [List.drop_of_length_le (by rw [HLN.out]; exact Nat.le_refl _), limGo] at hgo
          have HE : Hid (ansP (portV l) = .tuple #[.int .i64 acc, .bool true]) := by
            show _ = _
            rw [hgo, ansP]
            show Value.tuple #[.int .i64 ((acc.toNat : Nat) : Int), .bool true] = _
            rw [show ((acc.toNat : Nat) : Int) = acc by omega]
          clear hgo
          go_wp2_with fail
          go_ret2
          exact ⟨by rw [HE.out]; rfl, rfl⟩
        · have q2 : (i : Int) < (ln : Int) := by omega
          obtain ⟨c, hc⟩ : ∃ c, l[i]? = some c := ⟨_, List.getElem?_eq_getElem (by rw [HLN.out]; omega)⟩
          have hix := fun w => HIX.out i c w hc
          have hstep := hgo.trans (limGo_step hc)
          have HDG := Lib.hid (dig_any c w)
          clear hgo hc
          by_cases hd : 48 ≤ c.toNat ∧ c.toNat ≤ 57
          · have hdt : isDig c = true := by unfold isDig; rw [decide_eq_true hd.1, decide_eq_true hd.2]; rfl
            rw [hdt] at HDG
            rw [if_pos hd] at hstep
            obtain ⟨x, hx⟩ : ∃ x : Int, (c.toNat : Int) = x := ⟨_, rfl⟩
            rw [hx] at hix HDG
            have x0 : 48 ≤ x := by omega
            have x1 : x ≤ 57 := by omega
            have hn : 10 * acc.toNat + (c.toNat - 48) = (10 * acc + (x - 48)).toNat := by omega
            rw [hn] at hstep
            clear hdt hd hx hn
            by_cases hbig : 65535 < 10 * acc + (x - 48)
            · rw [if_pos (by omega)] at hstep
              have HE := Lib.hid hstep
              clear hstep
              go_wp2_with (first | (go_at_call 77; refine HDG.out.mono ?_; rintro e w3 ⟨rfl, hw3⟩; have hw3' := hw3.symm; subst hw3'; clear hw3))
              go_ret2
              exact ⟨by rw [HE.out]; rfl, rfl⟩
            · rw [if_neg (by omega)] at hstep
              have HE := Lib.hid hstep
              clear hstep
              go_wp2_with (first | (go_at_call 77; refine HDG.out.mono ?_; rintro e w3 ⟨rfl, hw3⟩; have hw3' := hw3.symm; subst hw3'; clear hw3))
              go_roundg (ln - i)
              case measure => exact hig
              case rel => exact ⟨10 * acc + (x - 48), i + 1, by go_num, by go_num, by omega, by omega, by omega, by omega, rfl, HE.out⟩
          · have hdt : isDig c = false := by
              unfold isDig
              rw [Bool.and_eq_false_iff]
              by_cases h1 : 48 ≤ c.toNat
              · exact .inr (decide_eq_false fun h2 => hd ⟨h1, h2⟩)
              · exact .inl (decide_eq_false h1)
            rw [hdt] at HDG
            rw [if_neg hd] at hstep
            have HE := Lib.hid hstep
            generalize (c.toNat : Int) = x at hix HDG
            clear hstep hdt hd
            go_wp2_with (first | (go_at_call 77; refine HDG.out.mono ?_; rintro e w3 ⟨rfl, hw3⟩; have hw3' := hw3.symm; subst hw3'; clear hw3))
            go_ret2
            exact ⟨by rw [HE.out]; rfl, rfl⟩
end Go.Proofs.YtmhnailcmlomiaaGreatDoor
namespace Go.Proofs.YtmhnailcmlomiaaGreatDoor
open Go.ChangeShapes Go.WideShapes Go.ChangeAt Go.RowKit
set_option linter.unusedVariables false

/-- Whether a name is a suffix or below it. -/
def subV (a b : List UInt8) : Bool := nameV a && nameV b && (decide (a = b) || sufV a (46 :: b))
/-- A name's labels. -/
def cntV (a : List UInt8) : Nat := if nameV a then (splitc 46 a).length else 0

theorem splitc_count (c : UInt8) : ∀ l : List UInt8, (splitc c l).length = l.count c + 1
  | [] => by simp [splitc]
  | x :: l => by
    have ih := splitc_count c l
    rw [splitc]
    by_cases h : x = c
    · subst h
      simp [ih]
    · rw [List.count_cons_of_ne (by simpa using h)]
      split
      · rename_i h2; exact absurd h2 h
      · split
        · rename_i e; rw [e] at ih; simp at ih
        · rename_i a t e; rw [e] at ih; simpa using ih
theorem bs_append (a b : List UInt8) : bs a ++ bs b = bs (a ++ b) := by
  apply ByteArray.ext
  apply Array.toList_inj.1
  simp [bs]

set_option maxHeartbeats 2000000 in
set_option maxRecDepth 100000 in
theorem sub_any (a b : List UInt8) (ha : a.length < 4611686018427387904) (hb : b.length < 4611686018427387904) (w : World) : Calls Tryz.prog 37 #[.string (bs a), .string (bs b)] w fun e w' => e = .returned (.bool (subV a b)) ∧ w' = w := by
  have HN1 := Lib.hid (name_any a)
  have HN2 := Lib.hid (name_any b)
  have HSF := Lib.hid (suf_any a (46 :: b) (by omega))
  have heq := bs_eq a b
  have hap : (⟨#[46]⟩ : ByteArray) ++ bs b = bs (46 :: b) := bs_append [46] b
  have HV : Hid (subV a b = (nameV a && nameV b && (decide (a = b) || sufV a (46 :: b)))) := rfl
  have hys : (bs b).size = b.length := rfl
  generalize b.length = lb at hys hb
  generalize nameV a = b1 at HN1 HV
  generalize nameV b = b2 at HN2 HV
  generalize sufV a (46 :: b) = b3 at HSF HV
  generalize decide (a = b) = b4 at heq HV
  generalize bs (46 :: b) = z at HSF hap
  generalize bs a = x at HN1 HSF heq ⊢
  generalize bs b = y at HN2 heq hap hys ⊢
  cases b1
  · go_enter Tryz.func37, Tryz.ntmps37
    go_wp2_with (first | (go_at_call 45; with_reducible refine (HN1.out _).mono ?_; rintro e w3 ⟨rfl, rfl⟩) | (go_at_call 45; with_reducible refine (HN2.out _).mono ?_; rintro e w3 ⟨rfl, rfl⟩) | (go_at_call 74; refine (HSF.out _).mono ?_; rintro e w3 ⟨rfl, rfl⟩))
    go_ret
    exact ⟨by rw [HV.out]; rfl, rfl⟩
  · cases b2
    · go_enter Tryz.func37, Tryz.ntmps37
      go_wp2_with (first | (go_at_call 45; with_reducible refine (HN1.out _).mono ?_; rintro e w3 ⟨rfl, rfl⟩) | (go_at_call 45; with_reducible refine (HN2.out _).mono ?_; rintro e w3 ⟨rfl, rfl⟩) | (go_at_call 74; refine (HSF.out _).mono ?_; rintro e w3 ⟨rfl, rfl⟩))
      go_ret
      exact ⟨by rw [HV.out]; rfl, rfl⟩
    · cases b4
      · go_enter Tryz.func37, Tryz.ntmps37
        go_wp2_with (first | (go_at_call 45; with_reducible refine (HN1.out _).mono ?_; rintro e w3 ⟨rfl, rfl⟩) | (go_at_call 45; with_reducible refine (HN2.out _).mono ?_; rintro e w3 ⟨rfl, rfl⟩) | (go_at_call 74; refine (HSF.out _).mono ?_; rintro e w3 ⟨rfl, rfl⟩))
        go_ret
        exact ⟨by rw [HV.out]; rfl, rfl⟩
      · go_enter Tryz.func37, Tryz.ntmps37
        go_wp2_with (first | (go_at_call 45; with_reducible refine (HN1.out _).mono ?_; rintro e w3 ⟨rfl, rfl⟩) | (go_at_call 45; with_reducible refine (HN2.out _).mono ?_; rintro e w3 ⟨rfl, rfl⟩) | (go_at_call 74; refine (HSF.out _).mono ?_; rintro e w3 ⟨rfl, rfl⟩))
        go_ret
        exact ⟨by rw [HV.out]; rfl, rfl⟩

set_option maxHeartbeats 2000000 in
set_option maxRecDepth 100000 in
theorem cnt_any (a : List UInt8) (w : World) : Calls Tryz.prog 38 #[.string (bs a)] w fun e w' => e = .returned (.int .i64 (cntV a : Nat)) ∧ w' = w := by
  have HN1 := Lib.hid (name_any a)
  have HC := Lib.hid (count_any a)
  cases hb : nameV a with
  | false =>
    have HV : Hid (cntV a = 0) := by show _ = _; rw [cntV, if_neg (by rw [hb]; simp)]
    rw [hb] at HN1
    generalize bs a = x at HN1 HC ⊢
    clear hb
    go_enter Tryz.func38, Tryz.ntmps38
    go_wp2_with (first | (go_at_call 45; refine (HN1.out _).mono ?_; rintro e w3 ⟨rfl, rfl⟩) | (go_at_call 75; refine (HC.out _).mono ?_; rintro e w3 ⟨rfl, rfl⟩))
    go_ret
    exact ⟨by rw [HV.out]; rfl, rfl⟩
  | true =>
    have HV : Hid ((cntV a : Nat) = 1 + a.count 46) := by show _ = _; rw [cntV, if_pos hb, splitc_count]; omega
    have hle : a.count 46 ≤ 253 := by
      have h1 := List.count_le_length (a := (46 : UInt8)) (l := a)
      have h2 : a.length ≤ 253 := by
        unfold nameV at hb
        simp at hb
        exact hb.1.1
      omega
    rw [hb] at HN1
    generalize a.count 46 = n at HC HV hle
    generalize bs a = x at HN1 HC ⊢
    clear hb
    go_enter Tryz.func38, Tryz.ntmps38
    go_wp2_with (first | (go_at_call 45; refine (HN1.out _).mono ?_; rintro e w3 ⟨rfl, rfl⟩) | (go_at_call 75; refine (HC.out _).mono ?_; rintro e w3 ⟨rfl, rfl⟩))
    go_ret
    exact ⟨by rw [HV.out]; exact ret_int (by omega), rfl⟩
end Go.Proofs.YtmhnailcmlomiaaGreatDoor
