/-
  What a target's notation gives back; no walk.
  Conditions: bytes are bytes.
-/
import Derived.Test.YtmhnailcmlomiaaGreatDoorVd
import Derived.Test.YtmhnailcmlomiaaGreatDoorDa
import Derived.Test.YtmhnailcmlomiaaGreatDoorN13
namespace Go.Proofs.YtmhnailcmlomiaaGreatDoor
open Go.ChangeShapes Go.WideShapes Go.ChangeAt Go.RowKit
set_option linter.unusedVariables false

theorem portV_dec {p : Nat} (hp : p < 70000) : portV (oct8 (decN p)) = if 1 ≤ p ∧ p ≤ 65535 then some p else none := by
  by_cases h0 : p = 0
  · subst h0
    rw [decN_small (by omega), if_neg (by omega)]
    rfl
  · obtain ⟨x, r, e, h2, h3⟩ := decN_head (n := p) (by omega)
    have hne : ¬ (oct8 (decN p) = [] ∨ (oct8 (decN p)).head? = some 48) := by
      rw [e]
      rintro (h | h)
      · cases h
      · exact ofNat_ne (x := x) (c := 48) (by omega) (by omega) (by omega) (Option.some.inj h)
    rw [portV, if_neg hne, limGo_dig 65535 _ 0 (by omega), digGo_decN]
    show (if p ≤ 65535 then some p else none) = _
    by_cases h : p ≤ 65535
    · rw [if_pos h, if_pos ⟨by omega, h⟩]
    · rw [if_neg h, if_neg (by omega)]
theorem splitc_in {c : UInt8} : ∀ {l : List UInt8} {x : UInt8}, x ∈ l → x = c ∨ ∃ p ∈ splitc c l, x ∈ p
  | y :: l, x, h => by
    rw [splitc]
    rcases List.mem_cons.1 h with rfl | h
    · by_cases hc : x = c
      · exact .inl hc
      · rw [if_neg hc]
        split
        · exact .inr ⟨[x], by simp, by simp⟩
        · exact .inr ⟨x :: _, List.mem_cons_self .., by simp⟩
    · rcases splitc_in h with e | ⟨p, hp, hx⟩
      · exact .inl e
      · refine .inr ?_
        split
        · exact ⟨p, List.mem_cons_of_mem _ hp, hx⟩
        · split
          · rename_i e; rw [e] at hp; cases hp
          · rename_i a t e
            rw [e] at hp
            rcases List.mem_cons.1 hp with rfl | hp
            · exact ⟨y :: p, by simp, List.mem_cons_of_mem _ hx⟩
            · exact ⟨p, List.mem_cons_of_mem _ hp, hx⟩
theorem splitc_ends {c : UInt8} : ∀ {l : List UInt8}, l.getLast? = some c → (splitc c l).getLast? = some []
  | [x], h => by
    obtain rfl : x = c := by simpa using h
    simp [splitc]
  | x :: y :: r, h => by
    have h1 : (y :: r).getLast? = some c := by rw [← h, List.getLast?_cons_cons]
    have ih := splitc_ends h1
    have hc := splitc_count c (y :: r)
    have hm : 0 < (y :: r).count c := List.count_pos_iff.2 (List.mem_of_getLast? h1)
    rw [splitc]
    split
    · cases hS : splitc c (y :: r) with
      | nil => rw [hS] at hc; simp at hc
      | cons a t => rw [List.getLast?_cons_cons, ← hS]; exact ih
    · cases hS : splitc c (y :: r) with
      | nil => rw [hS] at hc; simp at hc
      | cons a t =>
        cases t with
        | nil => rw [hS] at hc; simp at hc; omega
        | cons b t =>
          rw [hS, List.getLast?_cons_cons] at ih
          show ((x :: a) :: b :: t).getLast? = _
          rw [List.getLast?_cons_cons]
          exact ih
theorem name_parts {l : List UInt8} (h : nameV l = true) : l.length ≤ 253 ∧ (∀ p ∈ splitc 46 l, labV p = true) ∧ ((splitc 46 l).getLastD []).all isDig = false := by
  unfold nameV at h
  rw [Bool.and_eq_true, Bool.and_eq_true] at h
  exact ⟨of_decide_eq_true h.1.1, List.all_eq_true.1 h.1.2, by simpa using h.2⟩
theorem lab_all {p : List UInt8} (h : labV p = true) : 1 ≤ p.length ∧ ∀ x ∈ p, isLab x = true := by
  unfold labV at h
  simp only [Bool.and_eq_true] at h
  exact ⟨of_decide_eq_true h.1.1.1.1, List.all_eq_true.1 h.2⟩
theorem name_chars {l : List UInt8} (h : nameV l = true) : ∀ x ∈ l, x = 46 ∨ isLab x = true := fun x hx => by
  rcases splitc_in (c := 46) hx with e | ⟨p, hp, hxp⟩
  · exact .inl e
  · exact .inr ((lab_all ((name_parts h).2.1 p hp)).2 x hxp)
theorem name_nat {l : List UInt8} (h : nameV l = true) : ∀ x ∈ l, x.toNat = 46 ∨ (97 ≤ x.toNat ∧ x.toNat ≤ 122) ∨ (48 ≤ x.toNat ∧ x.toNat ≤ 57) ∨ x.toNat = 45 := fun x hx => by
  rcases name_chars h x hx with rfl | e
  · exact .inl rfl
  · rw [lab_iff] at e
    exact .inr (of_decide_eq_true e)
theorem name_trim {l : List UInt8} (h : nameV l = true) : trimV l = l := by
  unfold trimV
  rw [if_neg]
  intro e
  have h1 := splitc_ends e
  have h2 := (lab_all ((name_parts h).2.1 [] (List.mem_of_getLast? h1))).1
  simp at h2
theorem name_low {l : List UInt8} (h : nameV l = true) : lowV l = l := by
  unfold lowV
  have h1 : l.map lowC = l.map id := List.map_congr_left fun x hx => by
    have := name_nat h x hx
    unfold lowC
    rw [if_neg (by omega)]
    rfl
  rw [h1, List.map_id]
theorem name_self {l : List UInt8} (h : nameV l = true) : nameP l = some l := by
  rw [nameP, name_trim h, name_low h, if_pos h]
theorem par_last : ∀ (k : Nat) (l : List UInt8) (xs : List Nat), par k l = some xs → ∃ x, decV ((splitc 46 l).getLastD []) = some x
  | 0, l, xs, h => by
    rw [split_cut]
    unfold par at h
    cases hc : cutc 46 l with
    | some p => rw [hc] at h; cases h
    | none =>
      rw [hc] at h
      cases hd : decV l with
      | none => simp [hd] at h
      | some x => exact ⟨x, by simpa using hd⟩
  | k + 1, l, xs, h => by
    rw [split_cut]
    unfold par at h
    cases hc : cutc 46 l with
    | none => rw [hc] at h; cases h
    | some p =>
      obtain ⟨a, b⟩ := p
      rw [hc] at h
      cases hd : decV a with
      | none => simp [hd] at h
      | some x =>
        cases hp : par k b with
        | none => simp [hd, hp] at h
        | some r =>
          obtain ⟨y, hy⟩ := par_last k b r hp
          refine ⟨y, ?_⟩
          show decV ((a :: splitc 46 b).getLastD []) = some y
          cases hS : splitc 46 b with
          | nil => rw [split_cut] at hS; split at hS <;> cases hS
          | cons s t => rw [hS] at hy; simpa [List.getLastD] using hy
theorem oct8_dig (n : Nat) : (oct8 (decN n)).all isDig = true := by
  rw [List.all_eq_true]
  intro x hx
  unfold oct8 at hx
  obtain ⟨y, hy, rfl⟩ := List.mem_map.1 hx
  have := decN_digit n y hy
  rw [dig_iff]
  apply decide_eq_true
  rw [show (UInt8.ofNat y).toNat = y by simp; omega]
  exact this
theorem name_pa {l : List UInt8} (h : nameV l = true) : pa l false = false := by
  have h58 : l.contains 58 = false := by
    cases hc : l.contains 58 with
    | false => rfl
    | true =>
      have := name_nat h 58 (by simpa using hc)
      simp at this
  have hpar : par 3 l = none := by
    cases hp : par 3 l with
    | none => rfl
    | some xs =>
      obtain ⟨x, hx⟩ := par_last 3 l xs hp
      rw [decV_decR] at hx
      have h1 := decR_unique hx
      have h2 := (name_parts h).2.2
      rw [h1, oct8_dig] at h2
      cases h2
  unfold pa parseS
  rw [h58, hpar]
  rfl
theorem brk_no {l : List UInt8} (h : ∀ x ∈ l, x ≠ 91) : brk l = false := by
  unfold brk
  cases l with
  | nil => rfl
  | cons x r =>
    have h1 : ¬ (x :: r).head? = some 91 := fun e => h x (by simp) (Option.some.inj e)
    rw [decide_eq_false h1]
    simp
theorem ph_name {l : List UInt8} (h : nameV l = true) : phT l = tgt (bs l) false zeros 0 ∧ phB l = true := by
  have hb : brk l = false := brk_no fun x hx e => by
    have := name_nat h x hx
    rw [e] at this
    simp at this
  unfold phT phB
  rw [hb, name_pa h, name_self h]
  exact ⟨rfl, rfl⟩
theorem fmt4_chars (xs : List Nat) : ∀ x ∈ oct8 (fmt4 xs), x ≠ 91 := by
  intro x hx e
  unfold oct8 at hx
  obtain ⟨y, hy, rfl⟩ := List.mem_map.1 hx
  unfold fmt4 at hy
  have hy2 : y < 100 ∧ y ≠ 91 := by
    rcases joinN_mem 46 _ y hy with h | ⟨z, hz, h⟩
    · omega
    · obtain ⟨g, _, rfl⟩ := List.mem_map.1 hz
      have := decN_digit g y h
      omega
  have := congrArg UInt8.toNat e
  simp at this
  omega
theorem ph_addr {b : Bool} {xs : List Nat} (hx : Bytes xs) (h : validA b xs = true) : phT (fhV [] b xs) = tgt ⟨#[]⟩ b xs 0 ∧ phB (fhV [] b xs) = true := by
  have hp := parse_fmt hx h
  cases b with
  | false =>
    have hf : fhV [] false xs = oct8 (fmtA false xs) := rfl
    have hpa : pa (oct8 (fmtA false xs)) false = true := by unfold pa; rw [hp]; rfl
    have hb : brk (oct8 (fmtA false xs)) = false := brk_no (by
      unfold fmtA
      rw [if_pos h]
      exact fmt4_chars xs)
    rw [hf]
    unfold phT phB
    rw [hb, hpa]
    refine ⟨?_, rfl⟩
    show paT _ false = _
    unfold paT
    rw [if_pos hpa, hp]
    rfl
  | true =>
    have hf : fhV [] true xs = 91 :: (oct8 (fmtA true xs) ++ [93]) := rfl
    have hpa : pa (oct8 (fmtA true xs)) true = true := by unfold pa; rw [hp]; rfl
    have hm : mid (91 :: (oct8 (fmtA true xs) ++ [93])) = oct8 (fmtA true xs) := by unfold mid; simp
    have hb : brk (91 :: (oct8 (fmtA true xs) ++ [93])) = true := by
      unfold brk
      rw [← List.cons_append, List.getLast?_append]
      simp
    rw [hf]
    unfold phT phB
    rw [hb, hm, hpa]
    refine ⟨?_, rfl⟩
    show paT _ true = _
    unfold paT
    rw [if_pos hpa, hp]
    rfl
theorem vT_split {nl : List UInt8} {b : Bool} {xs : List Nat} {p : Int} (h : vT nl b xs p = true) : 1 ≤ p ∧ p ≤ 65535 ∧ ((nl = [] ∧ validA b xs = true) ∨ (nl ≠ [] ∧ nameV nl = true ∧ b = false ∧ xs = zeros)) := by
  unfold vT at h
  rw [Bool.and_eq_true, Bool.and_eq_true] at h
  refine ⟨of_decide_eq_true h.1.1, of_decide_eq_true h.1.2, ?_⟩
  have h2 := h.2
  by_cases hn : nl = []
  · rw [if_pos hn] at h2
    exact .inl ⟨hn, h2⟩
  · rw [if_neg hn, Bool.and_eq_true] at h2
    exact .inr ⟨hn, h2.1, (of_decide_eq_true h2.2).1, (of_decide_eq_true h2.2).2⟩
theorem ph_valid {nl : List UInt8} {b : Bool} {xs : List Nat} {p : Int} (hx : Bytes xs) (h : vT nl b xs p = true) : phT (fhV nl b xs) = tgt (bs nl) b xs 0 ∧ phB (fhV nl b xs) = true := by
  obtain ⟨_, _, ⟨rfl, hv⟩ | ⟨hn, hv, rfl, rfl⟩⟩ := vT_split h
  · exact ph_addr hx hv
  · have hf : fhV nl false zeros = nl := by unfold fhV; rw [if_neg hn]
    rw [hf]
    exact ph_name hv
theorem last_dec (h : List UInt8) (n : Nat) : lastc 58 (h ++ 58 :: oct8 (decN n)) = some h.length := by
  apply lastc_some
  · simp
  · intro j x hj hx e
    rw [List.getElem?_append_right (by omega), show j - h.length = (j - h.length - 1) + 1 by omega, List.getElem?_cons_succ] at hx
    have h1 := List.all_eq_true.1 (oct8_dig n) x (List.mem_of_getElem? hx)
    rw [dig_iff, e] at h1
    exact absurd (of_decide_eq_true h1) (by decide)
/-- Parse of Format, of targets. -/
theorem pt_round {nl : List UInt8} {b : Bool} {xs : List Nat} {p : Int} (hx : Bytes xs) (h : vT nl b xs p = true) : ptB (fT nl b xs p) = true ∧ ptT (fT nl b xs p) = tgt (bs nl) b xs p := by
  obtain ⟨h1, h2⟩ := ph_valid hx h
  obtain ⟨h3, h4, -⟩ := vT_split h
  have hq : portV (oct8 (decN p.toNat)) = some p.toNat := by rw [portV_dec (by omega), if_pos (by omega)]
  have ht : (fhV nl b xs ++ 58 :: oct8 (decN p.toNat)).take (fhV nl b xs).length = fhV nl b xs := by simp
  have hd : (fhV nl b xs ++ 58 :: oct8 (decN p.toNat)).drop ((fhV nl b xs).length + 1) = oct8 (decN p.toNat) := by
    rw [List.drop_append, List.drop_of_length_le (by omega), show (fhV nl b xs).length + 1 - (fhV nl b xs).length = 1 by omega]
    rfl
  rw [fT, if_pos h]
  unfold ptB ptT
  rw [last_dec]
  show (phB (List.take _ _) && (portV (List.drop _ _)).isSome) = true ∧ (if (phB (List.take _ _) && (portV (List.drop _ _)).isSome) = true then _ else _) = _
  rw [ht, hd, h1, h2, hq]
  refine ⟨rfl, ?_⟩
  show withP (tgt (bs nl) b xs 0) p.toNat = _
  rw [withP_tgt _ _ _ hx.1, show ((p.toNat : Nat) : Int) = p by omega]
theorem pt_no {nl : List UInt8} {b : Bool} {xs : List Nat} {p : Int} (h : vT nl b xs p = false) : ptB (fT nl b xs p) = false := by
  rw [fT, if_neg (by rw [h]; simp)]
  rfl
end Go.Proofs.YtmhnailcmlomiaaGreatDoor
