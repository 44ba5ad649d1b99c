/-
  CONTRACT of package cidr's parseBits, over this seat's translation: what the call returns; decimal numbers and their only notation.
  Conditions: the string is shorter than 2 to the 31; the package variables are as Gl says.
  CONTRACT of package cidr's Parse, over this seat's translation: what the call returns.
  Conditions: the string is shorter than 2 to the 31; the package variables are as Gl says.
  CONTRACT of the reference's ParsePrefix, over this seat's translation: what the call returns.
  Conditions: the string is shorter than 2 to the 31.
-/
import Derived.Test.YtnadendhboiliaaGreatN2
import Derived.Test.YtnadendhboiliaaGreatCb
import Derived.Lib.AtoiAllCases
import Derived.Test.YtnadendhboiliaaGreatP
import Derived.Test.YtnadendhboiliaaGreatMb
import Derived.Test.YtnadendhboiliaaGreatR2
namespace Go.Proofs.YtnadendhboiliaaGreat
open Go.ChangeShapes Go.WideShapes Go.ChangeAt Go.RowKit
set_option linter.unusedVariables false

/-- Digits without a leading zero are the notation of their number. -/
theorem digits_unique : ∀ (k : Nat) (l : List UInt8) (n : Nat), l.length = k → l ≠ [] → (l.head? = some 48 → l.length = 1) → digGo 0 l = some n → l = oct8 (decN n) := by
  intro k
  induction k with
  | zero => intro l n hl hne; exact absurd (List.length_eq_zero_iff.1 hl) hne
  | succ k ih =>
    intro l n hl hne h0 hd
    obtain ⟨r, c, rfl⟩ : ∃ r c, l = r ++ [c] := ⟨l.dropLast, l.getLast hne, (List.dropLast_concat_getLast hne).symm⟩
    rw [digGo_snoc] at hd
    have hrl : r.length = k := by simpa using hl
    cases hr : digGo 0 r with
    | none => rw [hr] at hd; cases hd
    | some a =>
      rw [hr] at hd
      have hd2 : (if 48 ≤ c.toNat ∧ c.toNat ≤ 57 then some (10 * a + (c.toNat - 48)) else none) = some n := hd
      by_cases hc : 48 ≤ c.toNat ∧ c.toNat ≤ 57
      · rw [if_pos hc] at hd2
        have hn : n = 10 * a + (c.toNat - 48) := (Option.some.inj hd2).symm
        have hcc : c = UInt8.ofNat (48 + (c.toNat - 48)) := by
          apply UInt8.toNat_inj.1
          rw [show 48 + (c.toNat - 48) = c.toNat by omega]
          simp
        by_cases hre : r = []
        · subst hre
          have ha : a = 0 := by rw [show digGo 0 ([] : List UInt8) = some 0 from rfl] at hr; exact (Option.some.inj hr).symm
          rw [decN_small (by omega), hn, ha]
          show [c] = [UInt8.ofNat _]
          rw [show 48 + (10 * 0 + (c.toNat - 48)) = 48 + (c.toNat - 48) by omega, ← hcc]
        · have hh : (r ++ [c]).head? = r.head? := by cases r with
            | nil => exact absurd rfl hre
            | cons x t => rfl
          have h48 : r.head? ≠ some 48 := fun e => by
            have := h0 (by rw [hh]; exact e)
            rw [List.length_append] at this
            cases r with
            | nil => exact hre rfl
            | cons x t => simp at this
          have hrr := ih r a hrl hre (fun e => absurd e h48) hr
          have ha1 : 1 ≤ a := by
            cases r with
            | nil => exact absurd rfl hre
            | cons x t =>
              rw [digGo] at hr
              split at hr
              · have hx : x.toNat ≠ 48 := fun e => h48 (by rw [List.head?_cons]; congr 1; rw [← UInt8.toNat_inj]; exact e)
                have := digGo_acc hr
                omega
              · cases hr
          rw [decN_big (by omega), show n / 10 = a by omega, show n % 10 = c.toNat - 48 by omega, oct8_append, ← hrr]
          show r ++ [c] = r ++ [UInt8.ofNat _]
          rw [← hcc]
      · rw [if_neg hc] at hd2; cases hd2

theorem decR_unique {M : Nat} {l : List UInt8} {n : Nat} (h : decR M l = some n) : l = oct8 (decN n) := by
  unfold decR at h
  split at h
  · cases h
  · rename_i hc
    split at h
    · rename_i u hu
      split at h
      · cases h
        refine digits_unique l.length l n rfl (fun e => hc (.inl e)) (fun e => ?_) hu
        have h1 : ¬ 1 < l.length := fun e2 => hc (.inr (.inr ⟨e, e2⟩))
        have h2 : l ≠ [] := fun e => hc (.inl e)
        have h3 : 0 < l.length := List.length_pos_iff.2 h2
        omega
      · cases h
    · cases h

/-- The number that a string is the notation of. -/
def bitsV (l : List UInt8) : Option Int := match Lib.atoiAll l with
  | .ok v => if Lib.itoa v = l then some v else none
  | _ => none

theorem uint10_dig : ∀ (l : List UInt8) (acc u : Nat), digGo acc l = some u → u < 9223372036854775808 → Lib.parseUint10 acc l = .ok u
  | [], acc, u, h, _ => by rw [digGo] at h; cases h; rfl
  | c :: r, acc, u, h, hu => by
    rw [digGo] at h
    rw [Lib.parseUint10]
    by_cases hd : 48 ≤ c.toNat ∧ c.toNat ≤ 57
    · rw [if_pos hd] at h ⊢
      have h1 := digGo_acc h
      rw [if_neg (by omega), if_neg (by omega), Nat.mul_comm acc 10]
      exact uint10_dig r _ u h hu
    · rw [if_neg hd] at h; cases h

theorem itoa_nat (n : Nat) : Lib.itoa (n : Int) = oct8 (decN n) := by
  rw [Lib.itoa, if_neg (by omega), show ((n : Nat) : Int).toNat = n by omega, decN_digits]; rfl

theorem atoi_dec {n : Nat} (hn : n ≤ 128) : Lib.atoiAll (oct8 (decN n)) = .ok (n : Int) := by
  have hg := digGo_decN n
  cases hl : oct8 (decN n) with
  | nil =>
    have h := decN_nil n
    rw [oct8, List.map_eq_nil_iff] at hl
    exact absurd hl h
  | cons c r =>
    have hc : 48 ≤ c.toNat ∧ c.toNat ≤ 57 := digGo_all hg c (by rw [hl]; exact List.mem_cons_self ..)
    rw [hl] at hg
    rw [Lib.atoiAll_plain c r (by omega) (by omega), Lib.parseMag, if_neg (by simp), uint10_dig _ _ _ hg (by omega)]
    simp only [Lib.signless]
    rw [if_neg (by omega)]

theorem bitsV_dec {l : List UInt8} {n : Nat} (h : decR 128 l = some n) : bitsV l = some (n : Int) := by
  have hle := decR_le h
  have hl := decR_unique h
  rw [bitsV, hl, atoi_dec hle]
  show (if Lib.itoa (n : Int) = oct8 (decN n) then _ else _) = _
  rw [if_pos (itoa_nat n)]
theorem bitsV_inv {l : List UInt8} {v : Int} (h : bitsV l = some v) (h0 : 0 ≤ v) (h1 : v ≤ 128) : decR 128 l = some v.toNat := by
  unfold bitsV at h
  split at h
  · rename_i u hu
    split at h
    · rename_i he
      cases h
      rw [← he, show v = ((v.toNat : Nat) : Int) by omega, itoa_nat]
      exact decR_decN (by omega) (by omega)
    · cases h
  · cases h

end Go.Proofs.YtnadendhboiliaaGreat
namespace Go.Proofs.YtnadendhboiliaaGreat
open Go.ChangeShapes Go.WideShapes Go.ChangeAt Go.RowKit
set_option linter.unusedVariables false

/-- The parts of the notation of a prefix. -/
def cpX (l : List UInt8) : List UInt8 := (cutR l (cutc 47 l)).1
def cpY (l : List UInt8) : List UInt8 := (cutR l (cutc 47 l)).2.1
def cpN (l : List UInt8) : Int := (bitsV (cpY l)).getD 0
/-- Whether a string is the notation of a prefix, and that prefix as cells. -/
def cpB (l : List UInt8) : Bool := (parseS (cpX l)).isSome && (bitsV (cpY l)).isSome && validP (resB (parseS (cpX l))) (resX (parseS (cpX l))) (cpN l)
def cpT (l : List UInt8) : List Value := if cpB l then pfx (resB (parseS (cpX l))) (resX (parseS (cpX l))) (cpN l) else noP

theorem cutR_len (l : List UInt8) (c : UInt8) : (cutR l (cutc c l)).1.length ≤ l.length ∧ (cutR l (cutc c l)).2.1.length ≤ l.length := by
  induction l with
  | nil => exact ⟨Nat.le_refl _, Nat.le_refl _⟩
  | cons x r ih =>
    unfold cutc
    by_cases h : x = c
    · rw [if_pos h]; exact ⟨Nat.zero_le _, by show r.length ≤ (x :: r).length; simp⟩
    · rw [if_neg h]
      cases hc : cutc c r with
      | none => exact ⟨Nat.le_refl _, Nat.zero_le _⟩
      | some p =>
        rw [hc] at ih
        obtain ⟨p1, p2⟩ := p
        have h1 : p1.length ≤ r.length := ih.1
        have h2 : p2.length ≤ r.length := ih.2
        exact ⟨by show (x :: p1).length ≤ (x :: r).length; simp; exact h1, by show p2.length ≤ (x :: r).length; simp; omega⟩

end Go.Proofs.YtnadendhboiliaaGreat
namespace Go.Proofs.YtnadendhboiliaaGreat
open Go.ChangeShapes Go.WideShapes Go.ChangeAt Go.RowKit
set_option linter.unusedVariables false

/-- The number behind the slash, as the reference reads it. -/
theorem bits_valid {b : Bool} {xs : List Nat} (y : List UInt8) : ((bitsV y).isSome && validP b xs ((bitsV y).getD 0)) = validP b xs (decI (decR 128 y)) := by
  cases hd : decR 128 y with
  | some n =>
    rw [bitsV_dec hd]
    rfl
  | none =>
    have h1 : validP b xs (decI none) = false := by
      cases hv : validP b xs (decI none) with
      | false => rfl
      | true => exact absurd (validP_parts hv).2.1 (by decide)
    rw [h1]
    cases hb : bitsV y with
    | none => rfl
    | some v =>
      cases hv : validP b xs v with
      | false => simp [hv]
      | true =>
        have hp := validP_parts hv
        have := bitsV_inv hb hp.2.1 (Int.le_trans hp.2.2.1 (bitsOf_le b).2)
        rw [hd] at this
        cases this
theorem cp_two {l x y : List UInt8} (h : splitc 47 l = [x, y]) : cpX l = x ∧ cpY l = y := by
  rw [split_cut] at h
  cases hc : cutc 47 l with
  | none => rw [hc] at h; cases h
  | some p =>
    obtain ⟨a, b⟩ := p
    rw [hc] at h
    have h1 : a :: splitc 47 b = [x, y] := h
    have hx : a = x := (List.cons.inj h1).1
    have hy : splitc 47 b = [y] := (List.cons.inj h1).2
    have hb : b = y := by
      rw [split_cut] at hy
      cases hc2 : cutc 47 b with
      | none => rw [hc2] at hy; exact (List.cons.inj hy).1
      | some q =>
        obtain ⟨q1, q2⟩ := q
        rw [hc2] at hy
        exact absurd (List.cons.inj hy).2 (split_ne 47 q2)
    unfold cpX cpY
    rw [hc]
    exact ⟨hx, hb⟩
theorem cp_other {l : List UInt8} (h : (splitc 47 l).length ≠ 2) : cpB l = false := by
  unfold cpB
  rw [Bool.and_assoc]
  unfold cpN
  rw [bits_valid]
  cases hv : validP (resB (parseS (cpX l))) (resX (parseS (cpX l))) (decI (decR 128 (cpY l))) with
  | false => simp
  | true =>
    exfalso
    cases hd : decR 128 (cpY l) with
    | none => rw [hd] at hv; exact absurd (validP_parts hv).2.1 (by decide)
    | some n =>
      have hall := decR_all hd
      rw [split_cut] at h
      unfold cpY at hd hall
      cases hc : cutc 47 l with
      | none =>
        rw [hc] at hd
        cases hd
      | some p =>
        obtain ⟨a, b⟩ := p
        rw [hc] at h hall
        have hb : splitc 47 b = [b] := splitc_none fun x hx e => by
          have := hall x hx
          rw [e] at this
          exact absurd this.1 (by decide)
        exact h (by show (a :: splitc 47 b).length = 2; rw [hb]; rfl)
theorem cp_ref {l : List UInt8} : cpB l = ((parseS (cpX l)).isSome && validP (resB (parseS (cpX l))) (resX (parseS (cpX l))) (decI (decR 128 (cpY l)))) := by
  unfold cpB cpN
  rw [Bool.and_assoc, bits_valid]
theorem cp_num {l : List UInt8} (h : cpB l = true) : cpN l = decI (decR 128 (cpY l)) := by
  have h2 := h
  rw [cp_ref, Bool.and_eq_true] at h2
  have hp := validP_parts h2.2
  cases hd : decR 128 (cpY l) with
  | none => rw [hd] at hp; exact absurd hp.2.1 (by decide)
  | some n => unfold cpN; rw [bitsV_dec hd]; rfl

set_option maxHeartbeats 8000000 in
set_option maxRecDepth 100000 in
theorem cparse_ref (l : List UInt8) (hl : l.length < 2147483648) (w : World) :
    Calls Tryz.prog 26 #[.string (bs l)] w fun e w' => e = .returned (.tuple #[.agg (cpT l).toArray, .bool (cpB l)]) ∧ Fr No w w' := by
  obtain ⟨Z, hZ⟩ : ∃ Z : Array Value, noP.toArray = Z := ⟨_, rfl⟩
  obtain ⟨Y, hY⟩ : ∃ Y : Array Value, (adr false zeros).toArray = Y := ⟨_, rfl⟩
  have v40 := zero29
  have v30 := zero25
  rw [hZ] at v40
  rw [hY] at v30
  have hZs : Z.size = 18 := by rw [← hZ]; rfl
  have hYs : Y.size = 17 := by rw [← hY]; rfl
  have hZ1 : ∀ u ∈ Z.toList, u.oneCell' = true := by rw [← hZ]; exact pfx_one _ _ _
  have HSP : Hid (∀ w', Calls Tryz.prog 43 #[.string (bs l), .int .u8 47] w' fun e w'' => ∃ a cap, e = .returned (.slice a (splitc 47 l).length cap) ∧ w''.ownsRow w'.heap.size 9 1 (.slice a (splitc 47 l).length cap) (splitc 47 l).length (strs ((splitc 47 l).map bs)) ∧ Fr No w' w'') := fun w' => split_ref l 47 hl w'
  by_cases h2 : (splitc 47 l).length = 2
  · obtain ⟨x, y, hxy⟩ : ∃ x y, splitc 47 l = [x, y] := by
      match h : splitc 47 l with
      | [x, y] => exact ⟨x, y, rfl⟩
      | [] => rw [h] at h2; cases h2
      | [_] => rw [h] at h2; cases h2
      | _ :: _ :: _ :: _ => rw [h] at h2; simp at h2
    obtain ⟨hcx, hcy⟩ := cp_two hxy
    have hlen := cutR_len l 47
    rw [show (cutR l (cutc 47 l)).1 = x from hcx, show (cutR l (cutc 47 l)).2.1 = y from hcy] at hlen
    rw [hxy] at HSP
    have HSP2 : Hid (∀ w', Calls Tryz.prog 43 #[.string (bs l), .int .u8 47] w' fun e w'' => ∃ (g cap : Nat), e = .returned (.slice (some ⟨g, 0, none⟩) 2 cap) ∧ w''.cell? ⟨g, 0, none⟩ = some (.string (bs x)) ∧ w''.cell? ⟨g, 1, none⟩ = some (.string (bs y)) ∧ Fr No w' w'') := fun w' => by
      refine (HSP.out w').mono ?_
      rintro e w'' ⟨a, cap, rfl, hown, hf⟩
      obtain ⟨g, cap', hv, -⟩ := hown.form (by simp)
      cases hv
      have h0 := hown.cellAt 0 (by simp)
      have h1 := hown.cellAt 1 (by simp)
      exact ⟨g, cap, rfl, h0, h1, hf⟩
    have HPA : Hid (∀ w', Calls Tryz.prog 44 #[.string (bs x)] w' fun e w'' => e = .returned (.tuple #[.agg (adr (resB (parseS x)) (resX (parseS x))).toArray, .bool (parseS x).isSome]) ∧ Fr No w' w'') := fun w' => parse_ref x (Nat.lt_of_le_of_lt hlen.1 hl) w'
    have HPD : Hid (∀ w', Calls Tryz.prog 45 #[.string (bs y), .int .i64 128] w' fun e w'' => e = .returned (.int .i64 (decI (decR 128 y))) ∧ w'' = w') := fun w' => pdec_ref y 128 w'
    have hbx := resX_bytes x
    have HVP : Hid (∀ w', Calls Tryz.prog 46 #[.agg (pfx (resB (parseS x)) (resX (parseS x)) (decI (decR 128 y))).toArray] w' fun e w'' => e = .returned (.bool (validP (resB (parseS x)) (resX (parseS x)) (decI (decR 128 y)))) ∧ Fr No w' w'') := fun w' => validp_ref _ _ _ hbx w'
    have hR1 : cpB l = ((parseS x).isSome && validP (resB (parseS x)) (resX (parseS x)) (decI (decR 128 y))) := by rw [cp_ref, hcx, hcy]
    have hR2 : cpT l = if (parseS x).isSome && validP (resB (parseS x)) (resX (parseS x)) (decI (decR 128 y)) then pfx (resB (parseS x)) (resX (parseS x)) (decI (decR 128 y)) else noP := by
      unfold cpT
      rw [← hR1]
      by_cases h : cpB l = true
      · rw [if_pos h, if_pos h, cp_num h, hcx, hcy]
      · rw [if_neg h, if_neg h]
    rw [hR1, hR2]
    have hfold := put_pfx (resB (parseS x)) (resX (parseS x)) (decI (decR 128 y)) hbx.1
    have hT18 : (pfx (resB (parseS x)) (resX (parseS x)) (decI (decR 128 y))).toArray.size = 18 := by rw [List.size_toArray]; exact pfx_length hbx.1
    have hT1 : ∀ u ∈ (pfx (resB (parseS x)) (resX (parseS x)) (decI (decR 128 y))).toArray.toList, u.oneCell' = true := by intro u hu; exact pfx_one _ _ _ u (by simpa using hu)
    have hA17 : (adr (resB (parseS x)) (resX (parseS x))).toArray.size = 17 := by rw [List.size_toArray, adr_length, hbx.1]
    have hA1 : ∀ u ∈ (adr (resB (parseS x)) (resX (parseS x))).toArray.toList, u.oneCell' = true := by intro u hu; exact adr_one _ _ u (by simpa using hu)
    rw [hZ] at hfold
    clear hbx hlen hR1 hR2 hcx hcy hxy h2 HSP
    generalize validP (resB (parseS x)) (resX (parseS x)) (decI (decR 128 y)) = vv at HVP ⊢
    generalize pfx (resB (parseS x)) (resX (parseS x)) (decI (decR 128 y)) = TL at HVP hfold hT18 hT1 ⊢
    obtain ⟨T, hT⟩ : ∃ T : Array Value, TL.toArray = T := ⟨_, rfl⟩
    rw [hT] at HVP hfold hT18 hT1
    generalize (adr (resB (parseS x)) (resX (parseS x))).toArray = A at HPA hfold hA17 hA1
    generalize decI (decR 128 y) = n at HPD hfold
    generalize (parseS x).isSome = ok1 at HPA ⊢
    generalize bs x = sx at HSP2 HPA
    generalize bs y = sy at HSP2 HPD
    generalize bs l = s at HSP2 ⊢
    obtain ⟨M, hM⟩ : ∃ M, Array.foldl (fun (cs : Array Value) (x : Value × Nat) => cs.setIfInBounds x.snd x.fst) Z A.zipIdx 0 17 = M := ⟨_, rfl⟩
    rw [hM] at hfold
    have hMs : M.size = 18 := by have h := hT18; rw [← hfold, Array.size_setIfInBounds] at h; exact h
    have HZ := Lib.hid (And.intro hZ (And.intro hZ1 (And.intro hT (And.intro hT1 (And.intro hA1 (And.intro hT18 hZs))))))
    clear hl hZ hY hZ1 hT hT1 hA1
    cases ok1
    · go_enter Tryz.func26, Tryz.ntmps26
      have t3 := Tryz.underlying3
      have u3 := Tryz.runUnderlying3
      have g3 := Tryz.isAgg3
      have z3 := Tryz.sizeOf3
      have t4 := Tryz.underlying4
      have u4 := Tryz.runUnderlying4
      have g4 := Tryz.isAgg4
      have z4 := Tryz.sizeOf4
      have t5 := Tryz.underlying5
      have u5 := Tryz.runUnderlying5
      have g5 := Tryz.isAgg5
      have z5 := Tryz.sizeOf5
      have t9 := Tryz.underlying9
      have u9 := Tryz.runUnderlying9
      have g9 := Tryz.isAgg9
      have z9 := Tryz.sizeOf9
      have t25 := Tryz.underlying25
      have u25 := Tryz.runUnderlying25
      have g25 := Tryz.isAgg25
      have z25 := Tryz.sizeOf25
      have t29 := Tryz.underlying29
      have u29 := Tryz.runUnderlying29
      have g29 := Tryz.isAgg29
      have z29 := Tryz.sizeOf29
      have t82 := Tryz.underlying82
      have u82 := Tryz.runUnderlying82
      have g82 := Tryz.isAgg82
      have z82 := Tryz.sizeOf82
      have c43 := Tryz.call43
      have c44 := Tryz.call44
      have c45 := Tryz.call45
      have c46 := Tryz.call46
      have mixed : Tryz.prog.follows .mixedOrders = true := by kernel_rfl
      obtain ⟨k30, hk30⟩ : ∃ k, k = 17 := ⟨_, rfl⟩
      rw [← hk30] at z25
      have nk30 : ¬ k30 = 0 := by omega
      have HK25 := Lib.hid hk30
      obtain ⟨k40, hk40⟩ : ∃ k, k = 18 := ⟨_, rfl⟩
      rw [← hk40] at z29
      have nk40 : ¬ k40 = 0 := by omega
      have HK29 := Lib.hid hk40
      have hP : Tryz.prog = PD := rfl
      rw [hP] at t3 u3 g3 z3 t4 u4 g4 z4 t5 u5 g5 z5 t9 u9 g9 z9 t25 u25 g25 z25 t29 u29 g29 z29 t82 u82 g82 z82 c43 c44 c45 c46 mixed v30 v40 ⊢
      have HP := Lib.hid hP.symm
      clear hP hk30 hk40
      have hAk : A.size = k30 := by rw [HK25.out]; exact hA17
      have hYk : Y.size = k30 := by rw [HK25.out]; exact hYs
      have hZk : Z.size = k40 := by rw [HK29.out]; exact hZs
      have hTk : T.size = k40 := by rw [HK29.out]; exact hT18
      have hMk : M.size = k40 := by rw [HK29.out]; exact hMs
      rw [← HK25.out] at hM
      have i3 : k30 ≤ k40 := by have := HK25.out; have := HK29.out; omega
      have i4 : 17 < k40 := by have := HK29.out; omega
      clear hA17 hYs hZs hT18 hMs
      have hb0 := heap_alloc_new w (.cells Z 29)
      have F0 : Fr No w (w.alloc (.cells Z 29)) := Fr.alloc _ _ _
      obtain ⟨w0, hw0⟩ : ∃ w0, w.alloc (.cells Z 29) = w0 := ⟨_, rfl⟩
      rw [hw0] at hb0 F0
      go_wp2_with (first | (go_at_call 43; refine (at_prog HP.out (HSP2.out _)).mono ?_; rintro e w1 ⟨g, cap, rfl, c0, c1, hf1⟩) | (go_at_call 44; refine (at_prog HP.out (HPA.out _)).mono ?_; rintro e w2 ⟨rfl, hf2⟩; obtain ⟨y1, hst1, hyb1, hyf1⟩ := store_all (P := PD) A.toList (heap_alloc_new w2 (.cells Y 25)) (by rw [Array.length_toList, hAk, hYk]) HZ.out.2.2.2.2.1; have F1a : Fr No w1 y1 := (hf2.trans (Fr.alloc No w2 (.cells Y 25))).ofNew hyf1 (fun k hk => .inr (by rw [hk]; exact hf2.size)); have F1 : Fr No w0 y1 := hf1.trans F1a; have d1 := F1a.cell c1; have la : Sem.run PD (loadCellsFrom ⟨w2.heap.size, 0, none⟩ 0 k30 #[]) y1 = .ok A y1 := load_block hyb1 hAk (fun j v hv => by simpa using hv); obtain ⟨y2, hst2, hyb2, hyf2⟩ := store_all (P := PD) T.toList (heap_alloc_new y1 (.cells Z 29)) (by rw [Array.length_toList, hTk, hZk]) HZ.out.2.2.2.1; have F2 : Fr No w0 y2 := (F1.trans (Fr.alloc No y1 (.cells Z 29))).ofNew hyf2 (fun k hk => .inr (by rw [hk]; exact F1.size)); have lt : Sem.run PD (loadCellsFrom ⟨y1.heap.size, 0, none⟩ 0 k40 #[]) y2 = .ok T y2 := load_block hyb2 hTk (fun j v hv => by simpa using hv); obtain ⟨y3, hst3, hyb3, hyf3⟩ := store_all (P := PD) Z.toList (F2.keep hb0) (by rw [Array.length_toList]) HZ.out.2.1) | (go_at_call 45; refine (at_prog HP.out (HPD.out _)).mono ?_; rintro e w3 ⟨rfl, hw3⟩; replace hw3 := hw3.symm; subst hw3) | fail)
      refine bodyPost_ret_by (results_agg_tmp rfl _ (b := w.heap.size) (k := 18) (cs := Z) (Tryz.isAgg29 _) (Tryz.sizeOf29 _) rfl (load_block hyb3 HZ.out.2.2.2.2.2.2 (fun j v hv => by simpa using hv))) rfl ?_
      exact ⟨by rw [← HZ.out.1]; rfl, (F0.trans F2).ofNew hyf3 fun k hk => .inr (by rw [hk]; exact Nat.le_refl _)⟩
    · cases vv
      · go_enter Tryz.func26, Tryz.ntmps26
        have t3 := Tryz.underlying3
        have u3 := Tryz.runUnderlying3
        have g3 := Tryz.isAgg3
        have z3 := Tryz.sizeOf3
        have t4 := Tryz.underlying4
        have u4 := Tryz.runUnderlying4
        have g4 := Tryz.isAgg4
        have z4 := Tryz.sizeOf4
        have t5 := Tryz.underlying5
        have u5 := Tryz.runUnderlying5
        have g5 := Tryz.isAgg5
        have z5 := Tryz.sizeOf5
        have t9 := Tryz.underlying9
        have u9 := Tryz.runUnderlying9
        have g9 := Tryz.isAgg9
        have z9 := Tryz.sizeOf9
        have t25 := Tryz.underlying25
        have u25 := Tryz.runUnderlying25
        have g25 := Tryz.isAgg25
        have z25 := Tryz.sizeOf25
        have t29 := Tryz.underlying29
        have u29 := Tryz.runUnderlying29
        have g29 := Tryz.isAgg29
        have z29 := Tryz.sizeOf29
        have t82 := Tryz.underlying82
        have u82 := Tryz.runUnderlying82
        have g82 := Tryz.isAgg82
        have z82 := Tryz.sizeOf82
        have c43 := Tryz.call43
        have c44 := Tryz.call44
        have c45 := Tryz.call45
        have c46 := Tryz.call46
        have mixed : Tryz.prog.follows .mixedOrders = true := by kernel_rfl
        obtain ⟨k30, hk30⟩ : ∃ k, k = 17 := ⟨_, rfl⟩
        rw [← hk30] at z25
        have nk30 : ¬ k30 = 0 := by omega
        have HK25 := Lib.hid hk30
        obtain ⟨k40, hk40⟩ : ∃ k, k = 18 := ⟨_, rfl⟩
        rw [← hk40] at z29
        have nk40 : ¬ k40 = 0 := by omega
        have HK29 := Lib.hid hk40
        have hP : Tryz.prog = PD := rfl
        rw [hP] at t3 u3 g3 z3 t4 u4 g4 z4 t5 u5 g5 z5 t9 u9 g9 z9 t25 u25 g25 z25 t29 u29 g29 z29 t82 u82 g82 z82 c43 c44 c45 c46 mixed v30 v40 ⊢
        have HP := Lib.hid hP.symm
        clear hP hk30 hk40
        have hAk : A.size = k30 := by rw [HK25.out]; exact hA17
        have hYk : Y.size = k30 := by rw [HK25.out]; exact hYs
        have hZk : Z.size = k40 := by rw [HK29.out]; exact hZs
        have hTk : T.size = k40 := by rw [HK29.out]; exact hT18
        have hMk : M.size = k40 := by rw [HK29.out]; exact hMs
        rw [← HK25.out] at hM
        have i3 : k30 ≤ k40 := by have := HK25.out; have := HK29.out; omega
        have i4 : 17 < k40 := by have := HK29.out; omega
        clear hA17 hYs hZs hT18 hMs
        have hb0 := heap_alloc_new w (.cells Z 29)
        have F0 : Fr No w (w.alloc (.cells Z 29)) := Fr.alloc _ _ _
        obtain ⟨w0, hw0⟩ : ∃ w0, w.alloc (.cells Z 29) = w0 := ⟨_, rfl⟩
        rw [hw0] at hb0 F0
        go_wp2_with (first | (go_at_call 43; refine (at_prog HP.out (HSP2.out _)).mono ?_; rintro e w1 ⟨g, cap, rfl, c0, c1, hf1⟩) | (go_at_call 44; refine (at_prog HP.out (HPA.out _)).mono ?_; rintro e w2 ⟨rfl, hf2⟩; obtain ⟨y1, hst1, hyb1, hyf1⟩ := store_all (P := PD) A.toList (heap_alloc_new w2 (.cells Y 25)) (by rw [Array.length_toList, hAk, hYk]) HZ.out.2.2.2.2.1; have F1a : Fr No w1 y1 := (hf2.trans (Fr.alloc No w2 (.cells Y 25))).ofNew hyf1 (fun k hk => .inr (by rw [hk]; exact hf2.size)); have F1 : Fr No w0 y1 := hf1.trans F1a; have d1 := F1a.cell c1; have la : Sem.run PD (loadCellsFrom ⟨w2.heap.size, 0, none⟩ 0 k30 #[]) y1 = .ok A y1 := load_block hyb1 hAk (fun j v hv => by simpa using hv); obtain ⟨y2, hst2, hyb2, hyf2⟩ := store_all (P := PD) T.toList (heap_alloc_new y1 (.cells Z 29)) (by rw [Array.length_toList, hTk, hZk]) HZ.out.2.2.2.1; have F2 : Fr No w0 y2 := (F1.trans (Fr.alloc No y1 (.cells Z 29))).ofNew hyf2 (fun k hk => .inr (by rw [hk]; exact F1.size)); have lt : Sem.run PD (loadCellsFrom ⟨y1.heap.size, 0, none⟩ 0 k40 #[]) y2 = .ok T y2 := load_block hyb2 hTk (fun j v hv => by simpa using hv)) | (go_at_call 45; refine (at_prog HP.out (HPD.out _)).mono ?_; rintro e w3 ⟨rfl, hw3⟩; replace hw3 := hw3.symm; subst hw3) | (go_at_call 46; refine (at_prog HP.out (HVP.out _)).mono ?_; rintro e w4 ⟨rfl, hf4⟩; obtain ⟨y3, hst3, hyb3, hyf3⟩ := store_all (P := PD) Z.toList ((F2.trans hf4).keep hb0) (by rw [Array.length_toList]) HZ.out.2.1) | fail)
        refine bodyPost_ret_by (results_agg_tmp rfl _ (b := w.heap.size) (k := 18) (cs := Z) (Tryz.isAgg29 _) (Tryz.sizeOf29 _) rfl (load_block hyb3 HZ.out.2.2.2.2.2.2 (fun j v hv => by simpa using hv))) rfl ?_
        exact ⟨by rw [← HZ.out.1]; rfl, (F0.trans (F2.trans hf4)).ofNew hyf3 fun k hk => .inr (by rw [hk]; exact Nat.le_refl _)⟩
      · go_enter Tryz.func26, Tryz.ntmps26
        have t3 := Tryz.underlying3
        have u3 := Tryz.runUnderlying3
        have g3 := Tryz.isAgg3
        have z3 := Tryz.sizeOf3
        have t4 := Tryz.underlying4
        have u4 := Tryz.runUnderlying4
        have g4 := Tryz.isAgg4
        have z4 := Tryz.sizeOf4
        have t5 := Tryz.underlying5
        have u5 := Tryz.runUnderlying5
        have g5 := Tryz.isAgg5
        have z5 := Tryz.sizeOf5
        have t9 := Tryz.underlying9
        have u9 := Tryz.runUnderlying9
        have g9 := Tryz.isAgg9
        have z9 := Tryz.sizeOf9
        have t25 := Tryz.underlying25
        have u25 := Tryz.runUnderlying25
        have g25 := Tryz.isAgg25
        have z25 := Tryz.sizeOf25
        have t29 := Tryz.underlying29
        have u29 := Tryz.runUnderlying29
        have g29 := Tryz.isAgg29
        have z29 := Tryz.sizeOf29
        have t82 := Tryz.underlying82
        have u82 := Tryz.runUnderlying82
        have g82 := Tryz.isAgg82
        have z82 := Tryz.sizeOf82
        have c43 := Tryz.call43
        have c44 := Tryz.call44
        have c45 := Tryz.call45
        have c46 := Tryz.call46
        have mixed : Tryz.prog.follows .mixedOrders = true := by kernel_rfl
        obtain ⟨k30, hk30⟩ : ∃ k, k = 17 := ⟨_, rfl⟩
        rw [← hk30] at z25
        have nk30 : ¬ k30 = 0 := by omega
        have HK25 := Lib.hid hk30
        obtain ⟨k40, hk40⟩ : ∃ k, k = 18 := ⟨_, rfl⟩
        rw [← hk40] at z29
        have nk40 : ¬ k40 = 0 := by omega
        have HK29 := Lib.hid hk40
        have hP : Tryz.prog = PD := rfl
        rw [hP] at t3 u3 g3 z3 t4 u4 g4 z4 t5 u5 g5 z5 t9 u9 g9 z9 t25 u25 g25 z25 t29 u29 g29 z29 t82 u82 g82 z82 c43 c44 c45 c46 mixed v30 v40 ⊢
        have HP := Lib.hid hP.symm
        clear hP hk30 hk40
        have hAk : A.size = k30 := by rw [HK25.out]; exact hA17
        have hYk : Y.size = k30 := by rw [HK25.out]; exact hYs
        have hZk : Z.size = k40 := by rw [HK29.out]; exact hZs
        have hTk : T.size = k40 := by rw [HK29.out]; exact hT18
        have hMk : M.size = k40 := by rw [HK29.out]; exact hMs
        rw [← HK25.out] at hM
        have i3 : k30 ≤ k40 := by have := HK25.out; have := HK29.out; omega
        have i4 : 17 < k40 := by have := HK29.out; omega
        clear hA17 hYs hZs hT18 hMs
        have hb0 := heap_alloc_new w (.cells Z 29)
        have F0 : Fr No w (w.alloc (.cells Z 29)) := Fr.alloc _ _ _
        obtain ⟨w0, hw0⟩ : ∃ w0, w.alloc (.cells Z 29) = w0 := ⟨_, rfl⟩
        rw [hw0] at hb0 F0
        go_wp2_with (first | (go_at_call 43; refine (at_prog HP.out (HSP2.out _)).mono ?_; rintro e w1 ⟨g, cap, rfl, c0, c1, hf1⟩) | (go_at_call 44; refine (at_prog HP.out (HPA.out _)).mono ?_; rintro e w2 ⟨rfl, hf2⟩; obtain ⟨y1, hst1, hyb1, hyf1⟩ := store_all (P := PD) A.toList (heap_alloc_new w2 (.cells Y 25)) (by rw [Array.length_toList, hAk, hYk]) HZ.out.2.2.2.2.1; have F1a : Fr No w1 y1 := (hf2.trans (Fr.alloc No w2 (.cells Y 25))).ofNew hyf1 (fun k hk => .inr (by rw [hk]; exact hf2.size)); have F1 : Fr No w0 y1 := hf1.trans F1a; have d1 := F1a.cell c1; have la : Sem.run PD (loadCellsFrom ⟨w2.heap.size, 0, none⟩ 0 k30 #[]) y1 = .ok A y1 := load_block hyb1 hAk (fun j v hv => by simpa using hv); obtain ⟨y2, hst2, hyb2, hyf2⟩ := store_all (P := PD) T.toList (heap_alloc_new y1 (.cells Z 29)) (by rw [Array.length_toList, hTk, hZk]) HZ.out.2.2.2.1; have F2 : Fr No w0 y2 := (F1.trans (Fr.alloc No y1 (.cells Z 29))).ofNew hyf2 (fun k hk => .inr (by rw [hk]; exact F1.size)); have lt : Sem.run PD (loadCellsFrom ⟨y1.heap.size, 0, none⟩ 0 k40 #[]) y2 = .ok T y2 := load_block hyb2 hTk (fun j v hv => by simpa using hv)) | (go_at_call 45; refine (at_prog HP.out (HPD.out _)).mono ?_; rintro e w3 ⟨rfl, hw3⟩; replace hw3 := hw3.symm; subst hw3) | (go_at_call 46; refine (at_prog HP.out (HVP.out _)).mono ?_; rintro e w4 ⟨rfl, hf4⟩; have lt4 : Sem.run PD (loadCellsFrom ⟨y1.heap.size, 0, none⟩ 0 k40 #[]) w4 = .ok T w4 := load_block (hf4.keep hyb2) hTk (fun j v hv => by simpa using hv); obtain ⟨y3, hst3, hyb3, hyf3⟩ := store_all (P := PD) T.toList ((F2.trans hf4).keep hb0) (by rw [Array.length_toList, hTk, hZk]) HZ.out.2.2.2.1) | fail)
        refine bodyPost_ret_by (results_agg_tmp rfl _ (b := w.heap.size) (k := 18) (cs := T) (Tryz.isAgg29 _) (Tryz.sizeOf29 _) rfl (load_block hyb3 HZ.out.2.2.2.2.2.1 (fun j v hv => by simpa using hv))) rfl ?_
        exact ⟨by rw [← HZ.out.2.2.1]; rfl, (F0.trans (F2.trans hf4)).ofNew hyf3 fun k hk => .inr (by rw [hk]; exact Nat.le_refl _)⟩
  · have hR1 := cp_other h2
    have hR2 : cpT l = noP := by unfold cpT; rw [if_neg (by rw [hR1]; simp)]
    rw [hR1, hR2]
    have HZ := Lib.hid (And.intro hZ (And.intro hZ1 hZs))
    have hn2 : ¬ ((splitc 47 l).length : Int) = 2 := by omega
    have HSP3 : Hid (∀ w', Calls Tryz.prog 43 #[.string (bs l), .int .u8 47] w' fun e w'' => ∃ a cap, e = .returned (.slice a (splitc 47 l).length cap) ∧ Fr No w' w'') := fun w' => (HSP.out w').mono (by rintro e w'' ⟨a, cap, h, -, hf⟩; exact ⟨a, cap, h, hf⟩)
    generalize (splitc 47 l).length = n at hn2 HSP3
    generalize bs l = s at HSP3 ⊢
    clear hZ hZ1 hY hl h2 hR1 hR2 HSP
    go_enter Tryz.func26, Tryz.ntmps26
    have t3 := Tryz.underlying3
    have u3 := Tryz.runUnderlying3
    have g3 := Tryz.isAgg3
    have z3 := Tryz.sizeOf3
    have t4 := Tryz.underlying4
    have u4 := Tryz.runUnderlying4
    have g4 := Tryz.isAgg4
    have z4 := Tryz.sizeOf4
    have t5 := Tryz.underlying5
    have u5 := Tryz.runUnderlying5
    have g5 := Tryz.isAgg5
    have z5 := Tryz.sizeOf5
    have t9 := Tryz.underlying9
    have u9 := Tryz.runUnderlying9
    have g9 := Tryz.isAgg9
    have z9 := Tryz.sizeOf9
    have t25 := Tryz.underlying25
    have u25 := Tryz.runUnderlying25
    have g25 := Tryz.isAgg25
    have z25 := Tryz.sizeOf25
    have t29 := Tryz.underlying29
    have u29 := Tryz.runUnderlying29
    have g29 := Tryz.isAgg29
    have z29 := Tryz.sizeOf29
    have t82 := Tryz.underlying82
    have u82 := Tryz.runUnderlying82
    have g82 := Tryz.isAgg82
    have z82 := Tryz.sizeOf82
    have c43 := Tryz.call43
    have c44 := Tryz.call44
    have c45 := Tryz.call45
    have c46 := Tryz.call46
    have mixed : Tryz.prog.follows .mixedOrders = true := by kernel_rfl
    obtain ⟨k30, hk30⟩ : ∃ k, k = 17 := ⟨_, rfl⟩
    rw [← hk30] at z25
    have nk30 : ¬ k30 = 0 := by omega
    have HK25 := Lib.hid hk30
    obtain ⟨k40, hk40⟩ : ∃ k, k = 18 := ⟨_, rfl⟩
    rw [← hk40] at z29
    have nk40 : ¬ k40 = 0 := by omega
    have HK29 := Lib.hid hk40
    have hP : Tryz.prog = PD := rfl
    rw [hP] at t3 u3 g3 z3 t4 u4 g4 z4 t5 u5 g5 z5 t9 u9 g9 z9 t25 u25 g25 z25 t29 u29 g29 z29 t82 u82 g82 z82 c43 c44 c45 c46 mixed v30 v40 ⊢
    have HP := Lib.hid hP.symm
    clear hP hk30 hk40
    have hZk : Z.size = k40 := by rw [HK29.out]; exact hZs
    clear hYs hZs
    have hb0 := heap_alloc_new w (.cells Z 29)
    have F0 : Fr No w (w.alloc (.cells Z 29)) := Fr.alloc _ _ _
    obtain ⟨w0, hw0⟩ : ∃ w0, w.alloc (.cells Z 29) = w0 := ⟨_, rfl⟩
    rw [hw0] at hb0 F0
    go_wp2_with (first | (go_at_call 43; refine (at_prog HP.out (HSP3.out _)).mono ?_; rintro e w1 ⟨a, cap, rfl, hf1⟩; obtain ⟨y3, hst3, hyb3, hyf3⟩ := store_all (P := PD) Z.toList (hf1.keep hb0) (by rw [Array.length_toList]) HZ.out.2.1) | fail)
    refine bodyPost_ret_by (results_agg_tmp rfl _ (b := w.heap.size) (k := 18) (cs := Z) (Tryz.isAgg29 _) (Tryz.sizeOf29 _) rfl (load_block hyb3 HZ.out.2.2 (fun j v hv => by simpa using hv))) rfl ?_
    exact ⟨by rw [← HZ.out.1]; rfl, (F0.trans hf1).ofNew hyf3 fun k hk => .inr (by rw [hk]; exact Nat.le_refl _)⟩
end Go.Proofs.YtnadendhboiliaaGreat
