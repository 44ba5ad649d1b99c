/-
  THE WALK OF CidrTextForms, over this seat's translation: the call returns true.
  Conditions: the argument is a prefix; the string is shorter than 2 to the 31; the package variables are as Gl says.
-/
import Derived.Test.YtmhnailcmlomiaaGreatDoorDd
import Derived.Test.YtmhnailcmlomiaaGreatDoorFa
namespace Go.Proofs.YtmhnailcmlomiaaGreatDoor
open Go.ChangeShapes Go.WideShapes Go.ChangeAt Go.RowKit
set_option linter.unusedVariables false

theorem joinN_in (sep : Nat) : ∀ (xs : List (List Nat)) (x : Nat), x ∈ joinN sep xs → x = sep ∨ ∃ y ∈ xs, x ∈ y
  | [], x, h => by cases h
  | [y], x, h => .inr ⟨y, by simp, h⟩
  | y :: z :: r, x, h => by
    rw [joinN] at h
    rcases List.mem_append.1 h with h | h
    · exact .inr ⟨y, by simp, h⟩
    · rcases List.mem_cons.1 h with h | h
      · exact .inl h
      · rcases joinN_in sep (z :: r) x h with h | ⟨q, hq, hx⟩
        · exact .inl h
        · exact .inr ⟨q, List.mem_cons_of_mem _ hq, hx⟩
theorem hexN_low : ∀ (n : Nat), ∀ x ∈ hexN n, 48 ≤ x ∧ x < 256 := by
  intro n
  induction n using Nat.strongRecOn with
  | ind n ih =>
    have hd : ∀ d, d < 16 → 48 ≤ hexD d ∧ hexD d < 256 := fun d h => by unfold hexD; split <;> omega
    by_cases h : n < 16
    · rw [hexN_small h]; intro x hx; obtain rfl := List.mem_singleton.1 hx; exact hd n h
    · rw [hexN_big (by omega)]
      intro x hx
      rcases List.mem_append.1 hx with hx | hx
      · exact ih (n / 16) (by omega) x hx
      · obtain rfl := List.mem_singleton.1 hx; exact hd _ (by omega)
theorem hexs_no (gs : List Nat) : ∀ x ∈ joinN 58 (gs.map hexN), x ≠ 47 ∧ x < 256 := by
  intro x hx
  rcases joinN_in 58 _ x hx with h | ⟨y, hy, h⟩
  · omega
  · obtain ⟨g, _, rfl⟩ := List.mem_map.1 hy
    have := hexN_low g x h
    omega
/-- No slash stands in the notation of an address. -/
theorem fmtA_no (b : Bool) (xs : List Nat) : ∀ x ∈ fmtA b xs, x ≠ 47 ∧ x < 256 := by
  intro x hx
  unfold fmtA at hx
  split at hx
  · split at hx
    · unfold fmt6 at hx
      split at hx
      · exact hexs_no _ x hx
      · rcases List.mem_append.1 hx with hx | hx
        · rcases List.mem_append.1 hx with hx | hx
          · exact hexs_no _ x hx
          · simp at hx; omega
        · exact hexs_no _ x hx
    · unfold fmt4 at hx
      rcases joinN_in 46 _ x hx with h | ⟨y, hy, h⟩
      · omega
      · obtain ⟨g, _, rfl⟩ := List.mem_map.1 hy
        have := decN_digit g x h
        omega
  · cases hx
theorem cp_fmt (b : Bool) (xs : List Nat) (r : List UInt8) : cpX (oct8 (fmtA b xs) ++ 47 :: r) = oct8 (fmtA b xs) ∧ cpY (oct8 (fmtA b xs) ++ 47 :: r) = r := by
  have h : cutc 47 (oct8 (fmtA b xs) ++ 47 :: r) = some (oct8 (fmtA b xs), r) := cutc_at (oct8_ne (c := 47) (by omega) (fmtA_no b xs))
  unfold cpX cpY
  rw [h]
  exact ⟨rfl, rfl⟩
/-- Parse of Format. -/
theorem cp_round {b : Bool} {xs : List Nat} {n : Int} (hx : Bytes xs) (h : validP b xs n = true) : cpB (fP b xs n) = true ∧ cpT (fP b xs n) = pfx b xs n := by
  have hp := validP_parts h
  have hn : n ≤ 128 := Int.le_trans hp.2.2.1 (bitsOf_le b).2
  obtain ⟨k, rfl⟩ : ∃ k : Nat, n = k := ⟨n.toNat, by have := hp.2.1; omega⟩
  have hd : decR 128 (oct8 (decN k)) = some k := decR_decN (by omega) (by omega)
  rw [fP, if_pos h, show (k : Int).toNat = k from rfl]
  obtain ⟨h1, h2⟩ := cp_fmt b xs (oct8 (decN k))
  have h3 := parse_fmt hx hp.1
  have hb : cpB (oct8 (fmtA b xs) ++ 47 :: oct8 (decN k)) = true := by
    rw [cp_ref, h1, h2, h3, hd]
    show (true && validP b xs k) = true
    rw [h]; rfl
  refine ⟨hb, ?_⟩
  unfold cpT
  rw [if_pos hb, cp_num hb, h1, h2, h3, hd]
  rfl
/-- A leading zero is not read. -/
theorem cp_nought (b : Bool) (xs : List Nat) (k : Nat) : cpB (oct8 (fmtA b xs) ++ 47 :: 48 :: oct8 (decN k)) = false := by
  obtain ⟨h1, h2⟩ := cp_fmt b xs (48 :: oct8 (decN k))
  have hl : 1 < (48 :: oct8 (decN k)).length := by
    rw [List.length_cons, oct8_length]
    have := List.length_pos_iff.2 (decN_nil k)
    omega
  have hd : decR 128 (48 :: oct8 (decN k)) = none := by rw [decR, if_pos (.inr (.inr ⟨rfl, hl⟩))]
  rw [cp_ref, h2, hd]
  cases hv : validP (resB (parseS (cpX (oct8 (fmtA b xs) ++ 47 :: 48 :: oct8 (decN k))))) (resX (parseS (cpX (oct8 (fmtA b xs) ++ 47 :: 48 :: oct8 (decN k))))) (decI none) with
  | false => simp
  | true => exact absurd (validP_parts hv).2.1 (by decide)
/-- What the parsers give is a prefix. -/
theorem cpT_pfx (l : List UInt8) : ∃ b xs n, cpT l = pfx b xs n ∧ Bytes xs := by
  unfold cpT
  split
  · exact ⟨_, _, _, rfl, resX_bytes _⟩
  · exact ⟨false, zeros, 0, rfl, zeros_bytes⟩
end Go.Proofs.YtmhnailcmlomiaaGreatDoor

namespace Go.Proofs.YtmhnailcmlomiaaGreatDoor
open Go.ChangeShapes Go.WideShapes Go.ChangeAt Go.RowKit
set_option linter.unusedVariables false

theorem cpT_ok (l : List UInt8) : (cpT l).toArray.size = 18 ∧ (∀ u ∈ (cpT l).toArray.toList, u.oneCell' = true) ∧ ∀ w, Sem.run Tryz.prog (Op.equalIn 10000 40 (.agg (cpT l).toArray) (.agg (cpT l).toArray)) w = .ok true w := by
  obtain ⟨b, xs, n, h, hx⟩ := cpT_pfx l
  rw [h]
  exact ⟨pfx_size hx, pfx_ones _ _ _, fun w => by rw [pfx_eq n n hx hx w, decide_eq_true ⟨⟨rfl, rfl⟩, rfl⟩]⟩
theorem fP_len {b : Bool} {xs : List Nat} {n : Int} (hx : Bytes xs) : (fP b xs n).length ≤ 300 := by
  unfold fP
  split
  · rename_i h
    have hp := validP_parts h
    have hn : n ≤ 128 := Int.le_trans hp.2.2.1 (bitsOf_le b).2
    have h1 := fmtA_length (b := b) hx
    have h2 := decN_len n.toNat
    rw [List.length_append, oct8_length, List.length_cons, oct8_length]
    omega
  · simp

set_option maxHeartbeats 32000000 in
set_option maxRecDepth 100000 in
theorem texts_law (b : Bool) (xs : List Nat) (n : Int) (l : List UInt8) (v : Int) (hx : Bytes xs) (hl : l.length < 2147483648) (w : World) (hG : Gl w) :
    Calls Tryz.prog 7 #[.agg (pfx b xs n).toArray, .string (bs l), .int .i64 v] w fun e w' => e = .returned (.bool true) ∧ Fr No w w' := by
  obtain ⟨Z, hZ⟩ : ∃ Z : Array Value, noP.toArray = Z := ⟨_, rfl⟩
  have v40 := zero40
  rw [hZ] at v40
  have hZs : Z.size = 18 := by rw [← hZ]; rfl
  have G1 : Hid (∀ w', Calls Tryz.prog 18 #[.agg (pfx b xs n).toArray] w' (GenP w')) := fun w' => prefix_gen b xs n hx w'
  have A1 : Hid (∀ w', Gl w' → Calls Tryz.prog 29 #[.agg (pfx b xs n).toArray] w' fun e w'' => e = .returned (.string (bs (fP b xs n))) ∧ Fr No w' w'') := fun w' h => cformat_any b xs n hx w' h
  have A2 : Hid (∀ w', Calls Tryz.prog 30 #[.agg (pfx b xs n).toArray] w' fun e w'' => e = .returned (.string (bs (fP b xs n))) ∧ Fr No w' w'') := fun w' => cformat_ref b xs n hx w'
  have S1 : Hid (∀ w', Gl w' → Calls Tryz.prog 31 #[.string (bs l)] w' fun e w'' => e = .returned (.tuple #[.agg (cpT l).toArray, .bool (cpB l)]) ∧ Fr No w' w'') := fun w' h => cparse_any l w' h hl
  have S2 : Hid (∀ w', Calls Tryz.prog 32 #[.string (bs l)] w' fun e w'' => e = .returned (.tuple #[.agg (cpT l).toArray, .bool (cpB l)]) ∧ Fr No w' w'') := fun w' => cparse_ref l hl w'
  obtain ⟨hTs, hT1, hTe⟩ := cpT_ok l
  have hPs := pfx_size (b := b) (n := n) hx
  generalize (cpT l).toArray = T at S1 S2 hTs hT1 hTe
  generalize cpB l = tb at S1 S2
  generalize bs (fP b xs n) = fp at A1 A2
  generalize (pfx b xs n).toArray = P at G1 A1 A2 hPs ⊢
  generalize bs l = s at S1 S2 ⊢
  obtain ⟨p, hp, hmd⟩ := mod_fix v 140 (by decide) (by decide)
  have HMD : Hid (∀ w', Calls Tryz.prog 35 #[.int .i64 v, .int .i64 140] w' fun e w'' => e = .returned (.int .i64 p) ∧ w'' = w') := hmd
  have hb1 := heap_alloc_new w (.cells P 40)
  have hF := Fr.alloc No w (.cells P 40)
  obtain ⟨w1, hw1⟩ : ∃ w1, w.alloc (.cells P 40) = w1 := ⟨_, rfl⟩
  obtain ⟨nb, hnb⟩ : ∃ nb, w.heap.size = nb := ⟨_, rfl⟩
  rw [hw1, hnb] at hb1
  rw [hw1] at hF
  have HB := Lib.hid (And.intro hb1 (And.intro hF (And.intro hG (And.intro hT1 hp))))
  have q40 := Tryz.eqGuardType40
  have e1 : (!(fp.toList == fp.toList)) = false := by simp
  have e1' : (fp.toList == fp.toList) = true := by simp
  have e3 : (tb == tb) = true := by simp
  clear hb1 hF hG hT1 hp hmd hZ hx hl
  go_enter Tryz.func7, Tryz.ntmps7
  have t3 := Tryz.underlying3
  have u3 := Tryz.runUnderlying3
  have g3 := Tryz.isAgg3
  have z3 := Tryz.sizeOf3
  have t4 := Tryz.underlying4
  have u4 := Tryz.runUnderlying4
  have g4 := Tryz.isAgg4
  have z4 := Tryz.sizeOf4
  have t9 := Tryz.underlying9
  have u9 := Tryz.runUnderlying9
  have g9 := Tryz.isAgg9
  have z9 := Tryz.sizeOf9
  have t30 := Tryz.underlying30
  have u30 := Tryz.runUnderlying30
  have g30 := Tryz.isAgg30
  have z30 := Tryz.sizeOf30
  have t40 := Tryz.underlying40
  have u40 := Tryz.runUnderlying40
  have g40 := Tryz.isAgg40
  have z40 := Tryz.sizeOf40
  have c18 := Tryz.call18
  have c28 := Tryz.call28
  have c29 := Tryz.call29
  have c30 := Tryz.call30
  have c31 := Tryz.call31
  have c32 := Tryz.call32
  have c33 := Tryz.call33
  have c34 := Tryz.call34
  have c35 := Tryz.call35
  have mixed : Tryz.prog.follows .mixedOrders = true := by kernel_rfl
  obtain ⟨k30, hk30⟩ : ∃ k, k = 17 := ⟨_, rfl⟩
  rw [← hk30] at z30
  have nk30 : ¬ k30 = 0 := by omega
  have HK30 := Lib.hid hk30
  obtain ⟨k40, hk40⟩ : ∃ k, k = 18 := ⟨_, rfl⟩
  rw [← hk40] at z40
  have nk40 : ¬ k40 = 0 := by omega
  have HK40 := Lib.hid hk40
  have hP : Tryz.prog = PD := rfl
  rw [hP] at t3 u3 g3 z3 t4 u4 g4 z4 t9 u9 g9 z9 t30 u30 g30 z30 t40 u40 g40 z40 c18 c28 c29 c30 c31 c32 c33 c34 c35 mixed v40 hTe q40 ⊢
  have HP := Lib.hid hP.symm
  clear hP hk30 hk40
  have hPk : P.size = k40 := by rw [HK40.out]; exact hPs
  have hTk : T.size = k40 := by rw [HK40.out]; exact hTs
  have hZk : Z.size = k40 := by rw [HK40.out]; exact hZs
  clear hPs hTs hZs
  have lp0 : Sem.run PD (loadCellsFrom ⟨nb, 0, none⟩ 0 k40 #[]) w1 = .ok P w1 := load_block HB.out.1 hPk (fun j v hv => by simpa using hv)
  go_wp2_with (first | (go_at_call 18; refine (at_prog HP.out (G1.out _)).mono ?_; rintro e w2 ⟨c, ys, k, hyb, hyv, rfl, hf2⟩; have hRk : (pfx c ys k).toArray.size = k40 := (by rw [HK40.out]; exact pfx_size hyb); obtain ⟨y1, hst1, hyb1, hyf1⟩ := store_all (P := PD) (pfx c ys k).toArray.toList (heap_alloc_new w2 (.cells Z 40)) (by rw [Array.length_toList, hRk, hZk]) (pfx_ones _ _ _)) | fail)
  obtain ⟨qb, hqb⟩ : ∃ qb, w2.heap.size = qb := ⟨_, rfl⟩
  have F1 : Fr No w1 y1 := (hf2.trans (Fr.alloc No w2 (.cells Z 40))).ofNew hyf1 fun k hk => .inr (by rw [hk]; exact hf2.size)
  rw [hqb] at hyb1 ⊢
  obtain ⟨tt, htt⟩ : ∃ tt : Bool, true = tt := ⟨_, rfl⟩
  obtain ⟨ff, hff⟩ : ∃ ff : Bool, false = ff := ⟨_, rfl⟩
  have hnt : (!tt) = false := by rw [← htt]; rfl
  have hnf : (!ff) = true := by rw [← hff]; rfl
  obtain ⟨m, rfl⟩ : ∃ m : Nat, k = m := ⟨k.toNat, by have := (validP_parts hyv).2.1; omega⟩
  have hm128 : m ≤ 128 := by have h := (validP_parts hyv).2.2.1; have := (bitsOf_le c).2; omega
  obtain ⟨hr1, hr2⟩ := cp_round hyb hyv
  have hlen := fP_len (b := c) (n := (m : Int)) hyb
  have B1 : Hid (∀ w', Gl w' → Calls Tryz.prog 29 #[.agg (pfx c ys m).toArray] w' fun e w'' => e = .returned (.string (bs (fP c ys m))) ∧ Fr No w' w'') := fun w' h => cformat_any c ys m hyb w' h
  have B2 : Hid (∀ w', Calls Tryz.prog 30 #[.agg (pfx c ys m).toArray] w' fun e w'' => e = .returned (.string (bs (fP c ys m))) ∧ Fr No w' w'') := fun w' => cformat_ref c ys m hyb w'
  have B3 : Hid (∀ w', Gl w' → Calls Tryz.prog 31 #[.string (bs (fP c ys m))] w' fun e w'' => e = .returned (.tuple #[.agg (pfx c ys m).toArray, .bool tt]) ∧ Fr No w' w'') := fun w' h => by
    have h1 := cparse_any (fP c ys m) w' h (by omega)
    rw [hr1, hr2, htt] at h1
    exact h1
  have B4 : Hid (∀ w', Calls Tryz.prog 33 #[.agg (adr c ys).toArray] w' fun e w'' => e = .returned (.string (bs (oct8 (fmtA c ys)))) ∧ Fr No w' w'') := fun w' => by rw [← str_oct]; exact format_ref c ys hyb w'
  have B5 : Hid (∀ w', Calls Tryz.prog 34 #[.int .i64 p] w' fun e w'' => e = .returned (.string (bs (oct8 (decN p)))) ∧ Fr No w' w'') := fun w' => fdec_ref p (by have := HB.out.2.2.2.2; omega) w'
  have B6 : Hid (∀ w', Calls Tryz.prog 34 #[.int .i64 m] w' fun e w'' => e = .returned (.string (bs (oct8 (decN m)))) ∧ Fr No w' w'') := fun w' => fdec_ref m (by omega) w'
  have hfl := fmtA_length (b := c) hyb
  have hdl := decN_len p
  have hdm := decN_len m
  have hp140 := HB.out.2.2.2.2
  have htl : (oct8 (fmtA c ys) ++ 47 :: oct8 (decN p)).length < 2147483648 := by rw [List.length_append, oct8_length, List.length_cons, oct8_length]; omega
  have hnl : (oct8 (fmtA c ys) ++ 47 :: 48 :: oct8 (decN m)).length < 2147483648 := by rw [List.length_append, oct8_length, List.length_cons, List.length_cons, oct8_length]; omega
  have B7 : Hid (∀ w', Gl w' → Calls Tryz.prog 31 #[.string (bs (oct8 (fmtA c ys) ++ 47 :: oct8 (decN p)))] w' fun e w'' => e = .returned (.tuple #[.agg (cpT (oct8 (fmtA c ys) ++ 47 :: oct8 (decN p))).toArray, .bool (cpB (oct8 (fmtA c ys) ++ 47 :: oct8 (decN p)))]) ∧ Fr No w' w'') := fun w' h => cparse_any _ w' h htl
  have B8 : Hid (∀ w', Calls Tryz.prog 32 #[.string (bs (oct8 (fmtA c ys) ++ 47 :: oct8 (decN p)))] w' fun e w'' => e = .returned (.tuple #[.agg (cpT (oct8 (fmtA c ys) ++ 47 :: oct8 (decN p))).toArray, .bool (cpB (oct8 (fmtA c ys) ++ 47 :: oct8 (decN p)))]) ∧ Fr No w' w'') := fun w' => cparse_ref _ htl w'
  have B9 : Hid (∀ w', Gl w' → Calls Tryz.prog 31 #[.string (bs (oct8 (fmtA c ys) ++ 47 :: 48 :: oct8 (decN m)))] w' fun e w'' => ∃ X : Array Value, X.size = 18 ∧ (∀ u ∈ X.toList, u.oneCell' = true) ∧ e = .returned (.tuple #[.agg X, .bool ff]) ∧ Fr No w' w'') := fun w' h => by
    have h1 := cparse_any _ w' h hnl
    rw [cp_nought, hff] at h1
    have h2 := cpT_ok (oct8 (fmtA c ys) ++ 47 :: 48 :: oct8 (decN m))
    exact h1.mono fun e w'' ⟨he, hf⟩ => ⟨_, h2.1, h2.2.1, he, hf⟩
  obtain ⟨hUs, hU1, hUe0⟩ := cpT_ok (oct8 (fmtA c ys) ++ 47 :: oct8 (decN p))
  have hUe : ∀ w, Sem.run PD (Op.equalIn 10000 40 (.agg (cpT (oct8 (fmtA c ys) ++ 47 :: oct8 (decN p))).toArray) (.agg (cpT (oct8 (fmtA c ys) ++ 47 :: oct8 (decN p))).toArray)) w = .ok true w := hUe0
  have hRe : ∀ w, Sem.run PD (Op.equalIn 10000 40 (.agg (pfx c ys m).toArray) (.agg (pfx c ys m).toArray)) w = .ok true w := fun w => by
    have h : Sem.run Tryz.prog (Op.equalIn 10000 40 (.agg (pfx c ys m).toArray) (.agg (pfx c ys m).toArray)) w = .ok true w := by rw [pfx_eq m m hyb hyb w, decide_eq_true ⟨⟨rfl, rfl⟩, rfl⟩]
    exact h
  have hUk : (cpT (oct8 (fmtA c ys) ++ 47 :: oct8 (decN p))).toArray.size = k40 := hUs.trans HK40.out.symm
  have hR1 := pfx_ones c ys (m : Int)
  obtain ⟨R, hR0, -, hR17, hRs, hRA, -⟩ := pfx_letter c ys (m : Int) hyb
  obtain ⟨D, hD0, -, hDs, -⟩ := adr_letter c ys hyb
  have hDk : D.size = k30 := hDs.trans HK30.out.symm
  rw [hD0] at hRA B4
  rw [hR0] at B1 B2 B3 hRe hRk hR1 hyb1
  have ha1 : bs (oct8 (fmtA c ys)) ++ (⟨#[47]⟩ : ByteArray) = bs (oct8 (fmtA c ys) ++ [47]) := bs_app _ [47]
  have ha2 : bs (oct8 (fmtA c ys) ++ [47]) ++ bs (oct8 (decN p)) = bs (oct8 (fmtA c ys) ++ 47 :: oct8 (decN p)) := by rw [bs_app]; simp
  have ha3 : bs (oct8 (fmtA c ys)) ++ (⟨#[47, 48]⟩ : ByteArray) = bs (oct8 (fmtA c ys) ++ [47, 48]) := bs_app _ [47, 48]
  have ha4 : bs (oct8 (fmtA c ys) ++ [47, 48]) ++ bs (oct8 (decN m)) = bs (oct8 (fmtA c ys) ++ 47 :: 48 :: oct8 (decN m)) := by rw [bs_app]; simp
  have hz1 : (bs (oct8 (fmtA c ys))).size ≤ 100 := by rw [bs_size, oct8_length]; exact hfl
  have hz2 : (bs (oct8 (fmtA c ys) ++ [47])).size ≤ 101 := by rw [bs_size, List.length_append, oct8_length]; simp; omega
  have hz3 : (bs (oct8 (fmtA c ys) ++ [47, 48])).size ≤ 102 := by rw [bs_size, List.length_append, oct8_length]; simp; omega
  have hz4 : (bs (oct8 (decN p))).size ≤ 200 := by rw [bs_size, oct8_length]; omega
  have hz5 : (bs (oct8 (decN m))).size ≤ 200 := by rw [bs_size, oct8_length]; omega
  have HR : Hid (R.size = 18 ∧ (∀ u ∈ R.toList, u.oneCell' = true) ∧ R[17]? = some (.int .i64 m) ∧ (∀ (j : Nat) v, D[j]? = some v → R[0 + j]? = some v)) := ⟨hRs, by rw [← hR0]; exact pfx_ones _ _ _, hR17, adr_part hDs hRA⟩
  clear htt hff hyf1 hf2 hr1 hr2 hlen hfl hdl hdm hp140 htl hnl hUs hRs hDs hR17 hRA hm128 hyv hyb hUe0 hR1 hR0 hD0 hst1
  generalize (cpT (oct8 (fmtA c ys) ++ 47 :: oct8 (decN p))).toArray = U at B7 B8 hU1 hUe hUk
  generalize cpB (oct8 (fmtA c ys) ++ 47 :: oct8 (decN p)) = ub at B7 B8
  generalize bs (oct8 (fmtA c ys) ++ 47 :: 48 :: oct8 (decN m)) = t2 at B9 ha4
  generalize bs (oct8 (fmtA c ys) ++ 47 :: oct8 (decN p)) = t1 at B7 B8 ha2
  generalize bs (oct8 (fmtA c ys) ++ [47, 48]) = t4 at ha3 ha4 hz3
  generalize bs (oct8 (fmtA c ys) ++ [47]) = tt3 at ha1 ha2 hz2
  generalize bs (oct8 (fmtA c ys)) = fa at B4 ha1 ha3 hz1
  generalize bs (oct8 (decN p)) = dp at B5 ha2 hz4
  generalize bs (oct8 (decN m)) = dm at B6 ha4 hz5
  generalize bs (fP c ys m) = fq at B1 B2 B3
  have j1 : ¬ 9223372036854775807 < fa.size + 1 := by omega
  have j2 : ¬ 9223372036854775807 < tt3.size + dp.size := by omega
  have j2' : ¬ 9223372036854775807 < fa.size + 1 + dp.size := by omega
  have j3 : ¬ 9223372036854775807 < fa.size + 2 := by omega
  have j4 : ¬ 9223372036854775807 < t4.size + dm.size := by omega
  have j4' : ¬ 9223372036854775807 < fa.size + 2 + dm.size := by omega
  have HU := Lib.hid hU1
  have e2 : (!(fq.toList == fq.toList)) = false := by simp
  have e2' : (fq.toList == fq.toList) = true := by simp
  have e4 : (ub == ub) = true := by simp
  clear hz1 hz2 hz3 hz4 hz5 hU1
  have HY : Hid (Fr No w1 y1 ∧ y1.heap[nb]? = some (.cells P 40 (0, 0)) ∧ y1.heap[qb]? = some (.cells R 40 (0, 0))) := ⟨F1, F1.keep HB.out.1, by simpa using hyb1⟩
  clear F1 hyb1
  have HSS : Hid (∀ w', Fr No y1 w' → Sem.run PD (loadCellsFrom ⟨nb, 0, none⟩ 0 k40 #[]) w' = .ok P w' ∧ Sem.run PD (loadCellsFrom ⟨qb, 0, none⟩ 0 k40 #[]) w' = .ok R w') := fun w' hf => ⟨load_block (hf.keep HY.out.2.1) hPk (fun j v hv => by simpa using hv), load_block (hf.keep HY.out.2.2) hRk (fun j v hv => by simpa using hv)⟩
  have HLA : Hid (∀ w', Fr No y1 w' → Sem.run PD (loadCellsFrom ⟨qb, 0, none⟩ 0 k30 #[]) w' = .ok D w' ∧ w'.cell? ⟨qb, 17, none⟩ = some (.int .i64 m)) := fun w' hf => ⟨load_block (hf.keep HY.out.2.2) hDk HR.out.2.2.2, by rw [cell_of_row _ _ _ _ _ _ (hf.keep HY.out.2.2)]; exact HR.out.2.2.1⟩
  go_upto_region 2 with fail
  go_cut [34] (fun s34 wx => s34 = .bool false ∧ Hid (Fr No y1 wx))
  case first =>
    have f5 : Fr No y1 y1.drew := Fr.drew No _
    have hS0 := HSS.out _ f5
    refine wp_region_noPanic ?_
    refine wp_region_held_drew (S := (fun w' : World => Sem.run PD (loadCellsFrom ⟨nb, 0, none⟩ 0 k40 #[]) w' = .ok P w' ∧ Sem.run PD (loadCellsFrom ⟨qb, 0, none⟩ 0 k40 #[]) w' = .ok R w')) (by kernel_rfl) hS0 (fun hHeld => ?_)
    clear hS0
    refine wpAnyH_take (i := 0) (oi := { dst := some 23, op := Op.load 40 (Operand.tmp 3), type := 40, pos := "law.go:63", after := #[], guard := none }) (v := ?v0x26) rfl (by kernel_rfl) (by kernel_rfl) (by kernel_rfl) (fun _ _ _ h => h) (Or.inl ⟨by rfl, ?hy0x26⟩) hHeld ?nx0x26
    case hy0x26 => (intro w hSw; (try dsimp only at hSw); go_simp; try with_reducible rfl)
    try simp only [Act.put, List.setIfInBounds_toArray, List.set_cons_zero, List.set_cons_succ]
    refine wpAnyH_take (i := 2) (oi := { dst := some 25, op := Op.load 40 (Operand.tmp 3), type := 40, pos := "law.go:63", after := #[], guard := none }) (v := ?v2x27) rfl (by kernel_rfl) (by kernel_rfl) (by kernel_rfl) (fun _ _ _ h => h) (Or.inl ⟨by rfl, ?hy2x27⟩) hHeld ?nx2x27
    case hy2x27 => (intro w hSw; (try dsimp only at hSw); go_simp; try with_reducible rfl)
    try simp only [Act.put, List.setIfInBounds_toArray, List.set_cons_zero, List.set_cons_succ]
    refine wpAnyH_ready (rs := [1]) (by kernel_rfl) (by simp) ?_
    refine (AllReadyH.cons (o := { dst := some 24, op := Op.call { callee := Callee.value (Operand.func 29), args := #[Operand.tmp 23], argTypes := #[40] }, type := 9, pos := "law.go:63", after := #[{ on := 0, ground := Ground.data }], guard := none }) rfl (fun K hK => ?_) AllReadyH.nil)
    go_simp
    go_at_call 29
    refine (at_prog HP.out (A1.out _ (HB.out.2.2.1.fr ((HB.out.2.1.trans HY.out.1).trans f5)))).mono ?_
    rintro e xx78 ⟨rfl, hx79⟩
    have gg80 := f5.trans hx79
    have hS := HSS.out _ gg80
    clear hx79
    refine hK.out _ _ hS (fun hH2 => ?_)
    clear hK K hHeld
    have hHeld := hH2
    clear hH2 hS
    try simp only [Act.put, List.setIfInBounds_toArray, List.set_cons_zero, List.set_cons_succ]
    refine wpAnyH_ready (rs := [3]) (by kernel_rfl) (by simp) ?_
    refine (AllReadyH.cons (o := { dst := some 26, op := Op.call { callee := Callee.value (Operand.func 30), args := #[Operand.tmp 25], argTypes := #[40] }, type := 9, pos := "law.go:63", after := #[{ on := 2, ground := Ground.data }, { on := 1, ground := Ground.chain }], guard := none }) rfl (fun K hK => ?_) AllReadyH.nil)
    go_simp
    go_at_call 30
    refine (at_prog HP.out (A2.out _)).mono ?_
    rintro e xx81 ⟨rfl, hx82⟩
    have gg83 := gg80.trans hx82
    have hS := HSS.out _ gg83
    clear hx82
    refine hK.out _ _ hS (fun hH2 => ?_)
    clear hK K hHeld
    have hHeld := hH2
    clear hH2 hS
    try simp only [Act.put, List.setIfInBounds_toArray, List.set_cons_zero, List.set_cons_succ]
    refine wpAnyH_take (i := 4) (oi := { dst := some 27, op := Op.binOp BinOp.neq 9 (Operand.tmp 24) (Operand.tmp 26) 9, type := 4, pos := "law.go:63", after := #[{ on := 1, ground := Ground.data }, { on := 3, ground := Ground.data }], guard := none }) (v := ?v4x28) rfl (by kernel_rfl) (by kernel_rfl) (by kernel_rfl) (fun _ _ _ h => h) (Or.inl ⟨by rfl, ?hy4x28⟩) hHeld ?nx4x28
    case hy4x28 => (intro w hSw; (try dsimp only at hSw); go_simp; try with_reducible rfl)
    try simp only [Act.put, List.setIfInBounds_toArray, List.set_cons_zero, List.set_cons_succ]
    refine wpAnyH_take (i := 5) (oi := { dst := some 28, op := Op.move (Operand.tmp 27), type := 4, pos := "law.go:63", after := #[{ on := 4, ground := Ground.data }, { on := 3, ground := Ground.chain }], guard := none }) (v := ?v5x29) rfl (by kernel_rfl) (by kernel_rfl) (by kernel_rfl) (fun _ _ _ h => h) (Or.inl ⟨by rfl, ?hy5x29⟩) hHeld ?nx5x29
    case hy5x29 => (intro w hSw; (try dsimp only at hSw); go_simp; try with_reducible rfl)
    try simp only [Act.put, List.setIfInBounds_toArray, List.set_cons_zero, List.set_cons_succ]
    refine wpAnyH_take (i := 6) (oi := { dst := some 29, op := Op.load 40 (Operand.tmp 7), type := 40, pos := "law.go:63", after := #[{ on := 5, ground := Ground.guard }], guard := some (5, false) }) (v := ?v6x30) rfl (by kernel_rfl) (by kernel_rfl) (by kernel_rfl) (fun _ _ _ h => h) (Or.inl ⟨by rfl, ?hy6x30⟩) hHeld ?nx6x30
    case hy6x30 => (intro w hSw; (try dsimp only at hSw); go_simp; try with_reducible rfl)
    try simp only [Act.put, List.setIfInBounds_toArray, List.set_cons_zero, List.set_cons_succ]
    refine wpAnyH_take (i := 8) (oi := { dst := some 31, op := Op.load 40 (Operand.tmp 7), type := 40, pos := "law.go:63", after := #[{ on := 5, ground := Ground.guard }], guard := some (5, false) }) (v := ?v8x31) rfl (by kernel_rfl) (by kernel_rfl) (by kernel_rfl) (fun _ _ _ h => h) (Or.inl ⟨by rfl, ?hy8x31⟩) hHeld ?nx8x31
    case hy8x31 => (intro w hSw; (try dsimp only at hSw); go_simp; try with_reducible rfl)
    try simp only [Act.put, List.setIfInBounds_toArray, List.set_cons_zero, List.set_cons_succ]
    refine wpAnyH_ready (rs := [7]) (by kernel_rfl) (by simp) ?_
    refine (AllReadyH.cons (o := { dst := some 30, op := Op.call { callee := Callee.value (Operand.func 29), args := #[Operand.tmp 29], argTypes := #[40] }, type := 9, pos := "law.go:63", after := #[{ on := 6, ground := Ground.data }, { on := 5, ground := Ground.chain }, { on := 5, ground := Ground.guard }], guard := some (5, false) }) rfl (fun K hK => ?_) AllReadyH.nil)
    go_simp
    go_at_call 29
    refine (at_prog HP.out (B1.out _ (HB.out.2.2.1.fr ((HB.out.2.1.trans HY.out.1).trans gg83)))).mono ?_
    rintro e xx84 ⟨rfl, hx85⟩
    have gg86 := gg83.trans hx85
    have hS := HSS.out _ gg86
    clear hx85
    refine hK.out _ _ hS (fun hH2 => ?_)
    clear hK K hHeld
    have hHeld := hH2
    clear hH2 hS
    try simp only [Act.put, List.setIfInBounds_toArray, List.set_cons_zero, List.set_cons_succ]
    refine wpAnyH_ready (rs := [9]) (by kernel_rfl) (by simp) ?_
    refine (AllReadyH.cons (o := { dst := some 32, op := Op.call { callee := Callee.value (Operand.func 30), args := #[Operand.tmp 31], argTypes := #[40] }, type := 9, pos := "law.go:63", after := #[{ on := 8, ground := Ground.data }, { on := 7, ground := Ground.chain }, { on := 5, ground := Ground.guard }], guard := some (5, false) }) rfl (fun K hK => ?_) AllReadyH.nil)
    go_simp
    go_at_call 30
    refine (at_prog HP.out (B2.out _)).mono ?_
    rintro e xx87 ⟨rfl, hx88⟩
    have gg89 := gg86.trans hx88
    have hS := HSS.out _ gg89
    clear hx88
    refine hK.out _ _ hS (fun hH2 => ?_)
    clear hK K hHeld
    have hHeld := hH2
    clear hH2 hS
    try simp only [Act.put, List.setIfInBounds_toArray, List.set_cons_zero, List.set_cons_succ]
    refine wpAnyH_take (i := 10) (oi := { dst := some 33, op := Op.binOp BinOp.neq 9 (Operand.tmp 30) (Operand.tmp 32) 9, type := 4, pos := "law.go:63", after := #[{ on := 7, ground := Ground.data }, { on := 9, ground := Ground.data }, { on := 5, ground := Ground.guard }], guard := some (5, false) }) (v := ?v10x32) rfl (by kernel_rfl) (by kernel_rfl) (by kernel_rfl) (fun _ _ _ h => h) (Or.inl ⟨by rfl, ?hy10x32⟩) hHeld ?nx10x32
    case hy10x32 => (intro w hSw; (try dsimp only at hSw); go_simp; try with_reducible rfl)
    try simp only [Act.put, List.setIfInBounds_toArray, List.set_cons_zero, List.set_cons_succ]
    refine wpAnyH_take (i := 11) (oi := { dst := some 34, op := Op.pick (Operand.tmp 28) (Operand.const (Value.bool true)) (Operand.tmp 33), type := 4, pos := "law.go:63", after := #[{ on := 5, ground := Ground.data }, { on := 10, ground := Ground.data }], guard := none }) (v := ?v11x33) rfl (by kernel_rfl) (by kernel_rfl) (by kernel_rfl) (fun _ _ _ h => h) (Or.inl ⟨by rfl, ?hy11x33⟩) hHeld ?nx11x33
    case hy11x33 => (intro w hSw; (try dsimp only at hSw); go_simp; try with_reducible rfl)
    try simp only [Act.put, List.setIfInBounds_toArray, List.set_cons_zero, List.set_cons_succ]
    refine wpAnyH_done (by kernel_rfl) ?_ _
    refine NoPanic.normal ?_
    go_wp2_with fail
    go_meet
    exact ⟨rfl, gg89⟩
  case rest =>
    obtain ⟨rfl, HG2⟩ := hcut
    have lq := (HSS.out _ HG2.out).2
    go_upto_region 12 with (first | (go_at_call 29; refine (at_prog HP.out (B1.out _ (HB.out.2.2.1.fr ((HB.out.2.1.trans HY.out.1).trans HG2.out)))).mono ?_; rintro e u1 ⟨rfl, hu1⟩) | (go_at_call 31; with_reducible refine (at_prog HP.out (B3.out _ (HB.out.2.2.1.fr ((HB.out.2.1.trans HY.out.1).trans (HG2.out.trans hu1))))).mono ?_; rintro e u2 ⟨rfl, hu2⟩; obtain ⟨z1, hsz1, hbz1, hfz1⟩ := store_all (P := PD) R.toList (heap_alloc_new u2 (.cells Z 40)) (by rw [Array.length_toList, hRk, hZk]) HR.out.2.1; have K1 : Fr No y1 z1 := (((HG2.out.trans hu1).trans hu2).trans (Fr.alloc No u2 (.cells Z 40))).ofNew hfz1 (fun k hk => .inr (by rw [hk]; exact ((HG2.out.trans hu1).trans hu2).size)); have lr : Sem.run PD (loadCellsFrom ⟨u2.heap.size, 0, none⟩ 0 k40 #[]) z1 = .ok R z1 := load_block hbz1 (by simpa using hRk) (fun j v hv => by simpa using hv); have lq1 := (HSS.out z1 K1).2) | (go_at_call 31; with_reducible refine (at_prog HP.out (S1.out _ (HB.out.2.2.1.fr ((HB.out.2.1.trans HY.out.1).trans K1)))).mono ?_; rintro e u3 ⟨rfl, hu3⟩; obtain ⟨z2, hsz2, hbz2, hfz2⟩ := store_all (P := PD) T.toList (heap_alloc_new u3 (.cells Z 40)) (by rw [Array.length_toList, hTk, hZk]) HB.out.2.2.2.1; have K2 : Fr No y1 z2 := (((K1).trans hu3).trans (Fr.alloc No u3 (.cells Z 40))).ofNew hfz2 (fun k hk => .inr (by rw [hk]; exact ((K1).trans hu3).size))) | (go_at_call 32; with_reducible refine (at_prog HP.out (S2.out _)).mono ?_; rintro e u4 ⟨rfl, hu4⟩; obtain ⟨z3, hsz3, hbz3, hfz3⟩ := store_all (P := PD) T.toList (heap_alloc_new u4 (.cells Z 40)) (by rw [Array.length_toList, hTk, hZk]) HB.out.2.2.2.1; have K23 : Fr No z2 z3 := (hu4.trans (Fr.alloc No u4 (.cells Z 40))).ofNew hfz3 (fun k hk => .inr (by rw [hk]; exact hu4.size)); have la3 := (HLA.out z3 (K2.trans K23)).1) | (go_at_call 33; refine (at_prog HP.out (B4.out _)).mono ?_; rintro e u5 ⟨rfl, hu5⟩) | (go_at_call 35; refine (at_prog HP.out (HMD.out _)).mono ?_; rintro e u6 ⟨rfl, hu6⟩; replace hu6 := hu6.symm; subst hu6) | (go_at_call 34; refine (at_prog HP.out (B5.out _)).mono ?_; rintro e u7 ⟨rfl, hu7⟩) | (go_at_call 31; with_reducible refine (at_prog HP.out (B7.out _ (HB.out.2.2.1.fr ((HB.out.2.1.trans HY.out.1).trans ((((K2.trans K23).trans hu5).trans hu7)))))).mono ?_; rintro e u8 ⟨rfl, hu8⟩; obtain ⟨z4, hsz4, hbz4, hfz4⟩ := store_all (P := PD) U.toList (heap_alloc_new u8 (.cells Z 40)) (by rw [Array.length_toList, hUk, hZk]) HU.out; have K34 : Fr No z3 z4 := (((hu5.trans hu7).trans hu8).trans (Fr.alloc No u8 (.cells Z 40))).ofNew hfz4 (fun k hk => .inr (by rw [hk]; exact ((hu5.trans hu7).trans hu8).size))) | (go_at_call 32; with_reducible refine (at_prog HP.out (B8.out _)).mono ?_; rintro e u9 ⟨rfl, hu9⟩; obtain ⟨z5, hsz5, hbz5, hfz5⟩ := store_all (P := PD) U.toList (heap_alloc_new u9 (.cells Z 40)) (by rw [Array.length_toList, hUk, hZk]) HU.out; have K45 : Fr No z4 z5 := (hu9.trans (Fr.alloc No u9 (.cells Z 40))).ofNew hfz5 (fun k hk => .inr (by rw [hk]; exact hu9.size))) | fail)
    have K5 : Fr No y1 z5 := (K2.trans K23).trans (K34.trans K45)
    have HL : Hid (z2.heap[u3.heap.size]? = some (.cells T 40 (0, 0)) ∧ z3.heap[u4.heap.size]? = some (.cells T 40 (0, 0)) ∧ z4.heap[u8.heap.size]? = some (.cells U 40 (0, 0)) ∧ z5.heap[u9.heap.size]? = some (.cells U 40 (0, 0)) ∧ Fr No z2 z5 ∧ Fr No z3 z5 ∧ Fr No z4 z5 ∧ Fr No y1 z5) := ⟨by simpa using hbz2, by simpa using hbz3, by simpa using hbz4, by simpa using hbz5, K23.trans (K34.trans K45), K34.trans K45, K45, K5⟩
    clear hbz1 hbz2 hbz3 hbz4 hbz5 hfz1 hfz2 hfz3 hfz4 hfz5 hsz1 hsz2 hsz3 hsz4 hsz5 K1 K2 K23 K34 K45 hu1 hu2 hu3 hu4 hu5 hu7 hu8 hu9 lq lr lq1 la3 HG2
    generalize u3.heap.size = a3 at HL ⊢
    generalize u4.heap.size = a4 at HL ⊢
    generalize u8.heap.size = a8 at HL ⊢
    generalize u9.heap.size = a9 at HL ⊢
    go_cut [20] (fun s20 wx => s20 = .bool ff ∧ Hid (Fr No z5 wx))
    case first =>
      have f5 : Fr No z5 z5.drew := Fr.drew No _
      have hS0 := HLA.out _ (K5.trans f5)
      refine wp_region_noPanic ?_
      refine wp_region_held_drew (S := (fun w' : World => Sem.run PD (loadCellsFrom ⟨qb, 0, none⟩ 0 k30 #[]) w' = .ok D w' ∧ w'.cell? ⟨qb, 17, none⟩ = some (.int .i64 m))) (by kernel_rfl) hS0 (fun hHeld => ?_)
      clear hS0
      generalize z5.drew = yd at f5 hHeld ⊢
      refine wpAnyH_take (i := 0) (oi := { dst := some 77, op := Op.fieldAddr 40 (Operand.tmp 7) 0, type := 0, pos := "law.go:75", after := #[], guard := none }) (v := ?v0x1) rfl (by kernel_rfl) (by kernel_rfl) (by kernel_rfl) (fun _ _ _ h => h) (Or.inl ⟨by rfl, ?hy0x1⟩) hHeld ?nx0x1
      case hy0x1 => (intro w hSw; (try dsimp only at hSw); go_simp; try with_reducible rfl)
      try simp only [Act.put, List.setIfInBounds_toArray, List.set_cons_zero, List.set_cons_succ]
      refine wpAnyH_take (i := 1) (oi := { dst := some 78, op := Op.load 30 (Operand.tmp 77), type := 30, pos := "law.go:75", after := #[{ on := 0, ground := Ground.data }], guard := none }) (v := ?v1x2) rfl (by kernel_rfl) (by kernel_rfl) (by kernel_rfl) (fun _ _ _ h => h) (Or.inl ⟨by rfl, ?hy1x2⟩) hHeld ?nx1x2
      case hy1x2 => (intro w hSw; (try dsimp only at hSw); go_simp; try with_reducible rfl)
      try simp only [Act.put, List.setIfInBounds_toArray, List.set_cons_zero, List.set_cons_succ]
      refine wpAnyH_take (i := 4) (oi := { dst := some 81, op := Op.fieldAddr 40 (Operand.tmp 7) 1, type := 0, pos := "law.go:75", after := #[], guard := none }) (v := ?v4x3) rfl (by kernel_rfl) (by kernel_rfl) (by kernel_rfl) (fun _ _ _ h => h) (Or.inl ⟨by rfl, ?hy4x3⟩) hHeld ?nx4x3
      case hy4x3 => (intro w hSw; (try dsimp only at hSw); go_simp; try with_reducible rfl)
      try simp only [Act.put, List.setIfInBounds_toArray, List.set_cons_zero, List.set_cons_succ]
      refine wpAnyH_take (i := 5) (oi := { dst := some 82, op := Op.load 3 (Operand.tmp 81), type := 3, pos := "law.go:75", after := #[{ on := 4, ground := Ground.data }], guard := none }) (v := ?v5x4) rfl (by kernel_rfl) (by kernel_rfl) (by kernel_rfl) (fun _ _ _ h => h) (Or.inl ⟨by rfl, ?hy5x4⟩) hHeld ?nx5x4
      case hy5x4 => (intro w hSw; (try dsimp only at hSw); go_simp; try with_reducible rfl)
      try simp only [Act.put, List.setIfInBounds_toArray, List.set_cons_zero, List.set_cons_succ]
      refine wpAnyH_ready (rs := [2, 12]) (by kernel_rfl) (by simp) ?_
      refine (AllReadyH.cons (o := { dst := some 79, op := Op.call { callee := Callee.value (Operand.func 33), args := #[Operand.tmp 78], argTypes := #[30] }, type := 9, pos := "law.go:75", after := #[{ on := 1, ground := Ground.data }], guard := none }) rfl (fun K hK => ?_) (AllReadyH.cons (o := { dst := some 19, op := Op.alloc 40, type := 0, pos := "law.go:75", after := #[], guard := none }) rfl (fun K hK => ?_) AllReadyH.nil))
      · go_simp
        go_at_call 33
        refine (at_prog HP.out (B4.out _)).mono ?_
        rintro e xx1 ⟨rfl, hx2⟩
        have gg3 := f5.trans hx2
        have hS := HLA.out _ (K5.trans gg3)
        clear hx2
        refine hK.out _ _ hS (fun hH2 => ?_)
        clear hK K hHeld
        have hHeld := hH2
        clear hH2 hS
        try simp only [Act.put, List.setIfInBounds_toArray, List.set_cons_zero, List.set_cons_succ]
        refine wpAnyH_take (i := 3) (oi := { dst := some 80, op := Op.binOp BinOp.add 9 (Operand.tmp 79) (Operand.const (Value.string { data := #[47, 48] })) 9, type := 9, pos := "law.go:75", after := #[{ on := 2, ground := Ground.data }], guard := none }) (v := ?v3x5) rfl (by kernel_rfl) (by kernel_rfl) (by kernel_rfl) (fun _ _ _ h => h) (Or.inl ⟨by rfl, ?hy3x5⟩) hHeld ?nx3x5
        case hy3x5 => (intro w hSw; (try dsimp only at hSw); go_simp; try with_reducible rfl)
        try simp only [Act.put, List.setIfInBounds_toArray, List.set_cons_zero, List.set_cons_succ]
        refine wpAnyH_ready (rs := [6, 12]) (by kernel_rfl) (by simp) ?_
        refine (AllReadyH.cons (o := { dst := some 83, op := Op.call { callee := Callee.value (Operand.func 34), args := #[Operand.tmp 82], argTypes := #[3] }, type := 9, pos := "law.go:75", after := #[{ on := 5, ground := Ground.data }, { on := 2, ground := Ground.chain }], guard := none }) rfl (fun K hK => ?_) (AllReadyH.cons (o := { dst := some 19, op := Op.alloc 40, type := 0, pos := "law.go:75", after := #[], guard := none }) rfl (fun K hK => ?_) AllReadyH.nil))
        · go_simp
          go_at_call 34
          refine (at_prog HP.out (B6.out _)).mono ?_
          rintro e xx4 ⟨rfl, hx5⟩
          have gg6 := gg3.trans hx5
          have hS := HLA.out _ (K5.trans gg6)
          clear hx5
          refine hK.out _ _ hS (fun hH2 => ?_)
          clear hK K hHeld
          have hHeld := hH2
          clear hH2 hS
          try simp only [Act.put, List.setIfInBounds_toArray, List.set_cons_zero, List.set_cons_succ]
          refine wpAnyH_take (i := 7) (oi := { dst := some 84, op := Op.binOp BinOp.add 9 (Operand.tmp 80) (Operand.tmp 83) 9, type := 9, pos := "law.go:75", after := #[{ on := 3, ground := Ground.data }, { on := 6, ground := Ground.data }], guard := none }) (v := ?v7x6) rfl (by kernel_rfl) (by kernel_rfl) (by kernel_rfl) (fun _ _ _ h => h) (Or.inl ⟨by rfl, ?hy7x6⟩) hHeld ?nx7x6
          case hy7x6 => (intro w hSw; (try dsimp only at hSw); go_simp; try with_reducible rfl)
          try simp only [Act.put, List.setIfInBounds_toArray, List.set_cons_zero, List.set_cons_succ]
          refine wpAnyH_ready (rs := [8, 12]) (by kernel_rfl) (by simp) ?_
          refine (AllReadyH.cons (o := { dst := some 85, op := Op.call { callee := Callee.value (Operand.func 31), args := #[Operand.tmp 84], argTypes := #[9] }, type := 49, pos := "law.go:75", after := #[{ on := 7, ground := Ground.data }, { on := 6, ground := Ground.chain }], guard := none }) rfl (fun K hK => ?_) (AllReadyH.cons (o := { dst := some 19, op := Op.alloc 40, type := 0, pos := "law.go:75", after := #[], guard := none }) rfl (fun K hK => ?_) AllReadyH.nil))
          · go_simp
            go_at_call 31
            refine (at_prog HP.out (B9.out _ (HB.out.2.2.1.fr ((HB.out.2.1.trans HY.out.1).trans (K5.trans gg6))))).mono ?_
            rintro e xx7 ⟨XX, hXs, hX1, rfl, hx8⟩
            have gg9 := gg6.trans hx8
            have hXk : XX.size = k40 := hXs.trans HK40.out.symm
            clear hXs
            have hS := HLA.out _ (K5.trans gg9)
            clear hx8
            refine hK.out _ _ hS (fun hH2 => ?_)
            clear hK K hHeld
            have hHeld := hH2
            clear hH2 hS
            try simp only [Act.put, List.setIfInBounds_toArray, List.set_cons_zero, List.set_cons_succ]
            refine wpAnyH_take (i := 9) (oi := { dst := some 76, op := Op.move (Operand.tmp 85), type := 49, pos := "law.go:75", after := #[{ on := 8, ground := Ground.data }], guard := none }) (v := ?v9x7) rfl (by kernel_rfl) (by kernel_rfl) (by kernel_rfl) (fun _ _ _ h => h) (Or.inl ⟨by rfl, ?hy9x7⟩) hHeld ?nx9x7
            case hy9x7 => (intro w hSw; (try dsimp only at hSw); go_simp; try with_reducible rfl)
            try simp only [Act.put, List.setIfInBounds_toArray, List.set_cons_zero, List.set_cons_succ]
            refine wpAnyH_take (i := 10) (oi := { dst := some 86, op := Op.extract (Operand.tmp 76) 0, type := 40, pos := "law.go:75", after := #[{ on := 9, ground := Ground.data }], guard := none }) (v := ?v10x8) rfl (by kernel_rfl) (by kernel_rfl) (by kernel_rfl) (fun _ _ _ h => h) (Or.inl ⟨by rfl, ?hy10x8⟩) hHeld ?nx10x8
            case hy10x8 => (intro w hSw; (try dsimp only at hSw); go_simp; try with_reducible rfl)
            try simp only [Act.put, List.setIfInBounds_toArray, List.set_cons_zero, List.set_cons_succ]
            refine wpAnyH_take (i := 11) (oi := { dst := some 87, op := Op.extract (Operand.tmp 76) 1, type := 4, pos := "law.go:75", after := #[{ on := 9, ground := Ground.data }, { on := 13, ground := Ground.gcOnly Departure.lateStores }], guard := none }) (v := ?v11x9) rfl (by kernel_rfl) (by kernel_rfl) (by kernel_rfl) (fun _ _ _ h => h) (Or.inl ⟨by rfl, ?hy11x9⟩) hHeld ?nx11x9
            case hy11x9 => (intro w hSw; (try dsimp only at hSw); go_simp; try with_reducible rfl)
            try simp only [Act.put, List.setIfInBounds_toArray, List.set_cons_zero, List.set_cons_succ]
            refine wpAnyH_ready (rs := [12]) (by kernel_rfl) (by simp) ?_
            refine (AllReadyH.cons (o := { dst := some 19, op := Op.alloc 40, type := 0, pos := "law.go:75", after := #[], guard := none }) rfl (fun K hK => ?_) AllReadyH.nil)
            go_simp
            have gg14 := gg9.trans (Fr.alloc No xx7 (.cells Z 40))
            have hz15 := heap_alloc_new xx7 (.cells Z 40)
            obtain ⟨xa10, hxa11⟩ : ∃ xa, xx7.alloc (.cells Z 40) = xa := ⟨_, rfl⟩
            obtain ⟨ba12, hba13⟩ : ∃ ba, xx7.heap.size = ba := ⟨_, rfl⟩
            have agba12 := gg9.size
            rw [hba13] at agba12
            rw [hxa11] at gg14 hz15 ⊢
            rw [hba13] at hz15 ⊢
            have hS := HLA.out _ (K5.trans gg14)
            clear hxa11 hba13
            refine hK.out _ _ hS (fun hH2 => ?_)
            clear hK K hHeld
            have hHeld := hH2
            clear hH2 hS
            try simp only [Act.put, List.setIfInBounds_toArray, List.set_cons_zero, List.set_cons_succ]
            refine wpAnyH_ready (rs := [13]) (by kernel_rfl) (by simp) ?_
            refine (AllReadyH.cons (o := { dst := none, op := Op.store 40 (Operand.tmp 19) (Operand.tmp 86), type := 0, pos := "law.go:75", after := #[{ on := 12, ground := Ground.data }, { on := 10, ground := Ground.data }, { on := 8, ground := Ground.chain }, { on := 0, ground := Ground.phase }, { on := 1, ground := Ground.phase }, { on := 2, ground := Ground.phase }, { on := 3, ground := Ground.phase }, { on := 4, ground := Ground.phase }, { on := 5, ground := Ground.phase }, { on := 6, ground := Ground.phase }, { on := 7, ground := Ground.phase }, { on := 8, ground := Ground.phase }, { on := 9, ground := Ground.phase }, { on := 10, ground := Ground.phase }, { on := 11, ground := Ground.textOnly Departure.lateStores }, { on := 12, ground := Ground.phase }], guard := none }) rfl (fun K hK => ?_) AllReadyH.nil)
            obtain ⟨yy16, sa17, sb18, sc19⟩ := store_all (P := PD) XX.toList hz15 (by rw [Array.length_toList, hXk, hZk]) hX1
            go_simp
            have gg20 := gg14.ofNew sc19 fun k hk => .inr (by rw [hk]; exact agba12)
            have hS := HLA.out _ (K5.trans gg20)
            clear sb18 sc19
            refine hK.out _ _ hS (fun hH2 => ?_)
            clear hK K hHeld
            have hHeld := hH2
            clear hH2 hS
            try simp only [Act.put, List.setIfInBounds_toArray, List.set_cons_zero, List.set_cons_succ]
            refine wpAnyH_take (i := 14) (oi := { dst := some 20, op := Op.assign (Operand.tmp 87), type := 4, pos := "law.go:75", after := #[{ on := 11, ground := Ground.data }, { on := 13, ground := Ground.chain }, { on := 0, ground := Ground.phase }, { on := 1, ground := Ground.phase }, { on := 2, ground := Ground.phase }, { on := 3, ground := Ground.phase }, { on := 4, ground := Ground.phase }, { on := 5, ground := Ground.phase }, { on := 6, ground := Ground.phase }, { on := 7, ground := Ground.phase }, { on := 8, ground := Ground.phase }, { on := 9, ground := Ground.phase }, { on := 10, ground := Ground.phase }, { on := 11, ground := Ground.phase }, { on := 12, ground := Ground.phase }, { on := 13, ground := Ground.phase }], guard := none }) (v := ?v14x10) rfl (by kernel_rfl) (by kernel_rfl) (by kernel_rfl) (fun _ _ _ h => h) (Or.inl ⟨by rfl, ?hy14x10⟩) hHeld ?nx14x10
            case hy14x10 => (intro w hSw; (try dsimp only at hSw); go_simp; try with_reducible rfl)
            try simp only [Act.put, List.setIfInBounds_toArray, List.set_cons_zero, List.set_cons_succ]
            refine wpAnyH_done (by kernel_rfl) ?_ _
            refine NoPanic.normal ?_
            go_wp2_with fail
            go_meet
            exact ⟨rfl, gg20⟩
          · go_simp
            have gg25 := gg6.trans (Fr.alloc No xx4 (.cells Z 40))
            have hz26 := heap_alloc_new xx4 (.cells Z 40)
            obtain ⟨xa21, hxa22⟩ : ∃ xa, xx4.alloc (.cells Z 40) = xa := ⟨_, rfl⟩
            obtain ⟨ba23, hba24⟩ : ∃ ba, xx4.heap.size = ba := ⟨_, rfl⟩
            have agba23 := gg6.size
            rw [hba24] at agba23
            rw [hxa22] at gg25 hz26 ⊢
            rw [hba24] at hz26 ⊢
            have hS := HLA.out _ (K5.trans gg25)
            clear hxa22 hba24
            refine hK.out _ _ hS (fun hH2 => ?_)
            clear hK K hHeld
            have hHeld := hH2
            clear hH2 hS
            try simp only [Act.put, List.setIfInBounds_toArray, List.set_cons_zero, List.set_cons_succ]
            refine wpAnyH_ready (rs := [8]) (by kernel_rfl) (by simp) ?_
            refine (AllReadyH.cons (o := { dst := some 85, op := Op.call { callee := Callee.value (Operand.func 31), args := #[Operand.tmp 84], argTypes := #[9] }, type := 49, pos := "law.go:75", after := #[{ on := 7, ground := Ground.data }, { on := 6, ground := Ground.chain }], guard := none }) rfl (fun K hK => ?_) AllReadyH.nil)
            go_simp
            go_at_call 31
            refine (at_prog HP.out (B9.out _ (HB.out.2.2.1.fr ((HB.out.2.1.trans HY.out.1).trans (K5.trans gg25))))).mono ?_
            rintro e xx27 ⟨XX, hXs, hX1, rfl, hx28⟩
            have gg29 := gg25.trans hx28
            have hXk : XX.size = k40 := hXs.trans HK40.out.symm
            clear hXs
            have hz30 := hx28.keep hz26
            have hS := HLA.out _ (K5.trans gg29)
            clear hx28
            refine hK.out _ _ hS (fun hH2 => ?_)
            clear hK K hHeld
            have hHeld := hH2
            clear hH2 hS
            try simp only [Act.put, List.setIfInBounds_toArray, List.set_cons_zero, List.set_cons_succ]
            refine wpAnyH_take (i := 9) (oi := { dst := some 76, op := Op.move (Operand.tmp 85), type := 49, pos := "law.go:75", after := #[{ on := 8, ground := Ground.data }], guard := none }) (v := ?v9x11) rfl (by kernel_rfl) (by kernel_rfl) (by kernel_rfl) (fun _ _ _ h => h) (Or.inl ⟨by rfl, ?hy9x11⟩) hHeld ?nx9x11
            case hy9x11 => (intro w hSw; (try dsimp only at hSw); go_simp; try with_reducible rfl)
            try simp only [Act.put, List.setIfInBounds_toArray, List.set_cons_zero, List.set_cons_succ]
            refine wpAnyH_take (i := 10) (oi := { dst := some 86, op := Op.extract (Operand.tmp 76) 0, type := 40, pos := "law.go:75", after := #[{ on := 9, ground := Ground.data }], guard := none }) (v := ?v10x12) rfl (by kernel_rfl) (by kernel_rfl) (by kernel_rfl) (fun _ _ _ h => h) (Or.inl ⟨by rfl, ?hy10x12⟩) hHeld ?nx10x12
            case hy10x12 => (intro w hSw; (try dsimp only at hSw); go_simp; try with_reducible rfl)
            try simp only [Act.put, List.setIfInBounds_toArray, List.set_cons_zero, List.set_cons_succ]
            refine wpAnyH_take (i := 11) (oi := { dst := some 87, op := Op.extract (Operand.tmp 76) 1, type := 4, pos := "law.go:75", after := #[{ on := 9, ground := Ground.data }, { on := 13, ground := Ground.gcOnly Departure.lateStores }], guard := none }) (v := ?v11x13) rfl (by kernel_rfl) (by kernel_rfl) (by kernel_rfl) (fun _ _ _ h => h) (Or.inl ⟨by rfl, ?hy11x13⟩) hHeld ?nx11x13
            case hy11x13 => (intro w hSw; (try dsimp only at hSw); go_simp; try with_reducible rfl)
            try simp only [Act.put, List.setIfInBounds_toArray, List.set_cons_zero, List.set_cons_succ]
            refine wpAnyH_ready (rs := [13]) (by kernel_rfl) (by simp) ?_
            refine (AllReadyH.cons (o := { dst := none, op := Op.store 40 (Operand.tmp 19) (Operand.tmp 86), type := 0, pos := "law.go:75", after := #[{ on := 12, ground := Ground.data }, { on := 10, ground := Ground.data }, { on := 8, ground := Ground.chain }, { on := 0, ground := Ground.phase }, { on := 1, ground := Ground.phase }, { on := 2, ground := Ground.phase }, { on := 3, ground := Ground.phase }, { on := 4, ground := Ground.phase }, { on := 5, ground := Ground.phase }, { on := 6, ground := Ground.phase }, { on := 7, ground := Ground.phase }, { on := 8, ground := Ground.phase }, { on := 9, ground := Ground.phase }, { on := 10, ground := Ground.phase }, { on := 11, ground := Ground.textOnly Departure.lateStores }, { on := 12, ground := Ground.phase }], guard := none }) rfl (fun K hK => ?_) AllReadyH.nil)
            obtain ⟨yy31, sa32, sb33, sc34⟩ := store_all (P := PD) XX.toList hz30 (by rw [Array.length_toList, hXk, hZk]) hX1
            go_simp
            have gg35 := gg29.ofNew sc34 fun k hk => .inr (by rw [hk]; exact agba23)
            have hS := HLA.out _ (K5.trans gg35)
            clear sb33 sc34
            refine hK.out _ _ hS (fun hH2 => ?_)
            clear hK K hHeld
            have hHeld := hH2
            clear hH2 hS
            try simp only [Act.put, List.setIfInBounds_toArray, List.set_cons_zero, List.set_cons_succ]
            refine wpAnyH_take (i := 14) (oi := { dst := some 20, op := Op.assign (Operand.tmp 87), type := 4, pos := "law.go:75", after := #[{ on := 11, ground := Ground.data }, { on := 13, ground := Ground.chain }, { on := 0, ground := Ground.phase }, { on := 1, ground := Ground.phase }, { on := 2, ground := Ground.phase }, { on := 3, ground := Ground.phase }, { on := 4, ground := Ground.phase }, { on := 5, ground := Ground.phase }, { on := 6, ground := Ground.phase }, { on := 7, ground := Ground.phase }, { on := 8, ground := Ground.phase }, { on := 9, ground := Ground.phase }, { on := 10, ground := Ground.phase }, { on := 11, ground := Ground.phase }, { on := 12, ground := Ground.phase }, { on := 13, ground := Ground.phase }], guard := none }) (v := ?v14x14) rfl (by kernel_rfl) (by kernel_rfl) (by kernel_rfl) (fun _ _ _ h => h) (Or.inl ⟨by rfl, ?hy14x14⟩) hHeld ?nx14x14
            case hy14x14 => (intro w hSw; (try dsimp only at hSw); go_simp; try with_reducible rfl)
            try simp only [Act.put, List.setIfInBounds_toArray, List.set_cons_zero, List.set_cons_succ]
            refine wpAnyH_done (by kernel_rfl) ?_ _
            refine NoPanic.normal ?_
            go_wp2_with fail
            go_meet
            exact ⟨rfl, gg35⟩
        · go_simp
          have gg40 := gg3.trans (Fr.alloc No xx1 (.cells Z 40))
          have hz41 := heap_alloc_new xx1 (.cells Z 40)
          obtain ⟨xa36, hxa37⟩ : ∃ xa, xx1.alloc (.cells Z 40) = xa := ⟨_, rfl⟩
          obtain ⟨ba38, hba39⟩ : ∃ ba, xx1.heap.size = ba := ⟨_, rfl⟩
          have agba38 := gg3.size
          rw [hba39] at agba38
          rw [hxa37] at gg40 hz41 ⊢
          rw [hba39] at hz41 ⊢
          have hS := HLA.out _ (K5.trans gg40)
          clear hxa37 hba39
          refine hK.out _ _ hS (fun hH2 => ?_)
          clear hK K hHeld
          have hHeld := hH2
          clear hH2 hS
          try simp only [Act.put, List.setIfInBounds_toArray, List.set_cons_zero, List.set_cons_succ]
          refine wpAnyH_ready (rs := [6]) (by kernel_rfl) (by simp) ?_
          refine (AllReadyH.cons (o := { dst := some 83, op := Op.call { callee := Callee.value (Operand.func 34), args := #[Operand.tmp 82], argTypes := #[3] }, type := 9, pos := "law.go:75", after := #[{ on := 5, ground := Ground.data }, { on := 2, ground := Ground.chain }], guard := none }) rfl (fun K hK => ?_) AllReadyH.nil)
          go_simp
          go_at_call 34
          refine (at_prog HP.out (B6.out _)).mono ?_
          rintro e xx42 ⟨rfl, hx43⟩
          have gg44 := gg40.trans hx43
          have hz45 := hx43.keep hz41
          have hS := HLA.out _ (K5.trans gg44)
          clear hx43
          refine hK.out _ _ hS (fun hH2 => ?_)
          clear hK K hHeld
          have hHeld := hH2
          clear hH2 hS
          try simp only [Act.put, List.setIfInBounds_toArray, List.set_cons_zero, List.set_cons_succ]
          refine wpAnyH_take (i := 7) (oi := { dst := some 84, op := Op.binOp BinOp.add 9 (Operand.tmp 80) (Operand.tmp 83) 9, type := 9, pos := "law.go:75", after := #[{ on := 3, ground := Ground.data }, { on := 6, ground := Ground.data }], guard := none }) (v := ?v7x15) rfl (by kernel_rfl) (by kernel_rfl) (by kernel_rfl) (fun _ _ _ h => h) (Or.inl ⟨by rfl, ?hy7x15⟩) hHeld ?nx7x15
          case hy7x15 => (intro w hSw; (try dsimp only at hSw); go_simp; try with_reducible rfl)
          try simp only [Act.put, List.setIfInBounds_toArray, List.set_cons_zero, List.set_cons_succ]
          refine wpAnyH_ready (rs := [8]) (by kernel_rfl) (by simp) ?_
          refine (AllReadyH.cons (o := { dst := some 85, op := Op.call { callee := Callee.value (Operand.func 31), args := #[Operand.tmp 84], argTypes := #[9] }, type := 49, pos := "law.go:75", after := #[{ on := 7, ground := Ground.data }, { on := 6, ground := Ground.chain }], guard := none }) rfl (fun K hK => ?_) AllReadyH.nil)
          go_simp
          go_at_call 31
          refine (at_prog HP.out (B9.out _ (HB.out.2.2.1.fr ((HB.out.2.1.trans HY.out.1).trans (K5.trans gg44))))).mono ?_
          rintro e xx46 ⟨XX, hXs, hX1, rfl, hx47⟩
          have gg48 := gg44.trans hx47
          have hXk : XX.size = k40 := hXs.trans HK40.out.symm
          clear hXs
          have hz49 := hx47.keep hz45
          have hS := HLA.out _ (K5.trans gg48)
          clear hx47
          refine hK.out _ _ hS (fun hH2 => ?_)
          clear hK K hHeld
          have hHeld := hH2
          clear hH2 hS
          try simp only [Act.put, List.setIfInBounds_toArray, List.set_cons_zero, List.set_cons_succ]
          refine wpAnyH_take (i := 9) (oi := { dst := some 76, op := Op.move (Operand.tmp 85), type := 49, pos := "law.go:75", after := #[{ on := 8, ground := Ground.data }], guard := none }) (v := ?v9x16) rfl (by kernel_rfl) (by kernel_rfl) (by kernel_rfl) (fun _ _ _ h => h) (Or.inl ⟨by rfl, ?hy9x16⟩) hHeld ?nx9x16
          case hy9x16 => (intro w hSw; (try dsimp only at hSw); go_simp; try with_reducible rfl)
          try simp only [Act.put, List.setIfInBounds_toArray, List.set_cons_zero, List.set_cons_succ]
          refine wpAnyH_take (i := 10) (oi := { dst := some 86, op := Op.extract (Operand.tmp 76) 0, type := 40, pos := "law.go:75", after := #[{ on := 9, ground := Ground.data }], guard := none }) (v := ?v10x17) rfl (by kernel_rfl) (by kernel_rfl) (by kernel_rfl) (fun _ _ _ h => h) (Or.inl ⟨by rfl, ?hy10x17⟩) hHeld ?nx10x17
          case hy10x17 => (intro w hSw; (try dsimp only at hSw); go_simp; try with_reducible rfl)
          try simp only [Act.put, List.setIfInBounds_toArray, List.set_cons_zero, List.set_cons_succ]
          refine wpAnyH_take (i := 11) (oi := { dst := some 87, op := Op.extract (Operand.tmp 76) 1, type := 4, pos := "law.go:75", after := #[{ on := 9, ground := Ground.data }, { on := 13, ground := Ground.gcOnly Departure.lateStores }], guard := none }) (v := ?v11x18) rfl (by kernel_rfl) (by kernel_rfl) (by kernel_rfl) (fun _ _ _ h => h) (Or.inl ⟨by rfl, ?hy11x18⟩) hHeld ?nx11x18
          case hy11x18 => (intro w hSw; (try dsimp only at hSw); go_simp; try with_reducible rfl)
          try simp only [Act.put, List.setIfInBounds_toArray, List.set_cons_zero, List.set_cons_succ]
          refine wpAnyH_ready (rs := [13]) (by kernel_rfl) (by simp) ?_
          refine (AllReadyH.cons (o := { dst := none, op := Op.store 40 (Operand.tmp 19) (Operand.tmp 86), type := 0, pos := "law.go:75", after := #[{ on := 12, ground := Ground.data }, { on := 10, ground := Ground.data }, { on := 8, ground := Ground.chain }, { on := 0, ground := Ground.phase }, { on := 1, ground := Ground.phase }, { on := 2, ground := Ground.phase }, { on := 3, ground := Ground.phase }, { on := 4, ground := Ground.phase }, { on := 5, ground := Ground.phase }, { on := 6, ground := Ground.phase }, { on := 7, ground := Ground.phase }, { on := 8, ground := Ground.phase }, { on := 9, ground := Ground.phase }, { on := 10, ground := Ground.phase }, { on := 11, ground := Ground.textOnly Departure.lateStores }, { on := 12, ground := Ground.phase }], guard := none }) rfl (fun K hK => ?_) AllReadyH.nil)
          obtain ⟨yy50, sa51, sb52, sc53⟩ := store_all (P := PD) XX.toList hz49 (by rw [Array.length_toList, hXk, hZk]) hX1
          go_simp
          have gg54 := gg48.ofNew sc53 fun k hk => .inr (by rw [hk]; exact agba38)
          have hS := HLA.out _ (K5.trans gg54)
          clear sb52 sc53
          refine hK.out _ _ hS (fun hH2 => ?_)
          clear hK K hHeld
          have hHeld := hH2
          clear hH2 hS
          try simp only [Act.put, List.setIfInBounds_toArray, List.set_cons_zero, List.set_cons_succ]
          refine wpAnyH_take (i := 14) (oi := { dst := some 20, op := Op.assign (Operand.tmp 87), type := 4, pos := "law.go:75", after := #[{ on := 11, ground := Ground.data }, { on := 13, ground := Ground.chain }, { on := 0, ground := Ground.phase }, { on := 1, ground := Ground.phase }, { on := 2, ground := Ground.phase }, { on := 3, ground := Ground.phase }, { on := 4, ground := Ground.phase }, { on := 5, ground := Ground.phase }, { on := 6, ground := Ground.phase }, { on := 7, ground := Ground.phase }, { on := 8, ground := Ground.phase }, { on := 9, ground := Ground.phase }, { on := 10, ground := Ground.phase }, { on := 11, ground := Ground.phase }, { on := 12, ground := Ground.phase }, { on := 13, ground := Ground.phase }], guard := none }) (v := ?v14x19) rfl (by kernel_rfl) (by kernel_rfl) (by kernel_rfl) (fun _ _ _ h => h) (Or.inl ⟨by rfl, ?hy14x19⟩) hHeld ?nx14x19
          case hy14x19 => (intro w hSw; (try dsimp only at hSw); go_simp; try with_reducible rfl)
          try simp only [Act.put, List.setIfInBounds_toArray, List.set_cons_zero, List.set_cons_succ]
          refine wpAnyH_done (by kernel_rfl) ?_ _
          refine NoPanic.normal ?_
          go_wp2_with fail
          go_meet
          exact ⟨rfl, gg54⟩
      · go_simp
        have gg59 := f5.trans (Fr.alloc No yd (.cells Z 40))
        have hz60 := heap_alloc_new yd (.cells Z 40)
        obtain ⟨xa55, hxa56⟩ : ∃ xa, yd.alloc (.cells Z 40) = xa := ⟨_, rfl⟩
        obtain ⟨ba57, hba58⟩ : ∃ ba, yd.heap.size = ba := ⟨_, rfl⟩
        have agba57 := f5.size
        rw [hba58] at agba57
        rw [hxa56] at gg59 hz60 ⊢
        rw [hba58] at hz60 ⊢
        have hS := HLA.out _ (K5.trans gg59)
        clear hxa56 hba58
        refine hK.out _ _ hS (fun hH2 => ?_)
        clear hK K hHeld
        have hHeld := hH2
        clear hH2 hS
        try simp only [Act.put, List.setIfInBounds_toArray, List.set_cons_zero, List.set_cons_succ]
        refine wpAnyH_ready (rs := [2]) (by kernel_rfl) (by simp) ?_
        refine (AllReadyH.cons (o := { dst := some 79, op := Op.call { callee := Callee.value (Operand.func 33), args := #[Operand.tmp 78], argTypes := #[30] }, type := 9, pos := "law.go:75", after := #[{ on := 1, ground := Ground.data }], guard := none }) rfl (fun K hK => ?_) AllReadyH.nil)
        go_simp
        go_at_call 33
        refine (at_prog HP.out (B4.out _)).mono ?_
        rintro e xx61 ⟨rfl, hx62⟩
        have gg63 := gg59.trans hx62
        have hz64 := hx62.keep hz60
        have hS := HLA.out _ (K5.trans gg63)
        clear hx62
        refine hK.out _ _ hS (fun hH2 => ?_)
        clear hK K hHeld
        have hHeld := hH2
        clear hH2 hS
        try simp only [Act.put, List.setIfInBounds_toArray, List.set_cons_zero, List.set_cons_succ]
        refine wpAnyH_take (i := 3) (oi := { dst := some 80, op := Op.binOp BinOp.add 9 (Operand.tmp 79) (Operand.const (Value.string { data := #[47, 48] })) 9, type := 9, pos := "law.go:75", after := #[{ on := 2, ground := Ground.data }], guard := none }) (v := ?v3x20) rfl (by kernel_rfl) (by kernel_rfl) (by kernel_rfl) (fun _ _ _ h => h) (Or.inl ⟨by rfl, ?hy3x20⟩) hHeld ?nx3x20
        case hy3x20 => (intro w hSw; (try dsimp only at hSw); go_simp; try with_reducible rfl)
        try simp only [Act.put, List.setIfInBounds_toArray, List.set_cons_zero, List.set_cons_succ]
        refine wpAnyH_ready (rs := [6]) (by kernel_rfl) (by simp) ?_
        refine (AllReadyH.cons (o := { dst := some 83, op := Op.call { callee := Callee.value (Operand.func 34), args := #[Operand.tmp 82], argTypes := #[3] }, type := 9, pos := "law.go:75", after := #[{ on := 5, ground := Ground.data }, { on := 2, ground := Ground.chain }], guard := none }) rfl (fun K hK => ?_) AllReadyH.nil)
        go_simp
        go_at_call 34
        refine (at_prog HP.out (B6.out _)).mono ?_
        rintro e xx65 ⟨rfl, hx66⟩
        have gg67 := gg63.trans hx66
        have hz68 := hx66.keep hz64
        have hS := HLA.out _ (K5.trans gg67)
        clear hx66
        refine hK.out _ _ hS (fun hH2 => ?_)
        clear hK K hHeld
        have hHeld := hH2
        clear hH2 hS
        try simp only [Act.put, List.setIfInBounds_toArray, List.set_cons_zero, List.set_cons_succ]
        refine wpAnyH_take (i := 7) (oi := { dst := some 84, op := Op.binOp BinOp.add 9 (Operand.tmp 80) (Operand.tmp 83) 9, type := 9, pos := "law.go:75", after := #[{ on := 3, ground := Ground.data }, { on := 6, ground := Ground.data }], guard := none }) (v := ?v7x21) rfl (by kernel_rfl) (by kernel_rfl) (by kernel_rfl) (fun _ _ _ h => h) (Or.inl ⟨by rfl, ?hy7x21⟩) hHeld ?nx7x21
        case hy7x21 => (intro w hSw; (try dsimp only at hSw); go_simp; try with_reducible rfl)
        try simp only [Act.put, List.setIfInBounds_toArray, List.set_cons_zero, List.set_cons_succ]
        refine wpAnyH_ready (rs := [8]) (by kernel_rfl) (by simp) ?_
        refine (AllReadyH.cons (o := { dst := some 85, op := Op.call { callee := Callee.value (Operand.func 31), args := #[Operand.tmp 84], argTypes := #[9] }, type := 49, pos := "law.go:75", after := #[{ on := 7, ground := Ground.data }, { on := 6, ground := Ground.chain }], guard := none }) rfl (fun K hK => ?_) AllReadyH.nil)
        go_simp
        go_at_call 31
        refine (at_prog HP.out (B9.out _ (HB.out.2.2.1.fr ((HB.out.2.1.trans HY.out.1).trans (K5.trans gg67))))).mono ?_
        rintro e xx69 ⟨XX, hXs, hX1, rfl, hx70⟩
        have gg71 := gg67.trans hx70
        have hXk : XX.size = k40 := hXs.trans HK40.out.symm
        clear hXs
        have hz72 := hx70.keep hz68
        have hS := HLA.out _ (K5.trans gg71)
        clear hx70
        refine hK.out _ _ hS (fun hH2 => ?_)
        clear hK K hHeld
        have hHeld := hH2
        clear hH2 hS
        try simp only [Act.put, List.setIfInBounds_toArray, List.set_cons_zero, List.set_cons_succ]
        refine wpAnyH_take (i := 9) (oi := { dst := some 76, op := Op.move (Operand.tmp 85), type := 49, pos := "law.go:75", after := #[{ on := 8, ground := Ground.data }], guard := none }) (v := ?v9x22) rfl (by kernel_rfl) (by kernel_rfl) (by kernel_rfl) (fun _ _ _ h => h) (Or.inl ⟨by rfl, ?hy9x22⟩) hHeld ?nx9x22
        case hy9x22 => (intro w hSw; (try dsimp only at hSw); go_simp; try with_reducible rfl)
        try simp only [Act.put, List.setIfInBounds_toArray, List.set_cons_zero, List.set_cons_succ]
        refine wpAnyH_take (i := 10) (oi := { dst := some 86, op := Op.extract (Operand.tmp 76) 0, type := 40, pos := "law.go:75", after := #[{ on := 9, ground := Ground.data }], guard := none }) (v := ?v10x23) rfl (by kernel_rfl) (by kernel_rfl) (by kernel_rfl) (fun _ _ _ h => h) (Or.inl ⟨by rfl, ?hy10x23⟩) hHeld ?nx10x23
        case hy10x23 => (intro w hSw; (try dsimp only at hSw); go_simp; try with_reducible rfl)
        try simp only [Act.put, List.setIfInBounds_toArray, List.set_cons_zero, List.set_cons_succ]
        refine wpAnyH_take (i := 11) (oi := { dst := some 87, op := Op.extract (Operand.tmp 76) 1, type := 4, pos := "law.go:75", after := #[{ on := 9, ground := Ground.data }, { on := 13, ground := Ground.gcOnly Departure.lateStores }], guard := none }) (v := ?v11x24) rfl (by kernel_rfl) (by kernel_rfl) (by kernel_rfl) (fun _ _ _ h => h) (Or.inl ⟨by rfl, ?hy11x24⟩) hHeld ?nx11x24
        case hy11x24 => (intro w hSw; (try dsimp only at hSw); go_simp; try with_reducible rfl)
        try simp only [Act.put, List.setIfInBounds_toArray, List.set_cons_zero, List.set_cons_succ]
        refine wpAnyH_ready (rs := [13]) (by kernel_rfl) (by simp) ?_
        refine (AllReadyH.cons (o := { dst := none, op := Op.store 40 (Operand.tmp 19) (Operand.tmp 86), type := 0, pos := "law.go:75", after := #[{ on := 12, ground := Ground.data }, { on := 10, ground := Ground.data }, { on := 8, ground := Ground.chain }, { on := 0, ground := Ground.phase }, { on := 1, ground := Ground.phase }, { on := 2, ground := Ground.phase }, { on := 3, ground := Ground.phase }, { on := 4, ground := Ground.phase }, { on := 5, ground := Ground.phase }, { on := 6, ground := Ground.phase }, { on := 7, ground := Ground.phase }, { on := 8, ground := Ground.phase }, { on := 9, ground := Ground.phase }, { on := 10, ground := Ground.phase }, { on := 11, ground := Ground.textOnly Departure.lateStores }, { on := 12, ground := Ground.phase }], guard := none }) rfl (fun K hK => ?_) AllReadyH.nil)
        obtain ⟨yy73, sa74, sb75, sc76⟩ := store_all (P := PD) XX.toList hz72 (by rw [Array.length_toList, hXk, hZk]) hX1
        go_simp
        have gg77 := gg71.ofNew sc76 fun k hk => .inr (by rw [hk]; exact agba57)
        have hS := HLA.out _ (K5.trans gg77)
        clear sb75 sc76
        refine hK.out _ _ hS (fun hH2 => ?_)
        clear hK K hHeld
        have hHeld := hH2
        clear hH2 hS
        try simp only [Act.put, List.setIfInBounds_toArray, List.set_cons_zero, List.set_cons_succ]
        refine wpAnyH_take (i := 14) (oi := { dst := some 20, op := Op.assign (Operand.tmp 87), type := 4, pos := "law.go:75", after := #[{ on := 11, ground := Ground.data }, { on := 13, ground := Ground.chain }, { on := 0, ground := Ground.phase }, { on := 1, ground := Ground.phase }, { on := 2, ground := Ground.phase }, { on := 3, ground := Ground.phase }, { on := 4, ground := Ground.phase }, { on := 5, ground := Ground.phase }, { on := 6, ground := Ground.phase }, { on := 7, ground := Ground.phase }, { on := 8, ground := Ground.phase }, { on := 9, ground := Ground.phase }, { on := 10, ground := Ground.phase }, { on := 11, ground := Ground.phase }, { on := 12, ground := Ground.phase }, { on := 13, ground := Ground.phase }], guard := none }) (v := ?v14x25) rfl (by kernel_rfl) (by kernel_rfl) (by kernel_rfl) (fun _ _ _ h => h) (Or.inl ⟨by rfl, ?hy14x25⟩) hHeld ?nx14x25
        case hy14x25 => (intro w hSw; (try dsimp only at hSw); go_simp; try with_reducible rfl)
        try simp only [Act.put, List.setIfInBounds_toArray, List.set_cons_zero, List.set_cons_succ]
        refine wpAnyH_done (by kernel_rfl) ?_ _
        refine NoPanic.normal ?_
        go_wp2_with fail
        go_meet
        exact ⟨rfl, gg77⟩
    case rest =>
      obtain ⟨rfl, HW⟩ := hcut
      go_wp2_with (first | (go_at_call 28; refine (at_prog HP.out (cawake_any _ (HB.out.2.2.1.fr ((HB.out.2.1.trans HY.out.1).trans (HL.out.2.2.2.2.2.2.2.trans HW.out))))).mono ?_; rintro e v1 ⟨rfl, hv1⟩; have l3 : Sem.run PD (loadCellsFrom ⟨a3, 0, none⟩ 0 k40 #[]) v1 = .ok T v1 := load_block (((HL.out.2.2.2.2.1.trans HW.out).trans hv1).keep HL.out.1) hTk (fun j v hv => by simpa using hv); have l4 : Sem.run PD (loadCellsFrom ⟨a4, 0, none⟩ 0 k40 #[]) v1 = .ok T v1 := load_block (((HL.out.2.2.2.2.2.1.trans HW.out).trans hv1).keep HL.out.2.1) hTk (fun j v hv => by simpa using hv); have l8 : Sem.run PD (loadCellsFrom ⟨a8, 0, none⟩ 0 k40 #[]) v1 = .ok U v1 := load_block (((HL.out.2.2.2.2.2.2.1.trans HW.out).trans hv1).keep HL.out.2.2.1) hUk (fun j v hv => by simpa using hv); have l9 : Sem.run PD (loadCellsFrom ⟨a9, 0, none⟩ 0 k40 #[]) v1 = .ok U v1 := load_block ((HW.out.trans hv1).keep HL.out.2.2.2.1) hUk (fun j v hv => by simpa using hv)) | fail)
      go_ret
      exact ⟨rfl, (HB.out.2.1.trans HY.out.1).trans ((HL.out.2.2.2.2.2.2.2.trans HW.out).trans hv1)⟩
end Go.Proofs.YtmhnailcmlomiaaGreatDoor
