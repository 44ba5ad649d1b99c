/-
  THE LAW TrieDoesNotAlias: its walk.
  Conditions: the list lies in memory.
-/
import Derived.Test.YtnbohhiooigmbaaXp
import Derived.Test.YtnbohhiooigmbaaXoI
import Derived.Test.YtnbohhiooigmbaaAw
import Derived.Test.YtnbohhiooigmbaaOw
import Derived.Test.YtnbohhiooigmbaaLd
import Derived.Test.YtnbohhiooigmbaaGc
import Derived.Deep.DeepCutAuto
import Derived.Deep.CutBlock
namespace Go.Proofs.Ytnbohhiooigmbaa
open Go.ChangeShapes Go.WideShapes Go.ChangeAt Go.RowKit
set_option linter.unusedVariables false

theorem insert_any {w : World} {a : Nat} {L : List (Px × Value)} {X : Nat → Prop} (hS : StI w a L X) (hX : ∀ k, X k → k < w.heap.size) (hM : L.length ≤ 100000) (p : Px) (hp : Bytes p.xs) (z : Int) :
    Calls Try.prog 11 #[.pointer (some ⟨a, 0, none⟩), .agg (pfx p.b p.xs p.n).toArray, .int .i64 z] w fun e w' => ∃ r, e = .returned (.bool r) ∧ (∃ L', StI w' a L' X ∧ L'.length ≤ L.length + 1) ∧ Fr (fun k => ¬ X k) w w' := by
  refine (insertSI hS hX hM p hp (.int .i64 z) ⟨z, rfl⟩).mono ?_
  rintro e w' ⟨he, hS', hf⟩
  refine ⟨_, he, ⟨_, hS', ?_⟩, hf⟩
  split
  · rw [putL_len hS.srt.1]; split <;> omega
  · omega
theorem first_load {w : World} {a : Option Addr} {q : Px} {A : List Px} (h : RowP w a (q :: A)) : ∃ b o, a = some ⟨b, o, none⟩ ∧ ∀ (P : Program) (w' : World), Fr No w w' → Sem.run P (loadCellsFrom ⟨b, o, none⟩ 0 17 #[]) w' = .ok (adr q.b q.xs).toArray w' := by
  obtain ⟨b, o, cs, T, f, ha, hk, hc⟩ := h.2 (by simp)
  refine ⟨b, o, ha, fun P w' hf => load_block (hf.keep hk) (by rw [List.size_toArray, adr_length, (h.1 q List.mem_cons_self).1]) fun j v hv => hc j v ?_⟩
  rw [List.getElem?_toArray] at hv
  have h1 := flatP_get h.1 (i := 0) (q := q) rfl (j := j) (v := v) (by
    unfold pfx
    rw [List.getElem?_append_left (List.getElem?_eq_some_iff.1 hv).1]
    exact hv)
  rwa [Nat.zero_mul, Nat.zero_add] at h1

set_option maxHeartbeats 8000000 in
set_option maxRecDepth 100000 in
theorem alias_walk (a : Option Addr) (n c : Nat) (w : World) (ha : InP w a n) : Calls Try.prog 6 #[.slice a n c] w fun e w' => e = .returned (.bool true) ∧ Fr No w w' := by
  have HIN : Hid (∀ (w' : World) (a : Nat) (L : List (Px × Value)) (X : Nat → Prop) (b : Bool) (xs : List Nat) (m z : Int), StI w' a L X → (∀ k, X k → k < w'.heap.size) → L.length ≤ 40 → Bytes xs → Calls Try.prog 11 #[.pointer (some ⟨a, 0, none⟩), .agg (pfx b xs m).toArray, .int .i64 z] w' fun e w'' => ∃ r, e = .returned (.bool r) ∧ (∃ L', StI w'' a L' X ∧ L'.length ≤ L.length + 1) ∧ Fr (fun k => ¬ X k) w' w'') := fun w' a L X b xs m z h1 h2 h3 h4 => insert_any h1 h2 (by omega) ⟨b, xs, m⟩ h4 z
  have HA := Lib.hid ha
  have hn : n ≤ 9223372036854775807 := ha.1
  clear ha
  go_enter Try.func6, Try.ntmps6
  have t3 := Try.underlying3
  have u3 := Try.runUnderlying3
  have g3 := Try.isAgg3
  have z3 := Try.sizeOf3
  have t4 := Try.underlying4
  have u4 := Try.runUnderlying4
  have g4 := Try.isAgg4
  have z4 := Try.sizeOf4
  have t24 := Try.underlying24
  have u24 := Try.runUnderlying24
  have g24 := Try.isAgg24
  have z24 := Try.sizeOf24
  have t29 := Try.underlying29
  have u29 := Try.runUnderlying29
  have g29 := Try.isAgg29
  have z29 := Try.sizeOf29
  have t31 := Try.underlying31
  have u31 := Try.runUnderlying31
  have g31 := Try.isAgg31
  have z31 := Try.sizeOf31
  have t47 := Try.underlying47
  have u47 := Try.runUnderlying47
  have g47 := Try.isAgg47
  have z47 := Try.sizeOf47
  have c7 := Try.call7
  have c8 := Try.call8
  have c11 := Try.call11
  have c16 := Try.call16
  have c19 := Try.call19
  have c20 := Try.call20
  have c26 := Try.call26
  have c34 := Try.call34
  have c35 := Try.call35
  have mixed : Try.prog.follows .mixedOrders = true := by kernel_rfl
  obtain ⟨k30, hk30⟩ : ∃ k, k = 17 := ⟨_, rfl⟩
  rw [← hk30] at z29
  have nk30 : ¬ k30 = 0 := by omega
  have HK29 := Lib.hid hk30
  obtain ⟨k40, hk40⟩ : ∃ k, k = 18 := ⟨_, rfl⟩
  rw [← hk40] at z31
  have nk40 : ¬ k40 = 0 := by omega
  have HK31 := Lib.hid hk40
  have hP : Try.prog = PD := rfl
  rw [hP] at t3 u3 g3 z3 t4 u4 g4 z4 t24 u24 g24 z24 t29 u29 g29 z29 t31 u31 g31 z31 t47 u47 g47 z47 c7 c8 c11 c16 c19 c20 c26 c34 c35 mixed ⊢
  have HP := Lib.hid hP.symm
  clear hP hk30 hk40
  go_wp2_with (first | (go_at_call 7; (refine (at_prog HP.out (newSI w (fun k => k < w.heap.size) (fun k hk => hk))).mono ?_; rintro e w1 ⟨t, rfl, ht, hf1, hS1⟩)) | (go_at_call 7; (refine (at_prog HP.out (newSI w1 (fun k => w.heap.size ≤ k ∧ k < w1.heap.size) (fun k hk => hk.2))).mono ?_; rintro e w2 ⟨u, rfl, hu, hf2, hS2⟩)) | fail)
  obtain ⟨X, hX⟩ : ∃ X : Nat → Prop, (fun k => k < w.heap.size ∨ w1.heap.size ≤ k ∧ k < w2.heap.size) = X := ⟨_, rfl⟩
  have H2 : Hid (StI w2 t [] X ∧ StI w2 u [] (fun k => ¬ X k) ∧ (∀ k, X k → k < w2.heap.size) ∧ (∀ k, ¬ X k → w.heap.size ≤ k) ∧ Fr No w w2) := by
    refine ⟨(hS1.add (Y := X) fun k hk => ?_).no hf2, hS2.add fun k hk => ?_, fun k hk => ?_, fun k hk => ?_, hf1.trans hf2⟩
    · rw [← hX] at hk
      exact hk.imp id fun h => h.1
    · rw [← hX] at hk
      by_cases h1 : w2.heap.size ≤ k
      · exact .inr h1
      · exact .inl ⟨Nat.le_of_not_lt fun h => hk (.inl h), Nat.lt_of_not_le fun h => hk (.inr ⟨h, by omega⟩)⟩
    · rw [← hX] at hk
      rcases hk with h | h
      · exact Nat.lt_of_lt_of_le h (Nat.le_trans hf1.size hf2.size)
      · exact h.2
    · rw [← hX] at hk
      exact Nat.le_of_not_lt fun h => hk (.inl h)
  clear hX hS1 hS2 hf1 hf2 ht hu
  go_loopg [5] 42 (fun g s wr => ∃ (i : Nat), s = .int .i64 i ∧ i ≤ 40 ∧ 41 - i < g ∧ Hid (∃ L, StI wr t L X ∧ L.length ≤ i ∧ Fr (fun k => ¬ X k) w2 wr))
  case atStart => exact ⟨0, by go_num, by omega, by omega, [], H2.out.1, by simp, Fr.refl _ _⟩
  case round =>
    obtain ⟨i, rfl, hi40, hig, HR⟩ := hrel
    have p1 : (0 : Int) ≤ (i : Int) := by omega
    by_cases hb : i < n ∧ i < 40
    · obtain ⟨hin, hi4⟩ := hb
      obtain ⟨g, o, q, hq, hag, lq⟩ := HA.out.load hin
      subst hag
      have p2 : (i : Int) < (n : Int) := by omega
      have p3 : (i : Int) < 40 := by omega
      obtain ⟨L, hS, hL, hf⟩ := HR.out
      have hfw : Fr No w wr := H2.out.2.2.2.2.ofNew hf fun k hk => .inr (H2.out.2.2.2.1 k hk)
      obtain ⟨Q, hQ⟩ : ∃ Q, (pfx q.b q.xs q.n).toArray = Q := ⟨_, rfl⟩
      have HPG : Hid (∀ w', Calls Try.prog 8 #[.agg Q] w' (GenP w')) := fun w' => by rw [← hQ]; exact prefix_gen q.b q.xs q.n hq w'
      have l1 := lq PD wr hfw
      rw [hQ, ← HK31.out] at l1
      have HST := Lib.hid (And.intro hS (And.intro hL hf))
      clear lq hQ hS hL hf hfw hq
      go_wp2_with (first | (go_at_call 8; ((refine (at_prog HP.out (HPG.out _)).mono ?_); rintro e w3 ⟨gb, gx, gn, hgb, -, rfl, hf3⟩)) | (go_at_call 11; ((refine (at_prog HP.out (HIN.out _ t L X gb gx gn _ (HST.out.1.no hf3) (fun k hk => Nat.lt_of_lt_of_le (H2.out.2.2.1 k hk) (Nat.le_trans HST.out.2.2.size hf3.size)) (by have := HST.out.2.1; omega) hgb)).mono ?_); rintro e w4 ⟨r, rfl, ⟨L', hS', hL'⟩, hf4⟩)) | fail)
      go_roundg (41 - i)
      case measure => exact hig
      case rel => exact ⟨i + 1, by go_num, by omega, by omega, L', hS', by have := HST.out.2.1; omega, (HST.out.2.2.trans (hf3.mono fun _ _ h => h.elim)).trans hf4⟩
    · have hx : ¬ ((i : Int) < (n : Int)) ∨ ((i : Int) < (n : Int) ∧ ¬ ((i : Int) < 40)) := by omega
      rcases hx with p2 | ⟨p2, p3⟩
      · obtain ⟨L, hS, hL, hf⟩ := HR.out
        have hSu : StI wr u [] (fun k => ¬ X k) := H2.out.2.1.fr hf fun k hk => hk
        have Fw : Fr No w wr := H2.out.2.2.2.2.ofNew hf fun k hk => .inr (H2.out.2.2.2.1 k hk)
        obtain ⟨A, hA⟩ : ∃ A, L.map (fun e => e.1) = A := ⟨_, rfl⟩
        obtain ⟨m, hm⟩ : ∃ m, L.length = m := ⟨_, rfl⟩
        have hAb : ∀ q ∈ A, Bytes q.xs := fun q hq => by
          rw [← hA] at hq
          obtain ⟨e, he, rfl⟩ := List.mem_map.1 hq
          exact (hS.srt.2 e he).1
        have hAm : A.length = m := by rw [← hA, List.length_map, hm]
        have hm40 : m ≤ 40 := by omega
        have HPX : Hid (∀ w', Fr No wr w' → Calls Try.prog 19 #[.pointer (some ⟨t, 0, none⟩)] w' fun e w'' => ∃ ad cp, e = .returned (.slice ad m cp) ∧ w''.ownsRow w'.heap.size 31 18 (.slice ad m cp) m (flatP A) ∧ Fr No w' w'') := fun w' h => by
          have := prefixesSI (hS.no h) (by omega)
          rw [hA, hm] at this
          exact this
        have HLE : Hid (∀ w', Fr No wr w' → Calls Try.prog 16 #[.pointer (some ⟨t, 0, none⟩)] w' fun e w'' => e = .returned (.int .i64 (m : Int)) ∧ w'' = w') := fun w' h => by
          have := lenSI (hS.no h)
          rw [hm] at this
          exact this
        have HLU : Hid (∀ w', Fr No wr w' → Calls Try.prog 16 #[.pointer (some ⟨u, 0, none⟩)] w' fun e w'' => e = .returned (.int .i64 0) ∧ w'' = w') := fun w' h => lenSI (hSu.no h)
        have HPU : Hid (∀ w', Fr No wr w' → Calls Try.prog 19 #[.pointer (some ⟨u, 0, none⟩)] w' fun e w'' => ∃ ad cp, e = .returned (.slice ad 0 cp) ∧ Fr No w' w'') := fun w' h => by
          refine (prefixesSI (hSu.no h) (by simp)).mono ?_
          rintro e w'' ⟨ad, cp, he, -, hf⟩
          exact ⟨ad, cp, he, hf⟩
        have HOW : Hid (∀ (w' : World) (base k cp : Nat) (ad : Option Addr) (xs : List Value), w'.ownsRow base 31 18 (.slice ad k cp) k xs → k ≤ 40 → base ≤ w'.heap.size → Calls Try.prog 34 #[.slice ad k cp] w' fun e w'' => e = .returned (.tuple #[]) ∧ Fr (fun k => base ≤ k) w' w'') := fun w' base k cp ad xs h1 h2 h3 => overwrite_any h1 (by omega) h3
        have HRW : Hid (∀ (w' : World) (base cp : Nat) (ad : Option Addr), w'.ownsRow base 31 18 (.slice ad m cp) m (flatP A) → RowP w' ad A) := fun w' base cp ad h => (RowP.own hAb h).1
        have HEQ : Hid (∀ (w' : World) (ad ad' : Option Addr) (cp cp' : Nat), RowP w' ad A → RowP w' ad' A → Calls Try.prog 35 #[.slice ad m cp, .slice ad' m cp'] w' fun e w'' => e = .returned (.bool true) ∧ Fr No w' w'') := fun w' ad ad' cp cp' h1 h2 => by
          have h := equal_any ad ad' m m cp cp' A A w' h1 h2 hAm hAm (by omega)
          rw [decide_eq_true rfl] at h
          exact h
        have HMA : Hid (∀ (w' : World) (q : Px), Bytes q.xs → Fr No wr w' → Calls Try.prog 26 #[.pointer (some ⟨t, 0, none⟩), .agg (adr q.b q.xs).toArray] w' fun e w'' => ∃ ad k cp xs, e = .returned (.slice ad k cp) ∧ k ≤ 40 ∧ w''.ownsRow w'.heap.size 31 18 (.slice ad k cp) k xs ∧ Fr No w' w'') := fun w' q hq h => by
          refine (matchesSI (hS.no h) q.b q.xs hq).mono ?_
          rintro e w'' ⟨ad, cp, he, ho, hf⟩
          exact ⟨ad, _, cp, _, he, Nat.le_trans (List.length_filter_le _ _) (by omega), ho, hf⟩
        have HH := Lib.hid (And.intro Fw (And.intro hAb (And.intro hAm hm40)))
        clear hS hL hf hSu Fw hA hm hAb hm40 HIN HA H2
        by_cases hm0 : m = 0
        · subst hm0
          clear hAm
          go_wp2_with (first | (go_at_call 19; ((with_reducible refine (at_prog HP.out (HPX.out wr (Fr.refl _ _))).mono ?_); rintro e w3 ⟨ad, cp, rfl, hown, hf3⟩)) | (go_at_call 16; ((with_reducible refine (at_prog HP.out (HLE.out _ hf3)).mono ?_); rintro e wl ⟨rfl, hwl⟩; replace hwl := hwl.symm; subst hwl)) | (go_at_call 19; ((with_reducible refine (at_prog HP.out (HPX.out w3 hf3)).mono ?_); rintro e w4 ⟨ad2, cp2, rfl, hown2, hf4⟩)) | (go_at_call 34; ((with_reducible refine (at_prog HP.out (HOW.out _ _ _ cp2 ad2 _ hown2 (Nat.zero_le _) hf4.size)).mono ?_); rintro e w5 ⟨rfl, hf5⟩; have K5 : Fr No w3 w5 := hf4.ofNew hf5 fun k hk => .inr hk)) | (go_at_call 20; ((with_reducible refine (at_prog HP.out (awake_any _)).mono ?_); rintro e wa ⟨rfl, hfa⟩; have Ka : Fr No wr wa := (hf3.trans K5).trans hfa)) | (go_at_call 19; ((with_reducible refine (at_prog HP.out (HPX.out wa Ka)).mono ?_); rintro e w8 ⟨ad4, cp4, rfl, hown4, hf8⟩)) | (go_at_call 35; ((with_reducible refine (at_prog HP.out (HEQ.out _ _ _ _ _ (HRW.out _ _ _ _ hown4) ((HRW.out _ _ _ _ hown).no ((K5.trans hfa).trans hf8)))).mono ?_); rintro e w9 ⟨rfl, hf9⟩; have K9 : Fr No wr w9 := (Ka.trans hf8).trans hf9)) | (go_at_call 16; ((with_reducible refine (at_prog HP.out (HLU.out _ K9)).mono ?_); rintro e wl ⟨rfl, hwl⟩; replace hwl := hwl.symm; subst hwl)) | (go_at_call 19; ((with_reducible refine (at_prog HP.out (HPU.out _ K9)).mono ?_); rintro e w10 ⟨ad5, cp5, rfl, hf10⟩)) | fail)
          go_ret
          exact ⟨rfl, HH.out.1.trans (K9.trans hf10)⟩
        · obtain ⟨q, A', rfl⟩ : ∃ q A', A = q :: A' := by cases A with
            | nil => exact absurd hAm.symm hm0
            | cons q A' => exact ⟨q, A', rfl⟩
          obtain ⟨C, hC⟩ : ∃ C, (adr q.b q.xs).toArray = C := ⟨_, rfl⟩
          have HMQ : Hid (∀ w', Fr No wr w' → Calls Try.prog 26 #[.pointer (some ⟨t, 0, none⟩), .agg C] w' fun e w'' => ∃ ad k cp xs, e = .returned (.slice ad k cp) ∧ k ≤ 40 ∧ w''.ownsRow w'.heap.size 31 18 (.slice ad k cp) k xs ∧ Fr No w' w'') := fun w' h => by
            have := HMA.out w' q (HH.out.2.1 q List.mem_cons_self) h
            rw [hC] at this
            exact this
          have HLC : Hid (∀ (w' : World) (ad : Option Addr), RowP w' ad (q :: A') → ∃ b o, ad = some ⟨b, o, none⟩ ∧ ∀ w'', Fr No w' w'' → Sem.run PD (loadCellsFrom ⟨b, o, none⟩ 0 k30 #[]) w'' = .ok C w'') := fun w' ad h => by
            obtain ⟨b, o, h1, h2⟩ := first_load h
            refine ⟨b, o, h1, fun w'' hf => ?_⟩
            rw [← hC, HK29.out]
            exact h2 PD w'' hf
          have p4 : (0 : Int) < (m : Int) := by omega
          clear hAm hm0 hC HMA
          go_wp2_with (first | (go_at_call 19; ((with_reducible refine (at_prog HP.out (HPX.out wr (Fr.refl _ _))).mono ?_); rintro e w3 ⟨ad, cp, rfl, hown, hf3⟩; obtain ⟨gb, go, rfl, HLL⟩ := HLC.out _ _ (HRW.out _ _ _ _ hown); replace HLL := Lib.hid HLL)) | (go_at_call 16; ((with_reducible refine (at_prog HP.out (HLE.out _ hf3)).mono ?_); rintro e wl ⟨rfl, hwl⟩; replace hwl := hwl.symm; subst hwl)) | (go_at_call 19; ((with_reducible refine (at_prog HP.out (HPX.out w3 hf3)).mono ?_); rintro e w4 ⟨ad2, cp2, rfl, hown2, hf4⟩)) | (go_at_call 34; ((with_reducible refine (at_prog HP.out (HOW.out _ _ _ cp2 ad2 _ hown2 HH.out.2.2.2 hf4.size)).mono ?_); rintro e w5 ⟨rfl, hf5⟩; have K5 : Fr No w3 w5 := hf4.ofNew hf5 fun k hk => .inr hk; have l5 := HLL.out _ K5)) | (go_at_call 26; ((with_reducible refine (at_prog HP.out (HMQ.out _ (hf3.trans K5))).mono ?_); rintro e w6 ⟨ad3, m3, cp3, xs3, rfl, hm3, hown3, hf6⟩)) | (go_at_call 34; ((with_reducible refine (at_prog HP.out (HOW.out _ _ _ cp3 ad3 _ hown3 hm3 hf6.size)).mono ?_); rintro e w7 ⟨rfl, hf7⟩; have K7 : Fr No w3 w7 := K5.trans (hf6.ofNew hf7 fun k hk => .inr hk))) | (go_at_call 20; ((with_reducible refine (at_prog HP.out (awake_any _)).mono ?_); rintro e wa ⟨rfl, hfa⟩; have Ka : Fr No wr wa := (hf3.trans K7).trans hfa)) | (go_at_call 19; ((with_reducible refine (at_prog HP.out (HPX.out wa Ka)).mono ?_); rintro e w8 ⟨ad4, cp4, rfl, hown4, hf8⟩)) | (go_at_call 35; ((with_reducible refine (at_prog HP.out (HEQ.out _ _ _ _ _ (HRW.out _ _ _ _ hown4) ((HRW.out _ _ _ _ hown).no ((K7.trans hfa).trans hf8)))).mono ?_); rintro e w9 ⟨rfl, hf9⟩; have K9 : Fr No wr w9 := (Ka.trans hf8).trans hf9)) | (go_at_call 16; ((with_reducible refine (at_prog HP.out (HLU.out _ K9)).mono ?_); rintro e wl ⟨rfl, hwl⟩; replace hwl := hwl.symm; subst hwl)) | (go_at_call 19; ((with_reducible refine (at_prog HP.out (HPU.out _ K9)).mono ?_); rintro e w10 ⟨ad5, cp5, rfl, hf10⟩)) | fail)
          go_ret
          exact ⟨rfl, HH.out.1.trans (K9.trans hf10)⟩
      · obtain ⟨L, hS, hL, hf⟩ := HR.out
        have hSu : StI wr u [] (fun k => ¬ X k) := H2.out.2.1.fr hf fun k hk => hk
        have Fw : Fr No w wr := H2.out.2.2.2.2.ofNew hf fun k hk => .inr (H2.out.2.2.2.1 k hk)
        obtain ⟨A, hA⟩ : ∃ A, L.map (fun e => e.1) = A := ⟨_, rfl⟩
        obtain ⟨m, hm⟩ : ∃ m, L.length = m := ⟨_, rfl⟩
        have hAb : ∀ q ∈ A, Bytes q.xs := fun q hq => by
          rw [← hA] at hq
          obtain ⟨e, he, rfl⟩ := List.mem_map.1 hq
          exact (hS.srt.2 e he).1
        have hAm : A.length = m := by rw [← hA, List.length_map, hm]
        have hm40 : m ≤ 40 := by omega
        have HPX : Hid (∀ w', Fr No wr w' → Calls Try.prog 19 #[.pointer (some ⟨t, 0, none⟩)] w' fun e w'' => ∃ ad cp, e = .returned (.slice ad m cp) ∧ w''.ownsRow w'.heap.size 31 18 (.slice ad m cp) m (flatP A) ∧ Fr No w' w'') := fun w' h => by
          have := prefixesSI (hS.no h) (by omega)
          rw [hA, hm] at this
          exact this
        have HLE : Hid (∀ w', Fr No wr w' → Calls Try.prog 16 #[.pointer (some ⟨t, 0, none⟩)] w' fun e w'' => e = .returned (.int .i64 (m : Int)) ∧ w'' = w') := fun w' h => by
          have := lenSI (hS.no h)
          rw [hm] at this
          exact this
        have HLU : Hid (∀ w', Fr No wr w' → Calls Try.prog 16 #[.pointer (some ⟨u, 0, none⟩)] w' fun e w'' => e = .returned (.int .i64 0) ∧ w'' = w') := fun w' h => lenSI (hSu.no h)
        have HPU : Hid (∀ w', Fr No wr w' → Calls Try.prog 19 #[.pointer (some ⟨u, 0, none⟩)] w' fun e w'' => ∃ ad cp, e = .returned (.slice ad 0 cp) ∧ Fr No w' w'') := fun w' h => by
          refine (prefixesSI (hSu.no h) (by simp)).mono ?_
          rintro e w'' ⟨ad, cp, he, -, hf⟩
          exact ⟨ad, cp, he, hf⟩
        have HOW : Hid (∀ (w' : World) (base k cp : Nat) (ad : Option Addr) (xs : List Value), w'.ownsRow base 31 18 (.slice ad k cp) k xs → k ≤ 40 → base ≤ w'.heap.size → Calls Try.prog 34 #[.slice ad k cp] w' fun e w'' => e = .returned (.tuple #[]) ∧ Fr (fun k => base ≤ k) w' w'') := fun w' base k cp ad xs h1 h2 h3 => overwrite_any h1 (by omega) h3
        have HRW : Hid (∀ (w' : World) (base cp : Nat) (ad : Option Addr), w'.ownsRow base 31 18 (.slice ad m cp) m (flatP A) → RowP w' ad A) := fun w' base cp ad h => (RowP.own hAb h).1
        have HEQ : Hid (∀ (w' : World) (ad ad' : Option Addr) (cp cp' : Nat), RowP w' ad A → RowP w' ad' A → Calls Try.prog 35 #[.slice ad m cp, .slice ad' m cp'] w' fun e w'' => e = .returned (.bool true) ∧ Fr No w' w'') := fun w' ad ad' cp cp' h1 h2 => by
          have h := equal_any ad ad' m m cp cp' A A w' h1 h2 hAm hAm (by omega)
          rw [decide_eq_true rfl] at h
          exact h
        have HMA : Hid (∀ (w' : World) (q : Px), Bytes q.xs → Fr No wr w' → Calls Try.prog 26 #[.pointer (some ⟨t, 0, none⟩), .agg (adr q.b q.xs).toArray] w' fun e w'' => ∃ ad k cp xs, e = .returned (.slice ad k cp) ∧ k ≤ 40 ∧ w''.ownsRow w'.heap.size 31 18 (.slice ad k cp) k xs ∧ Fr No w' w'') := fun w' q hq h => by
          refine (matchesSI (hS.no h) q.b q.xs hq).mono ?_
          rintro e w'' ⟨ad, cp, he, ho, hf⟩
          exact ⟨ad, _, cp, _, he, Nat.le_trans (List.length_filter_le _ _) (by omega), ho, hf⟩
        have HH := Lib.hid (And.intro Fw (And.intro hAb (And.intro hAm hm40)))
        clear hS hL hf hSu Fw hA hm hAb hm40 HIN HA H2
        by_cases hm0 : m = 0
        · subst hm0
          clear hAm
          go_wp2_with (first | (go_at_call 19; ((with_reducible refine (at_prog HP.out (HPX.out wr (Fr.refl _ _))).mono ?_); rintro e w3 ⟨ad, cp, rfl, hown, hf3⟩)) | (go_at_call 16; ((with_reducible refine (at_prog HP.out (HLE.out _ hf3)).mono ?_); rintro e wl ⟨rfl, hwl⟩; replace hwl := hwl.symm; subst hwl)) | (go_at_call 19; ((with_reducible refine (at_prog HP.out (HPX.out w3 hf3)).mono ?_); rintro e w4 ⟨ad2, cp2, rfl, hown2, hf4⟩)) | (go_at_call 34; ((with_reducible refine (at_prog HP.out (HOW.out _ _ _ cp2 ad2 _ hown2 (Nat.zero_le _) hf4.size)).mono ?_); rintro e w5 ⟨rfl, hf5⟩; have K5 : Fr No w3 w5 := hf4.ofNew hf5 fun k hk => .inr hk)) | (go_at_call 20; ((with_reducible refine (at_prog HP.out (awake_any _)).mono ?_); rintro e wa ⟨rfl, hfa⟩; have Ka : Fr No wr wa := (hf3.trans K5).trans hfa)) | (go_at_call 19; ((with_reducible refine (at_prog HP.out (HPX.out wa Ka)).mono ?_); rintro e w8 ⟨ad4, cp4, rfl, hown4, hf8⟩)) | (go_at_call 35; ((with_reducible refine (at_prog HP.out (HEQ.out _ _ _ _ _ (HRW.out _ _ _ _ hown4) ((HRW.out _ _ _ _ hown).no ((K5.trans hfa).trans hf8)))).mono ?_); rintro e w9 ⟨rfl, hf9⟩; have K9 : Fr No wr w9 := (Ka.trans hf8).trans hf9)) | (go_at_call 16; ((with_reducible refine (at_prog HP.out (HLU.out _ K9)).mono ?_); rintro e wl ⟨rfl, hwl⟩; replace hwl := hwl.symm; subst hwl)) | (go_at_call 19; ((with_reducible refine (at_prog HP.out (HPU.out _ K9)).mono ?_); rintro e w10 ⟨ad5, cp5, rfl, hf10⟩)) | fail)
          go_ret
          exact ⟨rfl, HH.out.1.trans (K9.trans hf10)⟩
        · obtain ⟨q, A', rfl⟩ : ∃ q A', A = q :: A' := by cases A with
            | nil => exact absurd hAm.symm hm0
            | cons q A' => exact ⟨q, A', rfl⟩
          obtain ⟨C, hC⟩ : ∃ C, (adr q.b q.xs).toArray = C := ⟨_, rfl⟩
          have HMQ : Hid (∀ w', Fr No wr w' → Calls Try.prog 26 #[.pointer (some ⟨t, 0, none⟩), .agg C] w' fun e w'' => ∃ ad k cp xs, e = .returned (.slice ad k cp) ∧ k ≤ 40 ∧ w''.ownsRow w'.heap.size 31 18 (.slice ad k cp) k xs ∧ Fr No w' w'') := fun w' h => by
            have := HMA.out w' q (HH.out.2.1 q List.mem_cons_self) h
            rw [hC] at this
            exact this
          have HLC : Hid (∀ (w' : World) (ad : Option Addr), RowP w' ad (q :: A') → ∃ b o, ad = some ⟨b, o, none⟩ ∧ ∀ w'', Fr No w' w'' → Sem.run PD (loadCellsFrom ⟨b, o, none⟩ 0 k30 #[]) w'' = .ok C w'') := fun w' ad h => by
            obtain ⟨b, o, h1, h2⟩ := first_load h
            refine ⟨b, o, h1, fun w'' hf => ?_⟩
            rw [← hC, HK29.out]
            exact h2 PD w'' hf
          have p4 : (0 : Int) < (m : Int) := by omega
          clear hAm hm0 hC HMA
          go_wp2_with (first | (go_at_call 19; ((with_reducible refine (at_prog HP.out (HPX.out wr (Fr.refl _ _))).mono ?_); rintro e w3 ⟨ad, cp, rfl, hown, hf3⟩; obtain ⟨gb, go, rfl, HLL⟩ := HLC.out _ _ (HRW.out _ _ _ _ hown); replace HLL := Lib.hid HLL)) | (go_at_call 16; ((with_reducible refine (at_prog HP.out (HLE.out _ hf3)).mono ?_); rintro e wl ⟨rfl, hwl⟩; replace hwl := hwl.symm; subst hwl)) | (go_at_call 19; ((with_reducible refine (at_prog HP.out (HPX.out w3 hf3)).mono ?_); rintro e w4 ⟨ad2, cp2, rfl, hown2, hf4⟩)) | (go_at_call 34; ((with_reducible refine (at_prog HP.out (HOW.out _ _ _ cp2 ad2 _ hown2 HH.out.2.2.2 hf4.size)).mono ?_); rintro e w5 ⟨rfl, hf5⟩; have K5 : Fr No w3 w5 := hf4.ofNew hf5 fun k hk => .inr hk; have l5 := HLL.out _ K5)) | (go_at_call 26; ((with_reducible refine (at_prog HP.out (HMQ.out _ (hf3.trans K5))).mono ?_); rintro e w6 ⟨ad3, m3, cp3, xs3, rfl, hm3, hown3, hf6⟩)) | (go_at_call 34; ((with_reducible refine (at_prog HP.out (HOW.out _ _ _ cp3 ad3 _ hown3 hm3 hf6.size)).mono ?_); rintro e w7 ⟨rfl, hf7⟩; have K7 : Fr No w3 w7 := K5.trans (hf6.ofNew hf7 fun k hk => .inr hk))) | (go_at_call 20; ((with_reducible refine (at_prog HP.out (awake_any _)).mono ?_); rintro e wa ⟨rfl, hfa⟩; have Ka : Fr No wr wa := (hf3.trans K7).trans hfa)) | (go_at_call 19; ((with_reducible refine (at_prog HP.out (HPX.out wa Ka)).mono ?_); rintro e w8 ⟨ad4, cp4, rfl, hown4, hf8⟩)) | (go_at_call 35; ((with_reducible refine (at_prog HP.out (HEQ.out _ _ _ _ _ (HRW.out _ _ _ _ hown4) ((HRW.out _ _ _ _ hown).no ((K7.trans hfa).trans hf8)))).mono ?_); rintro e w9 ⟨rfl, hf9⟩; have K9 : Fr No wr w9 := (Ka.trans hf8).trans hf9)) | (go_at_call 16; ((with_reducible refine (at_prog HP.out (HLU.out _ K9)).mono ?_); rintro e wl ⟨rfl, hwl⟩; replace hwl := hwl.symm; subst hwl)) | (go_at_call 19; ((with_reducible refine (at_prog HP.out (HPU.out _ K9)).mono ?_); rintro e w10 ⟨ad5, cp5, rfl, hf10⟩)) | fail)
          go_ret
          exact ⟨rfl, HH.out.1.trans (K9.trans hf10)⟩
end Go.Proofs.Ytnbohhiooigmbaa
