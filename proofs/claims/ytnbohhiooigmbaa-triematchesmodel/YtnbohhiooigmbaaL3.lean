/-
  THE LAW TrieMatchesModel: its walk.
  Conditions: the lists lie in memory.
-/
import Derived.Test.YtnbohhiooigmbaaLm
import Derived.Test.YtnbohhiooigmbaaEg
import Derived.Test.YtnbohhiooigmbaaEu
import Derived.Test.YtnbohhiooigmbaaWm
import Derived.Test.YtnbohhiooigmbaaXnI
import Derived.Test.YtnbohhiooigmbaaXp
import Derived.Test.YtnbohhiooigmbaaAw
import Derived.Test.YtnbohhiooigmbaaGc
import Derived.Test.YtnbohhiooigmbaaCg
import Derived.Deep.DeepCutAuto
import Derived.Deep.CutBlock
namespace Go.Proofs.Ytnbohhiooigmbaa
open Go.ChangeShapes Go.WideShapes Go.ChangeAt Go.RowKit
set_option linter.unusedVariables false

set_option maxHeartbeats 8000000 in
set_option maxRecDepth 100000 in
theorem model_walk (a0 : Option Addr) (n0 c0 : Nat) (a1 : Option Addr) (n1 c1 : Nat) (w : World) (h0 : InK 20 isOp w a0 n0) (h1 : InK 17 isAdr w a1 n1) :
    Calls Try.prog 3 #[.slice a0 n0 c0, .slice a1 n1 c1] w fun e w' => e = .returned (.bool true) ∧ Fr No w w' := by
  obtain ⟨Z, hZ⟩ : ∃ Z : Array Value, noP.toArray = Z := ⟨_, rfl⟩
  have v31 := zero31
  rw [hZ] at v31
  have hZs : Z.size = 18 := by rw [← hZ]; rfl
  have HA := Lib.hid (And.intro h0 h1)
  have hn0 : n0 ≤ 9223372036854775807 := h0.1
  have hn1 : n1 ≤ 9223372036854775807 := h1.1
  clear h0 h1 hZ
  go_enter Try.func3, Try.ntmps3
  have t3 := Try.underlying3
  have u3 := Try.runUnderlying3
  have g3 := Try.isAgg3
  have z3 := Try.sizeOf3
  have t4 := Try.underlying4
  have u4 := Try.runUnderlying4
  have g4 := Try.isAgg4
  have z4 := Try.sizeOf4
  have t22 := Try.underlying22
  have u22 := Try.runUnderlying22
  have g22 := Try.isAgg22
  have z22 := Try.sizeOf22
  have t23 := Try.underlying23
  have u23 := Try.runUnderlying23
  have g23 := Try.isAgg23
  have z23 := Try.sizeOf23
  have t24 := Try.underlying24
  have u24 := Try.runUnderlying24
  have g24 := Try.isAgg24
  have z24 := Try.sizeOf24
  have t26 := Try.underlying26
  have u26 := Try.runUnderlying26
  have g26 := Try.isAgg26
  have z26 := Try.sizeOf26
  have t29 := Try.underlying29
  have u29 := Try.runUnderlying29
  have g29 := Try.isAgg29
  have z29 := Try.sizeOf29
  have t31 := Try.underlying31
  have u31 := Try.runUnderlying31
  have g31 := Try.isAgg31
  have z31 := Try.sizeOf31
  have t34 := Try.underlying34
  have u34 := Try.runUnderlying34
  have g34 := Try.isAgg34
  have z34 := Try.sizeOf34
  have t37 := Try.underlying37
  have u37 := Try.runUnderlying37
  have g37 := Try.isAgg37
  have z37 := Try.sizeOf37
  have t47 := Try.underlying47
  have u47 := Try.runUnderlying47
  have g47 := Try.isAgg47
  have z47 := Try.sizeOf47
  have c7 := Try.call7
  have c8 := Try.call8
  have c9 := Try.call9
  have c10 := Try.call10
  have c11 := Try.call11
  have c12 := Try.call12
  have c13 := Try.call13
  have c14 := Try.call14
  have c15 := Try.call15
  have c16 := Try.call16
  have c17 := Try.call17
  have c18 := Try.call18
  have c19 := Try.call19
  have c20 := Try.call20
  have mixed : Try.prog.follows .mixedOrders = true := by kernel_rfl
  obtain ⟨k30, hk30⟩ : ∃ k, k = 17 := ⟨_, rfl⟩
  rw [← hk30] at z29
  have nk30 : ¬ k30 = 0 := by omega
  have HK29 := Lib.hid hk30
  obtain ⟨k40, hk40⟩ : ∃ k, k = 18 := ⟨_, rfl⟩
  rw [← hk40] at z31
  have nk40 : ¬ k40 = 0 := by omega
  have HK31 := Lib.hid hk40
  obtain ⟨k19, hk19⟩ : ∃ k, k = 19 := ⟨_, rfl⟩
  rw [← hk19] at z37
  have nk19 : ¬ k19 = 0 := by omega
  have HK37 := Lib.hid hk19
  obtain ⟨k20, hk20⟩ : ∃ k, k = 20 := ⟨_, rfl⟩
  rw [← hk20] at z34
  have nk20 : ¬ k20 = 0 := by omega
  have HK34 := Lib.hid hk20
  have hP : Try.prog = PD := rfl
  rw [hP] at t3 u3 g3 z3 t4 u4 g4 z4 t22 u22 g22 z22 t23 u23 g23 z23 t24 u24 g24 z24 t26 u26 g26 z26 t29 u29 g29 z29 t31 u31 g31 z31 t34 u34 g34 z34 t37 u37 g37 z37 t47 u47 g47 z47 c7 c8 c9 c10 c11 c12 c13 c14 c15 c16 c17 c18 c19 c20 mixed v31 ⊢
  have HP := Lib.hid hP.symm
  clear hP hk30 hk40 hk19 hk20
  have hZk : Z.size = k40 := by rw [HK31.out]; exact hZs
  clear hZs
  go_wp2_with (first | (go_at_call 7; (refine (at_prog HP.out (newSI w (fun k => k < w.heap.size) (fun k hk => hk))).mono ?_; rintro e w1 ⟨t, rfl, ht, hf1, hS1⟩)) | fail)
  have H1 : Hid (Both w w1 t none 0 [] (fun k => k < w.heap.size)) := ⟨hS1, ⟨fun e he => (by cases he), fun h => absurd rfl h⟩, rfl, fun k hk => Nat.lt_of_lt_of_le hk hf1.size, fun k hk => hk, fun q hq => (by cases hq), hf1⟩
  clear ht hf1 hS1
  go_loopg [6, 7] 42 (fun g s6 s7 wr => ∃ (i n cp : Nat) (ad : Option Addr), s6 = .slice ad n cp ∧ s7 = .int .i64 i ∧ i ≤ 40 ∧ 41 - i < g ∧ n ≤ i ∧ n ≤ cp ∧ cp ≤ 9223372036854775807 ∧ Hid (∃ L X, Both w wr t ad n L X))
  case atStart => exact ⟨0, 0, 0, none, by go_num, by go_num, by omega, by omega, by omega, by omega, by omega, [], _, H1.out⟩
  case round =>
    obtain ⟨i, n, cp, ad, rfl, rfl, hi40, hig, hni, hnc, hcp, HR⟩ := hrel
    have p1 : (0 : Int) ≤ (i : Int) := by omega
    by_cases hb : i < n0 ∧ i < 40
    · obtain ⟨hin, hi4⟩ := hb
      obtain ⟨bo, oo, kk, xx, q, hq, rfl, lo⟩ := op_at HA.out.1 hin
      obtain ⟨L, X, hB⟩ := HR.out
      have p2 : (i : Int) < (n0 : Int) := by omega
      have p3 : (i : Int) < 40 := by omega
      obtain ⟨Q, hQ⟩ : ∃ Q, (pfx q.b q.xs q.n).toArray = Q := ⟨_, rfl⟩
      have HPG : Hid (∀ w', Calls Try.prog 8 #[.agg Q] w' (GenP w')) := fun w' => by rw [← hQ]; exact prefix_gen q.b q.xs q.n hq w'
      have HLO : Hid (∀ w', Fr No w w' → w'.cell? ⟨bo, oo + i * k20, none⟩ = some (.int .i64 kk) ∧ Sem.run PD (loadCellsFrom ⟨bo, oo + i * k20 + 1, none⟩ 0 k40 #[]) w' = .ok Q w' ∧ w'.cell? ⟨bo, oo + i * k20 + 19, none⟩ = some (.int .i64 xx)) := fun w' hf => by
        rw [HK34.out, HK31.out, ← hQ]; exact lo PD w' hf
      obtain ⟨-, l1, -⟩ := HLO.out _ hB.2.2.2.2.2.2
      have HB := Lib.hid hB
      have HQ := Lib.hid (And.intro hq hQ)
      clear lo hq hQ hB
      go_upto_if 35 with (first | (go_at_call 8; ((refine (at_prog HP.out (HPG.out _)).mono ?_); rintro e w2 ⟨gb, gx, gn, hgb, -, rfl, hf2⟩; obtain ⟨Q2, hQ2⟩ : ∃ Q2, (pfx gb gx gn).toArray = Q2 := ⟨_, rfl⟩; rw [hQ2]; have hQ2s : Q2.size = k40 := (by rw [HK31.out, ← hQ2, List.size_toArray]; exact pfx_length hgb.1); obtain ⟨y2, hst2, hyb2, hyf2⟩ := store_all (P := PD) Q2.toList (heap_alloc_new w2 (.cells Z 31)) (by rw [Array.length_toList, hQ2s, hZk]) (by rw [← hQ2]; exact pfx_one _ _ _); have K2 : Fr No wr y2 := (hf2.trans (Fr.alloc No w2 (.cells Z 31))).ofNew hyf2 (fun k hk => .inr (by rw [hk]; exact hf2.size)))) | fail)
      obtain ⟨b8, hb8⟩ : ∃ b8, w2.heap.size = b8 := ⟨_, rfl⟩
      rw [hb8] at hyb2
      rw [hb8]
      have k8 : y2.heap[b8]? = some (.cells Q2 31 (0, 0)) := by simpa using hyb2
      have hQs : Q.size = k40 := by rw [HK31.out, ← HQ.out.2, List.size_toArray]; exact pfx_length HQ.out.1.1
      have hQ1 : ∀ u ∈ Q.toList, u.oneCell' = true := by rw [← HQ.out.2]; exact pfx_one _ _ _
      obtain ⟨y3, hst3, hyb3, hyf3⟩ := store_all (P := PD) Q.toList k8 (by rw [Array.length_toList, hQs, hQ2s]) hQ1
      have l2 := (HLO.out _ (HB.out.2.2.2.2.2.2.trans K2)).2.1
      have H8 : Hid (wr.heap.size ≤ b8 ∧ y2.heap[b8]? = some (.cells Q2 31 (0, 0)) ∧ Fr No wr y2 ∧ (pfx gb gx gn).toArray = Q2 ∧ Bytes gx ∧ y3.heap[b8]? = some (.cells Q 31 (0, 0)) ∧ Fr No wr y3) := ⟨by rw [← hb8]; exact hf2.size, k8, K2, hQ2, hgb, by simpa using hyb3, K2.ofNew hyf3 fun k hk => .inr (by rw [hk, ← hb8]; exact hf2.size)⟩
      clear hst2 hyb2 hyf2 hf2 k8 K2 hQ2 hgb hyb3 hyf3 hQ1 hb8 l1
      go_cut [] (fun wx => Hid (∃ q : Px, Bytes q.xs ∧ wx.heap[b8]? = some (.cells (pfx q.b q.xs q.n).toArray 31 (0, 0)) ∧ Fr No wr wx))
      case first =>
        go_wp2_with fail
        all_goals (
          go_meet
          case rel => first | exact ⟨q, HQ.out.1, by rw [HQ.out.2]; exact H8.out.2.2.2.2.2.1, H8.out.2.2.2.2.2.2⟩ | exact ⟨⟨gb, gx, gn⟩, H8.out.2.2.2.2.1, by rw [H8.out.2.2.2.1]; exact H8.out.2.1, H8.out.2.2.1⟩)
      case rest =>
        obtain ⟨q1, hq1, k81, K1⟩ := hcut
        have HMN : Hid (∀ (z : Int) (w' : World), 0 < n → Calls Try.prog 9 #[.int .i64 z, .int .i64 (n : Int)] w' fun e w'' => ∃ p : Nat, p < n ∧ e = .returned (.int .i64 (p : Int)) ∧ w'' = w') := fun z w' h => by
          obtain ⟨p, hp, hc⟩ := mod_fix z n h (by omega)
          refine (hc w').mono ?_
          rintro e w'' ⟨he, hw⟩
          exact ⟨p, hp, he, hw⟩
        have HM4 : Hid (∀ (w' : World), Calls Try.prog 9 #[.int .i64 xx, .int .i64 4] w' fun e w'' => ∃ p : Nat, e = .returned (.int .i64 (p : Int)) ∧ w'' = w') := fun w' => by
          obtain ⟨p, -, hc⟩ := mod_fix xx 4 (by decide) (by decide)
          refine (hc w').mono ?_
          rintro e w'' ⟨he, hw⟩
          exact ⟨p, he, hw⟩
        obtain ⟨-, -, x1⟩ := HLO.out _ (HB.out.2.2.2.2.2.2.trans K1)
        have HK1 := Lib.hid (And.intro hq1 (And.intro k81 K1))
        clear hst3 hQs hQ2s l2 hq1 k81 K1
        go_upto_region 11 with fail
        go_cut [52] (fun s52 wx => ∃ bb : Bool, s52 = .bool bb ∧ Hid (wx = wc ∧ (bb = true → 0 < n)))
        case first =>
          by_cases hn0' : n = 0
          · subst hn0'
            go_wp2_with fail
            go_meet
            case rel => exact ⟨false, rfl, rfl, fun h => by cases h⟩
          · have p4 : (0 : Int) < (n : Int) := by omega
            go_wp2_with (first | (go_at_call 9; ((refine (at_prog HP.out (HM4.out _)).mono ?_); rintro e w4 ⟨m4, rfl, hw4⟩; replace hw4 := hw4.symm; subst hw4)) | fail)
            all_goals (
              go_meet
              case rel => exact ⟨_, rfl, rfl, fun _ => by omega⟩)
        case rest =>
          obtain ⟨bb, rfl, hcut2⟩ := hcut
          obtain ⟨hwc2, hbn⟩ := hcut2
          subst hwc2
          go_upto_if 52 with fail
          go_cut [] (fun wx => Hid (∃ q : Px, Bytes q.xs ∧ wx.heap[b8]? = some (.cells (pfx q.b q.xs q.n).toArray 31 (0, 0)) ∧ Fr No wr wx))
          case first =>
            cases bb
            · go_wp2_with fail
              go_meet
              case rel => exact ⟨q1, HK1.out⟩
            · have hpos := hbn rfl
              go_wp2_with (first | (go_at_call 9; ((refine (at_prog HP.out (HMN.out _ _ hpos)).mono ?_); rintro e w5 ⟨p5, hp5, rfl, hw5⟩; replace hw5 := hw5.symm; subst hw5; obtain ⟨xq, gxq⟩ : ∃ x, L[p5]? = some x := ⟨_, List.getElem?_eq_getElem (by rw [HB.out.2.2.1]; exact hp5)⟩; obtain ⟨ba, oa, rfl, lxq⟩ := HB.out.2.1.at gxq; have hokq := HB.out.2.1.1 xq (List.mem_of_getElem? gxq); obtain ⟨XQ, hXQ⟩ : ∃ XQ, (pfx xq.1.b xq.1.xs xq.1.n).toArray = XQ := ⟨_, rfl⟩; have hXs : XQ.size = k40 := (by rw [HK31.out, ← hXQ, List.size_toArray]; exact pfx_length hokq.1.1); have lXQ : Sem.run PD (loadCellsFrom ⟨ba, oa + p5 * k19, none⟩ 0 k40 #[]) _ = .ok XQ _ := (by rw [HK37.out, HK31.out, ← hXQ]; exact (lxq PD _ HK1.out.2.2).2.1); obtain ⟨y5, hst5, hyb5, hyf5⟩ := store_all (P := PD) XQ.toList HK1.out.2.1 (by rw [Array.length_toList, hXs, HK31.out, List.size_toArray, pfx_length HK1.out.1.1]) (by rw [← hXQ]; exact pfx_one _ _ _); have p6 : (0 : Int) ≤ (p5 : Int) := (by omega); have p7 : (p5 : Int) < (n : Int) := (by omega))) | fail)
              go_meet
              case rel => exact ⟨xq.1, hokq.1, by rw [hXQ]; simpa using hyb5, HK1.out.2.2.ofNew hyf5 fun k hk => .inr (by rw [hk]; exact H8.out.1)⟩
          case rest =>
            obtain ⟨q2, hq2, k82, K2⟩ := hcut
            obtain ⟨Q3, hQ3⟩ : ∃ Q3, (pfx q2.b q2.xs q2.n).toArray = Q3 := ⟨_, rfl⟩
            rw [hQ3] at k82
            have hQ3k : Q3.size = k40 := by rw [HK31.out, ← hQ3, List.size_toArray]; exact pfx_length hq2.1
            have HFD : Hid (∀ w', Fr No wr w' → Calls Try.prog 10 #[.slice ad n cp, .agg Q3] w' fun e w'' => e = .returned (.int .i64 (findX q2 L)) ∧ Fr No w' w'') := fun w' h => by
              have h := find_any ad n cp L q2 w' (HB.out.2.1.no h) HB.out.2.2.1 (by omega) hq2
              rw [hQ3] at h
              exact h
            have HM6 : Hid (∀ (w' : World), Calls Try.prog 9 #[.int .i64 kk, .int .i64 6] w' fun e w'' => ∃ p : Nat, e = .returned (.int .i64 (p : Int)) ∧ w'' = w') := fun w' => by
              obtain ⟨p, -, hc⟩ := mod_fix kk 6 (by decide) (by decide)
              refine (hc w').mono ?_
              rintro e w'' ⟨he, hw⟩
              exact ⟨p, he, hw⟩
            have lq2 : Sem.run PD (loadCellsFrom ⟨b8, 0, none⟩ 0 k40 #[]) wc = .ok Q3 wc := load_block k82 hQ3k (fun j v hv => by simpa using hv)
            have HK2 := Lib.hid (And.intro hq2 (And.intro hQ3 (And.intro k82 K2)))
            clear hq2 k82 K2 x1 hQ3
            go_upto_region 14 with (first | (go_at_call 10; ((with_reducible refine (at_prog HP.out (HFD.out _ HK2.out.2.2.2)).mono ?_); rintro e w6 ⟨rfl, hf6⟩; have K6 := HK2.out.2.2.2.trans hf6; obtain ⟨c6, -, x6⟩ := HLO.out _ (HB.out.2.2.2.2.2.2.trans K6))) | fail)
            obtain ⟨at0, hat⟩ : ∃ z, findX q2 L = z := ⟨_, rfl⟩
            rw [hat]
            have HAT := Lib.hid hat
            clear hat lq2
            go_cut [75] (fun s75 wx => ∃ bb : Bool, s75 = .bool bb ∧ Hid (wx = w6))
            case first =>
              go_wp2_with (first | (go_at_call 9; ((refine (at_prog HP.out (HM6.out _)).mono ?_); rintro e w7 ⟨m6, rfl, hw7⟩; replace hw7 := hw7.symm; subst hw7)) | fail)
              go_meet
              case rel => exact ⟨_, rfl, rfl⟩
            case rest =>
              obtain ⟨b75, rfl, hcut3⟩ := hcut
              replace hcut3 := hcut3.symm
              subst hcut3
              go_upto_if 75 with fail
              obtain ⟨X1, hX1⟩ : ∃ X1 : Nat → Prop, (fun k => X k ∨ k = b8) = X1 := ⟨_, rfl⟩
              have HS6 : Hid (StI w6 t L X1 ∧ (∀ k, X1 k → k < w6.heap.size) ∧ RowE w6 ad L ∧ w6.heap[b8]? = some (.cells Q3 31 (0, 0)) ∧ X1 b8 ∧ (∀ k, k < w.heap.size → X1 k) ∧ (∀ q, ad = some q → X1 q.block) ∧ Fr No w w6 ∧ L.length = n) := by
                obtain ⟨g1, g2, g3, g4, g5, g6, g7⟩ := HB.out
                have k86 := hf6.keep HK2.out.2.2.1
                refine ⟨(g1.add (Y := X1) fun k hk => ?_).no K6, fun k hk => ?_, g2.no K6, k86, ?_, fun k hk => ?_, fun q hq => ?_, g7.trans K6, g3⟩
                · rw [← hX1] at hk
                  exact hk.imp id fun h => by rw [h]; exact H8.out.1
                · rw [← hX1] at hk
                  rcases hk with h | h
                  · exact Nat.lt_of_lt_of_le (g4 k h) K6.size
                  · rw [h]; exact some_lt k86
                · rw [← hX1]; exact .inr rfl
                · rw [← hX1]; exact .inl (g5 k hk)
                · rw [← hX1]; exact .inl (g6 q hq)
              have HSv : Hid (∀ w', Fr (fun k => ¬ X1 k) w6 w' → Fr (fun k => ¬ X1 k) w6 w' ∧ Sem.run PD (loadCellsFrom ⟨b8, 0, none⟩ 0 k40 #[]) w' = .ok Q3 w' ∧ w'.cell? ⟨bo, oo + i * k20 + 19, none⟩ = some (.int .i64 xx)) := fun w' h => by
                have hw : Fr No w w' := HS6.out.2.2.2.2.2.2.2.1.ofNew h fun k hk => .inr (Nat.le_of_not_lt fun hc => hk (HS6.out.2.2.2.2.2.1 k hc))
                exact ⟨h, load_block ((h.block b8 (some_lt HS6.out.2.2.2.1) fun hc => hc HS6.out.2.2.2.2.1).trans HS6.out.2.2.2.1) hQ3k (fun j v hv => by simpa using hv), (HLO.out w' hw).2.2⟩
              have HIN : Hid (∀ w', Fr No w6 w' → Calls Try.prog 11 #[.pointer (some ⟨t, 0, none⟩), .agg Q3, .int .i64 xx] w' fun e w'' => e = .returned (.bool (validP q2.b q2.xs q2.n)) ∧ StI w'' t (if validP q2.b q2.xs q2.n = true then putL q2 (.int .i64 xx) L else L) X1 ∧ Fr (fun k => ¬ X1 k) w' w'') := fun w' h => by
                have h := insertSI (HS6.out.1.no h) (fun k hk => Nat.lt_of_lt_of_le (HS6.out.2.1 k hk) h.size) (by rw [HB.out.2.2.1]; omega) q2 HK2.out.1 (.int .i64 xx) ⟨_, rfl⟩
                rw [HK2.out.2.1] at h
                exact h
              have HVP : Hid (∀ w', Calls Try.prog 12 #[.agg Q3] w' fun e w'' => e = .returned (.bool (validP q2.b q2.xs q2.n)) ∧ Fr No w' w'') := fun w' => by
                have h := validp_ref q2.b q2.xs q2.n HK2.out.1 w'
                rw [HK2.out.2.1] at h
                exact h
              have HDL : Hid (∀ w', Fr No w6 w' → Calls Try.prog 14 #[.pointer (some ⟨t, 0, none⟩), .agg Q3] w' fun e w'' => e = .returned (.bool (valL L q2).isSome) ∧ StI w'' t (if (valL L q2).isSome = true then del q2 L else L) X1 ∧ Fr (fun k => ¬ X1 k) w' w'') := fun w' h => by
                have h := deleteSI (HS6.out.1.no h) (fun k hk => Nat.lt_of_lt_of_le (HS6.out.2.1 k hk) h.size) (by rw [HB.out.2.2.1]; omega) q2 HK2.out.1
                rw [HK2.out.2.1] at h
                exact h
              clear hX1 hf6
              go_cut [6] (fun s6 wx => ∃ (n' cp' : Nat) (ad' : Option Addr), s6 = .slice ad' n' cp' ∧ n' ≤ i + 1 ∧ n' ≤ cp' ∧ cp' ≤ 9223372036854775807 ∧ Hid (∃ L' X', Both w wx t ad' n' L' X' ∧ wx.heap[b8]? = some (.cells Q3 31 (0, 0)) ∧ X' b8))
              case first =>
                cases b75
                · rcases findX_two HB.out.1.srt.1 q2 with ⟨e1, e2⟩ | ⟨j, xv, e1, e2, e3⟩
                  · as_aux_lemma =>
                    rw [e2] at HDL
                    obtain rfl : at0 = -1 := by rw [← HAT.out]; exact e1
                    obtain ⟨-, l6, -⟩ := HSv.out w6 (Fr.refl _ w6)
                    go_wp2_with (first | (go_at_call 14; ((with_reducible refine (at_prog HP.out (HDL.out _ (Fr.refl _ _))).mono ?_); rintro e w7 ⟨rfl, hS7, hf7⟩; have hS7' : StI w7 t L X1 := hS7; clear hS7)) | fail)
                    go_meet
                    case rel => exact both_same HS6.out.2.2.1 HS6.out.2.1 HS6.out.2.2.2.2.2.1 HS6.out.2.2.2.2.1 HS6.out.2.2.2.2.2.2.1 HS6.out.2.2.2.2.2.2.2.1 HS6.out.2.2.2.1 hS7' hf7 (Fr.refl No _) HS6.out.2.2.2.2.2.2.2.2 (by omega) hnc hcp
                  · as_aux_lemma =>
                    rw [e3] at HDL
                    obtain ⟨ba, oa, rfl, -⟩ := HB.out.2.1.at e2
                    have hjn : j < n := by rw [← HB.out.2.2.1]; exact (List.getElem?_eq_some_iff.1 e2).1
                    obtain rfl : at0 = (j : Int) := by rw [← HAT.out]; exact e1
                    obtain ⟨-, l6, -⟩ := HSv.out w6 (Fr.refl _ w6)
                    have j0 : (0 : Int) ≤ (j : Int) := by omega
                    have j1 : (j : Int) ≤ (n : Int) := by omega
                    have j2 : (j : Int) ≤ (cp : Int) := by omega
                    have j3 : (0 : Int) ≤ (j : Int) + 1 := by omega
                    have j4 : (j : Int) + 1 ≤ (n : Int) := by omega
                    have hwj : IntKind.i64.wrap ((j : Int) + 1) = (j : Int) + 1 := by rw [IntKind.wrap_i64]; omega
                    go_upto_region 22 with (first | (go_at_call 14; ((with_reducible refine (at_prog HP.out (HDL.out _ (Fr.refl _ _))).mono ?_); rintro e w7 ⟨rfl, hS7, hf7⟩; have hS7' : StI w7 t (del q2 L) X1 := hS7; clear hS7)) | fail)
                    have hn0 : 0 < n := by omega
                    have hcp0 : ¬ cp = 0 := by omega
                    have jt : ((j : Int) + 1).toNat = j + 1 := by omega
                    have hR7 : RowE w7 (some ⟨ba, oa, none⟩) L := HS6.out.2.2.1.fr hf7 fun q hq hc => hc (HS6.out.2.2.2.2.2.2.1 q hq)
                    have hLk : ∀ e ∈ L, okE e := HB.out.2.1.1
                    have hlt : (flatE (L.take j)).length = j * 19 := by rw [flatE_length fun x hx => hLk x (List.mem_of_mem_take hx), List.length_take, Nat.min_eq_left (by rw [HB.out.2.2.1]; omega)]
                    have hld : (flatE (L.drop (j + 1))).length = (n - (j + 1)) * 19 := by rw [flatE_length fun x hx => hLk x (List.mem_of_mem_drop hx), List.length_drop, HB.out.2.2.1]
                    have hdl : flatE (L.take j) ++ flatE (L.drop (j + 1)) = flatE (del q2 L) := by rw [← flatE_append, ← del_at HB.out.1.srt.1 e2]
                    have h1t : ∀ u ∈ flatE (L.take j), u.oneCell' = true := flatE_one fun x hx => hLk x (List.mem_of_mem_take hx)
                    have h1d : ∀ u ∈ flatE (L.drop (j + 1)), u.oneCell' = true := flatE_one fun x hx => hLk x (List.mem_of_mem_drop hx)
                    have HM0 : Hid (((w7.alloc (.cells #[] 37)).drew).ownsRow w7.heap.size 37 19 (.slice (some ⟨w7.heap.size, 0, none⟩) 0 0) 0 [] ∧ Fr No w7 (w7.alloc (.cells #[] 37)).drew) := ⟨row_frNo (World.ownsRow_made w7 #[] 0 (Nat.le_refl _) (Nat.zero_le _) rfl) (Fr.drew No _), (Fr.alloc No w7 _).trans (Fr.drew No _)⟩
                    have HDD := Lib.hid (And.intro hR7 (And.intro hlt (And.intro hld (And.intro hdl (And.intro h1t (And.intro h1d (And.intro hS7' hf7)))))))
                    clear hR7 hLk hlt hld hdl h1t h1d hS7' hf7 l6
                    by_cases hcl : cp = j + 1
                    · obtain rfl : n = cp := by omega
                      have jt2 : ((j : Int) + 1).toNat = n := by omega
                      have HCL := Lib.hid hcl
                      clear jt
                      have hnl : Hid (flatE (L.drop (j + 1)) = []) := List.eq_nil_of_length_eq_zero (by rw [HDD.out.2.2.1, ← hcl]; simp)
                      clear hcl
                      go_region_law (first
                        | (refine step_append_many ewE rfl (.tmp 105) (.tmp 108) rfl w7.heap.size _ 0 [] rfl HM0.out.1 _ j _ (flatE (L.take j)) rfl HDD.out.2.2.2.2.1 HDD.out.2.1 ((HDD.out.1.no HM0.out.2).atTake j) (fun h => by cases h) (by omega) (by omega) HM0.out.2.size ?_; intro a9 c9 w9 hown9 hg9 hat9; rw [Nat.zero_add] at hown9 ⊢; have H9 : Hid (w9.ownsRow w7.heap.size 37 19 (.slice a9 j c9) j (flatE (L.take j)) ∧ Fr No w7 w9) := ⟨hown9, Fr.own_grown_w HM0.out.2 HM0.out.1 (Nat.le_refl _) hg9⟩; clear hown9 hg9 hat9)
                        | (refine step_append_many ewE rfl (.tmp 109) (.tmp 113) rfl w7.heap.size _ j (flatE (L.take j)) rfl H9.out.1 _ 0 _ (flatE (L.drop (j + 1))) rfl HDD.out.2.2.2.2.2.1 (by rw [hnl.out]; rfl) (by rw [hnl.out]; exact At.nil _ _) (fun h => by cases h) (by omega) (by omega) H9.out.2.size ?_; intro a10 c10 w10 hown10 hg10 hat10; obtain ⟨m10, hm10⟩ : ∃ m, j + 0 = m := ⟨_, rfl⟩; rw [hm10] at hown10 ⊢; have H10 : Hid (w10.ownsRow w7.heap.size 37 19 (.slice a10 m10 c10) m10 (flatE (del q2 L)) ∧ Fr No w7 w10) := ⟨by rw [← HDD.out.2.2.2.1]; exact hown10, Fr.own_grown_w H9.out.2 H9.out.1 (Nat.le_refl _) hg10⟩; clear hown10 hg10 hat10))
                      go_wp2_with fail
                      go_meet
                      case rel => exact both_new HDD.out.2.2.2.2.2.2.1 (fun k hk => Nat.lt_of_lt_of_le (HS6.out.2.1 k hk) HDD.out.2.2.2.2.2.2.2.size) HS6.out.2.2.2.2.2.1 HS6.out.2.2.2.2.1 (HS6.out.2.2.2.2.2.2.2.1.ofNew HDD.out.2.2.2.2.2.2.2 fun k hk => .inr (Nat.le_of_not_lt fun h => hk (HS6.out.2.2.2.2.2.1 k h))) ((HDD.out.2.2.2.2.2.2.2.block b8 (some_lt HS6.out.2.2.2.1) fun hc => hc HS6.out.2.2.2.2.1).trans HS6.out.2.2.2.1) (Nat.le_refl _) H10.out.1 (del_ok HB.out.2.1.1) H10.out.2 (by have h1 := del_len HB.out.1.srt.1 (p := q2) (by rw [e3]; rfl); have h2 := HB.out.2.2.1; omega)
                    · go_region_law (first
                        | (refine step_append_many ewE rfl (.tmp 105) (.tmp 108) rfl w7.heap.size _ 0 [] rfl HM0.out.1 _ j _ (flatE (L.take j)) rfl HDD.out.2.2.2.2.1 HDD.out.2.1 ((HDD.out.1.no HM0.out.2).atTake j) (fun h => by cases h) (by omega) (by omega) HM0.out.2.size ?_; intro a9 c9 w9 hown9 hg9 hat9; rw [Nat.zero_add] at hown9 ⊢; have H9 : Hid (w9.ownsRow w7.heap.size 37 19 (.slice a9 j c9) j (flatE (L.take j)) ∧ Fr No w7 w9) := ⟨hown9, Fr.own_grown_w HM0.out.2 HM0.out.1 (Nat.le_refl _) hg9⟩; clear hown9 hg9 hat9)
                        | (refine step_append_many ewE rfl (.tmp 109) (.tmp 113) rfl w7.heap.size _ j (flatE (L.take j)) rfl H9.out.1 _ (n - (j + 1)) _ (flatE (L.drop (j + 1))) rfl HDD.out.2.2.2.2.2.1 HDD.out.2.2.1 (by rw [HK37.out]; exact (HDD.out.1.no H9.out.2).atDrop (by rw [HB.out.2.2.1]; omega)) (fun h => by cases h) (by omega) (by omega) H9.out.2.size ?_; intro a10 c10 w10 hown10 hg10 hat10; obtain ⟨m10, hm10⟩ : ∃ m, j + (n - (j + 1)) = m := ⟨_, rfl⟩; rw [hm10] at hown10 ⊢; have H10 : Hid (w10.ownsRow w7.heap.size 37 19 (.slice a10 m10 c10) m10 (flatE (del q2 L)) ∧ Fr No w7 w10) := ⟨by rw [← HDD.out.2.2.2.1]; exact hown10, Fr.own_grown_w H9.out.2 H9.out.1 (Nat.le_refl _) hg10⟩; clear hown10 hg10 hat10))
                      go_wp2_with fail
                      go_meet
                      case rel => exact both_new HDD.out.2.2.2.2.2.2.1 (fun k hk => Nat.lt_of_lt_of_le (HS6.out.2.1 k hk) HDD.out.2.2.2.2.2.2.2.size) HS6.out.2.2.2.2.2.1 HS6.out.2.2.2.2.1 (HS6.out.2.2.2.2.2.2.2.1.ofNew HDD.out.2.2.2.2.2.2.2 fun k hk => .inr (Nat.le_of_not_lt fun h => hk (HS6.out.2.2.2.2.2.1 k h))) ((HDD.out.2.2.2.2.2.2.2.block b8 (some_lt HS6.out.2.2.2.1) fun hc => hc HS6.out.2.2.2.2.1).trans HS6.out.2.2.2.1) (Nat.le_refl _) H10.out.1 (del_ok HB.out.2.1.1) H10.out.2 (by have h1 := del_len HB.out.1.srt.1 (p := q2) (by rw [e3]; rfl); have h2 := HB.out.2.2.1; omega)
                · cases hV : validP q2.b q2.xs q2.n
                  · as_aux_lemma =>
                    rw [hV] at HIN HVP
                    go_upto_region 15 with fail
                    have f1 := HSv.out _ (Fr.drew _ w6)
                    go_region_held3 (fun w' => Fr (fun k => ¬ X1 k) w6 w' ∧ Sem.run PD (loadCellsFrom ⟨b8, 0, none⟩ 0 k40 #[]) w' = .ok Q3 w' ∧ w'.cell? ⟨bo, oo + i * k20 + 19, none⟩ = some (.int .i64 xx)) (first | assumption | (with_reducible exact HSv.out _ K8) | (with_reducible exact HSv.out _ K7)) (first | (go_at_call 11; ((with_reducible refine (at_prog HP.out (HIN.out _ (Fr.drew No w6))).mono ?_); rintro e w7 ⟨rfl, hS7, hf7⟩; have K7 : Fr (fun k => ¬ X1 k) w6 w7 := Fr.trans (Fr.drew _ w6) hf7)) | (go_at_call 12; ((with_reducible refine (at_prog HP.out (HVP.out _)).mono ?_); rintro e w8 ⟨rfl, hf8⟩; have K8 : Fr (fun k => ¬ X1 k) w6 w8 := K7.trans hf8.no)))
                    obtain ⟨-, l8, x8⟩ := HSv.out _ K8
                    have hS7' : StI w7 t L X1 := hS7
                    clear hS7
                    go_wp2_with (first | (go_at_call 12; ((with_reducible refine (at_prog HP.out (HVP.out _)).mono ?_); rintro e w9 ⟨rfl, hf9⟩)) | fail)
                    go_meet
                    case rel => exact both_same HS6.out.2.2.1 HS6.out.2.1 HS6.out.2.2.2.2.2.1 HS6.out.2.2.2.2.1 HS6.out.2.2.2.2.2.2.1 HS6.out.2.2.2.2.2.2.2.1 HS6.out.2.2.2.1 hS7' K7 (hf8.trans hf9) HS6.out.2.2.2.2.2.2.2.2 (by omega) hnc hcp
                  · as_aux_lemma =>
                    rw [hV] at HIN HVP
                    go_upto_region 15 with fail
                    have f1 := HSv.out _ (Fr.drew _ w6)
                    go_region_held3 (fun w' => Fr (fun k => ¬ X1 k) w6 w' ∧ Sem.run PD (loadCellsFrom ⟨b8, 0, none⟩ 0 k40 #[]) w' = .ok Q3 w' ∧ w'.cell? ⟨bo, oo + i * k20 + 19, none⟩ = some (.int .i64 xx)) (first | assumption | (with_reducible exact HSv.out _ K8) | (with_reducible exact HSv.out _ K7)) (first | (go_at_call 11; ((with_reducible refine (at_prog HP.out (HIN.out _ (Fr.drew No w6))).mono ?_); rintro e w7 ⟨rfl, hS7, hf7⟩; have K7 : Fr (fun k => ¬ X1 k) w6 w7 := Fr.trans (Fr.drew _ w6) hf7)) | (go_at_call 12; ((with_reducible refine (at_prog HP.out (HVP.out _)).mono ?_); rintro e w8 ⟨rfl, hf8⟩; have K8 : Fr (fun k => ¬ X1 k) w6 w8 := K7.trans hf8.no)))
                    obtain ⟨-, l8, x8⟩ := HSv.out _ K8
                    have hS7' : StI w7 t (putL q2 (.int .i64 xx) L) X1 := hS7
                    clear hS7
                    go_upto_region 18 with (first | (go_at_call 12; ((with_reducible refine (at_prog HP.out (HVP.out _)).mono ?_); rintro e w9 ⟨rfl, hf9⟩; have K9 : Fr (fun k => ¬ X1 k) w6 w9 := K8.trans hf9.no)) | fail)
                    have HPU : Hid (∀ w', Fr No w9 w' → Calls Try.prog 13 #[.slice ad n cp, .agg Q3, .int .i64 xx] w' fun e w'' => ∃ ad' m cp', e = .returned (.slice ad' m cp') ∧ w''.ownsRow w'.heap.size 37 19 (.slice ad' m cp') m (flatE (putL q2 (.int .i64 xx) L)) ∧ Fr No w' w'') := fun w' h => by
                      have h := put_any ad n cp L q2 xx w' ((HS6.out.2.2.1.fr K9 fun q hq hc => hc (HS6.out.2.2.2.2.2.2.1 q hq)).no h) HS6.out.2.2.2.2.2.2.2.2 (by omega) HK2.out.1
                      rw [HK2.out.2.1] at h
                      exact h
                    have HSw : Hid (∀ w', Fr No w9 w' → Fr No w9 w' ∧ Sem.run PD (loadCellsFrom ⟨b8, 0, none⟩ 0 k40 #[]) w' = .ok Q3 w' ∧ w'.cell? ⟨bo, oo + i * k20 + 19, none⟩ = some (.int .i64 xx)) := fun w' h => ⟨h, (HSv.out w' (K9.trans h.no)).2⟩
                    have H9 : Hid (StI w9 t (putL q2 (.int .i64 xx) L) X1 ∧ Fr (fun k => ¬ X1 k) w6 w9) := ⟨hS7'.no (hf8.trans hf9), K9⟩
                    clear l8 x8 f1 hS7' hf7 hf8 hf9 K7 K8 K9
                    have f9 := HSw.out _ (Fr.drew No w9)
                    go_region_held3 (fun w' => Fr No w9 w' ∧ Sem.run PD (loadCellsFrom ⟨b8, 0, none⟩ 0 k40 #[]) w' = .ok Q3 w' ∧ w'.cell? ⟨bo, oo + i * k20 + 19, none⟩ = some (.int .i64 xx)) (first | assumption | (with_reducible exact HSw.out _ K10)) (first | (go_at_call 13; ((with_reducible refine (at_prog HP.out (HPU.out _ (And.left (by assumption)))).mono ?_); rintro e w10 ⟨ad', m', cp', rfl, ho10, hf10⟩; have K10 : Fr No w9 w10 := Fr.trans (And.left (by assumption)) hf10)))
                    go_wp2_with fail
                    go_meet
                    case rel => exact both_new H9.out.1 (fun k hk => Nat.lt_of_lt_of_le (HS6.out.2.1 k hk) H9.out.2.size) HS6.out.2.2.2.2.2.1 HS6.out.2.2.2.2.1 (HS6.out.2.2.2.2.2.2.2.1.ofNew H9.out.2 fun k hk => .inr (Nat.le_of_not_lt fun h => hk (HS6.out.2.2.2.2.2.1 k h))) ((H9.out.2.block b8 (some_lt HS6.out.2.2.2.1) fun hc => hc HS6.out.2.2.2.2.1).trans HS6.out.2.2.2.1) (Nat.le_refl _) ho10 (put_ok HB.out.1.srt.1 HB.out.2.1.1 HK2.out.1) K10 (by rw [putL_len HB.out.1.srt.1, HB.out.2.2.1]; split <;> omega)
              case rest =>
                obtain ⟨n', cp', ad', rfl, hni', hnc', hcp', HR'⟩ := hcut
                obtain ⟨L', X', hB', k8', hX8⟩ := HR'.out
                have hs' : Srt L' := hB'.1.srt.1
                obtain ⟨A3, hA3⟩ : ∃ A3, (adr q2.b q2.xs).toArray = A3 := ⟨_, rfl⟩
                have HS8 : Hid (∀ w', Fr No wc w' → Sem.run PD (loadCellsFrom ⟨b8, 0, none⟩ 0 k40 #[]) w' = .ok Q3 w' ∧ Sem.run PD (loadCellsFrom ⟨b8, 0, none⟩ 0 k30 #[]) w' = .ok A3 w') := fun w' h => by
                  refine ⟨load_block (h.keep k8') hQ3k (fun j v hv => by simpa using hv), ?_⟩
                  obtain ⟨T, hT, -, -, -, hTA, -⟩ := pfx_letter q2.b q2.xs q2.n HK2.out.1
                  rw [HK2.out.2.1] at hT
                  refine load_block (h.keep k8') (by rw [HK29.out, ← hA3, List.size_toArray, adr_length, HK2.out.1.1]) fun j v hv => ?_
                  rw [Nat.zero_add, hT]
                  exact hTA j v (by rw [hA3]; exact hv)
                have HGT : Hid (∀ w', Fr No wc w' → Calls Try.prog 15 #[.pointer (some ⟨t, 0, none⟩), .agg Q3] w' fun e w'' => e = .returned (.tuple #[(valL L' q2).getD (.int .i64 0), .bool (valL L' q2).isSome]) ∧ Fr No w' w'') := fun w' h => by
                  have h := getSI (hB'.1.no h) q2 HK2.out.1
                  rw [HK2.out.2.1] at h
                  exact h
                have HFE : Hid (∀ w', Fr No wc w' → Calls Try.prog 10 #[.slice ad' n' cp', .agg Q3] w' fun e w'' => e = .returned (.int .i64 (findX q2 L')) ∧ Fr No w' w'') := fun w' h => by
                  have h := find_any ad' n' cp' L' q2 w' (hB'.2.1.no h) hB'.2.2.1 (by omega) HK2.out.1
                  rw [HK2.out.2.1] at h
                  exact h
                have HLN : Hid (∀ w', Fr No wc w' → Calls Try.prog 16 #[.pointer (some ⟨t, 0, none⟩)] w' fun e w'' => e = .returned (.int .i64 (n' : Nat)) ∧ w'' = w') := fun w' h => by
                  have h := lenSI (hB'.1.no h)
                  rw [hB'.2.2.1] at h
                  exact h
                have HAG : Hid (∀ (w' : World) (c : Bool) (ys : List Nat), Fr No wc w' → Bytes ys → Calls Try.prog 17 #[.pointer (some ⟨t, 0, none⟩), .slice ad' n' cp', .agg (adr c ys).toArray] w' fun e w'' => e = .returned (.bool true) ∧ Fr No w' w'') := fun w' c ys h hy =>
                  agrees_any t L' X' ad' n' cp' c ys w' (hB'.1.no h) (hB'.2.1.no h) hB'.2.2.1 (by omega) hy
                have HAA : Hid (∀ w', Fr No wc w' → Calls Try.prog 17 #[.pointer (some ⟨t, 0, none⟩), .slice ad' n' cp', .agg A3] w' fun e w'' => e = .returned (.bool true) ∧ Fr No w' w'') := fun w' h => by
                  rw [← hA3]
                  exact HAG.out w' q2.b q2.xs h HK2.out.1
                have HB' := Lib.hid hB'
                have l8c := (HS8.out wc (Fr.refl _ _)).1
                have nw : IntKind.i64.wrap (n' : Int) = (n' : Int) := by rw [IntKind.wrap_i64]; omega
                clear hB' k8' hA3 c6 x6
                have hcase : (findX q2 L' = -1 ∧ valL L' q2 = none ∧ n1 = 0) ∨ True := .inr trivial
                clear hcase
                rcases findX_two hs' q2 with ⟨e1, e2⟩ | ⟨j, xv, e1, e2, e3⟩
                · rw [e1] at HFE
                  rw [e2] at HGT
                  by_cases hz1 : n1 = 0
                  · subst hz1
                    as_aux_lemma =>
                      go_wp2_with (first | (go_at_call 15; ((with_reducible refine (at_prog HP.out (HGT.out _ (Fr.refl No _))).mono ?_); rintro e v1 ⟨rfl, g1⟩; have l81 := (HS8.out _ g1).1)) | (go_at_call 10; ((with_reducible refine (at_prog HP.out (HFE.out _ g1)).mono ?_); rintro e v2 ⟨rfl, g2'⟩; have g2 := g1.trans g2'; have l82 := (HS8.out _ g2).2)) | (go_at_call 16; ((with_reducible refine (at_prog HP.out (HLN.out _ g2)).mono ?_); rintro e v3 ⟨rfl, hv3⟩; replace hv3 := hv3.symm; subst hv3)) | (go_at_call 17; ((with_reducible refine (at_prog HP.out (HAA.out _ g2)).mono ?_); rintro e v4 ⟨rfl, g4'⟩; have g4 := g2.trans g4')) | fail)
                      go_roundg (41 - i)
                      case measure => exact hig
                      case rel => exact ⟨i + 1, n', cp', _, rfl, by go_num, by omega, by omega, by omega, by omega, by omega, L', X', HB'.out.no g4⟩
                  · have hr : i % n1 < n1 := Nat.mod_lt _ (by omega)
                    obtain ⟨bs, os, c5, ys5, hy5, rfl, lo5⟩ := inA_at HA.out.2 hr
                    obtain ⟨r, hre⟩ : ∃ r, i % n1 = r := ⟨_, rfl⟩
                    rw [hre] at hr lo5
                    have hmi : (i : Int).tmod (n1 : Int) = (r : Int) := by rw [← hre]; rfl
                    have hrw : IntKind.i64.wrap (r : Int) = (r : Int) := by rw [IntKind.wrap_i64]; omega
                    obtain ⟨Y5, hY5⟩ : ∃ Y5, (adr c5 ys5).toArray = Y5 := ⟨_, rfl⟩
                    have HL5 : Hid (∀ w', Fr No wc w' → Sem.run PD (loadCellsFrom ⟨bs, os + r * k30, none⟩ 0 k30 #[]) w' = .ok Y5 w') := fun w' h => by
                      rw [HK29.out, ← hY5]; exact lo5 PD w' (HB'.out.2.2.2.2.2.2.trans h)
                    have HSA : Hid (∀ w', Calls Try.prog 18 #[.agg Y5] w' (GenB w')) := fun w' => by rw [← hY5]; exact saddr_gen c5 ys5 hy5 w'
                    have r0 : (0 : Int) ≤ (r : Int) := by omega
                    have r1 : (r : Int) < (n1 : Int) := by omega
                    have r2 : (0 : Int) < (n1 : Int) := by omega
                    have r3 : ¬ (n1 : Int) = 0 := by omega
                    clear lo5 hY5 hre
                    as_aux_lemma =>
                      go_wp2_with (first | (go_at_call 15; ((with_reducible refine (at_prog HP.out (HGT.out _ (Fr.refl No _))).mono ?_); rintro e v1 ⟨rfl, g1⟩; have l81 := (HS8.out _ g1).1)) | (go_at_call 10; ((with_reducible refine (at_prog HP.out (HFE.out _ g1)).mono ?_); rintro e v2 ⟨rfl, g2'⟩; have g2 := g1.trans g2'; have l82 := (HS8.out _ g2).2)) | (go_at_call 16; ((with_reducible refine (at_prog HP.out (HLN.out _ g2)).mono ?_); rintro e v3 ⟨rfl, hv3⟩; replace hv3 := hv3.symm; subst hv3)) | (go_at_call 17; ((with_reducible refine (at_prog HP.out (HAA.out _ g2)).mono ?_); rintro e v4 ⟨rfl, g4'⟩; have g4 := g2.trans g4'; have l54 := HL5.out _ g4)) | (go_at_call 18; ((with_reducible refine (at_prog HP.out (HSA.out _)).mono ?_); rintro e v5 ⟨c6, ys6, hy6, rfl, g5'⟩; have g5 := g4.trans g5')) | (go_at_call 17; ((with_reducible refine (at_prog HP.out (HAG.out _ _ _ g5 hy6)).mono ?_); rintro e v6 ⟨rfl, g6'⟩; have g6 := g5.trans g6')) | fail)
                      go_roundg (41 - i)
                      case measure => exact hig
                      case rel => exact ⟨i + 1, n', cp', _, rfl, by go_num, by omega, by omega, by omega, by omega, by omega, L', X', HB'.out.no g6⟩
                · rw [e1] at HFE
                  rw [e3] at HGT
                  obtain ⟨z, hz⟩ := (HB'.out.2.1.1 _ (List.mem_of_getElem? e2)).2
                  obtain rfl : xv = .int .i64 z := hz
                  obtain ⟨ba, oa, rfl, lx⟩ := HB'.out.2.1.at e2
                  have HCX : Hid (∀ w', Fr No wc w' → w'.cell? ⟨ba, oa + j * k19 + 18, none⟩ = some (.int .i64 z)) := fun w' h => by
                    rw [HK37.out]; exact (lx PD w' h).2.2.2
                  have hjn : j < n' := by rw [← HB'.out.2.2.1]; exact (List.getElem?_eq_some_iff.1 e2).1
                  have j0 : (0 : Int) ≤ (j : Int) := by omega
                  have j1 : (j : Int) < (n' : Int) := by omega
                  clear lx
                  by_cases hz1 : n1 = 0
                  · subst hz1
                    as_aux_lemma =>
                      go_wp2_with (first | (go_at_call 15; ((with_reducible refine (at_prog HP.out (HGT.out _ (Fr.refl No _))).mono ?_); rintro e v1 ⟨rfl, g1⟩; have l81 := (HS8.out _ g1).1)) | (go_at_call 10; ((with_reducible refine (at_prog HP.out (HFE.out _ g1)).mono ?_); rintro e v2 ⟨rfl, g2'⟩; have g2 := g1.trans g2'; have l82 := (HS8.out _ g2).2; have cx2 := HCX.out _ g2)) | (go_at_call 16; ((with_reducible refine (at_prog HP.out (HLN.out _ g2)).mono ?_); rintro e v3 ⟨rfl, hv3⟩; replace hv3 := hv3.symm; subst hv3)) | (go_at_call 17; ((with_reducible refine (at_prog HP.out (HAA.out _ g2)).mono ?_); rintro e v4 ⟨rfl, g4'⟩; have g4 := g2.trans g4')) | fail)
                      go_roundg (41 - i)
                      case measure => exact hig
                      case rel => exact ⟨i + 1, n', cp', _, rfl, by go_num, by omega, by omega, by omega, by omega, by omega, L', X', HB'.out.no g4⟩
                  · have hr : i % n1 < n1 := Nat.mod_lt _ (by omega)
                    obtain ⟨bs, os, c5, ys5, hy5, rfl, lo5⟩ := inA_at HA.out.2 hr
                    obtain ⟨r, hre⟩ : ∃ r, i % n1 = r := ⟨_, rfl⟩
                    rw [hre] at hr lo5
                    have hmi : (i : Int).tmod (n1 : Int) = (r : Int) := by rw [← hre]; rfl
                    have hrw : IntKind.i64.wrap (r : Int) = (r : Int) := by rw [IntKind.wrap_i64]; omega
                    obtain ⟨Y5, hY5⟩ : ∃ Y5, (adr c5 ys5).toArray = Y5 := ⟨_, rfl⟩
                    have HL5 : Hid (∀ w', Fr No wc w' → Sem.run PD (loadCellsFrom ⟨bs, os + r * k30, none⟩ 0 k30 #[]) w' = .ok Y5 w') := fun w' h => by
                      rw [HK29.out, ← hY5]; exact lo5 PD w' (HB'.out.2.2.2.2.2.2.trans h)
                    have HSA : Hid (∀ w', Calls Try.prog 18 #[.agg Y5] w' (GenB w')) := fun w' => by rw [← hY5]; exact saddr_gen c5 ys5 hy5 w'
                    have r0 : (0 : Int) ≤ (r : Int) := by omega
                    have r1 : (r : Int) < (n1 : Int) := by omega
                    have r2 : (0 : Int) < (n1 : Int) := by omega
                    have r3 : ¬ (n1 : Int) = 0 := by omega
                    clear lo5 hY5 hre
                    as_aux_lemma =>
                      go_wp2_with (first | (go_at_call 15; ((with_reducible refine (at_prog HP.out (HGT.out _ (Fr.refl No _))).mono ?_); rintro e v1 ⟨rfl, g1⟩; have l81 := (HS8.out _ g1).1)) | (go_at_call 10; ((with_reducible refine (at_prog HP.out (HFE.out _ g1)).mono ?_); rintro e v2 ⟨rfl, g2'⟩; have g2 := g1.trans g2'; have l82 := (HS8.out _ g2).2; have cx2 := HCX.out _ g2)) | (go_at_call 16; ((with_reducible refine (at_prog HP.out (HLN.out _ g2)).mono ?_); rintro e v3 ⟨rfl, hv3⟩; replace hv3 := hv3.symm; subst hv3)) | (go_at_call 17; ((with_reducible refine (at_prog HP.out (HAA.out _ g2)).mono ?_); rintro e v4 ⟨rfl, g4'⟩; have g4 := g2.trans g4'; have l54 := HL5.out _ g4)) | (go_at_call 18; ((with_reducible refine (at_prog HP.out (HSA.out _)).mono ?_); rintro e v5 ⟨c6, ys6, hy6, rfl, g5'⟩; have g5 := g4.trans g5')) | (go_at_call 17; ((with_reducible refine (at_prog HP.out (HAG.out _ _ _ g5 hy6)).mono ?_); rintro e v6 ⟨rfl, g6'⟩; have g6 := g5.trans g6')) | fail)
                      go_roundg (41 - i)
                      case measure => exact hig
                      case rel => exact ⟨i + 1, n', cp', _, rfl, by go_num, by omega, by omega, by omega, by omega, by omega, L', X', HB'.out.no g6⟩
    · obtain ⟨L, X, hB⟩ := HR.out
      have HPX : Hid (∀ w', Fr No wr w' → Calls Try.prog 19 #[.pointer (some ⟨t, 0, none⟩)] w' fun e w'' => ∃ ad' cp', e = .returned (.slice ad' n cp') ∧ RowP w'' ad' (L.map fun e => e.1) ∧ Fr No w' w'') := fun w' h => by
        have h := prefixesSI (hB.1.no h) (by rw [hB.2.2.1]; omega)
        rw [hB.2.2.1] at h
        refine h.mono ?_
        rintro e w'' ⟨ad', cp', he, ho, hf⟩
        exact ⟨ad', cp', he, (RowP.own (fun q hq => by obtain ⟨x, hx, rfl⟩ := List.mem_map.1 hq; exact (hB.2.1.1 x hx).1) ho).1, hf⟩
      have HB := Lib.hid hB
      have q31 := Try.eqGuardType31
      rw [← HP.out] at q31
      have hx : ¬ ((i : Int) < (n0 : Int)) ∨ ((i : Int) < (n0 : Int) ∧ ¬ ((i : Int) < 40)) := by omega
      clear hB
      rcases hx with p2 | ⟨p2, p3⟩
      all_goals as_aux_lemma =>
        go_upto_region 30 with (first | (go_at_call 19; ((with_reducible refine (at_prog HP.out (HPX.out _ (Fr.refl No _))).mono ?_); rintro e w2 ⟨ad2, cp2, rfl, hrp2, hf2⟩)) | fail)
        have HX2 : Hid (RowP w2 ad2 (L.map fun e => e.1) ∧ RowE w2 ad L ∧ Fr No w w2 ∧ L.length = n) := ⟨hrp2, HB.out.2.1.no hf2, HB.out.2.2.2.2.2.2.trans hf2, HB.out.2.2.1⟩
        clear hrp2 hf2
        go_wp2_with fail
        go_loopg [13] (n + 1) (fun g s13 wr => ∃ (k : Nat), s13 = .int .i64 k ∧ k ≤ n ∧ n - k < g ∧ Hid (Fr No w2 wr))
        case atStart => exact ⟨0, by go_num, by omega, by omega, Fr.refl _ _⟩
        case round =>
          obtain ⟨k, rfl, hkn, hkg, HF⟩ := hrel
          by_cases hk : k < n
          · obtain ⟨x, gx⟩ : ∃ x, L[k]? = some x := ⟨_, List.getElem?_eq_getElem (by rw [HX2.out.2.2.2]; exact hk)⟩
            obtain ⟨bx, ox, rfl, lx⟩ := HX2.out.2.1.at gx
            obtain ⟨by_, oy, rfl, ly⟩ := HX2.out.1.load (i := k) (q := x.1) (by rw [List.getElem?_map, gx]; rfl)
            have hbx := (HX2.out.2.1.1 x (List.mem_of_getElem? gx)).1
            obtain ⟨XX, hXX⟩ : ∃ XX, (pfx x.1.b x.1.xs x.1.n).toArray = XX := ⟨_, rfl⟩
            have lX : ∀ m, Sem.run PD (loadCellsFrom ⟨bx, ox + k * k19, none⟩ 0 k40 #[]) (wr.drewN m) = .ok XX (wr.drewN m) := fun m => by
              rw [HK31.out, HK37.out, ← hXX]; exact (lx PD _ (HF.out.trans (Fr.drewN No wr m))).2.1
            have lY : ∀ m, Sem.run PD (loadCellsFrom ⟨by_, oy + k * k40, none⟩ 0 k40 #[]) (wr.drewN m) = .ok XX (wr.drewN m) := fun m => by
              rw [HK31.out, ← hXX]; exact ly PD _ (HF.out.trans (Fr.drewN No wr m))
            have hEQ : ∀ w', Sem.run PD (Op.equalIn 10000 31 (.agg XX) (.agg XX)) w' = .ok true w' := fun w' => by
              rw [HP.out, ← hXX, pfx_eq x.1.n x.1.n hbx hbx w']
              congr 1
              exact decide_eq_true ⟨⟨rfl, rfl⟩, rfl⟩
            have k1 : (0 : Int) ≤ (k : Int) := by omega
            have k2 : (k : Int) < (n : Int) := by omega
            clear gx lx ly hbx hXX
            go_wp2_with fail
            go_quiet (fail)
            go_wp2_with fail
            go_roundg (n - k)
            case measure => exact hkg
            case rel => exact ⟨k + 1, by go_num, by omega, by omega, HF.out.trans (Fr.drewN No wr _)⟩
          · obtain rfl : k = n := by omega
            have k2 : ¬ ((k : Int) < (k : Int)) := by omega
            go_wp2_with (first | (go_at_call 20; ((with_reducible refine (at_prog HP.out (awake_any _)).mono ?_); rintro e w9 ⟨rfl, hf9⟩)) | fail)
            go_ret
            exact ⟨rfl, (HX2.out.2.2.1.trans HF.out).trans hf9⟩
end Go.Proofs.Ytnbohhiooigmbaa
