/-
  THE LAW BlocklistMatchesModel: its walk.
  Conditions: the argument is an address.
-/
import Derived.Test.YtgbbgkbpafpnbaaBw
import Derived.Test.YtgbbgkbpafpnbaaGb
import Derived.Deep.DeepCutAuto
import Derived.Deep.CutBlock
namespace Go.Proofs.Ytgbbgkbpafpnbaa
open Go.ChangeShapes Go.WideShapes Go.ChangeAt Go.RowKit
set_option linter.unusedVariables false

theorem bitsN (b : Bool) : ∃ N : Nat, bitsOf b = (N : Int) ∧ 0 < N ∧ N ≤ 128 ∧ (b = false → N = 32) := by
  cases b
  · exact ⟨32, rfl, by omega, by omega, fun _ => rfl⟩
  · exact ⟨128, rfl, by omega, by omega, fun h => by cases h⟩
/-- A byte of a valid address may be any other within the address's own bits. -/
theorem set_valid {b : Bool} {xs : List Nat} {N k x : Nat} (hx : Bytes xs) (hv : validA b xs = true) (hN : b = false → N = 32) (hk : k < N) (h : x < 256) : Bytes (xs.set (k / 8) x) ∧ validA b (xs.set (k / 8) x) = true := by
  refine ⟨⟨by rw [List.length_set]; exact hx.1, fun y hy => ?_⟩, ?_⟩
  · rcases List.mem_or_eq_of_mem_set hy with h1 | h1
    · exact hx.2 y h1
    · omega
  · cases b with
    | true => rfl
    | false =>
      have := hN rfl
      unfold validA at hv ⊢
      rw [Bool.false_or] at hv ⊢
      rw [List.drop_set_of_lt (by omega)]
      exact hv
theorem u8_bits (op : BinOp) (x y : Int) : ∃ r : Nat, bits op .u8 x y = (r : Int) ∧ r < 256 := by
  have h : (Lit.int .u8 (bits op .u8 x y)).wf = true := wf_bits op .u8 x y
  have := bounds_u8 h
  exact ⟨(bits op .u8 x y).toNat, by omega, by omega⟩

set_option maxHeartbeats 8000000 in
set_option maxRecDepth 100000 in
theorem matches_walk (c0 : Bool) (ys0 : List Nat) (n bit : Int) (up : Bool) (w : World) (hy : Bytes ys0) :
    Calls Try.prog 3 #[.agg (adr c0 ys0).toArray, .int .i64 n, .int .i64 bit, .bool up] w fun e w' => e = .returned (.bool true) ∧ Fr No w w' := by
  obtain ⟨i, hi, hmi⟩ := mod_fix n 15 (by decide) (by decide)
  obtain ⟨-, p, -, gp, -, -, -, okp⟩ := bl_at hi
  obtain ⟨N, hN, hN0, hN1, hN2⟩ := bitsN p.b
  obtain ⟨k, hk, hmk⟩ := mod_fix bit N hN0 (by omega)
  have HMI : Hid (∀ w', Calls Try.prog 7 #[.int .i64 n, .int .i64 15] w' fun e w'' => e = .returned (.int .i64 (i : Int)) ∧ w'' = w') := fun w' => hmi w'
  have HMK : Hid (∀ w', Calls Try.prog 7 #[.int .i64 bit, .int .i64 (N : Int)] w' fun e w'' => e = .returned (.int .i64 (k : Int)) ∧ w'' = w') := fun w' => hmk w'
  have hpv : validA p.b p.xs = true := by
    have h := okp.2
    unfold validP at h
    simp only [Bool.and_eq_true] at h
    exact h.1.1.1
  obtain ⟨A, hA, -, hAs, -⟩ := adr_letter c0 ys0 hy
  obtain ⟨P, hP, -, -, hPs, hPA, -⟩ := pfx_letter p.b p.xs p.n okp.1
  obtain ⟨D, hD, hD0, hDs, -⟩ := adr_letter p.b p.xs okp.1
  rw [hD] at hPA
  obtain ⟨Z, hZ⟩ : ∃ Z, noP.toArray = Z := ⟨_, rfl⟩
  obtain ⟨Y, hY⟩ : ∃ Y, (adr false zeros).toArray = Y := ⟨_, rfl⟩
  have v28 := zero28
  rw [hZ] at v28
  have v24 := zero24
  rw [hY] at v24
  have hZs : Z.size = 18 := by rw [← hZ]; rfl
  have hYs : Y.size = 17 := by rw [← hY]; rfl
  have hP1 : ∀ u ∈ P.toList, u.oneCell' = true := by rw [← hP]; exact pfx_one _ _ _
  have hD1 : ∀ u ∈ D.toList, u.oneCell' = true := by rw [← hD]; exact adr_one _ _
  have HBL : Hid (∀ (w' : World) (B : Array Value), B[0]? = some (.bool p.b) → Calls Try.prog 8 #[.agg B] w' fun e w'' => e = .returned (.int .i64 (N : Int)) ∧ Fr No w' w'') := fun w' B h => by
    have h2 := bitLen_R p.b B h w'
    rw [hN] at h2
    exact h2
  have HLD : Hid (∀ (w' : World) (ad : Option Addr), RowP w' ad PL → ∃ b o, ad = some ⟨b, o, none⟩ ∧ Sem.run PD (loadCellsFrom ⟨b, o + i * 18, none⟩ 0 18 #[]) w' = .ok P w') := fun w' ad h => by
    obtain ⟨b1, o1, e1, l1⟩ := h.load gp
    exact ⟨b1, o1, e1, by rw [← hP]; exact l1 PD w' (Fr.refl _ _)⟩
  have HW := Lib.hid (And.intro hA (And.intro hy (And.intro hD (And.intro okp.1 (And.intro hpv (And.intro hN2 hk))))))
  rw [hA]
  clear hmi hmk gp okp hP hA hD hZ hY hy hpv hN hN2
  go_enter Try.func3, Try.ntmps3
  have t3 := Try.underlying3
  have u3 := Try.runUnderlying3
  have g3 := Try.isAgg3
  have z3 := Try.sizeOf3
  have t4 := Try.underlying4
  have u4 := Try.runUnderlying4
  have g4 := Try.isAgg4
  have z4 := Try.sizeOf4
  have t5 := Try.underlying5
  have u5 := Try.runUnderlying5
  have g5 := Try.isAgg5
  have z5 := Try.sizeOf5
  have t22 := Try.underlying22
  have u22 := Try.runUnderlying22
  have g22 := Try.isAgg22
  have z22 := Try.sizeOf22
  have t24 := Try.underlying24
  have u24 := Try.runUnderlying24
  have g24 := Try.isAgg24
  have z24 := Try.sizeOf24
  have t25 := Try.underlying25
  have u25 := Try.runUnderlying25
  have g25 := Try.isAgg25
  have z25 := Try.sizeOf25
  have t28 := Try.underlying28
  have u28 := Try.runUnderlying28
  have g28 := Try.isAgg28
  have z28 := Try.sizeOf28
  have t31 := Try.underlying31
  have u31 := Try.runUnderlying31
  have g31 := Try.isAgg31
  have z31 := Try.sizeOf31
  have c6 := Try.call6
  have c7 := Try.call7
  have c8 := Try.call8
  have c9 := Try.call9
  have c10 := Try.call10
  have c11 := Try.call11
  have c12 := Try.call12
  have c13 := Try.call13
  have c14 := Try.call14
  have mixed : Try.prog.follows .mixedOrders = true := by kernel_rfl
  obtain ⟨k30, hk30⟩ : ∃ k, k = 17 := ⟨_, rfl⟩
  rw [← hk30] at z24
  have nk30 : ¬ k30 = 0 := by omega
  have HK24 := Lib.hid hk30
  obtain ⟨k40, hk40⟩ : ∃ k, k = 18 := ⟨_, rfl⟩
  rw [← hk40] at z28
  have nk40 : ¬ k40 = 0 := by omega
  have HK28 := Lib.hid hk40
  have hP : Try.prog = PD := rfl
  rw [hP] at t3 u3 g3 z3 t4 u4 g4 z4 t5 u5 g5 z5 t22 u22 g22 z22 t24 u24 g24 z24 t25 u25 g25 z25 t28 u28 g28 z28 t31 u31 g31 z31 c6 c7 c8 c9 c10 c11 c12 c13 c14 mixed v24 v28 ⊢
  have HP := Lib.hid hP.symm
  clear hP hk30 hk40
  have hAk : A.size = k30 := by rw [HK24.out]; exact hAs
  have hDk : D.size = k30 := by rw [HK24.out]; exact hDs
  have hYk : Y.size = k30 := by rw [HK24.out]; exact hYs
  have hPk : P.size = k40 := by rw [HK28.out]; exact hPs
  have hZk : Z.size = k40 := by rw [HK28.out]; exact hZs
  clear hAs hDs hYs hPs hZs
  have p1 : (0 : Int) ≤ (i : Int) := by omega
  have p2 : (i : Int) < 15 := by omega
  obtain ⟨b4, hb4⟩ : ∃ b, w.heap.size = b := ⟨_, rfl⟩
  obtain ⟨w0, hw0⟩ : ∃ w0, w.alloc (.cells A 24) = w0 := ⟨_, rfl⟩
  have H0 : Hid (Fr No w w0 ∧ w0.heap[b4]? = some (.cells A 24 (0, 0))) := ⟨by rw [← hw0]; exact Fr.alloc No w _, by rw [← hw0, ← hb4]; exact heap_alloc_new w _⟩
  go_upto_region 4 with (first | (go_at_call 6; ((with_reducible refine (at_prog HP.out (blocked_any w0)).mono ?_); rintro e w1 ⟨ad, cp, rfl, ho1, hf1⟩; obtain ⟨bl, ol, rfl, lP1⟩ := HLD.out w1 ad (RowP.own PL_bytes ho1).1; rw [← HK28.out] at lP1; obtain ⟨y2, hst2, hyb2, hyf2⟩ := store_all (P := PD) P.toList (heap_alloc_new w1 (.cells Z 28)) (by rw [Array.length_toList, hPk, hZk]) hP1; have K2 : Fr No w1 y2 := (Fr.alloc No w1 _).ofNew hyf2 (fun k hk => .inr (by rw [hk]; exact Nat.le_refl _)); have l2 : Sem.run PD (loadCellsFrom ⟨w1.heap.size, 0, none⟩ 0 k30 #[]) y2 = .ok D y2 := load_block hyb2 hDk (fun j v hv => by rw [Nat.zero_add]; simpa using hPA j v hv); obtain ⟨y3, hst3, hyb3, hyf3⟩ := store_all (P := PD) D.toList (heap_alloc_new y2 (.cells Y 24)) (by rw [Array.length_toList, hDk, hYk]) hD1)) | (go_at_call 7; ((with_reducible refine (at_prog HP.out (HMI.out _)).mono ?_); rintro e wn ⟨rfl, hwn⟩; replace hwn := hwn.symm; subst hwn)) | fail)
  obtain ⟨b10, hb10⟩ : ∃ b, w1.heap.size = b := ⟨_, rfl⟩
  obtain ⟨b11, hb11⟩ : ∃ b, y2.heap.size = b := ⟨_, rfl⟩
  rw [hb11] at hyb3 hyf3
  have K3 : Fr No y2 y3 := (Fr.alloc No y2 _).ofNew hyf3 (fun k hk => .inr (by rw [hk, ← hb11]; exact Nat.le_refl _))
  have H3 : Hid (Fr No w y3 ∧ y3.heap[b4]? = some (.cells A 24 (0, 0)) ∧ w.heap.size ≤ b11 ∧ b4 < b11 ∧ y3.heap[b11]? = some (.cells (adr p.b p.xs).toArray 24 (0, 0))) := by
    have g1 := ((hf1.trans K2).trans K3)
    refine ⟨H0.out.1.trans g1, g1.keep H0.out.2, by rw [← hb11]; exact (H0.out.1.trans (hf1.trans K2)).size, by rw [← hb11]; exact some_lt ((hf1.trans K2).keep H0.out.2), ?_⟩
    rw [HW.out.2.2.1]
    simpa using hyb3
  have l3 : Sem.run PD (loadCellsFrom ⟨b11, 0, none⟩ 0 k30 #[]) y3 = .ok D y3 := load_block (cs := D) (by have h := H3.out.2.2.2.2; rw [HW.out.2.2.1] at h; exact h) hDk (fun j v hv => by simpa using hv)
  rw [hb11]
  obtain ⟨x, hx⟩ : ∃ x, p.xs[k / 8]? = some x := ⟨_, List.getElem?_eq_getElem (by rw [HW.out.2.2.2.1.1]; have := HW.out.2.2.2.2.2.2; omega)⟩
  obtain ⟨q, hq⟩ : ∃ q, k / 8 = q := ⟨_, rfl⟩
  obtain ⟨r, hr⟩ : ∃ r, k % 8 = r := ⟨_, rfl⟩
  obtain ⟨s, hs⟩ : ∃ s, 7 - r = s := ⟨_, rfl⟩
  rw [hq] at hx
  have e1 : (k : Int).tdiv 8 = (q : Int) := by rw [← hq]; rfl
  have e2 : (k : Int).tmod 8 = (r : Int) := by rw [← hr]; rfl
  have e3 : (7 : Int) - (r : Int) = (s : Int) := by omega
  have hxl : x < 256 := HW.out.2.2.2.1.2 x (List.mem_of_getElem? hx)
  have kq0 : (0 : Int) ≤ (q : Int) := by omega
  have kq1 : (q : Int) < 16 := by have := HW.out.2.2.2.2.2.2; omega
  have ks0 : ¬ (s : Int) < 0 := by omega
  have HKN : Hid (k < N ∧ N ≤ 128 ∧ k / 8 = q ∧ k % 8 = r) := ⟨hk, hN1, hq, hr⟩
  have HH : Hid (∀ (w' : World), Fr No y3 w' → w'.cell? ⟨b11, 1 + q, none⟩ = some (.int .u8 x) ∧ w'.frozen? ⟨b11, 1 + q, none⟩ = false) := fun w' h => by
    have h1 := h.keep H3.out.2.2.2.2
    exact ⟨adr_cell h1 hx, frozen_of_row w' b11 (1 + q) _ _ h1⟩
  clear hst2 hyb2 hyf2 K2 l2 hst3 hyb3 hyf3 K3 hf1 ho1 lP1 hb10 hw0 hb4 hq hr hs hx hPA
  go_upto_region 6 with (first | (go_at_call 8; ((with_reducible refine (at_prog HP.out (HBL.out _ _ hD0)).mono ?_); rintro e w4 ⟨rfl, hf4⟩; obtain ⟨cx, fx⟩ := HH.out w4 hf4)) | (go_at_call 7; ((with_reducible refine (at_prog HP.out (HMK.out _)).mono ?_); rintro e wn ⟨rfl, hwn⟩; replace hwn := hwn.symm; subst hwn)) | fail)
  obtain ⟨v, hv, hvl⟩ := u8_bits .xor (x : Int) (2 ^ s % 256)
  obtain ⟨hb6, hv6⟩ := set_valid (x := v) HW.out.2.2.2.1 HW.out.2.2.2.2.1 HW.out.2.2.2.2.2.1 HKN.out.1 hvl
  rw [HKN.out.2.2.1] at hb6 hv6
  have hc6 := adr_set (i := q) (x := v) (hf4.keep H3.out.2.2.2.2)
  rw [hv]
  have F6 : Fr (fun k => k = b11) w4 (w4.setCell ⟨b11, 1 + q, none⟩ (.int .u8 (v : Int))) := Fr.setCell _ w4 _ _ rfl
  obtain ⟨w6, hw6⟩ : ∃ w6, w4.setCell ⟨b11, 1 + q, none⟩ (.int .u8 (v : Int)) = w6 := ⟨_, rfl⟩
  rw [hw6] at hc6 F6 ⊢
  have H6 : Hid (Bytes (p.xs.set q v) ∧ validA p.b (p.xs.set q v) = true ∧ w6.heap[b11]? = some (.cells (adr p.b (p.xs.set q v)).toArray 24 (0, 0)) ∧ Fr No w w6 ∧ w6.heap[b4]? = some (.cells A 24 (0, 0))) := ⟨hb6, hv6, hc6, (H3.out.1.trans hf4).ofNew F6 fun k hk => .inr (by rw [hk]; exact H3.out.2.2.1), (F6.block b4 (some_lt (hf4.keep H3.out.2.1)) (by have := H3.out.2.2.2.1; omega)).trans (hf4.keep H3.out.2.1)⟩
  clear hv hvl hb6 hv6 hc6 F6 hw6 hf4 cx fx l3 e1 e2 e3 kq0 kq1 ks0
  go_upto_if 42 with fail
  go_cut [] (fun wx => Hid (∃ xs, Bytes xs ∧ validA p.b xs = true ∧ wx.heap[b11]? = some (.cells (adr p.b xs).toArray 24 (0, 0)) ∧ Fr (fun k => k = b11) w6 wx))
  case first =>
    cases up
    · go_wp2_with fail
      go_meet
      case rel => exact ⟨_, H6.out.1, H6.out.2.1, H6.out.2.2.1, Fr.refl _ _⟩
    · have hkw : IntKind.i64.wrap ((k : Int) + 1) = (k : Int) + 1 := by rw [IntKind.wrap_i64]; have := HKN.out; omega
      go_wp2_with fail
      go_loopg [13] 130 (fun g s13 wr => ∃ j : Nat, s13 = .int .i64 j ∧ j ≤ N ∧ N - j < g ∧ Hid (∃ xs, Bytes xs ∧ validA p.b xs = true ∧ wr.heap[b11]? = some (.cells (adr p.b xs).toArray 24 (0, 0)) ∧ Fr (fun k => k = b11) w6 wr))
      case atStart => exact ⟨k + 1, by go_num, by have := HKN.out; omega, by have := HKN.out; omega, _, H6.out.1, H6.out.2.1, H6.out.2.2.1, Fr.refl _ _⟩
      case round =>
        obtain ⟨j, rfl, hjN, hjg, HR⟩ := hrel
        obtain ⟨xs, hxb, hxv, hxk, hxf⟩ := HR.out
        obtain ⟨E, hE, hE0, hEs, -⟩ := adr_letter p.b xs hxb
        have hEk : E.size = k30 := by rw [HK24.out]; exact hEs
        have lE : Sem.run PD (loadCellsFrom ⟨b11, 0, none⟩ 0 k30 #[]) wr = .ok E wr := load_block (cs := E) (by rw [← hE]; exact hxk) hEk (fun j v hv => by simpa using hv)
        by_cases hj : j < N
        · obtain ⟨x2, hx2⟩ : ∃ x, xs[j / 8]? = some x := ⟨_, List.getElem?_eq_getElem (by rw [hxb.1]; have := HKN.out; omega)⟩
          obtain ⟨q2, hq2⟩ : ∃ q, j / 8 = q := ⟨_, rfl⟩
          obtain ⟨r2, hr2⟩ : ∃ r, j % 8 = r := ⟨_, rfl⟩
          obtain ⟨s2, hs2⟩ : ∃ s, 7 - r2 = s := ⟨_, rfl⟩
          rw [hq2] at hx2
          have e1 : (j : Int).tdiv 8 = (q2 : Int) := by rw [← hq2]; rfl
          have e2 : (j : Int).tmod 8 = (r2 : Int) := by rw [← hr2]; rfl
          have e3 : (7 : Int) - (r2 : Int) = (s2 : Int) := by omega
          have kq0 : (0 : Int) ≤ (q2 : Int) := by omega
          have kq1 : (q2 : Int) < 16 := by have := HKN.out; omega
          have ks0 : ¬ (s2 : Int) < 0 := by omega
          have p5 : (j : Int) < (N : Int) := by omega
          have hjw : IntKind.i64.wrap ((j : Int) + 1) = (j : Int) + 1 := by rw [IntKind.wrap_i64]; have := HKN.out; omega
          have HX := Lib.hid (And.intro hxb (And.intro hxv (And.intro hxk (And.intro hxf (And.intro hx2 (And.intro hq2 hj))))))
          have HNB : Hid (N ≤ 128 ∧ j < N) := ⟨HKN.out.2.1, hj⟩
          clear hxb hxv hxk hxf hx2 hq2 hr2 hs2 hE HR
          go_wp2_with (first | (go_at_call 8; ((with_reducible refine (at_prog HP.out (HBL.out _ _ hE0)).mono ?_); rintro e w7 ⟨rfl, hf7⟩; have k7 := hf7.keep HX.out.2.2.1; have cx2 := adr_cell k7 HX.out.2.2.2.2.1; have fx2 := frozen_of_row w7 b11 (1 + q2) _ _ k7; replace k7 := Lib.hid k7)) | fail)
          obtain ⟨v2, hv2, hvl2⟩ := u8_bits .or (x2 : Int) (2 ^ s2 % 256)
          go_roundg (N - j)
          case measure => exact hjg
          case rel =>
            obtain ⟨hb7, hv7⟩ := set_valid (x := v2) HX.out.1 HX.out.2.1 HW.out.2.2.2.2.2.1 HX.out.2.2.2.2.2.2 hvl2
            rw [HX.out.2.2.2.2.2.1] at hb7 hv7
            have hc7 := adr_set (i := q2) (x := v2) k7.out
            exact ⟨j + 1, by go_num, by omega, by omega, xs.set q2 v2, hb7, hv7, by rw [hv2]; exact hc7, (HX.out.2.2.2.1.trans hf7.no).trans (Fr.setCell _ w7 _ _ rfl)⟩
        · have p5 : ¬ (j : Int) < (N : Int) := by omega
          have HX := Lib.hid (And.intro hxb (And.intro hxv (And.intro hxk hxf)))
          clear hxb hxv hxk hxf hE HR
          go_wp2_with (first | (go_at_call 8; ((with_reducible refine (at_prog HP.out (HBL.out _ _ hE0)).mono ?_); rintro e w7 ⟨rfl, hf7⟩)) | fail)
          go_meet
          case rel => exact ⟨xs, HX.out.1, HX.out.2.1, hf7.keep HX.out.2.2.1, HX.out.2.2.2.trans hf7.no⟩
  case rest =>
    obtain ⟨xs, hxb, hxv, hxk, hxf⟩ := hcut
    obtain ⟨B, hB, -, hBs, -⟩ := adr_letter p.b xs hxb
    have hBk : B.size = k30 := by rw [HK24.out]; exact hBs
    have HC : Hid (wc.heap[b4]? = some (.cells A 24 (0, 0)) ∧ wc.heap[b11]? = some (.cells B 24 (0, 0)) ∧ Fr No w wc) := ⟨(hxf.block b4 (some_lt H6.out.2.2.2.2) (by have := H3.out.2.2.2.1; omega)).trans H6.out.2.2.2.2, by rw [← hB]; exact hxk, H6.out.2.2.2.1.ofNew hxf fun k hk => .inr (by rw [hk]; exact H3.out.2.2.1)⟩
    have HSA : Hid (∀ w', Calls Try.prog 9 #[.agg A] w' (GenB w')) := fun w' => by rw [← HW.out.1]; exact saddr_gen c0 ys0 HW.out.2.1 w'
    obtain ⟨IA, hIA⟩ : ∃ z, bIdx c0 ys0 = z := ⟨_, rfl⟩
    obtain ⟨IB, hIB⟩ : ∃ z, bIdx p.b xs = z := ⟨_, rfl⟩
    obtain ⟨VA, hVA⟩ : ∃ z, decide (0 ≤ IA) = z := ⟨_, rfl⟩
    obtain ⟨VB, hVB⟩ : ∃ z, decide (0 ≤ IB) = z := ⟨_, rfl⟩
    obtain ⟨va, hva⟩ : ∃ z, validA c0 ys0 = z := ⟨_, rfl⟩
    have HIA : Hid (∀ w', Calls PD 11 #[.agg A] w' fun e w'' => e = .returned (.int .i64 IA) ∧ Fr No w' w'') := fun w' => by rw [HP.out, ← HW.out.1, ← hIA]; exact index_any c0 ys0 HW.out.2.1 w'
    have HRA : Hid (∀ w', Calls PD 12 #[.agg A] w' fun e w'' => e = .returned (.int .i64 IA) ∧ Fr No w' w'') := fun w' => by rw [HP.out, ← HW.out.1, ← hIA]; exact bidx_ref c0 ys0 HW.out.2.1 w'
    have HCA0 : Hid (∀ w', Calls PD 13 #[.agg A] w' fun e w'' => e = .returned (.bool (!va || VA)) ∧ Fr No w' w'') := fun w' => by
      have h := contains_any c0 ys0 HW.out.2.1 w'
      rw [hva, hIA, hVA, HW.out.1] at h
      rw [HP.out]
      exact h
    have HVA : Hid (∀ w', Calls PD 14 #[.agg A] w' fun e w'' => e = .returned (.bool va) ∧ Fr No w' w'') := fun w' => by rw [HP.out, ← HW.out.1, ← hva]; exact valid_ref c0 ys0 HW.out.2.1 w'
    have HIB : Hid (∀ w', Calls PD 11 #[.agg B] w' fun e w'' => e = .returned (.int .i64 IB) ∧ Fr No w' w'') := fun w' => by rw [HP.out, ← hB, ← hIB]; exact index_any p.b xs hxb w'
    have HRB : Hid (∀ w', Calls PD 12 #[.agg B] w' fun e w'' => e = .returned (.int .i64 IB) ∧ Fr No w' w'') := fun w' => by rw [HP.out, ← hB, ← hIB]; exact bidx_ref p.b xs hxb w'
    have HCB : Hid (∀ w', Calls PD 13 #[.agg B] w' fun e w'' => e = .returned (.bool VB) ∧ Fr No w' w'') := fun w' => by
      have h := contains_any p.b xs hxb w'
      rw [hxv, hIB, hVB, hB] at h
      rw [HP.out]
      exact h
    clear hB hBs hxb hxv hxk hxf hIA hIB hva
    have lA : Sem.run PD (loadCellsFrom ⟨b4, 0, none⟩ 0 k30 #[]) wc = .ok A wc := load_block HC.out.1 hAk (fun j v hv => by simpa using hv)
    go_upto_region 12 with (first | (go_at_call 9; ((with_reducible refine (at_prog HP.out (HSA.out _)).mono ?_); rintro e w8 ⟨c5, ys5, hy5, rfl, hf8⟩; obtain ⟨C, hC, -, hCs, -⟩ := adr_letter c5 ys5 hy5; rw [hC]; have hCk : C.size = k30 := (by rw [HK24.out]; exact hCs); obtain ⟨w9, hst9, hyb9, hyf9⟩ := store_all (P := PD) C.toList (heap_alloc_new w8 (.cells Y 24)) (by rw [Array.length_toList, hCk, hYk]) (by rw [← hC]; exact adr_one _ _))) | fail)
    obtain ⟨b14, hb14⟩ : ∃ b, w8.heap.size = b := ⟨_, rfl⟩
    rw [hb14] at hyb9 hyf9
    have K9 : Fr No wc w9 := (hf8.trans (Fr.alloc No w8 _)).ofNew hyf9 (fun k hk => .inr (by rw [hk, ← hb14]; exact hf8.size))
    have H9 : Hid (Fr No w w9 ∧ w9.heap[b4]? = some (.cells A 24 (0, 0)) ∧ w9.heap[b11]? = some (.cells B 24 (0, 0)) ∧ w9.heap[b14]? = some (.cells C 24 (0, 0))) := ⟨HC.out.2.2.trans K9, K9.keep HC.out.1, K9.keep HC.out.2.1, by simpa using hyb9⟩
    rw [hb14]
    obtain ⟨IC, hIC⟩ : ∃ z, bIdx c5 ys5 = z := ⟨_, rfl⟩
    have HIC : Hid (∀ w', Calls PD 11 #[.agg C] w' fun e w'' => e = .returned (.int .i64 IC) ∧ Fr No w' w'') := fun w' => by rw [HP.out, ← hC, ← hIC]; exact index_any c5 ys5 hy5 w'
    have HRC : Hid (∀ w', Calls PD 12 #[.agg C] w' fun e w'' => e = .returned (.int .i64 IC) ∧ Fr No w' w'') := fun w' => by rw [HP.out, ← hC, ← hIC]; exact bidx_ref c5 ys5 hy5 w'
    have bawake_any : ∀ w', Calls PD 10 #[] w' fun e w'' => e = .returned (.bool true) ∧ Fr No w' w'' := fun w' => by rw [HP.out]; exact Ytgbbgkbpafpnbaa.bawake_any w'
    replace bawake_any := Lib.hid bawake_any
    have HSS : Hid (∀ w', Fr No w9 w' → Fr No w9 w' ∧ Sem.run PD (loadCellsFrom ⟨b4, 0, none⟩ 0 k30 #[]) w' = .ok A w' ∧ Sem.run PD (loadCellsFrom ⟨b11, 0, none⟩ 0 k30 #[]) w' = .ok B w' ∧ Sem.run PD (loadCellsFrom ⟨b14, 0, none⟩ 0 k30 #[]) w' = .ok C w') := fun w' h => ⟨h, load_block (h.keep H9.out.2.1) hAk (fun j v hv => by simpa using hv), load_block (h.keep H9.out.2.2.1) hBk (fun j v hv => by simpa using hv), load_block (h.keep H9.out.2.2.2) hCk (fun j v hv => by simpa using hv)⟩
    have hS0 := HSS.out _ (Fr.drew No w9)
    clear hst9 hyb9 hyf9 K9 hf8 hC hCs hIC hy5 hb14
    cases VA
    · have HCA : Hid (∀ w', Calls PD 13 #[.agg A] w' fun e w'' => e = .returned (.bool (!va)) ∧ Fr No w' w'') := fun w' => by
        have h := HCA0.out w'
        rw [Bool.or_false] at h
        exact h
      cases va
      · have hS1 := hS0
        clear hS1
        refine wp_region_noPanic ?_
        refine wp_region_held_drew (S := (fun w' => Fr No w9 w' ∧ Sem.run PD (loadCellsFrom ⟨b4, 0, none⟩ 0 k30 #[]) w' = .ok A w' ∧ Sem.run PD (loadCellsFrom ⟨b11, 0, none⟩ 0 k30 #[]) w' = .ok B w' ∧ Sem.run PD (loadCellsFrom ⟨b14, 0, none⟩ 0 k30 #[]) w' = .ok C w')) (by kernel_rfl) hS0 (fun hHeld => ?_)
        clear hS0
        refine wpAnyH_ready (rs := [0]) (by kernel_rfl) (by simp) ?_
        refine (AllReadyH.cons (o := { dst := some 66, op := Op.call { callee := Callee.value (Operand.func 10), args := #[], argTypes := #[] }, type := 4, pos := "law.go:30", after := #[], guard := none }) rfl (fun K hK => ?_) AllReadyH.nil)
        go_simp
        go_at_call 10
        refine (bawake_any.out _).mono ?_
        rintro e v12 ⟨rfl, g12⟩
        have G12 : Fr No w9 v12 := Fr.trans (Fr.drew No w9) g12
        have hS := HSS.out _ G12
        clear g12
        refine hK.out _ _ hS (fun hH2 => ?_)
        clear hK K hHeld
        have hHeld := hH2
        clear hH2 hS
        try simp only [Act.put, List.setIfInBounds_toArray, List.set_cons_zero, List.set_cons_succ]
        refine wpAnyH_take (i := 1) (oi := { dst := some 67, op := Op.move (Operand.tmp 66), type := 4, pos := "law.go:30", after := #[{ on := 0, ground := Ground.data }, { on := 0, ground := Ground.chain }], guard := none }) (v := ?v1x34) rfl (by kernel_rfl) (by kernel_rfl) (by kernel_rfl) (fun _ _ _ h => h) (Or.inl ⟨by rfl, ?hy1x34⟩) hHeld ?nx1x34
        case hy1x34 => (intro w hSw; (try dsimp only at hSw); go_simp; try with_reducible rfl)
        try simp only [Act.put, List.setIfInBounds_toArray, List.set_cons_zero, List.set_cons_succ]
        refine wpAnyH_take (i := 2) (oi := { dst := some 68, op := Op.load 24 (Operand.tmp 4), type := 24, pos := "law.go:30", after := #[{ on := 1, ground := Ground.guard }], guard := some (1, true) }) (v := ?v2x35) rfl (by kernel_rfl) (by kernel_rfl) (by kernel_rfl) (fun _ _ _ h => h) (Or.inl ⟨by rfl, ?hy2x35⟩) hHeld ?nx2x35
        case hy2x35 => (intro w hSw; (try dsimp only at hSw); go_simp; try with_reducible rfl)
        try simp only [Act.put, List.setIfInBounds_toArray, List.set_cons_zero, List.set_cons_succ]
        refine wpAnyH_take (i := 4) (oi := { dst := some 70, op := Op.load 24 (Operand.tmp 4), type := 24, pos := "law.go:30", after := #[{ on := 1, ground := Ground.guard }], guard := some (1, true) }) (v := ?v4x36) rfl (by kernel_rfl) (by kernel_rfl) (by kernel_rfl) (fun _ _ _ h => h) (Or.inl ⟨by rfl, ?hy4x36⟩) hHeld ?nx4x36
        case hy4x36 => (intro w hSw; (try dsimp only at hSw); go_simp; try with_reducible rfl)
        try simp only [Act.put, List.setIfInBounds_toArray, List.set_cons_zero, List.set_cons_succ]
        refine wpAnyH_ready (rs := [3]) (by kernel_rfl) (by simp) ?_
        refine (AllReadyH.cons (o := { dst := some 69, op := Op.call { callee := Callee.value (Operand.func 11), args := #[Operand.tmp 68], argTypes := #[24] }, type := 3, pos := "law.go:30", after := #[{ on := 2, ground := Ground.data }, { on := 1, ground := Ground.chain }, { on := 1, ground := Ground.guard }], guard := some (1, true) }) rfl (fun K hK => ?_) AllReadyH.nil)
        go_simp
        go_at_call 11
        refine (HIA.out _).mono ?_
        rintro e v13 ⟨rfl, g13⟩
        have G13 : Fr No w9 v13 := Fr.trans (G12) g13
        have hS := HSS.out _ G13
        clear g13
        refine hK.out _ _ hS (fun hH2 => ?_)
        clear hK K hHeld
        have hHeld := hH2
        clear hH2 hS
        try simp only [Act.put, List.setIfInBounds_toArray, List.set_cons_zero, List.set_cons_succ]
        refine wpAnyH_ready (rs := [5]) (by kernel_rfl) (by simp) ?_
        refine (AllReadyH.cons (o := { dst := some 71, op := Op.call { callee := Callee.value (Operand.func 12), args := #[Operand.tmp 70], argTypes := #[24] }, type := 3, pos := "law.go:30", after := #[{ on := 4, ground := Ground.data }, { on := 3, ground := Ground.chain }, { on := 1, ground := Ground.guard }], guard := some (1, true) }) rfl (fun K hK => ?_) AllReadyH.nil)
        go_simp
        go_at_call 12
        refine (HRA.out _).mono ?_
        rintro e v14 ⟨rfl, g14⟩
        have G14 : Fr No w9 v14 := Fr.trans (G13) g14
        have hS := HSS.out _ G14
        clear g14
        refine hK.out _ _ hS (fun hH2 => ?_)
        clear hK K hHeld
        have hHeld := hH2
        clear hH2 hS
        try simp only [Act.put, List.setIfInBounds_toArray, List.set_cons_zero, List.set_cons_succ]
        refine wpAnyH_take (i := 6) (oi := { dst := some 72, op := Op.binOp BinOp.eql 3 (Operand.tmp 69) (Operand.tmp 71) 3, type := 4, pos := "law.go:30", after := #[{ on := 3, ground := Ground.data }, { on := 5, ground := Ground.data }, { on := 1, ground := Ground.guard }], guard := some (1, true) }) (v := ?v6x37) rfl (by kernel_rfl) (by kernel_rfl) (by kernel_rfl) (fun _ _ _ h => h) (Or.inl ⟨by rfl, ?hy6x37⟩) hHeld ?nx6x37
        case hy6x37 => (intro w hSw; (try dsimp only at hSw); go_simp; try with_reducible rfl)
        try simp only [Act.put, List.setIfInBounds_toArray, List.set_cons_zero, List.set_cons_succ]
        refine wpAnyH_take (i := 7) (oi := { dst := some 73, op := Op.pick (Operand.tmp 67) (Operand.tmp 72) (Operand.const (Value.bool false)), type := 4, pos := "law.go:30", after := #[{ on := 1, ground := Ground.data }, { on := 6, ground := Ground.data }], guard := none }) (v := ?v7x38) rfl (by kernel_rfl) (by kernel_rfl) (by kernel_rfl) (fun _ _ _ h => h) (Or.inl ⟨by rfl, ?hy7x38⟩) hHeld ?nx7x38
        case hy7x38 => (intro w hSw; (try dsimp only at hSw); go_simp; try with_reducible rfl)
        try simp only [Act.put, List.setIfInBounds_toArray, List.set_cons_zero, List.set_cons_succ]
        refine wpAnyH_take (i := 8) (oi := { dst := some 74, op := Op.move (Operand.tmp 73), type := 4, pos := "law.go:30", after := #[{ on := 7, ground := Ground.data }, { on := 5, ground := Ground.chain }], guard := none }) (v := ?v8x39) rfl (by kernel_rfl) (by kernel_rfl) (by kernel_rfl) (fun _ _ _ h => h) (Or.inl ⟨by rfl, ?hy8x39⟩) hHeld ?nx8x39
        case hy8x39 => (intro w hSw; (try dsimp only at hSw); go_simp; try with_reducible rfl)
        try simp only [Act.put, List.setIfInBounds_toArray, List.set_cons_zero, List.set_cons_succ]
        refine wpAnyH_take (i := 9) (oi := { dst := some 75, op := Op.load 24 (Operand.tmp 4), type := 24, pos := "law.go:30", after := #[{ on := 8, ground := Ground.guard }], guard := some (8, true) }) (v := ?v9x40) rfl (by kernel_rfl) (by kernel_rfl) (by kernel_rfl) (fun _ _ _ h => h) (Or.inl ⟨by rfl, ?hy9x40⟩) hHeld ?nx9x40
        case hy9x40 => (intro w hSw; (try dsimp only at hSw); go_simp; try with_reducible rfl)
        try simp only [Act.put, List.setIfInBounds_toArray, List.set_cons_zero, List.set_cons_succ]
        refine wpAnyH_take (i := 11) (oi := { dst := some 77, op := Op.load 24 (Operand.tmp 4), type := 24, pos := "law.go:30", after := #[{ on := 8, ground := Ground.guard }], guard := some (8, true) }) (v := ?v11x41) rfl (by kernel_rfl) (by kernel_rfl) (by kernel_rfl) (fun _ _ _ h => h) (Or.inl ⟨by rfl, ?hy11x41⟩) hHeld ?nx11x41
        case hy11x41 => (intro w hSw; (try dsimp only at hSw); go_simp; try with_reducible rfl)
        try simp only [Act.put, List.setIfInBounds_toArray, List.set_cons_zero, List.set_cons_succ]
        refine wpAnyH_ready (rs := [10]) (by kernel_rfl) (by simp) ?_
        refine (AllReadyH.cons (o := { dst := some 76, op := Op.call { callee := Callee.value (Operand.func 13), args := #[Operand.tmp 75], argTypes := #[24] }, type := 4, pos := "law.go:30", after := #[{ on := 9, ground := Ground.data }, { on := 8, ground := Ground.chain }, { on := 8, ground := Ground.guard }], guard := some (8, true) }) rfl (fun K hK => ?_) AllReadyH.nil)
        go_simp
        go_at_call 13
        refine (HCA.out _).mono ?_
        rintro e v15 ⟨rfl, g15⟩
        have G15 : Fr No w9 v15 := Fr.trans (G14) g15
        have hS := HSS.out _ G15
        clear g15
        refine hK.out _ _ hS (fun hH2 => ?_)
        clear hK K hHeld
        have hHeld := hH2
        clear hH2 hS
        try simp only [Act.put, List.setIfInBounds_toArray, List.set_cons_zero, List.set_cons_succ]
        refine wpAnyH_ready (rs := [12]) (by kernel_rfl) (by simp) ?_
        refine (AllReadyH.cons (o := { dst := some 78, op := Op.call { callee := Callee.value (Operand.func 12), args := #[Operand.tmp 77], argTypes := #[24] }, type := 3, pos := "law.go:30", after := #[{ on := 11, ground := Ground.data }, { on := 10, ground := Ground.chain }, { on := 8, ground := Ground.guard }], guard := some (8, true) }) rfl (fun K hK => ?_) AllReadyH.nil)
        go_simp
        go_at_call 12
        refine (HRA.out _).mono ?_
        rintro e v16 ⟨rfl, g16⟩
        have G16 : Fr No w9 v16 := Fr.trans (G15) g16
        have hS := HSS.out _ G16
        clear g16
        refine hK.out _ _ hS (fun hH2 => ?_)
        clear hK K hHeld
        have hHeld := hH2
        clear hH2 hS
        try simp only [Act.put, List.setIfInBounds_toArray, List.set_cons_zero, List.set_cons_succ]
        refine wpAnyH_take (i := 13) (oi := { dst := some 79, op := Op.binOp BinOp.geq 3 (Operand.tmp 78) (Operand.const (Value.int IntKind.i64 0)) 3, type := 4, pos := "law.go:30", after := #[{ on := 12, ground := Ground.data }, { on := 8, ground := Ground.guard }], guard := some (8, true) }) (v := ?v13x42) rfl (by kernel_rfl) (by kernel_rfl) (by kernel_rfl) (fun _ _ _ h => h) (Or.inl ⟨by rfl, ?hy13x42⟩) hHeld ?nx13x42
        case hy13x42 => (intro w hSw; (try dsimp only at hSw); go_simp; try with_reducible rfl)
        try simp only [Act.put, List.setIfInBounds_toArray, List.set_cons_zero, List.set_cons_succ]
        refine wpAnyH_take (i := 14) (oi := { dst := some 80, op := Op.move (Operand.tmp 79), type := 4, pos := "law.go:30", after := #[{ on := 13, ground := Ground.data }, { on := 12, ground := Ground.chain }, { on := 8, ground := Ground.guard }], guard := some (8, true) }) (v := ?v14x43) rfl (by kernel_rfl) (by kernel_rfl) (by kernel_rfl) (fun _ _ _ h => h) (Or.inl ⟨by rfl, ?hy14x43⟩) hHeld ?nx14x43
        case hy14x43 => (intro w hSw; (try dsimp only at hSw); go_simp; try with_reducible rfl)
        try simp only [Act.put, List.setIfInBounds_toArray, List.set_cons_zero, List.set_cons_succ]
        refine wpAnyH_take (i := 15) (oi := { dst := some 81, op := Op.load 24 (Operand.tmp 4), type := 24, pos := "law.go:30", after := #[{ on := 14, ground := Ground.guard }], guard := some (14, false) }) (v := ?v15x44) rfl (by kernel_rfl) (by kernel_rfl) (by kernel_rfl) (fun _ _ _ h => h) (Or.inl ⟨by rfl, ?hy15x44⟩) hHeld ?nx15x44
        case hy15x44 => (intro w hSw; (try dsimp only at hSw); go_simp; try with_reducible rfl)
        try simp only [Act.put, List.setIfInBounds_toArray, List.set_cons_zero, List.set_cons_succ]
        refine wpAnyH_ready (rs := [16]) (by kernel_rfl) (by simp) ?_
        refine (AllReadyH.cons (o := { dst := some 82, op := Op.call { callee := Callee.value (Operand.func 14), args := #[Operand.tmp 81], argTypes := #[24] }, type := 4, pos := "law.go:30", after := #[{ on := 15, ground := Ground.data }, { on := 14, ground := Ground.chain }, { on := 14, ground := Ground.guard }], guard := some (14, false) }) rfl (fun K hK => ?_) AllReadyH.nil)
        go_simp
        go_at_call 14
        refine (HVA.out _).mono ?_
        rintro e v17 ⟨rfl, g17⟩
        have G17 : Fr No w9 v17 := Fr.trans (G16) g17
        have hS := HSS.out _ G17
        clear g17
        refine hK.out _ _ hS (fun hH2 => ?_)
        clear hK K hHeld
        have hHeld := hH2
        clear hH2 hS
        try simp only [Act.put, List.setIfInBounds_toArray, List.set_cons_zero, List.set_cons_succ]
        refine wpAnyH_take (i := 17) (oi := { dst := some 83, op := Op.unOp UnOp.not 4 (Operand.tmp 82), type := 4, pos := "law.go:30", after := #[{ on := 16, ground := Ground.data }, { on := 14, ground := Ground.guard }], guard := some (14, false) }) (v := ?v17x45) rfl (by kernel_rfl) (by kernel_rfl) (by kernel_rfl) (fun _ _ _ h => h) (Or.inl ⟨by rfl, ?hy17x45⟩) hHeld ?nx17x45
        case hy17x45 => (intro w hSw; (try dsimp only at hSw); go_simp; try with_reducible rfl)
        try simp only [Act.put, List.setIfInBounds_toArray, List.set_cons_zero, List.set_cons_succ]
        refine wpAnyH_take (i := 18) (oi := { dst := some 84, op := Op.pick (Operand.tmp 80) (Operand.const (Value.bool true)) (Operand.tmp 83), type := 4, pos := "law.go:30", after := #[{ on := 14, ground := Ground.data }, { on := 17, ground := Ground.data }, { on := 8, ground := Ground.guard }], guard := some (8, true) }) (v := ?v18x46) rfl (by kernel_rfl) (by kernel_rfl) (by kernel_rfl) (fun _ _ _ h => h) (Or.inl ⟨by rfl, ?hy18x46⟩) hHeld ?nx18x46
        case hy18x46 => (intro w hSw; (try dsimp only at hSw); go_simp; try with_reducible rfl)
        try simp only [Act.put, List.setIfInBounds_toArray, List.set_cons_zero, List.set_cons_succ]
        refine wpAnyH_take (i := 19) (oi := { dst := some 85, op := Op.binOp BinOp.eql 4 (Operand.tmp 76) (Operand.tmp 84) 4, type := 4, pos := "law.go:30", after := #[{ on := 10, ground := Ground.data }, { on := 18, ground := Ground.data }, { on := 8, ground := Ground.guard }], guard := some (8, true) }) (v := ?v19x47) rfl (by kernel_rfl) (by kernel_rfl) (by kernel_rfl) (fun _ _ _ h => h) (Or.inl ⟨by rfl, ?hy19x47⟩) hHeld ?nx19x47
        case hy19x47 => (intro w hSw; (try dsimp only at hSw); go_simp; try with_reducible rfl)
        try simp only [Act.put, List.setIfInBounds_toArray, List.set_cons_zero, List.set_cons_succ]
        refine wpAnyH_take (i := 20) (oi := { dst := some 86, op := Op.pick (Operand.tmp 74) (Operand.tmp 85) (Operand.const (Value.bool false)), type := 4, pos := "law.go:30", after := #[{ on := 8, ground := Ground.data }, { on := 19, ground := Ground.data }], guard := none }) (v := ?v20x48) rfl (by kernel_rfl) (by kernel_rfl) (by kernel_rfl) (fun _ _ _ h => h) (Or.inl ⟨by rfl, ?hy20x48⟩) hHeld ?nx20x48
        case hy20x48 => (intro w hSw; (try dsimp only at hSw); go_simp; try with_reducible rfl)
        try simp only [Act.put, List.setIfInBounds_toArray, List.set_cons_zero, List.set_cons_succ]
        refine wpAnyH_take (i := 21) (oi := { dst := some 87, op := Op.move (Operand.tmp 86), type := 4, pos := "law.go:30", after := #[{ on := 20, ground := Ground.data }, { on := 16, ground := Ground.chain }], guard := none }) (v := ?v21x49) rfl (by kernel_rfl) (by kernel_rfl) (by kernel_rfl) (fun _ _ _ h => h) (Or.inl ⟨by rfl, ?hy21x49⟩) hHeld ?nx21x49
        case hy21x49 => (intro w hSw; (try dsimp only at hSw); go_simp; try with_reducible rfl)
        try simp only [Act.put, List.setIfInBounds_toArray, List.set_cons_zero, List.set_cons_succ]
        refine wpAnyH_take (i := 22) (oi := { dst := some 88, op := Op.load 24 (Operand.tmp 11), type := 24, pos := "law.go:30", after := #[{ on := 21, ground := Ground.guard }], guard := some (21, true) }) (v := ?v22x50) rfl (by kernel_rfl) (by kernel_rfl) (by kernel_rfl) (fun _ _ _ h => h) (Or.inl ⟨by rfl, ?hy22x50⟩) hHeld ?nx22x50
        case hy22x50 => (intro w hSw; (try dsimp only at hSw); go_simp; try with_reducible rfl)
        try simp only [Act.put, List.setIfInBounds_toArray, List.set_cons_zero, List.set_cons_succ]
        refine wpAnyH_take (i := 24) (oi := { dst := some 90, op := Op.load 24 (Operand.tmp 11), type := 24, pos := "law.go:30", after := #[{ on := 21, ground := Ground.guard }], guard := some (21, true) }) (v := ?v24x51) rfl (by kernel_rfl) (by kernel_rfl) (by kernel_rfl) (fun _ _ _ h => h) (Or.inl ⟨by rfl, ?hy24x51⟩) hHeld ?nx24x51
        case hy24x51 => (intro w hSw; (try dsimp only at hSw); go_simp; try with_reducible rfl)
        try simp only [Act.put, List.setIfInBounds_toArray, List.set_cons_zero, List.set_cons_succ]
        refine wpAnyH_ready (rs := [23]) (by kernel_rfl) (by simp) ?_
        refine (AllReadyH.cons (o := { dst := some 89, op := Op.call { callee := Callee.value (Operand.func 11), args := #[Operand.tmp 88], argTypes := #[24] }, type := 3, pos := "law.go:30", after := #[{ on := 22, ground := Ground.data }, { on := 21, ground := Ground.chain }, { on := 21, ground := Ground.guard }], guard := some (21, true) }) rfl (fun K hK => ?_) AllReadyH.nil)
        go_simp
        go_at_call 11
        refine (HIB.out _).mono ?_
        rintro e v18 ⟨rfl, g18⟩
        have G18 : Fr No w9 v18 := Fr.trans (G17) g18
        have hS := HSS.out _ G18
        clear g18
        refine hK.out _ _ hS (fun hH2 => ?_)
        clear hK K hHeld
        have hHeld := hH2
        clear hH2 hS
        try simp only [Act.put, List.setIfInBounds_toArray, List.set_cons_zero, List.set_cons_succ]
        refine wpAnyH_ready (rs := [25]) (by kernel_rfl) (by simp) ?_
        refine (AllReadyH.cons (o := { dst := some 91, op := Op.call { callee := Callee.value (Operand.func 12), args := #[Operand.tmp 90], argTypes := #[24] }, type := 3, pos := "law.go:30", after := #[{ on := 24, ground := Ground.data }, { on := 23, ground := Ground.chain }, { on := 21, ground := Ground.guard }], guard := some (21, true) }) rfl (fun K hK => ?_) AllReadyH.nil)
        go_simp
        go_at_call 12
        refine (HRB.out _).mono ?_
        rintro e v19 ⟨rfl, g19⟩
        have G19 : Fr No w9 v19 := Fr.trans (G18) g19
        have hS := HSS.out _ G19
        clear g19
        refine hK.out _ _ hS (fun hH2 => ?_)
        clear hK K hHeld
        have hHeld := hH2
        clear hH2 hS
        try simp only [Act.put, List.setIfInBounds_toArray, List.set_cons_zero, List.set_cons_succ]
        refine wpAnyH_take (i := 26) (oi := { dst := some 92, op := Op.binOp BinOp.eql 3 (Operand.tmp 89) (Operand.tmp 91) 3, type := 4, pos := "law.go:30", after := #[{ on := 23, ground := Ground.data }, { on := 25, ground := Ground.data }, { on := 21, ground := Ground.guard }], guard := some (21, true) }) (v := ?v26x52) rfl (by kernel_rfl) (by kernel_rfl) (by kernel_rfl) (fun _ _ _ h => h) (Or.inl ⟨by rfl, ?hy26x52⟩) hHeld ?nx26x52
        case hy26x52 => (intro w hSw; (try dsimp only at hSw); go_simp; try with_reducible rfl)
        try simp only [Act.put, List.setIfInBounds_toArray, List.set_cons_zero, List.set_cons_succ]
        refine wpAnyH_take (i := 27) (oi := { dst := some 93, op := Op.pick (Operand.tmp 87) (Operand.tmp 92) (Operand.const (Value.bool false)), type := 4, pos := "law.go:30", after := #[{ on := 21, ground := Ground.data }, { on := 26, ground := Ground.data }], guard := none }) (v := ?v27x53) rfl (by kernel_rfl) (by kernel_rfl) (by kernel_rfl) (fun _ _ _ h => h) (Or.inl ⟨by rfl, ?hy27x53⟩) hHeld ?nx27x53
        case hy27x53 => (intro w hSw; (try dsimp only at hSw); go_simp; try with_reducible rfl)
        try simp only [Act.put, List.setIfInBounds_toArray, List.set_cons_zero, List.set_cons_succ]
        refine wpAnyH_take (i := 28) (oi := { dst := some 94, op := Op.move (Operand.tmp 93), type := 4, pos := "law.go:30", after := #[{ on := 27, ground := Ground.data }, { on := 25, ground := Ground.chain }], guard := none }) (v := ?v28x54) rfl (by kernel_rfl) (by kernel_rfl) (by kernel_rfl) (fun _ _ _ h => h) (Or.inl ⟨by rfl, ?hy28x54⟩) hHeld ?nx28x54
        case hy28x54 => (intro w hSw; (try dsimp only at hSw); go_simp; try with_reducible rfl)
        try simp only [Act.put, List.setIfInBounds_toArray, List.set_cons_zero, List.set_cons_succ]
        refine wpAnyH_take (i := 29) (oi := { dst := some 95, op := Op.load 24 (Operand.tmp 11), type := 24, pos := "law.go:30", after := #[{ on := 28, ground := Ground.guard }], guard := some (28, true) }) (v := ?v29x55) rfl (by kernel_rfl) (by kernel_rfl) (by kernel_rfl) (fun _ _ _ h => h) (Or.inl ⟨by rfl, ?hy29x55⟩) hHeld ?nx29x55
        case hy29x55 => (intro w hSw; (try dsimp only at hSw); go_simp; try with_reducible rfl)
        try simp only [Act.put, List.setIfInBounds_toArray, List.set_cons_zero, List.set_cons_succ]
        refine wpAnyH_take (i := 31) (oi := { dst := some 97, op := Op.load 24 (Operand.tmp 11), type := 24, pos := "law.go:30", after := #[{ on := 28, ground := Ground.guard }], guard := some (28, true) }) (v := ?v31x56) rfl (by kernel_rfl) (by kernel_rfl) (by kernel_rfl) (fun _ _ _ h => h) (Or.inl ⟨by rfl, ?hy31x56⟩) hHeld ?nx31x56
        case hy31x56 => (intro w hSw; (try dsimp only at hSw); go_simp; try with_reducible rfl)
        try simp only [Act.put, List.setIfInBounds_toArray, List.set_cons_zero, List.set_cons_succ]
        refine wpAnyH_ready (rs := [30]) (by kernel_rfl) (by simp) ?_
        refine (AllReadyH.cons (o := { dst := some 96, op := Op.call { callee := Callee.value (Operand.func 13), args := #[Operand.tmp 95], argTypes := #[24] }, type := 4, pos := "law.go:30", after := #[{ on := 29, ground := Ground.data }, { on := 28, ground := Ground.chain }, { on := 28, ground := Ground.guard }], guard := some (28, true) }) rfl (fun K hK => ?_) AllReadyH.nil)
        go_simp
        go_at_call 13
        refine (HCB.out _).mono ?_
        rintro e v20 ⟨rfl, g20⟩
        have G20 : Fr No w9 v20 := Fr.trans (G19) g20
        have hS := HSS.out _ G20
        clear g20
        refine hK.out _ _ hS (fun hH2 => ?_)
        clear hK K hHeld
        have hHeld := hH2
        clear hH2 hS
        try simp only [Act.put, List.setIfInBounds_toArray, List.set_cons_zero, List.set_cons_succ]
        refine wpAnyH_ready (rs := [32]) (by kernel_rfl) (by simp) ?_
        refine (AllReadyH.cons (o := { dst := some 98, op := Op.call { callee := Callee.value (Operand.func 12), args := #[Operand.tmp 97], argTypes := #[24] }, type := 3, pos := "law.go:30", after := #[{ on := 31, ground := Ground.data }, { on := 30, ground := Ground.chain }, { on := 28, ground := Ground.guard }], guard := some (28, true) }) rfl (fun K hK => ?_) AllReadyH.nil)
        go_simp
        go_at_call 12
        refine (HRB.out _).mono ?_
        rintro e v21 ⟨rfl, g21⟩
        have G21 : Fr No w9 v21 := Fr.trans (G20) g21
        have hS := HSS.out _ G21
        clear g21
        refine hK.out _ _ hS (fun hH2 => ?_)
        clear hK K hHeld
        have hHeld := hH2
        clear hH2 hS
        try simp only [Act.put, List.setIfInBounds_toArray, List.set_cons_zero, List.set_cons_succ]
        refine wpAnyH_take (i := 33) (oi := { dst := some 99, op := Op.binOp BinOp.geq 3 (Operand.tmp 98) (Operand.const (Value.int IntKind.i64 0)) 3, type := 4, pos := "law.go:30", after := #[{ on := 32, ground := Ground.data }, { on := 28, ground := Ground.guard }], guard := some (28, true) }) (v := ?v33x57) rfl (by kernel_rfl) (by kernel_rfl) (by kernel_rfl) (fun _ _ _ h => h) (Or.inl ⟨by rfl, ?hy33x57⟩) hHeld ?nx33x57
        case hy33x57 => (intro w hSw; (try dsimp only at hSw); go_simp; try with_reducible rfl)
        try simp only [Act.put, List.setIfInBounds_toArray, List.set_cons_zero, List.set_cons_succ]
        refine wpAnyH_take (i := 34) (oi := { dst := some 100, op := Op.binOp BinOp.eql 4 (Operand.tmp 96) (Operand.tmp 99) 4, type := 4, pos := "law.go:30", after := #[{ on := 30, ground := Ground.data }, { on := 33, ground := Ground.data }, { on := 28, ground := Ground.guard }], guard := some (28, true) }) (v := ?v34x58) rfl (by kernel_rfl) (by kernel_rfl) (by kernel_rfl) (fun _ _ _ h => h) (Or.inl ⟨by rfl, ?hy34x58⟩) hHeld ?nx34x58
        case hy34x58 => (intro w hSw; (try dsimp only at hSw); go_simp; try with_reducible rfl)
        try simp only [Act.put, List.setIfInBounds_toArray, List.set_cons_zero, List.set_cons_succ]
        refine wpAnyH_take (i := 35) (oi := { dst := some 101, op := Op.pick (Operand.tmp 94) (Operand.tmp 100) (Operand.const (Value.bool false)), type := 4, pos := "law.go:30", after := #[{ on := 28, ground := Ground.data }, { on := 34, ground := Ground.data }], guard := none }) (v := ?v35x59) rfl (by kernel_rfl) (by kernel_rfl) (by kernel_rfl) (fun _ _ _ h => h) (Or.inl ⟨by rfl, ?hy35x59⟩) hHeld ?nx35x59
        case hy35x59 => (intro w hSw; (try dsimp only at hSw); go_simp; try with_reducible rfl)
        try simp only [Act.put, List.setIfInBounds_toArray, List.set_cons_zero, List.set_cons_succ]
        refine wpAnyH_take (i := 36) (oi := { dst := some 102, op := Op.move (Operand.tmp 101), type := 4, pos := "law.go:30", after := #[{ on := 35, ground := Ground.data }, { on := 32, ground := Ground.chain }], guard := none }) (v := ?v36x60) rfl (by kernel_rfl) (by kernel_rfl) (by kernel_rfl) (fun _ _ _ h => h) (Or.inl ⟨by rfl, ?hy36x60⟩) hHeld ?nx36x60
        case hy36x60 => (intro w hSw; (try dsimp only at hSw); go_simp; try with_reducible rfl)
        try simp only [Act.put, List.setIfInBounds_toArray, List.set_cons_zero, List.set_cons_succ]
        refine wpAnyH_take (i := 37) (oi := { dst := some 103, op := Op.load 24 (Operand.tmp 14), type := 24, pos := "law.go:30", after := #[{ on := 36, ground := Ground.guard }], guard := some (36, true) }) (v := ?v37x61) rfl (by kernel_rfl) (by kernel_rfl) (by kernel_rfl) (fun _ _ _ h => h) (Or.inl ⟨by rfl, ?hy37x61⟩) hHeld ?nx37x61
        case hy37x61 => (intro w hSw; (try dsimp only at hSw); go_simp; try with_reducible rfl)
        try simp only [Act.put, List.setIfInBounds_toArray, List.set_cons_zero, List.set_cons_succ]
        refine wpAnyH_take (i := 39) (oi := { dst := some 105, op := Op.load 24 (Operand.tmp 14), type := 24, pos := "law.go:30", after := #[{ on := 36, ground := Ground.guard }], guard := some (36, true) }) (v := ?v39x62) rfl (by kernel_rfl) (by kernel_rfl) (by kernel_rfl) (fun _ _ _ h => h) (Or.inl ⟨by rfl, ?hy39x62⟩) hHeld ?nx39x62
        case hy39x62 => (intro w hSw; (try dsimp only at hSw); go_simp; try with_reducible rfl)
        try simp only [Act.put, List.setIfInBounds_toArray, List.set_cons_zero, List.set_cons_succ]
        refine wpAnyH_ready (rs := [38]) (by kernel_rfl) (by simp) ?_
        refine (AllReadyH.cons (o := { dst := some 104, op := Op.call { callee := Callee.value (Operand.func 11), args := #[Operand.tmp 103], argTypes := #[24] }, type := 3, pos := "law.go:30", after := #[{ on := 37, ground := Ground.data }, { on := 36, ground := Ground.chain }, { on := 36, ground := Ground.guard }], guard := some (36, true) }) rfl (fun K hK => ?_) AllReadyH.nil)
        go_simp
        go_at_call 11
        refine (HIC.out _).mono ?_
        rintro e v22 ⟨rfl, g22⟩
        have G22 : Fr No w9 v22 := Fr.trans (G21) g22
        have hS := HSS.out _ G22
        clear g22
        refine hK.out _ _ hS (fun hH2 => ?_)
        clear hK K hHeld
        have hHeld := hH2
        clear hH2 hS
        try simp only [Act.put, List.setIfInBounds_toArray, List.set_cons_zero, List.set_cons_succ]
        refine wpAnyH_ready (rs := [40]) (by kernel_rfl) (by simp) ?_
        refine (AllReadyH.cons (o := { dst := some 106, op := Op.call { callee := Callee.value (Operand.func 12), args := #[Operand.tmp 105], argTypes := #[24] }, type := 3, pos := "law.go:30", after := #[{ on := 39, ground := Ground.data }, { on := 38, ground := Ground.chain }, { on := 36, ground := Ground.guard }], guard := some (36, true) }) rfl (fun K hK => ?_) AllReadyH.nil)
        go_simp
        go_at_call 12
        refine (HRC.out _).mono ?_
        rintro e v23 ⟨rfl, g23⟩
        have G23 : Fr No w9 v23 := Fr.trans (G22) g23
        have hS := HSS.out _ G23
        clear g23
        refine hK.out _ _ hS (fun hH2 => ?_)
        clear hK K hHeld
        have hHeld := hH2
        clear hH2 hS
        try simp only [Act.put, List.setIfInBounds_toArray, List.set_cons_zero, List.set_cons_succ]
        refine wpAnyH_take (i := 41) (oi := { dst := some 107, op := Op.binOp BinOp.eql 3 (Operand.tmp 104) (Operand.tmp 106) 3, type := 4, pos := "law.go:30", after := #[{ on := 38, ground := Ground.data }, { on := 40, ground := Ground.data }, { on := 36, ground := Ground.guard }], guard := some (36, true) }) (v := ?v41x63) rfl (by kernel_rfl) (by kernel_rfl) (by kernel_rfl) (fun _ _ _ h => h) (Or.inl ⟨by rfl, ?hy41x63⟩) hHeld ?nx41x63
        case hy41x63 => (intro w hSw; (try dsimp only at hSw); go_simp; try with_reducible rfl)
        try simp only [Act.put, List.setIfInBounds_toArray, List.set_cons_zero, List.set_cons_succ]
        refine wpAnyH_take (i := 42) (oi := { dst := some 108, op := Op.pick (Operand.tmp 102) (Operand.tmp 107) (Operand.const (Value.bool false)), type := 4, pos := "law.go:30", after := #[{ on := 36, ground := Ground.data }, { on := 41, ground := Ground.data }], guard := none }) (v := ?v42x64) rfl (by kernel_rfl) (by kernel_rfl) (by kernel_rfl) (fun _ _ _ h => h) (Or.inl ⟨by rfl, ?hy42x64⟩) hHeld ?nx42x64
        case hy42x64 => (intro w hSw; (try dsimp only at hSw); go_simp; try with_reducible rfl)
        try simp only [Act.put, List.setIfInBounds_toArray, List.set_cons_zero, List.set_cons_succ]
        refine wpAnyH_take (i := 43) (oi := { dst := some 8, op := Op.assign (Operand.tmp 108), type := 4, pos := "law.go:30", after := #[{ on := 42, ground := Ground.data }, { on := 40, ground := Ground.chain }, { on := 0, ground := Ground.phase }, { on := 1, ground := Ground.phase }, { on := 2, ground := Ground.phase }, { on := 3, ground := Ground.phase }, { on := 4, ground := Ground.phase }, { on := 5, ground := Ground.phase }, { on := 6, ground := Ground.phase }, { on := 7, ground := Ground.phase }, { on := 8, ground := Ground.phase }, { on := 9, ground := Ground.phase }, { on := 10, ground := Ground.phase }, { on := 11, ground := Ground.phase }, { on := 12, ground := Ground.phase }, { on := 13, ground := Ground.phase }, { on := 14, ground := Ground.phase }, { on := 15, ground := Ground.phase }, { on := 16, ground := Ground.phase }, { on := 17, ground := Ground.phase }, { on := 18, ground := Ground.phase }, { on := 19, ground := Ground.phase }, { on := 20, ground := Ground.phase }, { on := 21, ground := Ground.phase }, { on := 22, ground := Ground.phase }, { on := 23, ground := Ground.phase }, { on := 24, ground := Ground.phase }, { on := 25, ground := Ground.phase }, { on := 26, ground := Ground.phase }, { on := 27, ground := Ground.phase }, { on := 28, ground := Ground.phase }, { on := 29, ground := Ground.phase }, { on := 30, ground := Ground.phase }, { on := 31, ground := Ground.phase }, { on := 32, ground := Ground.phase }, { on := 33, ground := Ground.phase }, { on := 34, ground := Ground.phase }, { on := 35, ground := Ground.phase }, { on := 36, ground := Ground.phase }, { on := 37, ground := Ground.phase }, { on := 38, ground := Ground.phase }, { on := 39, ground := Ground.phase }, { on := 40, ground := Ground.phase }, { on := 41, ground := Ground.phase }, { on := 42, ground := Ground.phase }], guard := none }) (v := ?v43x65) rfl (by kernel_rfl) (by kernel_rfl) (by kernel_rfl) (fun _ _ _ h => h) (Or.inl ⟨by rfl, ?hy43x65⟩) hHeld ?nx43x65
        case hy43x65 => (intro w hSw; (try dsimp only at hSw); go_simp; try with_reducible rfl)
        try simp only [Act.put, List.setIfInBounds_toArray, List.set_cons_zero, List.set_cons_succ]
        refine wpAnyH_done (by kernel_rfl) ?_ _
        refine NoPanic.normal ?_
        go_wp2_with fail
        go_ret
        exact ⟨rfl, H9.out.1.trans G23⟩
      · have hS1 := hS0
        clear hS1
        refine wp_region_noPanic ?_
        refine wp_region_held_drew (S := (fun w' => Fr No w9 w' ∧ Sem.run PD (loadCellsFrom ⟨b4, 0, none⟩ 0 k30 #[]) w' = .ok A w' ∧ Sem.run PD (loadCellsFrom ⟨b11, 0, none⟩ 0 k30 #[]) w' = .ok B w' ∧ Sem.run PD (loadCellsFrom ⟨b14, 0, none⟩ 0 k30 #[]) w' = .ok C w')) (by kernel_rfl) hS0 (fun hHeld => ?_)
        clear hS0
        refine wpAnyH_ready (rs := [0]) (by kernel_rfl) (by simp) ?_
        refine (AllReadyH.cons (o := { dst := some 66, op := Op.call { callee := Callee.value (Operand.func 10), args := #[], argTypes := #[] }, type := 4, pos := "law.go:30", after := #[], guard := none }) rfl (fun K hK => ?_) AllReadyH.nil)
        go_simp
        go_at_call 10
        refine (bawake_any.out _).mono ?_
        rintro e v24 ⟨rfl, g24⟩
        have G24 : Fr No w9 v24 := Fr.trans (Fr.drew No w9) g24
        have hS := HSS.out _ G24
        clear g24
        refine hK.out _ _ hS (fun hH2 => ?_)
        clear hK K hHeld
        have hHeld := hH2
        clear hH2 hS
        try simp only [Act.put, List.setIfInBounds_toArray, List.set_cons_zero, List.set_cons_succ]
        refine wpAnyH_take (i := 1) (oi := { dst := some 67, op := Op.move (Operand.tmp 66), type := 4, pos := "law.go:30", after := #[{ on := 0, ground := Ground.data }, { on := 0, ground := Ground.chain }], guard := none }) (v := ?v1x66) rfl (by kernel_rfl) (by kernel_rfl) (by kernel_rfl) (fun _ _ _ h => h) (Or.inl ⟨by rfl, ?hy1x66⟩) hHeld ?nx1x66
        case hy1x66 => (intro w hSw; (try dsimp only at hSw); go_simp; try with_reducible rfl)
        try simp only [Act.put, List.setIfInBounds_toArray, List.set_cons_zero, List.set_cons_succ]
        refine wpAnyH_take (i := 2) (oi := { dst := some 68, op := Op.load 24 (Operand.tmp 4), type := 24, pos := "law.go:30", after := #[{ on := 1, ground := Ground.guard }], guard := some (1, true) }) (v := ?v2x67) rfl (by kernel_rfl) (by kernel_rfl) (by kernel_rfl) (fun _ _ _ h => h) (Or.inl ⟨by rfl, ?hy2x67⟩) hHeld ?nx2x67
        case hy2x67 => (intro w hSw; (try dsimp only at hSw); go_simp; try with_reducible rfl)
        try simp only [Act.put, List.setIfInBounds_toArray, List.set_cons_zero, List.set_cons_succ]
        refine wpAnyH_take (i := 4) (oi := { dst := some 70, op := Op.load 24 (Operand.tmp 4), type := 24, pos := "law.go:30", after := #[{ on := 1, ground := Ground.guard }], guard := some (1, true) }) (v := ?v4x68) rfl (by kernel_rfl) (by kernel_rfl) (by kernel_rfl) (fun _ _ _ h => h) (Or.inl ⟨by rfl, ?hy4x68⟩) hHeld ?nx4x68
        case hy4x68 => (intro w hSw; (try dsimp only at hSw); go_simp; try with_reducible rfl)
        try simp only [Act.put, List.setIfInBounds_toArray, List.set_cons_zero, List.set_cons_succ]
        refine wpAnyH_ready (rs := [3]) (by kernel_rfl) (by simp) ?_
        refine (AllReadyH.cons (o := { dst := some 69, op := Op.call { callee := Callee.value (Operand.func 11), args := #[Operand.tmp 68], argTypes := #[24] }, type := 3, pos := "law.go:30", after := #[{ on := 2, ground := Ground.data }, { on := 1, ground := Ground.chain }, { on := 1, ground := Ground.guard }], guard := some (1, true) }) rfl (fun K hK => ?_) AllReadyH.nil)
        go_simp
        go_at_call 11
        refine (HIA.out _).mono ?_
        rintro e v25 ⟨rfl, g25⟩
        have G25 : Fr No w9 v25 := Fr.trans (G24) g25
        have hS := HSS.out _ G25
        clear g25
        refine hK.out _ _ hS (fun hH2 => ?_)
        clear hK K hHeld
        have hHeld := hH2
        clear hH2 hS
        try simp only [Act.put, List.setIfInBounds_toArray, List.set_cons_zero, List.set_cons_succ]
        refine wpAnyH_ready (rs := [5]) (by kernel_rfl) (by simp) ?_
        refine (AllReadyH.cons (o := { dst := some 71, op := Op.call { callee := Callee.value (Operand.func 12), args := #[Operand.tmp 70], argTypes := #[24] }, type := 3, pos := "law.go:30", after := #[{ on := 4, ground := Ground.data }, { on := 3, ground := Ground.chain }, { on := 1, ground := Ground.guard }], guard := some (1, true) }) rfl (fun K hK => ?_) AllReadyH.nil)
        go_simp
        go_at_call 12
        refine (HRA.out _).mono ?_
        rintro e v26 ⟨rfl, g26⟩
        have G26 : Fr No w9 v26 := Fr.trans (G25) g26
        have hS := HSS.out _ G26
        clear g26
        refine hK.out _ _ hS (fun hH2 => ?_)
        clear hK K hHeld
        have hHeld := hH2
        clear hH2 hS
        try simp only [Act.put, List.setIfInBounds_toArray, List.set_cons_zero, List.set_cons_succ]
        refine wpAnyH_take (i := 6) (oi := { dst := some 72, op := Op.binOp BinOp.eql 3 (Operand.tmp 69) (Operand.tmp 71) 3, type := 4, pos := "law.go:30", after := #[{ on := 3, ground := Ground.data }, { on := 5, ground := Ground.data }, { on := 1, ground := Ground.guard }], guard := some (1, true) }) (v := ?v6x69) rfl (by kernel_rfl) (by kernel_rfl) (by kernel_rfl) (fun _ _ _ h => h) (Or.inl ⟨by rfl, ?hy6x69⟩) hHeld ?nx6x69
        case hy6x69 => (intro w hSw; (try dsimp only at hSw); go_simp; try with_reducible rfl)
        try simp only [Act.put, List.setIfInBounds_toArray, List.set_cons_zero, List.set_cons_succ]
        refine wpAnyH_take (i := 7) (oi := { dst := some 73, op := Op.pick (Operand.tmp 67) (Operand.tmp 72) (Operand.const (Value.bool false)), type := 4, pos := "law.go:30", after := #[{ on := 1, ground := Ground.data }, { on := 6, ground := Ground.data }], guard := none }) (v := ?v7x70) rfl (by kernel_rfl) (by kernel_rfl) (by kernel_rfl) (fun _ _ _ h => h) (Or.inl ⟨by rfl, ?hy7x70⟩) hHeld ?nx7x70
        case hy7x70 => (intro w hSw; (try dsimp only at hSw); go_simp; try with_reducible rfl)
        try simp only [Act.put, List.setIfInBounds_toArray, List.set_cons_zero, List.set_cons_succ]
        refine wpAnyH_take (i := 8) (oi := { dst := some 74, op := Op.move (Operand.tmp 73), type := 4, pos := "law.go:30", after := #[{ on := 7, ground := Ground.data }, { on := 5, ground := Ground.chain }], guard := none }) (v := ?v8x71) rfl (by kernel_rfl) (by kernel_rfl) (by kernel_rfl) (fun _ _ _ h => h) (Or.inl ⟨by rfl, ?hy8x71⟩) hHeld ?nx8x71
        case hy8x71 => (intro w hSw; (try dsimp only at hSw); go_simp; try with_reducible rfl)
        try simp only [Act.put, List.setIfInBounds_toArray, List.set_cons_zero, List.set_cons_succ]
        refine wpAnyH_take (i := 9) (oi := { dst := some 75, op := Op.load 24 (Operand.tmp 4), type := 24, pos := "law.go:30", after := #[{ on := 8, ground := Ground.guard }], guard := some (8, true) }) (v := ?v9x72) rfl (by kernel_rfl) (by kernel_rfl) (by kernel_rfl) (fun _ _ _ h => h) (Or.inl ⟨by rfl, ?hy9x72⟩) hHeld ?nx9x72
        case hy9x72 => (intro w hSw; (try dsimp only at hSw); go_simp; try with_reducible rfl)
        try simp only [Act.put, List.setIfInBounds_toArray, List.set_cons_zero, List.set_cons_succ]
        refine wpAnyH_take (i := 11) (oi := { dst := some 77, op := Op.load 24 (Operand.tmp 4), type := 24, pos := "law.go:30", after := #[{ on := 8, ground := Ground.guard }], guard := some (8, true) }) (v := ?v11x73) rfl (by kernel_rfl) (by kernel_rfl) (by kernel_rfl) (fun _ _ _ h => h) (Or.inl ⟨by rfl, ?hy11x73⟩) hHeld ?nx11x73
        case hy11x73 => (intro w hSw; (try dsimp only at hSw); go_simp; try with_reducible rfl)
        try simp only [Act.put, List.setIfInBounds_toArray, List.set_cons_zero, List.set_cons_succ]
        refine wpAnyH_ready (rs := [10]) (by kernel_rfl) (by simp) ?_
        refine (AllReadyH.cons (o := { dst := some 76, op := Op.call { callee := Callee.value (Operand.func 13), args := #[Operand.tmp 75], argTypes := #[24] }, type := 4, pos := "law.go:30", after := #[{ on := 9, ground := Ground.data }, { on := 8, ground := Ground.chain }, { on := 8, ground := Ground.guard }], guard := some (8, true) }) rfl (fun K hK => ?_) AllReadyH.nil)
        go_simp
        go_at_call 13
        refine (HCA.out _).mono ?_
        rintro e v27 ⟨rfl, g27⟩
        have G27 : Fr No w9 v27 := Fr.trans (G26) g27
        have hS := HSS.out _ G27
        clear g27
        refine hK.out _ _ hS (fun hH2 => ?_)
        clear hK K hHeld
        have hHeld := hH2
        clear hH2 hS
        try simp only [Act.put, List.setIfInBounds_toArray, List.set_cons_zero, List.set_cons_succ]
        refine wpAnyH_ready (rs := [12]) (by kernel_rfl) (by simp) ?_
        refine (AllReadyH.cons (o := { dst := some 78, op := Op.call { callee := Callee.value (Operand.func 12), args := #[Operand.tmp 77], argTypes := #[24] }, type := 3, pos := "law.go:30", after := #[{ on := 11, ground := Ground.data }, { on := 10, ground := Ground.chain }, { on := 8, ground := Ground.guard }], guard := some (8, true) }) rfl (fun K hK => ?_) AllReadyH.nil)
        go_simp
        go_at_call 12
        refine (HRA.out _).mono ?_
        rintro e v28 ⟨rfl, g28⟩
        have G28 : Fr No w9 v28 := Fr.trans (G27) g28
        have hS := HSS.out _ G28
        clear g28
        refine hK.out _ _ hS (fun hH2 => ?_)
        clear hK K hHeld
        have hHeld := hH2
        clear hH2 hS
        try simp only [Act.put, List.setIfInBounds_toArray, List.set_cons_zero, List.set_cons_succ]
        refine wpAnyH_take (i := 13) (oi := { dst := some 79, op := Op.binOp BinOp.geq 3 (Operand.tmp 78) (Operand.const (Value.int IntKind.i64 0)) 3, type := 4, pos := "law.go:30", after := #[{ on := 12, ground := Ground.data }, { on := 8, ground := Ground.guard }], guard := some (8, true) }) (v := ?v13x74) rfl (by kernel_rfl) (by kernel_rfl) (by kernel_rfl) (fun _ _ _ h => h) (Or.inl ⟨by rfl, ?hy13x74⟩) hHeld ?nx13x74
        case hy13x74 => (intro w hSw; (try dsimp only at hSw); go_simp; try with_reducible rfl)
        try simp only [Act.put, List.setIfInBounds_toArray, List.set_cons_zero, List.set_cons_succ]
        refine wpAnyH_take (i := 14) (oi := { dst := some 80, op := Op.move (Operand.tmp 79), type := 4, pos := "law.go:30", after := #[{ on := 13, ground := Ground.data }, { on := 12, ground := Ground.chain }, { on := 8, ground := Ground.guard }], guard := some (8, true) }) (v := ?v14x75) rfl (by kernel_rfl) (by kernel_rfl) (by kernel_rfl) (fun _ _ _ h => h) (Or.inl ⟨by rfl, ?hy14x75⟩) hHeld ?nx14x75
        case hy14x75 => (intro w hSw; (try dsimp only at hSw); go_simp; try with_reducible rfl)
        try simp only [Act.put, List.setIfInBounds_toArray, List.set_cons_zero, List.set_cons_succ]
        refine wpAnyH_take (i := 15) (oi := { dst := some 81, op := Op.load 24 (Operand.tmp 4), type := 24, pos := "law.go:30", after := #[{ on := 14, ground := Ground.guard }], guard := some (14, false) }) (v := ?v15x76) rfl (by kernel_rfl) (by kernel_rfl) (by kernel_rfl) (fun _ _ _ h => h) (Or.inl ⟨by rfl, ?hy15x76⟩) hHeld ?nx15x76
        case hy15x76 => (intro w hSw; (try dsimp only at hSw); go_simp; try with_reducible rfl)
        try simp only [Act.put, List.setIfInBounds_toArray, List.set_cons_zero, List.set_cons_succ]
        refine wpAnyH_ready (rs := [16]) (by kernel_rfl) (by simp) ?_
        refine (AllReadyH.cons (o := { dst := some 82, op := Op.call { callee := Callee.value (Operand.func 14), args := #[Operand.tmp 81], argTypes := #[24] }, type := 4, pos := "law.go:30", after := #[{ on := 15, ground := Ground.data }, { on := 14, ground := Ground.chain }, { on := 14, ground := Ground.guard }], guard := some (14, false) }) rfl (fun K hK => ?_) AllReadyH.nil)
        go_simp
        go_at_call 14
        refine (HVA.out _).mono ?_
        rintro e v29 ⟨rfl, g29⟩
        have G29 : Fr No w9 v29 := Fr.trans (G28) g29
        have hS := HSS.out _ G29
        clear g29
        refine hK.out _ _ hS (fun hH2 => ?_)
        clear hK K hHeld
        have hHeld := hH2
        clear hH2 hS
        try simp only [Act.put, List.setIfInBounds_toArray, List.set_cons_zero, List.set_cons_succ]
        refine wpAnyH_take (i := 17) (oi := { dst := some 83, op := Op.unOp UnOp.not 4 (Operand.tmp 82), type := 4, pos := "law.go:30", after := #[{ on := 16, ground := Ground.data }, { on := 14, ground := Ground.guard }], guard := some (14, false) }) (v := ?v17x77) rfl (by kernel_rfl) (by kernel_rfl) (by kernel_rfl) (fun _ _ _ h => h) (Or.inl ⟨by rfl, ?hy17x77⟩) hHeld ?nx17x77
        case hy17x77 => (intro w hSw; (try dsimp only at hSw); go_simp; try with_reducible rfl)
        try simp only [Act.put, List.setIfInBounds_toArray, List.set_cons_zero, List.set_cons_succ]
        refine wpAnyH_take (i := 18) (oi := { dst := some 84, op := Op.pick (Operand.tmp 80) (Operand.const (Value.bool true)) (Operand.tmp 83), type := 4, pos := "law.go:30", after := #[{ on := 14, ground := Ground.data }, { on := 17, ground := Ground.data }, { on := 8, ground := Ground.guard }], guard := some (8, true) }) (v := ?v18x78) rfl (by kernel_rfl) (by kernel_rfl) (by kernel_rfl) (fun _ _ _ h => h) (Or.inl ⟨by rfl, ?hy18x78⟩) hHeld ?nx18x78
        case hy18x78 => (intro w hSw; (try dsimp only at hSw); go_simp; try with_reducible rfl)
        try simp only [Act.put, List.setIfInBounds_toArray, List.set_cons_zero, List.set_cons_succ]
        refine wpAnyH_take (i := 19) (oi := { dst := some 85, op := Op.binOp BinOp.eql 4 (Operand.tmp 76) (Operand.tmp 84) 4, type := 4, pos := "law.go:30", after := #[{ on := 10, ground := Ground.data }, { on := 18, ground := Ground.data }, { on := 8, ground := Ground.guard }], guard := some (8, true) }) (v := ?v19x79) rfl (by kernel_rfl) (by kernel_rfl) (by kernel_rfl) (fun _ _ _ h => h) (Or.inl ⟨by rfl, ?hy19x79⟩) hHeld ?nx19x79
        case hy19x79 => (intro w hSw; (try dsimp only at hSw); go_simp; try with_reducible rfl)
        try simp only [Act.put, List.setIfInBounds_toArray, List.set_cons_zero, List.set_cons_succ]
        refine wpAnyH_take (i := 20) (oi := { dst := some 86, op := Op.pick (Operand.tmp 74) (Operand.tmp 85) (Operand.const (Value.bool false)), type := 4, pos := "law.go:30", after := #[{ on := 8, ground := Ground.data }, { on := 19, ground := Ground.data }], guard := none }) (v := ?v20x80) rfl (by kernel_rfl) (by kernel_rfl) (by kernel_rfl) (fun _ _ _ h => h) (Or.inl ⟨by rfl, ?hy20x80⟩) hHeld ?nx20x80
        case hy20x80 => (intro w hSw; (try dsimp only at hSw); go_simp; try with_reducible rfl)
        try simp only [Act.put, List.setIfInBounds_toArray, List.set_cons_zero, List.set_cons_succ]
        refine wpAnyH_take (i := 21) (oi := { dst := some 87, op := Op.move (Operand.tmp 86), type := 4, pos := "law.go:30", after := #[{ on := 20, ground := Ground.data }, { on := 16, ground := Ground.chain }], guard := none }) (v := ?v21x81) rfl (by kernel_rfl) (by kernel_rfl) (by kernel_rfl) (fun _ _ _ h => h) (Or.inl ⟨by rfl, ?hy21x81⟩) hHeld ?nx21x81
        case hy21x81 => (intro w hSw; (try dsimp only at hSw); go_simp; try with_reducible rfl)
        try simp only [Act.put, List.setIfInBounds_toArray, List.set_cons_zero, List.set_cons_succ]
        refine wpAnyH_take (i := 22) (oi := { dst := some 88, op := Op.load 24 (Operand.tmp 11), type := 24, pos := "law.go:30", after := #[{ on := 21, ground := Ground.guard }], guard := some (21, true) }) (v := ?v22x82) rfl (by kernel_rfl) (by kernel_rfl) (by kernel_rfl) (fun _ _ _ h => h) (Or.inl ⟨by rfl, ?hy22x82⟩) hHeld ?nx22x82
        case hy22x82 => (intro w hSw; (try dsimp only at hSw); go_simp; try with_reducible rfl)
        try simp only [Act.put, List.setIfInBounds_toArray, List.set_cons_zero, List.set_cons_succ]
        refine wpAnyH_take (i := 24) (oi := { dst := some 90, op := Op.load 24 (Operand.tmp 11), type := 24, pos := "law.go:30", after := #[{ on := 21, ground := Ground.guard }], guard := some (21, true) }) (v := ?v24x83) rfl (by kernel_rfl) (by kernel_rfl) (by kernel_rfl) (fun _ _ _ h => h) (Or.inl ⟨by rfl, ?hy24x83⟩) hHeld ?nx24x83
        case hy24x83 => (intro w hSw; (try dsimp only at hSw); go_simp; try with_reducible rfl)
        try simp only [Act.put, List.setIfInBounds_toArray, List.set_cons_zero, List.set_cons_succ]
        refine wpAnyH_ready (rs := [23]) (by kernel_rfl) (by simp) ?_
        refine (AllReadyH.cons (o := { dst := some 89, op := Op.call { callee := Callee.value (Operand.func 11), args := #[Operand.tmp 88], argTypes := #[24] }, type := 3, pos := "law.go:30", after := #[{ on := 22, ground := Ground.data }, { on := 21, ground := Ground.chain }, { on := 21, ground := Ground.guard }], guard := some (21, true) }) rfl (fun K hK => ?_) AllReadyH.nil)
        go_simp
        go_at_call 11
        refine (HIB.out _).mono ?_
        rintro e v30 ⟨rfl, g30⟩
        have G30 : Fr No w9 v30 := Fr.trans (G29) g30
        have hS := HSS.out _ G30
        clear g30
        refine hK.out _ _ hS (fun hH2 => ?_)
        clear hK K hHeld
        have hHeld := hH2
        clear hH2 hS
        try simp only [Act.put, List.setIfInBounds_toArray, List.set_cons_zero, List.set_cons_succ]
        refine wpAnyH_ready (rs := [25]) (by kernel_rfl) (by simp) ?_
        refine (AllReadyH.cons (o := { dst := some 91, op := Op.call { callee := Callee.value (Operand.func 12), args := #[Operand.tmp 90], argTypes := #[24] }, type := 3, pos := "law.go:30", after := #[{ on := 24, ground := Ground.data }, { on := 23, ground := Ground.chain }, { on := 21, ground := Ground.guard }], guard := some (21, true) }) rfl (fun K hK => ?_) AllReadyH.nil)
        go_simp
        go_at_call 12
        refine (HRB.out _).mono ?_
        rintro e v31 ⟨rfl, g31⟩
        have G31 : Fr No w9 v31 := Fr.trans (G30) g31
        have hS := HSS.out _ G31
        clear g31
        refine hK.out _ _ hS (fun hH2 => ?_)
        clear hK K hHeld
        have hHeld := hH2
        clear hH2 hS
        try simp only [Act.put, List.setIfInBounds_toArray, List.set_cons_zero, List.set_cons_succ]
        refine wpAnyH_take (i := 26) (oi := { dst := some 92, op := Op.binOp BinOp.eql 3 (Operand.tmp 89) (Operand.tmp 91) 3, type := 4, pos := "law.go:30", after := #[{ on := 23, ground := Ground.data }, { on := 25, ground := Ground.data }, { on := 21, ground := Ground.guard }], guard := some (21, true) }) (v := ?v26x84) rfl (by kernel_rfl) (by kernel_rfl) (by kernel_rfl) (fun _ _ _ h => h) (Or.inl ⟨by rfl, ?hy26x84⟩) hHeld ?nx26x84
        case hy26x84 => (intro w hSw; (try dsimp only at hSw); go_simp; try with_reducible rfl)
        try simp only [Act.put, List.setIfInBounds_toArray, List.set_cons_zero, List.set_cons_succ]
        refine wpAnyH_take (i := 27) (oi := { dst := some 93, op := Op.pick (Operand.tmp 87) (Operand.tmp 92) (Operand.const (Value.bool false)), type := 4, pos := "law.go:30", after := #[{ on := 21, ground := Ground.data }, { on := 26, ground := Ground.data }], guard := none }) (v := ?v27x85) rfl (by kernel_rfl) (by kernel_rfl) (by kernel_rfl) (fun _ _ _ h => h) (Or.inl ⟨by rfl, ?hy27x85⟩) hHeld ?nx27x85
        case hy27x85 => (intro w hSw; (try dsimp only at hSw); go_simp; try with_reducible rfl)
        try simp only [Act.put, List.setIfInBounds_toArray, List.set_cons_zero, List.set_cons_succ]
        refine wpAnyH_take (i := 28) (oi := { dst := some 94, op := Op.move (Operand.tmp 93), type := 4, pos := "law.go:30", after := #[{ on := 27, ground := Ground.data }, { on := 25, ground := Ground.chain }], guard := none }) (v := ?v28x86) rfl (by kernel_rfl) (by kernel_rfl) (by kernel_rfl) (fun _ _ _ h => h) (Or.inl ⟨by rfl, ?hy28x86⟩) hHeld ?nx28x86
        case hy28x86 => (intro w hSw; (try dsimp only at hSw); go_simp; try with_reducible rfl)
        try simp only [Act.put, List.setIfInBounds_toArray, List.set_cons_zero, List.set_cons_succ]
        refine wpAnyH_take (i := 29) (oi := { dst := some 95, op := Op.load 24 (Operand.tmp 11), type := 24, pos := "law.go:30", after := #[{ on := 28, ground := Ground.guard }], guard := some (28, true) }) (v := ?v29x87) rfl (by kernel_rfl) (by kernel_rfl) (by kernel_rfl) (fun _ _ _ h => h) (Or.inl ⟨by rfl, ?hy29x87⟩) hHeld ?nx29x87
        case hy29x87 => (intro w hSw; (try dsimp only at hSw); go_simp; try with_reducible rfl)
        try simp only [Act.put, List.setIfInBounds_toArray, List.set_cons_zero, List.set_cons_succ]
        refine wpAnyH_take (i := 31) (oi := { dst := some 97, op := Op.load 24 (Operand.tmp 11), type := 24, pos := "law.go:30", after := #[{ on := 28, ground := Ground.guard }], guard := some (28, true) }) (v := ?v31x88) rfl (by kernel_rfl) (by kernel_rfl) (by kernel_rfl) (fun _ _ _ h => h) (Or.inl ⟨by rfl, ?hy31x88⟩) hHeld ?nx31x88
        case hy31x88 => (intro w hSw; (try dsimp only at hSw); go_simp; try with_reducible rfl)
        try simp only [Act.put, List.setIfInBounds_toArray, List.set_cons_zero, List.set_cons_succ]
        refine wpAnyH_ready (rs := [30]) (by kernel_rfl) (by simp) ?_
        refine (AllReadyH.cons (o := { dst := some 96, op := Op.call { callee := Callee.value (Operand.func 13), args := #[Operand.tmp 95], argTypes := #[24] }, type := 4, pos := "law.go:30", after := #[{ on := 29, ground := Ground.data }, { on := 28, ground := Ground.chain }, { on := 28, ground := Ground.guard }], guard := some (28, true) }) rfl (fun K hK => ?_) AllReadyH.nil)
        go_simp
        go_at_call 13
        refine (HCB.out _).mono ?_
        rintro e v32 ⟨rfl, g32⟩
        have G32 : Fr No w9 v32 := Fr.trans (G31) g32
        have hS := HSS.out _ G32
        clear g32
        refine hK.out _ _ hS (fun hH2 => ?_)
        clear hK K hHeld
        have hHeld := hH2
        clear hH2 hS
        try simp only [Act.put, List.setIfInBounds_toArray, List.set_cons_zero, List.set_cons_succ]
        refine wpAnyH_ready (rs := [32]) (by kernel_rfl) (by simp) ?_
        refine (AllReadyH.cons (o := { dst := some 98, op := Op.call { callee := Callee.value (Operand.func 12), args := #[Operand.tmp 97], argTypes := #[24] }, type := 3, pos := "law.go:30", after := #[{ on := 31, ground := Ground.data }, { on := 30, ground := Ground.chain }, { on := 28, ground := Ground.guard }], guard := some (28, true) }) rfl (fun K hK => ?_) AllReadyH.nil)
        go_simp
        go_at_call 12
        refine (HRB.out _).mono ?_
        rintro e v33 ⟨rfl, g33⟩
        have G33 : Fr No w9 v33 := Fr.trans (G32) g33
        have hS := HSS.out _ G33
        clear g33
        refine hK.out _ _ hS (fun hH2 => ?_)
        clear hK K hHeld
        have hHeld := hH2
        clear hH2 hS
        try simp only [Act.put, List.setIfInBounds_toArray, List.set_cons_zero, List.set_cons_succ]
        refine wpAnyH_take (i := 33) (oi := { dst := some 99, op := Op.binOp BinOp.geq 3 (Operand.tmp 98) (Operand.const (Value.int IntKind.i64 0)) 3, type := 4, pos := "law.go:30", after := #[{ on := 32, ground := Ground.data }, { on := 28, ground := Ground.guard }], guard := some (28, true) }) (v := ?v33x89) rfl (by kernel_rfl) (by kernel_rfl) (by kernel_rfl) (fun _ _ _ h => h) (Or.inl ⟨by rfl, ?hy33x89⟩) hHeld ?nx33x89
        case hy33x89 => (intro w hSw; (try dsimp only at hSw); go_simp; try with_reducible rfl)
        try simp only [Act.put, List.setIfInBounds_toArray, List.set_cons_zero, List.set_cons_succ]
        refine wpAnyH_take (i := 34) (oi := { dst := some 100, op := Op.binOp BinOp.eql 4 (Operand.tmp 96) (Operand.tmp 99) 4, type := 4, pos := "law.go:30", after := #[{ on := 30, ground := Ground.data }, { on := 33, ground := Ground.data }, { on := 28, ground := Ground.guard }], guard := some (28, true) }) (v := ?v34x90) rfl (by kernel_rfl) (by kernel_rfl) (by kernel_rfl) (fun _ _ _ h => h) (Or.inl ⟨by rfl, ?hy34x90⟩) hHeld ?nx34x90
        case hy34x90 => (intro w hSw; (try dsimp only at hSw); go_simp; try with_reducible rfl)
        try simp only [Act.put, List.setIfInBounds_toArray, List.set_cons_zero, List.set_cons_succ]
        refine wpAnyH_take (i := 35) (oi := { dst := some 101, op := Op.pick (Operand.tmp 94) (Operand.tmp 100) (Operand.const (Value.bool false)), type := 4, pos := "law.go:30", after := #[{ on := 28, ground := Ground.data }, { on := 34, ground := Ground.data }], guard := none }) (v := ?v35x91) rfl (by kernel_rfl) (by kernel_rfl) (by kernel_rfl) (fun _ _ _ h => h) (Or.inl ⟨by rfl, ?hy35x91⟩) hHeld ?nx35x91
        case hy35x91 => (intro w hSw; (try dsimp only at hSw); go_simp; try with_reducible rfl)
        try simp only [Act.put, List.setIfInBounds_toArray, List.set_cons_zero, List.set_cons_succ]
        refine wpAnyH_take (i := 36) (oi := { dst := some 102, op := Op.move (Operand.tmp 101), type := 4, pos := "law.go:30", after := #[{ on := 35, ground := Ground.data }, { on := 32, ground := Ground.chain }], guard := none }) (v := ?v36x92) rfl (by kernel_rfl) (by kernel_rfl) (by kernel_rfl) (fun _ _ _ h => h) (Or.inl ⟨by rfl, ?hy36x92⟩) hHeld ?nx36x92
        case hy36x92 => (intro w hSw; (try dsimp only at hSw); go_simp; try with_reducible rfl)
        try simp only [Act.put, List.setIfInBounds_toArray, List.set_cons_zero, List.set_cons_succ]
        refine wpAnyH_take (i := 37) (oi := { dst := some 103, op := Op.load 24 (Operand.tmp 14), type := 24, pos := "law.go:30", after := #[{ on := 36, ground := Ground.guard }], guard := some (36, true) }) (v := ?v37x93) rfl (by kernel_rfl) (by kernel_rfl) (by kernel_rfl) (fun _ _ _ h => h) (Or.inl ⟨by rfl, ?hy37x93⟩) hHeld ?nx37x93
        case hy37x93 => (intro w hSw; (try dsimp only at hSw); go_simp; try with_reducible rfl)
        try simp only [Act.put, List.setIfInBounds_toArray, List.set_cons_zero, List.set_cons_succ]
        refine wpAnyH_take (i := 39) (oi := { dst := some 105, op := Op.load 24 (Operand.tmp 14), type := 24, pos := "law.go:30", after := #[{ on := 36, ground := Ground.guard }], guard := some (36, true) }) (v := ?v39x94) rfl (by kernel_rfl) (by kernel_rfl) (by kernel_rfl) (fun _ _ _ h => h) (Or.inl ⟨by rfl, ?hy39x94⟩) hHeld ?nx39x94
        case hy39x94 => (intro w hSw; (try dsimp only at hSw); go_simp; try with_reducible rfl)
        try simp only [Act.put, List.setIfInBounds_toArray, List.set_cons_zero, List.set_cons_succ]
        refine wpAnyH_ready (rs := [38]) (by kernel_rfl) (by simp) ?_
        refine (AllReadyH.cons (o := { dst := some 104, op := Op.call { callee := Callee.value (Operand.func 11), args := #[Operand.tmp 103], argTypes := #[24] }, type := 3, pos := "law.go:30", after := #[{ on := 37, ground := Ground.data }, { on := 36, ground := Ground.chain }, { on := 36, ground := Ground.guard }], guard := some (36, true) }) rfl (fun K hK => ?_) AllReadyH.nil)
        go_simp
        go_at_call 11
        refine (HIC.out _).mono ?_
        rintro e v34 ⟨rfl, g34⟩
        have G34 : Fr No w9 v34 := Fr.trans (G33) g34
        have hS := HSS.out _ G34
        clear g34
        refine hK.out _ _ hS (fun hH2 => ?_)
        clear hK K hHeld
        have hHeld := hH2
        clear hH2 hS
        try simp only [Act.put, List.setIfInBounds_toArray, List.set_cons_zero, List.set_cons_succ]
        refine wpAnyH_ready (rs := [40]) (by kernel_rfl) (by simp) ?_
        refine (AllReadyH.cons (o := { dst := some 106, op := Op.call { callee := Callee.value (Operand.func 12), args := #[Operand.tmp 105], argTypes := #[24] }, type := 3, pos := "law.go:30", after := #[{ on := 39, ground := Ground.data }, { on := 38, ground := Ground.chain }, { on := 36, ground := Ground.guard }], guard := some (36, true) }) rfl (fun K hK => ?_) AllReadyH.nil)
        go_simp
        go_at_call 12
        refine (HRC.out _).mono ?_
        rintro e v35 ⟨rfl, g35⟩
        have G35 : Fr No w9 v35 := Fr.trans (G34) g35
        have hS := HSS.out _ G35
        clear g35
        refine hK.out _ _ hS (fun hH2 => ?_)
        clear hK K hHeld
        have hHeld := hH2
        clear hH2 hS
        try simp only [Act.put, List.setIfInBounds_toArray, List.set_cons_zero, List.set_cons_succ]
        refine wpAnyH_take (i := 41) (oi := { dst := some 107, op := Op.binOp BinOp.eql 3 (Operand.tmp 104) (Operand.tmp 106) 3, type := 4, pos := "law.go:30", after := #[{ on := 38, ground := Ground.data }, { on := 40, ground := Ground.data }, { on := 36, ground := Ground.guard }], guard := some (36, true) }) (v := ?v41x95) rfl (by kernel_rfl) (by kernel_rfl) (by kernel_rfl) (fun _ _ _ h => h) (Or.inl ⟨by rfl, ?hy41x95⟩) hHeld ?nx41x95
        case hy41x95 => (intro w hSw; (try dsimp only at hSw); go_simp; try with_reducible rfl)
        try simp only [Act.put, List.setIfInBounds_toArray, List.set_cons_zero, List.set_cons_succ]
        refine wpAnyH_take (i := 42) (oi := { dst := some 108, op := Op.pick (Operand.tmp 102) (Operand.tmp 107) (Operand.const (Value.bool false)), type := 4, pos := "law.go:30", after := #[{ on := 36, ground := Ground.data }, { on := 41, ground := Ground.data }], guard := none }) (v := ?v42x96) rfl (by kernel_rfl) (by kernel_rfl) (by kernel_rfl) (fun _ _ _ h => h) (Or.inl ⟨by rfl, ?hy42x96⟩) hHeld ?nx42x96
        case hy42x96 => (intro w hSw; (try dsimp only at hSw); go_simp; try with_reducible rfl)
        try simp only [Act.put, List.setIfInBounds_toArray, List.set_cons_zero, List.set_cons_succ]
        refine wpAnyH_take (i := 43) (oi := { dst := some 8, op := Op.assign (Operand.tmp 108), type := 4, pos := "law.go:30", after := #[{ on := 42, ground := Ground.data }, { on := 40, ground := Ground.chain }, { on := 0, ground := Ground.phase }, { on := 1, ground := Ground.phase }, { on := 2, ground := Ground.phase }, { on := 3, ground := Ground.phase }, { on := 4, ground := Ground.phase }, { on := 5, ground := Ground.phase }, { on := 6, ground := Ground.phase }, { on := 7, ground := Ground.phase }, { on := 8, ground := Ground.phase }, { on := 9, ground := Ground.phase }, { on := 10, ground := Ground.phase }, { on := 11, ground := Ground.phase }, { on := 12, ground := Ground.phase }, { on := 13, ground := Ground.phase }, { on := 14, ground := Ground.phase }, { on := 15, ground := Ground.phase }, { on := 16, ground := Ground.phase }, { on := 17, ground := Ground.phase }, { on := 18, ground := Ground.phase }, { on := 19, ground := Ground.phase }, { on := 20, ground := Ground.phase }, { on := 21, ground := Ground.phase }, { on := 22, ground := Ground.phase }, { on := 23, ground := Ground.phase }, { on := 24, ground := Ground.phase }, { on := 25, ground := Ground.phase }, { on := 26, ground := Ground.phase }, { on := 27, ground := Ground.phase }, { on := 28, ground := Ground.phase }, { on := 29, ground := Ground.phase }, { on := 30, ground := Ground.phase }, { on := 31, ground := Ground.phase }, { on := 32, ground := Ground.phase }, { on := 33, ground := Ground.phase }, { on := 34, ground := Ground.phase }, { on := 35, ground := Ground.phase }, { on := 36, ground := Ground.phase }, { on := 37, ground := Ground.phase }, { on := 38, ground := Ground.phase }, { on := 39, ground := Ground.phase }, { on := 40, ground := Ground.phase }, { on := 41, ground := Ground.phase }, { on := 42, ground := Ground.phase }], guard := none }) (v := ?v43x97) rfl (by kernel_rfl) (by kernel_rfl) (by kernel_rfl) (fun _ _ _ h => h) (Or.inl ⟨by rfl, ?hy43x97⟩) hHeld ?nx43x97
        case hy43x97 => (intro w hSw; (try dsimp only at hSw); go_simp; try with_reducible rfl)
        try simp only [Act.put, List.setIfInBounds_toArray, List.set_cons_zero, List.set_cons_succ]
        refine wpAnyH_done (by kernel_rfl) ?_ _
        refine NoPanic.normal ?_
        go_wp2_with fail
        go_ret
        exact ⟨rfl, H9.out.1.trans G35⟩
    · have HCA : Hid (∀ w', Calls PD 13 #[.agg A] w' fun e w'' => e = .returned (.bool true) ∧ Fr No w' w'') := fun w' => by
        have h := HCA0.out w'
        rw [Bool.or_true] at h
        exact h
      refine wp_region_noPanic ?_
      refine wp_region_held_drew (S := (fun w' => Fr No w9 w' ∧ Sem.run PD (loadCellsFrom ⟨b4, 0, none⟩ 0 k30 #[]) w' = .ok A w' ∧ Sem.run PD (loadCellsFrom ⟨b11, 0, none⟩ 0 k30 #[]) w' = .ok B w' ∧ Sem.run PD (loadCellsFrom ⟨b14, 0, none⟩ 0 k30 #[]) w' = .ok C w')) (by kernel_rfl) hS0 (fun hHeld => ?_)
      clear hS0
      refine wpAnyH_ready (rs := [0]) (by kernel_rfl) (by simp) ?_
      refine (AllReadyH.cons (o := { dst := some 66, op := Op.call { callee := Callee.value (Operand.func 10), args := #[], argTypes := #[] }, type := 4, pos := "law.go:30", after := #[], guard := none }) rfl (fun K hK => ?_) AllReadyH.nil)
      go_simp
      go_at_call 10
      refine (bawake_any.out _).mono ?_
      rintro e v1 ⟨rfl, g1⟩
      have G1 : Fr No w9 v1 := Fr.trans (Fr.drew No w9) g1
      have hS := HSS.out _ G1
      clear g1
      refine hK.out _ _ hS (fun hH2 => ?_)
      clear hK K hHeld
      have hHeld := hH2
      clear hH2 hS
      try simp only [Act.put, List.setIfInBounds_toArray, List.set_cons_zero, List.set_cons_succ]
      refine wpAnyH_take (i := 1) (oi := { dst := some 67, op := Op.move (Operand.tmp 66), type := 4, pos := "law.go:30", after := #[{ on := 0, ground := Ground.data }, { on := 0, ground := Ground.chain }], guard := none }) (v := ?v1x1) rfl (by kernel_rfl) (by kernel_rfl) (by kernel_rfl) (fun _ _ _ h => h) (Or.inl ⟨by rfl, ?hy1x1⟩) hHeld ?nx1x1
      case hy1x1 => (intro w hSw; (try dsimp only at hSw); go_simp; try with_reducible rfl)
      try simp only [Act.put, List.setIfInBounds_toArray, List.set_cons_zero, List.set_cons_succ]
      refine wpAnyH_take (i := 2) (oi := { dst := some 68, op := Op.load 24 (Operand.tmp 4), type := 24, pos := "law.go:30", after := #[{ on := 1, ground := Ground.guard }], guard := some (1, true) }) (v := ?v2x2) rfl (by kernel_rfl) (by kernel_rfl) (by kernel_rfl) (fun _ _ _ h => h) (Or.inl ⟨by rfl, ?hy2x2⟩) hHeld ?nx2x2
      case hy2x2 => (intro w hSw; (try dsimp only at hSw); go_simp; try with_reducible rfl)
      try simp only [Act.put, List.setIfInBounds_toArray, List.set_cons_zero, List.set_cons_succ]
      refine wpAnyH_take (i := 4) (oi := { dst := some 70, op := Op.load 24 (Operand.tmp 4), type := 24, pos := "law.go:30", after := #[{ on := 1, ground := Ground.guard }], guard := some (1, true) }) (v := ?v4x3) rfl (by kernel_rfl) (by kernel_rfl) (by kernel_rfl) (fun _ _ _ h => h) (Or.inl ⟨by rfl, ?hy4x3⟩) hHeld ?nx4x3
      case hy4x3 => (intro w hSw; (try dsimp only at hSw); go_simp; try with_reducible rfl)
      try simp only [Act.put, List.setIfInBounds_toArray, List.set_cons_zero, List.set_cons_succ]
      refine wpAnyH_ready (rs := [3]) (by kernel_rfl) (by simp) ?_
      refine (AllReadyH.cons (o := { dst := some 69, op := Op.call { callee := Callee.value (Operand.func 11), args := #[Operand.tmp 68], argTypes := #[24] }, type := 3, pos := "law.go:30", after := #[{ on := 2, ground := Ground.data }, { on := 1, ground := Ground.chain }, { on := 1, ground := Ground.guard }], guard := some (1, true) }) rfl (fun K hK => ?_) AllReadyH.nil)
      go_simp
      go_at_call 11
      refine (HIA.out _).mono ?_
      rintro e v2 ⟨rfl, g2⟩
      have G2 : Fr No w9 v2 := Fr.trans (G1) g2
      have hS := HSS.out _ G2
      clear g2
      refine hK.out _ _ hS (fun hH2 => ?_)
      clear hK K hHeld
      have hHeld := hH2
      clear hH2 hS
      try simp only [Act.put, List.setIfInBounds_toArray, List.set_cons_zero, List.set_cons_succ]
      refine wpAnyH_ready (rs := [5]) (by kernel_rfl) (by simp) ?_
      refine (AllReadyH.cons (o := { dst := some 71, op := Op.call { callee := Callee.value (Operand.func 12), args := #[Operand.tmp 70], argTypes := #[24] }, type := 3, pos := "law.go:30", after := #[{ on := 4, ground := Ground.data }, { on := 3, ground := Ground.chain }, { on := 1, ground := Ground.guard }], guard := some (1, true) }) rfl (fun K hK => ?_) AllReadyH.nil)
      go_simp
      go_at_call 12
      refine (HRA.out _).mono ?_
      rintro e v3 ⟨rfl, g3⟩
      have G3 : Fr No w9 v3 := Fr.trans (G2) g3
      have hS := HSS.out _ G3
      clear g3
      refine hK.out _ _ hS (fun hH2 => ?_)
      clear hK K hHeld
      have hHeld := hH2
      clear hH2 hS
      try simp only [Act.put, List.setIfInBounds_toArray, List.set_cons_zero, List.set_cons_succ]
      refine wpAnyH_take (i := 6) (oi := { dst := some 72, op := Op.binOp BinOp.eql 3 (Operand.tmp 69) (Operand.tmp 71) 3, type := 4, pos := "law.go:30", after := #[{ on := 3, ground := Ground.data }, { on := 5, ground := Ground.data }, { on := 1, ground := Ground.guard }], guard := some (1, true) }) (v := ?v6x4) rfl (by kernel_rfl) (by kernel_rfl) (by kernel_rfl) (fun _ _ _ h => h) (Or.inl ⟨by rfl, ?hy6x4⟩) hHeld ?nx6x4
      case hy6x4 => (intro w hSw; (try dsimp only at hSw); go_simp; try with_reducible rfl)
      try simp only [Act.put, List.setIfInBounds_toArray, List.set_cons_zero, List.set_cons_succ]
      refine wpAnyH_take (i := 7) (oi := { dst := some 73, op := Op.pick (Operand.tmp 67) (Operand.tmp 72) (Operand.const (Value.bool false)), type := 4, pos := "law.go:30", after := #[{ on := 1, ground := Ground.data }, { on := 6, ground := Ground.data }], guard := none }) (v := ?v7x5) rfl (by kernel_rfl) (by kernel_rfl) (by kernel_rfl) (fun _ _ _ h => h) (Or.inl ⟨by rfl, ?hy7x5⟩) hHeld ?nx7x5
      case hy7x5 => (intro w hSw; (try dsimp only at hSw); go_simp; try with_reducible rfl)
      try simp only [Act.put, List.setIfInBounds_toArray, List.set_cons_zero, List.set_cons_succ]
      refine wpAnyH_take (i := 8) (oi := { dst := some 74, op := Op.move (Operand.tmp 73), type := 4, pos := "law.go:30", after := #[{ on := 7, ground := Ground.data }, { on := 5, ground := Ground.chain }], guard := none }) (v := ?v8x6) rfl (by kernel_rfl) (by kernel_rfl) (by kernel_rfl) (fun _ _ _ h => h) (Or.inl ⟨by rfl, ?hy8x6⟩) hHeld ?nx8x6
      case hy8x6 => (intro w hSw; (try dsimp only at hSw); go_simp; try with_reducible rfl)
      try simp only [Act.put, List.setIfInBounds_toArray, List.set_cons_zero, List.set_cons_succ]
      refine wpAnyH_take (i := 9) (oi := { dst := some 75, op := Op.load 24 (Operand.tmp 4), type := 24, pos := "law.go:30", after := #[{ on := 8, ground := Ground.guard }], guard := some (8, true) }) (v := ?v9x7) rfl (by kernel_rfl) (by kernel_rfl) (by kernel_rfl) (fun _ _ _ h => h) (Or.inl ⟨by rfl, ?hy9x7⟩) hHeld ?nx9x7
      case hy9x7 => (intro w hSw; (try dsimp only at hSw); go_simp; try with_reducible rfl)
      try simp only [Act.put, List.setIfInBounds_toArray, List.set_cons_zero, List.set_cons_succ]
      refine wpAnyH_take (i := 11) (oi := { dst := some 77, op := Op.load 24 (Operand.tmp 4), type := 24, pos := "law.go:30", after := #[{ on := 8, ground := Ground.guard }], guard := some (8, true) }) (v := ?v11x8) rfl (by kernel_rfl) (by kernel_rfl) (by kernel_rfl) (fun _ _ _ h => h) (Or.inl ⟨by rfl, ?hy11x8⟩) hHeld ?nx11x8
      case hy11x8 => (intro w hSw; (try dsimp only at hSw); go_simp; try with_reducible rfl)
      try simp only [Act.put, List.setIfInBounds_toArray, List.set_cons_zero, List.set_cons_succ]
      refine wpAnyH_ready (rs := [10]) (by kernel_rfl) (by simp) ?_
      refine (AllReadyH.cons (o := { dst := some 76, op := Op.call { callee := Callee.value (Operand.func 13), args := #[Operand.tmp 75], argTypes := #[24] }, type := 4, pos := "law.go:30", after := #[{ on := 9, ground := Ground.data }, { on := 8, ground := Ground.chain }, { on := 8, ground := Ground.guard }], guard := some (8, true) }) rfl (fun K hK => ?_) AllReadyH.nil)
      go_simp
      go_at_call 13
      refine (HCA.out _).mono ?_
      rintro e v4 ⟨rfl, g4⟩
      have G4 : Fr No w9 v4 := Fr.trans (G3) g4
      have hS := HSS.out _ G4
      clear g4
      refine hK.out _ _ hS (fun hH2 => ?_)
      clear hK K hHeld
      have hHeld := hH2
      clear hH2 hS
      try simp only [Act.put, List.setIfInBounds_toArray, List.set_cons_zero, List.set_cons_succ]
      refine wpAnyH_ready (rs := [12]) (by kernel_rfl) (by simp) ?_
      refine (AllReadyH.cons (o := { dst := some 78, op := Op.call { callee := Callee.value (Operand.func 12), args := #[Operand.tmp 77], argTypes := #[24] }, type := 3, pos := "law.go:30", after := #[{ on := 11, ground := Ground.data }, { on := 10, ground := Ground.chain }, { on := 8, ground := Ground.guard }], guard := some (8, true) }) rfl (fun K hK => ?_) AllReadyH.nil)
      go_simp
      go_at_call 12
      refine (HRA.out _).mono ?_
      rintro e v5 ⟨rfl, g5⟩
      have G5 : Fr No w9 v5 := Fr.trans (G4) g5
      have hS := HSS.out _ G5
      clear g5
      refine hK.out _ _ hS (fun hH2 => ?_)
      clear hK K hHeld
      have hHeld := hH2
      clear hH2 hS
      try simp only [Act.put, List.setIfInBounds_toArray, List.set_cons_zero, List.set_cons_succ]
      refine wpAnyH_take (i := 13) (oi := { dst := some 79, op := Op.binOp BinOp.geq 3 (Operand.tmp 78) (Operand.const (Value.int IntKind.i64 0)) 3, type := 4, pos := "law.go:30", after := #[{ on := 12, ground := Ground.data }, { on := 8, ground := Ground.guard }], guard := some (8, true) }) (v := ?v13x9) rfl (by kernel_rfl) (by kernel_rfl) (by kernel_rfl) (fun _ _ _ h => h) (Or.inl ⟨by rfl, ?hy13x9⟩) hHeld ?nx13x9
      case hy13x9 => (intro w hSw; (try dsimp only at hSw); go_simp; try with_reducible rfl)
      try simp only [Act.put, List.setIfInBounds_toArray, List.set_cons_zero, List.set_cons_succ]
      refine wpAnyH_take (i := 14) (oi := { dst := some 80, op := Op.move (Operand.tmp 79), type := 4, pos := "law.go:30", after := #[{ on := 13, ground := Ground.data }, { on := 12, ground := Ground.chain }, { on := 8, ground := Ground.guard }], guard := some (8, true) }) (v := ?v14x10) rfl (by kernel_rfl) (by kernel_rfl) (by kernel_rfl) (fun _ _ _ h => h) (Or.inl ⟨by rfl, ?hy14x10⟩) hHeld ?nx14x10
      case hy14x10 => (intro w hSw; (try dsimp only at hSw); go_simp; try with_reducible rfl)
      try simp only [Act.put, List.setIfInBounds_toArray, List.set_cons_zero, List.set_cons_succ]
      refine wpAnyH_take (i := 15) (oi := { dst := some 81, op := Op.load 24 (Operand.tmp 4), type := 24, pos := "law.go:30", after := #[{ on := 14, ground := Ground.guard }], guard := some (14, false) }) (v := undef) rfl (by kernel_rfl) (by kernel_rfl) (by kernel_rfl) (fun _ _ _ h => h) (Or.inr ⟨by rfl, rfl⟩) hHeld ?nx15x11
      try simp only [Act.put, List.setIfInBounds_toArray, List.set_cons_zero, List.set_cons_succ]
      refine wpAnyH_take (i := 16) (oi := { dst := some 82, op := Op.call { callee := Callee.value (Operand.func 14), args := #[Operand.tmp 81], argTypes := #[24] }, type := 4, pos := "law.go:30", after := #[{ on := 15, ground := Ground.data }, { on := 14, ground := Ground.chain }, { on := 14, ground := Ground.guard }], guard := some (14, false) }) (v := undef) rfl (by kernel_rfl) (by kernel_rfl) (by kernel_rfl) (fun _ _ _ h => h) (Or.inr ⟨by rfl, rfl⟩) hHeld ?nx16x12
      try simp only [Act.put, List.setIfInBounds_toArray, List.set_cons_zero, List.set_cons_succ]
      refine wpAnyH_take (i := 17) (oi := { dst := some 83, op := Op.unOp UnOp.not 4 (Operand.tmp 82), type := 4, pos := "law.go:30", after := #[{ on := 16, ground := Ground.data }, { on := 14, ground := Ground.guard }], guard := some (14, false) }) (v := undef) rfl (by kernel_rfl) (by kernel_rfl) (by kernel_rfl) (fun _ _ _ h => h) (Or.inr ⟨by rfl, rfl⟩) hHeld ?nx17x13
      try simp only [Act.put, List.setIfInBounds_toArray, List.set_cons_zero, List.set_cons_succ]
      refine wpAnyH_take (i := 18) (oi := { dst := some 84, op := Op.pick (Operand.tmp 80) (Operand.const (Value.bool true)) (Operand.tmp 83), type := 4, pos := "law.go:30", after := #[{ on := 14, ground := Ground.data }, { on := 17, ground := Ground.data }, { on := 8, ground := Ground.guard }], guard := some (8, true) }) (v := ?v18x14) rfl (by kernel_rfl) (by kernel_rfl) (by kernel_rfl) (fun _ _ _ h => h) (Or.inl ⟨by rfl, ?hy18x14⟩) hHeld ?nx18x14
      case hy18x14 => (intro w hSw; (try dsimp only at hSw); go_simp; try with_reducible rfl)
      try simp only [Act.put, List.setIfInBounds_toArray, List.set_cons_zero, List.set_cons_succ]
      refine wpAnyH_take (i := 19) (oi := { dst := some 85, op := Op.binOp BinOp.eql 4 (Operand.tmp 76) (Operand.tmp 84) 4, type := 4, pos := "law.go:30", after := #[{ on := 10, ground := Ground.data }, { on := 18, ground := Ground.data }, { on := 8, ground := Ground.guard }], guard := some (8, true) }) (v := ?v19x15) rfl (by kernel_rfl) (by kernel_rfl) (by kernel_rfl) (fun _ _ _ h => h) (Or.inl ⟨by rfl, ?hy19x15⟩) hHeld ?nx19x15
      case hy19x15 => (intro w hSw; (try dsimp only at hSw); go_simp; try with_reducible rfl)
      try simp only [Act.put, List.setIfInBounds_toArray, List.set_cons_zero, List.set_cons_succ]
      refine wpAnyH_take (i := 20) (oi := { dst := some 86, op := Op.pick (Operand.tmp 74) (Operand.tmp 85) (Operand.const (Value.bool false)), type := 4, pos := "law.go:30", after := #[{ on := 8, ground := Ground.data }, { on := 19, ground := Ground.data }], guard := none }) (v := ?v20x16) rfl (by kernel_rfl) (by kernel_rfl) (by kernel_rfl) (fun _ _ _ h => h) (Or.inl ⟨by rfl, ?hy20x16⟩) hHeld ?nx20x16
      case hy20x16 => (intro w hSw; (try dsimp only at hSw); go_simp; try with_reducible rfl)
      try simp only [Act.put, List.setIfInBounds_toArray, List.set_cons_zero, List.set_cons_succ]
      refine wpAnyH_take (i := 21) (oi := { dst := some 87, op := Op.move (Operand.tmp 86), type := 4, pos := "law.go:30", after := #[{ on := 20, ground := Ground.data }, { on := 16, ground := Ground.chain }], guard := none }) (v := ?v21x17) rfl (by kernel_rfl) (by kernel_rfl) (by kernel_rfl) (fun _ _ _ h => h) (Or.inl ⟨by rfl, ?hy21x17⟩) hHeld ?nx21x17
      case hy21x17 => (intro w hSw; (try dsimp only at hSw); go_simp; try with_reducible rfl)
      try simp only [Act.put, List.setIfInBounds_toArray, List.set_cons_zero, List.set_cons_succ]
      refine wpAnyH_take (i := 22) (oi := { dst := some 88, op := Op.load 24 (Operand.tmp 11), type := 24, pos := "law.go:30", after := #[{ on := 21, ground := Ground.guard }], guard := some (21, true) }) (v := ?v22x18) rfl (by kernel_rfl) (by kernel_rfl) (by kernel_rfl) (fun _ _ _ h => h) (Or.inl ⟨by rfl, ?hy22x18⟩) hHeld ?nx22x18
      case hy22x18 => (intro w hSw; (try dsimp only at hSw); go_simp; try with_reducible rfl)
      try simp only [Act.put, List.setIfInBounds_toArray, List.set_cons_zero, List.set_cons_succ]
      refine wpAnyH_take (i := 24) (oi := { dst := some 90, op := Op.load 24 (Operand.tmp 11), type := 24, pos := "law.go:30", after := #[{ on := 21, ground := Ground.guard }], guard := some (21, true) }) (v := ?v24x19) rfl (by kernel_rfl) (by kernel_rfl) (by kernel_rfl) (fun _ _ _ h => h) (Or.inl ⟨by rfl, ?hy24x19⟩) hHeld ?nx24x19
      case hy24x19 => (intro w hSw; (try dsimp only at hSw); go_simp; try with_reducible rfl)
      try simp only [Act.put, List.setIfInBounds_toArray, List.set_cons_zero, List.set_cons_succ]
      refine wpAnyH_ready (rs := [23]) (by kernel_rfl) (by simp) ?_
      refine (AllReadyH.cons (o := { dst := some 89, op := Op.call { callee := Callee.value (Operand.func 11), args := #[Operand.tmp 88], argTypes := #[24] }, type := 3, pos := "law.go:30", after := #[{ on := 22, ground := Ground.data }, { on := 21, ground := Ground.chain }, { on := 21, ground := Ground.guard }], guard := some (21, true) }) rfl (fun K hK => ?_) AllReadyH.nil)
      go_simp
      go_at_call 11
      refine (HIB.out _).mono ?_
      rintro e v6 ⟨rfl, g6⟩
      have G6 : Fr No w9 v6 := Fr.trans (G5) g6
      have hS := HSS.out _ G6
      clear g6
      refine hK.out _ _ hS (fun hH2 => ?_)
      clear hK K hHeld
      have hHeld := hH2
      clear hH2 hS
      try simp only [Act.put, List.setIfInBounds_toArray, List.set_cons_zero, List.set_cons_succ]
      refine wpAnyH_ready (rs := [25]) (by kernel_rfl) (by simp) ?_
      refine (AllReadyH.cons (o := { dst := some 91, op := Op.call { callee := Callee.value (Operand.func 12), args := #[Operand.tmp 90], argTypes := #[24] }, type := 3, pos := "law.go:30", after := #[{ on := 24, ground := Ground.data }, { on := 23, ground := Ground.chain }, { on := 21, ground := Ground.guard }], guard := some (21, true) }) rfl (fun K hK => ?_) AllReadyH.nil)
      go_simp
      go_at_call 12
      refine (HRB.out _).mono ?_
      rintro e v7 ⟨rfl, g7⟩
      have G7 : Fr No w9 v7 := Fr.trans (G6) g7
      have hS := HSS.out _ G7
      clear g7
      refine hK.out _ _ hS (fun hH2 => ?_)
      clear hK K hHeld
      have hHeld := hH2
      clear hH2 hS
      try simp only [Act.put, List.setIfInBounds_toArray, List.set_cons_zero, List.set_cons_succ]
      refine wpAnyH_take (i := 26) (oi := { dst := some 92, op := Op.binOp BinOp.eql 3 (Operand.tmp 89) (Operand.tmp 91) 3, type := 4, pos := "law.go:30", after := #[{ on := 23, ground := Ground.data }, { on := 25, ground := Ground.data }, { on := 21, ground := Ground.guard }], guard := some (21, true) }) (v := ?v26x20) rfl (by kernel_rfl) (by kernel_rfl) (by kernel_rfl) (fun _ _ _ h => h) (Or.inl ⟨by rfl, ?hy26x20⟩) hHeld ?nx26x20
      case hy26x20 => (intro w hSw; (try dsimp only at hSw); go_simp; try with_reducible rfl)
      try simp only [Act.put, List.setIfInBounds_toArray, List.set_cons_zero, List.set_cons_succ]
      refine wpAnyH_take (i := 27) (oi := { dst := some 93, op := Op.pick (Operand.tmp 87) (Operand.tmp 92) (Operand.const (Value.bool false)), type := 4, pos := "law.go:30", after := #[{ on := 21, ground := Ground.data }, { on := 26, ground := Ground.data }], guard := none }) (v := ?v27x21) rfl (by kernel_rfl) (by kernel_rfl) (by kernel_rfl) (fun _ _ _ h => h) (Or.inl ⟨by rfl, ?hy27x21⟩) hHeld ?nx27x21
      case hy27x21 => (intro w hSw; (try dsimp only at hSw); go_simp; try with_reducible rfl)
      try simp only [Act.put, List.setIfInBounds_toArray, List.set_cons_zero, List.set_cons_succ]
      refine wpAnyH_take (i := 28) (oi := { dst := some 94, op := Op.move (Operand.tmp 93), type := 4, pos := "law.go:30", after := #[{ on := 27, ground := Ground.data }, { on := 25, ground := Ground.chain }], guard := none }) (v := ?v28x22) rfl (by kernel_rfl) (by kernel_rfl) (by kernel_rfl) (fun _ _ _ h => h) (Or.inl ⟨by rfl, ?hy28x22⟩) hHeld ?nx28x22
      case hy28x22 => (intro w hSw; (try dsimp only at hSw); go_simp; try with_reducible rfl)
      try simp only [Act.put, List.setIfInBounds_toArray, List.set_cons_zero, List.set_cons_succ]
      refine wpAnyH_take (i := 29) (oi := { dst := some 95, op := Op.load 24 (Operand.tmp 11), type := 24, pos := "law.go:30", after := #[{ on := 28, ground := Ground.guard }], guard := some (28, true) }) (v := ?v29x23) rfl (by kernel_rfl) (by kernel_rfl) (by kernel_rfl) (fun _ _ _ h => h) (Or.inl ⟨by rfl, ?hy29x23⟩) hHeld ?nx29x23
      case hy29x23 => (intro w hSw; (try dsimp only at hSw); go_simp; try with_reducible rfl)
      try simp only [Act.put, List.setIfInBounds_toArray, List.set_cons_zero, List.set_cons_succ]
      refine wpAnyH_take (i := 31) (oi := { dst := some 97, op := Op.load 24 (Operand.tmp 11), type := 24, pos := "law.go:30", after := #[{ on := 28, ground := Ground.guard }], guard := some (28, true) }) (v := ?v31x24) rfl (by kernel_rfl) (by kernel_rfl) (by kernel_rfl) (fun _ _ _ h => h) (Or.inl ⟨by rfl, ?hy31x24⟩) hHeld ?nx31x24
      case hy31x24 => (intro w hSw; (try dsimp only at hSw); go_simp; try with_reducible rfl)
      try simp only [Act.put, List.setIfInBounds_toArray, List.set_cons_zero, List.set_cons_succ]
      refine wpAnyH_ready (rs := [30]) (by kernel_rfl) (by simp) ?_
      refine (AllReadyH.cons (o := { dst := some 96, op := Op.call { callee := Callee.value (Operand.func 13), args := #[Operand.tmp 95], argTypes := #[24] }, type := 4, pos := "law.go:30", after := #[{ on := 29, ground := Ground.data }, { on := 28, ground := Ground.chain }, { on := 28, ground := Ground.guard }], guard := some (28, true) }) rfl (fun K hK => ?_) AllReadyH.nil)
      go_simp
      go_at_call 13
      refine (HCB.out _).mono ?_
      rintro e v8 ⟨rfl, g8⟩
      have G8 : Fr No w9 v8 := Fr.trans (G7) g8
      have hS := HSS.out _ G8
      clear g8
      refine hK.out _ _ hS (fun hH2 => ?_)
      clear hK K hHeld
      have hHeld := hH2
      clear hH2 hS
      try simp only [Act.put, List.setIfInBounds_toArray, List.set_cons_zero, List.set_cons_succ]
      refine wpAnyH_ready (rs := [32]) (by kernel_rfl) (by simp) ?_
      refine (AllReadyH.cons (o := { dst := some 98, op := Op.call { callee := Callee.value (Operand.func 12), args := #[Operand.tmp 97], argTypes := #[24] }, type := 3, pos := "law.go:30", after := #[{ on := 31, ground := Ground.data }, { on := 30, ground := Ground.chain }, { on := 28, ground := Ground.guard }], guard := some (28, true) }) rfl (fun K hK => ?_) AllReadyH.nil)
      go_simp
      go_at_call 12
      refine (HRB.out _).mono ?_
      rintro e v9 ⟨rfl, g9⟩
      have G9 : Fr No w9 v9 := Fr.trans (G8) g9
      have hS := HSS.out _ G9
      clear g9
      refine hK.out _ _ hS (fun hH2 => ?_)
      clear hK K hHeld
      have hHeld := hH2
      clear hH2 hS
      try simp only [Act.put, List.setIfInBounds_toArray, List.set_cons_zero, List.set_cons_succ]
      refine wpAnyH_take (i := 33) (oi := { dst := some 99, op := Op.binOp BinOp.geq 3 (Operand.tmp 98) (Operand.const (Value.int IntKind.i64 0)) 3, type := 4, pos := "law.go:30", after := #[{ on := 32, ground := Ground.data }, { on := 28, ground := Ground.guard }], guard := some (28, true) }) (v := ?v33x25) rfl (by kernel_rfl) (by kernel_rfl) (by kernel_rfl) (fun _ _ _ h => h) (Or.inl ⟨by rfl, ?hy33x25⟩) hHeld ?nx33x25
      case hy33x25 => (intro w hSw; (try dsimp only at hSw); go_simp; try with_reducible rfl)
      try simp only [Act.put, List.setIfInBounds_toArray, List.set_cons_zero, List.set_cons_succ]
      refine wpAnyH_take (i := 34) (oi := { dst := some 100, op := Op.binOp BinOp.eql 4 (Operand.tmp 96) (Operand.tmp 99) 4, type := 4, pos := "law.go:30", after := #[{ on := 30, ground := Ground.data }, { on := 33, ground := Ground.data }, { on := 28, ground := Ground.guard }], guard := some (28, true) }) (v := ?v34x26) rfl (by kernel_rfl) (by kernel_rfl) (by kernel_rfl) (fun _ _ _ h => h) (Or.inl ⟨by rfl, ?hy34x26⟩) hHeld ?nx34x26
      case hy34x26 => (intro w hSw; (try dsimp only at hSw); go_simp; try with_reducible rfl)
      try simp only [Act.put, List.setIfInBounds_toArray, List.set_cons_zero, List.set_cons_succ]
      refine wpAnyH_take (i := 35) (oi := { dst := some 101, op := Op.pick (Operand.tmp 94) (Operand.tmp 100) (Operand.const (Value.bool false)), type := 4, pos := "law.go:30", after := #[{ on := 28, ground := Ground.data }, { on := 34, ground := Ground.data }], guard := none }) (v := ?v35x27) rfl (by kernel_rfl) (by kernel_rfl) (by kernel_rfl) (fun _ _ _ h => h) (Or.inl ⟨by rfl, ?hy35x27⟩) hHeld ?nx35x27
      case hy35x27 => (intro w hSw; (try dsimp only at hSw); go_simp; try with_reducible rfl)
      try simp only [Act.put, List.setIfInBounds_toArray, List.set_cons_zero, List.set_cons_succ]
      refine wpAnyH_take (i := 36) (oi := { dst := some 102, op := Op.move (Operand.tmp 101), type := 4, pos := "law.go:30", after := #[{ on := 35, ground := Ground.data }, { on := 32, ground := Ground.chain }], guard := none }) (v := ?v36x28) rfl (by kernel_rfl) (by kernel_rfl) (by kernel_rfl) (fun _ _ _ h => h) (Or.inl ⟨by rfl, ?hy36x28⟩) hHeld ?nx36x28
      case hy36x28 => (intro w hSw; (try dsimp only at hSw); go_simp; try with_reducible rfl)
      try simp only [Act.put, List.setIfInBounds_toArray, List.set_cons_zero, List.set_cons_succ]
      refine wpAnyH_take (i := 37) (oi := { dst := some 103, op := Op.load 24 (Operand.tmp 14), type := 24, pos := "law.go:30", after := #[{ on := 36, ground := Ground.guard }], guard := some (36, true) }) (v := ?v37x29) rfl (by kernel_rfl) (by kernel_rfl) (by kernel_rfl) (fun _ _ _ h => h) (Or.inl ⟨by rfl, ?hy37x29⟩) hHeld ?nx37x29
      case hy37x29 => (intro w hSw; (try dsimp only at hSw); go_simp; try with_reducible rfl)
      try simp only [Act.put, List.setIfInBounds_toArray, List.set_cons_zero, List.set_cons_succ]
      refine wpAnyH_take (i := 39) (oi := { dst := some 105, op := Op.load 24 (Operand.tmp 14), type := 24, pos := "law.go:30", after := #[{ on := 36, ground := Ground.guard }], guard := some (36, true) }) (v := ?v39x30) rfl (by kernel_rfl) (by kernel_rfl) (by kernel_rfl) (fun _ _ _ h => h) (Or.inl ⟨by rfl, ?hy39x30⟩) hHeld ?nx39x30
      case hy39x30 => (intro w hSw; (try dsimp only at hSw); go_simp; try with_reducible rfl)
      try simp only [Act.put, List.setIfInBounds_toArray, List.set_cons_zero, List.set_cons_succ]
      refine wpAnyH_ready (rs := [38]) (by kernel_rfl) (by simp) ?_
      refine (AllReadyH.cons (o := { dst := some 104, op := Op.call { callee := Callee.value (Operand.func 11), args := #[Operand.tmp 103], argTypes := #[24] }, type := 3, pos := "law.go:30", after := #[{ on := 37, ground := Ground.data }, { on := 36, ground := Ground.chain }, { on := 36, ground := Ground.guard }], guard := some (36, true) }) rfl (fun K hK => ?_) AllReadyH.nil)
      go_simp
      go_at_call 11
      refine (HIC.out _).mono ?_
      rintro e v10 ⟨rfl, g10⟩
      have G10 : Fr No w9 v10 := Fr.trans (G9) g10
      have hS := HSS.out _ G10
      clear g10
      refine hK.out _ _ hS (fun hH2 => ?_)
      clear hK K hHeld
      have hHeld := hH2
      clear hH2 hS
      try simp only [Act.put, List.setIfInBounds_toArray, List.set_cons_zero, List.set_cons_succ]
      refine wpAnyH_ready (rs := [40]) (by kernel_rfl) (by simp) ?_
      refine (AllReadyH.cons (o := { dst := some 106, op := Op.call { callee := Callee.value (Operand.func 12), args := #[Operand.tmp 105], argTypes := #[24] }, type := 3, pos := "law.go:30", after := #[{ on := 39, ground := Ground.data }, { on := 38, ground := Ground.chain }, { on := 36, ground := Ground.guard }], guard := some (36, true) }) rfl (fun K hK => ?_) AllReadyH.nil)
      go_simp
      go_at_call 12
      refine (HRC.out _).mono ?_
      rintro e v11 ⟨rfl, g11⟩
      have G11 : Fr No w9 v11 := Fr.trans (G10) g11
      have hS := HSS.out _ G11
      clear g11
      refine hK.out _ _ hS (fun hH2 => ?_)
      clear hK K hHeld
      have hHeld := hH2
      clear hH2 hS
      try simp only [Act.put, List.setIfInBounds_toArray, List.set_cons_zero, List.set_cons_succ]
      refine wpAnyH_take (i := 41) (oi := { dst := some 107, op := Op.binOp BinOp.eql 3 (Operand.tmp 104) (Operand.tmp 106) 3, type := 4, pos := "law.go:30", after := #[{ on := 38, ground := Ground.data }, { on := 40, ground := Ground.data }, { on := 36, ground := Ground.guard }], guard := some (36, true) }) (v := ?v41x31) rfl (by kernel_rfl) (by kernel_rfl) (by kernel_rfl) (fun _ _ _ h => h) (Or.inl ⟨by rfl, ?hy41x31⟩) hHeld ?nx41x31
      case hy41x31 => (intro w hSw; (try dsimp only at hSw); go_simp; try with_reducible rfl)
      try simp only [Act.put, List.setIfInBounds_toArray, List.set_cons_zero, List.set_cons_succ]
      refine wpAnyH_take (i := 42) (oi := { dst := some 108, op := Op.pick (Operand.tmp 102) (Operand.tmp 107) (Operand.const (Value.bool false)), type := 4, pos := "law.go:30", after := #[{ on := 36, ground := Ground.data }, { on := 41, ground := Ground.data }], guard := none }) (v := ?v42x32) rfl (by kernel_rfl) (by kernel_rfl) (by kernel_rfl) (fun _ _ _ h => h) (Or.inl ⟨by rfl, ?hy42x32⟩) hHeld ?nx42x32
      case hy42x32 => (intro w hSw; (try dsimp only at hSw); go_simp; try with_reducible rfl)
      try simp only [Act.put, List.setIfInBounds_toArray, List.set_cons_zero, List.set_cons_succ]
      refine wpAnyH_take (i := 43) (oi := { dst := some 8, op := Op.assign (Operand.tmp 108), type := 4, pos := "law.go:30", after := #[{ on := 42, ground := Ground.data }, { on := 40, ground := Ground.chain }, { on := 0, ground := Ground.phase }, { on := 1, ground := Ground.phase }, { on := 2, ground := Ground.phase }, { on := 3, ground := Ground.phase }, { on := 4, ground := Ground.phase }, { on := 5, ground := Ground.phase }, { on := 6, ground := Ground.phase }, { on := 7, ground := Ground.phase }, { on := 8, ground := Ground.phase }, { on := 9, ground := Ground.phase }, { on := 10, ground := Ground.phase }, { on := 11, ground := Ground.phase }, { on := 12, ground := Ground.phase }, { on := 13, ground := Ground.phase }, { on := 14, ground := Ground.phase }, { on := 15, ground := Ground.phase }, { on := 16, ground := Ground.phase }, { on := 17, ground := Ground.phase }, { on := 18, ground := Ground.phase }, { on := 19, ground := Ground.phase }, { on := 20, ground := Ground.phase }, { on := 21, ground := Ground.phase }, { on := 22, ground := Ground.phase }, { on := 23, ground := Ground.phase }, { on := 24, ground := Ground.phase }, { on := 25, ground := Ground.phase }, { on := 26, ground := Ground.phase }, { on := 27, ground := Ground.phase }, { on := 28, ground := Ground.phase }, { on := 29, ground := Ground.phase }, { on := 30, ground := Ground.phase }, { on := 31, ground := Ground.phase }, { on := 32, ground := Ground.phase }, { on := 33, ground := Ground.phase }, { on := 34, ground := Ground.phase }, { on := 35, ground := Ground.phase }, { on := 36, ground := Ground.phase }, { on := 37, ground := Ground.phase }, { on := 38, ground := Ground.phase }, { on := 39, ground := Ground.phase }, { on := 40, ground := Ground.phase }, { on := 41, ground := Ground.phase }, { on := 42, ground := Ground.phase }], guard := none }) (v := ?v43x33) rfl (by kernel_rfl) (by kernel_rfl) (by kernel_rfl) (fun _ _ _ h => h) (Or.inl ⟨by rfl, ?hy43x33⟩) hHeld ?nx43x33
      case hy43x33 => (intro w hSw; (try dsimp only at hSw); go_simp; try with_reducible rfl)
      try simp only [Act.put, List.setIfInBounds_toArray, List.set_cons_zero, List.set_cons_succ]
      refine wpAnyH_done (by kernel_rfl) ?_ _
      refine NoPanic.normal ?_
      go_wp2_with fail
      go_ret
      exact ⟨rfl, H9.out.1.trans G11⟩

end Go.Proofs.Ytgbbgkbpafpnbaa
