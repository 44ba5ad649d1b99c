/-
  THE LAW AclAddressDecision: its walk.
  Conditions: the lists lie in memory.
-/
import Derived.Test.YtnadendhboiliaaLa
namespace Go.Proofs.Ytnadendhboiliaa
open Go.ChangeShapes Go.WideShapes Go.ChangeAt Go.RowKit
set_option linter.unusedVariables false

theorem InI.cell {w : World} {a : Option Addr} {n i : Nat} (h : InI w a n) (hi : i < n) : ∃ (b o : Nat) (z : Int), a = some ⟨b, o, none⟩ ∧ ∀ w', Fr No w w' → w'.cell? ⟨b, o + i, none⟩ = some (.int .i64 z) := by
  obtain ⟨b, o, q, -, ha, hc⟩ := h.2 i hi
  refine ⟨b, o, q, ha, fun w' hf => hf.cell ?_⟩
  have := hc 0 _ rfl
  rwa [Nat.mul_one, Nat.add_zero] at this

set_option maxHeartbeats 8000000 in
set_option maxRecDepth 100000 in
theorem addr_walk (a : Option Addr) (n cp : Nat) (a2 : Option Addr) (n2 cp2 : Nat) (a3 : Option Addr) (n3 cp3 : Nat) (all : Bool) (w : World) (ha : InR w a n) (hb : InA w a2 n2) (hc : InI w a3 n3) :
    Calls Try.prog 4 #[.slice a n cp, .slice a2 n2 cp2, .slice a3 n3 cp3, .bool all] w fun e w' => e = .returned (.bool true) ∧ Fr No w w' := by
  obtain ⟨L0, hL0, hr0⟩ := ha.row
  have HRL : Hid (∀ w', Fr No w w' → Calls Try.prog 15 #[.slice a n cp, .int .i64 12, .bool all] w' (GenL 12 w')) := fun w' hf => rules_gen L0 n hL0 a cp w' (hr0.no hf) 12 (by decide) all
  clear hL0 hr0 ha
  have HA := Lib.hid hb
  have HI := Lib.hid hc
  clear hb hc
  obtain ⟨Z, hZ⟩ : ∃ Z : Array Value, (adr false zeros).toArray = Z := ⟨_, rfl⟩
  have v26 := zero26
  rw [hZ] at v26
  have hZs : Z.size = 17 := by rw [← hZ]; rfl
  have HPP : Hid (∀ (n : Int) (w : World), Calls Try.prog 17 #[.int .i64 n] w fun e w' => (∃ p : Int, e = .returned (.int .i64 p)) ∧ w' = w) := fun n w => by
    obtain ⟨fp, -, hfp⟩ := port_all
    exact (hfp n w).mono fun e w' h => ⟨⟨_, h.1⟩, h.2⟩
  have K00 := Fr.refl No w
  clear hZ
  go_enter Try.func4, Try.ntmps4
  have t3 := Try.underlying3
  have u3 := Try.runUnderlying3
  have g3 := Try.isAgg3
  have z3 := Try.sizeOf3
  have t4 := Try.underlying4
  have u4 := Try.runUnderlying4
  have g4 := Try.isAgg4
  have z4 := Try.sizeOf4
  have t22 := Try.underlying22
  have u22 := Try.runUnderlying22
  have g22 := Try.isAgg22
  have z22 := Try.sizeOf22
  have t26 := Try.underlying26
  have u26 := Try.runUnderlying26
  have g26 := Try.isAgg26
  have z26 := Try.sizeOf26
  have t32 := Try.underlying32
  have u32 := Try.runUnderlying32
  have g32 := Try.isAgg32
  have z32 := Try.sizeOf32
  have t33 := Try.underlying33
  have u33 := Try.runUnderlying33
  have g33 := Try.isAgg33
  have z33 := Try.sizeOf33
  have t40 := Try.underlying40
  have u40 := Try.runUnderlying40
  have g40 := Try.isAgg40
  have z40 := Try.sizeOf40
  have t41 := Try.underlying41
  have u41 := Try.runUnderlying41
  have g41 := Try.isAgg41
  have z41 := Try.sizeOf41
  have c11 := Try.call11
  have c14 := Try.call14
  have c15 := Try.call15
  have c16 := Try.call16
  have c17 := Try.call17
  have c18 := Try.call18
  have c19 := Try.call19
  have c20 := Try.call20
  have c21 := Try.call21
  have mixed : Try.prog.follows .mixedOrders = true := by kernel_rfl
  obtain ⟨k17, hk17⟩ : ∃ k, k = 17 := ⟨_, rfl⟩
  rw [← hk17] at z26
  have nk17 : ¬ k17 = 0 := by omega
  have HK26 := Lib.hid hk17
  have hP : Try.prog = PD := rfl
  rw [hP] at t3 u3 g3 z3 t4 u4 g4 z4 t22 u22 g22 z22 t26 u26 g26 z26 t32 u32 g32 z32 t33 u33 g33 z33 t40 u40 g40 z40 t41 u41 g41 z41 c11 c14 c15 c16 c17 c18 c19 c20 c21 mixed v26 ⊢
  have HP := Lib.hid hP.symm
  clear hP hk17
  have hZk : Z.size = k17 := by rw [HK26.out]; exact hZs
  have HZ := Lib.hid hZs
  clear hZs
  go_upto_region 5 with (first | (go_at_call 15; ((refine (at_prog HP.out (HRL.out _ K00)).mono ?_); rintro e w1 ⟨L, m, ad, c, rfl, hLm, hm, hok, hv, ho, hf1⟩)) | (go_at_call 11; ((refine (at_prog HP.out (newl L m hLm hok hv ad c _ w1 ho)).mono ?_); rintro e w2 ⟨x, rfl, hI, hf2⟩)) | fail)
  have hRow2 : RowR w2 ad L := (RowR.own hok ho).1.no hf2
  have HW2 : Hid (Fr No w w2) := hf1.trans hf2
  have HX : Hid (∀ (b : Bool) (ys : List Nat) (port : Int) (B : Array Value), Bytes ys → (adr b ys).toArray = B → ∃ (i : Int) (v : Bool), ∀ w', Fr No w2 w' → Calls Try.prog 18 #[.pointer (some ⟨x, 0, none⟩), .agg B, .int .i64 port] w' (fun e w'' => e = .returned (.int .i64 i) ∧ Fr No w' w'') ∧ Calls Try.prog 19 #[.slice ad m c, .agg B, .int .i64 port] w' (fun e w'' => e = .returned (.int .i64 i) ∧ Fr No w' w'') ∧ Calls Try.prog 20 #[.pointer (some ⟨x, 0, none⟩), .agg B, .int .i64 port] w' (fun e w'' => e = .returned (.bool v) ∧ Fr No w' w'') ∧ Calls Try.prog 21 #[.slice ad m c, .agg B, .int .i64 port] w' (fun e w'' => e = .returned (.bool v) ∧ Fr No w' w'')) := fun b ys port B hy hB => ⟨_, _, fun w' hf => by
    subst hB
    obtain ⟨n0, tb, ra, rc, T, X, h⟩ := hI.out
    exact ⟨match_any n0 w' x L tb ra rc T X (h.no hf) (by omega) b ys hy port, matcha_ref L m hLm (by omega) ad c b ys hy port w' (hRow2.no hf), allowa_any n0 w' x L tb ra rc T X (h.no hf) (by omega) b ys hy port, allowa_ref L m hLm (by omega) ad c b ys hy port w' (hRow2.no hf)⟩⟩
  clear hRow2 hI ho hf1 hf2 hok hv hLm hm
  go_wp2_with fail
  go_loopg [12] 22 (fun g s wr => ∃ (i : Nat), s = .int .i64 i ∧ i ≤ 20 ∧ 21 - i < g ∧ Hid (Fr No w2 wr))
  case atStart => exact ⟨0, by go_num, by omega, by omega, Fr.refl _ _⟩
  case round =>
    obtain ⟨i, rfl, hi20, hig, HR⟩ := hrel
    have p1 : (0 : Int) ≤ (i : Int) := by omega
    by_cases hlt : i < n2
    · by_cases hl20 : i < 20
      · obtain ⟨bo, oo, q, hq, rfl, lq⟩ := HA.out.load hlt
        have p2 : (i : Int) < (n2 : Int) := by omega
        have p3 : (i : Int) < 20 := by omega
        obtain ⟨A, hA, -, hAs, -⟩ := adr_letter q.1 q.2 hq
        have HSA : Hid (∀ w', Calls Try.prog 16 #[.agg A] w' (GenB w')) := fun w' => by rw [← hA]; exact saddr_gen q.1 q.2 hq w'
        have l0 : Sem.run PD (loadCellsFrom ⟨bo, oo + i * k17, none⟩ 0 k17 #[]) wr = .ok A wr := by rw [HK26.out, ← hA]; exact lq PD wr (HW2.out.trans HR.out)
        clear lq hA hq hAs
        go_upto_if 47 with (first | (go_at_call 16; ((with_reducible refine (at_prog HP.out (HSA.out _)).mono ?_); rintro e w4 ⟨c', ys, hys, rfl, hf4⟩; obtain ⟨B, hB, -, hBs, -⟩ := adr_letter c' ys hys; rw [hB]; have hBk : B.size = k17 := hBs.trans HK26.out.symm; obtain ⟨y, hst, hyb, hyf⟩ := store_all (P := PD) B.toList (heap_alloc_new w4 (.cells Z 26)) (by rw [Array.length_toList, hBs, HZ.out]) (by rw [← hB]; exact fun u hu => adr_one _ _ u (by simpa using hu)))) | fail)
        obtain ⟨ub, hub⟩ : ∃ ub, w4.heap.size = ub := ⟨_, rfl⟩
        have hFy : Fr No wr y := (hf4.trans (Fr.alloc No w4 _)).ofNew hyf fun k hk => .inr (by rw [hk]; exact hf4.size)
        rw [hub] at hyb ⊢
        have HY : Hid (Fr No w2 y ∧ y.heap[ub]? = some (.cells B 26 (0, 0))) := ⟨HR.out.trans hFy, by simpa using hyb⟩
        have HBB : Hid (Bytes ys ∧ (adr c' ys).toArray = B ∧ B.size = k17) := ⟨hys, hB, hBk⟩
        clear hst hyb hyf hFy hf4 hub l0 hB hys hBs hBk
        go_cut [14] (fun s14 wx => ∃ p : Int, s14 = .int .i64 p ∧ Hid (wx = y))
        case first =>
          by_cases h3 : i < n3
          · obtain ⟨b3, o3, z, rfl, hz⟩ := HI.out.cell h3
            have x3 := hz y (HW2.out.trans HY.out.1)
            have p4 : (i : Int) < (n3 : Int) := by omega
            obtain ⟨m5, hm5⟩ : ∃ m5, i % 5 = m5 := ⟨_, rfl⟩
            have e5 : (i : Int).tmod 5 = (m5 : Int) := by rw [← hm5]; rfl
            clear hz hm5
            by_cases h4 : m5 = 4
            · have p5 : (m5 : Int) = 4 := by omega
              go_wp2_with (first | (go_at_call 17; ((with_reducible refine (at_prog HP.out (HPP.out _ _)).mono ?_); rintro e w5 ⟨⟨pp, rfl⟩, hw5⟩; replace hw5 := hw5.symm; subst hw5)) | fail)
              all_goals (
                go_meet
                case rel => exact ⟨_, rfl, rfl⟩)
            · have p5 : ¬ (m5 : Int) = 4 := by omega
              go_wp2_with (first | (go_at_call 17; ((with_reducible refine (at_prog HP.out (HPP.out _ _)).mono ?_); rintro e w5 ⟨⟨pp, rfl⟩, hw5⟩; replace hw5 := hw5.symm; subst hw5)) | fail)
              all_goals (
                go_meet
                case rel => exact ⟨_, rfl, rfl⟩)
          · have p4 : ¬ (i : Int) < (n3 : Int) := by omega
            go_wp2_with fail
            go_meet
            case rel => exact ⟨80, rfl, rfl⟩
        case rest =>
          obtain ⟨pp, rfl, hwx⟩ := hcut
          replace hwx := hwx.out
          subst hwx
          obtain ⟨iv, bv, hxx⟩ := HX.out c' ys pp B HBB.out.1 HBB.out.2.1
          have HC : Hid (∀ w', Fr No wc w' → Calls Try.prog 18 #[.pointer (some ⟨x, 0, none⟩), .agg B, .int .i64 pp] w' (fun e w'' => e = .returned (.int .i64 iv) ∧ Fr No w' w'') ∧ Calls Try.prog 19 #[.slice ad m c, .agg B, .int .i64 pp] w' (fun e w'' => e = .returned (.int .i64 iv) ∧ Fr No w' w'') ∧ Calls Try.prog 20 #[.pointer (some ⟨x, 0, none⟩), .agg B, .int .i64 pp] w' (fun e w'' => e = .returned (.bool bv) ∧ Fr No w' w'') ∧ Calls Try.prog 21 #[.slice ad m c, .agg B, .int .i64 pp] w' (fun e w'' => e = .returned (.bool bv) ∧ Fr No w' w'')) := fun w' hf => hxx w' (HY.out.1.trans hf)
          have HS : Hid (∀ w', Fr No wc w' → Fr No wc w' ∧ Sem.run PD (loadCellsFrom ⟨ub, 0, none⟩ 0 k17 #[]) w' = .ok B w') := fun w' hf => ⟨hf, load_block (hf.keep HY.out.2) HBB.out.2.2 (fun j v hv => by simpa using hv)⟩
          go_upto_region 13 with fail
          have hS0 := HS.out _ (Fr.drew No wc)
          have q1 : (iv == iv) = true := by simp
          have q2 : (bv == bv) = true := by simp
          clear hxx
          go_region_held3 (fun w' => Fr No wc w' ∧ Sem.run PD (loadCellsFrom ⟨ub, 0, none⟩ 0 k17 #[]) w' = .ok B w') (first | assumption | (with_reducible exact HS.out _ (by assumption))) (first | (go_at_call 18; ((with_reducible refine (at_prog HP.out (HC.out _ (And.left (by assumption))).1).mono ?_); rintro e w3 ⟨rfl, hf3⟩; have K3 : Fr No wc w3 := Fr.trans (And.left (by assumption)) hf3; clear hf3)) | (go_at_call 19; ((with_reducible refine (at_prog HP.out (HC.out _ (And.left (by assumption))).2.1).mono ?_); rintro e w3 ⟨rfl, hf3⟩; have K3 : Fr No wc w3 := Fr.trans (And.left (by assumption)) hf3; clear hf3)) | (go_at_call 20; ((with_reducible refine (at_prog HP.out (HC.out _ (And.left (by assumption))).2.2.1).mono ?_); rintro e w3 ⟨rfl, hf3⟩; have K3 : Fr No wc w3 := Fr.trans (And.left (by assumption)) hf3; clear hf3)) | (go_at_call 21; ((with_reducible refine (at_prog HP.out (HC.out _ (And.left (by assumption))).2.2.2).mono ?_); rintro e w3 ⟨rfl, hf3⟩; have K3 : Fr No wc w3 := Fr.trans (And.left (by assumption)) hf3; clear hf3)))
          all_goals go_wp2_with fail
          all_goals (
            go_roundg (21 - i)
            case measure => exact hig
            case rel => exact ⟨i + 1, by go_num, by omega, by omega, HY.out.1.trans (by assumption)⟩)
      · have p2 : (i : Int) < (n2 : Int) := by omega
        have p3 : ¬ (i : Int) < 20 := by omega
        go_wp2_with (first | (go_at_call 14; ((with_reducible refine (at_prog HP.out (awake_any _)).mono ?_); rintro e wv ⟨rfl, hv⟩)) | fail)
        go_ret
        exact ⟨rfl, (HW2.out.trans HR.out).trans hv⟩
    · have p2 : ¬ (i : Int) < (n2 : Int) := by omega
      go_wp2_with (first | (go_at_call 14; ((with_reducible refine (at_prog HP.out (awake_any _)).mono ?_); rintro e wv ⟨rfl, hv⟩)) | fail)
      go_ret
      exact ⟨rfl, (HW2.out.trans HR.out).trans hv⟩
end Go.Proofs.Ytnadendhboiliaa
