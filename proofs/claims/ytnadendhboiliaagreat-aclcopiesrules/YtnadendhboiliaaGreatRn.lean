/-
  CONTRACTS of the reference's MatchAddr and MatchName, over this seat's translation: the index of the deciding rule.
  Conditions: the rules lie in memory.
-/
import Derived.Test.YtnadendhboiliaaGreatRg
import Derived.Test.YtnadendhboiliaaGreatRk
import Derived.Test.YtnadendhboiliaaGreatRl
import Derived.Test.YtnadendhboiliaaGreatMb
namespace Go.Proofs.YtnadendhboiliaaGreat
open Go.ChangeShapes Go.WideShapes Go.ChangeAt Go.RowKit
set_option linter.unusedVariables false

set_option maxHeartbeats 8000000 in
set_option maxRecDepth 100000 in
theorem matcha_ref (L : List Ru) (n : Nat) (hn : L.length = n) (hm : n ≤ 100000) (a : Option Addr) (cp : Nat) (c : Bool) (ys : List Nat) (hy : Bytes ys) (port : Int) (w : World) (hr : RowR w a L) :
    Calls Tryz.prog 32 #[.slice a n cp, .agg (adr c ys).toArray, .int .i64 port] w fun e w' => e = .returned (.int .i64 (bV (mtA c ys port) kA L)) ∧ Fr No w w' := by
  obtain ⟨A, hA, -, hAs, -⟩ := adr_letter c ys hy
  rw [hA]
  have HA := Lib.hid (And.intro hA hy)
  have hab := heap_alloc_new w (.cells A 25)
  have hF0 := Fr.alloc No w (.cells A 25)
  obtain ⟨Z, hZ⟩ : ∃ Z : Array Value, (ruC zRu).toArray = Z := ⟨_, rfl⟩
  have v30 := zero31
  rw [hZ] at v30
  have hZs : Z.size = 22 := by rw [← hZ]; rfl
  have HR0 := Lib.hid hr
  have HN := Lib.hid hn
  have HVV : Hid (bV (mtA c ys port) kA L = bN (mtA c ys port) kA L n) := by show _ = _; rw [← hn]; rfl
  clear hr hZ hn hA hy
  go_enter Tryz.func32, Tryz.ntmps32
  have t3 := Tryz.underlying3
  have u3 := Tryz.runUnderlying3
  have g3 := Tryz.isAgg3
  have z3 := Tryz.sizeOf3
  have t4 := Tryz.underlying4
  have u4 := Tryz.runUnderlying4
  have g4 := Tryz.isAgg4
  have z4 := Tryz.sizeOf4
  have t9 := Tryz.underlying9
  have u9 := Tryz.runUnderlying9
  have g9 := Tryz.isAgg9
  have z9 := Tryz.sizeOf9
  have t22 := Tryz.underlying22
  have u22 := Tryz.runUnderlying22
  have g22 := Tryz.isAgg22
  have z22 := Tryz.sizeOf22
  have t25 := Tryz.underlying25
  have u25 := Tryz.runUnderlying25
  have g25 := Tryz.isAgg25
  have z25 := Tryz.sizeOf25
  have t29 := Tryz.underlying29
  have u29 := Tryz.runUnderlying29
  have g29 := Tryz.isAgg29
  have z29 := Tryz.sizeOf29
  have t31 := Tryz.underlying31
  have u31 := Tryz.runUnderlying31
  have g31 := Tryz.isAgg31
  have z31 := Tryz.sizeOf31
  have c55 := Tryz.call55
  have mixed : Tryz.prog.follows .mixedOrders = true := by kernel_rfl
  obtain ⟨k24, hk24⟩ : ∃ k, k = 17 := ⟨_, rfl⟩
  rw [← hk24] at z25
  have nk24 : ¬ k24 = 0 := by omega
  have HK25 := Lib.hid hk24
  obtain ⟨k40, hk40⟩ : ∃ k, k = 18 := ⟨_, rfl⟩
  rw [← hk40] at z29
  have nk40 : ¬ k40 = 0 := by omega
  have HK29 := Lib.hid hk40
  obtain ⟨k22, hk22⟩ : ∃ k, k = 22 := ⟨_, rfl⟩
  rw [← hk22] at z31
  have nk22 : ¬ k22 = 0 := by omega
  have HK31 := Lib.hid hk22
  have hP : Tryz.prog = PD := rfl
  rw [hP] at t3 u3 g3 z3 t4 u4 g4 z4 t9 u9 g9 z9 t22 u22 g22 z22 t25 u25 g25 z25 t29 u29 g29 z29 t31 u31 g31 z31 c55 mixed v30 ⊢
  have HP := Lib.hid hP.symm
  clear hP hk24 hk40 hk22
  have hZk : Z.size = k22 := by rw [HK31.out]; exact hZs
  clear hZs
  have hAk : A.size = k24 := by rw [HK25.out]; exact hAs
  clear hAs
  go_wp2_with fail
  obtain ⟨W1, hW1⟩ : ∃ W1, w.alloc (.cells A 25) = W1 := ⟨_, rfl⟩
  obtain ⟨ab, hab0⟩ : ∃ ab, w.heap.size = ab := ⟨_, rfl⟩
  rw [hW1, hab0] at hab
  rw [hW1] at hF0
  have HW1 := Lib.hid (And.intro hF0 hab)
  rw [hW1, hab0]
  clear hF0 hab hW1 hab0
  go_loopg [8, 7] (n + 1) (fun g s8 s7 wr => ∃ (i : Nat), s8 = .int .i64 i ∧ s7 = .int .i64 (bN (mtA c ys port) kA L i) ∧ i ≤ n ∧ n - i < g ∧ Hid (Fr No W1 wr))
  case atStart => exact ⟨0, by go_num, rfl, by omega, by omega, Fr.refl _ _⟩
  case round =>
    obtain ⟨i, rfl, rfl, hin, hig, HR⟩ := hrel
    by_cases hi : i < n
    · have p1 : (0 : Int) ≤ (i : Int) := by omega
      have p2 : (i : Int) < (n : Int) := by omega
      obtain ⟨r, hr⟩ : ∃ r, L[i]? = some r := ⟨_, List.getElem?_eq_getElem (by rw [HN.out]; exact hi)⟩
      have hrow := HR0.out.no (HW1.out.1.trans HR.out)
      obtain ⟨b, o, rfl, hb, hcell⟩ := hrow.cell hr
      obtain ⟨R, hR, hRs, -, -, -, -, -, hRP, hR1⟩ := ru_letter r hb
      have hRk : R.size = k22 := by rw [HK31.out]; exact hRs
      have l1 : Sem.run PD (loadCellsFrom ⟨b, o + i * k22, none⟩ 0 k22 #[]) wr = .ok R wr := by rw [HK31.out, ← hR]; exact (hcell wr (Fr.refl _ _)).1 PD
      obtain ⟨y, hst, hyb, hyf⟩ := store_all (P := PD) R.toList (heap_alloc_new wr (.cells Z 31)) (by rw [Array.length_toList, hRk, hZk]) hR1
      have hyb' : y.heap[wr.heap.size]? = some (.cells R 31 (0, 0)) := by simpa using hyb
      have hfy : Fr No wr y := (Fr.alloc No wr _).ofNew hyf fun k hk => .inr (by rw [hk]; exact Nat.le_refl _)
      go_upto_region 6 with fail
      obtain ⟨g, hg⟩ : ∃ g, wr.heap.size = g := ⟨_, rfl⟩
      rw [hg] at hyb' ⊢
      obtain ⟨P, hP', -, -, hPs, -, -⟩ := pfx_letter r.p.b r.p.xs r.p.n hb
      have hPk : P.size = k40 := by rw [HK29.out]; exact hPs
      rw [hP'] at hRP
      obtain ⟨hi', hhi⟩ : ∃ hi', r.hi = hi' := ⟨_, rfl⟩
      obtain ⟨lo, hlo⟩ : ∃ lo, r.lo = lo := ⟨_, rfl⟩
      obtain ⟨pn, hpn⟩ : ∃ pn, r.p.n = pn := ⟨_, rfl⟩
      obtain ⟨sr, hsr⟩ : ∃ sr, bs r.sf = sr := ⟨_, rfl⟩
      have HS : Hid (∀ w', Fr No y w' → Fr No y w' ∧ w'.cell? ⟨g, 1, none⟩ = some (.string sr) ∧ w'.cell? ⟨g, 2 + 17, none⟩ = some (.int .i64 pn) ∧ w'.cell? ⟨g, 20, none⟩ = some (.int .i64 lo) ∧ w'.cell? ⟨g, 21, none⟩ = some (.int .i64 hi') ∧ Sem.run PD (loadCellsFrom ⟨g, 2, none⟩ 0 k40 #[]) w' = .ok P w' ∧ Sem.run PD (loadCellsFrom ⟨ab, 0, none⟩ 0 k24 #[]) w' = .ok A w') := fun w' hf => by
        obtain ⟨-, d1, d19, d20, d21⟩ := ru_box r hb hR w' g _ (hf.keep hyb')
        rw [hsr] at d1; rw [hpn] at d19; rw [hlo] at d20; rw [hhi] at d21
        exact ⟨hf, d1, d19, d20, d21, load_block (hf.keep hyb') hPk hRP, load_block ((HR.out.trans (hfy.trans hf)).keep HW1.out.2) hAk (fun j v hv => by simpa using hv)⟩
      have HC : Hid (∀ w', Calls Tryz.prog 55 #[.agg P, .agg A] w' fun e w'' => e = .returned (.bool (has r.p c ys)) ∧ Fr No w' w'') := fun w' => by
        rw [← hP', ← HA.out.1]; exact cont_ref r.p.b c r.p.xs ys r.p.n hb HA.out.2 w'
      have HM : Hid (mtA c ys port r = (decide (r.sf = []) && (decide (lo ≤ port) && decide (port ≤ hi')) && has r.p c ys)) := by show _ = _; unfold mtA apl; rw [hlo, hhi]
      have HST := Lib.hid (bN_step (m := mtA c ys port) (k := kA) hr)
      have hkr : kA r = pn := hpn
      rw [HM.out, hkr] at HST
      generalize has r.p c ys = hs at HC HST
      have htwo := bN_two (mtA c ys port) kA L i (by rw [HN.out]; omega)
      have hemp := bs_empty r.sf
      rw [hsr] at hemp
      have HY : Hid (Fr No W1 y) := HR.out.trans hfy
      obtain ⟨bb, hbb⟩ : ∃ bb, bN (mtA c ys port) kA L i = bb := ⟨_, rfl⟩
      rw [hbb] at HST htwo ⊢
      have hS0 := HS.out _ (Fr.drew No y)
      obtain ⟨s0, s1, s2, s3, s4, s5, s6⟩ := HS.out y (Fr.refl _ _)
      have HRC := Lib.hid hrow
      have HFY := Lib.hid hfy
      clear hyb hyb' hyf hfy hr hcell hb hR1 hRs hR hhi hlo hpn hsr hbb hrow l1 hst hRk hRP HM hg hkr hP' hPs s0
      by_cases hsf : r.sf = []
      · rw [decide_eq_true hsf] at hemp HST
        by_cases hl : lo ≤ port
        · have bl := decide_eq_true hl
          by_cases hh : port ≤ hi'
          · have bh := decide_eq_true hh
            cases hs with
            | false =>
              have HE : Hid (bN (mtA c ys port) kA L (i + 1) = bb) := by show _ = _; rw [HST.out]; simp [*]
              clear HST hsf htwo hl hh
              refine wp_region_noPanic ?_
              refine wp_region_held_drew (S := (fun w' : World => Fr No y w' ∧ w'.cell? ⟨g, 1, none⟩ = some (.string sr) ∧ w'.cell? ⟨g, 2 + 17, none⟩ = some (.int .i64 pn) ∧ w'.cell? ⟨g, 20, none⟩ = some (.int .i64 lo) ∧ w'.cell? ⟨g, 21, none⟩ = some (.int .i64 hi') ∧ Sem.run PD (loadCellsFrom ⟨g, 2, none⟩ 0 k40 #[]) w' = .ok P w' ∧ Sem.run PD (loadCellsFrom ⟨ab, 0, none⟩ 0 k24 #[]) w' = .ok A w')) (by kernel_rfl) hS0 (fun hHeld => ?_)
              refine wpAnyH_take (i := 0) (oi := { dst := some 20, op := Op.fieldAddr 31 (Operand.tmp 9) 1, type := 0, pos := "ref.go:506", after := #[], guard := none }) (v := ?v0) rfl (by kernel_rfl) (by kernel_rfl) (by kernel_rfl) (fun _ _ _ h => h) (Or.inl ⟨by rfl, ?hy0⟩) hHeld ?nx0
              case hy0 => (intro w hSw; (try dsimp only at hSw); go_simp; try with_reducible rfl)
              try simp only [Act.put, List.setIfInBounds_toArray, List.set_cons_zero, List.set_cons_succ]
              refine wpAnyH_take (i := 1) (oi := { dst := some 21, op := Op.load 9 (Operand.tmp 20), type := 9, pos := "ref.go:506", after := #[{ on := 0, ground := Ground.data }], guard := none }) (v := ?v1) rfl (by kernel_rfl) (by kernel_rfl) (by kernel_rfl) (fun _ _ _ h => h) (Or.inl ⟨by rfl, ?hy1⟩) hHeld ?nx1
              case hy1 => (intro w hSw; (try dsimp only at hSw); go_simp; try with_reducible rfl)
              try simp only [Act.put, List.setIfInBounds_toArray, List.set_cons_zero, List.set_cons_succ]
              refine wpAnyH_take (i := 2) (oi := { dst := some 22, op := Op.binOp BinOp.eql 9 (Operand.tmp 21) (Operand.const (Value.string { data := #[] })) 9, type := 4, pos := "ref.go:506", after := #[{ on := 1, ground := Ground.data }], guard := none }) (v := ?v2) rfl (by kernel_rfl) (by kernel_rfl) (by kernel_rfl) (fun _ _ _ h => h) (Or.inl ⟨by rfl, ?hy2⟩) hHeld ?nx2
              case hy2 => (intro w hSw; (try dsimp only at hSw); go_simp; try with_reducible rfl)
              try simp only [Act.put, List.setIfInBounds_toArray, List.set_cons_zero, List.set_cons_succ]
              refine wpAnyH_take (i := 3) (oi := { dst := some 23, op := Op.move (Operand.tmp 22), type := 4, pos := "ref.go:506", after := #[{ on := 2, ground := Ground.data }], guard := none }) (v := ?v3) rfl (by kernel_rfl) (by kernel_rfl) (by kernel_rfl) (fun _ _ _ h => h) (Or.inl ⟨by rfl, ?hy3⟩) hHeld ?nx3
              case hy3 => (intro w hSw; (try dsimp only at hSw); go_simp; try with_reducible rfl)
              try simp only [Act.put, List.setIfInBounds_toArray, List.set_cons_zero, List.set_cons_succ]
              refine wpAnyH_take (i := 4) (oi := { dst := some 24, op := Op.move (Operand.tmp 2), type := 3, pos := "ref.go:506", after := #[{ on := 3, ground := Ground.guard }], guard := some (3, true) }) (v := ?v4) rfl (by kernel_rfl) (by kernel_rfl) (by kernel_rfl) (fun _ _ _ h => h) (Or.inl ⟨by rfl, ?hy4⟩) hHeld ?nx4
              case hy4 => (intro w hSw; (try dsimp only at hSw); go_simp; try with_reducible rfl)
              try simp only [Act.put, List.setIfInBounds_toArray, List.set_cons_zero, List.set_cons_succ]
              refine wpAnyH_take (i := 5) (oi := { dst := some 25, op := Op.fieldAddr 31 (Operand.tmp 9) 3, type := 0, pos := "ref.go:506", after := #[{ on := 3, ground := Ground.guard }], guard := some (3, true) }) (v := ?v5) rfl (by kernel_rfl) (by kernel_rfl) (by kernel_rfl) (fun _ _ _ h => h) (Or.inl ⟨by rfl, ?hy5⟩) hHeld ?nx5
              case hy5 => (intro w hSw; (try dsimp only at hSw); go_simp; try with_reducible rfl)
              try simp only [Act.put, List.setIfInBounds_toArray, List.set_cons_zero, List.set_cons_succ]
              refine wpAnyH_take (i := 6) (oi := { dst := some 26, op := Op.load 3 (Operand.tmp 25), type := 3, pos := "ref.go:506", after := #[{ on := 5, ground := Ground.data }, { on := 3, ground := Ground.guard }], guard := some (3, true) }) (v := ?v6) rfl (by kernel_rfl) (by kernel_rfl) (by kernel_rfl) (fun _ _ _ h => h) (Or.inl ⟨by rfl, ?hy6⟩) hHeld ?nx6
              case hy6 => (intro w hSw; (try dsimp only at hSw); go_simp; try with_reducible rfl)
              try simp only [Act.put, List.setIfInBounds_toArray, List.set_cons_zero, List.set_cons_succ]
              refine wpAnyH_take (i := 7) (oi := { dst := some 27, op := Op.binOp BinOp.geq 3 (Operand.tmp 24) (Operand.tmp 26) 3, type := 4, pos := "ref.go:506", after := #[{ on := 4, ground := Ground.data }, { on := 6, ground := Ground.data }, { on := 3, ground := Ground.guard }], guard := some (3, true) }) (v := ?v7) rfl (by kernel_rfl) (by kernel_rfl) (by kernel_rfl) (fun _ _ _ h => h) (Or.inl ⟨by rfl, ?hy7⟩) hHeld ?nx7
              case hy7 => (intro w hSw; (try dsimp only at hSw); go_simp; try with_reducible rfl)
              try simp only [Act.put, List.setIfInBounds_toArray, List.set_cons_zero, List.set_cons_succ]
              refine wpAnyH_take (i := 8) (oi := { dst := some 28, op := Op.pick (Operand.tmp 23) (Operand.tmp 27) (Operand.const (Value.bool false)), type := 4, pos := "ref.go:506", after := #[{ on := 3, ground := Ground.data }, { on := 7, ground := Ground.data }], guard := none }) (v := ?v8) rfl (by kernel_rfl) (by kernel_rfl) (by kernel_rfl) (fun _ _ _ h => h) (Or.inl ⟨by rfl, ?hy8⟩) hHeld ?nx8
              case hy8 => (intro w hSw; (try dsimp only at hSw); go_simp; try with_reducible rfl)
              try simp only [Act.put, List.setIfInBounds_toArray, List.set_cons_zero, List.set_cons_succ]
              refine wpAnyH_take (i := 9) (oi := { dst := some 29, op := Op.move (Operand.tmp 28), type := 4, pos := "ref.go:506", after := #[{ on := 8, ground := Ground.data }, { on := 3, ground := Ground.chain }], guard := none }) (v := ?v9) rfl (by kernel_rfl) (by kernel_rfl) (by kernel_rfl) (fun _ _ _ h => h) (Or.inl ⟨by rfl, ?hy9⟩) hHeld ?nx9
              case hy9 => (intro w hSw; (try dsimp only at hSw); go_simp; try with_reducible rfl)
              try simp only [Act.put, List.setIfInBounds_toArray, List.set_cons_zero, List.set_cons_succ]
              refine wpAnyH_take (i := 10) (oi := { dst := some 30, op := Op.move (Operand.tmp 2), type := 3, pos := "ref.go:506", after := #[{ on := 9, ground := Ground.guard }], guard := some (9, true) }) (v := ?v10) rfl (by kernel_rfl) (by kernel_rfl) (by kernel_rfl) (fun _ _ _ h => h) (Or.inl ⟨by rfl, ?hy10⟩) hHeld ?nx10
              case hy10 => (intro w hSw; (try dsimp only at hSw); go_simp; try with_reducible rfl)
              try simp only [Act.put, List.setIfInBounds_toArray, List.set_cons_zero, List.set_cons_succ]
              refine wpAnyH_take (i := 11) (oi := { dst := some 31, op := Op.fieldAddr 31 (Operand.tmp 9) 4, type := 0, pos := "ref.go:506", after := #[{ on := 9, ground := Ground.guard }], guard := some (9, true) }) (v := ?v11) rfl (by kernel_rfl) (by kernel_rfl) (by kernel_rfl) (fun _ _ _ h => h) (Or.inl ⟨by rfl, ?hy11⟩) hHeld ?nx11
              case hy11 => (intro w hSw; (try dsimp only at hSw); go_simp; try with_reducible rfl)
              try simp only [Act.put, List.setIfInBounds_toArray, List.set_cons_zero, List.set_cons_succ]
              refine wpAnyH_take (i := 12) (oi := { dst := some 32, op := Op.load 3 (Operand.tmp 31), type := 3, pos := "ref.go:506", after := #[{ on := 11, ground := Ground.data }, { on := 9, ground := Ground.guard }], guard := some (9, true) }) (v := ?v12) rfl (by kernel_rfl) (by kernel_rfl) (by kernel_rfl) (fun _ _ _ h => h) (Or.inl ⟨by rfl, ?hy12⟩) hHeld ?nx12
              case hy12 => (intro w hSw; (try dsimp only at hSw); go_simp; try with_reducible rfl)
              try simp only [Act.put, List.setIfInBounds_toArray, List.set_cons_zero, List.set_cons_succ]
              refine wpAnyH_take (i := 13) (oi := { dst := some 33, op := Op.binOp BinOp.leq 3 (Operand.tmp 30) (Operand.tmp 32) 3, type := 4, pos := "ref.go:506", after := #[{ on := 10, ground := Ground.data }, { on := 12, ground := Ground.data }, { on := 9, ground := Ground.guard }], guard := some (9, true) }) (v := ?v13) rfl (by kernel_rfl) (by kernel_rfl) (by kernel_rfl) (fun _ _ _ h => h) (Or.inl ⟨by rfl, ?hy13⟩) hHeld ?nx13
              case hy13 => (intro w hSw; (try dsimp only at hSw); go_simp; try with_reducible rfl)
              try simp only [Act.put, List.setIfInBounds_toArray, List.set_cons_zero, List.set_cons_succ]
              refine wpAnyH_take (i := 14) (oi := { dst := some 34, op := Op.pick (Operand.tmp 29) (Operand.tmp 33) (Operand.const (Value.bool false)), type := 4, pos := "ref.go:506", after := #[{ on := 9, ground := Ground.data }, { on := 13, ground := Ground.data }], guard := none }) (v := ?v14) rfl (by kernel_rfl) (by kernel_rfl) (by kernel_rfl) (fun _ _ _ h => h) (Or.inl ⟨by rfl, ?hy14⟩) hHeld ?nx14
              case hy14 => (intro w hSw; (try dsimp only at hSw); go_simp; try with_reducible rfl)
              try simp only [Act.put, List.setIfInBounds_toArray, List.set_cons_zero, List.set_cons_succ]
              refine wpAnyH_take (i := 15) (oi := { dst := some 35, op := Op.move (Operand.tmp 34), type := 4, pos := "ref.go:506", after := #[{ on := 14, ground := Ground.data }, { on := 9, ground := Ground.chain }], guard := none }) (v := ?v15) rfl (by kernel_rfl) (by kernel_rfl) (by kernel_rfl) (fun _ _ _ h => h) (Or.inl ⟨by rfl, ?hy15⟩) hHeld ?nx15
              case hy15 => (intro w hSw; (try dsimp only at hSw); go_simp; try with_reducible rfl)
              try simp only [Act.put, List.setIfInBounds_toArray, List.set_cons_zero, List.set_cons_succ]
              refine wpAnyH_take (i := 16) (oi := { dst := some 36, op := Op.fieldAddr 31 (Operand.tmp 9) 2, type := 0, pos := "ref.go:506", after := #[{ on := 15, ground := Ground.guard }], guard := some (15, true) }) (v := ?v16) rfl (by kernel_rfl) (by kernel_rfl) (by kernel_rfl) (fun _ _ _ h => h) (Or.inl ⟨by rfl, ?hy16⟩) hHeld ?nx16
              case hy16 => (intro w hSw; (try dsimp only at hSw); go_simp; try with_reducible rfl)
              try simp only [Act.put, List.setIfInBounds_toArray, List.set_cons_zero, List.set_cons_succ]
              refine wpAnyH_take (i := 17) (oi := { dst := some 37, op := Op.load 29 (Operand.tmp 36), type := 29, pos := "ref.go:506", after := #[{ on := 16, ground := Ground.data }, { on := 15, ground := Ground.guard }], guard := some (15, true) }) (v := ?v17) rfl (by kernel_rfl) (by kernel_rfl) (by kernel_rfl) (fun _ _ _ h => h) (Or.inl ⟨by rfl, ?hy17⟩) hHeld ?nx17
              case hy17 => (intro w hSw; (try dsimp only at hSw); go_simp; try with_reducible rfl)
              try simp only [Act.put, List.setIfInBounds_toArray, List.set_cons_zero, List.set_cons_succ]
              refine wpAnyH_take (i := 18) (oi := { dst := some 38, op := Op.load 25 (Operand.tmp 4), type := 25, pos := "ref.go:506", after := #[{ on := 15, ground := Ground.guard }], guard := some (15, true) }) (v := ?v18) rfl (by kernel_rfl) (by kernel_rfl) (by kernel_rfl) (fun _ _ _ h => h) (Or.inl ⟨by rfl, ?hy18⟩) hHeld ?nx18
              case hy18 => (intro w hSw; (try dsimp only at hSw); go_simp; try with_reducible rfl)
              try simp only [Act.put, List.setIfInBounds_toArray, List.set_cons_zero, List.set_cons_succ]
              refine wpAnyH_ready (rs := [19]) (by kernel_rfl) (by simp) ?_
              refine AllReadyH.cons (o := { dst := some 39, op := Op.call { callee := Callee.value (Operand.func 55), args := #[Operand.tmp 37, Operand.tmp 38], argTypes := #[29, 25] }, type := 4, pos := "ref.go:506", after := #[{ on := 17, ground := Ground.data }, { on := 18, ground := Ground.data }, { on := 15, ground := Ground.chain }, { on := 15, ground := Ground.guard }], guard := some (15, true) }) rfl (fun K hK => ?_) AllReadyH.nil
              go_simp
              go_at_call 55
              refine (at_prog HP.out (HC.out _)).mono ?_
              rintro e w3 ⟨rfl, hf3⟩
              have K3 : Fr No y w3 := (Fr.drew No y).trans hf3
              have hS := HS.out _ K3
              refine hK.out _ _ hS (fun hH2 => ?_)
              clear hK K hHeld
              have hHeld := hH2
              clear hH2 hS
              try simp only [Act.put, List.setIfInBounds_toArray, List.set_cons_zero, List.set_cons_succ]
              refine wpAnyH_take (i := 20) (oi := { dst := some 40, op := Op.pick (Operand.tmp 35) (Operand.tmp 39) (Operand.const (Value.bool false)), type := 4, pos := "ref.go:506", after := #[{ on := 15, ground := Ground.data }, { on := 19, ground := Ground.data }], guard := none }) (v := ?v20) rfl (by kernel_rfl) (by kernel_rfl) (by kernel_rfl) (fun _ _ _ h => h) (Or.inl ⟨by rfl, ?hy20⟩) hHeld ?nx20
              case hy20 => (intro w hSw; (try dsimp only at hSw); go_simp; try with_reducible rfl)
              try simp only [Act.put, List.setIfInBounds_toArray, List.set_cons_zero, List.set_cons_succ]
              refine wpAnyH_take (i := 21) (oi := { dst := some 41, op := Op.move (Operand.tmp 40), type := 4, pos := "ref.go:506", after := #[{ on := 20, ground := Ground.data }, { on := 19, ground := Ground.chain }], guard := none }) (v := ?v21) rfl (by kernel_rfl) (by kernel_rfl) (by kernel_rfl) (fun _ _ _ h => h) (Or.inl ⟨by rfl, ?hy21⟩) hHeld ?nx21
              case hy21 => (intro w hSw; (try dsimp only at hSw); go_simp; try with_reducible rfl)
              try simp only [Act.put, List.setIfInBounds_toArray, List.set_cons_zero, List.set_cons_succ]
              refine wpAnyH_take (i := 22) (oi := { dst := some 42, op := Op.move (Operand.tmp 7), type := 3, pos := "ref.go:506", after := #[{ on := 21, ground := Ground.guard }], guard := some (21, true) }) (v := undef) rfl (by kernel_rfl) (by kernel_rfl) (by kernel_rfl) (fun _ _ _ h => h) (Or.inr ⟨by rfl, rfl⟩) hHeld ?nx22
              try simp only [Act.put, List.setIfInBounds_toArray, List.set_cons_zero, List.set_cons_succ]
              refine wpAnyH_take (i := 23) (oi := { dst := some 43, op := Op.binOp BinOp.lss 3 (Operand.tmp 42) (Operand.const (Value.int IntKind.i64 0)) 3, type := 4, pos := "ref.go:506", after := #[{ on := 22, ground := Ground.data }, { on := 21, ground := Ground.guard }], guard := some (21, true) }) (v := undef) rfl (by kernel_rfl) (by kernel_rfl) (by kernel_rfl) (fun _ _ _ h => h) (Or.inr ⟨by rfl, rfl⟩) hHeld ?nx23
              try simp only [Act.put, List.setIfInBounds_toArray, List.set_cons_zero, List.set_cons_succ]
              refine wpAnyH_take (i := 24) (oi := { dst := some 44, op := Op.move (Operand.tmp 43), type := 4, pos := "ref.go:506", after := #[{ on := 23, ground := Ground.data }, { on := 21, ground := Ground.chain }, { on := 21, ground := Ground.guard }], guard := some (21, true) }) (v := undef) rfl (by kernel_rfl) (by kernel_rfl) (by kernel_rfl) (fun _ _ _ h => h) (Or.inr ⟨by rfl, rfl⟩) hHeld ?nx24
              try simp only [Act.put, List.setIfInBounds_toArray, List.set_cons_zero, List.set_cons_succ]
              refine wpAnyH_take (i := 25) (oi := { dst := some 45, op := Op.fieldAddr 31 (Operand.tmp 9) 2, type := 0, pos := "ref.go:506", after := #[{ on := 24, ground := Ground.guard }], guard := some (24, false) }) (v := undef) rfl (by kernel_rfl) (by kernel_rfl) (by kernel_rfl) (fun _ _ _ h => h) (Or.inr ⟨by rfl, rfl⟩) hHeld ?nx25
              try simp only [Act.put, List.setIfInBounds_toArray, List.set_cons_zero, List.set_cons_succ]
              refine wpAnyH_take (i := 26) (oi := { dst := some 46, op := Op.fieldAddr 29 (Operand.tmp 45) 1, type := 0, pos := "ref.go:506", after := #[{ on := 25, ground := Ground.data }, { on := 24, ground := Ground.guard }], guard := some (24, false) }) (v := undef) rfl (by kernel_rfl) (by kernel_rfl) (by kernel_rfl) (fun _ _ _ h => h) (Or.inr ⟨by rfl, rfl⟩) hHeld ?nx26
              try simp only [Act.put, List.setIfInBounds_toArray, List.set_cons_zero, List.set_cons_succ]
              refine wpAnyH_take (i := 27) (oi := { dst := some 47, op := Op.load 3 (Operand.tmp 46), type := 3, pos := "ref.go:506", after := #[{ on := 26, ground := Ground.data }, { on := 24, ground := Ground.guard }], guard := some (24, false) }) (v := undef) rfl (by kernel_rfl) (by kernel_rfl) (by kernel_rfl) (fun _ _ _ h => h) (Or.inr ⟨by rfl, rfl⟩) hHeld ?nx27
              try simp only [Act.put, List.setIfInBounds_toArray, List.set_cons_zero, List.set_cons_succ]
              refine wpAnyH_take (i := 28) (oi := { dst := some 48, op := Op.move (Operand.tmp 0), type := 22, pos := "ref.go:506", after := #[{ on := 24, ground := Ground.guard }], guard := some (24, false) }) (v := undef) rfl (by kernel_rfl) (by kernel_rfl) (by kernel_rfl) (fun _ _ _ h => h) (Or.inr ⟨by rfl, rfl⟩) hHeld ?nx28
              try simp only [Act.put, List.setIfInBounds_toArray, List.set_cons_zero, List.set_cons_succ]
              refine wpAnyH_take (i := 29) (oi := { dst := some 49, op := Op.move (Operand.tmp 7), type := 3, pos := "ref.go:506", after := #[{ on := 24, ground := Ground.guard }], guard := some (24, false) }) (v := undef) rfl (by kernel_rfl) (by kernel_rfl) (by kernel_rfl) (fun _ _ _ h => h) (Or.inr ⟨by rfl, rfl⟩) hHeld ?nx29
              try simp only [Act.put, List.setIfInBounds_toArray, List.set_cons_zero, List.set_cons_succ]
              refine wpAnyH_take (i := 30) (oi := { dst := some 50, op := Op.indexAddr 22 (Operand.tmp 48) (Operand.tmp 49), type := 0, pos := "ref.go:506", after := #[{ on := 28, ground := Ground.data }, { on := 29, ground := Ground.data }, { on := 24, ground := Ground.guard }], guard := some (24, false) }) (v := undef) rfl (by kernel_rfl) (by kernel_rfl) (by kernel_rfl) (fun _ _ _ h => h) (Or.inr ⟨by rfl, rfl⟩) hHeld ?nx30
              try simp only [Act.put, List.setIfInBounds_toArray, List.set_cons_zero, List.set_cons_succ]
              refine wpAnyH_take (i := 31) (oi := { dst := some 51, op := Op.fieldAddr 31 (Operand.tmp 50) 2, type := 0, pos := "ref.go:506", after := #[{ on := 30, ground := Ground.data }, { on := 24, ground := Ground.guard }], guard := some (24, false) }) (v := undef) rfl (by kernel_rfl) (by kernel_rfl) (by kernel_rfl) (fun _ _ _ h => h) (Or.inr ⟨by rfl, rfl⟩) hHeld ?nx31
              try simp only [Act.put, List.setIfInBounds_toArray, List.set_cons_zero, List.set_cons_succ]
              refine wpAnyH_take (i := 32) (oi := { dst := some 52, op := Op.fieldAddr 29 (Operand.tmp 51) 1, type := 0, pos := "ref.go:506", after := #[{ on := 31, ground := Ground.data }, { on := 24, ground := Ground.guard }], guard := some (24, false) }) (v := undef) rfl (by kernel_rfl) (by kernel_rfl) (by kernel_rfl) (fun _ _ _ h => h) (Or.inr ⟨by rfl, rfl⟩) hHeld ?nx32
              try simp only [Act.put, List.setIfInBounds_toArray, List.set_cons_zero, List.set_cons_succ]
              refine wpAnyH_take (i := 33) (oi := { dst := some 53, op := Op.load 3 (Operand.tmp 52), type := 3, pos := "ref.go:506", after := #[{ on := 32, ground := Ground.data }, { on := 24, ground := Ground.guard }], guard := some (24, false) }) (v := undef) rfl (by kernel_rfl) (by kernel_rfl) (by kernel_rfl) (fun _ _ _ h => h) (Or.inr ⟨by rfl, rfl⟩) hHeld ?nx33
              try simp only [Act.put, List.setIfInBounds_toArray, List.set_cons_zero, List.set_cons_succ]
              refine wpAnyH_take (i := 34) (oi := { dst := some 54, op := Op.binOp BinOp.gtr 3 (Operand.tmp 47) (Operand.tmp 53) 3, type := 4, pos := "ref.go:506", after := #[{ on := 27, ground := Ground.data }, { on := 33, ground := Ground.data }, { on := 24, ground := Ground.guard }], guard := some (24, false) }) (v := undef) rfl (by kernel_rfl) (by kernel_rfl) (by kernel_rfl) (fun _ _ _ h => h) (Or.inr ⟨by rfl, rfl⟩) hHeld ?nx34
              try simp only [Act.put, List.setIfInBounds_toArray, List.set_cons_zero, List.set_cons_succ]
              refine wpAnyH_take (i := 35) (oi := { dst := some 55, op := Op.pick (Operand.tmp 44) (Operand.const (Value.bool true)) (Operand.tmp 54), type := 4, pos := "ref.go:506", after := #[{ on := 24, ground := Ground.data }, { on := 34, ground := Ground.data }, { on := 21, ground := Ground.guard }], guard := some (21, true) }) (v := undef) rfl (by kernel_rfl) (by kernel_rfl) (by kernel_rfl) (fun _ _ _ h => h) (Or.inr ⟨by rfl, rfl⟩) hHeld ?nx35
              try simp only [Act.put, List.setIfInBounds_toArray, List.set_cons_zero, List.set_cons_succ]
              refine wpAnyH_take (i := 36) (oi := { dst := some 56, op := Op.pick (Operand.tmp 41) (Operand.tmp 55) (Operand.const (Value.bool false)), type := 4, pos := "ref.go:506", after := #[{ on := 21, ground := Ground.data }, { on := 35, ground := Ground.data }], guard := none }) (v := ?v36) rfl (by kernel_rfl) (by kernel_rfl) (by kernel_rfl) (fun _ _ _ h => h) (Or.inl ⟨by rfl, ?hy36⟩) hHeld ?nx36
              case hy36 => (intro w hSw; (try dsimp only at hSw); go_simp; try with_reducible rfl)
              try simp only [Act.put, List.setIfInBounds_toArray, List.set_cons_zero, List.set_cons_succ]
              refine wpAnyH_done (by kernel_rfl) ?_ _
              refine NoPanic.normal ?_
              go_wp2_with fail
              go_roundg (n - i)
              case measure => exact hig
              case rel => exact ⟨i + 1, by go_num, by rw [HE.out], by omega, by omega, HY.out.trans K3⟩
            | true =>
              rcases htwo with rfl | ⟨t, q, rfl, htl, hq, -⟩
              · have HE : Hid (bN (mtA c ys port) kA L (i + 1) = (i : Int)) := by show _ = _; rw [HST.out]; simp [*]
                clear HST hsf hl hh
                refine wp_region_noPanic ?_
                refine wp_region_held_drew (S := (fun w' : World => Fr No y w' ∧ w'.cell? ⟨g, 1, none⟩ = some (.string sr) ∧ w'.cell? ⟨g, 2 + 17, none⟩ = some (.int .i64 pn) ∧ w'.cell? ⟨g, 20, none⟩ = some (.int .i64 lo) ∧ w'.cell? ⟨g, 21, none⟩ = some (.int .i64 hi') ∧ Sem.run PD (loadCellsFrom ⟨g, 2, none⟩ 0 k40 #[]) w' = .ok P w' ∧ Sem.run PD (loadCellsFrom ⟨ab, 0, none⟩ 0 k24 #[]) w' = .ok A w')) (by kernel_rfl) hS0 (fun hHeld => ?_)
                refine wpAnyH_take (i := 0) (oi := { dst := some 20, op := Op.fieldAddr 31 (Operand.tmp 9) 1, type := 0, pos := "ref.go:506", after := #[], guard := none }) (v := ?v0b) rfl (by kernel_rfl) (by kernel_rfl) (by kernel_rfl) (fun _ _ _ h => h) (Or.inl ⟨by rfl, ?hy0b⟩) hHeld ?nx0b
                case hy0b => (intro w hSw; (try dsimp only at hSw); go_simp; try with_reducible rfl)
                try simp only [Act.put, List.setIfInBounds_toArray, List.set_cons_zero, List.set_cons_succ]
                refine wpAnyH_take (i := 1) (oi := { dst := some 21, op := Op.load 9 (Operand.tmp 20), type := 9, pos := "ref.go:506", after := #[{ on := 0, ground := Ground.data }], guard := none }) (v := ?v1b) rfl (by kernel_rfl) (by kernel_rfl) (by kernel_rfl) (fun _ _ _ h => h) (Or.inl ⟨by rfl, ?hy1b⟩) hHeld ?nx1b
                case hy1b => (intro w hSw; (try dsimp only at hSw); go_simp; try with_reducible rfl)
                try simp only [Act.put, List.setIfInBounds_toArray, List.set_cons_zero, List.set_cons_succ]
                refine wpAnyH_take (i := 2) (oi := { dst := some 22, op := Op.binOp BinOp.eql 9 (Operand.tmp 21) (Operand.const (Value.string { data := #[] })) 9, type := 4, pos := "ref.go:506", after := #[{ on := 1, ground := Ground.data }], guard := none }) (v := ?v2b) rfl (by kernel_rfl) (by kernel_rfl) (by kernel_rfl) (fun _ _ _ h => h) (Or.inl ⟨by rfl, ?hy2b⟩) hHeld ?nx2b
                case hy2b => (intro w hSw; (try dsimp only at hSw); go_simp; try with_reducible rfl)
                try simp only [Act.put, List.setIfInBounds_toArray, List.set_cons_zero, List.set_cons_succ]
                refine wpAnyH_take (i := 3) (oi := { dst := some 23, op := Op.move (Operand.tmp 22), type := 4, pos := "ref.go:506", after := #[{ on := 2, ground := Ground.data }], guard := none }) (v := ?v3b) rfl (by kernel_rfl) (by kernel_rfl) (by kernel_rfl) (fun _ _ _ h => h) (Or.inl ⟨by rfl, ?hy3b⟩) hHeld ?nx3b
                case hy3b => (intro w hSw; (try dsimp only at hSw); go_simp; try with_reducible rfl)
                try simp only [Act.put, List.setIfInBounds_toArray, List.set_cons_zero, List.set_cons_succ]
                refine wpAnyH_take (i := 4) (oi := { dst := some 24, op := Op.move (Operand.tmp 2), type := 3, pos := "ref.go:506", after := #[{ on := 3, ground := Ground.guard }], guard := some (3, true) }) (v := ?v4b) rfl (by kernel_rfl) (by kernel_rfl) (by kernel_rfl) (fun _ _ _ h => h) (Or.inl ⟨by rfl, ?hy4b⟩) hHeld ?nx4b
                case hy4b => (intro w hSw; (try dsimp only at hSw); go_simp; try with_reducible rfl)
                try simp only [Act.put, List.setIfInBounds_toArray, List.set_cons_zero, List.set_cons_succ]
                refine wpAnyH_take (i := 5) (oi := { dst := some 25, op := Op.fieldAddr 31 (Operand.tmp 9) 3, type := 0, pos := "ref.go:506", after := #[{ on := 3, ground := Ground.guard }], guard := some (3, true) }) (v := ?v5b) rfl (by kernel_rfl) (by kernel_rfl) (by kernel_rfl) (fun _ _ _ h => h) (Or.inl ⟨by rfl, ?hy5b⟩) hHeld ?nx5b
                case hy5b => (intro w hSw; (try dsimp only at hSw); go_simp; try with_reducible rfl)
                try simp only [Act.put, List.setIfInBounds_toArray, List.set_cons_zero, List.set_cons_succ]
                refine wpAnyH_take (i := 6) (oi := { dst := some 26, op := Op.load 3 (Operand.tmp 25), type := 3, pos := "ref.go:506", after := #[{ on := 5, ground := Ground.data }, { on := 3, ground := Ground.guard }], guard := some (3, true) }) (v := ?v6b) rfl (by kernel_rfl) (by kernel_rfl) (by kernel_rfl) (fun _ _ _ h => h) (Or.inl ⟨by rfl, ?hy6b⟩) hHeld ?nx6b
                case hy6b => (intro w hSw; (try dsimp only at hSw); go_simp; try with_reducible rfl)
                try simp only [Act.put, List.setIfInBounds_toArray, List.set_cons_zero, List.set_cons_succ]
                refine wpAnyH_take (i := 7) (oi := { dst := some 27, op := Op.binOp BinOp.geq 3 (Operand.tmp 24) (Operand.tmp 26) 3, type := 4, pos := "ref.go:506", after := #[{ on := 4, ground := Ground.data }, { on := 6, ground := Ground.data }, { on := 3, ground := Ground.guard }], guard := some (3, true) }) (v := ?v7b) rfl (by kernel_rfl) (by kernel_rfl) (by kernel_rfl) (fun _ _ _ h => h) (Or.inl ⟨by rfl, ?hy7b⟩) hHeld ?nx7b
                case hy7b => (intro w hSw; (try dsimp only at hSw); go_simp; try with_reducible rfl)
                try simp only [Act.put, List.setIfInBounds_toArray, List.set_cons_zero, List.set_cons_succ]
                refine wpAnyH_take (i := 8) (oi := { dst := some 28, op := Op.pick (Operand.tmp 23) (Operand.tmp 27) (Operand.const (Value.bool false)), type := 4, pos := "ref.go:506", after := #[{ on := 3, ground := Ground.data }, { on := 7, ground := Ground.data }], guard := none }) (v := ?v8b) rfl (by kernel_rfl) (by kernel_rfl) (by kernel_rfl) (fun _ _ _ h => h) (Or.inl ⟨by rfl, ?hy8b⟩) hHeld ?nx8b
                case hy8b => (intro w hSw; (try dsimp only at hSw); go_simp; try with_reducible rfl)
                try simp only [Act.put, List.setIfInBounds_toArray, List.set_cons_zero, List.set_cons_succ]
                refine wpAnyH_take (i := 9) (oi := { dst := some 29, op := Op.move (Operand.tmp 28), type := 4, pos := "ref.go:506", after := #[{ on := 8, ground := Ground.data }, { on := 3, ground := Ground.chain }], guard := none }) (v := ?v9b) rfl (by kernel_rfl) (by kernel_rfl) (by kernel_rfl) (fun _ _ _ h => h) (Or.inl ⟨by rfl, ?hy9b⟩) hHeld ?nx9b
                case hy9b => (intro w hSw; (try dsimp only at hSw); go_simp; try with_reducible rfl)
                try simp only [Act.put, List.setIfInBounds_toArray, List.set_cons_zero, List.set_cons_succ]
                refine wpAnyH_take (i := 10) (oi := { dst := some 30, op := Op.move (Operand.tmp 2), type := 3, pos := "ref.go:506", after := #[{ on := 9, ground := Ground.guard }], guard := some (9, true) }) (v := ?v10b) rfl (by kernel_rfl) (by kernel_rfl) (by kernel_rfl) (fun _ _ _ h => h) (Or.inl ⟨by rfl, ?hy10b⟩) hHeld ?nx10b
                case hy10b => (intro w hSw; (try dsimp only at hSw); go_simp; try with_reducible rfl)
                try simp only [Act.put, List.setIfInBounds_toArray, List.set_cons_zero, List.set_cons_succ]
                refine wpAnyH_take (i := 11) (oi := { dst := some 31, op := Op.fieldAddr 31 (Operand.tmp 9) 4, type := 0, pos := "ref.go:506", after := #[{ on := 9, ground := Ground.guard }], guard := some (9, true) }) (v := ?v11b) rfl (by kernel_rfl) (by kernel_rfl) (by kernel_rfl) (fun _ _ _ h => h) (Or.inl ⟨by rfl, ?hy11b⟩) hHeld ?nx11b
                case hy11b => (intro w hSw; (try dsimp only at hSw); go_simp; try with_reducible rfl)
                try simp only [Act.put, List.setIfInBounds_toArray, List.set_cons_zero, List.set_cons_succ]
                refine wpAnyH_take (i := 12) (oi := { dst := some 32, op := Op.load 3 (Operand.tmp 31), type := 3, pos := "ref.go:506", after := #[{ on := 11, ground := Ground.data }, { on := 9, ground := Ground.guard }], guard := some (9, true) }) (v := ?v12b) rfl (by kernel_rfl) (by kernel_rfl) (by kernel_rfl) (fun _ _ _ h => h) (Or.inl ⟨by rfl, ?hy12b⟩) hHeld ?nx12b
                case hy12b => (intro w hSw; (try dsimp only at hSw); go_simp; try with_reducible rfl)
                try simp only [Act.put, List.setIfInBounds_toArray, List.set_cons_zero, List.set_cons_succ]
                refine wpAnyH_take (i := 13) (oi := { dst := some 33, op := Op.binOp BinOp.leq 3 (Operand.tmp 30) (Operand.tmp 32) 3, type := 4, pos := "ref.go:506", after := #[{ on := 10, ground := Ground.data }, { on := 12, ground := Ground.data }, { on := 9, ground := Ground.guard }], guard := some (9, true) }) (v := ?v13b) rfl (by kernel_rfl) (by kernel_rfl) (by kernel_rfl) (fun _ _ _ h => h) (Or.inl ⟨by rfl, ?hy13b⟩) hHeld ?nx13b
                case hy13b => (intro w hSw; (try dsimp only at hSw); go_simp; try with_reducible rfl)
                try simp only [Act.put, List.setIfInBounds_toArray, List.set_cons_zero, List.set_cons_succ]
                refine wpAnyH_take (i := 14) (oi := { dst := some 34, op := Op.pick (Operand.tmp 29) (Operand.tmp 33) (Operand.const (Value.bool false)), type := 4, pos := "ref.go:506", after := #[{ on := 9, ground := Ground.data }, { on := 13, ground := Ground.data }], guard := none }) (v := ?v14b) rfl (by kernel_rfl) (by kernel_rfl) (by kernel_rfl) (fun _ _ _ h => h) (Or.inl ⟨by rfl, ?hy14b⟩) hHeld ?nx14b
                case hy14b => (intro w hSw; (try dsimp only at hSw); go_simp; try with_reducible rfl)
                try simp only [Act.put, List.setIfInBounds_toArray, List.set_cons_zero, List.set_cons_succ]
                refine wpAnyH_take (i := 15) (oi := { dst := some 35, op := Op.move (Operand.tmp 34), type := 4, pos := "ref.go:506", after := #[{ on := 14, ground := Ground.data }, { on := 9, ground := Ground.chain }], guard := none }) (v := ?v15b) rfl (by kernel_rfl) (by kernel_rfl) (by kernel_rfl) (fun _ _ _ h => h) (Or.inl ⟨by rfl, ?hy15b⟩) hHeld ?nx15b
                case hy15b => (intro w hSw; (try dsimp only at hSw); go_simp; try with_reducible rfl)
                try simp only [Act.put, List.setIfInBounds_toArray, List.set_cons_zero, List.set_cons_succ]
                refine wpAnyH_take (i := 16) (oi := { dst := some 36, op := Op.fieldAddr 31 (Operand.tmp 9) 2, type := 0, pos := "ref.go:506", after := #[{ on := 15, ground := Ground.guard }], guard := some (15, true) }) (v := ?v16b) rfl (by kernel_rfl) (by kernel_rfl) (by kernel_rfl) (fun _ _ _ h => h) (Or.inl ⟨by rfl, ?hy16b⟩) hHeld ?nx16b
                case hy16b => (intro w hSw; (try dsimp only at hSw); go_simp; try with_reducible rfl)
                try simp only [Act.put, List.setIfInBounds_toArray, List.set_cons_zero, List.set_cons_succ]
                refine wpAnyH_take (i := 17) (oi := { dst := some 37, op := Op.load 29 (Operand.tmp 36), type := 29, pos := "ref.go:506", after := #[{ on := 16, ground := Ground.data }, { on := 15, ground := Ground.guard }], guard := some (15, true) }) (v := ?v17b) rfl (by kernel_rfl) (by kernel_rfl) (by kernel_rfl) (fun _ _ _ h => h) (Or.inl ⟨by rfl, ?hy17b⟩) hHeld ?nx17b
                case hy17b => (intro w hSw; (try dsimp only at hSw); go_simp; try with_reducible rfl)
                try simp only [Act.put, List.setIfInBounds_toArray, List.set_cons_zero, List.set_cons_succ]
                refine wpAnyH_take (i := 18) (oi := { dst := some 38, op := Op.load 25 (Operand.tmp 4), type := 25, pos := "ref.go:506", after := #[{ on := 15, ground := Ground.guard }], guard := some (15, true) }) (v := ?v18b) rfl (by kernel_rfl) (by kernel_rfl) (by kernel_rfl) (fun _ _ _ h => h) (Or.inl ⟨by rfl, ?hy18b⟩) hHeld ?nx18b
                case hy18b => (intro w hSw; (try dsimp only at hSw); go_simp; try with_reducible rfl)
                try simp only [Act.put, List.setIfInBounds_toArray, List.set_cons_zero, List.set_cons_succ]
                refine wpAnyH_ready (rs := [19]) (by kernel_rfl) (by simp) ?_
                refine AllReadyH.cons (o := { dst := some 39, op := Op.call { callee := Callee.value (Operand.func 55), args := #[Operand.tmp 37, Operand.tmp 38], argTypes := #[29, 25] }, type := 4, pos := "ref.go:506", after := #[{ on := 17, ground := Ground.data }, { on := 18, ground := Ground.data }, { on := 15, ground := Ground.chain }, { on := 15, ground := Ground.guard }], guard := some (15, true) }) rfl (fun K hK => ?_) AllReadyH.nil
                go_simp
                go_at_call 55
                refine (at_prog HP.out (HC.out _)).mono ?_
                rintro e w3 ⟨rfl, hf3⟩
                have K3 : Fr No y w3 := (Fr.drew No y).trans hf3
                have hS := HS.out _ K3
                refine hK.out _ _ hS (fun hH2 => ?_)
                clear hK K hHeld
                have hHeld := hH2
                clear hH2 hS
                try simp only [Act.put, List.setIfInBounds_toArray, List.set_cons_zero, List.set_cons_succ]
                refine wpAnyH_take (i := 20) (oi := { dst := some 40, op := Op.pick (Operand.tmp 35) (Operand.tmp 39) (Operand.const (Value.bool false)), type := 4, pos := "ref.go:506", after := #[{ on := 15, ground := Ground.data }, { on := 19, ground := Ground.data }], guard := none }) (v := ?v20b) rfl (by kernel_rfl) (by kernel_rfl) (by kernel_rfl) (fun _ _ _ h => h) (Or.inl ⟨by rfl, ?hy20b⟩) hHeld ?nx20b
                case hy20b => (intro w hSw; (try dsimp only at hSw); go_simp; try with_reducible rfl)
                try simp only [Act.put, List.setIfInBounds_toArray, List.set_cons_zero, List.set_cons_succ]
                refine wpAnyH_take (i := 21) (oi := { dst := some 41, op := Op.move (Operand.tmp 40), type := 4, pos := "ref.go:506", after := #[{ on := 20, ground := Ground.data }, { on := 19, ground := Ground.chain }], guard := none }) (v := ?v21b) rfl (by kernel_rfl) (by kernel_rfl) (by kernel_rfl) (fun _ _ _ h => h) (Or.inl ⟨by rfl, ?hy21b⟩) hHeld ?nx21b
                case hy21b => (intro w hSw; (try dsimp only at hSw); go_simp; try with_reducible rfl)
                try simp only [Act.put, List.setIfInBounds_toArray, List.set_cons_zero, List.set_cons_succ]
                refine wpAnyH_take (i := 22) (oi := { dst := some 42, op := Op.move (Operand.tmp 7), type := 3, pos := "ref.go:506", after := #[{ on := 21, ground := Ground.guard }], guard := some (21, true) }) (v := ?v22b) rfl (by kernel_rfl) (by kernel_rfl) (by kernel_rfl) (fun _ _ _ h => h) (Or.inl ⟨by rfl, ?hy22b⟩) hHeld ?nx22b
                case hy22b => (intro w hSw; (try dsimp only at hSw); go_simp; try with_reducible rfl)
                try simp only [Act.put, List.setIfInBounds_toArray, List.set_cons_zero, List.set_cons_succ]
                refine wpAnyH_take (i := 23) (oi := { dst := some 43, op := Op.binOp BinOp.lss 3 (Operand.tmp 42) (Operand.const (Value.int IntKind.i64 0)) 3, type := 4, pos := "ref.go:506", after := #[{ on := 22, ground := Ground.data }, { on := 21, ground := Ground.guard }], guard := some (21, true) }) (v := ?v23b) rfl (by kernel_rfl) (by kernel_rfl) (by kernel_rfl) (fun _ _ _ h => h) (Or.inl ⟨by rfl, ?hy23b⟩) hHeld ?nx23b
                case hy23b => (intro w hSw; (try dsimp only at hSw); go_simp; try with_reducible rfl)
                try simp only [Act.put, List.setIfInBounds_toArray, List.set_cons_zero, List.set_cons_succ]
                refine wpAnyH_take (i := 24) (oi := { dst := some 44, op := Op.move (Operand.tmp 43), type := 4, pos := "ref.go:506", after := #[{ on := 23, ground := Ground.data }, { on := 21, ground := Ground.chain }, { on := 21, ground := Ground.guard }], guard := some (21, true) }) (v := ?v24b) rfl (by kernel_rfl) (by kernel_rfl) (by kernel_rfl) (fun _ _ _ h => h) (Or.inl ⟨by rfl, ?hy24b⟩) hHeld ?nx24b
                case hy24b => (intro w hSw; (try dsimp only at hSw); go_simp; try with_reducible rfl)
                try simp only [Act.put, List.setIfInBounds_toArray, List.set_cons_zero, List.set_cons_succ]
                refine wpAnyH_take (i := 25) (oi := { dst := some 45, op := Op.fieldAddr 31 (Operand.tmp 9) 2, type := 0, pos := "ref.go:506", after := #[{ on := 24, ground := Ground.guard }], guard := some (24, false) }) (v := undef) rfl (by kernel_rfl) (by kernel_rfl) (by kernel_rfl) (fun _ _ _ h => h) (Or.inr ⟨by rfl, rfl⟩) hHeld ?nx25b
                try simp only [Act.put, List.setIfInBounds_toArray, List.set_cons_zero, List.set_cons_succ]
                refine wpAnyH_take (i := 26) (oi := { dst := some 46, op := Op.fieldAddr 29 (Operand.tmp 45) 1, type := 0, pos := "ref.go:506", after := #[{ on := 25, ground := Ground.data }, { on := 24, ground := Ground.guard }], guard := some (24, false) }) (v := undef) rfl (by kernel_rfl) (by kernel_rfl) (by kernel_rfl) (fun _ _ _ h => h) (Or.inr ⟨by rfl, rfl⟩) hHeld ?nx26b
                try simp only [Act.put, List.setIfInBounds_toArray, List.set_cons_zero, List.set_cons_succ]
                refine wpAnyH_take (i := 27) (oi := { dst := some 47, op := Op.load 3 (Operand.tmp 46), type := 3, pos := "ref.go:506", after := #[{ on := 26, ground := Ground.data }, { on := 24, ground := Ground.guard }], guard := some (24, false) }) (v := undef) rfl (by kernel_rfl) (by kernel_rfl) (by kernel_rfl) (fun _ _ _ h => h) (Or.inr ⟨by rfl, rfl⟩) hHeld ?nx27b
                try simp only [Act.put, List.setIfInBounds_toArray, List.set_cons_zero, List.set_cons_succ]
                refine wpAnyH_take (i := 28) (oi := { dst := some 48, op := Op.move (Operand.tmp 0), type := 22, pos := "ref.go:506", after := #[{ on := 24, ground := Ground.guard }], guard := some (24, false) }) (v := undef) rfl (by kernel_rfl) (by kernel_rfl) (by kernel_rfl) (fun _ _ _ h => h) (Or.inr ⟨by rfl, rfl⟩) hHeld ?nx28b
                try simp only [Act.put, List.setIfInBounds_toArray, List.set_cons_zero, List.set_cons_succ]
                refine wpAnyH_take (i := 29) (oi := { dst := some 49, op := Op.move (Operand.tmp 7), type := 3, pos := "ref.go:506", after := #[{ on := 24, ground := Ground.guard }], guard := some (24, false) }) (v := undef) rfl (by kernel_rfl) (by kernel_rfl) (by kernel_rfl) (fun _ _ _ h => h) (Or.inr ⟨by rfl, rfl⟩) hHeld ?nx29b
                try simp only [Act.put, List.setIfInBounds_toArray, List.set_cons_zero, List.set_cons_succ]
                refine wpAnyH_take (i := 30) (oi := { dst := some 50, op := Op.indexAddr 22 (Operand.tmp 48) (Operand.tmp 49), type := 0, pos := "ref.go:506", after := #[{ on := 28, ground := Ground.data }, { on := 29, ground := Ground.data }, { on := 24, ground := Ground.guard }], guard := some (24, false) }) (v := undef) rfl (by kernel_rfl) (by kernel_rfl) (by kernel_rfl) (fun _ _ _ h => h) (Or.inr ⟨by rfl, rfl⟩) hHeld ?nx30b
                try simp only [Act.put, List.setIfInBounds_toArray, List.set_cons_zero, List.set_cons_succ]
                refine wpAnyH_take (i := 31) (oi := { dst := some 51, op := Op.fieldAddr 31 (Operand.tmp 50) 2, type := 0, pos := "ref.go:506", after := #[{ on := 30, ground := Ground.data }, { on := 24, ground := Ground.guard }], guard := some (24, false) }) (v := undef) rfl (by kernel_rfl) (by kernel_rfl) (by kernel_rfl) (fun _ _ _ h => h) (Or.inr ⟨by rfl, rfl⟩) hHeld ?nx31b
                try simp only [Act.put, List.setIfInBounds_toArray, List.set_cons_zero, List.set_cons_succ]
                refine wpAnyH_take (i := 32) (oi := { dst := some 52, op := Op.fieldAddr 29 (Operand.tmp 51) 1, type := 0, pos := "ref.go:506", after := #[{ on := 31, ground := Ground.data }, { on := 24, ground := Ground.guard }], guard := some (24, false) }) (v := undef) rfl (by kernel_rfl) (by kernel_rfl) (by kernel_rfl) (fun _ _ _ h => h) (Or.inr ⟨by rfl, rfl⟩) hHeld ?nx32b
                try simp only [Act.put, List.setIfInBounds_toArray, List.set_cons_zero, List.set_cons_succ]
                refine wpAnyH_take (i := 33) (oi := { dst := some 53, op := Op.load 3 (Operand.tmp 52), type := 3, pos := "ref.go:506", after := #[{ on := 32, ground := Ground.data }, { on := 24, ground := Ground.guard }], guard := some (24, false) }) (v := undef) rfl (by kernel_rfl) (by kernel_rfl) (by kernel_rfl) (fun _ _ _ h => h) (Or.inr ⟨by rfl, rfl⟩) hHeld ?nx33b
                try simp only [Act.put, List.setIfInBounds_toArray, List.set_cons_zero, List.set_cons_succ]
                refine wpAnyH_take (i := 34) (oi := { dst := some 54, op := Op.binOp BinOp.gtr 3 (Operand.tmp 47) (Operand.tmp 53) 3, type := 4, pos := "ref.go:506", after := #[{ on := 27, ground := Ground.data }, { on := 33, ground := Ground.data }, { on := 24, ground := Ground.guard }], guard := some (24, false) }) (v := undef) rfl (by kernel_rfl) (by kernel_rfl) (by kernel_rfl) (fun _ _ _ h => h) (Or.inr ⟨by rfl, rfl⟩) hHeld ?nx34b
                try simp only [Act.put, List.setIfInBounds_toArray, List.set_cons_zero, List.set_cons_succ]
                refine wpAnyH_take (i := 35) (oi := { dst := some 55, op := Op.pick (Operand.tmp 44) (Operand.const (Value.bool true)) (Operand.tmp 54), type := 4, pos := "ref.go:506", after := #[{ on := 24, ground := Ground.data }, { on := 34, ground := Ground.data }, { on := 21, ground := Ground.guard }], guard := some (21, true) }) (v := ?v35b) rfl (by kernel_rfl) (by kernel_rfl) (by kernel_rfl) (fun _ _ _ h => h) (Or.inl ⟨by rfl, ?hy35b⟩) hHeld ?nx35b
                case hy35b => (intro w hSw; (try dsimp only at hSw); go_simp; try with_reducible rfl)
                try simp only [Act.put, List.setIfInBounds_toArray, List.set_cons_zero, List.set_cons_succ]
                refine wpAnyH_take (i := 36) (oi := { dst := some 56, op := Op.pick (Operand.tmp 41) (Operand.tmp 55) (Operand.const (Value.bool false)), type := 4, pos := "ref.go:506", after := #[{ on := 21, ground := Ground.data }, { on := 35, ground := Ground.data }], guard := none }) (v := ?v36b) rfl (by kernel_rfl) (by kernel_rfl) (by kernel_rfl) (fun _ _ _ h => h) (Or.inl ⟨by rfl, ?hy36b⟩) hHeld ?nx36b
                case hy36b => (intro w hSw; (try dsimp only at hSw); go_simp; try with_reducible rfl)
                try simp only [Act.put, List.setIfInBounds_toArray, List.set_cons_zero, List.set_cons_succ]
                refine wpAnyH_done (by kernel_rfl) ?_ _
                refine NoPanic.normal ?_
                go_wp2_with fail
                go_roundg (n - i)
                case measure => exact hig
                case rel => exact ⟨i + 1, by go_num, by rw [HE.out], by omega, by omega, HY.out.trans K3⟩
              · have bt : decide ((t : Int) < 0) = false := decide_eq_false (by omega)
                obtain ⟨b', o', hbo, hqb, hqc⟩ := HRC.out.cell hq
                cases hbo
                have hkt := kAt_nat (k := kA) hq
                rw [hkt] at HST
                obtain ⟨nt, hnt⟩ : ∃ nt, q.p.n = nt := ⟨_, rfl⟩
                have hkt2 : kA q = nt := hnt
                rw [hkt2] at HST
                have HT : Hid (∀ w', Fr No y w' → w'.cell? ⟨b, o + t * k22 + 2 + 17, none⟩ = some (.int .i64 nt)) := fun w' hf => by
                  have h := (hqc w' (HFY.out.trans hf)).2 19 _ (ruC_n hqb)
                  rw [hnt] at h
                  rw [HK31.out]; exact h
                have hT0 := HT.out _ (Fr.drew No y)
                have q1 : (0 : Int) ≤ (t : Int) := by omega
                have q2 : (t : Int) < (n : Int) := by omega
                clear hqc hqb hkt hkt2 hnt hq
                by_cases hgt : nt < pn
                · have bg := decide_eq_true hgt
                  have HE : Hid (bN (mtA c ys port) kA L (i + 1) = (i : Int)) := by show _ = _; rw [HST.out]; simp [*]
                  clear HST hsf hl hh hgt
                  have HS3 : Hid (∀ w', Fr No y w' → Fr No y w' ∧ w'.cell? ⟨g, 1, none⟩ = some (.string sr) ∧ w'.cell? ⟨g, 2 + 17, none⟩ = some (.int .i64 pn) ∧ w'.cell? ⟨g, 20, none⟩ = some (.int .i64 lo) ∧ w'.cell? ⟨g, 21, none⟩ = some (.int .i64 hi') ∧ Sem.run PD (loadCellsFrom ⟨g, 2, none⟩ 0 k40 #[]) w' = .ok P w' ∧ Sem.run PD (loadCellsFrom ⟨ab, 0, none⟩ 0 k24 #[]) w' = .ok A w' ∧  w'.cell? ⟨b, o + t * k22 + 2 + 17, none⟩ = some (.int .i64 nt)) := fun w' hf => by
                    have h1 := HS.out w' hf
                    have h2 := HT.out w' hf
                    exact ⟨h1.1, h1.2.1, h1.2.2.1, h1.2.2.2.1, h1.2.2.2.2.1, h1.2.2.2.2.2.1, h1.2.2.2.2.2.2, h2⟩
                  have hS0 := HS3.out _ (Fr.drew No y)
                  refine wp_region_noPanic ?_
                  refine wp_region_held_drew (S := (fun w' : World => Fr No y w' ∧ w'.cell? ⟨g, 1, none⟩ = some (.string sr) ∧ w'.cell? ⟨g, 2 + 17, none⟩ = some (.int .i64 pn) ∧ w'.cell? ⟨g, 20, none⟩ = some (.int .i64 lo) ∧ w'.cell? ⟨g, 21, none⟩ = some (.int .i64 hi') ∧ Sem.run PD (loadCellsFrom ⟨g, 2, none⟩ 0 k40 #[]) w' = .ok P w' ∧ Sem.run PD (loadCellsFrom ⟨ab, 0, none⟩ 0 k24 #[]) w' = .ok A w' ∧  w'.cell? ⟨b, o + t * k22 + 2 + 17, none⟩ = some (.int .i64 nt))) (by kernel_rfl) hS0 (fun hHeld => ?_)
                  refine wpAnyH_take (i := 0) (oi := { dst := some 20, op := Op.fieldAddr 31 (Operand.tmp 9) 1, type := 0, pos := "ref.go:506", after := #[], guard := none }) (v := ?v0c) rfl (by kernel_rfl) (by kernel_rfl) (by kernel_rfl) (fun _ _ _ h => h) (Or.inl ⟨by rfl, ?hy0c⟩) hHeld ?nx0c
                  case hy0c => (intro w hSw; (try dsimp only at hSw); go_simp; try with_reducible rfl)
                  try simp only [Act.put, List.setIfInBounds_toArray, List.set_cons_zero, List.set_cons_succ]
                  refine wpAnyH_take (i := 1) (oi := { dst := some 21, op := Op.load 9 (Operand.tmp 20), type := 9, pos := "ref.go:506", after := #[{ on := 0, ground := Ground.data }], guard := none }) (v := ?v1c) rfl (by kernel_rfl) (by kernel_rfl) (by kernel_rfl) (fun _ _ _ h => h) (Or.inl ⟨by rfl, ?hy1c⟩) hHeld ?nx1c
                  case hy1c => (intro w hSw; (try dsimp only at hSw); go_simp; try with_reducible rfl)
                  try simp only [Act.put, List.setIfInBounds_toArray, List.set_cons_zero, List.set_cons_succ]
                  refine wpAnyH_take (i := 2) (oi := { dst := some 22, op := Op.binOp BinOp.eql 9 (Operand.tmp 21) (Operand.const (Value.string { data := #[] })) 9, type := 4, pos := "ref.go:506", after := #[{ on := 1, ground := Ground.data }], guard := none }) (v := ?v2c) rfl (by kernel_rfl) (by kernel_rfl) (by kernel_rfl) (fun _ _ _ h => h) (Or.inl ⟨by rfl, ?hy2c⟩) hHeld ?nx2c
                  case hy2c => (intro w hSw; (try dsimp only at hSw); go_simp; try with_reducible rfl)
                  try simp only [Act.put, List.setIfInBounds_toArray, List.set_cons_zero, List.set_cons_succ]
                  refine wpAnyH_take (i := 3) (oi := { dst := some 23, op := Op.move (Operand.tmp 22), type := 4, pos := "ref.go:506", after := #[{ on := 2, ground := Ground.data }], guard := none }) (v := ?v3c) rfl (by kernel_rfl) (by kernel_rfl) (by kernel_rfl) (fun _ _ _ h => h) (Or.inl ⟨by rfl, ?hy3c⟩) hHeld ?nx3c
                  case hy3c => (intro w hSw; (try dsimp only at hSw); go_simp; try with_reducible rfl)
                  try simp only [Act.put, List.setIfInBounds_toArray, List.set_cons_zero, List.set_cons_succ]
                  refine wpAnyH_take (i := 4) (oi := { dst := some 24, op := Op.move (Operand.tmp 2), type := 3, pos := "ref.go:506", after := #[{ on := 3, ground := Ground.guard }], guard := some (3, true) }) (v := ?v4c) rfl (by kernel_rfl) (by kernel_rfl) (by kernel_rfl) (fun _ _ _ h => h) (Or.inl ⟨by rfl, ?hy4c⟩) hHeld ?nx4c
                  case hy4c => (intro w hSw; (try dsimp only at hSw); go_simp; try with_reducible rfl)
                  try simp only [Act.put, List.setIfInBounds_toArray, List.set_cons_zero, List.set_cons_succ]
                  refine wpAnyH_take (i := 5) (oi := { dst := some 25, op := Op.fieldAddr 31 (Operand.tmp 9) 3, type := 0, pos := "ref.go:506", after := #[{ on := 3, ground := Ground.guard }], guard := some (3, true) }) (v := ?v5c) rfl (by kernel_rfl) (by kernel_rfl) (by kernel_rfl) (fun _ _ _ h => h) (Or.inl ⟨by rfl, ?hy5c⟩) hHeld ?nx5c
                  case hy5c => (intro w hSw; (try dsimp only at hSw); go_simp; try with_reducible rfl)
                  try simp only [Act.put, List.setIfInBounds_toArray, List.set_cons_zero, List.set_cons_succ]
                  refine wpAnyH_take (i := 6) (oi := { dst := some 26, op := Op.load 3 (Operand.tmp 25), type := 3, pos := "ref.go:506", after := #[{ on := 5, ground := Ground.data }, { on := 3, ground := Ground.guard }], guard := some (3, true) }) (v := ?v6c) rfl (by kernel_rfl) (by kernel_rfl) (by kernel_rfl) (fun _ _ _ h => h) (Or.inl ⟨by rfl, ?hy6c⟩) hHeld ?nx6c
                  case hy6c => (intro w hSw; (try dsimp only at hSw); go_simp; try with_reducible rfl)
                  try simp only [Act.put, List.setIfInBounds_toArray, List.set_cons_zero, List.set_cons_succ]
                  refine wpAnyH_take (i := 7) (oi := { dst := some 27, op := Op.binOp BinOp.geq 3 (Operand.tmp 24) (Operand.tmp 26) 3, type := 4, pos := "ref.go:506", after := #[{ on := 4, ground := Ground.data }, { on := 6, ground := Ground.data }, { on := 3, ground := Ground.guard }], guard := some (3, true) }) (v := ?v7c) rfl (by kernel_rfl) (by kernel_rfl) (by kernel_rfl) (fun _ _ _ h => h) (Or.inl ⟨by rfl, ?hy7c⟩) hHeld ?nx7c
                  case hy7c => (intro w hSw; (try dsimp only at hSw); go_simp; try with_reducible rfl)
                  try simp only [Act.put, List.setIfInBounds_toArray, List.set_cons_zero, List.set_cons_succ]
                  refine wpAnyH_take (i := 8) (oi := { dst := some 28, op := Op.pick (Operand.tmp 23) (Operand.tmp 27) (Operand.const (Value.bool false)), type := 4, pos := "ref.go:506", after := #[{ on := 3, ground := Ground.data }, { on := 7, ground := Ground.data }], guard := none }) (v := ?v8c) rfl (by kernel_rfl) (by kernel_rfl) (by kernel_rfl) (fun _ _ _ h => h) (Or.inl ⟨by rfl, ?hy8c⟩) hHeld ?nx8c
                  case hy8c => (intro w hSw; (try dsimp only at hSw); go_simp; try with_reducible rfl)
                  try simp only [Act.put, List.setIfInBounds_toArray, List.set_cons_zero, List.set_cons_succ]
                  refine wpAnyH_take (i := 9) (oi := { dst := some 29, op := Op.move (Operand.tmp 28), type := 4, pos := "ref.go:506", after := #[{ on := 8, ground := Ground.data }, { on := 3, ground := Ground.chain }], guard := none }) (v := ?v9c) rfl (by kernel_rfl) (by kernel_rfl) (by kernel_rfl) (fun _ _ _ h => h) (Or.inl ⟨by rfl, ?hy9c⟩) hHeld ?nx9c
                  case hy9c => (intro w hSw; (try dsimp only at hSw); go_simp; try with_reducible rfl)
                  try simp only [Act.put, List.setIfInBounds_toArray, List.set_cons_zero, List.set_cons_succ]
                  refine wpAnyH_take (i := 10) (oi := { dst := some 30, op := Op.move (Operand.tmp 2), type := 3, pos := "ref.go:506", after := #[{ on := 9, ground := Ground.guard }], guard := some (9, true) }) (v := ?v10c) rfl (by kernel_rfl) (by kernel_rfl) (by kernel_rfl) (fun _ _ _ h => h) (Or.inl ⟨by rfl, ?hy10c⟩) hHeld ?nx10c
                  case hy10c => (intro w hSw; (try dsimp only at hSw); go_simp; try with_reducible rfl)
                  try simp only [Act.put, List.setIfInBounds_toArray, List.set_cons_zero, List.set_cons_succ]
                  refine wpAnyH_take (i := 11) (oi := { dst := some 31, op := Op.fieldAddr 31 (Operand.tmp 9) 4, type := 0, pos := "ref.go:506", after := #[{ on := 9, ground := Ground.guard }], guard := some (9, true) }) (v := ?v11c) rfl (by kernel_rfl) (by kernel_rfl) (by kernel_rfl) (fun _ _ _ h => h) (Or.inl ⟨by rfl, ?hy11c⟩) hHeld ?nx11c
                  case hy11c => (intro w hSw; (try dsimp only at hSw); go_simp; try with_reducible rfl)
                  try simp only [Act.put, List.setIfInBounds_toArray, List.set_cons_zero, List.set_cons_succ]
                  refine wpAnyH_take (i := 12) (oi := { dst := some 32, op := Op.load 3 (Operand.tmp 31), type := 3, pos := "ref.go:506", after := #[{ on := 11, ground := Ground.data }, { on := 9, ground := Ground.guard }], guard := some (9, true) }) (v := ?v12c) rfl (by kernel_rfl) (by kernel_rfl) (by kernel_rfl) (fun _ _ _ h => h) (Or.inl ⟨by rfl, ?hy12c⟩) hHeld ?nx12c
                  case hy12c => (intro w hSw; (try dsimp only at hSw); go_simp; try with_reducible rfl)
                  try simp only [Act.put, List.setIfInBounds_toArray, List.set_cons_zero, List.set_cons_succ]
                  refine wpAnyH_take (i := 13) (oi := { dst := some 33, op := Op.binOp BinOp.leq 3 (Operand.tmp 30) (Operand.tmp 32) 3, type := 4, pos := "ref.go:506", after := #[{ on := 10, ground := Ground.data }, { on := 12, ground := Ground.data }, { on := 9, ground := Ground.guard }], guard := some (9, true) }) (v := ?v13c) rfl (by kernel_rfl) (by kernel_rfl) (by kernel_rfl) (fun _ _ _ h => h) (Or.inl ⟨by rfl, ?hy13c⟩) hHeld ?nx13c
                  case hy13c => (intro w hSw; (try dsimp only at hSw); go_simp; try with_reducible rfl)
                  try simp only [Act.put, List.setIfInBounds_toArray, List.set_cons_zero, List.set_cons_succ]
                  refine wpAnyH_take (i := 14) (oi := { dst := some 34, op := Op.pick (Operand.tmp 29) (Operand.tmp 33) (Operand.const (Value.bool false)), type := 4, pos := "ref.go:506", after := #[{ on := 9, ground := Ground.data }, { on := 13, ground := Ground.data }], guard := none }) (v := ?v14c) rfl (by kernel_rfl) (by kernel_rfl) (by kernel_rfl) (fun _ _ _ h => h) (Or.inl ⟨by rfl, ?hy14c⟩) hHeld ?nx14c
                  case hy14c => (intro w hSw; (try dsimp only at hSw); go_simp; try with_reducible rfl)
                  try simp only [Act.put, List.setIfInBounds_toArray, List.set_cons_zero, List.set_cons_succ]
                  refine wpAnyH_take (i := 15) (oi := { dst := some 35, op := Op.move (Operand.tmp 34), type := 4, pos := "ref.go:506", after := #[{ on := 14, ground := Ground.data }, { on := 9, ground := Ground.chain }], guard := none }) (v := ?v15c) rfl (by kernel_rfl) (by kernel_rfl) (by kernel_rfl) (fun _ _ _ h => h) (Or.inl ⟨by rfl, ?hy15c⟩) hHeld ?nx15c
                  case hy15c => (intro w hSw; (try dsimp only at hSw); go_simp; try with_reducible rfl)
                  try simp only [Act.put, List.setIfInBounds_toArray, List.set_cons_zero, List.set_cons_succ]
                  refine wpAnyH_take (i := 16) (oi := { dst := some 36, op := Op.fieldAddr 31 (Operand.tmp 9) 2, type := 0, pos := "ref.go:506", after := #[{ on := 15, ground := Ground.guard }], guard := some (15, true) }) (v := ?v16c) rfl (by kernel_rfl) (by kernel_rfl) (by kernel_rfl) (fun _ _ _ h => h) (Or.inl ⟨by rfl, ?hy16c⟩) hHeld ?nx16c
                  case hy16c => (intro w hSw; (try dsimp only at hSw); go_simp; try with_reducible rfl)
                  try simp only [Act.put, List.setIfInBounds_toArray, List.set_cons_zero, List.set_cons_succ]
                  refine wpAnyH_take (i := 17) (oi := { dst := some 37, op := Op.load 29 (Operand.tmp 36), type := 29, pos := "ref.go:506", after := #[{ on := 16, ground := Ground.data }, { on := 15, ground := Ground.guard }], guard := some (15, true) }) (v := ?v17c) rfl (by kernel_rfl) (by kernel_rfl) (by kernel_rfl) (fun _ _ _ h => h) (Or.inl ⟨by rfl, ?hy17c⟩) hHeld ?nx17c
                  case hy17c => (intro w hSw; (try dsimp only at hSw); go_simp; try with_reducible rfl)
                  try simp only [Act.put, List.setIfInBounds_toArray, List.set_cons_zero, List.set_cons_succ]
                  refine wpAnyH_take (i := 18) (oi := { dst := some 38, op := Op.load 25 (Operand.tmp 4), type := 25, pos := "ref.go:506", after := #[{ on := 15, ground := Ground.guard }], guard := some (15, true) }) (v := ?v18c) rfl (by kernel_rfl) (by kernel_rfl) (by kernel_rfl) (fun _ _ _ h => h) (Or.inl ⟨by rfl, ?hy18c⟩) hHeld ?nx18c
                  case hy18c => (intro w hSw; (try dsimp only at hSw); go_simp; try with_reducible rfl)
                  try simp only [Act.put, List.setIfInBounds_toArray, List.set_cons_zero, List.set_cons_succ]
                  refine wpAnyH_ready (rs := [19]) (by kernel_rfl) (by simp) ?_
                  refine AllReadyH.cons (o := { dst := some 39, op := Op.call { callee := Callee.value (Operand.func 55), args := #[Operand.tmp 37, Operand.tmp 38], argTypes := #[29, 25] }, type := 4, pos := "ref.go:506", after := #[{ on := 17, ground := Ground.data }, { on := 18, ground := Ground.data }, { on := 15, ground := Ground.chain }, { on := 15, ground := Ground.guard }], guard := some (15, true) }) rfl (fun K hK => ?_) AllReadyH.nil
                  go_simp
                  go_at_call 55
                  refine (at_prog HP.out (HC.out _)).mono ?_
                  rintro e w3 ⟨rfl, hf3⟩
                  have K3 : Fr No y w3 := (Fr.drew No y).trans hf3
                  have hS := HS3.out _ K3
                  refine hK.out _ _ hS (fun hH2 => ?_)
                  clear hK K hHeld
                  have hHeld := hH2
                  clear hH2 hS
                  try simp only [Act.put, List.setIfInBounds_toArray, List.set_cons_zero, List.set_cons_succ]
                  refine wpAnyH_take (i := 20) (oi := { dst := some 40, op := Op.pick (Operand.tmp 35) (Operand.tmp 39) (Operand.const (Value.bool false)), type := 4, pos := "ref.go:506", after := #[{ on := 15, ground := Ground.data }, { on := 19, ground := Ground.data }], guard := none }) (v := ?v20c) rfl (by kernel_rfl) (by kernel_rfl) (by kernel_rfl) (fun _ _ _ h => h) (Or.inl ⟨by rfl, ?hy20c⟩) hHeld ?nx20c
                  case hy20c => (intro w hSw; (try dsimp only at hSw); go_simp; try with_reducible rfl)
                  try simp only [Act.put, List.setIfInBounds_toArray, List.set_cons_zero, List.set_cons_succ]
                  refine wpAnyH_take (i := 21) (oi := { dst := some 41, op := Op.move (Operand.tmp 40), type := 4, pos := "ref.go:506", after := #[{ on := 20, ground := Ground.data }, { on := 19, ground := Ground.chain }], guard := none }) (v := ?v21c) rfl (by kernel_rfl) (by kernel_rfl) (by kernel_rfl) (fun _ _ _ h => h) (Or.inl ⟨by rfl, ?hy21c⟩) hHeld ?nx21c
                  case hy21c => (intro w hSw; (try dsimp only at hSw); go_simp; try with_reducible rfl)
                  try simp only [Act.put, List.setIfInBounds_toArray, List.set_cons_zero, List.set_cons_succ]
                  refine wpAnyH_take (i := 22) (oi := { dst := some 42, op := Op.move (Operand.tmp 7), type := 3, pos := "ref.go:506", after := #[{ on := 21, ground := Ground.guard }], guard := some (21, true) }) (v := ?v22c) rfl (by kernel_rfl) (by kernel_rfl) (by kernel_rfl) (fun _ _ _ h => h) (Or.inl ⟨by rfl, ?hy22c⟩) hHeld ?nx22c
                  case hy22c => (intro w hSw; (try dsimp only at hSw); go_simp; try with_reducible rfl)
                  try simp only [Act.put, List.setIfInBounds_toArray, List.set_cons_zero, List.set_cons_succ]
                  refine wpAnyH_take (i := 23) (oi := { dst := some 43, op := Op.binOp BinOp.lss 3 (Operand.tmp 42) (Operand.const (Value.int IntKind.i64 0)) 3, type := 4, pos := "ref.go:506", after := #[{ on := 22, ground := Ground.data }, { on := 21, ground := Ground.guard }], guard := some (21, true) }) (v := ?v23c) rfl (by kernel_rfl) (by kernel_rfl) (by kernel_rfl) (fun _ _ _ h => h) (Or.inl ⟨by rfl, ?hy23c⟩) hHeld ?nx23c
                  case hy23c => (intro w hSw; (try dsimp only at hSw); go_simp; try with_reducible rfl)
                  try simp only [Act.put, List.setIfInBounds_toArray, List.set_cons_zero, List.set_cons_succ]
                  refine wpAnyH_take (i := 24) (oi := { dst := some 44, op := Op.move (Operand.tmp 43), type := 4, pos := "ref.go:506", after := #[{ on := 23, ground := Ground.data }, { on := 21, ground := Ground.chain }, { on := 21, ground := Ground.guard }], guard := some (21, true) }) (v := ?v24c) rfl (by kernel_rfl) (by kernel_rfl) (by kernel_rfl) (fun _ _ _ h => h) (Or.inl ⟨by rfl, ?hy24c⟩) hHeld ?nx24c
                  case hy24c => (intro w hSw; (try dsimp only at hSw); go_simp; try with_reducible rfl)
                  try simp only [Act.put, List.setIfInBounds_toArray, List.set_cons_zero, List.set_cons_succ]
                  refine wpAnyH_take (i := 25) (oi := { dst := some 45, op := Op.fieldAddr 31 (Operand.tmp 9) 2, type := 0, pos := "ref.go:506", after := #[{ on := 24, ground := Ground.guard }], guard := some (24, false) }) (v := ?v25c) rfl (by kernel_rfl) (by kernel_rfl) (by kernel_rfl) (fun _ _ _ h => h) (Or.inl ⟨by rfl, ?hy25c⟩) hHeld ?nx25c
                  case hy25c => (intro w hSw; (try dsimp only at hSw); go_simp; try with_reducible rfl)
                  try simp only [Act.put, List.setIfInBounds_toArray, List.set_cons_zero, List.set_cons_succ]
                  refine wpAnyH_take (i := 26) (oi := { dst := some 46, op := Op.fieldAddr 29 (Operand.tmp 45) 1, type := 0, pos := "ref.go:506", after := #[{ on := 25, ground := Ground.data }, { on := 24, ground := Ground.guard }], guard := some (24, false) }) (v := ?v26c) rfl (by kernel_rfl) (by kernel_rfl) (by kernel_rfl) (fun _ _ _ h => h) (Or.inl ⟨by rfl, ?hy26c⟩) hHeld ?nx26c
                  case hy26c => (intro w hSw; (try dsimp only at hSw); go_simp; try with_reducible rfl)
                  try simp only [Act.put, List.setIfInBounds_toArray, List.set_cons_zero, List.set_cons_succ]
                  refine wpAnyH_take (i := 27) (oi := { dst := some 47, op := Op.load 3 (Operand.tmp 46), type := 3, pos := "ref.go:506", after := #[{ on := 26, ground := Ground.data }, { on := 24, ground := Ground.guard }], guard := some (24, false) }) (v := ?v27c) rfl (by kernel_rfl) (by kernel_rfl) (by kernel_rfl) (fun _ _ _ h => h) (Or.inl ⟨by rfl, ?hy27c⟩) hHeld ?nx27c
                  case hy27c => (intro w hSw; (try dsimp only at hSw); go_simp; try with_reducible rfl)
                  try simp only [Act.put, List.setIfInBounds_toArray, List.set_cons_zero, List.set_cons_succ]
                  refine wpAnyH_take (i := 28) (oi := { dst := some 48, op := Op.move (Operand.tmp 0), type := 22, pos := "ref.go:506", after := #[{ on := 24, ground := Ground.guard }], guard := some (24, false) }) (v := ?v28c) rfl (by kernel_rfl) (by kernel_rfl) (by kernel_rfl) (fun _ _ _ h => h) (Or.inl ⟨by rfl, ?hy28c⟩) hHeld ?nx28c
                  case hy28c => (intro w hSw; (try dsimp only at hSw); go_simp; try with_reducible rfl)
                  try simp only [Act.put, List.setIfInBounds_toArray, List.set_cons_zero, List.set_cons_succ]
                  refine wpAnyH_take (i := 29) (oi := { dst := some 49, op := Op.move (Operand.tmp 7), type := 3, pos := "ref.go:506", after := #[{ on := 24, ground := Ground.guard }], guard := some (24, false) }) (v := ?v29c) rfl (by kernel_rfl) (by kernel_rfl) (by kernel_rfl) (fun _ _ _ h => h) (Or.inl ⟨by rfl, ?hy29c⟩) hHeld ?nx29c
                  case hy29c => (intro w hSw; (try dsimp only at hSw); go_simp; try with_reducible rfl)
                  try simp only [Act.put, List.setIfInBounds_toArray, List.set_cons_zero, List.set_cons_succ]
                  refine wpAnyH_take (i := 30) (oi := { dst := some 50, op := Op.indexAddr 22 (Operand.tmp 48) (Operand.tmp 49), type := 0, pos := "ref.go:506", after := #[{ on := 28, ground := Ground.data }, { on := 29, ground := Ground.data }, { on := 24, ground := Ground.guard }], guard := some (24, false) }) (v := ?v30c) rfl (by kernel_rfl) (by kernel_rfl) (by kernel_rfl) (fun _ _ _ h => h) (Or.inl ⟨by rfl, ?hy30c⟩) hHeld ?nx30c
                  case hy30c => (intro w hSw; (try dsimp only at hSw); go_simp; try with_reducible rfl)
                  try simp only [Act.put, List.setIfInBounds_toArray, List.set_cons_zero, List.set_cons_succ]
                  refine wpAnyH_take (i := 31) (oi := { dst := some 51, op := Op.fieldAddr 31 (Operand.tmp 50) 2, type := 0, pos := "ref.go:506", after := #[{ on := 30, ground := Ground.data }, { on := 24, ground := Ground.guard }], guard := some (24, false) }) (v := ?v31c) rfl (by kernel_rfl) (by kernel_rfl) (by kernel_rfl) (fun _ _ _ h => h) (Or.inl ⟨by rfl, ?hy31c⟩) hHeld ?nx31c
                  case hy31c => (intro w hSw; (try dsimp only at hSw); go_simp; try with_reducible rfl)
                  try simp only [Act.put, List.setIfInBounds_toArray, List.set_cons_zero, List.set_cons_succ]
                  refine wpAnyH_take (i := 32) (oi := { dst := some 52, op := Op.fieldAddr 29 (Operand.tmp 51) 1, type := 0, pos := "ref.go:506", after := #[{ on := 31, ground := Ground.data }, { on := 24, ground := Ground.guard }], guard := some (24, false) }) (v := ?v32c) rfl (by kernel_rfl) (by kernel_rfl) (by kernel_rfl) (fun _ _ _ h => h) (Or.inl ⟨by rfl, ?hy32c⟩) hHeld ?nx32c
                  case hy32c => (intro w hSw; (try dsimp only at hSw); go_simp; try with_reducible rfl)
                  try simp only [Act.put, List.setIfInBounds_toArray, List.set_cons_zero, List.set_cons_succ]
                  refine wpAnyH_take (i := 33) (oi := { dst := some 53, op := Op.load 3 (Operand.tmp 52), type := 3, pos := "ref.go:506", after := #[{ on := 32, ground := Ground.data }, { on := 24, ground := Ground.guard }], guard := some (24, false) }) (v := ?v33c) rfl (by kernel_rfl) (by kernel_rfl) (by kernel_rfl) (fun _ _ _ h => h) (Or.inl ⟨by rfl, ?hy33c⟩) hHeld ?nx33c
                  case hy33c => (intro w hSw; (try dsimp only at hSw); go_simp; try with_reducible rfl)
                  try simp only [Act.put, List.setIfInBounds_toArray, List.set_cons_zero, List.set_cons_succ]
                  refine wpAnyH_take (i := 34) (oi := { dst := some 54, op := Op.binOp BinOp.gtr 3 (Operand.tmp 47) (Operand.tmp 53) 3, type := 4, pos := "ref.go:506", after := #[{ on := 27, ground := Ground.data }, { on := 33, ground := Ground.data }, { on := 24, ground := Ground.guard }], guard := some (24, false) }) (v := ?v34c) rfl (by kernel_rfl) (by kernel_rfl) (by kernel_rfl) (fun _ _ _ h => h) (Or.inl ⟨by rfl, ?hy34c⟩) hHeld ?nx34c
                  case hy34c => (intro w hSw; (try dsimp only at hSw); go_simp; try with_reducible rfl)
                  try simp only [Act.put, List.setIfInBounds_toArray, List.set_cons_zero, List.set_cons_succ]
                  refine wpAnyH_take (i := 35) (oi := { dst := some 55, op := Op.pick (Operand.tmp 44) (Operand.const (Value.bool true)) (Operand.tmp 54), type := 4, pos := "ref.go:506", after := #[{ on := 24, ground := Ground.data }, { on := 34, ground := Ground.data }, { on := 21, ground := Ground.guard }], guard := some (21, true) }) (v := ?v35c) rfl (by kernel_rfl) (by kernel_rfl) (by kernel_rfl) (fun _ _ _ h => h) (Or.inl ⟨by rfl, ?hy35c⟩) hHeld ?nx35c
                  case hy35c => (intro w hSw; (try dsimp only at hSw); go_simp; try with_reducible rfl)
                  try simp only [Act.put, List.setIfInBounds_toArray, List.set_cons_zero, List.set_cons_succ]
                  refine wpAnyH_take (i := 36) (oi := { dst := some 56, op := Op.pick (Operand.tmp 41) (Operand.tmp 55) (Operand.const (Value.bool false)), type := 4, pos := "ref.go:506", after := #[{ on := 21, ground := Ground.data }, { on := 35, ground := Ground.data }], guard := none }) (v := ?v36c) rfl (by kernel_rfl) (by kernel_rfl) (by kernel_rfl) (fun _ _ _ h => h) (Or.inl ⟨by rfl, ?hy36c⟩) hHeld ?nx36c
                  case hy36c => (intro w hSw; (try dsimp only at hSw); go_simp; try with_reducible rfl)
                  try simp only [Act.put, List.setIfInBounds_toArray, List.set_cons_zero, List.set_cons_succ]
                  refine wpAnyH_done (by kernel_rfl) ?_ _
                  refine NoPanic.normal ?_
                  go_wp2_with fail
                  go_roundg (n - i)
                  case measure => exact hig
                  case rel => exact ⟨i + 1, by go_num, by rw [HE.out], by omega, by omega, HY.out.trans K3⟩
                · have bg := decide_eq_false hgt
                  have HE : Hid (bN (mtA c ys port) kA L (i + 1) = (t : Int)) := by show _ = _; rw [HST.out]; simp [*]
                  clear HST hsf hl hh hgt
                  have HS3 : Hid (∀ w', Fr No y w' → Fr No y w' ∧ w'.cell? ⟨g, 1, none⟩ = some (.string sr) ∧ w'.cell? ⟨g, 2 + 17, none⟩ = some (.int .i64 pn) ∧ w'.cell? ⟨g, 20, none⟩ = some (.int .i64 lo) ∧ w'.cell? ⟨g, 21, none⟩ = some (.int .i64 hi') ∧ Sem.run PD (loadCellsFrom ⟨g, 2, none⟩ 0 k40 #[]) w' = .ok P w' ∧ Sem.run PD (loadCellsFrom ⟨ab, 0, none⟩ 0 k24 #[]) w' = .ok A w' ∧  w'.cell? ⟨b, o + t * k22 + 2 + 17, none⟩ = some (.int .i64 nt)) := fun w' hf => by
                    have h1 := HS.out w' hf
                    have h2 := HT.out w' hf
                    exact ⟨h1.1, h1.2.1, h1.2.2.1, h1.2.2.2.1, h1.2.2.2.2.1, h1.2.2.2.2.2.1, h1.2.2.2.2.2.2, h2⟩
                  have hS0 := HS3.out _ (Fr.drew No y)
                  refine wp_region_noPanic ?_
                  refine wp_region_held_drew (S := (fun w' : World => Fr No y w' ∧ w'.cell? ⟨g, 1, none⟩ = some (.string sr) ∧ w'.cell? ⟨g, 2 + 17, none⟩ = some (.int .i64 pn) ∧ w'.cell? ⟨g, 20, none⟩ = some (.int .i64 lo) ∧ w'.cell? ⟨g, 21, none⟩ = some (.int .i64 hi') ∧ Sem.run PD (loadCellsFrom ⟨g, 2, none⟩ 0 k40 #[]) w' = .ok P w' ∧ Sem.run PD (loadCellsFrom ⟨ab, 0, none⟩ 0 k24 #[]) w' = .ok A w' ∧  w'.cell? ⟨b, o + t * k22 + 2 + 17, none⟩ = some (.int .i64 nt))) (by kernel_rfl) hS0 (fun hHeld => ?_)
                  refine wpAnyH_take (i := 0) (oi := { dst := some 20, op := Op.fieldAddr 31 (Operand.tmp 9) 1, type := 0, pos := "ref.go:506", after := #[], guard := none }) (v := ?v0d) rfl (by kernel_rfl) (by kernel_rfl) (by kernel_rfl) (fun _ _ _ h => h) (Or.inl ⟨by rfl, ?hy0d⟩) hHeld ?nx0d
                  case hy0d => (intro w hSw; (try dsimp only at hSw); go_simp; try with_reducible rfl)
                  try simp only [Act.put, List.setIfInBounds_toArray, List.set_cons_zero, List.set_cons_succ]
                  refine wpAnyH_take (i := 1) (oi := { dst := some 21, op := Op.load 9 (Operand.tmp 20), type := 9, pos := "ref.go:506", after := #[{ on := 0, ground := Ground.data }], guard := none }) (v := ?v1d) rfl (by kernel_rfl) (by kernel_rfl) (by kernel_rfl) (fun _ _ _ h => h) (Or.inl ⟨by rfl, ?hy1d⟩) hHeld ?nx1d
                  case hy1d => (intro w hSw; (try dsimp only at hSw); go_simp; try with_reducible rfl)
                  try simp only [Act.put, List.setIfInBounds_toArray, List.set_cons_zero, List.set_cons_succ]
                  refine wpAnyH_take (i := 2) (oi := { dst := some 22, op := Op.binOp BinOp.eql 9 (Operand.tmp 21) (Operand.const (Value.string { data := #[] })) 9, type := 4, pos := "ref.go:506", after := #[{ on := 1, ground := Ground.data }], guard := none }) (v := ?v2d) rfl (by kernel_rfl) (by kernel_rfl) (by kernel_rfl) (fun _ _ _ h => h) (Or.inl ⟨by rfl, ?hy2d⟩) hHeld ?nx2d
                  case hy2d => (intro w hSw; (try dsimp only at hSw); go_simp; try with_reducible rfl)
                  try simp only [Act.put, List.setIfInBounds_toArray, List.set_cons_zero, List.set_cons_succ]
                  refine wpAnyH_take (i := 3) (oi := { dst := some 23, op := Op.move (Operand.tmp 22), type := 4, pos := "ref.go:506", after := #[{ on := 2, ground := Ground.data }], guard := none }) (v := ?v3d) rfl (by kernel_rfl) (by kernel_rfl) (by kernel_rfl) (fun _ _ _ h => h) (Or.inl ⟨by rfl, ?hy3d⟩) hHeld ?nx3d
                  case hy3d => (intro w hSw; (try dsimp only at hSw); go_simp; try with_reducible rfl)
                  try simp only [Act.put, List.setIfInBounds_toArray, List.set_cons_zero, List.set_cons_succ]
                  refine wpAnyH_take (i := 4) (oi := { dst := some 24, op := Op.move (Operand.tmp 2), type := 3, pos := "ref.go:506", after := #[{ on := 3, ground := Ground.guard }], guard := some (3, true) }) (v := ?v4d) rfl (by kernel_rfl) (by kernel_rfl) (by kernel_rfl) (fun _ _ _ h => h) (Or.inl ⟨by rfl, ?hy4d⟩) hHeld ?nx4d
                  case hy4d => (intro w hSw; (try dsimp only at hSw); go_simp; try with_reducible rfl)
                  try simp only [Act.put, List.setIfInBounds_toArray, List.set_cons_zero, List.set_cons_succ]
                  refine wpAnyH_take (i := 5) (oi := { dst := some 25, op := Op.fieldAddr 31 (Operand.tmp 9) 3, type := 0, pos := "ref.go:506", after := #[{ on := 3, ground := Ground.guard }], guard := some (3, true) }) (v := ?v5d) rfl (by kernel_rfl) (by kernel_rfl) (by kernel_rfl) (fun _ _ _ h => h) (Or.inl ⟨by rfl, ?hy5d⟩) hHeld ?nx5d
                  case hy5d => (intro w hSw; (try dsimp only at hSw); go_simp; try with_reducible rfl)
                  try simp only [Act.put, List.setIfInBounds_toArray, List.set_cons_zero, List.set_cons_succ]
                  refine wpAnyH_take (i := 6) (oi := { dst := some 26, op := Op.load 3 (Operand.tmp 25), type := 3, pos := "ref.go:506", after := #[{ on := 5, ground := Ground.data }, { on := 3, ground := Ground.guard }], guard := some (3, true) }) (v := ?v6d) rfl (by kernel_rfl) (by kernel_rfl) (by kernel_rfl) (fun _ _ _ h => h) (Or.inl ⟨by rfl, ?hy6d⟩) hHeld ?nx6d
                  case hy6d => (intro w hSw; (try dsimp only at hSw); go_simp; try with_reducible rfl)
                  try simp only [Act.put, List.setIfInBounds_toArray, List.set_cons_zero, List.set_cons_succ]
                  refine wpAnyH_take (i := 7) (oi := { dst := some 27, op := Op.binOp BinOp.geq 3 (Operand.tmp 24) (Operand.tmp 26) 3, type := 4, pos := "ref.go:506", after := #[{ on := 4, ground := Ground.data }, { on := 6, ground := Ground.data }, { on := 3, ground := Ground.guard }], guard := some (3, true) }) (v := ?v7d) rfl (by kernel_rfl) (by kernel_rfl) (by kernel_rfl) (fun _ _ _ h => h) (Or.inl ⟨by rfl, ?hy7d⟩) hHeld ?nx7d
                  case hy7d => (intro w hSw; (try dsimp only at hSw); go_simp; try with_reducible rfl)
                  try simp only [Act.put, List.setIfInBounds_toArray, List.set_cons_zero, List.set_cons_succ]
                  refine wpAnyH_take (i := 8) (oi := { dst := some 28, op := Op.pick (Operand.tmp 23) (Operand.tmp 27) (Operand.const (Value.bool false)), type := 4, pos := "ref.go:506", after := #[{ on := 3, ground := Ground.data }, { on := 7, ground := Ground.data }], guard := none }) (v := ?v8d) rfl (by kernel_rfl) (by kernel_rfl) (by kernel_rfl) (fun _ _ _ h => h) (Or.inl ⟨by rfl, ?hy8d⟩) hHeld ?nx8d
                  case hy8d => (intro w hSw; (try dsimp only at hSw); go_simp; try with_reducible rfl)
                  try simp only [Act.put, List.setIfInBounds_toArray, List.set_cons_zero, List.set_cons_succ]
                  refine wpAnyH_take (i := 9) (oi := { dst := some 29, op := Op.move (Operand.tmp 28), type := 4, pos := "ref.go:506", after := #[{ on := 8, ground := Ground.data }, { on := 3, ground := Ground.chain }], guard := none }) (v := ?v9d) rfl (by kernel_rfl) (by kernel_rfl) (by kernel_rfl) (fun _ _ _ h => h) (Or.inl ⟨by rfl, ?hy9d⟩) hHeld ?nx9d
                  case hy9d => (intro w hSw; (try dsimp only at hSw); go_simp; try with_reducible rfl)
                  try simp only [Act.put, List.setIfInBounds_toArray, List.set_cons_zero, List.set_cons_succ]
                  refine wpAnyH_take (i := 10) (oi := { dst := some 30, op := Op.move (Operand.tmp 2), type := 3, pos := "ref.go:506", after := #[{ on := 9, ground := Ground.guard }], guard := some (9, true) }) (v := ?v10d) rfl (by kernel_rfl) (by kernel_rfl) (by kernel_rfl) (fun _ _ _ h => h) (Or.inl ⟨by rfl, ?hy10d⟩) hHeld ?nx10d
                  case hy10d => (intro w hSw; (try dsimp only at hSw); go_simp; try with_reducible rfl)
                  try simp only [Act.put, List.setIfInBounds_toArray, List.set_cons_zero, List.set_cons_succ]
                  refine wpAnyH_take (i := 11) (oi := { dst := some 31, op := Op.fieldAddr 31 (Operand.tmp 9) 4, type := 0, pos := "ref.go:506", after := #[{ on := 9, ground := Ground.guard }], guard := some (9, true) }) (v := ?v11d) rfl (by kernel_rfl) (by kernel_rfl) (by kernel_rfl) (fun _ _ _ h => h) (Or.inl ⟨by rfl, ?hy11d⟩) hHeld ?nx11d
                  case hy11d => (intro w hSw; (try dsimp only at hSw); go_simp; try with_reducible rfl)
                  try simp only [Act.put, List.setIfInBounds_toArray, List.set_cons_zero, List.set_cons_succ]
                  refine wpAnyH_take (i := 12) (oi := { dst := some 32, op := Op.load 3 (Operand.tmp 31), type := 3, pos := "ref.go:506", after := #[{ on := 11, ground := Ground.data }, { on := 9, ground := Ground.guard }], guard := some (9, true) }) (v := ?v12d) rfl (by kernel_rfl) (by kernel_rfl) (by kernel_rfl) (fun _ _ _ h => h) (Or.inl ⟨by rfl, ?hy12d⟩) hHeld ?nx12d
                  case hy12d => (intro w hSw; (try dsimp only at hSw); go_simp; try with_reducible rfl)
                  try simp only [Act.put, List.setIfInBounds_toArray, List.set_cons_zero, List.set_cons_succ]
                  refine wpAnyH_take (i := 13) (oi := { dst := some 33, op := Op.binOp BinOp.leq 3 (Operand.tmp 30) (Operand.tmp 32) 3, type := 4, pos := "ref.go:506", after := #[{ on := 10, ground := Ground.data }, { on := 12, ground := Ground.data }, { on := 9, ground := Ground.guard }], guard := some (9, true) }) (v := ?v13d) rfl (by kernel_rfl) (by kernel_rfl) (by kernel_rfl) (fun _ _ _ h => h) (Or.inl ⟨by rfl, ?hy13d⟩) hHeld ?nx13d
                  case hy13d => (intro w hSw; (try dsimp only at hSw); go_simp; try with_reducible rfl)
                  try simp only [Act.put, List.setIfInBounds_toArray, List.set_cons_zero, List.set_cons_succ]
                  refine wpAnyH_take (i := 14) (oi := { dst := some 34, op := Op.pick (Operand.tmp 29) (Operand.tmp 33) (Operand.const (Value.bool false)), type := 4, pos := "ref.go:506", after := #[{ on := 9, ground := Ground.data }, { on := 13, ground := Ground.data }], guard := none }) (v := ?v14d) rfl (by kernel_rfl) (by kernel_rfl) (by kernel_rfl) (fun _ _ _ h => h) (Or.inl ⟨by rfl, ?hy14d⟩) hHeld ?nx14d
                  case hy14d => (intro w hSw; (try dsimp only at hSw); go_simp; try with_reducible rfl)
                  try simp only [Act.put, List.setIfInBounds_toArray, List.set_cons_zero, List.set_cons_succ]
                  refine wpAnyH_take (i := 15) (oi := { dst := some 35, op := Op.move (Operand.tmp 34), type := 4, pos := "ref.go:506", after := #[{ on := 14, ground := Ground.data }, { on := 9, ground := Ground.chain }], guard := none }) (v := ?v15d) rfl (by kernel_rfl) (by kernel_rfl) (by kernel_rfl) (fun _ _ _ h => h) (Or.inl ⟨by rfl, ?hy15d⟩) hHeld ?nx15d
                  case hy15d => (intro w hSw; (try dsimp only at hSw); go_simp; try with_reducible rfl)
                  try simp only [Act.put, List.setIfInBounds_toArray, List.set_cons_zero, List.set_cons_succ]
                  refine wpAnyH_take (i := 16) (oi := { dst := some 36, op := Op.fieldAddr 31 (Operand.tmp 9) 2, type := 0, pos := "ref.go:506", after := #[{ on := 15, ground := Ground.guard }], guard := some (15, true) }) (v := ?v16d) rfl (by kernel_rfl) (by kernel_rfl) (by kernel_rfl) (fun _ _ _ h => h) (Or.inl ⟨by rfl, ?hy16d⟩) hHeld ?nx16d
                  case hy16d => (intro w hSw; (try dsimp only at hSw); go_simp; try with_reducible rfl)
                  try simp only [Act.put, List.setIfInBounds_toArray, List.set_cons_zero, List.set_cons_succ]
                  refine wpAnyH_take (i := 17) (oi := { dst := some 37, op := Op.load 29 (Operand.tmp 36), type := 29, pos := "ref.go:506", after := #[{ on := 16, ground := Ground.data }, { on := 15, ground := Ground.guard }], guard := some (15, true) }) (v := ?v17d) rfl (by kernel_rfl) (by kernel_rfl) (by kernel_rfl) (fun _ _ _ h => h) (Or.inl ⟨by rfl, ?hy17d⟩) hHeld ?nx17d
                  case hy17d => (intro w hSw; (try dsimp only at hSw); go_simp; try with_reducible rfl)
                  try simp only [Act.put, List.setIfInBounds_toArray, List.set_cons_zero, List.set_cons_succ]
                  refine wpAnyH_take (i := 18) (oi := { dst := some 38, op := Op.load 25 (Operand.tmp 4), type := 25, pos := "ref.go:506", after := #[{ on := 15, ground := Ground.guard }], guard := some (15, true) }) (v := ?v18d) rfl (by kernel_rfl) (by kernel_rfl) (by kernel_rfl) (fun _ _ _ h => h) (Or.inl ⟨by rfl, ?hy18d⟩) hHeld ?nx18d
                  case hy18d => (intro w hSw; (try dsimp only at hSw); go_simp; try with_reducible rfl)
                  try simp only [Act.put, List.setIfInBounds_toArray, List.set_cons_zero, List.set_cons_succ]
                  refine wpAnyH_ready (rs := [19]) (by kernel_rfl) (by simp) ?_
                  refine AllReadyH.cons (o := { dst := some 39, op := Op.call { callee := Callee.value (Operand.func 55), args := #[Operand.tmp 37, Operand.tmp 38], argTypes := #[29, 25] }, type := 4, pos := "ref.go:506", after := #[{ on := 17, ground := Ground.data }, { on := 18, ground := Ground.data }, { on := 15, ground := Ground.chain }, { on := 15, ground := Ground.guard }], guard := some (15, true) }) rfl (fun K hK => ?_) AllReadyH.nil
                  go_simp
                  go_at_call 55
                  refine (at_prog HP.out (HC.out _)).mono ?_
                  rintro e w3 ⟨rfl, hf3⟩
                  have K3 : Fr No y w3 := (Fr.drew No y).trans hf3
                  have hS := HS3.out _ K3
                  refine hK.out _ _ hS (fun hH2 => ?_)
                  clear hK K hHeld
                  have hHeld := hH2
                  clear hH2 hS
                  try simp only [Act.put, List.setIfInBounds_toArray, List.set_cons_zero, List.set_cons_succ]
                  refine wpAnyH_take (i := 20) (oi := { dst := some 40, op := Op.pick (Operand.tmp 35) (Operand.tmp 39) (Operand.const (Value.bool false)), type := 4, pos := "ref.go:506", after := #[{ on := 15, ground := Ground.data }, { on := 19, ground := Ground.data }], guard := none }) (v := ?v20d) rfl (by kernel_rfl) (by kernel_rfl) (by kernel_rfl) (fun _ _ _ h => h) (Or.inl ⟨by rfl, ?hy20d⟩) hHeld ?nx20d
                  case hy20d => (intro w hSw; (try dsimp only at hSw); go_simp; try with_reducible rfl)
                  try simp only [Act.put, List.setIfInBounds_toArray, List.set_cons_zero, List.set_cons_succ]
                  refine wpAnyH_take (i := 21) (oi := { dst := some 41, op := Op.move (Operand.tmp 40), type := 4, pos := "ref.go:506", after := #[{ on := 20, ground := Ground.data }, { on := 19, ground := Ground.chain }], guard := none }) (v := ?v21d) rfl (by kernel_rfl) (by kernel_rfl) (by kernel_rfl) (fun _ _ _ h => h) (Or.inl ⟨by rfl, ?hy21d⟩) hHeld ?nx21d
                  case hy21d => (intro w hSw; (try dsimp only at hSw); go_simp; try with_reducible rfl)
                  try simp only [Act.put, List.setIfInBounds_toArray, List.set_cons_zero, List.set_cons_succ]
                  refine wpAnyH_take (i := 22) (oi := { dst := some 42, op := Op.move (Operand.tmp 7), type := 3, pos := "ref.go:506", after := #[{ on := 21, ground := Ground.guard }], guard := some (21, true) }) (v := ?v22d) rfl (by kernel_rfl) (by kernel_rfl) (by kernel_rfl) (fun _ _ _ h => h) (Or.inl ⟨by rfl, ?hy22d⟩) hHeld ?nx22d
                  case hy22d => (intro w hSw; (try dsimp only at hSw); go_simp; try with_reducible rfl)
                  try simp only [Act.put, List.setIfInBounds_toArray, List.set_cons_zero, List.set_cons_succ]
                  refine wpAnyH_take (i := 23) (oi := { dst := some 43, op := Op.binOp BinOp.lss 3 (Operand.tmp 42) (Operand.const (Value.int IntKind.i64 0)) 3, type := 4, pos := "ref.go:506", after := #[{ on := 22, ground := Ground.data }, { on := 21, ground := Ground.guard }], guard := some (21, true) }) (v := ?v23d) rfl (by kernel_rfl) (by kernel_rfl) (by kernel_rfl) (fun _ _ _ h => h) (Or.inl ⟨by rfl, ?hy23d⟩) hHeld ?nx23d
                  case hy23d => (intro w hSw; (try dsimp only at hSw); go_simp; try with_reducible rfl)
                  try simp only [Act.put, List.setIfInBounds_toArray, List.set_cons_zero, List.set_cons_succ]
                  refine wpAnyH_take (i := 24) (oi := { dst := some 44, op := Op.move (Operand.tmp 43), type := 4, pos := "ref.go:506", after := #[{ on := 23, ground := Ground.data }, { on := 21, ground := Ground.chain }, { on := 21, ground := Ground.guard }], guard := some (21, true) }) (v := ?v24d) rfl (by kernel_rfl) (by kernel_rfl) (by kernel_rfl) (fun _ _ _ h => h) (Or.inl ⟨by rfl, ?hy24d⟩) hHeld ?nx24d
                  case hy24d => (intro w hSw; (try dsimp only at hSw); go_simp; try with_reducible rfl)
                  try simp only [Act.put, List.setIfInBounds_toArray, List.set_cons_zero, List.set_cons_succ]
                  refine wpAnyH_take (i := 25) (oi := { dst := some 45, op := Op.fieldAddr 31 (Operand.tmp 9) 2, type := 0, pos := "ref.go:506", after := #[{ on := 24, ground := Ground.guard }], guard := some (24, false) }) (v := ?v25d) rfl (by kernel_rfl) (by kernel_rfl) (by kernel_rfl) (fun _ _ _ h => h) (Or.inl ⟨by rfl, ?hy25d⟩) hHeld ?nx25d
                  case hy25d => (intro w hSw; (try dsimp only at hSw); go_simp; try with_reducible rfl)
                  try simp only [Act.put, List.setIfInBounds_toArray, List.set_cons_zero, List.set_cons_succ]
                  refine wpAnyH_take (i := 26) (oi := { dst := some 46, op := Op.fieldAddr 29 (Operand.tmp 45) 1, type := 0, pos := "ref.go:506", after := #[{ on := 25, ground := Ground.data }, { on := 24, ground := Ground.guard }], guard := some (24, false) }) (v := ?v26d) rfl (by kernel_rfl) (by kernel_rfl) (by kernel_rfl) (fun _ _ _ h => h) (Or.inl ⟨by rfl, ?hy26d⟩) hHeld ?nx26d
                  case hy26d => (intro w hSw; (try dsimp only at hSw); go_simp; try with_reducible rfl)
                  try simp only [Act.put, List.setIfInBounds_toArray, List.set_cons_zero, List.set_cons_succ]
                  refine wpAnyH_take (i := 27) (oi := { dst := some 47, op := Op.load 3 (Operand.tmp 46), type := 3, pos := "ref.go:506", after := #[{ on := 26, ground := Ground.data }, { on := 24, ground := Ground.guard }], guard := some (24, false) }) (v := ?v27d) rfl (by kernel_rfl) (by kernel_rfl) (by kernel_rfl) (fun _ _ _ h => h) (Or.inl ⟨by rfl, ?hy27d⟩) hHeld ?nx27d
                  case hy27d => (intro w hSw; (try dsimp only at hSw); go_simp; try with_reducible rfl)
                  try simp only [Act.put, List.setIfInBounds_toArray, List.set_cons_zero, List.set_cons_succ]
                  refine wpAnyH_take (i := 28) (oi := { dst := some 48, op := Op.move (Operand.tmp 0), type := 22, pos := "ref.go:506", after := #[{ on := 24, ground := Ground.guard }], guard := some (24, false) }) (v := ?v28d) rfl (by kernel_rfl) (by kernel_rfl) (by kernel_rfl) (fun _ _ _ h => h) (Or.inl ⟨by rfl, ?hy28d⟩) hHeld ?nx28d
                  case hy28d => (intro w hSw; (try dsimp only at hSw); go_simp; try with_reducible rfl)
                  try simp only [Act.put, List.setIfInBounds_toArray, List.set_cons_zero, List.set_cons_succ]
                  refine wpAnyH_take (i := 29) (oi := { dst := some 49, op := Op.move (Operand.tmp 7), type := 3, pos := "ref.go:506", after := #[{ on := 24, ground := Ground.guard }], guard := some (24, false) }) (v := ?v29d) rfl (by kernel_rfl) (by kernel_rfl) (by kernel_rfl) (fun _ _ _ h => h) (Or.inl ⟨by rfl, ?hy29d⟩) hHeld ?nx29d
                  case hy29d => (intro w hSw; (try dsimp only at hSw); go_simp; try with_reducible rfl)
                  try simp only [Act.put, List.setIfInBounds_toArray, List.set_cons_zero, List.set_cons_succ]
                  refine wpAnyH_take (i := 30) (oi := { dst := some 50, op := Op.indexAddr 22 (Operand.tmp 48) (Operand.tmp 49), type := 0, pos := "ref.go:506", after := #[{ on := 28, ground := Ground.data }, { on := 29, ground := Ground.data }, { on := 24, ground := Ground.guard }], guard := some (24, false) }) (v := ?v30d) rfl (by kernel_rfl) (by kernel_rfl) (by kernel_rfl) (fun _ _ _ h => h) (Or.inl ⟨by rfl, ?hy30d⟩) hHeld ?nx30d
                  case hy30d => (intro w hSw; (try dsimp only at hSw); go_simp; try with_reducible rfl)
                  try simp only [Act.put, List.setIfInBounds_toArray, List.set_cons_zero, List.set_cons_succ]
                  refine wpAnyH_take (i := 31) (oi := { dst := some 51, op := Op.fieldAddr 31 (Operand.tmp 50) 2, type := 0, pos := "ref.go:506", after := #[{ on := 30, ground := Ground.data }, { on := 24, ground := Ground.guard }], guard := some (24, false) }) (v := ?v31d) rfl (by kernel_rfl) (by kernel_rfl) (by kernel_rfl) (fun _ _ _ h => h) (Or.inl ⟨by rfl, ?hy31d⟩) hHeld ?nx31d
                  case hy31d => (intro w hSw; (try dsimp only at hSw); go_simp; try with_reducible rfl)
                  try simp only [Act.put, List.setIfInBounds_toArray, List.set_cons_zero, List.set_cons_succ]
                  refine wpAnyH_take (i := 32) (oi := { dst := some 52, op := Op.fieldAddr 29 (Operand.tmp 51) 1, type := 0, pos := "ref.go:506", after := #[{ on := 31, ground := Ground.data }, { on := 24, ground := Ground.guard }], guard := some (24, false) }) (v := ?v32d) rfl (by kernel_rfl) (by kernel_rfl) (by kernel_rfl) (fun _ _ _ h => h) (Or.inl ⟨by rfl, ?hy32d⟩) hHeld ?nx32d
                  case hy32d => (intro w hSw; (try dsimp only at hSw); go_simp; try with_reducible rfl)
                  try simp only [Act.put, List.setIfInBounds_toArray, List.set_cons_zero, List.set_cons_succ]
                  refine wpAnyH_take (i := 33) (oi := { dst := some 53, op := Op.load 3 (Operand.tmp 52), type := 3, pos := "ref.go:506", after := #[{ on := 32, ground := Ground.data }, { on := 24, ground := Ground.guard }], guard := some (24, false) }) (v := ?v33d) rfl (by kernel_rfl) (by kernel_rfl) (by kernel_rfl) (fun _ _ _ h => h) (Or.inl ⟨by rfl, ?hy33d⟩) hHeld ?nx33d
                  case hy33d => (intro w hSw; (try dsimp only at hSw); go_simp; try with_reducible rfl)
                  try simp only [Act.put, List.setIfInBounds_toArray, List.set_cons_zero, List.set_cons_succ]
                  refine wpAnyH_take (i := 34) (oi := { dst := some 54, op := Op.binOp BinOp.gtr 3 (Operand.tmp 47) (Operand.tmp 53) 3, type := 4, pos := "ref.go:506", after := #[{ on := 27, ground := Ground.data }, { on := 33, ground := Ground.data }, { on := 24, ground := Ground.guard }], guard := some (24, false) }) (v := ?v34d) rfl (by kernel_rfl) (by kernel_rfl) (by kernel_rfl) (fun _ _ _ h => h) (Or.inl ⟨by rfl, ?hy34d⟩) hHeld ?nx34d
                  case hy34d => (intro w hSw; (try dsimp only at hSw); go_simp; try with_reducible rfl)
                  try simp only [Act.put, List.setIfInBounds_toArray, List.set_cons_zero, List.set_cons_succ]
                  refine wpAnyH_take (i := 35) (oi := { dst := some 55, op := Op.pick (Operand.tmp 44) (Operand.const (Value.bool true)) (Operand.tmp 54), type := 4, pos := "ref.go:506", after := #[{ on := 24, ground := Ground.data }, { on := 34, ground := Ground.data }, { on := 21, ground := Ground.guard }], guard := some (21, true) }) (v := ?v35d) rfl (by kernel_rfl) (by kernel_rfl) (by kernel_rfl) (fun _ _ _ h => h) (Or.inl ⟨by rfl, ?hy35d⟩) hHeld ?nx35d
                  case hy35d => (intro w hSw; (try dsimp only at hSw); go_simp; try with_reducible rfl)
                  try simp only [Act.put, List.setIfInBounds_toArray, List.set_cons_zero, List.set_cons_succ]
                  refine wpAnyH_take (i := 36) (oi := { dst := some 56, op := Op.pick (Operand.tmp 41) (Operand.tmp 55) (Operand.const (Value.bool false)), type := 4, pos := "ref.go:506", after := #[{ on := 21, ground := Ground.data }, { on := 35, ground := Ground.data }], guard := none }) (v := ?v36d) rfl (by kernel_rfl) (by kernel_rfl) (by kernel_rfl) (fun _ _ _ h => h) (Or.inl ⟨by rfl, ?hy36d⟩) hHeld ?nx36d
                  case hy36d => (intro w hSw; (try dsimp only at hSw); go_simp; try with_reducible rfl)
                  try simp only [Act.put, List.setIfInBounds_toArray, List.set_cons_zero, List.set_cons_succ]
                  refine wpAnyH_done (by kernel_rfl) ?_ _
                  refine NoPanic.normal ?_
                  go_wp2_with fail
                  go_roundg (n - i)
                  case measure => exact hig
                  case rel => exact ⟨i + 1, by go_num, by rw [HE.out], by omega, by omega, HY.out.trans K3⟩
          · have bh := decide_eq_false hh
            have HE : Hid (bN (mtA c ys port) kA L (i + 1) = bb) := by show _ = _; rw [HST.out]; simp [*]
            clear HST hsf htwo hl hh
            go_quiet (fail)
            go_wp2_with fail
            go_roundg (n - i)
            case measure => exact hig
            case rel => exact ⟨i + 1, by go_num, by rw [HE.out], by omega, by omega, HY.out.trans (Fr.drewN _ _ _)⟩
        · have bl := decide_eq_false hl
          have HE : Hid (bN (mtA c ys port) kA L (i + 1) = bb) := by show _ = _; rw [HST.out]; simp [*]
          clear HST hsf htwo hl
          go_quiet (fail)
          go_wp2_with fail
          go_roundg (n - i)
          case measure => exact hig
          case rel => exact ⟨i + 1, by go_num, by rw [HE.out], by omega, by omega, HY.out.trans (Fr.drewN _ _ _)⟩
      · rw [decide_eq_false hsf] at hemp HST
        have HE : Hid (bN (mtA c ys port) kA L (i + 1) = bb) := by show _ = _; rw [HST.out]; simp [*]
        clear HST hsf htwo
        go_quiet (fail)
        go_wp2_with fail
        go_roundg (n - i)
        case measure => exact hig
        case rel => exact ⟨i + 1, by go_num, by rw [HE.out], by omega, by omega, HY.out.trans (Fr.drewN _ _ _)⟩
    · obtain rfl : i = n := by omega
      go_wp2_with fail
      go_ret
      exact ⟨by rw [HVV.out]; try rfl, HW1.out.1.trans HR.out⟩
set_option maxHeartbeats 8000000 in
set_option maxRecDepth 100000 in
theorem matchn_ref (L : List Ru) (n : Nat) (hn : L.length = n) (hm : n ≤ 100000) (a : Option Addr) (cp : Nat) (nl : List UInt8) (port : Int) (w : World) (hr : RowR w a L) :
    Calls Tryz.prog 35 #[.slice a n cp, .string (bs nl), .int .i64 port] w fun e w' => e = .returned (.int .i64 (bV (mtN nl port) kN L)) ∧ Fr No w w' := by
  obtain ⟨Z, hZ⟩ : ∃ Z : Array Value, (ruC zRu).toArray = Z := ⟨_, rfl⟩
  have v30 := zero31
  rw [hZ] at v30
  have hZs : Z.size = 22 := by rw [← hZ]; rfl
  have HR0 := Lib.hid hr
  have HN := Lib.hid hn
  have HVV : Hid (bV (mtN nl port) kN L = bN (mtN nl port) kN L n) := by show _ = _; rw [← hn]; rfl
  have HSU := Lib.hid (sub_ref nl)
  obtain ⟨sn, hsn⟩ : ∃ sn, bs nl = sn := ⟨_, rfl⟩
  rw [hsn] at HSU ⊢
  clear hsn
  clear hr hZ hn
  go_enter Tryz.func35, Tryz.ntmps35
  have t3 := Tryz.underlying3
  have u3 := Tryz.runUnderlying3
  have g3 := Tryz.isAgg3
  have z3 := Tryz.sizeOf3
  have t4 := Tryz.underlying4
  have u4 := Tryz.runUnderlying4
  have g4 := Tryz.isAgg4
  have z4 := Tryz.sizeOf4
  have t9 := Tryz.underlying9
  have u9 := Tryz.runUnderlying9
  have g9 := Tryz.isAgg9
  have z9 := Tryz.sizeOf9
  have t22 := Tryz.underlying22
  have u22 := Tryz.runUnderlying22
  have g22 := Tryz.isAgg22
  have z22 := Tryz.sizeOf22
  have t25 := Tryz.underlying25
  have u25 := Tryz.runUnderlying25
  have g25 := Tryz.isAgg25
  have z25 := Tryz.sizeOf25
  have t29 := Tryz.underlying29
  have u29 := Tryz.runUnderlying29
  have g29 := Tryz.isAgg29
  have z29 := Tryz.sizeOf29
  have t31 := Tryz.underlying31
  have u31 := Tryz.runUnderlying31
  have g31 := Tryz.isAgg31
  have z31 := Tryz.sizeOf31
  have c57 := Tryz.call57
  have c58 := Tryz.call58
  have mixed : Tryz.prog.follows .mixedOrders = true := by kernel_rfl
  obtain ⟨k24, hk24⟩ : ∃ k, k = 17 := ⟨_, rfl⟩
  rw [← hk24] at z25
  have nk24 : ¬ k24 = 0 := by omega
  have HK25 := Lib.hid hk24
  obtain ⟨k40, hk40⟩ : ∃ k, k = 18 := ⟨_, rfl⟩
  rw [← hk40] at z29
  have nk40 : ¬ k40 = 0 := by omega
  have HK29 := Lib.hid hk40
  obtain ⟨k22, hk22⟩ : ∃ k, k = 22 := ⟨_, rfl⟩
  rw [← hk22] at z31
  have nk22 : ¬ k22 = 0 := by omega
  have HK31 := Lib.hid hk22
  have hP : Tryz.prog = PD := rfl
  rw [hP] at t3 u3 g3 z3 t4 u4 g4 z4 t9 u9 g9 z9 t22 u22 g22 z22 t25 u25 g25 z25 t29 u29 g29 z29 t31 u31 g31 z31 c57 c58 mixed v30 ⊢
  have HP := Lib.hid hP.symm
  clear hP hk24 hk40 hk22
  have hZk : Z.size = k22 := by rw [HK31.out]; exact hZs
  clear hZs
  have HW1 : Hid (Fr No w w) := Fr.refl _ _
  go_wp2_with fail
  go_loopg [8, 7] (n + 1) (fun g s8 s7 wr => ∃ (i : Nat), s8 = .int .i64 i ∧ s7 = .int .i64 (bN (mtN nl port) kN L i) ∧ i ≤ n ∧ n - i < g ∧ Hid (Fr No w wr))
  case atStart => exact ⟨0, by go_num, rfl, by omega, by omega, Fr.refl _ _⟩
  case round =>
    obtain ⟨i, rfl, rfl, hin, hig, HR⟩ := hrel
    by_cases hi : i < n
    · have p1 : (0 : Int) ≤ (i : Int) := by omega
      have p2 : (i : Int) < (n : Int) := by omega
      obtain ⟨r, hr⟩ : ∃ r, L[i]? = some r := ⟨_, List.getElem?_eq_getElem (by rw [HN.out]; exact hi)⟩
      have hrow := HR0.out.no (HW1.out.trans HR.out)
      obtain ⟨b, o, rfl, hb, hcell⟩ := hrow.cell hr
      obtain ⟨R, hR, hRs, -, -, -, -, -, hRP, hR1⟩ := ru_letter r hb
      have hRk : R.size = k22 := by rw [HK31.out]; exact hRs
      have l1 : Sem.run PD (loadCellsFrom ⟨b, o + i * k22, none⟩ 0 k22 #[]) wr = .ok R wr := by rw [HK31.out, ← hR]; exact (hcell wr (Fr.refl _ _)).1 PD
      obtain ⟨y, hst, hyb, hyf⟩ := store_all (P := PD) R.toList (heap_alloc_new wr (.cells Z 31)) (by rw [Array.length_toList, hRk, hZk]) hR1
      have hyb' : y.heap[wr.heap.size]? = some (.cells R 31 (0, 0)) := by simpa using hyb
      have hfy : Fr No wr y := (Fr.alloc No wr _).ofNew hyf fun k hk => .inr (by rw [hk]; exact Nat.le_refl _)
      go_upto_region 6 with fail
      obtain ⟨g, hg⟩ : ∃ g, wr.heap.size = g := ⟨_, rfl⟩
      rw [hg] at hyb' ⊢
      obtain ⟨hi', hhi⟩ : ∃ hi', r.hi = hi' := ⟨_, rfl⟩
      obtain ⟨lo, hlo⟩ : ∃ lo, r.lo = lo := ⟨_, rfl⟩
      have HC := Lib.hid (HSU.out r.sf)
      have HCN := Lib.hid (cnt_ref r.sf)
      obtain ⟨sr, hsr⟩ : ∃ sr, bs r.sf = sr := ⟨_, rfl⟩
      rw [hsr] at HC HCN
      have HS : Hid (∀ w', Fr No y w' → Fr No y w' ∧ w'.cell? ⟨g, 1, none⟩ = some (.string sr) ∧ w'.cell? ⟨g, 20, none⟩ = some (.int .i64 lo) ∧ w'.cell? ⟨g, 21, none⟩ = some (.int .i64 hi')) := fun w' hf => by
        obtain ⟨-, d1, d19, d20, d21⟩ := ru_box r hb hR w' g _ (hf.keep hyb')
        rw [hsr] at d1; rw [hlo] at d20; rw [hhi] at d21
        exact ⟨hf, d1, d20, d21⟩
      have HM : Hid (mtN nl port r = (!decide (r.sf = []) && (decide (lo ≤ port) && decide (port ≤ hi')) && subV nl r.sf)) := by show _ = _; unfold mtN apl; rw [hlo, hhi]; simp
      have HST := Lib.hid (bN_step (m := mtN nl port) (k := kN) hr)
      obtain ⟨pn, hpn⟩ : ∃ pn, ((cntV r.sf : Nat) : Int) = pn := ⟨_, rfl⟩
      have hkr : kN r = pn := hpn
      rw [HM.out, hkr] at HST
      rw [hpn] at HCN
      generalize subV nl r.sf = hs at HC HST
      have htwo := bN_two (mtN nl port) kN L i (by rw [HN.out]; omega)
      have hemp := bs_empty r.sf
      rw [hsr] at hemp
      have HY : Hid (Fr No w y) := HR.out.trans hfy
      obtain ⟨bb, hbb⟩ : ∃ bb, bN (mtN nl port) kN L i = bb := ⟨_, rfl⟩
      rw [hbb] at HST htwo ⊢
      have hS0 := HS.out _ (Fr.drew No y)
      obtain ⟨s0, s1, s2, s3⟩ := HS.out y (Fr.refl _ _)
      have HRC := Lib.hid hrow
      have HFY := Lib.hid hfy
      clear hyb hyb' hyf hfy hr hcell hb hR1 hRs hR hhi hlo hpn hsr hbb hrow l1 hst hRk hRP HM hg hkr s0
      by_cases hsf : r.sf = []
      · rw [decide_eq_true hsf] at hemp HST
        have HE : Hid (bN (mtN nl port) kN L (i + 1) = bb) := by show _ = _; rw [HST.out]; simp [*]
        clear HST hsf htwo
        go_quiet (fail)
        go_wp2_with fail
        go_roundg (n - i)
        case measure => exact hig
        case rel => exact ⟨i + 1, by go_num, by rw [HE.out], by omega, by omega, HY.out.trans (Fr.drewN _ _ _)⟩
      · rw [decide_eq_false hsf] at hemp HST
        by_cases hl : lo ≤ port
        · have bl := decide_eq_true hl
          by_cases hh : port ≤ hi'
          · have bh := decide_eq_true hh
            cases hs with
            | false =>
              have HE : Hid (bN (mtN nl port) kN L (i + 1) = bb) := by show _ = _; rw [HST.out]; simp [*]
              clear HST hsf htwo hl hh
              refine wp_region_noPanic ?_
              refine wp_region_held_drew (S := (fun w' : World => Fr No y w' ∧ w'.cell? ⟨g, 1, none⟩ = some (.string sr) ∧ w'.cell? ⟨g, 20, none⟩ = some (.int .i64 lo) ∧ w'.cell? ⟨g, 21, none⟩ = some (.int .i64 hi'))) (by kernel_rfl) hS0 (fun hHeld => ?_)
              refine wpAnyH_take (i := 0) (oi := { dst := some 20, op := Op.fieldAddr 31 (Operand.tmp 9) 1, type := 0, pos := "ref.go:524", after := #[], guard := none }) (v := ?v0) rfl (by kernel_rfl) (by kernel_rfl) (by kernel_rfl) (fun _ _ _ h => h) (Or.inl ⟨by rfl, ?hy0⟩) hHeld ?nx0
              case hy0 => (intro w hSw; (try dsimp only at hSw); go_simp; try with_reducible rfl)
              try simp only [Act.put, List.setIfInBounds_toArray, List.set_cons_zero, List.set_cons_succ]
              refine wpAnyH_take (i := 1) (oi := { dst := some 21, op := Op.load 9 (Operand.tmp 20), type := 9, pos := "ref.go:524", after := #[{ on := 0, ground := Ground.data }], guard := none }) (v := ?v1) rfl (by kernel_rfl) (by kernel_rfl) (by kernel_rfl) (fun _ _ _ h => h) (Or.inl ⟨by rfl, ?hy1⟩) hHeld ?nx1
              case hy1 => (intro w hSw; (try dsimp only at hSw); go_simp; try with_reducible rfl)
              try simp only [Act.put, List.setIfInBounds_toArray, List.set_cons_zero, List.set_cons_succ]
              refine wpAnyH_take (i := 2) (oi := { dst := some 22, op := Op.binOp BinOp.neq 9 (Operand.tmp 21) (Operand.const (Value.string { data := #[] })) 9, type := 4, pos := "ref.go:524", after := #[{ on := 1, ground := Ground.data }], guard := none }) (v := ?v2) rfl (by kernel_rfl) (by kernel_rfl) (by kernel_rfl) (fun _ _ _ h => h) (Or.inl ⟨by rfl, ?hy2⟩) hHeld ?nx2
              case hy2 => (intro w hSw; (try dsimp only at hSw); go_simp; try with_reducible rfl)
              try simp only [Act.put, List.setIfInBounds_toArray, List.set_cons_zero, List.set_cons_succ]
              refine wpAnyH_take (i := 3) (oi := { dst := some 23, op := Op.move (Operand.tmp 22), type := 4, pos := "ref.go:524", after := #[{ on := 2, ground := Ground.data }], guard := none }) (v := ?v3) rfl (by kernel_rfl) (by kernel_rfl) (by kernel_rfl) (fun _ _ _ h => h) (Or.inl ⟨by rfl, ?hy3⟩) hHeld ?nx3
              case hy3 => (intro w hSw; (try dsimp only at hSw); go_simp; try with_reducible rfl)
              try simp only [Act.put, List.setIfInBounds_toArray, List.set_cons_zero, List.set_cons_succ]
              refine wpAnyH_take (i := 4) (oi := { dst := some 24, op := Op.move (Operand.tmp 2), type := 3, pos := "ref.go:524", after := #[{ on := 3, ground := Ground.guard }], guard := some (3, true) }) (v := ?v4) rfl (by kernel_rfl) (by kernel_rfl) (by kernel_rfl) (fun _ _ _ h => h) (Or.inl ⟨by rfl, ?hy4⟩) hHeld ?nx4
              case hy4 => (intro w hSw; (try dsimp only at hSw); go_simp; try with_reducible rfl)
              try simp only [Act.put, List.setIfInBounds_toArray, List.set_cons_zero, List.set_cons_succ]
              refine wpAnyH_take (i := 5) (oi := { dst := some 25, op := Op.fieldAddr 31 (Operand.tmp 9) 3, type := 0, pos := "ref.go:524", after := #[{ on := 3, ground := Ground.guard }], guard := some (3, true) }) (v := ?v5) rfl (by kernel_rfl) (by kernel_rfl) (by kernel_rfl) (fun _ _ _ h => h) (Or.inl ⟨by rfl, ?hy5⟩) hHeld ?nx5
              case hy5 => (intro w hSw; (try dsimp only at hSw); go_simp; try with_reducible rfl)
              try simp only [Act.put, List.setIfInBounds_toArray, List.set_cons_zero, List.set_cons_succ]
              refine wpAnyH_take (i := 6) (oi := { dst := some 26, op := Op.load 3 (Operand.tmp 25), type := 3, pos := "ref.go:524", after := #[{ on := 5, ground := Ground.data }, { on := 3, ground := Ground.guard }], guard := some (3, true) }) (v := ?v6) rfl (by kernel_rfl) (by kernel_rfl) (by kernel_rfl) (fun _ _ _ h => h) (Or.inl ⟨by rfl, ?hy6⟩) hHeld ?nx6
              case hy6 => (intro w hSw; (try dsimp only at hSw); go_simp; try with_reducible rfl)
              try simp only [Act.put, List.setIfInBounds_toArray, List.set_cons_zero, List.set_cons_succ]
              refine wpAnyH_take (i := 7) (oi := { dst := some 27, op := Op.binOp BinOp.geq 3 (Operand.tmp 24) (Operand.tmp 26) 3, type := 4, pos := "ref.go:524", after := #[{ on := 4, ground := Ground.data }, { on := 6, ground := Ground.data }, { on := 3, ground := Ground.guard }], guard := some (3, true) }) (v := ?v7) rfl (by kernel_rfl) (by kernel_rfl) (by kernel_rfl) (fun _ _ _ h => h) (Or.inl ⟨by rfl, ?hy7⟩) hHeld ?nx7
              case hy7 => (intro w hSw; (try dsimp only at hSw); go_simp; try with_reducible rfl)
              try simp only [Act.put, List.setIfInBounds_toArray, List.set_cons_zero, List.set_cons_succ]
              refine wpAnyH_take (i := 8) (oi := { dst := some 28, op := Op.pick (Operand.tmp 23) (Operand.tmp 27) (Operand.const (Value.bool false)), type := 4, pos := "ref.go:524", after := #[{ on := 3, ground := Ground.data }, { on := 7, ground := Ground.data }], guard := none }) (v := ?v8) rfl (by kernel_rfl) (by kernel_rfl) (by kernel_rfl) (fun _ _ _ h => h) (Or.inl ⟨by rfl, ?hy8⟩) hHeld ?nx8
              case hy8 => (intro w hSw; (try dsimp only at hSw); go_simp; try with_reducible rfl)
              try simp only [Act.put, List.setIfInBounds_toArray, List.set_cons_zero, List.set_cons_succ]
              refine wpAnyH_take (i := 9) (oi := { dst := some 29, op := Op.move (Operand.tmp 28), type := 4, pos := "ref.go:524", after := #[{ on := 8, ground := Ground.data }, { on := 3, ground := Ground.chain }], guard := none }) (v := ?v9) rfl (by kernel_rfl) (by kernel_rfl) (by kernel_rfl) (fun _ _ _ h => h) (Or.inl ⟨by rfl, ?hy9⟩) hHeld ?nx9
              case hy9 => (intro w hSw; (try dsimp only at hSw); go_simp; try with_reducible rfl)
              try simp only [Act.put, List.setIfInBounds_toArray, List.set_cons_zero, List.set_cons_succ]
              refine wpAnyH_take (i := 10) (oi := { dst := some 30, op := Op.move (Operand.tmp 2), type := 3, pos := "ref.go:524", after := #[{ on := 9, ground := Ground.guard }], guard := some (9, true) }) (v := ?v10) rfl (by kernel_rfl) (by kernel_rfl) (by kernel_rfl) (fun _ _ _ h => h) (Or.inl ⟨by rfl, ?hy10⟩) hHeld ?nx10
              case hy10 => (intro w hSw; (try dsimp only at hSw); go_simp; try with_reducible rfl)
              try simp only [Act.put, List.setIfInBounds_toArray, List.set_cons_zero, List.set_cons_succ]
              refine wpAnyH_take (i := 11) (oi := { dst := some 31, op := Op.fieldAddr 31 (Operand.tmp 9) 4, type := 0, pos := "ref.go:524", after := #[{ on := 9, ground := Ground.guard }], guard := some (9, true) }) (v := ?v11) rfl (by kernel_rfl) (by kernel_rfl) (by kernel_rfl) (fun _ _ _ h => h) (Or.inl ⟨by rfl, ?hy11⟩) hHeld ?nx11
              case hy11 => (intro w hSw; (try dsimp only at hSw); go_simp; try with_reducible rfl)
              try simp only [Act.put, List.setIfInBounds_toArray, List.set_cons_zero, List.set_cons_succ]
              refine wpAnyH_take (i := 12) (oi := { dst := some 32, op := Op.load 3 (Operand.tmp 31), type := 3, pos := "ref.go:524", after := #[{ on := 11, ground := Ground.data }, { on := 9, ground := Ground.guard }], guard := some (9, true) }) (v := ?v12) rfl (by kernel_rfl) (by kernel_rfl) (by kernel_rfl) (fun _ _ _ h => h) (Or.inl ⟨by rfl, ?hy12⟩) hHeld ?nx12
              case hy12 => (intro w hSw; (try dsimp only at hSw); go_simp; try with_reducible rfl)
              try simp only [Act.put, List.setIfInBounds_toArray, List.set_cons_zero, List.set_cons_succ]
              refine wpAnyH_take (i := 13) (oi := { dst := some 33, op := Op.binOp BinOp.leq 3 (Operand.tmp 30) (Operand.tmp 32) 3, type := 4, pos := "ref.go:524", after := #[{ on := 10, ground := Ground.data }, { on := 12, ground := Ground.data }, { on := 9, ground := Ground.guard }], guard := some (9, true) }) (v := ?v13) rfl (by kernel_rfl) (by kernel_rfl) (by kernel_rfl) (fun _ _ _ h => h) (Or.inl ⟨by rfl, ?hy13⟩) hHeld ?nx13
              case hy13 => (intro w hSw; (try dsimp only at hSw); go_simp; try with_reducible rfl)
              try simp only [Act.put, List.setIfInBounds_toArray, List.set_cons_zero, List.set_cons_succ]
              refine wpAnyH_take (i := 14) (oi := { dst := some 34, op := Op.pick (Operand.tmp 29) (Operand.tmp 33) (Operand.const (Value.bool false)), type := 4, pos := "ref.go:524", after := #[{ on := 9, ground := Ground.data }, { on := 13, ground := Ground.data }], guard := none }) (v := ?v14) rfl (by kernel_rfl) (by kernel_rfl) (by kernel_rfl) (fun _ _ _ h => h) (Or.inl ⟨by rfl, ?hy14⟩) hHeld ?nx14
              case hy14 => (intro w hSw; (try dsimp only at hSw); go_simp; try with_reducible rfl)
              try simp only [Act.put, List.setIfInBounds_toArray, List.set_cons_zero, List.set_cons_succ]
              refine wpAnyH_take (i := 15) (oi := { dst := some 35, op := Op.move (Operand.tmp 34), type := 4, pos := "ref.go:524", after := #[{ on := 14, ground := Ground.data }, { on := 9, ground := Ground.chain }], guard := none }) (v := ?v15) rfl (by kernel_rfl) (by kernel_rfl) (by kernel_rfl) (fun _ _ _ h => h) (Or.inl ⟨by rfl, ?hy15⟩) hHeld ?nx15
              case hy15 => (intro w hSw; (try dsimp only at hSw); go_simp; try with_reducible rfl)
              try simp only [Act.put, List.setIfInBounds_toArray, List.set_cons_zero, List.set_cons_succ]
              refine wpAnyH_take (i := 16) (oi := { dst := some 36, op := Op.move (Operand.tmp 1), type := 9, pos := "ref.go:524", after := #[{ on := 15, ground := Ground.guard }], guard := some (15, true) }) (v := ?v16) rfl (by kernel_rfl) (by kernel_rfl) (by kernel_rfl) (fun _ _ _ h => h) (Or.inl ⟨by rfl, ?hy16⟩) hHeld ?nx16
              case hy16 => (intro w hSw; (try dsimp only at hSw); go_simp; try with_reducible rfl)
              try simp only [Act.put, List.setIfInBounds_toArray, List.set_cons_zero, List.set_cons_succ]
              refine wpAnyH_take (i := 17) (oi := { dst := some 37, op := Op.fieldAddr 31 (Operand.tmp 9) 1, type := 0, pos := "ref.go:524", after := #[{ on := 15, ground := Ground.guard }], guard := some (15, true) }) (v := ?v17) rfl (by kernel_rfl) (by kernel_rfl) (by kernel_rfl) (fun _ _ _ h => h) (Or.inl ⟨by rfl, ?hy17⟩) hHeld ?nx17
              case hy17 => (intro w hSw; (try dsimp only at hSw); go_simp; try with_reducible rfl)
              try simp only [Act.put, List.setIfInBounds_toArray, List.set_cons_zero, List.set_cons_succ]
              refine wpAnyH_take (i := 18) (oi := { dst := some 38, op := Op.load 9 (Operand.tmp 37), type := 9, pos := "ref.go:524", after := #[{ on := 17, ground := Ground.data }, { on := 15, ground := Ground.guard }], guard := some (15, true) }) (v := ?v18) rfl (by kernel_rfl) (by kernel_rfl) (by kernel_rfl) (fun _ _ _ h => h) (Or.inl ⟨by rfl, ?hy18⟩) hHeld ?nx18
              case hy18 => (intro w hSw; (try dsimp only at hSw); go_simp; try with_reducible rfl)
              try simp only [Act.put, List.setIfInBounds_toArray, List.set_cons_zero, List.set_cons_succ]
              refine wpAnyH_ready (rs := [19]) (by kernel_rfl) (by simp) ?_
              refine AllReadyH.cons (o := { dst := some 39, op := Op.call { callee := Callee.value (Operand.func 57), args := #[Operand.tmp 36, Operand.tmp 38], argTypes := #[9, 9] }, type := 4, pos := "ref.go:524", after := #[{ on := 16, ground := Ground.data }, { on := 18, ground := Ground.data }, { on := 15, ground := Ground.chain }, { on := 15, ground := Ground.guard }], guard := some (15, true) }) rfl (fun K hK => ?_) AllReadyH.nil
              go_simp
              go_at_call 57
              refine (at_prog HP.out (HC.out _)).mono ?_
              rintro e w3 ⟨rfl, hf3⟩
              have K3 : Fr No y w3 := (Fr.drew No y).trans hf3
              have hS := HS.out _ K3
              refine hK.out _ _ hS (fun hH2 => ?_)
              clear hK K hHeld
              have hHeld := hH2
              clear hH2 hS
              try simp only [Act.put, List.setIfInBounds_toArray, List.set_cons_zero, List.set_cons_succ]
              refine wpAnyH_take (i := 20) (oi := { dst := some 40, op := Op.pick (Operand.tmp 35) (Operand.tmp 39) (Operand.const (Value.bool false)), type := 4, pos := "ref.go:524", after := #[{ on := 15, ground := Ground.data }, { on := 19, ground := Ground.data }], guard := none }) (v := ?v20) rfl (by kernel_rfl) (by kernel_rfl) (by kernel_rfl) (fun _ _ _ h => h) (Or.inl ⟨by rfl, ?hy20⟩) hHeld ?nx20
              case hy20 => (intro w hSw; (try dsimp only at hSw); go_simp; try with_reducible rfl)
              try simp only [Act.put, List.setIfInBounds_toArray, List.set_cons_zero, List.set_cons_succ]
              refine wpAnyH_take (i := 21) (oi := { dst := some 41, op := Op.move (Operand.tmp 40), type := 4, pos := "ref.go:524", after := #[{ on := 20, ground := Ground.data }, { on := 19, ground := Ground.chain }], guard := none }) (v := ?v21) rfl (by kernel_rfl) (by kernel_rfl) (by kernel_rfl) (fun _ _ _ h => h) (Or.inl ⟨by rfl, ?hy21⟩) hHeld ?nx21
              case hy21 => (intro w hSw; (try dsimp only at hSw); go_simp; try with_reducible rfl)
              try simp only [Act.put, List.setIfInBounds_toArray, List.set_cons_zero, List.set_cons_succ]
              refine wpAnyH_take (i := 22) (oi := { dst := some 42, op := Op.move (Operand.tmp 7), type := 3, pos := "ref.go:524", after := #[{ on := 21, ground := Ground.guard }], guard := some (21, true) }) (v := undef) rfl (by kernel_rfl) (by kernel_rfl) (by kernel_rfl) (fun _ _ _ h => h) (Or.inr ⟨by rfl, rfl⟩) hHeld ?nx22
              try simp only [Act.put, List.setIfInBounds_toArray, List.set_cons_zero, List.set_cons_succ]
              refine wpAnyH_take (i := 23) (oi := { dst := some 43, op := Op.binOp BinOp.lss 3 (Operand.tmp 42) (Operand.const (Value.int IntKind.i64 0)) 3, type := 4, pos := "ref.go:524", after := #[{ on := 22, ground := Ground.data }, { on := 21, ground := Ground.guard }], guard := some (21, true) }) (v := undef) rfl (by kernel_rfl) (by kernel_rfl) (by kernel_rfl) (fun _ _ _ h => h) (Or.inr ⟨by rfl, rfl⟩) hHeld ?nx23
              try simp only [Act.put, List.setIfInBounds_toArray, List.set_cons_zero, List.set_cons_succ]
              refine wpAnyH_take (i := 24) (oi := { dst := some 44, op := Op.move (Operand.tmp 43), type := 4, pos := "ref.go:524", after := #[{ on := 23, ground := Ground.data }, { on := 21, ground := Ground.chain }, { on := 21, ground := Ground.guard }], guard := some (21, true) }) (v := undef) rfl (by kernel_rfl) (by kernel_rfl) (by kernel_rfl) (fun _ _ _ h => h) (Or.inr ⟨by rfl, rfl⟩) hHeld ?nx24
              try simp only [Act.put, List.setIfInBounds_toArray, List.set_cons_zero, List.set_cons_succ]
              refine wpAnyH_take (i := 25) (oi := { dst := some 45, op := Op.fieldAddr 31 (Operand.tmp 9) 1, type := 0, pos := "ref.go:524", after := #[{ on := 24, ground := Ground.guard }], guard := some (24, false) }) (v := undef) rfl (by kernel_rfl) (by kernel_rfl) (by kernel_rfl) (fun _ _ _ h => h) (Or.inr ⟨by rfl, rfl⟩) hHeld ?nx25
              try simp only [Act.put, List.setIfInBounds_toArray, List.set_cons_zero, List.set_cons_succ]
              refine wpAnyH_take (i := 26) (oi := { dst := some 46, op := Op.load 9 (Operand.tmp 45), type := 9, pos := "ref.go:524", after := #[{ on := 25, ground := Ground.data }, { on := 24, ground := Ground.guard }], guard := some (24, false) }) (v := undef) rfl (by kernel_rfl) (by kernel_rfl) (by kernel_rfl) (fun _ _ _ h => h) (Or.inr ⟨by rfl, rfl⟩) hHeld ?nx26
              try simp only [Act.put, List.setIfInBounds_toArray, List.set_cons_zero, List.set_cons_succ]
              refine wpAnyH_take (i := 27) (oi := { dst := some 47, op := Op.call { callee := Callee.value (Operand.func 58), args := #[Operand.tmp 46], argTypes := #[9] }, type := 3, pos := "ref.go:524", after := #[{ on := 26, ground := Ground.data }, { on := 24, ground := Ground.chain }, { on := 24, ground := Ground.guard }], guard := some (24, false) }) (v := undef) rfl (by kernel_rfl) (by kernel_rfl) (by kernel_rfl) (fun _ _ _ h => h) (Or.inr ⟨by rfl, rfl⟩) hHeld ?nx27
              try simp only [Act.put, List.setIfInBounds_toArray, List.set_cons_zero, List.set_cons_succ]
              refine wpAnyH_take (i := 28) (oi := { dst := some 48, op := Op.move (Operand.tmp 0), type := 22, pos := "ref.go:524", after := #[{ on := 24, ground := Ground.guard }], guard := some (24, false) }) (v := undef) rfl (by kernel_rfl) (by kernel_rfl) (by kernel_rfl) (fun _ _ _ h => h) (Or.inr ⟨by rfl, rfl⟩) hHeld ?nx28
              try simp only [Act.put, List.setIfInBounds_toArray, List.set_cons_zero, List.set_cons_succ]
              refine wpAnyH_take (i := 29) (oi := { dst := some 49, op := Op.move (Operand.tmp 7), type := 3, pos := "ref.go:524", after := #[{ on := 24, ground := Ground.guard }], guard := some (24, false) }) (v := undef) rfl (by kernel_rfl) (by kernel_rfl) (by kernel_rfl) (fun _ _ _ h => h) (Or.inr ⟨by rfl, rfl⟩) hHeld ?nx29
              try simp only [Act.put, List.setIfInBounds_toArray, List.set_cons_zero, List.set_cons_succ]
              refine wpAnyH_take (i := 30) (oi := { dst := some 50, op := Op.indexAddr 22 (Operand.tmp 48) (Operand.tmp 49), type := 0, pos := "ref.go:524", after := #[{ on := 28, ground := Ground.data }, { on := 29, ground := Ground.data }, { on := 24, ground := Ground.guard }], guard := some (24, false) }) (v := undef) rfl (by kernel_rfl) (by kernel_rfl) (by kernel_rfl) (fun _ _ _ h => h) (Or.inr ⟨by rfl, rfl⟩) hHeld ?nx30
              try simp only [Act.put, List.setIfInBounds_toArray, List.set_cons_zero, List.set_cons_succ]
              refine wpAnyH_take (i := 31) (oi := { dst := some 51, op := Op.fieldAddr 31 (Operand.tmp 50) 1, type := 0, pos := "ref.go:524", after := #[{ on := 30, ground := Ground.data }, { on := 24, ground := Ground.guard }], guard := some (24, false) }) (v := undef) rfl (by kernel_rfl) (by kernel_rfl) (by kernel_rfl) (fun _ _ _ h => h) (Or.inr ⟨by rfl, rfl⟩) hHeld ?nx31
              try simp only [Act.put, List.setIfInBounds_toArray, List.set_cons_zero, List.set_cons_succ]
              refine wpAnyH_take (i := 32) (oi := { dst := some 52, op := Op.load 9 (Operand.tmp 51), type := 9, pos := "ref.go:524", after := #[{ on := 31, ground := Ground.data }, { on := 24, ground := Ground.guard }], guard := some (24, false) }) (v := undef) rfl (by kernel_rfl) (by kernel_rfl) (by kernel_rfl) (fun _ _ _ h => h) (Or.inr ⟨by rfl, rfl⟩) hHeld ?nx32
              try simp only [Act.put, List.setIfInBounds_toArray, List.set_cons_zero, List.set_cons_succ]
              refine wpAnyH_take (i := 33) (oi := { dst := some 53, op := Op.call { callee := Callee.value (Operand.func 58), args := #[Operand.tmp 52], argTypes := #[9] }, type := 3, pos := "ref.go:524", after := #[{ on := 32, ground := Ground.data }, { on := 27, ground := Ground.chain }, { on := 24, ground := Ground.guard }], guard := some (24, false) }) (v := undef) rfl (by kernel_rfl) (by kernel_rfl) (by kernel_rfl) (fun _ _ _ h => h) (Or.inr ⟨by rfl, rfl⟩) hHeld ?nx33
              try simp only [Act.put, List.setIfInBounds_toArray, List.set_cons_zero, List.set_cons_succ]
              refine wpAnyH_take (i := 34) (oi := { dst := some 54, op := Op.binOp BinOp.gtr 3 (Operand.tmp 47) (Operand.tmp 53) 3, type := 4, pos := "ref.go:524", after := #[{ on := 27, ground := Ground.data }, { on := 33, ground := Ground.data }, { on := 24, ground := Ground.guard }], guard := some (24, false) }) (v := undef) rfl (by kernel_rfl) (by kernel_rfl) (by kernel_rfl) (fun _ _ _ h => h) (Or.inr ⟨by rfl, rfl⟩) hHeld ?nx34
              try simp only [Act.put, List.setIfInBounds_toArray, List.set_cons_zero, List.set_cons_succ]
              refine wpAnyH_take (i := 35) (oi := { dst := some 55, op := Op.pick (Operand.tmp 44) (Operand.const (Value.bool true)) (Operand.tmp 54), type := 4, pos := "ref.go:524", after := #[{ on := 24, ground := Ground.data }, { on := 34, ground := Ground.data }, { on := 21, ground := Ground.guard }], guard := some (21, true) }) (v := undef) rfl (by kernel_rfl) (by kernel_rfl) (by kernel_rfl) (fun _ _ _ h => h) (Or.inr ⟨by rfl, rfl⟩) hHeld ?nx35
              try simp only [Act.put, List.setIfInBounds_toArray, List.set_cons_zero, List.set_cons_succ]
              refine wpAnyH_take (i := 36) (oi := { dst := some 56, op := Op.pick (Operand.tmp 41) (Operand.tmp 55) (Operand.const (Value.bool false)), type := 4, pos := "ref.go:524", after := #[{ on := 21, ground := Ground.data }, { on := 35, ground := Ground.data }], guard := none }) (v := ?v36) rfl (by kernel_rfl) (by kernel_rfl) (by kernel_rfl) (fun _ _ _ h => h) (Or.inl ⟨by rfl, ?hy36⟩) hHeld ?nx36
              case hy36 => (intro w hSw; (try dsimp only at hSw); go_simp; try with_reducible rfl)
              try simp only [Act.put, List.setIfInBounds_toArray, List.set_cons_zero, List.set_cons_succ]
              refine wpAnyH_done (by kernel_rfl) ?_ _
              refine NoPanic.normal ?_
              go_wp2_with fail
              go_roundg (n - i)
              case measure => exact hig
              case rel => exact ⟨i + 1, by go_num, by rw [HE.out], by omega, by omega, HY.out.trans K3⟩
            | true =>
              rcases htwo with rfl | ⟨t, q, rfl, htl, hq, -⟩
              · have HE : Hid (bN (mtN nl port) kN L (i + 1) = (i : Int)) := by show _ = _; rw [HST.out]; simp [*]
                clear HST hsf hl hh
                refine wp_region_noPanic ?_
                refine wp_region_held_drew (S := (fun w' : World => Fr No y w' ∧ w'.cell? ⟨g, 1, none⟩ = some (.string sr) ∧ w'.cell? ⟨g, 20, none⟩ = some (.int .i64 lo) ∧ w'.cell? ⟨g, 21, none⟩ = some (.int .i64 hi'))) (by kernel_rfl) hS0 (fun hHeld => ?_)
                refine wpAnyH_take (i := 0) (oi := { dst := some 20, op := Op.fieldAddr 31 (Operand.tmp 9) 1, type := 0, pos := "ref.go:524", after := #[], guard := none }) (v := ?v0b) rfl (by kernel_rfl) (by kernel_rfl) (by kernel_rfl) (fun _ _ _ h => h) (Or.inl ⟨by rfl, ?hy0b⟩) hHeld ?nx0b
                case hy0b => (intro w hSw; (try dsimp only at hSw); go_simp; try with_reducible rfl)
                try simp only [Act.put, List.setIfInBounds_toArray, List.set_cons_zero, List.set_cons_succ]
                refine wpAnyH_take (i := 1) (oi := { dst := some 21, op := Op.load 9 (Operand.tmp 20), type := 9, pos := "ref.go:524", after := #[{ on := 0, ground := Ground.data }], guard := none }) (v := ?v1b) rfl (by kernel_rfl) (by kernel_rfl) (by kernel_rfl) (fun _ _ _ h => h) (Or.inl ⟨by rfl, ?hy1b⟩) hHeld ?nx1b
                case hy1b => (intro w hSw; (try dsimp only at hSw); go_simp; try with_reducible rfl)
                try simp only [Act.put, List.setIfInBounds_toArray, List.set_cons_zero, List.set_cons_succ]
                refine wpAnyH_take (i := 2) (oi := { dst := some 22, op := Op.binOp BinOp.neq 9 (Operand.tmp 21) (Operand.const (Value.string { data := #[] })) 9, type := 4, pos := "ref.go:524", after := #[{ on := 1, ground := Ground.data }], guard := none }) (v := ?v2b) rfl (by kernel_rfl) (by kernel_rfl) (by kernel_rfl) (fun _ _ _ h => h) (Or.inl ⟨by rfl, ?hy2b⟩) hHeld ?nx2b
                case hy2b => (intro w hSw; (try dsimp only at hSw); go_simp; try with_reducible rfl)
                try simp only [Act.put, List.setIfInBounds_toArray, List.set_cons_zero, List.set_cons_succ]
                refine wpAnyH_take (i := 3) (oi := { dst := some 23, op := Op.move (Operand.tmp 22), type := 4, pos := "ref.go:524", after := #[{ on := 2, ground := Ground.data }], guard := none }) (v := ?v3b) rfl (by kernel_rfl) (by kernel_rfl) (by kernel_rfl) (fun _ _ _ h => h) (Or.inl ⟨by rfl, ?hy3b⟩) hHeld ?nx3b
                case hy3b => (intro w hSw; (try dsimp only at hSw); go_simp; try with_reducible rfl)
                try simp only [Act.put, List.setIfInBounds_toArray, List.set_cons_zero, List.set_cons_succ]
                refine wpAnyH_take (i := 4) (oi := { dst := some 24, op := Op.move (Operand.tmp 2), type := 3, pos := "ref.go:524", after := #[{ on := 3, ground := Ground.guard }], guard := some (3, true) }) (v := ?v4b) rfl (by kernel_rfl) (by kernel_rfl) (by kernel_rfl) (fun _ _ _ h => h) (Or.inl ⟨by rfl, ?hy4b⟩) hHeld ?nx4b
                case hy4b => (intro w hSw; (try dsimp only at hSw); go_simp; try with_reducible rfl)
                try simp only [Act.put, List.setIfInBounds_toArray, List.set_cons_zero, List.set_cons_succ]
                refine wpAnyH_take (i := 5) (oi := { dst := some 25, op := Op.fieldAddr 31 (Operand.tmp 9) 3, type := 0, pos := "ref.go:524", after := #[{ on := 3, ground := Ground.guard }], guard := some (3, true) }) (v := ?v5b) rfl (by kernel_rfl) (by kernel_rfl) (by kernel_rfl) (fun _ _ _ h => h) (Or.inl ⟨by rfl, ?hy5b⟩) hHeld ?nx5b
                case hy5b => (intro w hSw; (try dsimp only at hSw); go_simp; try with_reducible rfl)
                try simp only [Act.put, List.setIfInBounds_toArray, List.set_cons_zero, List.set_cons_succ]
                refine wpAnyH_take (i := 6) (oi := { dst := some 26, op := Op.load 3 (Operand.tmp 25), type := 3, pos := "ref.go:524", after := #[{ on := 5, ground := Ground.data }, { on := 3, ground := Ground.guard }], guard := some (3, true) }) (v := ?v6b) rfl (by kernel_rfl) (by kernel_rfl) (by kernel_rfl) (fun _ _ _ h => h) (Or.inl ⟨by rfl, ?hy6b⟩) hHeld ?nx6b
                case hy6b => (intro w hSw; (try dsimp only at hSw); go_simp; try with_reducible rfl)
                try simp only [Act.put, List.setIfInBounds_toArray, List.set_cons_zero, List.set_cons_succ]
                refine wpAnyH_take (i := 7) (oi := { dst := some 27, op := Op.binOp BinOp.geq 3 (Operand.tmp 24) (Operand.tmp 26) 3, type := 4, pos := "ref.go:524", after := #[{ on := 4, ground := Ground.data }, { on := 6, ground := Ground.data }, { on := 3, ground := Ground.guard }], guard := some (3, true) }) (v := ?v7b) rfl (by kernel_rfl) (by kernel_rfl) (by kernel_rfl) (fun _ _ _ h => h) (Or.inl ⟨by rfl, ?hy7b⟩) hHeld ?nx7b
                case hy7b => (intro w hSw; (try dsimp only at hSw); go_simp; try with_reducible rfl)
                try simp only [Act.put, List.setIfInBounds_toArray, List.set_cons_zero, List.set_cons_succ]
                refine wpAnyH_take (i := 8) (oi := { dst := some 28, op := Op.pick (Operand.tmp 23) (Operand.tmp 27) (Operand.const (Value.bool false)), type := 4, pos := "ref.go:524", after := #[{ on := 3, ground := Ground.data }, { on := 7, ground := Ground.data }], guard := none }) (v := ?v8b) rfl (by kernel_rfl) (by kernel_rfl) (by kernel_rfl) (fun _ _ _ h => h) (Or.inl ⟨by rfl, ?hy8b⟩) hHeld ?nx8b
                case hy8b => (intro w hSw; (try dsimp only at hSw); go_simp; try with_reducible rfl)
                try simp only [Act.put, List.setIfInBounds_toArray, List.set_cons_zero, List.set_cons_succ]
                refine wpAnyH_take (i := 9) (oi := { dst := some 29, op := Op.move (Operand.tmp 28), type := 4, pos := "ref.go:524", after := #[{ on := 8, ground := Ground.data }, { on := 3, ground := Ground.chain }], guard := none }) (v := ?v9b) rfl (by kernel_rfl) (by kernel_rfl) (by kernel_rfl) (fun _ _ _ h => h) (Or.inl ⟨by rfl, ?hy9b⟩) hHeld ?nx9b
                case hy9b => (intro w hSw; (try dsimp only at hSw); go_simp; try with_reducible rfl)
                try simp only [Act.put, List.setIfInBounds_toArray, List.set_cons_zero, List.set_cons_succ]
                refine wpAnyH_take (i := 10) (oi := { dst := some 30, op := Op.move (Operand.tmp 2), type := 3, pos := "ref.go:524", after := #[{ on := 9, ground := Ground.guard }], guard := some (9, true) }) (v := ?v10b) rfl (by kernel_rfl) (by kernel_rfl) (by kernel_rfl) (fun _ _ _ h => h) (Or.inl ⟨by rfl, ?hy10b⟩) hHeld ?nx10b
                case hy10b => (intro w hSw; (try dsimp only at hSw); go_simp; try with_reducible rfl)
                try simp only [Act.put, List.setIfInBounds_toArray, List.set_cons_zero, List.set_cons_succ]
                refine wpAnyH_take (i := 11) (oi := { dst := some 31, op := Op.fieldAddr 31 (Operand.tmp 9) 4, type := 0, pos := "ref.go:524", after := #[{ on := 9, ground := Ground.guard }], guard := some (9, true) }) (v := ?v11b) rfl (by kernel_rfl) (by kernel_rfl) (by kernel_rfl) (fun _ _ _ h => h) (Or.inl ⟨by rfl, ?hy11b⟩) hHeld ?nx11b
                case hy11b => (intro w hSw; (try dsimp only at hSw); go_simp; try with_reducible rfl)
                try simp only [Act.put, List.setIfInBounds_toArray, List.set_cons_zero, List.set_cons_succ]
                refine wpAnyH_take (i := 12) (oi := { dst := some 32, op := Op.load 3 (Operand.tmp 31), type := 3, pos := "ref.go:524", after := #[{ on := 11, ground := Ground.data }, { on := 9, ground := Ground.guard }], guard := some (9, true) }) (v := ?v12b) rfl (by kernel_rfl) (by kernel_rfl) (by kernel_rfl) (fun _ _ _ h => h) (Or.inl ⟨by rfl, ?hy12b⟩) hHeld ?nx12b
                case hy12b => (intro w hSw; (try dsimp only at hSw); go_simp; try with_reducible rfl)
                try simp only [Act.put, List.setIfInBounds_toArray, List.set_cons_zero, List.set_cons_succ]
                refine wpAnyH_take (i := 13) (oi := { dst := some 33, op := Op.binOp BinOp.leq 3 (Operand.tmp 30) (Operand.tmp 32) 3, type := 4, pos := "ref.go:524", after := #[{ on := 10, ground := Ground.data }, { on := 12, ground := Ground.data }, { on := 9, ground := Ground.guard }], guard := some (9, true) }) (v := ?v13b) rfl (by kernel_rfl) (by kernel_rfl) (by kernel_rfl) (fun _ _ _ h => h) (Or.inl ⟨by rfl, ?hy13b⟩) hHeld ?nx13b
                case hy13b => (intro w hSw; (try dsimp only at hSw); go_simp; try with_reducible rfl)
                try simp only [Act.put, List.setIfInBounds_toArray, List.set_cons_zero, List.set_cons_succ]
                refine wpAnyH_take (i := 14) (oi := { dst := some 34, op := Op.pick (Operand.tmp 29) (Operand.tmp 33) (Operand.const (Value.bool false)), type := 4, pos := "ref.go:524", after := #[{ on := 9, ground := Ground.data }, { on := 13, ground := Ground.data }], guard := none }) (v := ?v14b) rfl (by kernel_rfl) (by kernel_rfl) (by kernel_rfl) (fun _ _ _ h => h) (Or.inl ⟨by rfl, ?hy14b⟩) hHeld ?nx14b
                case hy14b => (intro w hSw; (try dsimp only at hSw); go_simp; try with_reducible rfl)
                try simp only [Act.put, List.setIfInBounds_toArray, List.set_cons_zero, List.set_cons_succ]
                refine wpAnyH_take (i := 15) (oi := { dst := some 35, op := Op.move (Operand.tmp 34), type := 4, pos := "ref.go:524", after := #[{ on := 14, ground := Ground.data }, { on := 9, ground := Ground.chain }], guard := none }) (v := ?v15b) rfl (by kernel_rfl) (by kernel_rfl) (by kernel_rfl) (fun _ _ _ h => h) (Or.inl ⟨by rfl, ?hy15b⟩) hHeld ?nx15b
                case hy15b => (intro w hSw; (try dsimp only at hSw); go_simp; try with_reducible rfl)
                try simp only [Act.put, List.setIfInBounds_toArray, List.set_cons_zero, List.set_cons_succ]
                refine wpAnyH_take (i := 16) (oi := { dst := some 36, op := Op.move (Operand.tmp 1), type := 9, pos := "ref.go:524", after := #[{ on := 15, ground := Ground.guard }], guard := some (15, true) }) (v := ?v16b) rfl (by kernel_rfl) (by kernel_rfl) (by kernel_rfl) (fun _ _ _ h => h) (Or.inl ⟨by rfl, ?hy16b⟩) hHeld ?nx16b
                case hy16b => (intro w hSw; (try dsimp only at hSw); go_simp; try with_reducible rfl)
                try simp only [Act.put, List.setIfInBounds_toArray, List.set_cons_zero, List.set_cons_succ]
                refine wpAnyH_take (i := 17) (oi := { dst := some 37, op := Op.fieldAddr 31 (Operand.tmp 9) 1, type := 0, pos := "ref.go:524", after := #[{ on := 15, ground := Ground.guard }], guard := some (15, true) }) (v := ?v17b) rfl (by kernel_rfl) (by kernel_rfl) (by kernel_rfl) (fun _ _ _ h => h) (Or.inl ⟨by rfl, ?hy17b⟩) hHeld ?nx17b
                case hy17b => (intro w hSw; (try dsimp only at hSw); go_simp; try with_reducible rfl)
                try simp only [Act.put, List.setIfInBounds_toArray, List.set_cons_zero, List.set_cons_succ]
                refine wpAnyH_take (i := 18) (oi := { dst := some 38, op := Op.load 9 (Operand.tmp 37), type := 9, pos := "ref.go:524", after := #[{ on := 17, ground := Ground.data }, { on := 15, ground := Ground.guard }], guard := some (15, true) }) (v := ?v18b) rfl (by kernel_rfl) (by kernel_rfl) (by kernel_rfl) (fun _ _ _ h => h) (Or.inl ⟨by rfl, ?hy18b⟩) hHeld ?nx18b
                case hy18b => (intro w hSw; (try dsimp only at hSw); go_simp; try with_reducible rfl)
                try simp only [Act.put, List.setIfInBounds_toArray, List.set_cons_zero, List.set_cons_succ]
                refine wpAnyH_ready (rs := [19]) (by kernel_rfl) (by simp) ?_
                refine AllReadyH.cons (o := { dst := some 39, op := Op.call { callee := Callee.value (Operand.func 57), args := #[Operand.tmp 36, Operand.tmp 38], argTypes := #[9, 9] }, type := 4, pos := "ref.go:524", after := #[{ on := 16, ground := Ground.data }, { on := 18, ground := Ground.data }, { on := 15, ground := Ground.chain }, { on := 15, ground := Ground.guard }], guard := some (15, true) }) rfl (fun K hK => ?_) AllReadyH.nil
                go_simp
                go_at_call 57
                refine (at_prog HP.out (HC.out _)).mono ?_
                rintro e w3 ⟨rfl, hf3⟩
                have K3 : Fr No y w3 := (Fr.drew No y).trans hf3
                have hS := HS.out _ K3
                refine hK.out _ _ hS (fun hH2 => ?_)
                clear hK K hHeld
                have hHeld := hH2
                clear hH2 hS
                try simp only [Act.put, List.setIfInBounds_toArray, List.set_cons_zero, List.set_cons_succ]
                refine wpAnyH_take (i := 20) (oi := { dst := some 40, op := Op.pick (Operand.tmp 35) (Operand.tmp 39) (Operand.const (Value.bool false)), type := 4, pos := "ref.go:524", after := #[{ on := 15, ground := Ground.data }, { on := 19, ground := Ground.data }], guard := none }) (v := ?v20b) rfl (by kernel_rfl) (by kernel_rfl) (by kernel_rfl) (fun _ _ _ h => h) (Or.inl ⟨by rfl, ?hy20b⟩) hHeld ?nx20b
                case hy20b => (intro w hSw; (try dsimp only at hSw); go_simp; try with_reducible rfl)
                try simp only [Act.put, List.setIfInBounds_toArray, List.set_cons_zero, List.set_cons_succ]
                refine wpAnyH_take (i := 21) (oi := { dst := some 41, op := Op.move (Operand.tmp 40), type := 4, pos := "ref.go:524", after := #[{ on := 20, ground := Ground.data }, { on := 19, ground := Ground.chain }], guard := none }) (v := ?v21b) rfl (by kernel_rfl) (by kernel_rfl) (by kernel_rfl) (fun _ _ _ h => h) (Or.inl ⟨by rfl, ?hy21b⟩) hHeld ?nx21b
                case hy21b => (intro w hSw; (try dsimp only at hSw); go_simp; try with_reducible rfl)
                try simp only [Act.put, List.setIfInBounds_toArray, List.set_cons_zero, List.set_cons_succ]
                refine wpAnyH_take (i := 22) (oi := { dst := some 42, op := Op.move (Operand.tmp 7), type := 3, pos := "ref.go:524", after := #[{ on := 21, ground := Ground.guard }], guard := some (21, true) }) (v := ?v22b) rfl (by kernel_rfl) (by kernel_rfl) (by kernel_rfl) (fun _ _ _ h => h) (Or.inl ⟨by rfl, ?hy22b⟩) hHeld ?nx22b
                case hy22b => (intro w hSw; (try dsimp only at hSw); go_simp; try with_reducible rfl)
                try simp only [Act.put, List.setIfInBounds_toArray, List.set_cons_zero, List.set_cons_succ]
                refine wpAnyH_take (i := 23) (oi := { dst := some 43, op := Op.binOp BinOp.lss 3 (Operand.tmp 42) (Operand.const (Value.int IntKind.i64 0)) 3, type := 4, pos := "ref.go:524", after := #[{ on := 22, ground := Ground.data }, { on := 21, ground := Ground.guard }], guard := some (21, true) }) (v := ?v23b) rfl (by kernel_rfl) (by kernel_rfl) (by kernel_rfl) (fun _ _ _ h => h) (Or.inl ⟨by rfl, ?hy23b⟩) hHeld ?nx23b
                case hy23b => (intro w hSw; (try dsimp only at hSw); go_simp; try with_reducible rfl)
                try simp only [Act.put, List.setIfInBounds_toArray, List.set_cons_zero, List.set_cons_succ]
                refine wpAnyH_take (i := 24) (oi := { dst := some 44, op := Op.move (Operand.tmp 43), type := 4, pos := "ref.go:524", after := #[{ on := 23, ground := Ground.data }, { on := 21, ground := Ground.chain }, { on := 21, ground := Ground.guard }], guard := some (21, true) }) (v := ?v24b) rfl (by kernel_rfl) (by kernel_rfl) (by kernel_rfl) (fun _ _ _ h => h) (Or.inl ⟨by rfl, ?hy24b⟩) hHeld ?nx24b
                case hy24b => (intro w hSw; (try dsimp only at hSw); go_simp; try with_reducible rfl)
                try simp only [Act.put, List.setIfInBounds_toArray, List.set_cons_zero, List.set_cons_succ]
                refine wpAnyH_take (i := 25) (oi := { dst := some 45, op := Op.fieldAddr 31 (Operand.tmp 9) 1, type := 0, pos := "ref.go:524", after := #[{ on := 24, ground := Ground.guard }], guard := some (24, false) }) (v := undef) rfl (by kernel_rfl) (by kernel_rfl) (by kernel_rfl) (fun _ _ _ h => h) (Or.inr ⟨by rfl, rfl⟩) hHeld ?nx25b
                try simp only [Act.put, List.setIfInBounds_toArray, List.set_cons_zero, List.set_cons_succ]
                refine wpAnyH_take (i := 26) (oi := { dst := some 46, op := Op.load 9 (Operand.tmp 45), type := 9, pos := "ref.go:524", after := #[{ on := 25, ground := Ground.data }, { on := 24, ground := Ground.guard }], guard := some (24, false) }) (v := undef) rfl (by kernel_rfl) (by kernel_rfl) (by kernel_rfl) (fun _ _ _ h => h) (Or.inr ⟨by rfl, rfl⟩) hHeld ?nx26b
                try simp only [Act.put, List.setIfInBounds_toArray, List.set_cons_zero, List.set_cons_succ]
                refine wpAnyH_take (i := 27) (oi := { dst := some 47, op := Op.call { callee := Callee.value (Operand.func 58), args := #[Operand.tmp 46], argTypes := #[9] }, type := 3, pos := "ref.go:524", after := #[{ on := 26, ground := Ground.data }, { on := 24, ground := Ground.chain }, { on := 24, ground := Ground.guard }], guard := some (24, false) }) (v := undef) rfl (by kernel_rfl) (by kernel_rfl) (by kernel_rfl) (fun _ _ _ h => h) (Or.inr ⟨by rfl, rfl⟩) hHeld ?nx27b
                try simp only [Act.put, List.setIfInBounds_toArray, List.set_cons_zero, List.set_cons_succ]
                refine wpAnyH_take (i := 28) (oi := { dst := some 48, op := Op.move (Operand.tmp 0), type := 22, pos := "ref.go:524", after := #[{ on := 24, ground := Ground.guard }], guard := some (24, false) }) (v := undef) rfl (by kernel_rfl) (by kernel_rfl) (by kernel_rfl) (fun _ _ _ h => h) (Or.inr ⟨by rfl, rfl⟩) hHeld ?nx28b
                try simp only [Act.put, List.setIfInBounds_toArray, List.set_cons_zero, List.set_cons_succ]
                refine wpAnyH_take (i := 29) (oi := { dst := some 49, op := Op.move (Operand.tmp 7), type := 3, pos := "ref.go:524", after := #[{ on := 24, ground := Ground.guard }], guard := some (24, false) }) (v := undef) rfl (by kernel_rfl) (by kernel_rfl) (by kernel_rfl) (fun _ _ _ h => h) (Or.inr ⟨by rfl, rfl⟩) hHeld ?nx29b
                try simp only [Act.put, List.setIfInBounds_toArray, List.set_cons_zero, List.set_cons_succ]
                refine wpAnyH_take (i := 30) (oi := { dst := some 50, op := Op.indexAddr 22 (Operand.tmp 48) (Operand.tmp 49), type := 0, pos := "ref.go:524", after := #[{ on := 28, ground := Ground.data }, { on := 29, ground := Ground.data }, { on := 24, ground := Ground.guard }], guard := some (24, false) }) (v := undef) rfl (by kernel_rfl) (by kernel_rfl) (by kernel_rfl) (fun _ _ _ h => h) (Or.inr ⟨by rfl, rfl⟩) hHeld ?nx30b
                try simp only [Act.put, List.setIfInBounds_toArray, List.set_cons_zero, List.set_cons_succ]
                refine wpAnyH_take (i := 31) (oi := { dst := some 51, op := Op.fieldAddr 31 (Operand.tmp 50) 1, type := 0, pos := "ref.go:524", after := #[{ on := 30, ground := Ground.data }, { on := 24, ground := Ground.guard }], guard := some (24, false) }) (v := undef) rfl (by kernel_rfl) (by kernel_rfl) (by kernel_rfl) (fun _ _ _ h => h) (Or.inr ⟨by rfl, rfl⟩) hHeld ?nx31b
                try simp only [Act.put, List.setIfInBounds_toArray, List.set_cons_zero, List.set_cons_succ]
                refine wpAnyH_take (i := 32) (oi := { dst := some 52, op := Op.load 9 (Operand.tmp 51), type := 9, pos := "ref.go:524", after := #[{ on := 31, ground := Ground.data }, { on := 24, ground := Ground.guard }], guard := some (24, false) }) (v := undef) rfl (by kernel_rfl) (by kernel_rfl) (by kernel_rfl) (fun _ _ _ h => h) (Or.inr ⟨by rfl, rfl⟩) hHeld ?nx32b
                try simp only [Act.put, List.setIfInBounds_toArray, List.set_cons_zero, List.set_cons_succ]
                refine wpAnyH_take (i := 33) (oi := { dst := some 53, op := Op.call { callee := Callee.value (Operand.func 58), args := #[Operand.tmp 52], argTypes := #[9] }, type := 3, pos := "ref.go:524", after := #[{ on := 32, ground := Ground.data }, { on := 27, ground := Ground.chain }, { on := 24, ground := Ground.guard }], guard := some (24, false) }) (v := undef) rfl (by kernel_rfl) (by kernel_rfl) (by kernel_rfl) (fun _ _ _ h => h) (Or.inr ⟨by rfl, rfl⟩) hHeld ?nx33b
                try simp only [Act.put, List.setIfInBounds_toArray, List.set_cons_zero, List.set_cons_succ]
                refine wpAnyH_take (i := 34) (oi := { dst := some 54, op := Op.binOp BinOp.gtr 3 (Operand.tmp 47) (Operand.tmp 53) 3, type := 4, pos := "ref.go:524", after := #[{ on := 27, ground := Ground.data }, { on := 33, ground := Ground.data }, { on := 24, ground := Ground.guard }], guard := some (24, false) }) (v := undef) rfl (by kernel_rfl) (by kernel_rfl) (by kernel_rfl) (fun _ _ _ h => h) (Or.inr ⟨by rfl, rfl⟩) hHeld ?nx34b
                try simp only [Act.put, List.setIfInBounds_toArray, List.set_cons_zero, List.set_cons_succ]
                refine wpAnyH_take (i := 35) (oi := { dst := some 55, op := Op.pick (Operand.tmp 44) (Operand.const (Value.bool true)) (Operand.tmp 54), type := 4, pos := "ref.go:524", after := #[{ on := 24, ground := Ground.data }, { on := 34, ground := Ground.data }, { on := 21, ground := Ground.guard }], guard := some (21, true) }) (v := ?v35b) rfl (by kernel_rfl) (by kernel_rfl) (by kernel_rfl) (fun _ _ _ h => h) (Or.inl ⟨by rfl, ?hy35b⟩) hHeld ?nx35b
                case hy35b => (intro w hSw; (try dsimp only at hSw); go_simp; try with_reducible rfl)
                try simp only [Act.put, List.setIfInBounds_toArray, List.set_cons_zero, List.set_cons_succ]
                refine wpAnyH_take (i := 36) (oi := { dst := some 56, op := Op.pick (Operand.tmp 41) (Operand.tmp 55) (Operand.const (Value.bool false)), type := 4, pos := "ref.go:524", after := #[{ on := 21, ground := Ground.data }, { on := 35, ground := Ground.data }], guard := none }) (v := ?v36b) rfl (by kernel_rfl) (by kernel_rfl) (by kernel_rfl) (fun _ _ _ h => h) (Or.inl ⟨by rfl, ?hy36b⟩) hHeld ?nx36b
                case hy36b => (intro w hSw; (try dsimp only at hSw); go_simp; try with_reducible rfl)
                try simp only [Act.put, List.setIfInBounds_toArray, List.set_cons_zero, List.set_cons_succ]
                refine wpAnyH_done (by kernel_rfl) ?_ _
                refine NoPanic.normal ?_
                go_wp2_with fail
                go_roundg (n - i)
                case measure => exact hig
                case rel => exact ⟨i + 1, by go_num, by rw [HE.out], by omega, by omega, HY.out.trans K3⟩
              · have bt : decide ((t : Int) < 0) = false := decide_eq_false (by omega)
                obtain ⟨b', o', hbo, hqb, hqc⟩ := HRC.out.cell hq
                cases hbo
                have hkt := kAt_nat (k := kN) hq
                rw [hkt] at HST
                have HCQ := Lib.hid (cnt_ref q.sf)
                obtain ⟨nt, hnt⟩ : ∃ nt, ((cntV q.sf : Nat) : Int) = nt := ⟨_, rfl⟩
                have hkt2 : kN q = nt := hnt
                rw [hkt2] at HST
                rw [hnt] at HCQ
                obtain ⟨sq, hsq⟩ : ∃ sq, bs q.sf = sq := ⟨_, rfl⟩
                rw [hsq] at HCQ
                have HT : Hid (∀ w', Fr No y w' → w'.cell? ⟨b, o + t * k22 + 1, none⟩ = some (.string sq)) := fun w' hf => by
                  have h := (hqc w' (HFY.out.trans hf)).2 1 (.string (bs q.sf)) rfl
                  rw [hsq] at h
                  rw [HK31.out]; exact h
                clear hsq
                have hT0 := HT.out _ (Fr.drew No y)
                have q1 : (0 : Int) ≤ (t : Int) := by omega
                have q2 : (t : Int) < (n : Int) := by omega
                clear hqc hqb hkt hkt2 hnt hq
                by_cases hgt : nt < pn
                · have bg := decide_eq_true hgt
                  have HE : Hid (bN (mtN nl port) kN L (i + 1) = (i : Int)) := by show _ = _; rw [HST.out]; simp [*]
                  clear HST hsf hl hh hgt
                  have HS3 : Hid (∀ w', Fr No y w' → Fr No y w' ∧ w'.cell? ⟨g, 1, none⟩ = some (.string sr) ∧ w'.cell? ⟨g, 20, none⟩ = some (.int .i64 lo) ∧ w'.cell? ⟨g, 21, none⟩ = some (.int .i64 hi') ∧  w'.cell? ⟨b, o + t * k22 + 1, none⟩ = some (.string sq)) := fun w' hf => by
                    have h1 := HS.out w' hf
                    have h2 := HT.out w' hf
                    exact ⟨h1.1, h1.2.1, h1.2.2.1, h1.2.2.2, h2⟩
                  have hS0 := HS3.out _ (Fr.drew No y)
                  go_region_held3 (fun w' => Fr No y w' ∧ w'.cell? ⟨g, 1, none⟩ = some (.string sr) ∧ w'.cell? ⟨g, 20, none⟩ = some (.int .i64 lo) ∧ w'.cell? ⟨g, 21, none⟩ = some (.int .i64 hi') ∧  w'.cell? ⟨b, o + t * k22 + 1, none⟩ = some (.string sq)) (first | assumption | (with_reducible exact HS3.out _ K5) | (with_reducible exact HS3.out _ K4) | (with_reducible exact HS3.out _ K3)) (first | (go_at_call 57; ((with_reducible refine (at_prog HP.out (HC.out _)).mono ?_); rintro e w3 ⟨rfl, hf3⟩; have K3 : Fr No y w3 := Fr.trans (And.left (by assumption)) hf3)) | (go_at_call 58; ((with_reducible refine (at_prog HP.out (HCN.out _)).mono ?_); rintro e w4 ⟨rfl, hw4⟩; have K4 : Fr No y w4 := Fr.trans (And.left (by assumption)) hw4)) | (go_at_call 58; ((with_reducible refine (at_prog HP.out (HCQ.out _)).mono ?_); rintro e w5 ⟨rfl, hw5⟩; have K5 : Fr No y w5 := Fr.trans (And.left (by assumption)) hw5)))
                  go_wp2_with fail
                  go_roundg (n - i)
                  case measure => exact hig
                  case rel => exact ⟨i + 1, by go_num, by rw [HE.out], by omega, by omega, HY.out.trans K5⟩
                · have bg := decide_eq_false hgt
                  have HE : Hid (bN (mtN nl port) kN L (i + 1) = (t : Int)) := by show _ = _; rw [HST.out]; simp [*]
                  clear HST hsf hl hh hgt
                  have HS3 : Hid (∀ w', Fr No y w' → Fr No y w' ∧ w'.cell? ⟨g, 1, none⟩ = some (.string sr) ∧ w'.cell? ⟨g, 20, none⟩ = some (.int .i64 lo) ∧ w'.cell? ⟨g, 21, none⟩ = some (.int .i64 hi') ∧  w'.cell? ⟨b, o + t * k22 + 1, none⟩ = some (.string sq)) := fun w' hf => by
                    have h1 := HS.out w' hf
                    have h2 := HT.out w' hf
                    exact ⟨h1.1, h1.2.1, h1.2.2.1, h1.2.2.2, h2⟩
                  have hS0 := HS3.out _ (Fr.drew No y)
                  go_region_held3 (fun w' => Fr No y w' ∧ w'.cell? ⟨g, 1, none⟩ = some (.string sr) ∧ w'.cell? ⟨g, 20, none⟩ = some (.int .i64 lo) ∧ w'.cell? ⟨g, 21, none⟩ = some (.int .i64 hi') ∧  w'.cell? ⟨b, o + t * k22 + 1, none⟩ = some (.string sq)) (first | assumption | (with_reducible exact HS3.out _ K5) | (with_reducible exact HS3.out _ K4) | (with_reducible exact HS3.out _ K3)) (first | (go_at_call 57; ((with_reducible refine (at_prog HP.out (HC.out _)).mono ?_); rintro e w3 ⟨rfl, hf3⟩; have K3 : Fr No y w3 := Fr.trans (And.left (by assumption)) hf3)) | (go_at_call 58; ((with_reducible refine (at_prog HP.out (HCN.out _)).mono ?_); rintro e w4 ⟨rfl, hw4⟩; have K4 : Fr No y w4 := Fr.trans (And.left (by assumption)) hw4)) | (go_at_call 58; ((with_reducible refine (at_prog HP.out (HCQ.out _)).mono ?_); rintro e w5 ⟨rfl, hw5⟩; have K5 : Fr No y w5 := Fr.trans (And.left (by assumption)) hw5)))
                  go_wp2_with fail
                  go_roundg (n - i)
                  case measure => exact hig
                  case rel => exact ⟨i + 1, by go_num, by rw [HE.out], by omega, by omega, HY.out.trans K5⟩
          · have bh := decide_eq_false hh
            have HE : Hid (bN (mtN nl port) kN L (i + 1) = bb) := by show _ = _; rw [HST.out]; simp [*]
            clear HST hsf htwo hl hh
            go_quiet (fail)
            go_wp2_with fail
            go_roundg (n - i)
            case measure => exact hig
            case rel => exact ⟨i + 1, by go_num, by rw [HE.out], by omega, by omega, HY.out.trans (Fr.drewN _ _ _)⟩
        · have bl := decide_eq_false hl
          have HE : Hid (bN (mtN nl port) kN L (i + 1) = bb) := by show _ = _; rw [HST.out]; simp [*]
          clear HST hsf htwo hl
          go_quiet (fail)
          go_wp2_with fail
          go_roundg (n - i)
          case measure => exact hig
          case rel => exact ⟨i + 1, by go_num, by rw [HE.out], by omega, by omega, HY.out.trans (Fr.drewN _ _ _)⟩
    · obtain rfl : i = n := by omega
      go_wp2_with fail
      go_ret
      exact ⟨by rw [HVV.out]; try rfl, HW1.out.trans HR.out⟩
end Go.Proofs.YtnadendhboiliaaGreat
