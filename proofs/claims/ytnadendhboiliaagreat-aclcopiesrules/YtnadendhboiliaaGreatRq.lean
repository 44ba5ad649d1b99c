/-
  CONTRACT of the generators' Rule, over this seat's translation: what the call returns is a valid rule.
  Conditions: the argument is a rule.
-/
import Derived.Test.YtnadendhboiliaaGreatRp
import Derived.Test.YtnadendhboiliaaGreatGc
namespace Go.Proofs.YtnadendhboiliaaGreat
open Go.ChangeShapes Go.WideShapes Go.ChangeAt Go.RowKit
set_option linter.unusedVariables false

theorem ru_lo (al : Bool) (sf : List UInt8) (p : Px) (lo hi v : Int) (h : Bytes p.xs) : (ruC ⟨al, sf, p, lo, hi⟩).set 20 (.int .i64 v) = ruC ⟨al, sf, p, v, hi⟩ := by
  obtain ⟨b, xs, n⟩ := p
  match xs, h.1 with
  | [_, _, _, _, _, _, _, _, _, _, _, _, _, _, _, _], _ => rfl
theorem ru_hi (al : Bool) (sf : List UInt8) (p : Px) (lo hi v : Int) (h : Bytes p.xs) : (ruC ⟨al, sf, p, lo, hi⟩).set 21 (.int .i64 v) = ruC ⟨al, sf, p, lo, v⟩ := by
  obtain ⟨b, xs, n⟩ := p
  match xs, h.1 with
  | [_, _, _, _, _, _, _, _, _, _, _, _, _, _, _, _], _ => rfl
theorem ru_sf (al : Bool) (sf : List UInt8) (p : Px) (lo hi : Int) (s : List UInt8) : (ruC ⟨al, sf, p, lo, hi⟩).set 1 (.string (bs s)) = ruC ⟨al, s, p, lo, hi⟩ := rfl
theorem ru_px (al : Bool) (sf : List UInt8) (p q : Px) (lo hi : Int) (h : Bytes p.xs) (hq : Bytes q.xs) : (((ruC ⟨al, sf, p, lo, hi⟩).toArray.toList.take 2 ++ pfx q.b q.xs q.n) ++ (ruC ⟨al, sf, p, lo, hi⟩).toArray.toList.drop (2 + (pfx q.b q.xs q.n).length)).toArray = (ruC ⟨al, sf, q, lo, hi⟩).toArray := by
  obtain ⟨b, xs, n⟩ := p
  obtain ⟨b', ys, n'⟩ := q
  match xs, ys, h.1, hq.1 with
  | [_, _, _, _, _, _, _, _, _, _, _, _, _, _, _, _], [_, _, _, _, _, _, _, _, _, _, _, _, _, _, _, _], _, _ => rfl
theorem ru_setlo {w : World} {g T : Nat} {al : Bool} {sf : List UInt8} {p : Px} {lo hi : Int} (hp : Bytes p.xs) (h : w.heap[g]? = some (.cells (ruC ⟨al, sf, p, lo, hi⟩).toArray T (0, 0))) (v : Int) : (w.setCell ⟨g, 20, none⟩ (.int .i64 v)).heap[g]? = some (.cells (ruC ⟨al, sf, p, v, hi⟩).toArray T (0, 0)) := by
  rw [setCell_same h, List.setIfInBounds_toArray, ru_lo _ _ _ _ _ _ hp]
theorem ru_sethi {w : World} {g T : Nat} {al : Bool} {sf : List UInt8} {p : Px} {lo hi : Int} (hp : Bytes p.xs) (h : w.heap[g]? = some (.cells (ruC ⟨al, sf, p, lo, hi⟩).toArray T (0, 0))) (v : Int) : (w.setCell ⟨g, 21, none⟩ (.int .i64 v)).heap[g]? = some (.cells (ruC ⟨al, sf, p, lo, v⟩).toArray T (0, 0)) := by
  rw [setCell_same h, List.setIfInBounds_toArray, ru_hi _ _ _ _ _ _ hp]
theorem ru_setsf {w : World} {g T : Nat} {al : Bool} {sf : List UInt8} {p : Px} {lo hi : Int} (h : w.heap[g]? = some (.cells (ruC ⟨al, sf, p, lo, hi⟩).toArray T (0, 0))) (s : List UInt8) : (w.setCell ⟨g, 1, none⟩ (.string (bs s))).heap[g]? = some (.cells (ruC ⟨al, s, p, lo, hi⟩).toArray T (0, 0)) := by
  rw [setCell_same h, List.setIfInBounds_toArray, ru_sf]
theorem built30 (al : Bool) : Tryz.prog.built 31 [(0, .bool al), (4, .int .i64 65535)] = some (ruC ⟨al, [], zP, 0, 65535⟩).toArray := by kernel_rfl
theorem zP_bytes : Bytes zP.xs := zeros_bytes
theorem in_one {p q : Nat} (hp : p < 100) (hq : q < 500) (h : (60 : Int) + (q : Int) < (p : Int)) : (0 : Int) ≤ 60 + (q : Int) ∧ 60 + (q : Int) ≤ (p : Int) ∧ (p : Int) ≤ 65535 := by omega
theorem in_two {p q : Nat} (hp : p < 100) (hq : q < 500) (h : (p : Int) ≤ 60 + (q : Int)) : (0 : Int) ≤ (p : Int) ∧ (p : Int) ≤ 60 + (q : Int) ∧ 60 + (q : Int) ≤ 65535 := by omega
/-- What an answer of the generator of rules is. -/
def GenR (w : World) (e : Ending) (w' : World) : Prop := ∃ r, Bytes r.p.xs ∧ vR r = true ∧ e = .returned (.agg (ruC r).toArray) ∧ Fr No w w'

set_option maxHeartbeats 8000000 in
set_option maxRecDepth 100000 in
theorem rule_gen (r : Ru) (hb : Bytes r.p.xs) (w : World) : Calls Tryz.prog 17 #[.agg (ruC r).toArray] w (GenR w) := by
  obtain ⟨Z, hZ⟩ : ∃ Z : Array Value, (ruC zRu).toArray = Z := ⟨_, rfl⟩
  have v30 := zero31
  rw [hZ] at v30
  have hZs : Z.size = 22 := by rw [← hZ]; rfl
  obtain ⟨P, hP', -, -, hPs, -, hPo⟩ := pfx_letter r.p.b r.p.xs r.p.n hb
  have HPG : Hid (∀ w', Calls Tryz.prog 37 #[.agg P] w' (GenP w')) := fun w' => by rw [← hP']; exact prefix_gen _ _ _ hb w'
  obtain ⟨f, hf1, hf2⟩ := host_all
  have HH := Lib.hid hf2
  have HF := Lib.hid hf1
  clear hf1 hf2
  obtain ⟨R, hR, hRs, d0, d1, d19, d20, d21, hRP, hR1⟩ := ru_letter r hb
  rw [hP'] at hRP
  rw [hR]
  obtain ⟨k3, hk3, hm3⟩ := mod_fix r.lo 3 (by omega) (by omega)
  obtain ⟨p, hp, hm1⟩ := mod_fix r.lo 100 (by omega) (by omega)
  obtain ⟨q, hq, hm5⟩ := mod_fix r.hi 500 (by omega) (by omega)
  generalize r.lo = plo at *
  generalize r.hi = phi at *
  generalize r.al = al at *
  obtain ⟨sf, hsf⟩ : ∃ sf, r.sf = sf := ⟨_, rfl⟩
  rw [hsf] at d1
  have HM3 : Hid (∀ w', Calls Tryz.prog 25 #[.int .i64 plo, .int .i64 3] w' fun e w'' => e = .returned (.int .i64 k3) ∧ w'' = w') := hm3
  have HM1 : Hid (∀ w', Calls Tryz.prog 25 #[.int .i64 plo, .int .i64 100] w' fun e w'' => e = .returned (.int .i64 p) ∧ w'' = w') := hm1
  have HM5 : Hid (∀ w', Calls Tryz.prog 25 #[.int .i64 phi, .int .i64 500] w' fun e w'' => e = .returned (.int .i64 q) ∧ w'' = w') := hm5
  obtain ⟨X0, hX0⟩ : ∃ X, (ruC ⟨al, [], zP, 0, 65535⟩).toArray = X := ⟨_, rfl⟩
  have hX0s : X0.size = 22 := by rw [← hX0]; rfl
  have D0 := Lib.hid (built30 al)
  rw [hX0] at D0
  have hX01 : ∀ u ∈ X0.toList, u.oneCell' = true := by rw [← hX0]; exact ruC_one _
  obtain ⟨b1, b2, hF⟩ := alloc2 w (.cells R 31) (.cells Z 31)
  obtain ⟨W1, hW1⟩ : ∃ W1, (w.alloc (.cells R 31)).alloc (.cells Z 31) = W1 := ⟨_, rfl⟩
  obtain ⟨g, hg⟩ : ∃ g, w.heap.size = g := ⟨_, rfl⟩
  rw [hW1, hg] at b1 b2
  rw [hW1] at hF
  have HW := Lib.hid hg
  have c0 : W1.cell? ⟨g, 0, none⟩ = some (.bool al) := by rw [cell_of_row _ _ _ _ _ _ b1]; exact d0
  clear hm3 hm1 hm5 hZ hR hb hsf
  go_enter Tryz.func17, Tryz.ntmps17
  have t3 := Tryz.underlying3
  have u3 := Tryz.runUnderlying3
  have g3 := Tryz.isAgg3
  have z3 := Tryz.sizeOf3
  have t4 := Tryz.underlying4
  have u4 := Tryz.runUnderlying4
  have g4 := Tryz.isAgg4
  have z4 := Tryz.sizeOf4
  have t5 := Tryz.underlying5
  have u5 := Tryz.runUnderlying5
  have g5 := Tryz.isAgg5
  have z5 := Tryz.sizeOf5
  have t9 := Tryz.underlying9
  have u9 := Tryz.runUnderlying9
  have g9 := Tryz.isAgg9
  have z9 := Tryz.sizeOf9
  have t22 := Tryz.underlying22
  have u22 := Tryz.runUnderlying22
  have g22 := Tryz.isAgg22
  have z22 := Tryz.sizeOf22
  have t29 := Tryz.underlying29
  have u29 := Tryz.runUnderlying29
  have g29 := Tryz.isAgg29
  have z29 := Tryz.sizeOf29
  have t31 := Tryz.underlying31
  have u31 := Tryz.runUnderlying31
  have g31 := Tryz.isAgg31
  have z31 := Tryz.sizeOf31
  have c25 := Tryz.call25
  have c15 := Tryz.call15
  have c37 := Tryz.call37
  have mixed : Tryz.prog.follows .mixedOrders = true := by kernel_rfl
  obtain ⟨k40, hk40⟩ : ∃ k, k = 18 := ⟨_, rfl⟩
  rw [← hk40] at z29
  have nk40 : ¬ k40 = 0 := by omega
  have HK29 := Lib.hid hk40
  obtain ⟨k22, hk22⟩ : ∃ k, k = 22 := ⟨_, rfl⟩
  rw [← hk22] at z31
  have nk22 : ¬ k22 = 0 := by omega
  have HK31 := Lib.hid hk22
  have hP : Tryz.prog = PD := rfl
  rw [hP] at t3 u3 g3 z3 t4 u4 g4 z4 t5 u5 g5 z5 t9 u9 g9 z9 t22 u22 g22 z22 t29 u29 g29 z29 t31 u31 g31 z31 c25 c15 c37 mixed v30 ⊢
  have HP := Lib.hid hP.symm
  clear hP hk40 hk22
  have hZk : Z.size = k22 := by rw [HK31.out]; exact hZs
  have hRk : R.size = k22 := by rw [HK31.out]; exact hRs
  have hXk : X0.size = k22 := by rw [HK31.out]; exact hX0s
  have hPk : P.size = k40 := by rw [HK29.out]; exact hPs
  obtain ⟨y1, hst1, hyb1, hyf1⟩ := store_all (P := PD) X0.toList (heap_alloc_new W1 (.cells Z 31)) (by rw [Array.length_toList, hXk, hZk]) hX01
  obtain ⟨xb, hxb⟩ : ∃ xb, W1.heap.size = xb := ⟨_, rfl⟩
  rw [hxb] at hyb1 hst1
  have HB : Hid (y1.heap[g]? = some (.cells R 31 (0, 0)) ∧ y1.heap[g + 1]? = some (.cells Z 31 (0, 0)) ∧ y1.heap[xb]? = some (.cells X0 31 (0, 0)) ∧ Fr No w y1 ∧ g + 1 < xb) := by
    have hf : Fr No W1 y1 := (Fr.alloc No W1 _).ofNew hyf1 fun k hk => .inr (by rw [hk]; exact Nat.le_refl _)
    have h1 := some_lt b2
    rw [hxb] at h1
    exact ⟨hf.keep b1, hf.keep b2, by simpa using hyb1, hF.trans hf, h1⟩
  have HX0 := Lib.hid hX0
  clear hX0 hyb1 hyf1 hZs hRs hX0s hPs
  have y20 : y1.cell? ⟨g, 20, none⟩ = some (.int .i64 plo) := by rw [cell_of_row _ _ _ _ _ _ HB.out.1]; exact d20
  go_upto_if 10 with (first | (refine law_buildP HP.out rfl 31 #[(0, .tmp 5), (4, .const (.int .i64 65535))] ?_ _ rfl X0 ?_ ?_; (· rfl); (· exact D0.out)) | (go_at_call 25; ((with_reducible refine (at_prog HP.out (HM3.out _)).mono ?_); rintro e w2 ⟨rfl, hw2⟩; replace hw2 := hw2.symm; subst hw2)) | fail)
  clear c0 hst1 hF b1 b2 y20
  go_cut [] (fun wx => Hid (∃ lo hi : Int, 0 ≤ lo ∧ lo ≤ hi ∧ hi ≤ 65535 ∧ wx.heap[xb]? = some (.cells (ruC ⟨al, [], zP, lo, hi⟩).toArray 31 (0, 0)) ∧ Fr (fun k => k = xb) y1 wx))
  case first =>
    by_cases hk30 : k3 = 0
    · have pk : (k3 : Int) = 0 := by omega
      have HSS : Hid (∀ w', Fr (fun k => k = xb) y1 w' → w'.cell? ⟨g, 20, none⟩ = some (.int .i64 plo) ∧ w'.cell? ⟨g, 21, none⟩ = some (.int .i64 phi)) := fun w' hf => by
        have h1 := (hf.block g (some_lt HB.out.1) (by have := HB.out.2.2.2.2; omega)).trans HB.out.1
        exact ⟨by rw [cell_of_row _ _ _ _ _ _ h1]; exact d20, by rw [cell_of_row _ _ _ _ _ _ h1]; exact d21⟩
      have hwq : IntKind.i64.wrap (60 + (q : Int)) = 60 + (q : Int) := by rw [IntKind.wrap_i64]; omega
      have hwq2 : wrap64 (60 + (q : Int)) = 60 + (q : Int) := by unfold wrap64; omega
      have HPQ : Hid (p < 100 ∧ q < 500) := ⟨hp, hq⟩
      clear hp hq hk3 hk30
      go_wp2_with fail
      have f5 : Fr (fun k => k = xb) y1 y1.drew := Fr.drew _ _
      have hS0 := HSS.out _ f5
      have hbx : y1.drew.heap[xb]? = some (.cells X0 31 (0, 0)) := HB.out.2.2.1
      refine wp_region_noPanic ?_
      refine wp_region_held_drew (S := (fun w' : World => w'.cell? ⟨g, 20, none⟩ = some (.int .i64 plo) ∧ w'.cell? ⟨g, 21, none⟩ = some (.int .i64 phi))) (by kernel_rfl) hS0 (fun hHeld => ?_)
      clear hS0
      rw [← HX0.out] at hbx
      generalize y1.drew = yd at f5 hbx hHeld ⊢
      refine wpAnyH_take (i := 0) (oi := { dst := some 11, op := Op.fieldAddr 31 (Operand.tmp 1) 3, type := 0, pos := "gen.go:123", after := #[], guard := none }) (v := ?v0x1) rfl (by kernel_rfl) (by kernel_rfl) (by kernel_rfl) (fun _ _ _ h => h) (Or.inl ⟨by rfl, ?hy0x1⟩) hHeld ?nx0x1
      case hy0x1 => (intro w hSw; (try dsimp only at hSw); go_simp; try with_reducible rfl)
      try simp only [Act.put, List.setIfInBounds_toArray, List.set_cons_zero, List.set_cons_succ]
      refine wpAnyH_take (i := 1) (oi := { dst := some 12, op := Op.load 3 (Operand.tmp 11), type := 3, pos := "gen.go:123", after := #[{ on := 0, ground := Ground.data }], guard := none }) (v := ?v1x2) rfl (by kernel_rfl) (by kernel_rfl) (by kernel_rfl) (fun _ _ _ h => h) (Or.inl ⟨by rfl, ?hy1x2⟩) hHeld ?nx1x2
      case hy1x2 => (intro w hSw; (try dsimp only at hSw); go_simp; try with_reducible rfl)
      try simp only [Act.put, List.setIfInBounds_toArray, List.set_cons_zero, List.set_cons_succ]
      refine wpAnyH_take (i := 3) (oi := { dst := some 14, op := Op.fieldAddr 31 (Operand.tmp 1) 4, type := 0, pos := "gen.go:123", after := #[], guard := none }) (v := ?v3x3) rfl (by kernel_rfl) (by kernel_rfl) (by kernel_rfl) (fun _ _ _ h => h) (Or.inl ⟨by rfl, ?hy3x3⟩) hHeld ?nx3x3
      case hy3x3 => (intro w hSw; (try dsimp only at hSw); go_simp; try with_reducible rfl)
      try simp only [Act.put, List.setIfInBounds_toArray, List.set_cons_zero, List.set_cons_succ]
      refine wpAnyH_take (i := 4) (oi := { dst := some 15, op := Op.load 3 (Operand.tmp 14), type := 3, pos := "gen.go:123", after := #[{ on := 3, ground := Ground.data }], guard := none }) (v := ?v4x4) rfl (by kernel_rfl) (by kernel_rfl) (by kernel_rfl) (fun _ _ _ h => h) (Or.inl ⟨by rfl, ?hy4x4⟩) hHeld ?nx4x4
      case hy4x4 => (intro w hSw; (try dsimp only at hSw); go_simp; try with_reducible rfl)
      try simp only [Act.put, List.setIfInBounds_toArray, List.set_cons_zero, List.set_cons_succ]
      refine wpAnyH_ready (rs := [2]) (by kernel_rfl) (by simp) ?_
      refine (AllReadyH.cons (o := { dst := some 13, op := Op.call { callee := Callee.value (Operand.func 25), args := #[Operand.tmp 12, Operand.const (Value.int IntKind.i64 100)], argTypes := #[3, 3] }, type := 3, pos := "gen.go:123", after := #[{ on := 1, ground := Ground.data }], guard := none }) rfl (fun K hK => ?_) AllReadyH.nil)
      go_simp
      go_at_call 25
      refine (at_prog HP.out (HM1.out _)).mono ?_
      rintro e xx ⟨rfl, hx⟩
      replace hx := hx.symm
      subst hx
      have hS := HSS.out _ f5
      refine hK.out _ _ hS (fun hH2 => ?_)
      clear hK K hHeld
      have hHeld := hH2
      clear hH2 hS
      try simp only [Act.put, List.setIfInBounds_toArray, List.set_cons_zero, List.set_cons_succ]
      refine wpAnyH_take (i := 7) (oi := { dst := some 18, op := Op.fieldAddr 31 (Operand.tmp 3) 3, type := 0, pos := "gen.go:123", after := #[{ on := 0, ground := Ground.phase }, { on := 1, ground := Ground.phase }, { on := 2, ground := Ground.phase }, { on := 3, ground := Ground.textOnly Departure.lateStores }, { on := 4, ground := Ground.textOnly Departure.lateStores }, { on := 5, ground := Ground.textOnly Departure.lateStoresUnsure }, { on := 6, ground := Ground.textOnly Departure.lateStores }], guard := none }) (v := ?v7x5) rfl (by kernel_rfl) (by kernel_rfl) (by kernel_rfl) (fun _ _ _ h => h) (Or.inl ⟨by rfl, ?hy7x5⟩) hHeld ?nx7x5
      case hy7x5 => (intro w hSw; (try dsimp only at hSw); go_simp; try with_reducible rfl)
      try simp only [Act.put, List.setIfInBounds_toArray, List.set_cons_zero, List.set_cons_succ]
      refine wpAnyH_ready (rs := [5]) (by kernel_rfl) (by simp) ?_
      refine (AllReadyH.cons (o := { dst := some 16, op := Op.call { callee := Callee.value (Operand.func 25), args := #[Operand.tmp 15, Operand.const (Value.int IntKind.i64 500)], argTypes := #[3, 3] }, type := 3, pos := "gen.go:123", after := #[{ on := 4, ground := Ground.data }, { on := 2, ground := Ground.chain }], guard := none }) rfl (fun K hK => ?_) AllReadyH.nil)
      go_simp
      go_at_call 25
      refine (at_prog HP.out (HM5.out _)).mono ?_
      rintro e xx ⟨rfl, hx⟩
      replace hx := hx.symm
      subst hx
      have hS := HSS.out _ f5
      refine hK.out _ _ hS (fun hH2 => ?_)
      clear hK K hHeld
      have hHeld := hH2
      clear hH2 hS
      try simp only [Act.put, List.setIfInBounds_toArray, List.set_cons_zero, List.set_cons_succ]
      refine wpAnyH_take (i := 6) (oi := { dst := some 17, op := Op.binOp BinOp.add 3 (Operand.const (Value.int IntKind.i64 60)) (Operand.tmp 16) 3, type := 3, pos := "gen.go:123", after := #[{ on := 5, ground := Ground.data }, { on := 8, ground := Ground.gcOnly Departure.lateStores }], guard := none }) (v := ?v6x6) rfl (by kernel_rfl) (by kernel_rfl) (by kernel_rfl) (fun _ _ _ h => h) (Or.inl ⟨by rfl, ?hy6x6⟩) hHeld ?nx6x6
      case hy6x6 => (intro w hSw; (try dsimp only at hSw); go_simp; try with_reducible rfl)
      try simp only [Act.put, List.setIfInBounds_toArray, List.set_cons_zero, List.set_cons_succ]
      refine wpAnyH_ready (rs := [8]) (by kernel_rfl) (by simp) ?_
      refine (AllReadyH.cons (o := { dst := none, op := Op.store 3 (Operand.tmp 18) (Operand.tmp 13), type := 0, pos := "gen.go:123", after := #[{ on := 7, ground := Ground.data }, { on := 2, ground := Ground.data }, { on := 5, ground := Ground.chain }, { on := 0, ground := Ground.phase }, { on := 1, ground := Ground.phase }, { on := 2, ground := Ground.phase }, { on := 3, ground := Ground.textOnly Departure.lateStores }, { on := 4, ground := Ground.textOnly Departure.lateStores }, { on := 5, ground := Ground.textOnly Departure.lateStoresUnsure }, { on := 6, ground := Ground.textOnly Departure.lateStores }], guard := none }) rfl (fun K hK => ?_) AllReadyH.nil)
      have z20 := cell_of (j := 20) (u := .int .i64 0) hbx rfl
      have fz20 := frozen_of_row yd xb 20 _ _ hbx
      go_simp
      have hbyA := ru_setlo zP_bytes hbx (p : Int)
      have fyA := f5.trans (Fr.setCell (fun k => k = xb) yd ⟨xb, 20, none⟩ (.int .i64 (p : Int)) rfl)
      obtain ⟨yA, hyA⟩ : ∃ y, yd.setCell ⟨xb, 20, none⟩ (.int .i64 (p : Int)) = y := ⟨_, rfl⟩
      rw [hyA] at hbyA fyA ⊢
      have hS := HSS.out _ fyA
      clear z20 fz20
      refine hK.out _ _ hS (fun hH2 => ?_)
      clear hK K hHeld
      have hHeld := hH2
      clear hH2 hS
      try simp only [Act.put, List.setIfInBounds_toArray, List.set_cons_zero, List.set_cons_succ]
      refine wpAnyH_take (i := 9) (oi := { dst := some 19, op := Op.fieldAddr 31 (Operand.tmp 3) 4, type := 0, pos := "gen.go:123", after := #[{ on := 0, ground := Ground.phase }, { on := 1, ground := Ground.phase }, { on := 2, ground := Ground.phase }, { on := 3, ground := Ground.phase }, { on := 4, ground := Ground.phase }, { on := 5, ground := Ground.phase }, { on := 6, ground := Ground.phase }, { on := 7, ground := Ground.phase }, { on := 8, ground := Ground.phase }], guard := none }) (v := ?v9x7) rfl (by kernel_rfl) (by kernel_rfl) (by kernel_rfl) (fun _ _ _ h => h) (Or.inl ⟨by rfl, ?hy9x7⟩) hHeld ?nx9x7
      case hy9x7 => (intro w hSw; (try dsimp only at hSw); go_simp; try with_reducible rfl)
      try simp only [Act.put, List.setIfInBounds_toArray, List.set_cons_zero, List.set_cons_succ]
      refine wpAnyH_ready (rs := [10]) (by kernel_rfl) (by simp) ?_
      refine (AllReadyH.cons (o := { dst := none, op := Op.store 3 (Operand.tmp 19) (Operand.tmp 17), type := 0, pos := "gen.go:123", after := #[{ on := 9, ground := Ground.data }, { on := 6, ground := Ground.data }, { on := 8, ground := Ground.chain }, { on := 0, ground := Ground.phase }, { on := 1, ground := Ground.phase }, { on := 2, ground := Ground.phase }, { on := 3, ground := Ground.phase }, { on := 4, ground := Ground.phase }, { on := 5, ground := Ground.phase }, { on := 6, ground := Ground.phase }, { on := 7, ground := Ground.phase }, { on := 8, ground := Ground.phase }], guard := none }) rfl (fun K hK => ?_) AllReadyH.nil)
      have z21 := cell_of (j := 21) (u := .int .i64 65535) hbyA rfl
      have fz21 := frozen_of_row yA xb 21 _ _ hbyA
      go_simp
      have hbyB := ru_sethi zP_bytes hbyA (60 + (q : Int))
      have fyB := fyA.trans (Fr.setCell (fun k => k = xb) yA ⟨xb, 21, none⟩ (.int .i64 (60 + (q : Int))) rfl)
      obtain ⟨yB, hyB⟩ : ∃ y, yA.setCell ⟨xb, 21, none⟩ (.int .i64 (60 + (q : Int))) = y := ⟨_, rfl⟩
      rw [hyB] at hbyB fyB ⊢
      have hS := HSS.out _ fyB
      clear z21 fz21
      refine hK.out _ _ hS (fun hH2 => ?_)
      clear hK K hHeld
      have hHeld := hH2
      clear hH2 hS
      try simp only [Act.put, List.setIfInBounds_toArray, List.set_cons_zero, List.set_cons_succ]
      refine wpAnyH_done (by kernel_rfl) ?_ _
      refine NoPanic.normal ?_
      have HY : Hid (yB.heap[xb]? = some (.cells (ruC ⟨al, [], zP, (p : Int), 60 + (q : Int)⟩).toArray 31 (0, 0)) ∧ Fr (fun k => k = xb) y1 yB) := ⟨hbyB, fyB⟩
      have z20 := cell_of (j := 20) (u := .int .i64 (p : Int)) HY.out.1 rfl
      have z21 := cell_of (j := 21) (u := .int .i64 (60 + (q : Int))) HY.out.1 rfl
      have fz20 := frozen_of_row yB xb 20 _ _ HY.out.1
      clear hHeld hbyA hbyB fyA fyB hyA hyB f5
      by_cases hpq : (60 : Int) + (q : Int) < (p : Int)
      · have hb2 := ru_setlo zP_bytes HY.out.1 (60 + (q : Int))
        have z21b := cell_of (j := 21) (u := .int .i64 (60 + (q : Int))) hb2 rfl
        have fz21b := frozen_of_row _ xb 21 _ _ hb2
        have HB2 := Lib.hid hb2
        clear hb2
        go_wp2_with fail
        go_meet
        case rel => exact ⟨60 + (q : Int), (p : Int), (in_one HPQ.out.1 HPQ.out.2 hpq).1, (in_one HPQ.out.1 HPQ.out.2 hpq).2.1, (in_one HPQ.out.1 HPQ.out.2 hpq).2.2, ru_sethi zP_bytes HB2.out (p : Int), (HY.out.2.trans (Fr.setCell _ _ _ _ rfl)).trans (Fr.setCell _ _ _ _ rfl)⟩
      · go_wp2_with fail
        go_meet
        case rel => exact ⟨(p : Int), 60 + (q : Int), (in_two HPQ.out.1 HPQ.out.2 hpq).1, (in_two HPQ.out.1 HPQ.out.2 hpq).2.1, (in_two HPQ.out.1 HPQ.out.2 hpq).2.2, HY.out.1, HY.out.2⟩
    · have pk : ¬ (k3 : Int) = 0 := by omega
      go_wp2_with fail
      go_meet
      case rel => exact ⟨0, 65535, by omega, by omega, by omega, by rw [HX0.out]; exact HB.out.2.2.1, Fr.refl _ _⟩
  case rest =>
    obtain ⟨lo, hi, hlo, hlh, hhi, hxc, hxf⟩ := hcut
    have hbg : wc.heap[g]? = some (.cells R 31 (0, 0)) := (hxf.block g (some_lt HB.out.1) (by have := HB.out.2.2.2.2; omega)).trans HB.out.1
    have hbz : wc.heap[g + 1]? = some (.cells Z 31 (0, 0)) := (hxf.block (g + 1) (some_lt HB.out.2.1) (by have := HB.out.2.2.2.2; omega)).trans HB.out.2.1
    have hwf : Fr No w wc := HB.out.2.2.2.1.ofNew hxf fun k hk => .inr (by rw [hk, HW.out]; have := HB.out.2.2.2.2; omega)
    have HC : Hid (wc.heap[g]? = some (.cells R 31 (0, 0)) ∧ wc.heap[g + 1]? = some (.cells Z 31 (0, 0)) ∧ wc.heap[xb]? = some (.cells (ruC ⟨al, [], zP, lo, hi⟩).toArray 31 (0, 0)) ∧ Fr No w wc) := ⟨hbg, hbz, hxc, hwf⟩
    have HV : Hid (0 ≤ lo ∧ lo ≤ hi ∧ hi ≤ 65535) := ⟨hlo, hlh, hhi⟩
    have x1 : wc.cell? ⟨g, 1, none⟩ = some (.string (bs sf)) := by rw [cell_of_row _ _ _ _ _ _ hbg]; exact d1
    clear hlo hlh hhi hxc hxf hbg hbz hwf
    have hsz : (bs sf).size = sf.length := rfl
    obtain ⟨m, hm⟩ : ∃ m, sf.length % 2 = m := ⟨_, rfl⟩
    have e2 : (sf.length : Int).tmod 2 = (m : Int) := by rw [← hm]; rfl
    by_cases hm1 : m = 1
    · have hne : ∃ a l, sf = a :: l := by
        cases sf with
        | nil => simp at hm; omega
        | cons a l => exact ⟨a, l, rfl⟩
      obtain ⟨c, l, hcl⟩ := hne
      have hx0 : ∀ w, Sem.run PD (Instr.index 9 (.string (bs sf)) (.int .i64 0)) w = .ok (.int .u8 (c.toNat : Int)) w := fun w => by rw [HP.out]; exact bs_index (i := 0) (by rw [hcl]; rfl) w
      have pm : (m : Int) = 1 := by omega
      clear hcl hm hm1
      generalize sf.length = ln at *
      generalize (c.toNat : Int) = cv at *
      obtain ⟨s, hs⟩ : ∃ s, bs sf = s := ⟨_, rfl⟩
      rw [hs] at x1 hsz hx0
      go_wp2_with fail
      have f5 : Fr No wc wc.drew := Fr.drew _ _
      have HSS : Hid (∀ w', Fr No wc w' → w'.cell? ⟨g, 1, none⟩ = some (.string s)) := fun w' hf => by
        rw [cell_of_row _ _ _ _ _ _ (hf.keep HC.out.1), ← hs]; exact d1
      have HH2 : Hid (∀ (n : Int) (w : World), Calls Tryz.prog 15 #[.int .i64 n] w fun e w' => (∃ nl, nameV nl = true ∧ nl ≠ [] ∧ e = .returned (.string (bs nl))) ∧ w' = w) := fun n w =>
        (HH.out n w).mono fun e w' h => ⟨⟨_, (HF.out n).1, (HF.out n).2, h.1⟩, h.2⟩
      have hS0 := HSS.out _ f5
      refine wp_region_noPanic ?_
      refine wp_region_held_drew (S := (fun w' : World => w'.cell? ⟨g, 1, none⟩ = some (.string s))) (by kernel_rfl) hS0 (fun hHeld => ?_)
      clear hS0
      have hbx := f5.keep HC.out.2.2.1
      generalize wc.drew = yd at f5 hbx hHeld ⊢
      refine wpAnyH_take (i := 0) (oi := { dst := some 36, op := Op.fieldAddr 31 (Operand.tmp 1) 1, type := 0, pos := "gen.go:129", after := #[], guard := none }) (v := ?v0x8) rfl (by kernel_rfl) (by kernel_rfl) (by kernel_rfl) (fun _ _ _ h => h) (Or.inl ⟨by rfl, ?hy0x8⟩) hHeld ?nx0x8
      case hy0x8 => (intro w hSw; (try dsimp only at hSw); go_simp; try with_reducible rfl)
      try simp only [Act.put, List.setIfInBounds_toArray, List.set_cons_zero, List.set_cons_succ]
      refine wpAnyH_take (i := 1) (oi := { dst := some 37, op := Op.load 9 (Operand.tmp 36), type := 9, pos := "gen.go:129", after := #[{ on := 0, ground := Ground.data }], guard := none }) (v := ?v1x9) rfl (by kernel_rfl) (by kernel_rfl) (by kernel_rfl) (fun _ _ _ h => h) (Or.inl ⟨by rfl, ?hy1x9⟩) hHeld ?nx1x9
      case hy1x9 => (intro w hSw; (try dsimp only at hSw); go_simp; try with_reducible rfl)
      try simp only [Act.put, List.setIfInBounds_toArray, List.set_cons_zero, List.set_cons_succ]
      refine wpAnyH_take (i := 2) (oi := { dst := some 38, op := Op.call { callee := Callee.builtin Builtin.len, args := #[Operand.tmp 37], argTypes := #[9] }, type := 3, pos := "gen.go:129", after := #[{ on := 1, ground := Ground.data }], guard := none }) (v := ?v2x10) rfl (by kernel_rfl) (by kernel_rfl) (by kernel_rfl) (fun _ _ _ h => h) (Or.inl ⟨by rfl, ?hy2x10⟩) hHeld ?nx2x10
      case hy2x10 => (intro w hSw; (try dsimp only at hSw); go_simp; try with_reducible rfl)
      try simp only [Act.put, List.setIfInBounds_toArray, List.set_cons_zero, List.set_cons_succ]
      refine wpAnyH_take (i := 3) (oi := { dst := some 39, op := Op.fieldAddr 31 (Operand.tmp 1) 1, type := 0, pos := "gen.go:129", after := #[], guard := none }) (v := ?v3x11) rfl (by kernel_rfl) (by kernel_rfl) (by kernel_rfl) (fun _ _ _ h => h) (Or.inl ⟨by rfl, ?hy3x11⟩) hHeld ?nx3x11
      case hy3x11 => (intro w hSw; (try dsimp only at hSw); go_simp; try with_reducible rfl)
      try simp only [Act.put, List.setIfInBounds_toArray, List.set_cons_zero, List.set_cons_succ]
      refine wpAnyH_take (i := 4) (oi := { dst := some 40, op := Op.load 9 (Operand.tmp 39), type := 9, pos := "gen.go:129", after := #[{ on := 3, ground := Ground.data }], guard := none }) (v := ?v4x12) rfl (by kernel_rfl) (by kernel_rfl) (by kernel_rfl) (fun _ _ _ h => h) (Or.inl ⟨by rfl, ?hy4x12⟩) hHeld ?nx4x12
      case hy4x12 => (intro w hSw; (try dsimp only at hSw); go_simp; try with_reducible rfl)
      try simp only [Act.put, List.setIfInBounds_toArray, List.set_cons_zero, List.set_cons_succ]
      refine wpAnyH_take (i := 5) (oi := { dst := some 41, op := Op.index 9 (Operand.tmp 40) (Operand.const (Value.int IntKind.i64 0)), type := 5, pos := "gen.go:129", after := #[{ on := 4, ground := Ground.data }], guard := none }) (v := ?v5x13) rfl (by kernel_rfl) (by kernel_rfl) (by kernel_rfl) (fun _ _ _ h => h) (Or.inl ⟨by rfl, ?hy5x13⟩) hHeld ?nx5x13
      case hy5x13 => (intro w hSw; (try dsimp only at hSw); go_simp; try with_reducible rfl)
      try simp only [Act.put, List.setIfInBounds_toArray, List.set_cons_zero, List.set_cons_succ]
      refine wpAnyH_take (i := 6) (oi := { dst := some 42, op := Op.convert 5 3 (Operand.tmp 41), type := 3, pos := "gen.go:129", after := #[{ on := 5, ground := Ground.data }], guard := none }) (v := ?v6x14) rfl (by kernel_rfl) (by kernel_rfl) (by kernel_rfl) (fun _ _ _ h => h) (Or.inl ⟨by rfl, ?hy6x14⟩) hHeld ?nx6x14
      case hy6x14 => (intro w hSw; (try dsimp only at hSw); go_simp; try with_reducible rfl)
      try simp only [Act.put, List.setIfInBounds_toArray, List.set_cons_zero, List.set_cons_succ]
      refine wpAnyH_take (i := 7) (oi := { dst := some 43, op := Op.binOp BinOp.add 3 (Operand.tmp 38) (Operand.tmp 42) 3, type := 3, pos := "gen.go:129", after := #[{ on := 2, ground := Ground.data }, { on := 6, ground := Ground.data }], guard := none }) (v := ?v7x15) rfl (by kernel_rfl) (by kernel_rfl) (by kernel_rfl) (fun _ _ _ h => h) (Or.inl ⟨by rfl, ?hy7x15⟩) hHeld ?nx7x15
      case hy7x15 => (intro w hSw; (try dsimp only at hSw); go_simp; try with_reducible rfl)
      try simp only [Act.put, List.setIfInBounds_toArray, List.set_cons_zero, List.set_cons_succ]
      refine wpAnyH_ready (rs := [8]) (by kernel_rfl) (by simp) ?_
      refine (AllReadyH.cons (o := { dst := some 44, op := Op.call { callee := Callee.value (Operand.func 15), args := #[Operand.tmp 43], argTypes := #[3] }, type := 9, pos := "gen.go:129", after := #[{ on := 7, ground := Ground.data }], guard := none }) rfl (fun K hK => ?_) AllReadyH.nil)
      go_simp
      go_at_call 15
      refine (at_prog HP.out (HH2.out _ _)).mono ?_
      rintro e xx ⟨⟨nl, hnv, hnn, rfl⟩, hx⟩
      replace hx := hx.symm
      subst hx
      have hS := HSS.out _ f5
      refine hK.out _ _ hS (fun hH2 => ?_)
      clear hK K hHeld
      have hHeld := hH2
      clear hH2 hS
      try simp only [Act.put, List.setIfInBounds_toArray, List.set_cons_zero, List.set_cons_succ]
      refine wpAnyH_take (i := 9) (oi := { dst := some 45, op := Op.fieldAddr 31 (Operand.tmp 3) 1, type := 0, pos := "gen.go:129", after := #[{ on := 0, ground := Ground.phase }, { on := 1, ground := Ground.phase }, { on := 2, ground := Ground.phase }, { on := 3, ground := Ground.phase }, { on := 4, ground := Ground.phase }, { on := 5, ground := Ground.phase }, { on := 6, ground := Ground.phase }, { on := 7, ground := Ground.phase }, { on := 8, ground := Ground.phase }], guard := none }) (v := ?v9x16) rfl (by kernel_rfl) (by kernel_rfl) (by kernel_rfl) (fun _ _ _ h => h) (Or.inl ⟨by rfl, ?hy9x16⟩) hHeld ?nx9x16
      case hy9x16 => (intro w hSw; (try dsimp only at hSw); go_simp; try with_reducible rfl)
      try simp only [Act.put, List.setIfInBounds_toArray, List.set_cons_zero, List.set_cons_succ]
      refine wpAnyH_ready (rs := [10]) (by kernel_rfl) (by simp) ?_
      refine (AllReadyH.cons (o := { dst := none, op := Op.store 9 (Operand.tmp 45) (Operand.tmp 44), type := 0, pos := "gen.go:129", after := #[{ on := 9, ground := Ground.data }, { on := 8, ground := Ground.data }, { on := 8, ground := Ground.chain }, { on := 0, ground := Ground.phase }, { on := 1, ground := Ground.phase }, { on := 2, ground := Ground.phase }, { on := 3, ground := Ground.phase }, { on := 4, ground := Ground.phase }, { on := 5, ground := Ground.phase }, { on := 6, ground := Ground.phase }, { on := 7, ground := Ground.phase }, { on := 8, ground := Ground.phase }], guard := none }) rfl (fun K hK => ?_) AllReadyH.nil)
      have z1 := cell_of (j := 1) (u := .string ⟨#[]⟩) hbx rfl
      have fz1 := frozen_of_row yd xb 1 _ _ hbx
      go_simp
      have hb7 := ru_setsf hbx nl
      have f7 : Fr (fun k => k = xb) yd (yd.setCell ⟨xb, 1, none⟩ (.string (bs nl))) := Fr.setCell _ _ _ _ rfl
      obtain ⟨y7, hy7⟩ : ∃ y, yd.setCell ⟨xb, 1, none⟩ (.string (bs nl)) = y := ⟨_, rfl⟩
      rw [hy7] at hb7 f7 ⊢
      have hS : y7.cell? ⟨g, 1, none⟩ = some (.string s) := by rw [cell_of_row _ _ _ _ _ _ ((f7.block g (some_lt (f5.keep HC.out.1)) (by have := HB.out.2.2.2.2; omega)).trans (f5.keep HC.out.1)), ← hs]; exact d1
      clear z1 fz1
      refine hK.out _ _ hS (fun hH2 => ?_)
      clear hK K hHeld
      have hHeld := hH2
      clear hH2 hS
      try simp only [Act.put, List.setIfInBounds_toArray, List.set_cons_zero, List.set_cons_succ]
      refine wpAnyH_done (by kernel_rfl) ?_ _
      refine NoPanic.normal ?_
      clear hHeld hy7
      obtain ⟨X, hX⟩ : ∃ X, (ruC ⟨al, nl, zP, lo, hi⟩).toArray = X := ⟨_, rfl⟩
      have hXs : X.size = 22 := by rw [← hX, List.size_toArray]; exact ruC_length zP_bytes.1
      have hXk2 : X.size = k22 := by rw [HK31.out]; exact hXs
      rw [hX] at hb7
      have lX : Sem.run PD (loadCellsFrom ⟨xb, 0, none⟩ 0 k22 #[]) y7 = .ok X y7 := load_block hb7 hXk2 (fun j v hv => by simpa using hv)
      have hz7 : y7.heap[g + 1]? = some (.cells Z 31 (0, 0)) := (f7.block (g + 1) (some_lt (f5.keep HC.out.2.1)) (by have := HB.out.2.2.2.2; omega)).trans (f5.keep HC.out.2.1)
      obtain ⟨y8, hst8, hyb8, hyf8⟩ := store_all (P := PD) X.toList hz7 (by rw [Array.length_toList, hXk2, hZk]) (by rw [← hX]; exact ruC_one _)
      have H8 : Hid (nameV nl = true ∧ nl ≠ []) := ⟨hnv, hnn⟩
      clear hnv hnn
      go_wp2_with fail
      refine bodyPost_ret_by (results_agg rfl _ (b := g + 1) (k := 22) (cs := X) (Tryz.isAgg31 _) (Tryz.sizeOf31 _) rfl (load_block hyb8 hXs (fun j v hv => by simpa using hv))) rfl ?_
      refine ⟨⟨al, nl, zP, lo, hi⟩, zP_bytes, ?_, by rw [hX], ((HC.out.2.2.2.trans f5).ofNew f7 fun k hk => .inr (by rw [hk, HW.out]; have := HB.out.2.2.2.2; omega)).ofNew hyf8 fun k hk => .inr (by rw [hk, HW.out]; omega)⟩
      show vR ⟨al, nl, zP, lo, hi⟩ = true
      unfold vR
      rw [decide_eq_true HV.out.1, decide_eq_true HV.out.2.1, decide_eq_true HV.out.2.2, if_neg H8.out.2, H8.out.1, decide_eq_true rfl]
      rfl
    · have pm : ¬ (m : Int) = 1 := by omega
      clear hm hm1
      generalize sf.length = ln at *
      obtain ⟨s, hs⟩ : ∃ s, bs sf = s := ⟨_, rfl⟩
      rw [hs] at x1 hsz
      have lP : Sem.run PD (loadCellsFrom ⟨g, 2, none⟩ 0 k40 #[]) wc = .ok P wc := load_block HC.out.1 hPk hRP
      have HST : Hid (∀ (q : Px), Bytes q.xs → ∀ w', Fr No wc w' → ∃ Q y, (pfx q.b q.xs q.n).toArray = Q ∧ Q.size = k40 ∧ Sem.run PD (storeCells ⟨xb, 2, none⟩ Q.toList 0) w' = .ok () y ∧ y.heap[xb]? = some (.cells (ruC ⟨al, [], q, lo, hi⟩).toArray 31 (0, 0)) ∧ Fr (fun k => k = xb) w' y) := fun q hq w' hf => by
        obtain ⟨y, h1, h2, h3⟩ := store_at (P := PD) (o := 2) (pfx q.b q.xs q.n) (hf.keep HC.out.2.2.1) (by rw [pfx_length hq.1, List.size_toArray, ruC_length zP_bytes.1]; decide) (pfx_one _ _ _)
        rw [ru_px _ _ _ _ _ _ zP_bytes hq] at h2
        exact ⟨_, y, rfl, by rw [HK29.out, List.size_toArray]; exact pfx_length hq.1, h1, h2, h3⟩
      go_upto_region 10 with (first | (go_at_call 37; ((refine (at_prog HP.out (HPG.out _)).mono ?_); rintro e w5 ⟨qb, qx, qn, hqb, hqv, rfl, hf5⟩; obtain ⟨Q, y5, hQ, hQk, hst5, hyb5, hyf5⟩ := HST.out ⟨qb, qx, qn⟩ hqb w5 hf5; have hQ' : (pfx qb qx qn).toArray = Q := hQ; rw [hQ'])) | fail)
      obtain ⟨X, hX⟩ : ∃ X, (ruC ⟨al, [], ⟨qb, qx, qn⟩, lo, hi⟩).toArray = X := ⟨_, rfl⟩
      have hXs : X.size = 22 := by rw [← hX, List.size_toArray]; exact ruC_length hqb.1
      have hXk2 : X.size = k22 := by rw [HK31.out]; exact hXs
      rw [hX] at hyb5
      have lX : Sem.run PD (loadCellsFrom ⟨xb, 0, none⟩ 0 k22 #[]) y5 = .ok X y5 := load_block hyb5 hXk2 (fun j v hv => by simpa using hv)
      have hz5 : y5.heap[g + 1]? = some (.cells Z 31 (0, 0)) := (hyf5.block (g + 1) (some_lt (hf5.keep HC.out.2.1)) (by have := HB.out.2.2.2.2; omega)).trans (hf5.keep HC.out.2.1)
      obtain ⟨y6, hst6, hyb6, hyf6⟩ := store_all (P := PD) X.toList hz5 (by rw [Array.length_toList, hXk2, hZk]) (by rw [← hX]; exact ruC_one _)
      go_wp2_with fail
      refine bodyPost_ret_by (results_agg rfl _ (b := g + 1) (k := 22) (cs := X) (Tryz.isAgg31 _) (Tryz.sizeOf31 _) rfl (load_block hyb6 hXs (fun j v hv => by simpa using hv))) rfl ?_
      refine ⟨⟨al, [], ⟨qb, qx, qn⟩, lo, hi⟩, hqb, ?_, by rw [hX], ((HC.out.2.2.2.trans hf5).ofNew hyf5 fun k hk => .inr (by rw [hk, HW.out]; have := HB.out.2.2.2.2; omega)).ofNew hyf6 fun k hk => .inr (by rw [hk, HW.out]; omega)⟩
      show vR ⟨al, [], ⟨qb, qx, qn⟩, lo, hi⟩ = true
      unfold vR
      rw [decide_eq_true HV.out.1, decide_eq_true HV.out.2.1, decide_eq_true HV.out.2.2, if_pos rfl, hqv]
      rfl
end Go.Proofs.YtnadendhboiliaaGreat
