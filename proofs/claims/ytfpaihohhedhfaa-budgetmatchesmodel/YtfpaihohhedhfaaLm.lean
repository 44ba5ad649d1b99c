/-
  THE LAW BudgetMatchesModel: its walk; a budget of the program and one of the reference beside each other.
  Conditions: the arguments lie in their kinds' ranges; the list lies in memory.
-/
import Derived.Test.YtfpaihohhedhfaaLb
import Derived.Test.YtfpaihohhedhfaaLd
import Derived.Deep.DeepCutAuto
import Derived.Deep.CutBlock
namespace Go.Proofs.Ytfpaihohhedhfaa
open Go.ChangeShapes Go.WideShapes Go.ChangeAt Go.RowKit
set_option linter.unusedVariables false

/-- A budget of the program and one of the reference that a law made. -/
structure Two (w0 w : World) (b x : Nat) (l wd c u c2 u2 : Int) : Prop where
  one : One w0 w b l wd c u
  rf : Rf w x l wd c2 u2
  new : w0.heap.size ≤ x
  ne : b ≠ x
  h0 : 0 ≤ u2
  hu : u2 ≤ l

section
variable {w0 w : World} {b x : Nat} {l wd c u c2 u2 : Int}
theorem Two.no {w' : World} (h : Two w0 w b x l wd c u c2 u2) (hf : Fr No w w') : Two w0 w' b x l wd c u c2 u2 := ⟨h.one.no hf, h.rf.no hf, h.new, h.ne, h.h0, h.hu⟩
theorem Two.rem (h : Two w0 w b x l wd c u c2 u2) {a q r : Int} (ha : U64 a) (hq : a / wd = q) (hr : l - cu q c u = r) :
    Calls Try.prog 12 #[.pointer (some ⟨b, 0, none⟩), .int .u64 a] w fun e w' => e = .returned (.int .i64 r) ∧ Two w0 w' b x l wd c u c2 u2 := by
  refine (rem_any b l wd c u a q r w h.one.bd h.one.hl h.one.h0 h.one.hu ha h.one.hw hq hr).mono ?_
  rintro e w' ⟨he, hf⟩
  exact ⟨he, h.no hf⟩
theorem Two.remR (h : Two w0 w b x l wd c u c2 u2) {a q r : Int} (ha : U64 a) (hq : a / wd = q) (hr : l - cu q c2 u2 = r) :
    Calls Try.prog 14 #[.pointer (some ⟨x, 0, none⟩), .int .u64 a] w fun e w' => e = .returned (.int .i64 r) ∧ Two w0 w' b x l wd c u c2 u2 := by
  refine (remR_any x l wd c2 u2 a q r w h.rf h.one.hl h.h0 h.hu ha h.one.hw hq hr).mono ?_
  rintro e w' ⟨he, hf⟩
  exact ⟨he, h.no hf⟩
theorem Two.charge (h : Two w0 w b x l wd c u c2 u2) {a q c' u' : Int} {v : Bool} (ha : U64 a) (hq : a / wd = q) (hc : cw q c = c') (hu : nu q c u l = u') (hv : ch q c u l = v) :
    Calls Try.prog 15 #[.pointer (some ⟨b, 0, none⟩), .int .u64 a] w fun e w' => e = .returned (.bool v) ∧ Two w0 w' b x l wd c' u' c2 u2 := by
  refine (charge_any b l wd c u a q c' u' v w h.one.bd h.one.hl h.one.h0 h.one.hu ha h.one.hw hq hc hu hv).mono ?_
  rintro e w' ⟨he, hb, hf⟩
  have hs := charge_step q c u l h.one.hu h.one.h0
  rw [hu] at hs
  exact ⟨he, ⟨hb, h.one.new, h.one.fr.ofNew hf fun k hk => .inr (by rw [hk]; exact h.one.new), h.one.hl, hs.2.2.1, hs.2.2.2, h.one.hw⟩, h.rf.at_ hf (fun e => h.ne e.symm), h.new, h.ne, h.h0, h.hu⟩
theorem Two.chargeR (h : Two w0 w b x l wd c u c2 u2) {a q c' u' : Int} {v : Bool} (ha : U64 a) (hq : a / wd = q) (hc : cw q c2 = c') (hu : nu q c2 u2 l = u') (hv : ch q c2 u2 l = v) :
    Calls Try.prog 16 #[.pointer (some ⟨x, 0, none⟩), .int .u64 a] w fun e w' => e = .returned (.bool v) ∧ Two w0 w' b x l wd c u c' u' := by
  refine (chargeR_any x l wd c2 u2 a q c' u' v w h.rf h.one.hl h.h0 h.hu ha h.one.hw hq hc hu hv).mono ?_
  rintro e w' ⟨he, hb, hf⟩
  have hs := charge_step q c2 u2 l h.hu h.h0
  rw [hu] at hs
  exact ⟨he, ⟨h.one.bd.at_ hf h.ne, h.one.new, h.one.fr.ofNew hf fun k hk => .inr (by rw [hk]; exact h.new), h.one.hl, h.one.hu, h.one.h0, h.one.hw⟩, hb, h.new, h.ne, hs.2.2.2, hs.2.2.1⟩
theorem One.two (h : One w0 w b l wd c u) {w' : World} (hx : Rf w' x l wd 0 0) (hf : Fr No w w') (hn : w.heap.size ≤ x) (hl : 0 ≤ l) : Two w0 w' b x l wd c u 0 0 :=
  ⟨h.no hf, hx, Nat.le_trans h.fr.size hn, fun e => by have := h.bd.lt; omega, Int.le_refl _, hl⟩
end

set_option maxHeartbeats 8000000 in
set_option maxRecDepth 100000 in
theorem model_walk (n wd : Int) (a : Option Addr) (len cap : Nat) (far : Bool) (w : World) (hn : -9223372036854775808 ≤ n ∧ n ≤ 9223372036854775807) (hw : U64 wd) (hl : InU w a len) :
    Calls Try.prog 4 #[.int .i64 n, .int .u64 wd, .slice a len cap, .bool far] w fun e w' => e = .returned (.bool true) ∧ Fr No w w' := by
  obtain ⟨k, hk, hmk⟩ := mod_fix n 6 (by decide) (by decide)
  obtain ⟨r, hr, hr1, hr2⟩ := width_fix wd 20 (by decide) (by decide) hw
  have HMK := Lib.hid hmk
  have HL := Lib.hid hl
  have hlen := hl.1
  obtain ⟨wt, hwt⟩ : ∃ wt, 1 + r = wt := ⟨_, rfl⟩
  have HW := Lib.hid (show (0 ≤ k ∧ k < 6) ∧ 1 ≤ wt ∧ wt ≤ 30 by omega)
  have HN := Lib.hid (new_one k wt w w (Fr.refl _ _) (by omega))
  obtain ⟨hr0, hr50⟩ := hr
  clear hn hw hk hmk hr2 hl
  go_enter Try.func4, Try.ntmps4
  go_wp2_with fail
  with_reducible refine (HMK.out _).mono ?_
  rintro e wm ⟨rfl, hwm⟩
  have hwm' := hwm.symm
  subst hwm'
  clear hwm
  go_wp2_with fail
  clear hr0 hr50 hr1 hwt
  with_reducible refine HN.out.mono ?_
  rintro e w1 ⟨b, rfl, H1⟩
  have H1 := Lib.hid H1
  go_wp2_with fail
  have HT : Hid (Two w (w1.alloc (.cells #[.int .i64 k, .int .u64 wt, .int .u64 0, .int .i64 0] 36)) b w1.heap.size k wt 0 0 0 0) := H1.out.two (heap_alloc_new w1 _) (Fr.alloc No w1 _) (Nat.le_refl _) HW.out.1.1
  obtain ⟨x, hx⟩ : ∃ x, w1.heap.size = x := ⟨_, rfl⟩
  rw [hx] at HT ⊢
  clear hx H1 HN
  go_loopg [14] 201 (fun gg s14 wr => ∃ (i c u : Int), s14 = .int .i64 i ∧ 0 ≤ i ∧ i ≤ 200 ∧ (200 - i).toNat < gg ∧ Hid (Two w wr b x k wt c u c u))
  case atStart => exact ⟨0, 0, 0, rfl, by omega, by omega, by decide, HT.out⟩
  case round =>
    obtain ⟨i, c, u, rfl, hi0, hi200, hig, HO⟩ := hrel
    clear HT
    by_cases hin : i < len ∧ i < 200
    · obtain ⟨hin1, hin2⟩ := hin
      obtain ⟨j, hj⟩ : ∃ j : Nat, i = j := ⟨i.toNat, by omega⟩
      subst hj
      obtain ⟨ab, o, z, hz, rfl, hcell⟩ := HL.out.cell (i := j) (by omega)
      have c0 := hcell _ HO.out.one.fr
      obtain ⟨z0, z1⟩ := hz
      clear hcell
      cases far
      · obtain ⟨nx, ⟨nx0, nx100⟩, hnx, hnx2⟩ := width_fix z 100 (by decide) (by decide) ⟨z0, z1⟩
        clear hnx2
        obtain ⟨q, hq⟩ : ∃ q, nx / wt = q := ⟨_, rfl⟩
        obtain ⟨rr, hrr⟩ : ∃ rr, k - cu q c u = rr := ⟨_, rfl⟩
        obtain ⟨c', hc'⟩ : ∃ c', cw q c = c' := ⟨_, rfl⟩
        obtain ⟨u', hu'⟩ : ∃ u', nu q c u k = u' := ⟨_, rfl⟩
        obtain ⟨v, hv⟩ : ∃ v, ch q c u k = v := ⟨_, rfl⟩
        have HQ := Lib.hid (show U64 nx ∧ nx / wt = q ∧ k - cu q c u = rr ∧ cw q c = c' ∧ nu q c u k = u' ∧ ch q c u k = v from ⟨⟨by omega, by omega⟩, hq, hrr, hc', hu', hv⟩)
        have H12 := Lib.hid ((HO.out.no (Fr.drew No wr)).rem HQ.out.1 HQ.out.2.1 HQ.out.2.2.1)
        have q0 : (rr == rr) = true := by simp
        have q1 : (v == v) = true := by simp
        have q2 : (u' == u') = true := by simp
        have q3 : (c' == c') = true := by simp
        clear hq hrr hc' hu' hv
        go_wp2_with fail
        clear c0
        refine wp_region_noPanic ?_
        refine wp_region_held_drew (S := (fun _ => True)) (by kernel_rfl) trivial (fun hHeld => ?_)
        refine wpAnyH_take (i := 0) (oi := { dst := some 55, op := Op.move (Operand.tmp 11), type := 23, pos := "law.go:42", after := #[], guard := none }) (v := ?v0x1) rfl (by kernel_rfl) (by kernel_rfl) (by kernel_rfl) (fun _ _ _ h => h) (Or.inl ⟨by rfl, ?hy0x1⟩) hHeld ?nx0x1
        case hy0x1 => (intro w hSw; (try dsimp only at hSw); go_simp; try with_reducible rfl)
        try simp only [Act.put, List.setIfInBounds_toArray, List.set_cons_zero, List.set_cons_succ]
        refine wpAnyH_take (i := 1) (oi := { dst := some 56, op := Op.move (Operand.tmp 15), type := 22, pos := "law.go:42", after := #[], guard := none }) (v := ?v1x2) rfl (by kernel_rfl) (by kernel_rfl) (by kernel_rfl) (fun _ _ _ h => h) (Or.inl ⟨by rfl, ?hy1x2⟩) hHeld ?nx1x2
        case hy1x2 => (intro w hSw; (try dsimp only at hSw); go_simp; try with_reducible rfl)
        try simp only [Act.put, List.setIfInBounds_toArray, List.set_cons_zero, List.set_cons_succ]
        refine wpAnyH_take (i := 3) (oi := { dst := some 58, op := Op.move (Operand.tmp 13), type := 34, pos := "law.go:42", after := #[], guard := none }) (v := ?v3x3) rfl (by kernel_rfl) (by kernel_rfl) (by kernel_rfl) (fun _ _ _ h => h) (Or.inl ⟨by rfl, ?hy3x3⟩) hHeld ?nx3x3
        case hy3x3 => (intro w hSw; (try dsimp only at hSw); go_simp; try with_reducible rfl)
        try simp only [Act.put, List.setIfInBounds_toArray, List.set_cons_zero, List.set_cons_succ]
        refine wpAnyH_take (i := 4) (oi := { dst := some 59, op := Op.move (Operand.tmp 15), type := 22, pos := "law.go:42", after := #[], guard := none }) (v := ?v4x4) rfl (by kernel_rfl) (by kernel_rfl) (by kernel_rfl) (fun _ _ _ h => h) (Or.inl ⟨by rfl, ?hy4x4⟩) hHeld ?nx4x4
        case hy4x4 => (intro w hSw; (try dsimp only at hSw); go_simp; try with_reducible rfl)
        try simp only [Act.put, List.setIfInBounds_toArray, List.set_cons_zero, List.set_cons_succ]
        refine wpAnyH_ready (rs := [2]) (by kernel_rfl) (by simp) ?_
        refine (AllReadyH.cons (o := { dst := some 57, op := Op.call { callee := Callee.value (Operand.func 12), args := #[Operand.tmp 55, Operand.tmp 56], argTypes := #[23, 22] }, type := 3, pos := "law.go:42", after := #[{ on := 0, ground := Ground.data }, { on := 1, ground := Ground.data }], guard := none }) rfl (fun K hK => ?_) AllReadyH.nil)
        go_simp
        go_at_call 12
        with_reducible refine H12.out.mono ?_
        rintro e w3 ⟨rfl, H3⟩
        have H3 := Lib.hid H3
        have hS : True := trivial
        refine hK.out _ _ hS (fun hH2 => ?_)
        clear hK K hHeld
        have hHeld := hH2
        clear hH2 hS
        try simp only [Act.put, List.setIfInBounds_toArray, List.set_cons_zero, List.set_cons_succ]
        refine wpAnyH_ready (rs := [5]) (by kernel_rfl) (by simp) ?_
        refine (AllReadyH.cons (o := { dst := some 60, op := Op.call { callee := Callee.value (Operand.func 14), args := #[Operand.tmp 58, Operand.tmp 59], argTypes := #[34, 22] }, type := 3, pos := "law.go:42", after := #[{ on := 3, ground := Ground.data }, { on := 4, ground := Ground.data }, { on := 2, ground := Ground.chain }], guard := none }) rfl (fun K hK => ?_) AllReadyH.nil)
        go_simp
        go_at_call 14
        with_reducible refine (H3.out.remR HQ.out.1 HQ.out.2.1 HQ.out.2.2.1).mono ?_
        rintro e w4 ⟨rfl, H4⟩
        have H4 := Lib.hid H4
        have hS : True := trivial
        refine hK.out _ _ hS (fun hH2 => ?_)
        clear hK K hHeld
        have hHeld := hH2
        clear hH2 hS
        try simp only [Act.put, List.setIfInBounds_toArray, List.set_cons_zero, List.set_cons_succ]
        refine wpAnyH_take (i := 6) (oi := { dst := some 61, op := Op.binOp BinOp.neq 3 (Operand.tmp 57) (Operand.tmp 60) 3, type := 4, pos := "law.go:42", after := #[{ on := 2, ground := Ground.data }, { on := 5, ground := Ground.data }], guard := none }) (v := ?v6x5) rfl (by kernel_rfl) (by kernel_rfl) (by kernel_rfl) (fun _ _ _ h => h) (Or.inl ⟨by rfl, ?hy6x5⟩) hHeld ?nx6x5
        case hy6x5 => (intro w hSw; (try dsimp only at hSw); go_simp; try with_reducible rfl)
        try simp only [Act.put, List.setIfInBounds_toArray, List.set_cons_zero, List.set_cons_succ]
        refine wpAnyH_take (i := 7) (oi := { dst := some 62, op := Op.move (Operand.tmp 61), type := 4, pos := "law.go:42", after := #[{ on := 6, ground := Ground.data }, { on := 5, ground := Ground.chain }], guard := none }) (v := ?v7x6) rfl (by kernel_rfl) (by kernel_rfl) (by kernel_rfl) (fun _ _ _ h => h) (Or.inl ⟨by rfl, ?hy7x6⟩) hHeld ?nx7x6
        case hy7x6 => (intro w hSw; (try dsimp only at hSw); go_simp; try with_reducible rfl)
        try simp only [Act.put, List.setIfInBounds_toArray, List.set_cons_zero, List.set_cons_succ]
        refine wpAnyH_take (i := 8) (oi := { dst := some 63, op := Op.move (Operand.tmp 11), type := 23, pos := "law.go:42", after := #[{ on := 7, ground := Ground.guard }], guard := some (7, false) }) (v := ?v8x7) rfl (by kernel_rfl) (by kernel_rfl) (by kernel_rfl) (fun _ _ _ h => h) (Or.inl ⟨by rfl, ?hy8x7⟩) hHeld ?nx8x7
        case hy8x7 => (intro w hSw; (try dsimp only at hSw); go_simp; try with_reducible rfl)
        try simp only [Act.put, List.setIfInBounds_toArray, List.set_cons_zero, List.set_cons_succ]
        refine wpAnyH_take (i := 9) (oi := { dst := some 64, op := Op.move (Operand.tmp 15), type := 22, pos := "law.go:42", after := #[{ on := 7, ground := Ground.guard }], guard := some (7, false) }) (v := ?v9x8) rfl (by kernel_rfl) (by kernel_rfl) (by kernel_rfl) (fun _ _ _ h => h) (Or.inl ⟨by rfl, ?hy9x8⟩) hHeld ?nx9x8
        case hy9x8 => (intro w hSw; (try dsimp only at hSw); go_simp; try with_reducible rfl)
        try simp only [Act.put, List.setIfInBounds_toArray, List.set_cons_zero, List.set_cons_succ]
        refine wpAnyH_take (i := 11) (oi := { dst := some 66, op := Op.move (Operand.tmp 13), type := 34, pos := "law.go:42", after := #[{ on := 7, ground := Ground.guard }], guard := some (7, false) }) (v := ?v11x9) rfl (by kernel_rfl) (by kernel_rfl) (by kernel_rfl) (fun _ _ _ h => h) (Or.inl ⟨by rfl, ?hy11x9⟩) hHeld ?nx11x9
        case hy11x9 => (intro w hSw; (try dsimp only at hSw); go_simp; try with_reducible rfl)
        try simp only [Act.put, List.setIfInBounds_toArray, List.set_cons_zero, List.set_cons_succ]
        refine wpAnyH_take (i := 12) (oi := { dst := some 67, op := Op.move (Operand.tmp 15), type := 22, pos := "law.go:42", after := #[{ on := 7, ground := Ground.guard }], guard := some (7, false) }) (v := ?v12x10) rfl (by kernel_rfl) (by kernel_rfl) (by kernel_rfl) (fun _ _ _ h => h) (Or.inl ⟨by rfl, ?hy12x10⟩) hHeld ?nx12x10
        case hy12x10 => (intro w hSw; (try dsimp only at hSw); go_simp; try with_reducible rfl)
        try simp only [Act.put, List.setIfInBounds_toArray, List.set_cons_zero, List.set_cons_succ]
        refine wpAnyH_ready (rs := [10]) (by kernel_rfl) (by simp) ?_
        refine (AllReadyH.cons (o := { dst := some 65, op := Op.call { callee := Callee.value (Operand.func 15), args := #[Operand.tmp 63, Operand.tmp 64], argTypes := #[23, 22] }, type := 4, pos := "law.go:42", after := #[{ on := 8, ground := Ground.data }, { on := 9, ground := Ground.data }, { on := 7, ground := Ground.chain }, { on := 7, ground := Ground.guard }], guard := some (7, false) }) rfl (fun K hK => ?_) AllReadyH.nil)
        go_simp
        go_at_call 15
        with_reducible refine (H4.out.charge HQ.out.1 HQ.out.2.1 HQ.out.2.2.2.1 HQ.out.2.2.2.2.1 HQ.out.2.2.2.2.2).mono ?_
        rintro e w5 ⟨rfl, H5⟩
        have H5 := Lib.hid H5
        have hS : True := trivial
        refine hK.out _ _ hS (fun hH2 => ?_)
        clear hK K hHeld
        have hHeld := hH2
        clear hH2 hS
        try simp only [Act.put, List.setIfInBounds_toArray, List.set_cons_zero, List.set_cons_succ]
        refine wpAnyH_ready (rs := [13]) (by kernel_rfl) (by simp) ?_
        refine (AllReadyH.cons (o := { dst := some 68, op := Op.call { callee := Callee.value (Operand.func 16), args := #[Operand.tmp 66, Operand.tmp 67], argTypes := #[34, 22] }, type := 4, pos := "law.go:42", after := #[{ on := 11, ground := Ground.data }, { on := 12, ground := Ground.data }, { on := 10, ground := Ground.chain }, { on := 7, ground := Ground.guard }], guard := some (7, false) }) rfl (fun K hK => ?_) AllReadyH.nil)
        go_simp
        go_at_call 16
        with_reducible refine (H5.out.chargeR HQ.out.1 HQ.out.2.1 HQ.out.2.2.2.1 HQ.out.2.2.2.2.1 HQ.out.2.2.2.2.2).mono ?_
        rintro e w6 ⟨rfl, H6⟩
        have o2 := H6.rf.cells.2.2.1
        have o3 := H6.rf.cells.2.2.2
        have H6 := Lib.hid H6
        have hS : True := trivial
        refine hK.out _ _ hS (fun hH2 => ?_)
        clear hK K hHeld
        have hHeld := hH2
        clear hH2 hS
        try simp only [Act.put, List.setIfInBounds_toArray, List.set_cons_zero, List.set_cons_succ]
        refine wpAnyH_take (i := 14) (oi := { dst := some 69, op := Op.binOp BinOp.neq 4 (Operand.tmp 65) (Operand.tmp 68) 4, type := 4, pos := "law.go:42", after := #[{ on := 10, ground := Ground.data }, { on := 13, ground := Ground.data }, { on := 7, ground := Ground.guard }], guard := some (7, false) }) (v := ?v14x11) rfl (by kernel_rfl) (by kernel_rfl) (by kernel_rfl) (fun _ _ _ h => h) (Or.inl ⟨by rfl, ?hy14x11⟩) hHeld ?nx14x11
        case hy14x11 => (intro w hSw; (try dsimp only at hSw); go_simp; try with_reducible rfl)
        try simp only [Act.put, List.setIfInBounds_toArray, List.set_cons_zero, List.set_cons_succ]
        refine wpAnyH_take (i := 15) (oi := { dst := some 70, op := Op.pick (Operand.tmp 62) (Operand.const (Value.bool true)) (Operand.tmp 69), type := 4, pos := "law.go:42", after := #[{ on := 7, ground := Ground.data }, { on := 14, ground := Ground.data }], guard := none }) (v := ?v15x12) rfl (by kernel_rfl) (by kernel_rfl) (by kernel_rfl) (fun _ _ _ h => h) (Or.inl ⟨by rfl, ?hy15x12⟩) hHeld ?nx15x12
        case hy15x12 => (intro w hSw; (try dsimp only at hSw); go_simp; try with_reducible rfl)
        try simp only [Act.put, List.setIfInBounds_toArray, List.set_cons_zero, List.set_cons_succ]
        refine wpAnyH_take (i := 16) (oi := { dst := some 71, op := Op.move (Operand.tmp 70), type := 4, pos := "law.go:42", after := #[{ on := 15, ground := Ground.data }, { on := 13, ground := Ground.chain }], guard := none }) (v := ?v16x13) rfl (by kernel_rfl) (by kernel_rfl) (by kernel_rfl) (fun _ _ _ h => h) (Or.inl ⟨by rfl, ?hy16x13⟩) hHeld ?nx16x13
        case hy16x13 => (intro w hSw; (try dsimp only at hSw); go_simp; try with_reducible rfl)
        try simp only [Act.put, List.setIfInBounds_toArray, List.set_cons_zero, List.set_cons_succ]
        refine wpAnyH_take (i := 17) (oi := { dst := some 72, op := Op.move (Operand.tmp 11), type := 23, pos := "law.go:42", after := #[{ on := 16, ground := Ground.guard }], guard := some (16, false) }) (v := ?v17x14) rfl (by kernel_rfl) (by kernel_rfl) (by kernel_rfl) (fun _ _ _ h => h) (Or.inl ⟨by rfl, ?hy17x14⟩) hHeld ?nx17x14
        case hy17x14 => (intro w hSw; (try dsimp only at hSw); go_simp; try with_reducible rfl)
        try simp only [Act.put, List.setIfInBounds_toArray, List.set_cons_zero, List.set_cons_succ]
        refine wpAnyH_take (i := 19) (oi := { dst := some 74, op := Op.move (Operand.tmp 13), type := 34, pos := "law.go:42", after := #[{ on := 16, ground := Ground.guard }], guard := some (16, false) }) (v := ?v19x15) rfl (by kernel_rfl) (by kernel_rfl) (by kernel_rfl) (fun _ _ _ h => h) (Or.inl ⟨by rfl, ?hy19x15⟩) hHeld ?nx19x15
        case hy19x15 => (intro w hSw; (try dsimp only at hSw); go_simp; try with_reducible rfl)
        try simp only [Act.put, List.setIfInBounds_toArray, List.set_cons_zero, List.set_cons_succ]
        refine wpAnyH_take (i := 20) (oi := { dst := some 75, op := Op.nilCheck (Operand.tmp 74), type := 0, pos := "law.go:42", after := #[{ on := 19, ground := Ground.data }, { on := 16, ground := Ground.guard }], guard := some (16, false) }) (v := ?v20x16) rfl (by kernel_rfl) (by kernel_rfl) (by kernel_rfl) (fun _ _ _ h => h) (Or.inl ⟨by rfl, ?hy20x16⟩) hHeld ?nx20x16
        case hy20x16 => (intro w hSw; (try dsimp only at hSw); go_simp; try with_reducible rfl)
        try simp only [Act.put, List.setIfInBounds_toArray, List.set_cons_zero, List.set_cons_succ]
        refine wpAnyH_take (i := 21) (oi := { dst := some 76, op := Op.fieldAddr 36 (Operand.tmp 75) 3, type := 0, pos := "law.go:42", after := #[{ on := 20, ground := Ground.data }, { on := 16, ground := Ground.guard }], guard := some (16, false) }) (v := ?v21x17) rfl (by kernel_rfl) (by kernel_rfl) (by kernel_rfl) (fun _ _ _ h => h) (Or.inl ⟨by rfl, ?hy21x17⟩) hHeld ?nx21x17
        case hy21x17 => (intro w hSw; (try dsimp only at hSw); go_simp; try with_reducible rfl)
        try simp only [Act.put, List.setIfInBounds_toArray, List.set_cons_zero, List.set_cons_succ]
        refine wpAnyH_ready (rs := [18, 22]) (by kernel_rfl) (by simp) ?_
        refine (AllReadyH.cons (o := { dst := some 73, op := Op.call { callee := Callee.value (Operand.func 10), args := #[Operand.tmp 72], argTypes := #[23] }, type := 3, pos := "law.go:42", after := #[{ on := 17, ground := Ground.data }, { on := 16, ground := Ground.chain }, { on := 16, ground := Ground.guard }], guard := some (16, false) }) rfl (fun K hK => ?_) (AllReadyH.cons (o := { dst := some 77, op := Op.load 3 (Operand.tmp 76), type := 3, pos := "law.go:42", after := #[{ on := 21, ground := Ground.data }, { on := 16, ground := Ground.guard }], guard := some (16, false) }) rfl (fun K hK => ?_) AllReadyH.nil))
        · go_simp
          go_at_call 10
          with_reducible refine H6.out.one.used.mono ?_
          rintro e w7 ⟨rfl, hw7⟩
          have hw8 := hw7.symm
          subst hw8
          clear hw7
          have hS : True := trivial
          refine hK.out _ _ hS (fun hH2 => ?_)
          clear hK K hHeld
          have hHeld := hH2
          clear hH2 hS
          try simp only [Act.put, List.setIfInBounds_toArray, List.set_cons_zero, List.set_cons_succ]
          refine wpAnyH_ready (rs := [22]) (by kernel_rfl) (by simp) ?_
          refine (AllReadyH.cons (o := { dst := some 77, op := Op.load 3 (Operand.tmp 76), type := 3, pos := "law.go:42", after := #[{ on := 21, ground := Ground.data }, { on := 16, ground := Ground.guard }], guard := some (16, false) }) rfl (fun K hK => ?_) AllReadyH.nil)
          go_simp
          have hS : True := trivial
          refine hK.out _ _ hS (fun hH2 => ?_)
          clear hK K hHeld
          have hHeld := hH2
          clear hH2 hS
          try simp only [Act.put, List.setIfInBounds_toArray, List.set_cons_zero, List.set_cons_succ]
          refine wpAnyH_take (i := 23) (oi := { dst := some 78, op := Op.binOp BinOp.neq 3 (Operand.tmp 73) (Operand.tmp 77) 3, type := 4, pos := "law.go:42", after := #[{ on := 18, ground := Ground.data }, { on := 22, ground := Ground.data }, { on := 16, ground := Ground.guard }], guard := some (16, false) }) (v := ?v23x18) rfl (by kernel_rfl) (by kernel_rfl) (by kernel_rfl) (fun _ _ _ h => h) (Or.inl ⟨by rfl, ?hy23x18⟩) hHeld ?nx23x18
          case hy23x18 => (intro w hSw; (try dsimp only at hSw); go_simp; try with_reducible rfl)
          try simp only [Act.put, List.setIfInBounds_toArray, List.set_cons_zero, List.set_cons_succ]
          refine wpAnyH_take (i := 24) (oi := { dst := some 79, op := Op.pick (Operand.tmp 71) (Operand.const (Value.bool true)) (Operand.tmp 78), type := 4, pos := "law.go:42", after := #[{ on := 16, ground := Ground.data }, { on := 23, ground := Ground.data }], guard := none }) (v := ?v24x19) rfl (by kernel_rfl) (by kernel_rfl) (by kernel_rfl) (fun _ _ _ h => h) (Or.inl ⟨by rfl, ?hy24x19⟩) hHeld ?nx24x19
          case hy24x19 => (intro w hSw; (try dsimp only at hSw); go_simp; try with_reducible rfl)
          try simp only [Act.put, List.setIfInBounds_toArray, List.set_cons_zero, List.set_cons_succ]
          refine wpAnyH_take (i := 25) (oi := { dst := some 80, op := Op.move (Operand.tmp 79), type := 4, pos := "law.go:42", after := #[{ on := 24, ground := Ground.data }, { on := 18, ground := Ground.chain }], guard := none }) (v := ?v25x20) rfl (by kernel_rfl) (by kernel_rfl) (by kernel_rfl) (fun _ _ _ h => h) (Or.inl ⟨by rfl, ?hy25x20⟩) hHeld ?nx25x20
          case hy25x20 => (intro w hSw; (try dsimp only at hSw); go_simp; try with_reducible rfl)
          try simp only [Act.put, List.setIfInBounds_toArray, List.set_cons_zero, List.set_cons_succ]
          refine wpAnyH_take (i := 26) (oi := { dst := some 81, op := Op.move (Operand.tmp 11), type := 23, pos := "law.go:42", after := #[{ on := 25, ground := Ground.guard }], guard := some (25, false) }) (v := ?v26x21) rfl (by kernel_rfl) (by kernel_rfl) (by kernel_rfl) (fun _ _ _ h => h) (Or.inl ⟨by rfl, ?hy26x21⟩) hHeld ?nx26x21
          case hy26x21 => (intro w hSw; (try dsimp only at hSw); go_simp; try with_reducible rfl)
          try simp only [Act.put, List.setIfInBounds_toArray, List.set_cons_zero, List.set_cons_succ]
          refine wpAnyH_take (i := 28) (oi := { dst := some 83, op := Op.move (Operand.tmp 13), type := 34, pos := "law.go:42", after := #[{ on := 25, ground := Ground.guard }], guard := some (25, false) }) (v := ?v28x22) rfl (by kernel_rfl) (by kernel_rfl) (by kernel_rfl) (fun _ _ _ h => h) (Or.inl ⟨by rfl, ?hy28x22⟩) hHeld ?nx28x22
          case hy28x22 => (intro w hSw; (try dsimp only at hSw); go_simp; try with_reducible rfl)
          try simp only [Act.put, List.setIfInBounds_toArray, List.set_cons_zero, List.set_cons_succ]
          refine wpAnyH_take (i := 29) (oi := { dst := some 84, op := Op.nilCheck (Operand.tmp 83), type := 0, pos := "law.go:42", after := #[{ on := 28, ground := Ground.data }, { on := 25, ground := Ground.guard }], guard := some (25, false) }) (v := ?v29x23) rfl (by kernel_rfl) (by kernel_rfl) (by kernel_rfl) (fun _ _ _ h => h) (Or.inl ⟨by rfl, ?hy29x23⟩) hHeld ?nx29x23
          case hy29x23 => (intro w hSw; (try dsimp only at hSw); go_simp; try with_reducible rfl)
          try simp only [Act.put, List.setIfInBounds_toArray, List.set_cons_zero, List.set_cons_succ]
          refine wpAnyH_take (i := 30) (oi := { dst := some 85, op := Op.fieldAddr 36 (Operand.tmp 84) 2, type := 0, pos := "law.go:42", after := #[{ on := 29, ground := Ground.data }, { on := 25, ground := Ground.guard }], guard := some (25, false) }) (v := ?v30x24) rfl (by kernel_rfl) (by kernel_rfl) (by kernel_rfl) (fun _ _ _ h => h) (Or.inl ⟨by rfl, ?hy30x24⟩) hHeld ?nx30x24
          case hy30x24 => (intro w hSw; (try dsimp only at hSw); go_simp; try with_reducible rfl)
          try simp only [Act.put, List.setIfInBounds_toArray, List.set_cons_zero, List.set_cons_succ]
          refine wpAnyH_ready (rs := [27, 31]) (by kernel_rfl) (by simp) ?_
          refine (AllReadyH.cons (o := { dst := some 82, op := Op.call { callee := Callee.value (Operand.func 11), args := #[Operand.tmp 81], argTypes := #[23] }, type := 22, pos := "law.go:42", after := #[{ on := 26, ground := Ground.data }, { on := 25, ground := Ground.chain }, { on := 25, ground := Ground.guard }], guard := some (25, false) }) rfl (fun K hK => ?_) (AllReadyH.cons (o := { dst := some 86, op := Op.load 22 (Operand.tmp 85), type := 22, pos := "law.go:42", after := #[{ on := 30, ground := Ground.data }, { on := 25, ground := Ground.guard }], guard := some (25, false) }) rfl (fun K hK => ?_) AllReadyH.nil))
          · go_simp
            go_at_call 11
            with_reducible refine H6.out.one.win.mono ?_
            rintro e w7 ⟨rfl, hw7⟩
            have hw8 := hw7.symm
            subst hw8
            clear hw7
            have hS : True := trivial
            refine hK.out _ _ hS (fun hH2 => ?_)
            clear hK K hHeld
            have hHeld := hH2
            clear hH2 hS
            try simp only [Act.put, List.setIfInBounds_toArray, List.set_cons_zero, List.set_cons_succ]
            refine wpAnyH_ready (rs := [31]) (by kernel_rfl) (by simp) ?_
            refine (AllReadyH.cons (o := { dst := some 86, op := Op.load 22 (Operand.tmp 85), type := 22, pos := "law.go:42", after := #[{ on := 30, ground := Ground.data }, { on := 25, ground := Ground.guard }], guard := some (25, false) }) rfl (fun K hK => ?_) AllReadyH.nil)
            go_simp
            have hS : True := trivial
            refine hK.out _ _ hS (fun hH2 => ?_)
            clear hK K hHeld
            have hHeld := hH2
            clear hH2 hS
            try simp only [Act.put, List.setIfInBounds_toArray, List.set_cons_zero, List.set_cons_succ]
            refine wpAnyH_take (i := 32) (oi := { dst := some 87, op := Op.binOp BinOp.neq 22 (Operand.tmp 82) (Operand.tmp 86) 22, type := 4, pos := "law.go:42", after := #[{ on := 27, ground := Ground.data }, { on := 31, ground := Ground.data }, { on := 25, ground := Ground.guard }], guard := some (25, false) }) (v := ?v32x25) rfl (by kernel_rfl) (by kernel_rfl) (by kernel_rfl) (fun _ _ _ h => h) (Or.inl ⟨by rfl, ?hy32x25⟩) hHeld ?nx32x25
            case hy32x25 => (intro w hSw; (try dsimp only at hSw); go_simp; try with_reducible rfl)
            try simp only [Act.put, List.setIfInBounds_toArray, List.set_cons_zero, List.set_cons_succ]
            refine wpAnyH_take (i := 33) (oi := { dst := some 88, op := Op.pick (Operand.tmp 80) (Operand.const (Value.bool true)) (Operand.tmp 87), type := 4, pos := "law.go:42", after := #[{ on := 25, ground := Ground.data }, { on := 32, ground := Ground.data }], guard := none }) (v := ?v33x26) rfl (by kernel_rfl) (by kernel_rfl) (by kernel_rfl) (fun _ _ _ h => h) (Or.inl ⟨by rfl, ?hy33x26⟩) hHeld ?nx33x26
            case hy33x26 => (intro w hSw; (try dsimp only at hSw); go_simp; try with_reducible rfl)
            try simp only [Act.put, List.setIfInBounds_toArray, List.set_cons_zero, List.set_cons_succ]
            refine wpAnyH_done (by kernel_rfl) ?_ _
            refine NoPanic.normal ?_
            go_wp2_with fail
            go_roundg (200 - (j : Int)).toNat
            case measure => exact hig
            case rel => exact ⟨(j : Int) + 1, c', u', by go_num, by omega, by omega, by omega, H6.out⟩
          · go_simp
            have hS : True := trivial
            refine hK.out _ _ hS (fun hH2 => ?_)
            clear hK K hHeld
            have hHeld := hH2
            clear hH2 hS
            try simp only [Act.put, List.setIfInBounds_toArray, List.set_cons_zero, List.set_cons_succ]
            refine wpAnyH_ready (rs := [27]) (by kernel_rfl) (by simp) ?_
            refine (AllReadyH.cons (o := { dst := some 82, op := Op.call { callee := Callee.value (Operand.func 11), args := #[Operand.tmp 81], argTypes := #[23] }, type := 22, pos := "law.go:42", after := #[{ on := 26, ground := Ground.data }, { on := 25, ground := Ground.chain }, { on := 25, ground := Ground.guard }], guard := some (25, false) }) rfl (fun K hK => ?_) AllReadyH.nil)
            go_simp
            go_at_call 11
            with_reducible refine H6.out.one.win.mono ?_
            rintro e w7 ⟨rfl, hw7⟩
            have hw8 := hw7.symm
            subst hw8
            clear hw7
            have hS : True := trivial
            refine hK.out _ _ hS (fun hH2 => ?_)
            clear hK K hHeld
            have hHeld := hH2
            clear hH2 hS
            try simp only [Act.put, List.setIfInBounds_toArray, List.set_cons_zero, List.set_cons_succ]
            refine wpAnyH_take (i := 32) (oi := { dst := some 87, op := Op.binOp BinOp.neq 22 (Operand.tmp 82) (Operand.tmp 86) 22, type := 4, pos := "law.go:42", after := #[{ on := 27, ground := Ground.data }, { on := 31, ground := Ground.data }, { on := 25, ground := Ground.guard }], guard := some (25, false) }) (v := ?v32x27) rfl (by kernel_rfl) (by kernel_rfl) (by kernel_rfl) (fun _ _ _ h => h) (Or.inl ⟨by rfl, ?hy32x27⟩) hHeld ?nx32x27
            case hy32x27 => (intro w hSw; (try dsimp only at hSw); go_simp; try with_reducible rfl)
            try simp only [Act.put, List.setIfInBounds_toArray, List.set_cons_zero, List.set_cons_succ]
            refine wpAnyH_take (i := 33) (oi := { dst := some 88, op := Op.pick (Operand.tmp 80) (Operand.const (Value.bool true)) (Operand.tmp 87), type := 4, pos := "law.go:42", after := #[{ on := 25, ground := Ground.data }, { on := 32, ground := Ground.data }], guard := none }) (v := ?v33x28) rfl (by kernel_rfl) (by kernel_rfl) (by kernel_rfl) (fun _ _ _ h => h) (Or.inl ⟨by rfl, ?hy33x28⟩) hHeld ?nx33x28
            case hy33x28 => (intro w hSw; (try dsimp only at hSw); go_simp; try with_reducible rfl)
            try simp only [Act.put, List.setIfInBounds_toArray, List.set_cons_zero, List.set_cons_succ]
            refine wpAnyH_done (by kernel_rfl) ?_ _
            refine NoPanic.normal ?_
            go_wp2_with fail
            go_roundg (200 - (j : Int)).toNat
            case measure => exact hig
            case rel => exact ⟨(j : Int) + 1, c', u', by go_num, by omega, by omega, by omega, H6.out⟩
        · go_simp
          have hS : True := trivial
          refine hK.out _ _ hS (fun hH2 => ?_)
          clear hK K hHeld
          have hHeld := hH2
          clear hH2 hS
          try simp only [Act.put, List.setIfInBounds_toArray, List.set_cons_zero, List.set_cons_succ]
          refine wpAnyH_ready (rs := [18]) (by kernel_rfl) (by simp) ?_
          refine (AllReadyH.cons (o := { dst := some 73, op := Op.call { callee := Callee.value (Operand.func 10), args := #[Operand.tmp 72], argTypes := #[23] }, type := 3, pos := "law.go:42", after := #[{ on := 17, ground := Ground.data }, { on := 16, ground := Ground.chain }, { on := 16, ground := Ground.guard }], guard := some (16, false) }) rfl (fun K hK => ?_) AllReadyH.nil)
          go_simp
          go_at_call 10
          with_reducible refine H6.out.one.used.mono ?_
          rintro e w7 ⟨rfl, hw7⟩
          have hw8 := hw7.symm
          subst hw8
          clear hw7
          have hS : True := trivial
          refine hK.out _ _ hS (fun hH2 => ?_)
          clear hK K hHeld
          have hHeld := hH2
          clear hH2 hS
          try simp only [Act.put, List.setIfInBounds_toArray, List.set_cons_zero, List.set_cons_succ]
          refine wpAnyH_take (i := 23) (oi := { dst := some 78, op := Op.binOp BinOp.neq 3 (Operand.tmp 73) (Operand.tmp 77) 3, type := 4, pos := "law.go:42", after := #[{ on := 18, ground := Ground.data }, { on := 22, ground := Ground.data }, { on := 16, ground := Ground.guard }], guard := some (16, false) }) (v := ?v23x29) rfl (by kernel_rfl) (by kernel_rfl) (by kernel_rfl) (fun _ _ _ h => h) (Or.inl ⟨by rfl, ?hy23x29⟩) hHeld ?nx23x29
          case hy23x29 => (intro w hSw; (try dsimp only at hSw); go_simp; try with_reducible rfl)
          try simp only [Act.put, List.setIfInBounds_toArray, List.set_cons_zero, List.set_cons_succ]
          refine wpAnyH_take (i := 24) (oi := { dst := some 79, op := Op.pick (Operand.tmp 71) (Operand.const (Value.bool true)) (Operand.tmp 78), type := 4, pos := "law.go:42", after := #[{ on := 16, ground := Ground.data }, { on := 23, ground := Ground.data }], guard := none }) (v := ?v24x30) rfl (by kernel_rfl) (by kernel_rfl) (by kernel_rfl) (fun _ _ _ h => h) (Or.inl ⟨by rfl, ?hy24x30⟩) hHeld ?nx24x30
          case hy24x30 => (intro w hSw; (try dsimp only at hSw); go_simp; try with_reducible rfl)
          try simp only [Act.put, List.setIfInBounds_toArray, List.set_cons_zero, List.set_cons_succ]
          refine wpAnyH_take (i := 25) (oi := { dst := some 80, op := Op.move (Operand.tmp 79), type := 4, pos := "law.go:42", after := #[{ on := 24, ground := Ground.data }, { on := 18, ground := Ground.chain }], guard := none }) (v := ?v25x31) rfl (by kernel_rfl) (by kernel_rfl) (by kernel_rfl) (fun _ _ _ h => h) (Or.inl ⟨by rfl, ?hy25x31⟩) hHeld ?nx25x31
          case hy25x31 => (intro w hSw; (try dsimp only at hSw); go_simp; try with_reducible rfl)
          try simp only [Act.put, List.setIfInBounds_toArray, List.set_cons_zero, List.set_cons_succ]
          refine wpAnyH_take (i := 26) (oi := { dst := some 81, op := Op.move (Operand.tmp 11), type := 23, pos := "law.go:42", after := #[{ on := 25, ground := Ground.guard }], guard := some (25, false) }) (v := ?v26x32) rfl (by kernel_rfl) (by kernel_rfl) (by kernel_rfl) (fun _ _ _ h => h) (Or.inl ⟨by rfl, ?hy26x32⟩) hHeld ?nx26x32
          case hy26x32 => (intro w hSw; (try dsimp only at hSw); go_simp; try with_reducible rfl)
          try simp only [Act.put, List.setIfInBounds_toArray, List.set_cons_zero, List.set_cons_succ]
          refine wpAnyH_take (i := 28) (oi := { dst := some 83, op := Op.move (Operand.tmp 13), type := 34, pos := "law.go:42", after := #[{ on := 25, ground := Ground.guard }], guard := some (25, false) }) (v := ?v28x33) rfl (by kernel_rfl) (by kernel_rfl) (by kernel_rfl) (fun _ _ _ h => h) (Or.inl ⟨by rfl, ?hy28x33⟩) hHeld ?nx28x33
          case hy28x33 => (intro w hSw; (try dsimp only at hSw); go_simp; try with_reducible rfl)
          try simp only [Act.put, List.setIfInBounds_toArray, List.set_cons_zero, List.set_cons_succ]
          refine wpAnyH_take (i := 29) (oi := { dst := some 84, op := Op.nilCheck (Operand.tmp 83), type := 0, pos := "law.go:42", after := #[{ on := 28, ground := Ground.data }, { on := 25, ground := Ground.guard }], guard := some (25, false) }) (v := ?v29x34) rfl (by kernel_rfl) (by kernel_rfl) (by kernel_rfl) (fun _ _ _ h => h) (Or.inl ⟨by rfl, ?hy29x34⟩) hHeld ?nx29x34
          case hy29x34 => (intro w hSw; (try dsimp only at hSw); go_simp; try with_reducible rfl)
          try simp only [Act.put, List.setIfInBounds_toArray, List.set_cons_zero, List.set_cons_succ]
          refine wpAnyH_take (i := 30) (oi := { dst := some 85, op := Op.fieldAddr 36 (Operand.tmp 84) 2, type := 0, pos := "law.go:42", after := #[{ on := 29, ground := Ground.data }, { on := 25, ground := Ground.guard }], guard := some (25, false) }) (v := ?v30x35) rfl (by kernel_rfl) (by kernel_rfl) (by kernel_rfl) (fun _ _ _ h => h) (Or.inl ⟨by rfl, ?hy30x35⟩) hHeld ?nx30x35
          case hy30x35 => (intro w hSw; (try dsimp only at hSw); go_simp; try with_reducible rfl)
          try simp only [Act.put, List.setIfInBounds_toArray, List.set_cons_zero, List.set_cons_succ]
          refine wpAnyH_ready (rs := [27, 31]) (by kernel_rfl) (by simp) ?_
          refine (AllReadyH.cons (o := { dst := some 82, op := Op.call { callee := Callee.value (Operand.func 11), args := #[Operand.tmp 81], argTypes := #[23] }, type := 22, pos := "law.go:42", after := #[{ on := 26, ground := Ground.data }, { on := 25, ground := Ground.chain }, { on := 25, ground := Ground.guard }], guard := some (25, false) }) rfl (fun K hK => ?_) (AllReadyH.cons (o := { dst := some 86, op := Op.load 22 (Operand.tmp 85), type := 22, pos := "law.go:42", after := #[{ on := 30, ground := Ground.data }, { on := 25, ground := Ground.guard }], guard := some (25, false) }) rfl (fun K hK => ?_) AllReadyH.nil))
          · go_simp
            go_at_call 11
            with_reducible refine H6.out.one.win.mono ?_
            rintro e w7 ⟨rfl, hw7⟩
            have hw8 := hw7.symm
            subst hw8
            clear hw7
            have hS : True := trivial
            refine hK.out _ _ hS (fun hH2 => ?_)
            clear hK K hHeld
            have hHeld := hH2
            clear hH2 hS
            try simp only [Act.put, List.setIfInBounds_toArray, List.set_cons_zero, List.set_cons_succ]
            refine wpAnyH_ready (rs := [31]) (by kernel_rfl) (by simp) ?_
            refine (AllReadyH.cons (o := { dst := some 86, op := Op.load 22 (Operand.tmp 85), type := 22, pos := "law.go:42", after := #[{ on := 30, ground := Ground.data }, { on := 25, ground := Ground.guard }], guard := some (25, false) }) rfl (fun K hK => ?_) AllReadyH.nil)
            go_simp
            have hS : True := trivial
            refine hK.out _ _ hS (fun hH2 => ?_)
            clear hK K hHeld
            have hHeld := hH2
            clear hH2 hS
            try simp only [Act.put, List.setIfInBounds_toArray, List.set_cons_zero, List.set_cons_succ]
            refine wpAnyH_take (i := 32) (oi := { dst := some 87, op := Op.binOp BinOp.neq 22 (Operand.tmp 82) (Operand.tmp 86) 22, type := 4, pos := "law.go:42", after := #[{ on := 27, ground := Ground.data }, { on := 31, ground := Ground.data }, { on := 25, ground := Ground.guard }], guard := some (25, false) }) (v := ?v32x36) rfl (by kernel_rfl) (by kernel_rfl) (by kernel_rfl) (fun _ _ _ h => h) (Or.inl ⟨by rfl, ?hy32x36⟩) hHeld ?nx32x36
            case hy32x36 => (intro w hSw; (try dsimp only at hSw); go_simp; try with_reducible rfl)
            try simp only [Act.put, List.setIfInBounds_toArray, List.set_cons_zero, List.set_cons_succ]
            refine wpAnyH_take (i := 33) (oi := { dst := some 88, op := Op.pick (Operand.tmp 80) (Operand.const (Value.bool true)) (Operand.tmp 87), type := 4, pos := "law.go:42", after := #[{ on := 25, ground := Ground.data }, { on := 32, ground := Ground.data }], guard := none }) (v := ?v33x37) rfl (by kernel_rfl) (by kernel_rfl) (by kernel_rfl) (fun _ _ _ h => h) (Or.inl ⟨by rfl, ?hy33x37⟩) hHeld ?nx33x37
            case hy33x37 => (intro w hSw; (try dsimp only at hSw); go_simp; try with_reducible rfl)
            try simp only [Act.put, List.setIfInBounds_toArray, List.set_cons_zero, List.set_cons_succ]
            refine wpAnyH_done (by kernel_rfl) ?_ _
            refine NoPanic.normal ?_
            go_wp2_with fail
            go_roundg (200 - (j : Int)).toNat
            case measure => exact hig
            case rel => exact ⟨(j : Int) + 1, c', u', by go_num, by omega, by omega, by omega, H6.out⟩
          · go_simp
            have hS : True := trivial
            refine hK.out _ _ hS (fun hH2 => ?_)
            clear hK K hHeld
            have hHeld := hH2
            clear hH2 hS
            try simp only [Act.put, List.setIfInBounds_toArray, List.set_cons_zero, List.set_cons_succ]
            refine wpAnyH_ready (rs := [27]) (by kernel_rfl) (by simp) ?_
            refine (AllReadyH.cons (o := { dst := some 82, op := Op.call { callee := Callee.value (Operand.func 11), args := #[Operand.tmp 81], argTypes := #[23] }, type := 22, pos := "law.go:42", after := #[{ on := 26, ground := Ground.data }, { on := 25, ground := Ground.chain }, { on := 25, ground := Ground.guard }], guard := some (25, false) }) rfl (fun K hK => ?_) AllReadyH.nil)
            go_simp
            go_at_call 11
            with_reducible refine H6.out.one.win.mono ?_
            rintro e w7 ⟨rfl, hw7⟩
            have hw8 := hw7.symm
            subst hw8
            clear hw7
            have hS : True := trivial
            refine hK.out _ _ hS (fun hH2 => ?_)
            clear hK K hHeld
            have hHeld := hH2
            clear hH2 hS
            try simp only [Act.put, List.setIfInBounds_toArray, List.set_cons_zero, List.set_cons_succ]
            refine wpAnyH_take (i := 32) (oi := { dst := some 87, op := Op.binOp BinOp.neq 22 (Operand.tmp 82) (Operand.tmp 86) 22, type := 4, pos := "law.go:42", after := #[{ on := 27, ground := Ground.data }, { on := 31, ground := Ground.data }, { on := 25, ground := Ground.guard }], guard := some (25, false) }) (v := ?v32x38) rfl (by kernel_rfl) (by kernel_rfl) (by kernel_rfl) (fun _ _ _ h => h) (Or.inl ⟨by rfl, ?hy32x38⟩) hHeld ?nx32x38
            case hy32x38 => (intro w hSw; (try dsimp only at hSw); go_simp; try with_reducible rfl)
            try simp only [Act.put, List.setIfInBounds_toArray, List.set_cons_zero, List.set_cons_succ]
            refine wpAnyH_take (i := 33) (oi := { dst := some 88, op := Op.pick (Operand.tmp 80) (Operand.const (Value.bool true)) (Operand.tmp 87), type := 4, pos := "law.go:42", after := #[{ on := 25, ground := Ground.data }, { on := 32, ground := Ground.data }], guard := none }) (v := ?v33x39) rfl (by kernel_rfl) (by kernel_rfl) (by kernel_rfl) (fun _ _ _ h => h) (Or.inl ⟨by rfl, ?hy33x39⟩) hHeld ?nx33x39
            case hy33x39 => (intro w hSw; (try dsimp only at hSw); go_simp; try with_reducible rfl)
            try simp only [Act.put, List.setIfInBounds_toArray, List.set_cons_zero, List.set_cons_succ]
            refine wpAnyH_done (by kernel_rfl) ?_ _
            refine NoPanic.normal ?_
            go_wp2_with fail
            go_roundg (200 - (j : Int)).toNat
            case measure => exact hig
            case rel => exact ⟨(j : Int) + 1, c', u', by go_num, by omega, by omega, by omega, H6.out⟩
      · obtain ⟨nx, hnx⟩ : ∃ nx, z = nx := ⟨_, rfl⟩
        subst hnx
        obtain ⟨q, hq⟩ : ∃ q, z / wt = q := ⟨_, rfl⟩
        obtain ⟨rr, hrr⟩ : ∃ rr, k - cu q c u = rr := ⟨_, rfl⟩
        obtain ⟨c', hc'⟩ : ∃ c', cw q c = c' := ⟨_, rfl⟩
        obtain ⟨u', hu'⟩ : ∃ u', nu q c u k = u' := ⟨_, rfl⟩
        obtain ⟨v, hv⟩ : ∃ v, ch q c u k = v := ⟨_, rfl⟩
        have HQ := Lib.hid (show U64 z ∧ z / wt = q ∧ k - cu q c u = rr ∧ cw q c = c' ∧ nu q c u k = u' ∧ ch q c u k = v from ⟨⟨by omega, by omega⟩, hq, hrr, hc', hu', hv⟩)
        have H12 := Lib.hid ((HO.out.no (Fr.drew No wr)).rem HQ.out.1 HQ.out.2.1 HQ.out.2.2.1)
        have q0 : (rr == rr) = true := by simp
        have q1 : (v == v) = true := by simp
        have q2 : (u' == u') = true := by simp
        have q3 : (c' == c') = true := by simp
        clear hq hrr hc' hu' hv
        go_wp2_with fail
        clear c0
        refine wp_region_noPanic ?_
        refine wp_region_held_drew (S := (fun _ => True)) (by kernel_rfl) trivial (fun hHeld => ?_)
        refine wpAnyH_take (i := 0) (oi := { dst := some 55, op := Op.move (Operand.tmp 11), type := 23, pos := "law.go:42", after := #[], guard := none }) (v := ?v0x40) rfl (by kernel_rfl) (by kernel_rfl) (by kernel_rfl) (fun _ _ _ h => h) (Or.inl ⟨by rfl, ?hy0x40⟩) hHeld ?nx0x40
        case hy0x40 => (intro w hSw; (try dsimp only at hSw); go_simp; try with_reducible rfl)
        try simp only [Act.put, List.setIfInBounds_toArray, List.set_cons_zero, List.set_cons_succ]
        refine wpAnyH_take (i := 1) (oi := { dst := some 56, op := Op.move (Operand.tmp 15), type := 22, pos := "law.go:42", after := #[], guard := none }) (v := ?v1x41) rfl (by kernel_rfl) (by kernel_rfl) (by kernel_rfl) (fun _ _ _ h => h) (Or.inl ⟨by rfl, ?hy1x41⟩) hHeld ?nx1x41
        case hy1x41 => (intro w hSw; (try dsimp only at hSw); go_simp; try with_reducible rfl)
        try simp only [Act.put, List.setIfInBounds_toArray, List.set_cons_zero, List.set_cons_succ]
        refine wpAnyH_take (i := 3) (oi := { dst := some 58, op := Op.move (Operand.tmp 13), type := 34, pos := "law.go:42", after := #[], guard := none }) (v := ?v3x42) rfl (by kernel_rfl) (by kernel_rfl) (by kernel_rfl) (fun _ _ _ h => h) (Or.inl ⟨by rfl, ?hy3x42⟩) hHeld ?nx3x42
        case hy3x42 => (intro w hSw; (try dsimp only at hSw); go_simp; try with_reducible rfl)
        try simp only [Act.put, List.setIfInBounds_toArray, List.set_cons_zero, List.set_cons_succ]
        refine wpAnyH_take (i := 4) (oi := { dst := some 59, op := Op.move (Operand.tmp 15), type := 22, pos := "law.go:42", after := #[], guard := none }) (v := ?v4x43) rfl (by kernel_rfl) (by kernel_rfl) (by kernel_rfl) (fun _ _ _ h => h) (Or.inl ⟨by rfl, ?hy4x43⟩) hHeld ?nx4x43
        case hy4x43 => (intro w hSw; (try dsimp only at hSw); go_simp; try with_reducible rfl)
        try simp only [Act.put, List.setIfInBounds_toArray, List.set_cons_zero, List.set_cons_succ]
        refine wpAnyH_ready (rs := [2]) (by kernel_rfl) (by simp) ?_
        refine (AllReadyH.cons (o := { dst := some 57, op := Op.call { callee := Callee.value (Operand.func 12), args := #[Operand.tmp 55, Operand.tmp 56], argTypes := #[23, 22] }, type := 3, pos := "law.go:42", after := #[{ on := 0, ground := Ground.data }, { on := 1, ground := Ground.data }], guard := none }) rfl (fun K hK => ?_) AllReadyH.nil)
        go_simp
        go_at_call 12
        with_reducible refine H12.out.mono ?_
        rintro e w3 ⟨rfl, H3⟩
        have H3 := Lib.hid H3
        have hS : True := trivial
        refine hK.out _ _ hS (fun hH2 => ?_)
        clear hK K hHeld
        have hHeld := hH2
        clear hH2 hS
        try simp only [Act.put, List.setIfInBounds_toArray, List.set_cons_zero, List.set_cons_succ]
        refine wpAnyH_ready (rs := [5]) (by kernel_rfl) (by simp) ?_
        refine (AllReadyH.cons (o := { dst := some 60, op := Op.call { callee := Callee.value (Operand.func 14), args := #[Operand.tmp 58, Operand.tmp 59], argTypes := #[34, 22] }, type := 3, pos := "law.go:42", after := #[{ on := 3, ground := Ground.data }, { on := 4, ground := Ground.data }, { on := 2, ground := Ground.chain }], guard := none }) rfl (fun K hK => ?_) AllReadyH.nil)
        go_simp
        go_at_call 14
        with_reducible refine (H3.out.remR HQ.out.1 HQ.out.2.1 HQ.out.2.2.1).mono ?_
        rintro e w4 ⟨rfl, H4⟩
        have H4 := Lib.hid H4
        have hS : True := trivial
        refine hK.out _ _ hS (fun hH2 => ?_)
        clear hK K hHeld
        have hHeld := hH2
        clear hH2 hS
        try simp only [Act.put, List.setIfInBounds_toArray, List.set_cons_zero, List.set_cons_succ]
        refine wpAnyH_take (i := 6) (oi := { dst := some 61, op := Op.binOp BinOp.neq 3 (Operand.tmp 57) (Operand.tmp 60) 3, type := 4, pos := "law.go:42", after := #[{ on := 2, ground := Ground.data }, { on := 5, ground := Ground.data }], guard := none }) (v := ?v6x44) rfl (by kernel_rfl) (by kernel_rfl) (by kernel_rfl) (fun _ _ _ h => h) (Or.inl ⟨by rfl, ?hy6x44⟩) hHeld ?nx6x44
        case hy6x44 => (intro w hSw; (try dsimp only at hSw); go_simp; try with_reducible rfl)
        try simp only [Act.put, List.setIfInBounds_toArray, List.set_cons_zero, List.set_cons_succ]
        refine wpAnyH_take (i := 7) (oi := { dst := some 62, op := Op.move (Operand.tmp 61), type := 4, pos := "law.go:42", after := #[{ on := 6, ground := Ground.data }, { on := 5, ground := Ground.chain }], guard := none }) (v := ?v7x45) rfl (by kernel_rfl) (by kernel_rfl) (by kernel_rfl) (fun _ _ _ h => h) (Or.inl ⟨by rfl, ?hy7x45⟩) hHeld ?nx7x45
        case hy7x45 => (intro w hSw; (try dsimp only at hSw); go_simp; try with_reducible rfl)
        try simp only [Act.put, List.setIfInBounds_toArray, List.set_cons_zero, List.set_cons_succ]
        refine wpAnyH_take (i := 8) (oi := { dst := some 63, op := Op.move (Operand.tmp 11), type := 23, pos := "law.go:42", after := #[{ on := 7, ground := Ground.guard }], guard := some (7, false) }) (v := ?v8x46) rfl (by kernel_rfl) (by kernel_rfl) (by kernel_rfl) (fun _ _ _ h => h) (Or.inl ⟨by rfl, ?hy8x46⟩) hHeld ?nx8x46
        case hy8x46 => (intro w hSw; (try dsimp only at hSw); go_simp; try with_reducible rfl)
        try simp only [Act.put, List.setIfInBounds_toArray, List.set_cons_zero, List.set_cons_succ]
        refine wpAnyH_take (i := 9) (oi := { dst := some 64, op := Op.move (Operand.tmp 15), type := 22, pos := "law.go:42", after := #[{ on := 7, ground := Ground.guard }], guard := some (7, false) }) (v := ?v9x47) rfl (by kernel_rfl) (by kernel_rfl) (by kernel_rfl) (fun _ _ _ h => h) (Or.inl ⟨by rfl, ?hy9x47⟩) hHeld ?nx9x47
        case hy9x47 => (intro w hSw; (try dsimp only at hSw); go_simp; try with_reducible rfl)
        try simp only [Act.put, List.setIfInBounds_toArray, List.set_cons_zero, List.set_cons_succ]
        refine wpAnyH_take (i := 11) (oi := { dst := some 66, op := Op.move (Operand.tmp 13), type := 34, pos := "law.go:42", after := #[{ on := 7, ground := Ground.guard }], guard := some (7, false) }) (v := ?v11x48) rfl (by kernel_rfl) (by kernel_rfl) (by kernel_rfl) (fun _ _ _ h => h) (Or.inl ⟨by rfl, ?hy11x48⟩) hHeld ?nx11x48
        case hy11x48 => (intro w hSw; (try dsimp only at hSw); go_simp; try with_reducible rfl)
        try simp only [Act.put, List.setIfInBounds_toArray, List.set_cons_zero, List.set_cons_succ]
        refine wpAnyH_take (i := 12) (oi := { dst := some 67, op := Op.move (Operand.tmp 15), type := 22, pos := "law.go:42", after := #[{ on := 7, ground := Ground.guard }], guard := some (7, false) }) (v := ?v12x49) rfl (by kernel_rfl) (by kernel_rfl) (by kernel_rfl) (fun _ _ _ h => h) (Or.inl ⟨by rfl, ?hy12x49⟩) hHeld ?nx12x49
        case hy12x49 => (intro w hSw; (try dsimp only at hSw); go_simp; try with_reducible rfl)
        try simp only [Act.put, List.setIfInBounds_toArray, List.set_cons_zero, List.set_cons_succ]
        refine wpAnyH_ready (rs := [10]) (by kernel_rfl) (by simp) ?_
        refine (AllReadyH.cons (o := { dst := some 65, op := Op.call { callee := Callee.value (Operand.func 15), args := #[Operand.tmp 63, Operand.tmp 64], argTypes := #[23, 22] }, type := 4, pos := "law.go:42", after := #[{ on := 8, ground := Ground.data }, { on := 9, ground := Ground.data }, { on := 7, ground := Ground.chain }, { on := 7, ground := Ground.guard }], guard := some (7, false) }) rfl (fun K hK => ?_) AllReadyH.nil)
        go_simp
        go_at_call 15
        with_reducible refine (H4.out.charge HQ.out.1 HQ.out.2.1 HQ.out.2.2.2.1 HQ.out.2.2.2.2.1 HQ.out.2.2.2.2.2).mono ?_
        rintro e w5 ⟨rfl, H5⟩
        have H5 := Lib.hid H5
        have hS : True := trivial
        refine hK.out _ _ hS (fun hH2 => ?_)
        clear hK K hHeld
        have hHeld := hH2
        clear hH2 hS
        try simp only [Act.put, List.setIfInBounds_toArray, List.set_cons_zero, List.set_cons_succ]
        refine wpAnyH_ready (rs := [13]) (by kernel_rfl) (by simp) ?_
        refine (AllReadyH.cons (o := { dst := some 68, op := Op.call { callee := Callee.value (Operand.func 16), args := #[Operand.tmp 66, Operand.tmp 67], argTypes := #[34, 22] }, type := 4, pos := "law.go:42", after := #[{ on := 11, ground := Ground.data }, { on := 12, ground := Ground.data }, { on := 10, ground := Ground.chain }, { on := 7, ground := Ground.guard }], guard := some (7, false) }) rfl (fun K hK => ?_) AllReadyH.nil)
        go_simp
        go_at_call 16
        with_reducible refine (H5.out.chargeR HQ.out.1 HQ.out.2.1 HQ.out.2.2.2.1 HQ.out.2.2.2.2.1 HQ.out.2.2.2.2.2).mono ?_
        rintro e w6 ⟨rfl, H6⟩
        have o2 := H6.rf.cells.2.2.1
        have o3 := H6.rf.cells.2.2.2
        have H6 := Lib.hid H6
        have hS : True := trivial
        refine hK.out _ _ hS (fun hH2 => ?_)
        clear hK K hHeld
        have hHeld := hH2
        clear hH2 hS
        try simp only [Act.put, List.setIfInBounds_toArray, List.set_cons_zero, List.set_cons_succ]
        refine wpAnyH_take (i := 14) (oi := { dst := some 69, op := Op.binOp BinOp.neq 4 (Operand.tmp 65) (Operand.tmp 68) 4, type := 4, pos := "law.go:42", after := #[{ on := 10, ground := Ground.data }, { on := 13, ground := Ground.data }, { on := 7, ground := Ground.guard }], guard := some (7, false) }) (v := ?v14x50) rfl (by kernel_rfl) (by kernel_rfl) (by kernel_rfl) (fun _ _ _ h => h) (Or.inl ⟨by rfl, ?hy14x50⟩) hHeld ?nx14x50
        case hy14x50 => (intro w hSw; (try dsimp only at hSw); go_simp; try with_reducible rfl)
        try simp only [Act.put, List.setIfInBounds_toArray, List.set_cons_zero, List.set_cons_succ]
        refine wpAnyH_take (i := 15) (oi := { dst := some 70, op := Op.pick (Operand.tmp 62) (Operand.const (Value.bool true)) (Operand.tmp 69), type := 4, pos := "law.go:42", after := #[{ on := 7, ground := Ground.data }, { on := 14, ground := Ground.data }], guard := none }) (v := ?v15x51) rfl (by kernel_rfl) (by kernel_rfl) (by kernel_rfl) (fun _ _ _ h => h) (Or.inl ⟨by rfl, ?hy15x51⟩) hHeld ?nx15x51
        case hy15x51 => (intro w hSw; (try dsimp only at hSw); go_simp; try with_reducible rfl)
        try simp only [Act.put, List.setIfInBounds_toArray, List.set_cons_zero, List.set_cons_succ]
        refine wpAnyH_take (i := 16) (oi := { dst := some 71, op := Op.move (Operand.tmp 70), type := 4, pos := "law.go:42", after := #[{ on := 15, ground := Ground.data }, { on := 13, ground := Ground.chain }], guard := none }) (v := ?v16x52) rfl (by kernel_rfl) (by kernel_rfl) (by kernel_rfl) (fun _ _ _ h => h) (Or.inl ⟨by rfl, ?hy16x52⟩) hHeld ?nx16x52
        case hy16x52 => (intro w hSw; (try dsimp only at hSw); go_simp; try with_reducible rfl)
        try simp only [Act.put, List.setIfInBounds_toArray, List.set_cons_zero, List.set_cons_succ]
        refine wpAnyH_take (i := 17) (oi := { dst := some 72, op := Op.move (Operand.tmp 11), type := 23, pos := "law.go:42", after := #[{ on := 16, ground := Ground.guard }], guard := some (16, false) }) (v := ?v17x53) rfl (by kernel_rfl) (by kernel_rfl) (by kernel_rfl) (fun _ _ _ h => h) (Or.inl ⟨by rfl, ?hy17x53⟩) hHeld ?nx17x53
        case hy17x53 => (intro w hSw; (try dsimp only at hSw); go_simp; try with_reducible rfl)
        try simp only [Act.put, List.setIfInBounds_toArray, List.set_cons_zero, List.set_cons_succ]
        refine wpAnyH_take (i := 19) (oi := { dst := some 74, op := Op.move (Operand.tmp 13), type := 34, pos := "law.go:42", after := #[{ on := 16, ground := Ground.guard }], guard := some (16, false) }) (v := ?v19x54) rfl (by kernel_rfl) (by kernel_rfl) (by kernel_rfl) (fun _ _ _ h => h) (Or.inl ⟨by rfl, ?hy19x54⟩) hHeld ?nx19x54
        case hy19x54 => (intro w hSw; (try dsimp only at hSw); go_simp; try with_reducible rfl)
        try simp only [Act.put, List.setIfInBounds_toArray, List.set_cons_zero, List.set_cons_succ]
        refine wpAnyH_take (i := 20) (oi := { dst := some 75, op := Op.nilCheck (Operand.tmp 74), type := 0, pos := "law.go:42", after := #[{ on := 19, ground := Ground.data }, { on := 16, ground := Ground.guard }], guard := some (16, false) }) (v := ?v20x55) rfl (by kernel_rfl) (by kernel_rfl) (by kernel_rfl) (fun _ _ _ h => h) (Or.inl ⟨by rfl, ?hy20x55⟩) hHeld ?nx20x55
        case hy20x55 => (intro w hSw; (try dsimp only at hSw); go_simp; try with_reducible rfl)
        try simp only [Act.put, List.setIfInBounds_toArray, List.set_cons_zero, List.set_cons_succ]
        refine wpAnyH_take (i := 21) (oi := { dst := some 76, op := Op.fieldAddr 36 (Operand.tmp 75) 3, type := 0, pos := "law.go:42", after := #[{ on := 20, ground := Ground.data }, { on := 16, ground := Ground.guard }], guard := some (16, false) }) (v := ?v21x56) rfl (by kernel_rfl) (by kernel_rfl) (by kernel_rfl) (fun _ _ _ h => h) (Or.inl ⟨by rfl, ?hy21x56⟩) hHeld ?nx21x56
        case hy21x56 => (intro w hSw; (try dsimp only at hSw); go_simp; try with_reducible rfl)
        try simp only [Act.put, List.setIfInBounds_toArray, List.set_cons_zero, List.set_cons_succ]
        refine wpAnyH_ready (rs := [18, 22]) (by kernel_rfl) (by simp) ?_
        refine (AllReadyH.cons (o := { dst := some 73, op := Op.call { callee := Callee.value (Operand.func 10), args := #[Operand.tmp 72], argTypes := #[23] }, type := 3, pos := "law.go:42", after := #[{ on := 17, ground := Ground.data }, { on := 16, ground := Ground.chain }, { on := 16, ground := Ground.guard }], guard := some (16, false) }) rfl (fun K hK => ?_) (AllReadyH.cons (o := { dst := some 77, op := Op.load 3 (Operand.tmp 76), type := 3, pos := "law.go:42", after := #[{ on := 21, ground := Ground.data }, { on := 16, ground := Ground.guard }], guard := some (16, false) }) rfl (fun K hK => ?_) AllReadyH.nil))
        · go_simp
          go_at_call 10
          with_reducible refine H6.out.one.used.mono ?_
          rintro e w7 ⟨rfl, hw7⟩
          have hw8 := hw7.symm
          subst hw8
          clear hw7
          have hS : True := trivial
          refine hK.out _ _ hS (fun hH2 => ?_)
          clear hK K hHeld
          have hHeld := hH2
          clear hH2 hS
          try simp only [Act.put, List.setIfInBounds_toArray, List.set_cons_zero, List.set_cons_succ]
          refine wpAnyH_ready (rs := [22]) (by kernel_rfl) (by simp) ?_
          refine (AllReadyH.cons (o := { dst := some 77, op := Op.load 3 (Operand.tmp 76), type := 3, pos := "law.go:42", after := #[{ on := 21, ground := Ground.data }, { on := 16, ground := Ground.guard }], guard := some (16, false) }) rfl (fun K hK => ?_) AllReadyH.nil)
          go_simp
          have hS : True := trivial
          refine hK.out _ _ hS (fun hH2 => ?_)
          clear hK K hHeld
          have hHeld := hH2
          clear hH2 hS
          try simp only [Act.put, List.setIfInBounds_toArray, List.set_cons_zero, List.set_cons_succ]
          refine wpAnyH_take (i := 23) (oi := { dst := some 78, op := Op.binOp BinOp.neq 3 (Operand.tmp 73) (Operand.tmp 77) 3, type := 4, pos := "law.go:42", after := #[{ on := 18, ground := Ground.data }, { on := 22, ground := Ground.data }, { on := 16, ground := Ground.guard }], guard := some (16, false) }) (v := ?v23x57) rfl (by kernel_rfl) (by kernel_rfl) (by kernel_rfl) (fun _ _ _ h => h) (Or.inl ⟨by rfl, ?hy23x57⟩) hHeld ?nx23x57
          case hy23x57 => (intro w hSw; (try dsimp only at hSw); go_simp; try with_reducible rfl)
          try simp only [Act.put, List.setIfInBounds_toArray, List.set_cons_zero, List.set_cons_succ]
          refine wpAnyH_take (i := 24) (oi := { dst := some 79, op := Op.pick (Operand.tmp 71) (Operand.const (Value.bool true)) (Operand.tmp 78), type := 4, pos := "law.go:42", after := #[{ on := 16, ground := Ground.data }, { on := 23, ground := Ground.data }], guard := none }) (v := ?v24x58) rfl (by kernel_rfl) (by kernel_rfl) (by kernel_rfl) (fun _ _ _ h => h) (Or.inl ⟨by rfl, ?hy24x58⟩) hHeld ?nx24x58
          case hy24x58 => (intro w hSw; (try dsimp only at hSw); go_simp; try with_reducible rfl)
          try simp only [Act.put, List.setIfInBounds_toArray, List.set_cons_zero, List.set_cons_succ]
          refine wpAnyH_take (i := 25) (oi := { dst := some 80, op := Op.move (Operand.tmp 79), type := 4, pos := "law.go:42", after := #[{ on := 24, ground := Ground.data }, { on := 18, ground := Ground.chain }], guard := none }) (v := ?v25x59) rfl (by kernel_rfl) (by kernel_rfl) (by kernel_rfl) (fun _ _ _ h => h) (Or.inl ⟨by rfl, ?hy25x59⟩) hHeld ?nx25x59
          case hy25x59 => (intro w hSw; (try dsimp only at hSw); go_simp; try with_reducible rfl)
          try simp only [Act.put, List.setIfInBounds_toArray, List.set_cons_zero, List.set_cons_succ]
          refine wpAnyH_take (i := 26) (oi := { dst := some 81, op := Op.move (Operand.tmp 11), type := 23, pos := "law.go:42", after := #[{ on := 25, ground := Ground.guard }], guard := some (25, false) }) (v := ?v26x60) rfl (by kernel_rfl) (by kernel_rfl) (by kernel_rfl) (fun _ _ _ h => h) (Or.inl ⟨by rfl, ?hy26x60⟩) hHeld ?nx26x60
          case hy26x60 => (intro w hSw; (try dsimp only at hSw); go_simp; try with_reducible rfl)
          try simp only [Act.put, List.setIfInBounds_toArray, List.set_cons_zero, List.set_cons_succ]
          refine wpAnyH_take (i := 28) (oi := { dst := some 83, op := Op.move (Operand.tmp 13), type := 34, pos := "law.go:42", after := #[{ on := 25, ground := Ground.guard }], guard := some (25, false) }) (v := ?v28x61) rfl (by kernel_rfl) (by kernel_rfl) (by kernel_rfl) (fun _ _ _ h => h) (Or.inl ⟨by rfl, ?hy28x61⟩) hHeld ?nx28x61
          case hy28x61 => (intro w hSw; (try dsimp only at hSw); go_simp; try with_reducible rfl)
          try simp only [Act.put, List.setIfInBounds_toArray, List.set_cons_zero, List.set_cons_succ]
          refine wpAnyH_take (i := 29) (oi := { dst := some 84, op := Op.nilCheck (Operand.tmp 83), type := 0, pos := "law.go:42", after := #[{ on := 28, ground := Ground.data }, { on := 25, ground := Ground.guard }], guard := some (25, false) }) (v := ?v29x62) rfl (by kernel_rfl) (by kernel_rfl) (by kernel_rfl) (fun _ _ _ h => h) (Or.inl ⟨by rfl, ?hy29x62⟩) hHeld ?nx29x62
          case hy29x62 => (intro w hSw; (try dsimp only at hSw); go_simp; try with_reducible rfl)
          try simp only [Act.put, List.setIfInBounds_toArray, List.set_cons_zero, List.set_cons_succ]
          refine wpAnyH_take (i := 30) (oi := { dst := some 85, op := Op.fieldAddr 36 (Operand.tmp 84) 2, type := 0, pos := "law.go:42", after := #[{ on := 29, ground := Ground.data }, { on := 25, ground := Ground.guard }], guard := some (25, false) }) (v := ?v30x63) rfl (by kernel_rfl) (by kernel_rfl) (by kernel_rfl) (fun _ _ _ h => h) (Or.inl ⟨by rfl, ?hy30x63⟩) hHeld ?nx30x63
          case hy30x63 => (intro w hSw; (try dsimp only at hSw); go_simp; try with_reducible rfl)
          try simp only [Act.put, List.setIfInBounds_toArray, List.set_cons_zero, List.set_cons_succ]
          refine wpAnyH_ready (rs := [27, 31]) (by kernel_rfl) (by simp) ?_
          refine (AllReadyH.cons (o := { dst := some 82, op := Op.call { callee := Callee.value (Operand.func 11), args := #[Operand.tmp 81], argTypes := #[23] }, type := 22, pos := "law.go:42", after := #[{ on := 26, ground := Ground.data }, { on := 25, ground := Ground.chain }, { on := 25, ground := Ground.guard }], guard := some (25, false) }) rfl (fun K hK => ?_) (AllReadyH.cons (o := { dst := some 86, op := Op.load 22 (Operand.tmp 85), type := 22, pos := "law.go:42", after := #[{ on := 30, ground := Ground.data }, { on := 25, ground := Ground.guard }], guard := some (25, false) }) rfl (fun K hK => ?_) AllReadyH.nil))
          · go_simp
            go_at_call 11
            with_reducible refine H6.out.one.win.mono ?_
            rintro e w7 ⟨rfl, hw7⟩
            have hw8 := hw7.symm
            subst hw8
            clear hw7
            have hS : True := trivial
            refine hK.out _ _ hS (fun hH2 => ?_)
            clear hK K hHeld
            have hHeld := hH2
            clear hH2 hS
            try simp only [Act.put, List.setIfInBounds_toArray, List.set_cons_zero, List.set_cons_succ]
            refine wpAnyH_ready (rs := [31]) (by kernel_rfl) (by simp) ?_
            refine (AllReadyH.cons (o := { dst := some 86, op := Op.load 22 (Operand.tmp 85), type := 22, pos := "law.go:42", after := #[{ on := 30, ground := Ground.data }, { on := 25, ground := Ground.guard }], guard := some (25, false) }) rfl (fun K hK => ?_) AllReadyH.nil)
            go_simp
            have hS : True := trivial
            refine hK.out _ _ hS (fun hH2 => ?_)
            clear hK K hHeld
            have hHeld := hH2
            clear hH2 hS
            try simp only [Act.put, List.setIfInBounds_toArray, List.set_cons_zero, List.set_cons_succ]
            refine wpAnyH_take (i := 32) (oi := { dst := some 87, op := Op.binOp BinOp.neq 22 (Operand.tmp 82) (Operand.tmp 86) 22, type := 4, pos := "law.go:42", after := #[{ on := 27, ground := Ground.data }, { on := 31, ground := Ground.data }, { on := 25, ground := Ground.guard }], guard := some (25, false) }) (v := ?v32x64) rfl (by kernel_rfl) (by kernel_rfl) (by kernel_rfl) (fun _ _ _ h => h) (Or.inl ⟨by rfl, ?hy32x64⟩) hHeld ?nx32x64
            case hy32x64 => (intro w hSw; (try dsimp only at hSw); go_simp; try with_reducible rfl)
            try simp only [Act.put, List.setIfInBounds_toArray, List.set_cons_zero, List.set_cons_succ]
            refine wpAnyH_take (i := 33) (oi := { dst := some 88, op := Op.pick (Operand.tmp 80) (Operand.const (Value.bool true)) (Operand.tmp 87), type := 4, pos := "law.go:42", after := #[{ on := 25, ground := Ground.data }, { on := 32, ground := Ground.data }], guard := none }) (v := ?v33x65) rfl (by kernel_rfl) (by kernel_rfl) (by kernel_rfl) (fun _ _ _ h => h) (Or.inl ⟨by rfl, ?hy33x65⟩) hHeld ?nx33x65
            case hy33x65 => (intro w hSw; (try dsimp only at hSw); go_simp; try with_reducible rfl)
            try simp only [Act.put, List.setIfInBounds_toArray, List.set_cons_zero, List.set_cons_succ]
            refine wpAnyH_done (by kernel_rfl) ?_ _
            refine NoPanic.normal ?_
            go_wp2_with fail
            go_roundg (200 - (j : Int)).toNat
            case measure => exact hig
            case rel => exact ⟨(j : Int) + 1, c', u', by go_num, by omega, by omega, by omega, H6.out⟩
          · go_simp
            have hS : True := trivial
            refine hK.out _ _ hS (fun hH2 => ?_)
            clear hK K hHeld
            have hHeld := hH2
            clear hH2 hS
            try simp only [Act.put, List.setIfInBounds_toArray, List.set_cons_zero, List.set_cons_succ]
            refine wpAnyH_ready (rs := [27]) (by kernel_rfl) (by simp) ?_
            refine (AllReadyH.cons (o := { dst := some 82, op := Op.call { callee := Callee.value (Operand.func 11), args := #[Operand.tmp 81], argTypes := #[23] }, type := 22, pos := "law.go:42", after := #[{ on := 26, ground := Ground.data }, { on := 25, ground := Ground.chain }, { on := 25, ground := Ground.guard }], guard := some (25, false) }) rfl (fun K hK => ?_) AllReadyH.nil)
            go_simp
            go_at_call 11
            with_reducible refine H6.out.one.win.mono ?_
            rintro e w7 ⟨rfl, hw7⟩
            have hw8 := hw7.symm
            subst hw8
            clear hw7
            have hS : True := trivial
            refine hK.out _ _ hS (fun hH2 => ?_)
            clear hK K hHeld
            have hHeld := hH2
            clear hH2 hS
            try simp only [Act.put, List.setIfInBounds_toArray, List.set_cons_zero, List.set_cons_succ]
            refine wpAnyH_take (i := 32) (oi := { dst := some 87, op := Op.binOp BinOp.neq 22 (Operand.tmp 82) (Operand.tmp 86) 22, type := 4, pos := "law.go:42", after := #[{ on := 27, ground := Ground.data }, { on := 31, ground := Ground.data }, { on := 25, ground := Ground.guard }], guard := some (25, false) }) (v := ?v32x66) rfl (by kernel_rfl) (by kernel_rfl) (by kernel_rfl) (fun _ _ _ h => h) (Or.inl ⟨by rfl, ?hy32x66⟩) hHeld ?nx32x66
            case hy32x66 => (intro w hSw; (try dsimp only at hSw); go_simp; try with_reducible rfl)
            try simp only [Act.put, List.setIfInBounds_toArray, List.set_cons_zero, List.set_cons_succ]
            refine wpAnyH_take (i := 33) (oi := { dst := some 88, op := Op.pick (Operand.tmp 80) (Operand.const (Value.bool true)) (Operand.tmp 87), type := 4, pos := "law.go:42", after := #[{ on := 25, ground := Ground.data }, { on := 32, ground := Ground.data }], guard := none }) (v := ?v33x67) rfl (by kernel_rfl) (by kernel_rfl) (by kernel_rfl) (fun _ _ _ h => h) (Or.inl ⟨by rfl, ?hy33x67⟩) hHeld ?nx33x67
            case hy33x67 => (intro w hSw; (try dsimp only at hSw); go_simp; try with_reducible rfl)
            try simp only [Act.put, List.setIfInBounds_toArray, List.set_cons_zero, List.set_cons_succ]
            refine wpAnyH_done (by kernel_rfl) ?_ _
            refine NoPanic.normal ?_
            go_wp2_with fail
            go_roundg (200 - (j : Int)).toNat
            case measure => exact hig
            case rel => exact ⟨(j : Int) + 1, c', u', by go_num, by omega, by omega, by omega, H6.out⟩
        · go_simp
          have hS : True := trivial
          refine hK.out _ _ hS (fun hH2 => ?_)
          clear hK K hHeld
          have hHeld := hH2
          clear hH2 hS
          try simp only [Act.put, List.setIfInBounds_toArray, List.set_cons_zero, List.set_cons_succ]
          refine wpAnyH_ready (rs := [18]) (by kernel_rfl) (by simp) ?_
          refine (AllReadyH.cons (o := { dst := some 73, op := Op.call { callee := Callee.value (Operand.func 10), args := #[Operand.tmp 72], argTypes := #[23] }, type := 3, pos := "law.go:42", after := #[{ on := 17, ground := Ground.data }, { on := 16, ground := Ground.chain }, { on := 16, ground := Ground.guard }], guard := some (16, false) }) rfl (fun K hK => ?_) AllReadyH.nil)
          go_simp
          go_at_call 10
          with_reducible refine H6.out.one.used.mono ?_
          rintro e w7 ⟨rfl, hw7⟩
          have hw8 := hw7.symm
          subst hw8
          clear hw7
          have hS : True := trivial
          refine hK.out _ _ hS (fun hH2 => ?_)
          clear hK K hHeld
          have hHeld := hH2
          clear hH2 hS
          try simp only [Act.put, List.setIfInBounds_toArray, List.set_cons_zero, List.set_cons_succ]
          refine wpAnyH_take (i := 23) (oi := { dst := some 78, op := Op.binOp BinOp.neq 3 (Operand.tmp 73) (Operand.tmp 77) 3, type := 4, pos := "law.go:42", after := #[{ on := 18, ground := Ground.data }, { on := 22, ground := Ground.data }, { on := 16, ground := Ground.guard }], guard := some (16, false) }) (v := ?v23x68) rfl (by kernel_rfl) (by kernel_rfl) (by kernel_rfl) (fun _ _ _ h => h) (Or.inl ⟨by rfl, ?hy23x68⟩) hHeld ?nx23x68
          case hy23x68 => (intro w hSw; (try dsimp only at hSw); go_simp; try with_reducible rfl)
          try simp only [Act.put, List.setIfInBounds_toArray, List.set_cons_zero, List.set_cons_succ]
          refine wpAnyH_take (i := 24) (oi := { dst := some 79, op := Op.pick (Operand.tmp 71) (Operand.const (Value.bool true)) (Operand.tmp 78), type := 4, pos := "law.go:42", after := #[{ on := 16, ground := Ground.data }, { on := 23, ground := Ground.data }], guard := none }) (v := ?v24x69) rfl (by kernel_rfl) (by kernel_rfl) (by kernel_rfl) (fun _ _ _ h => h) (Or.inl ⟨by rfl, ?hy24x69⟩) hHeld ?nx24x69
          case hy24x69 => (intro w hSw; (try dsimp only at hSw); go_simp; try with_reducible rfl)
          try simp only [Act.put, List.setIfInBounds_toArray, List.set_cons_zero, List.set_cons_succ]
          refine wpAnyH_take (i := 25) (oi := { dst := some 80, op := Op.move (Operand.tmp 79), type := 4, pos := "law.go:42", after := #[{ on := 24, ground := Ground.data }, { on := 18, ground := Ground.chain }], guard := none }) (v := ?v25x70) rfl (by kernel_rfl) (by kernel_rfl) (by kernel_rfl) (fun _ _ _ h => h) (Or.inl ⟨by rfl, ?hy25x70⟩) hHeld ?nx25x70
          case hy25x70 => (intro w hSw; (try dsimp only at hSw); go_simp; try with_reducible rfl)
          try simp only [Act.put, List.setIfInBounds_toArray, List.set_cons_zero, List.set_cons_succ]
          refine wpAnyH_take (i := 26) (oi := { dst := some 81, op := Op.move (Operand.tmp 11), type := 23, pos := "law.go:42", after := #[{ on := 25, ground := Ground.guard }], guard := some (25, false) }) (v := ?v26x71) rfl (by kernel_rfl) (by kernel_rfl) (by kernel_rfl) (fun _ _ _ h => h) (Or.inl ⟨by rfl, ?hy26x71⟩) hHeld ?nx26x71
          case hy26x71 => (intro w hSw; (try dsimp only at hSw); go_simp; try with_reducible rfl)
          try simp only [Act.put, List.setIfInBounds_toArray, List.set_cons_zero, List.set_cons_succ]
          refine wpAnyH_take (i := 28) (oi := { dst := some 83, op := Op.move (Operand.tmp 13), type := 34, pos := "law.go:42", after := #[{ on := 25, ground := Ground.guard }], guard := some (25, false) }) (v := ?v28x72) rfl (by kernel_rfl) (by kernel_rfl) (by kernel_rfl) (fun _ _ _ h => h) (Or.inl ⟨by rfl, ?hy28x72⟩) hHeld ?nx28x72
          case hy28x72 => (intro w hSw; (try dsimp only at hSw); go_simp; try with_reducible rfl)
          try simp only [Act.put, List.setIfInBounds_toArray, List.set_cons_zero, List.set_cons_succ]
          refine wpAnyH_take (i := 29) (oi := { dst := some 84, op := Op.nilCheck (Operand.tmp 83), type := 0, pos := "law.go:42", after := #[{ on := 28, ground := Ground.data }, { on := 25, ground := Ground.guard }], guard := some (25, false) }) (v := ?v29x73) rfl (by kernel_rfl) (by kernel_rfl) (by kernel_rfl) (fun _ _ _ h => h) (Or.inl ⟨by rfl, ?hy29x73⟩) hHeld ?nx29x73
          case hy29x73 => (intro w hSw; (try dsimp only at hSw); go_simp; try with_reducible rfl)
          try simp only [Act.put, List.setIfInBounds_toArray, List.set_cons_zero, List.set_cons_succ]
          refine wpAnyH_take (i := 30) (oi := { dst := some 85, op := Op.fieldAddr 36 (Operand.tmp 84) 2, type := 0, pos := "law.go:42", after := #[{ on := 29, ground := Ground.data }, { on := 25, ground := Ground.guard }], guard := some (25, false) }) (v := ?v30x74) rfl (by kernel_rfl) (by kernel_rfl) (by kernel_rfl) (fun _ _ _ h => h) (Or.inl ⟨by rfl, ?hy30x74⟩) hHeld ?nx30x74
          case hy30x74 => (intro w hSw; (try dsimp only at hSw); go_simp; try with_reducible rfl)
          try simp only [Act.put, List.setIfInBounds_toArray, List.set_cons_zero, List.set_cons_succ]
          refine wpAnyH_ready (rs := [27, 31]) (by kernel_rfl) (by simp) ?_
          refine (AllReadyH.cons (o := { dst := some 82, op := Op.call { callee := Callee.value (Operand.func 11), args := #[Operand.tmp 81], argTypes := #[23] }, type := 22, pos := "law.go:42", after := #[{ on := 26, ground := Ground.data }, { on := 25, ground := Ground.chain }, { on := 25, ground := Ground.guard }], guard := some (25, false) }) rfl (fun K hK => ?_) (AllReadyH.cons (o := { dst := some 86, op := Op.load 22 (Operand.tmp 85), type := 22, pos := "law.go:42", after := #[{ on := 30, ground := Ground.data }, { on := 25, ground := Ground.guard }], guard := some (25, false) }) rfl (fun K hK => ?_) AllReadyH.nil))
          · go_simp
            go_at_call 11
            with_reducible refine H6.out.one.win.mono ?_
            rintro e w7 ⟨rfl, hw7⟩
            have hw8 := hw7.symm
            subst hw8
            clear hw7
            have hS : True := trivial
            refine hK.out _ _ hS (fun hH2 => ?_)
            clear hK K hHeld
            have hHeld := hH2
            clear hH2 hS
            try simp only [Act.put, List.setIfInBounds_toArray, List.set_cons_zero, List.set_cons_succ]
            refine wpAnyH_ready (rs := [31]) (by kernel_rfl) (by simp) ?_
            refine (AllReadyH.cons (o := { dst := some 86, op := Op.load 22 (Operand.tmp 85), type := 22, pos := "law.go:42", after := #[{ on := 30, ground := Ground.data }, { on := 25, ground := Ground.guard }], guard := some (25, false) }) rfl (fun K hK => ?_) AllReadyH.nil)
            go_simp
            have hS : True := trivial
            refine hK.out _ _ hS (fun hH2 => ?_)
            clear hK K hHeld
            have hHeld := hH2
            clear hH2 hS
            try simp only [Act.put, List.setIfInBounds_toArray, List.set_cons_zero, List.set_cons_succ]
            refine wpAnyH_take (i := 32) (oi := { dst := some 87, op := Op.binOp BinOp.neq 22 (Operand.tmp 82) (Operand.tmp 86) 22, type := 4, pos := "law.go:42", after := #[{ on := 27, ground := Ground.data }, { on := 31, ground := Ground.data }, { on := 25, ground := Ground.guard }], guard := some (25, false) }) (v := ?v32x75) rfl (by kernel_rfl) (by kernel_rfl) (by kernel_rfl) (fun _ _ _ h => h) (Or.inl ⟨by rfl, ?hy32x75⟩) hHeld ?nx32x75
            case hy32x75 => (intro w hSw; (try dsimp only at hSw); go_simp; try with_reducible rfl)
            try simp only [Act.put, List.setIfInBounds_toArray, List.set_cons_zero, List.set_cons_succ]
            refine wpAnyH_take (i := 33) (oi := { dst := some 88, op := Op.pick (Operand.tmp 80) (Operand.const (Value.bool true)) (Operand.tmp 87), type := 4, pos := "law.go:42", after := #[{ on := 25, ground := Ground.data }, { on := 32, ground := Ground.data }], guard := none }) (v := ?v33x76) rfl (by kernel_rfl) (by kernel_rfl) (by kernel_rfl) (fun _ _ _ h => h) (Or.inl ⟨by rfl, ?hy33x76⟩) hHeld ?nx33x76
            case hy33x76 => (intro w hSw; (try dsimp only at hSw); go_simp; try with_reducible rfl)
            try simp only [Act.put, List.setIfInBounds_toArray, List.set_cons_zero, List.set_cons_succ]
            refine wpAnyH_done (by kernel_rfl) ?_ _
            refine NoPanic.normal ?_
            go_wp2_with fail
            go_roundg (200 - (j : Int)).toNat
            case measure => exact hig
            case rel => exact ⟨(j : Int) + 1, c', u', by go_num, by omega, by omega, by omega, H6.out⟩
          · go_simp
            have hS : True := trivial
            refine hK.out _ _ hS (fun hH2 => ?_)
            clear hK K hHeld
            have hHeld := hH2
            clear hH2 hS
            try simp only [Act.put, List.setIfInBounds_toArray, List.set_cons_zero, List.set_cons_succ]
            refine wpAnyH_ready (rs := [27]) (by kernel_rfl) (by simp) ?_
            refine (AllReadyH.cons (o := { dst := some 82, op := Op.call { callee := Callee.value (Operand.func 11), args := #[Operand.tmp 81], argTypes := #[23] }, type := 22, pos := "law.go:42", after := #[{ on := 26, ground := Ground.data }, { on := 25, ground := Ground.chain }, { on := 25, ground := Ground.guard }], guard := some (25, false) }) rfl (fun K hK => ?_) AllReadyH.nil)
            go_simp
            go_at_call 11
            with_reducible refine H6.out.one.win.mono ?_
            rintro e w7 ⟨rfl, hw7⟩
            have hw8 := hw7.symm
            subst hw8
            clear hw7
            have hS : True := trivial
            refine hK.out _ _ hS (fun hH2 => ?_)
            clear hK K hHeld
            have hHeld := hH2
            clear hH2 hS
            try simp only [Act.put, List.setIfInBounds_toArray, List.set_cons_zero, List.set_cons_succ]
            refine wpAnyH_take (i := 32) (oi := { dst := some 87, op := Op.binOp BinOp.neq 22 (Operand.tmp 82) (Operand.tmp 86) 22, type := 4, pos := "law.go:42", after := #[{ on := 27, ground := Ground.data }, { on := 31, ground := Ground.data }, { on := 25, ground := Ground.guard }], guard := some (25, false) }) (v := ?v32x77) rfl (by kernel_rfl) (by kernel_rfl) (by kernel_rfl) (fun _ _ _ h => h) (Or.inl ⟨by rfl, ?hy32x77⟩) hHeld ?nx32x77
            case hy32x77 => (intro w hSw; (try dsimp only at hSw); go_simp; try with_reducible rfl)
            try simp only [Act.put, List.setIfInBounds_toArray, List.set_cons_zero, List.set_cons_succ]
            refine wpAnyH_take (i := 33) (oi := { dst := some 88, op := Op.pick (Operand.tmp 80) (Operand.const (Value.bool true)) (Operand.tmp 87), type := 4, pos := "law.go:42", after := #[{ on := 25, ground := Ground.data }, { on := 32, ground := Ground.data }], guard := none }) (v := ?v33x78) rfl (by kernel_rfl) (by kernel_rfl) (by kernel_rfl) (fun _ _ _ h => h) (Or.inl ⟨by rfl, ?hy33x78⟩) hHeld ?nx33x78
            case hy33x78 => (intro w hSw; (try dsimp only at hSw); go_simp; try with_reducible rfl)
            try simp only [Act.put, List.setIfInBounds_toArray, List.set_cons_zero, List.set_cons_succ]
            refine wpAnyH_done (by kernel_rfl) ?_ _
            refine NoPanic.normal ?_
            go_wp2_with fail
            go_roundg (200 - (j : Int)).toNat
            case measure => exact hig
            case rel => exact ⟨(j : Int) + 1, c', u', by go_num, by omega, by omega, by omega, H6.out⟩
    · by_cases hin1 : i < len
      · have p3 : ¬ i < 200 := by omega
        go_wp2_with fail
        with_reducible refine (awake_any _).mono ?_
        rintro e w3 ⟨rfl, hf3⟩
        have H3 := Lib.hid (HO.out.one.no hf3)
        clear hf3
        go_wp2_with fail
        go_ret
        exact ⟨rfl, H3.out.fr⟩
      · go_wp2_with fail
        with_reducible refine (awake_any _).mono ?_
        rintro e w3 ⟨rfl, hf3⟩
        have H3 := Lib.hid (HO.out.one.no hf3)
        clear hf3
        go_wp2_with fail
        go_ret
        exact ⟨rfl, H3.out.fr⟩
end Go.Proofs.Ytfpaihohhedhfaa
