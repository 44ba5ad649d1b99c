/-
  CONTRACT of the law FdtableMatchesModel, over this seat's translation: it returns true.
  Conditions: the operations lie in memory as OpRow says.
-/
import Derived.Test.YtanhjjinedjaaaaRef6
import Derived.Deep.DeepCutAuto
import Derived.Deep.CutBlock
namespace Go.Proofs.Ytanhjjinedjaaaa
open Go.ChangeShapes Go.WideShapes Go.ChangeAt Go.RowKit
set_option linter.unusedVariables false

theorem wpAnyH_mono {P : Program} {md : Region.Mode} {ops : Array Oper} {Q : Exit → Act → World → Prop} {S S' : World → Prop} (hS : ∀ w, S' w → S w) :
    ∀ (fuel : Nat) (listed : Array Bool) (a : Act) (w : World), wpAnyH P md ops Q S' fuel listed a w → wpAnyH P md ops Q S fuel listed a w
  | 0, _, _, _, h => h
  | fuel + 1, _, _, _, h => ⟨h.1, fun i hi => wpOp_mono (fun a' w' h' => ⟨hS _ h'.1, wpAnyH_mono hS fuel _ a' w' h'.2⟩) (h.2 i hi)⟩

/-- Table, reference and one box of the law. -/
structure Tri (w0 w : World) (nb hb rb : Nat) (L M : List D) (size op n : Nat) (c a : Int) : Prop where
  pr : Pr w0 w (fun q => q = nb) hb rb L M size op
  box : w.heap[nb]? = some (.cells #[.int .i64 c, .int .i64 a] 38 (0, 0))
  len : L.length = n

theorem Tri.frNo {w0 w w' : World} {nb hb rb : Nat} {L M : List D} {size op n : Nat} {c a : Int} (h : Tri w0 w nb hb rb L M size op n c a) (hf : Fr No w w') : Tri w0 w' nb hb rb L M size op n c a :=
  ⟨h.pr.frNo hf, (hf.block nb (h.pr.duo.zlt (k := nb) rfl).2 (fun h => h)).trans h.box, h.len⟩

theorem Tri.facts {w0 w : World} {nb hb rb : Nat} {L M : List D} {size op n : Nat} {c a : Int} (h : Tri w0 w nb hb rb L M size op n c a) : w.cell? ⟨nb, 0, none⟩ = some (.int .i64 c) ∧ w.cell? ⟨nb, 1, none⟩ = some (.int .i64 a) ∧ (∃ ra rc, w.cell? ⟨rb, 1, none⟩ = some (.slice ra n rc)) ∧ w.cell? ⟨rb, 2, none⟩ = some (.int .i64 op) := by
  obtain ⟨ra, rc, h1, h2, _⟩ := pr_cells h.pr
  rw [← h.pr.perm.length_eq, h.len] at h1
  exact ⟨(pair_cells h.box).1, (pair_cells h.box).2, ⟨ra, rc, h1⟩, h2⟩

theorem Tri.small {w0 w : World} {nb hb rb : Nat} {L M : List D} {size op n : Nat} {c a : Int} (h : Tri w0 w nb hb rb L M size op n c a) : n ≤ size := by
  have := h.pr.duo.good.len
  rw [h.len] at this
  exact this

set_option maxHeartbeats 16000000 in
set_option maxRecDepth 100000 in
theorem model_law (a0 : Int) (a1 : Option Addr) (len1 cap1 : Nat) (w : World) (b0 : -9223372036854775808 ≤ a0 ∧ a0 ≤ 9223372036854775807) (w1 : OpRow w a1 len1) :
    Calls Try.prog 4 #[.int .i64 a0, .slice a1 len1 cap1] w fun e w' => e = .returned (.bool true) ∧ Below w.heap.size w w' := by
  obtain ⟨m, hm, hM⟩ := mod_fix a0 8 8 rfl (by omega) (by omega) b0
  have HM := Lib.hid hM
  have HW := Lib.hid w1.2
  have hlen : len1 ≤ 9223372036854775807 := w1.1
  obtain ⟨k, hk⟩ : ∃ k, k = 1 + m := ⟨_, rfl⟩
  have ek : 1 + (m : Int) = (k : Int) := by omega
  have hk8 : k ≤ 8 := by omega
  have hk1 : 1 ≤ k := by omega
  clear hM b0 w1 hk
  go_enter Try.func4, Try.ntmps4
  go_wp2_with fail
  refine (HM.out _).mono ?_
  rintro e wa ⟨rfl, hw⟩
  have hw' := hw.symm
  subst hw'
  clear hw HM
  go_wp2_with fail
  clear ek hm
  refine (new_ok (fun q => w.heap.size ≤ q) k _ hk1 (by omega) (fun q hq => hq)).mono ?_
  rintro e wb ⟨hb, rfl, hA1, hf1⟩
  have H1 : Hid (Duo w wb No (Tab hb [] k 0) Nil) := (duo_born (tab_mov hb [] k 0) hA1 (fun q hq => hq) hf1 (Fr.refl _ _)).less fun q hq => hq.elim
  clear hA1 hf1
  have H2 := Lib.hid (pr_born H1.out (by omega))
  clear H1
  go_wp2_with fail
  obtain ⟨rb, hrb⟩ : ∃ rb, wb.heap.size = rb := ⟨_, rfl⟩
  rw [hrb] at H2 ⊢
  clear hrb
  revert H2
  generalize wb.alloc (.cells #[.int .i64 k, .slice none 0 0, .int .i64 0] 36) = y
  intro H2
  go_loopg [9] 81 (fun g s9 wr => ∃ (i op : Nat) (L M : List D), s9 = .int .i64 i ∧ i ≤ 80 ∧ 80 - i < g ∧ op ≤ i ∧ Hid (Pr w wr No hb rb L M k op))
  case atStart => exact ⟨0, 0, [], [], by go_num, by omega, by omega, by omega, H2.out⟩
  case round =>
    obtain ⟨i, op, L, M, rfl, hi80, hg, hop, HR⟩ := hrel
    clear H2
    by_cases hil : i < len1
    · have q1 : (i : Int) < (len1 : Int) := by omega
      by_cases hi : i < 80
      · have q2 : (i : Int) < 80 := by omega
        have q0 : (0 : Int) ≤ (i : Int) := by omega
        obtain ⟨kd, oc, ot, p, hOp⟩ := HW.out i hil
        have hOp2 := hOp.old HR.out.duo.fr
        have HOP := Lib.hid hOp
        obtain ⟨⟨ob, off, ha, o0, o1, o2, o3⟩, bk, bc, bt⟩ := hOp2
        subst ha
        have HB := Lib.hid (And.intro bk (And.intro bc bt))
        clear hOp bk bc bt
        go_wp2_with fail
        clear o0 o1 o2 o3
        refine (someEnd_any oc ot _ HB.out.2.1 HB.out.2.2).mono ?_
        rintro e wc ⟨c, a, rfl, hfc⟩
        have HT : Hid (Pr w (wc.alloc (.cells #[.int .i64 c, .int .i64 a] 38)) (fun q => q = wc.heap.size) hb rb L M k op ∧ (wc.alloc (.cells #[.int .i64 c, .int .i64 a] 38)).heap[wc.heap.size]? = some (.cells #[.int .i64 c, .int .i64 a] 38 (0, 0))) := ⟨⟨((HR.out.frNo hfc).duo.box _).less fun q hq => .inr hq, HR.out.perm⟩, heap_alloc_new wc _⟩
        clear hfc HR
        go_upto_region 10 with fail
        obtain ⟨nb, hnb⟩ : ∃ nb, wc.heap.size = nb := ⟨_, rfl⟩
        rw [hnb] at HT ⊢
        clear hnb
        revert HT
        generalize wc.alloc (.cells #[.int .i64 c, .int .i64 a] 38) = yc
        intro HT
        go_cut [105] (fun s105 wx => s105 = .bool false ∧ ∃ (op' n : Nat) (L' M' : List D), op' ≤ op + 1 ∧ Hid (Tri w wx nb hb rb L' M' k op' n c a))
        case first =>
          obtain ⟨ob2, off2, ha2, o0, o1, o2, o3⟩ := (HOP.out.old HT.out.1.duo.fr).at_
          obtain ⟨rfl, rfl⟩ : ob = ob2 ∧ off = off2 := by cases ha2; exact ⟨rfl, rfl⟩
          clear ha2
          refine wp_region_noPanic ?_
          refine wp_region_held_drew (S := (fun w' : World => w'.cell? ⟨ob, off + i * 4, none⟩ = some (.int .i64 kd) ∧ w'.cell? ⟨ob, off + i * 4 + 1, none⟩ = some (.int .i64 oc) ∧ w'.cell? ⟨ob, off + i * 4 + 2, none⟩ = some (.int .i64 ot) ∧ w'.cell? ⟨ob, off + i * 4 + 3, none⟩ = some (.bool p))) (by kernel_rfl) ⟨o0, o1, o2, o3⟩ (fun hHeld => ?_)
          refine wpAnyH_take (i := 0) (oi := { dst := some 47, op := Op.move (Operand.tmp 6), type := 22, pos := "law.go:79", after := #[], guard := none }) (v := ?v0) rfl (by kernel_rfl) (by kernel_rfl) (by kernel_rfl) (fun _ _ _ h => h) (Or.inl ⟨by rfl, ?hy0⟩) hHeld ?nx0
          case hy0 => (intro w hSw; (try dsimp only at hSw); go_simp; try with_reducible rfl)
          try simp only [Act.put, List.setIfInBounds_toArray, List.set_cons_zero, List.set_cons_succ]
          refine wpAnyH_take (i := 1) (oi := { dst := some 48, op := Op.move (Operand.tmp 8), type := 33, pos := "law.go:79", after := #[], guard := none }) (v := ?v1) rfl (by kernel_rfl) (by kernel_rfl) (by kernel_rfl) (fun _ _ _ h => h) (Or.inl ⟨by rfl, ?hy1⟩) hHeld ?nx1
          case hy1 => (intro w hSw; (try dsimp only at hSw); go_simp; try with_reducible rfl)
          try simp only [Act.put, List.setIfInBounds_toArray, List.set_cons_zero, List.set_cons_succ]
          refine wpAnyH_take (i := 2) (oi := { dst := some 49, op := Op.move (Operand.tmp 1), type := 31, pos := "law.go:79", after := #[], guard := none }) (v := ?v2) rfl (by kernel_rfl) (by kernel_rfl) (by kernel_rfl) (fun _ _ _ h => h) (Or.inl ⟨by rfl, ?hy2⟩) hHeld ?nx2
          case hy2 => (intro w hSw; (try dsimp only at hSw); go_simp; try with_reducible rfl)
          try simp only [Act.put, List.setIfInBounds_toArray, List.set_cons_zero, List.set_cons_succ]
          refine wpAnyH_take (i := 3) (oi := { dst := some 50, op := Op.move (Operand.tmp 9), type := 3, pos := "law.go:79", after := #[], guard := none }) (v := ?v3) rfl (by kernel_rfl) (by kernel_rfl) (by kernel_rfl) (fun _ _ _ h => h) (Or.inl ⟨by rfl, ?hy3⟩) hHeld ?nx3
          case hy3 => (intro w hSw; (try dsimp only at hSw); go_simp; try with_reducible rfl)
          try simp only [Act.put, List.setIfInBounds_toArray, List.set_cons_zero, List.set_cons_succ]
          refine wpAnyH_take (i := 4) (oi := { dst := some 51, op := Op.indexAddr 31 (Operand.tmp 49) (Operand.tmp 50), type := 0, pos := "law.go:79", after := #[{ on := 2, ground := Ground.data }, { on := 3, ground := Ground.data }], guard := none }) (v := ?v4) rfl (by kernel_rfl) (by kernel_rfl) (by kernel_rfl) (fun _ _ _ h => h) (Or.inl ⟨by rfl, ?hy4⟩) hHeld ?nx4
          case hy4 => (intro w hSw; (try dsimp only at hSw); go_simp; try with_reducible rfl)
          try simp only [Act.put, List.setIfInBounds_toArray, List.set_cons_zero, List.set_cons_succ]
          refine wpAnyH_take (i := 5) (oi := { dst := some 52, op := Op.load 41 (Operand.tmp 51), type := 41, pos := "law.go:79", after := #[{ on := 4, ground := Ground.data }], guard := none }) (v := ?v5) rfl (by kernel_rfl) (by kernel_rfl) (by kernel_rfl) (fun _ _ _ h => h) (Or.inl ⟨by rfl, ?hy5⟩) hHeld ?nx5
          case hy5 => (intro w hSw; (try dsimp only at hSw); go_simp; try with_reducible rfl)
          try simp only [Act.put, List.setIfInBounds_toArray, List.set_cons_zero, List.set_cons_succ]
          refine wpAnyH_ready (rs := [6]) (by kernel_rfl) (by simp) ?_
          refine AllReadyH.cons (o := { dst := some 53, op := Op.call { callee := Callee.value (Operand.func 16), args := #[Operand.tmp 47, Operand.tmp 48, Operand.tmp 52], argTypes := #[22, 33, 41] }, type := 4, pos := "law.go:79", after := #[{ on := 0, ground := Ground.data }, { on := 1, ground := Ground.data }, { on := 5, ground := Ground.data }], guard := none }) rfl (fun K hK => ?_) AllReadyH.nil
          go_simp
          go_at_call 16
          refine (applyBoth_any w yc.drew (fun q => q = nb) hb rb L M k op kd oc ot p (HT.out.1.frNo (Fr.drew No _)) (by omega) HB.out.1 HB.out.2.1 HB.out.2.2).mono ?_
          rintro e wA ⟨rfl, L', M', op', hop', hP, hKK⟩
          obtain ⟨n, hn⟩ : ∃ n, L'.length = n := ⟨_, rfl⟩
          have HP : Hid (Tri w wA nb hb rb L' M' k op' n c a) := ⟨hP, (hKK nb rfl).trans HT.out.2, hn⟩
          have hnk : n ≤ k := HP.out.small
          obtain ⟨f, hf⟩ : ∃ f, k - n = f := ⟨_, rfl⟩
          have hsub : (k : Int) - (n : Int) = (f : Int) := by omega
          have hsub2 : IntKind.i64.wrap (f : Int) = (f : Int) := by rw [IntKind.wrap_i64]; omega
          have HFF := Lib.hid hf
          obtain ⟨n0, n1, ⟨ra, rc, r1⟩, r2⟩ := HP.out.facts
          obtain ⟨ob3, off3, ha3, u0, u1, u2, u3⟩ := (HOP.out.old HP.out.pr.duo.fr).at_
          obtain ⟨rfl, rfl⟩ : ob = ob3 ∧ off = off3 := by cases ha3; exact ⟨rfl, rfl⟩
          have HK2 : Hid (∀ z : World, Fr No wA z → (z.cell? ⟨nb, 0, none⟩ = some (.int .i64 c) ∧ z.cell? ⟨rb, 1, none⟩ = some (.slice ra n rc) ∧ z.cell? ⟨rb, 2, none⟩ = some (.int .i64 op')) ∧ (z.cell? ⟨ob, off + i * 4, none⟩ = some (.int .i64 kd) ∧ z.cell? ⟨ob, off + i * 4 + 1, none⟩ = some (.int .i64 oc) ∧ z.cell? ⟨ob, off + i * 4 + 2, none⟩ = some (.int .i64 ot) ∧ z.cell? ⟨ob, off + i * 4 + 3, none⟩ = some (.bool p))) := by
            intro z hz
            have h1 := hz.block nb (World.block_lt_of_cell? wA _ n0) (fun h => h)
            have h2 := hz.block rb (World.block_lt_of_cell? wA _ r1) (fun h => h)
            have h3 := hz.block ob (World.block_lt_of_cell? wA _ u0) (fun h => h)
            exact ⟨⟨(World.cell?_of_block (a := ⟨nb, 0, none⟩) h1).trans n0, (World.cell?_of_block (a := ⟨rb, 1, none⟩) h2).trans r1, (World.cell?_of_block (a := ⟨rb, 2, none⟩) h2).trans r2⟩, (World.cell?_of_block (a := ⟨ob, off + i * 4, none⟩) h3).trans u0, (World.cell?_of_block (a := ⟨ob, off + i * 4 + 1, none⟩) h3).trans u1, (World.cell?_of_block (a := ⟨ob, off + i * 4 + 2, none⟩) h3).trans u2, (World.cell?_of_block (a := ⟨ob, off + i * 4 + 3, none⟩) h3).trans u3⟩
          have HZ : Hid (Fr No wA wA) := Fr.refl _ _
          clear hP hKK hn hf o0 o1 o2 o3 n0 n1 r1 r2 ha3
          refine hK.out _ _ ⟨u0, u1, u2, u3⟩ (fun _ => ?_)
          clear hK K hHeld u0 u1 u2 u3
          refine wpAnyH_mono (S' := (fun w' : World => (w'.cell? ⟨nb, 0, none⟩ = some (.int .i64 c) ∧ w'.cell? ⟨rb, 1, none⟩ = some (.slice ra n rc) ∧ w'.cell? ⟨rb, 2, none⟩ = some (.int .i64 op')) ∧ (w'.cell? ⟨ob, off + i * 4, none⟩ = some (.int .i64 kd) ∧ w'.cell? ⟨ob, off + i * 4 + 1, none⟩ = some (.int .i64 oc) ∧ w'.cell? ⟨ob, off + i * 4 + 2, none⟩ = some (.int .i64 ot) ∧ w'.cell? ⟨ob, off + i * 4 + 3, none⟩ = some (.bool p)))) (fun _ h => h.2) _ _ _ _ ?_
          have hHeld := HK2.out _ HZ.out
          try simp only [Act.put, List.setIfInBounds_toArray, List.set_cons_zero, List.set_cons_succ]
          refine wpAnyH_take (i := 7) (oi := { dst := some 54, op := Op.unOp UnOp.not 4 (Operand.tmp 53), type := 4, pos := "law.go:79", after := #[{ on := 6, ground := Ground.data }], guard := none }) (v := ?v7) rfl (by kernel_rfl) (by kernel_rfl) (by kernel_rfl) (fun _ _ _ h => h) (Or.inl ⟨by rfl, ?hy7⟩) hHeld ?nx7
          case hy7 => (intro w hSw; (try dsimp only at hSw); go_simp; try with_reducible rfl)
          try simp only [Act.put, List.setIfInBounds_toArray, List.set_cons_zero, List.set_cons_succ]
          refine wpAnyH_take (i := 8) (oi := { dst := some 55, op := Op.move (Operand.tmp 54), type := 4, pos := "law.go:79", after := #[{ on := 7, ground := Ground.data }, { on := 6, ground := Ground.chain }], guard := none }) (v := ?v8) rfl (by kernel_rfl) (by kernel_rfl) (by kernel_rfl) (fun _ _ _ h => h) (Or.inl ⟨by rfl, ?hy8⟩) hHeld ?nx8
          case hy8 => (intro w hSw; (try dsimp only at hSw); go_simp; try with_reducible rfl)
          try simp only [Act.put, List.setIfInBounds_toArray, List.set_cons_zero, List.set_cons_succ]
          refine wpAnyH_take (i := 9) (oi := { dst := some 56, op := Op.move (Operand.tmp 6), type := 22, pos := "law.go:79", after := #[{ on := 8, ground := Ground.guard }], guard := some (8, false) }) (v := ?v9) rfl (by kernel_rfl) (by kernel_rfl) (by kernel_rfl) (fun _ _ _ h => h) (Or.inl ⟨by rfl, ?hy9⟩) hHeld ?nx9
          case hy9 => (intro w hSw; (try dsimp only at hSw); go_simp; try with_reducible rfl)
          try simp only [Act.put, List.setIfInBounds_toArray, List.set_cons_zero, List.set_cons_succ]
          refine wpAnyH_take (i := 11) (oi := { dst := some 58, op := Op.move (Operand.tmp 8), type := 33, pos := "law.go:79", after := #[{ on := 8, ground := Ground.guard }], guard := some (8, false) }) (v := ?v11) rfl (by kernel_rfl) (by kernel_rfl) (by kernel_rfl) (fun _ _ _ h => h) (Or.inl ⟨by rfl, ?hy11⟩) hHeld ?nx11
          case hy11 => (intro w hSw; (try dsimp only at hSw); go_simp; try with_reducible rfl)
          try simp only [Act.put, List.setIfInBounds_toArray, List.set_cons_zero, List.set_cons_succ]
          refine wpAnyH_ready (rs := [10]) (by kernel_rfl) (by simp) ?_
          refine AllReadyH.cons (o := { dst := some 57, op := Op.call { callee := Callee.value (Operand.func 13), args := #[Operand.tmp 56], argTypes := #[22] }, type := 28, pos := "law.go:79", after := #[{ on := 9, ground := Ground.data }, { on := 8, ground := Ground.chain }, { on := 8, ground := Ground.guard }], guard := some (8, false) }) rfl (fun K hK => ?_) AllReadyH.nil
          go_simp
          go_at_call 13
          refine (duo_ends HP.out.pr.duo).mono ?_
          rintro e wB ⟨ea, en, ec, rfl, hE, hf⟩
          obtain rfl : n = en := by rw [hE.len, List.length_map]; exact HP.out.len.symm
          have HE1 := Lib.hid (EndsAt.row hE)
          have hZ2 := HZ.out.trans hf
          replace HP := Lib.hid (HP.out.frNo hf)
          clear HZ
          have HZ := Lib.hid hZ2
          clear hZ2
          clear hE hf
          refine hK.out _ _ (HK2.out _ HZ.out) (fun hH2 => ?_)
          clear hK K hHeld
          have hHeld := hH2
          clear hH2
          try simp only [Act.put, List.setIfInBounds_toArray, List.set_cons_zero, List.set_cons_succ]
          refine wpAnyH_ready (rs := [12]) (by kernel_rfl) (by simp) ?_
          refine AllReadyH.cons (o := { dst := some 59, op := Op.call { callee := Callee.value (Operand.func 18), args := #[Operand.tmp 58], argTypes := #[33] }, type := 28, pos := "law.go:79", after := #[{ on := 11, ground := Ground.data }, { on := 10, ground := Ground.chain }, { on := 8, ground := Ground.guard }], guard := some (8, false) }) rfl (fun K hK => ?_) AllReadyH.nil
          go_simp
          go_at_call 18
          refine (pr_ends HP.out.pr).mono ?_
          rintro e wC ⟨eb, en, ec2, rfl, hE, hf⟩
          obtain rfl : n = en := by rw [hE.len, List.length_map]; exact HP.out.len.symm
          have HE2 := Lib.hid (EndsAt.row hE)
          have HE3 := Lib.hid (HE1.out.fr hf)
          have hZ2 := HZ.out.trans hf
          replace HP := Lib.hid (HP.out.frNo hf)
          clear HZ
          have HZ := Lib.hid hZ2
          clear hZ2
          clear hE hf HE1
          refine hK.out _ _ (HK2.out _ HZ.out) (fun hH2 => ?_)
          clear hK K hHeld
          have hHeld := hH2
          clear hH2
          try simp only [Act.put, List.setIfInBounds_toArray, List.set_cons_zero, List.set_cons_succ]
          refine wpAnyH_ready (rs := [13]) (by kernel_rfl) (by simp) ?_
          refine AllReadyH.cons (o := { dst := some 60, op := Op.call { callee := Callee.value (Operand.func 17), args := #[Operand.tmp 57, Operand.tmp 59], argTypes := #[28, 28] }, type := 4, pos := "law.go:79", after := #[{ on := 10, ground := Ground.data }, { on := 12, ground := Ground.data }, { on := 12, ground := Ground.chain }, { on := 8, ground := Ground.guard }], guard := some (8, false) }) rfl (fun K hK => ?_) AllReadyH.nil
          go_simp
          go_at_call 17
          refine (equal_same ea eb n ec ec2 (L'.map D.key) _ HE3.out HE2.out (by omega)).mono ?_
          rintro e wD ⟨rfl, hf⟩
          have hZ2 := HZ.out.trans hf
          replace HP := Lib.hid (HP.out.frNo hf)
          clear HZ
          have HZ := Lib.hid hZ2
          clear hZ2
          clear hf HE2 HE3
          refine hK.out _ _ (HK2.out _ HZ.out) (fun hH2 => ?_)
          clear hK K hHeld
          have hHeld := hH2
          clear hH2
          try simp only [Act.put, List.setIfInBounds_toArray, List.set_cons_zero, List.set_cons_succ]
          refine wpAnyH_take (i := 14) (oi := { dst := some 61, op := Op.unOp UnOp.not 4 (Operand.tmp 60), type := 4, pos := "law.go:79", after := #[{ on := 13, ground := Ground.data }, { on := 8, ground := Ground.guard }], guard := some (8, false) }) (v := ?v14) rfl (by kernel_rfl) (by kernel_rfl) (by kernel_rfl) (fun _ _ _ h => h) (Or.inl ⟨by rfl, ?hy14⟩) hHeld ?nx14
          case hy14 => (intro w hSw; (try dsimp only at hSw); go_simp; try with_reducible rfl)
          try simp only [Act.put, List.setIfInBounds_toArray, List.set_cons_zero, List.set_cons_succ]
          refine wpAnyH_take (i := 15) (oi := { dst := some 62, op := Op.pick (Operand.tmp 55) (Operand.const (Value.bool true)) (Operand.tmp 61), type := 4, pos := "law.go:79", after := #[{ on := 8, ground := Ground.data }, { on := 14, ground := Ground.data }], guard := none }) (v := ?v15) rfl (by kernel_rfl) (by kernel_rfl) (by kernel_rfl) (fun _ _ _ h => h) (Or.inl ⟨by rfl, ?hy15⟩) hHeld ?nx15
          case hy15 => (intro w hSw; (try dsimp only at hSw); go_simp; try with_reducible rfl)
          try simp only [Act.put, List.setIfInBounds_toArray, List.set_cons_zero, List.set_cons_succ]
          refine wpAnyH_take (i := 16) (oi := { dst := some 63, op := Op.move (Operand.tmp 62), type := 4, pos := "law.go:79", after := #[{ on := 15, ground := Ground.data }, { on := 13, ground := Ground.chain }], guard := none }) (v := ?v16) rfl (by kernel_rfl) (by kernel_rfl) (by kernel_rfl) (fun _ _ _ h => h) (Or.inl ⟨by rfl, ?hy16⟩) hHeld ?nx16
          case hy16 => (intro w hSw; (try dsimp only at hSw); go_simp; try with_reducible rfl)
          try simp only [Act.put, List.setIfInBounds_toArray, List.set_cons_zero, List.set_cons_succ]
          refine wpAnyH_take (i := 17) (oi := { dst := some 64, op := Op.move (Operand.tmp 6), type := 22, pos := "law.go:79", after := #[{ on := 16, ground := Ground.guard }], guard := some (16, false) }) (v := ?v17) rfl (by kernel_rfl) (by kernel_rfl) (by kernel_rfl) (fun _ _ _ h => h) (Or.inl ⟨by rfl, ?hy17⟩) hHeld ?nx17
          case hy17 => (intro w hSw; (try dsimp only at hSw); go_simp; try with_reducible rfl)
          try simp only [Act.put, List.setIfInBounds_toArray, List.set_cons_zero, List.set_cons_succ]
          refine wpAnyH_take (i := 18) (oi := { dst := some 65, op := Op.fieldAddr 38 (Operand.tmp 10) 0, type := 0, pos := "law.go:79", after := #[{ on := 16, ground := Ground.guard }], guard := some (16, false) }) (v := ?v18) rfl (by kernel_rfl) (by kernel_rfl) (by kernel_rfl) (fun _ _ _ h => h) (Or.inl ⟨by rfl, ?hy18⟩) hHeld ?nx18
          case hy18 => (intro w hSw; (try dsimp only at hSw); go_simp; try with_reducible rfl)
          try simp only [Act.put, List.setIfInBounds_toArray, List.set_cons_zero, List.set_cons_succ]
          refine wpAnyH_take (i := 19) (oi := { dst := some 66, op := Op.load 3 (Operand.tmp 65), type := 3, pos := "law.go:79", after := #[{ on := 18, ground := Ground.data }, { on := 16, ground := Ground.guard }], guard := some (16, false) }) (v := ?v19) rfl (by kernel_rfl) (by kernel_rfl) (by kernel_rfl) (fun _ _ _ h => h) (Or.inl ⟨by rfl, ?hy19⟩) hHeld ?nx19
          case hy19 => (intro w hSw; (try dsimp only at hSw); go_simp; try with_reducible rfl)
          try simp only [Act.put, List.setIfInBounds_toArray, List.set_cons_zero, List.set_cons_succ]
          refine wpAnyH_take (i := 21) (oi := { dst := some 68, op := Op.move (Operand.tmp 8), type := 33, pos := "law.go:79", after := #[{ on := 16, ground := Ground.guard }], guard := some (16, false) }) (v := ?v21) rfl (by kernel_rfl) (by kernel_rfl) (by kernel_rfl) (fun _ _ _ h => h) (Or.inl ⟨by rfl, ?hy21⟩) hHeld ?nx21
          case hy21 => (intro w hSw; (try dsimp only at hSw); go_simp; try with_reducible rfl)
          try simp only [Act.put, List.setIfInBounds_toArray, List.set_cons_zero, List.set_cons_succ]
          refine wpAnyH_take (i := 22) (oi := { dst := some 69, op := Op.fieldAddr 38 (Operand.tmp 10) 0, type := 0, pos := "law.go:79", after := #[{ on := 16, ground := Ground.guard }], guard := some (16, false) }) (v := ?v22) rfl (by kernel_rfl) (by kernel_rfl) (by kernel_rfl) (fun _ _ _ h => h) (Or.inl ⟨by rfl, ?hy22⟩) hHeld ?nx22
          case hy22 => (intro w hSw; (try dsimp only at hSw); go_simp; try with_reducible rfl)
          try simp only [Act.put, List.setIfInBounds_toArray, List.set_cons_zero, List.set_cons_succ]
          refine wpAnyH_take (i := 23) (oi := { dst := some 70, op := Op.load 3 (Operand.tmp 69), type := 3, pos := "law.go:79", after := #[{ on := 22, ground := Ground.data }, { on := 16, ground := Ground.guard }], guard := some (16, false) }) (v := ?v23) rfl (by kernel_rfl) (by kernel_rfl) (by kernel_rfl) (fun _ _ _ h => h) (Or.inl ⟨by rfl, ?hy23⟩) hHeld ?nx23
          case hy23 => (intro w hSw; (try dsimp only at hSw); go_simp; try with_reducible rfl)
          try simp only [Act.put, List.setIfInBounds_toArray, List.set_cons_zero, List.set_cons_succ]
          refine wpAnyH_ready (rs := [20]) (by kernel_rfl) (by simp) ?_
          refine AllReadyH.cons (o := { dst := some 67, op := Op.call { callee := Callee.value (Operand.func 19), args := #[Operand.tmp 64, Operand.tmp 66], argTypes := #[22, 3] }, type := 28, pos := "law.go:79", after := #[{ on := 17, ground := Ground.data }, { on := 19, ground := Ground.data }, { on := 16, ground := Ground.chain }, { on := 16, ground := Ground.guard }], guard := some (16, false) }) rfl (fun K hK => ?_) AllReadyH.nil
          go_simp
          go_at_call 19
          refine (duo_ofConn HP.out.pr.duo c).mono ?_
          rintro e wE ⟨fa, gn, fc, rfl, hE, hf⟩
          have hg8 : gn ≤ n := by
            rw [hE.len]
            exact Nat.le_trans (List.length_filter_le _ _) (by rw [List.length_map, HP.out.len]; exact Nat.le_refl _)
          have HGN := Lib.hid hE.len
          have HE1 := Lib.hid (EndsAt.row hE)
          have hZ2 := HZ.out.trans hf
          replace HP := Lib.hid (HP.out.frNo hf)
          clear HZ
          have HZ := Lib.hid hZ2
          clear hZ2
          clear hE hf
          refine hK.out _ _ (HK2.out _ HZ.out) (fun hH2 => ?_)
          clear hK K hHeld
          have hHeld := hH2
          clear hH2
          try simp only [Act.put, List.setIfInBounds_toArray, List.set_cons_zero, List.set_cons_succ]
          refine wpAnyH_ready (rs := [24]) (by kernel_rfl) (by simp) ?_
          refine AllReadyH.cons (o := { dst := some 71, op := Op.call { callee := Callee.value (Operand.func 20), args := #[Operand.tmp 68, Operand.tmp 70], argTypes := #[33, 3] }, type := 28, pos := "law.go:79", after := #[{ on := 21, ground := Ground.data }, { on := 23, ground := Ground.data }, { on := 20, ground := Ground.chain }, { on := 16, ground := Ground.guard }], guard := some (16, false) }) rfl (fun K hK => ?_) AllReadyH.nil
          go_simp
          go_at_call 20
          refine (pr_ofConn HP.out.pr c).mono ?_
          rintro e wF ⟨fb, fn, fc2, rfl, hE, hf⟩
          obtain rfl : gn = fn := by rw [hE.len, HGN.out]
          have HE2 := Lib.hid (EndsAt.row hE)
          have HE3 := Lib.hid (HE1.out.fr hf)
          have hZ2 := HZ.out.trans hf
          replace HP := Lib.hid (HP.out.frNo hf)
          clear HZ
          have HZ := Lib.hid hZ2
          clear hZ2
          clear hE hf HE1
          refine hK.out _ _ (HK2.out _ HZ.out) (fun hH2 => ?_)
          clear hK K hHeld
          have hHeld := hH2
          clear hH2
          try simp only [Act.put, List.setIfInBounds_toArray, List.set_cons_zero, List.set_cons_succ]
          refine wpAnyH_ready (rs := [25]) (by kernel_rfl) (by simp) ?_
          refine AllReadyH.cons (o := { dst := some 72, op := Op.call { callee := Callee.value (Operand.func 17), args := #[Operand.tmp 67, Operand.tmp 71], argTypes := #[28, 28] }, type := 4, pos := "law.go:79", after := #[{ on := 20, ground := Ground.data }, { on := 24, ground := Ground.data }, { on := 24, ground := Ground.chain }, { on := 16, ground := Ground.guard }], guard := some (16, false) }) rfl (fun K hK => ?_) AllReadyH.nil
          go_simp
          go_at_call 17
          refine (equal_same fa fb gn fc fc2 (ofConn c (L'.map D.key)) _ HE3.out HE2.out (by omega)).mono ?_
          rintro e wG ⟨rfl, hf⟩
          have hZ2 := HZ.out.trans hf
          replace HP := Lib.hid (HP.out.frNo hf)
          clear HZ
          have HZ := Lib.hid hZ2
          clear hZ2
          clear hf HE2 HE3
          refine hK.out _ _ (HK2.out _ HZ.out) (fun hH2 => ?_)
          clear hK K hHeld
          have hHeld := hH2
          clear hH2
          try simp only [Act.put, List.setIfInBounds_toArray, List.set_cons_zero, List.set_cons_succ]
          refine wpAnyH_take (i := 26) (oi := { dst := some 73, op := Op.unOp UnOp.not 4 (Operand.tmp 72), type := 4, pos := "law.go:79", after := #[{ on := 25, ground := Ground.data }, { on := 16, ground := Ground.guard }], guard := some (16, false) }) (v := ?v26) rfl (by kernel_rfl) (by kernel_rfl) (by kernel_rfl) (fun _ _ _ h => h) (Or.inl ⟨by rfl, ?hy26⟩) hHeld ?nx26
          case hy26 => (intro w hSw; (try dsimp only at hSw); go_simp; try with_reducible rfl)
          try simp only [Act.put, List.setIfInBounds_toArray, List.set_cons_zero, List.set_cons_succ]
          refine wpAnyH_take (i := 27) (oi := { dst := some 74, op := Op.pick (Operand.tmp 63) (Operand.const (Value.bool true)) (Operand.tmp 73), type := 4, pos := "law.go:79", after := #[{ on := 16, ground := Ground.data }, { on := 26, ground := Ground.data }], guard := none }) (v := ?v27) rfl (by kernel_rfl) (by kernel_rfl) (by kernel_rfl) (fun _ _ _ h => h) (Or.inl ⟨by rfl, ?hy27⟩) hHeld ?nx27
          case hy27 => (intro w hSw; (try dsimp only at hSw); go_simp; try with_reducible rfl)
          try simp only [Act.put, List.setIfInBounds_toArray, List.set_cons_zero, List.set_cons_succ]
          refine wpAnyH_take (i := 28) (oi := { dst := some 75, op := Op.move (Operand.tmp 74), type := 4, pos := "law.go:79", after := #[{ on := 27, ground := Ground.data }, { on := 25, ground := Ground.chain }], guard := none }) (v := ?v28) rfl (by kernel_rfl) (by kernel_rfl) (by kernel_rfl) (fun _ _ _ h => h) (Or.inl ⟨by rfl, ?hy28⟩) hHeld ?nx28
          case hy28 => (intro w hSw; (try dsimp only at hSw); go_simp; try with_reducible rfl)
          try simp only [Act.put, List.setIfInBounds_toArray, List.set_cons_zero, List.set_cons_succ]
          refine wpAnyH_take (i := 29) (oi := { dst := some 76, op := Op.move (Operand.tmp 6), type := 22, pos := "law.go:79", after := #[{ on := 28, ground := Ground.guard }], guard := some (28, false) }) (v := ?v29) rfl (by kernel_rfl) (by kernel_rfl) (by kernel_rfl) (fun _ _ _ h => h) (Or.inl ⟨by rfl, ?hy29⟩) hHeld ?nx29
          case hy29 => (intro w hSw; (try dsimp only at hSw); go_simp; try with_reducible rfl)
          try simp only [Act.put, List.setIfInBounds_toArray, List.set_cons_zero, List.set_cons_succ]
          refine wpAnyH_take (i := 31) (oi := { dst := some 78, op := Op.move (Operand.tmp 8), type := 33, pos := "law.go:79", after := #[{ on := 28, ground := Ground.guard }], guard := some (28, false) }) (v := ?v31) rfl (by kernel_rfl) (by kernel_rfl) (by kernel_rfl) (fun _ _ _ h => h) (Or.inl ⟨by rfl, ?hy31⟩) hHeld ?nx31
          case hy31 => (intro w hSw; (try dsimp only at hSw); go_simp; try with_reducible rfl)
          try simp only [Act.put, List.setIfInBounds_toArray, List.set_cons_zero, List.set_cons_succ]
          refine wpAnyH_take (i := 32) (oi := { dst := some 79, op := Op.nilCheck (Operand.tmp 78), type := 0, pos := "law.go:79", after := #[{ on := 31, ground := Ground.data }, { on := 28, ground := Ground.guard }], guard := some (28, false) }) (v := ?v32) rfl (by kernel_rfl) (by kernel_rfl) (by kernel_rfl) (fun _ _ _ h => h) (Or.inl ⟨by rfl, ?hy32⟩) hHeld ?nx32
          case hy32 => (intro w hSw; (try dsimp only at hSw); go_simp; try with_reducible rfl)
          try simp only [Act.put, List.setIfInBounds_toArray, List.set_cons_zero, List.set_cons_succ]
          refine wpAnyH_take (i := 33) (oi := { dst := some 80, op := Op.fieldAddr 36 (Operand.tmp 79) 1, type := 0, pos := "law.go:79", after := #[{ on := 32, ground := Ground.data }, { on := 28, ground := Ground.guard }], guard := some (28, false) }) (v := ?v33) rfl (by kernel_rfl) (by kernel_rfl) (by kernel_rfl) (fun _ _ _ h => h) (Or.inl ⟨by rfl, ?hy33⟩) hHeld ?nx33
          case hy33 => (intro w hSw; (try dsimp only at hSw); go_simp; try with_reducible rfl)
          try simp only [Act.put, List.setIfInBounds_toArray, List.set_cons_zero, List.set_cons_succ]
          refine wpAnyH_take (i := 34) (oi := { dst := some 81, op := Op.load 34 (Operand.tmp 80), type := 34, pos := "law.go:79", after := #[{ on := 33, ground := Ground.data }, { on := 28, ground := Ground.guard }], guard := some (28, false) }) (v := ?v34) rfl (by kernel_rfl) (by kernel_rfl) (by kernel_rfl) (fun _ _ _ h => h) (Or.inl ⟨by rfl, ?hy34⟩) hHeld ?nx34
          case hy34 => (intro w hSw; (try dsimp only at hSw); go_simp; try with_reducible rfl)
          try simp only [Act.put, List.setIfInBounds_toArray, List.set_cons_zero, List.set_cons_succ]
          refine wpAnyH_take (i := 35) (oi := { dst := some 82, op := Op.call { callee := Callee.builtin Builtin.len, args := #[Operand.tmp 81], argTypes := #[34] }, type := 3, pos := "law.go:79", after := #[{ on := 34, ground := Ground.data }, { on := 28, ground := Ground.guard }], guard := some (28, false) }) (v := ?v35) rfl (by kernel_rfl) (by kernel_rfl) (by kernel_rfl) (fun _ _ _ h => h) (Or.inl ⟨by rfl, ?hy35⟩) hHeld ?nx35
          case hy35 => (intro w hSw; (try dsimp only at hSw); go_simp; try with_reducible rfl)
          try simp only [Act.put, List.setIfInBounds_toArray, List.set_cons_zero, List.set_cons_succ]
          refine wpAnyH_ready (rs := [30]) (by kernel_rfl) (by simp) ?_
          refine AllReadyH.cons (o := { dst := some 77, op := Op.call { callee := Callee.value (Operand.func 11), args := #[Operand.tmp 76], argTypes := #[22] }, type := 3, pos := "law.go:79", after := #[{ on := 29, ground := Ground.data }, { on := 28, ground := Ground.chain }, { on := 28, ground := Ground.guard }], guard := some (28, false) }) rfl (fun K hK => ?_) AllReadyH.nil
          go_simp
          go_at_call 11
          refine (duo_len HP.out.pr.duo n HP.out.len).mono ?_
          rintro e wH ⟨rfl, hw⟩
          replace hw := hw.symm
          subst hw
          refine hK.out _ _ (HK2.out _ HZ.out) (fun hH2 => ?_)
          clear hK K hHeld
          have hHeld := hH2
          clear hH2
          try simp only [Act.put, List.setIfInBounds_toArray, List.set_cons_zero, List.set_cons_succ]
          refine wpAnyH_take (i := 36) (oi := { dst := some 83, op := Op.binOp BinOp.neq 3 (Operand.tmp 77) (Operand.tmp 82) 3, type := 4, pos := "law.go:79", after := #[{ on := 30, ground := Ground.data }, { on := 35, ground := Ground.data }, { on := 28, ground := Ground.guard }], guard := some (28, false) }) (v := ?v36) rfl (by kernel_rfl) (by kernel_rfl) (by kernel_rfl) (fun _ _ _ h => h) (Or.inl ⟨by rfl, ?hy36⟩) hHeld ?nx36
          case hy36 => (intro w hSw; (try dsimp only at hSw); go_simp; try with_reducible rfl)
          try simp only [Act.put, List.setIfInBounds_toArray, List.set_cons_zero, List.set_cons_succ]
          refine wpAnyH_take (i := 37) (oi := { dst := some 84, op := Op.pick (Operand.tmp 75) (Operand.const (Value.bool true)) (Operand.tmp 83), type := 4, pos := "law.go:79", after := #[{ on := 28, ground := Ground.data }, { on := 36, ground := Ground.data }], guard := none }) (v := ?v37) rfl (by kernel_rfl) (by kernel_rfl) (by kernel_rfl) (fun _ _ _ h => h) (Or.inl ⟨by rfl, ?hy37⟩) hHeld ?nx37
          case hy37 => (intro w hSw; (try dsimp only at hSw); go_simp; try with_reducible rfl)
          try simp only [Act.put, List.setIfInBounds_toArray, List.set_cons_zero, List.set_cons_succ]
          refine wpAnyH_take (i := 38) (oi := { dst := some 85, op := Op.move (Operand.tmp 84), type := 4, pos := "law.go:79", after := #[{ on := 37, ground := Ground.data }, { on := 30, ground := Ground.chain }], guard := none }) (v := ?v38) rfl (by kernel_rfl) (by kernel_rfl) (by kernel_rfl) (fun _ _ _ h => h) (Or.inl ⟨by rfl, ?hy38⟩) hHeld ?nx38
          case hy38 => (intro w hSw; (try dsimp only at hSw); go_simp; try with_reducible rfl)
          try simp only [Act.put, List.setIfInBounds_toArray, List.set_cons_zero, List.set_cons_succ]
          refine wpAnyH_take (i := 39) (oi := { dst := some 86, op := Op.move (Operand.tmp 6), type := 22, pos := "law.go:79", after := #[{ on := 38, ground := Ground.guard }], guard := some (38, false) }) (v := ?v39) rfl (by kernel_rfl) (by kernel_rfl) (by kernel_rfl) (fun _ _ _ h => h) (Or.inl ⟨by rfl, ?hy39⟩) hHeld ?nx39
          case hy39 => (intro w hSw; (try dsimp only at hSw); go_simp; try with_reducible rfl)
          try simp only [Act.put, List.setIfInBounds_toArray, List.set_cons_zero, List.set_cons_succ]
          refine wpAnyH_take (i := 41) (oi := { dst := some 88, op := Op.move (Operand.tmp 5), type := 3, pos := "law.go:79", after := #[{ on := 38, ground := Ground.guard }], guard := some (38, false) }) (v := ?v41) rfl (by kernel_rfl) (by kernel_rfl) (by kernel_rfl) (fun _ _ _ h => h) (Or.inl ⟨by rfl, ?hy41⟩) hHeld ?nx41
          case hy41 => (intro w hSw; (try dsimp only at hSw); go_simp; try with_reducible rfl)
          try simp only [Act.put, List.setIfInBounds_toArray, List.set_cons_zero, List.set_cons_succ]
          refine wpAnyH_take (i := 42) (oi := { dst := some 89, op := Op.move (Operand.tmp 8), type := 33, pos := "law.go:79", after := #[{ on := 38, ground := Ground.guard }], guard := some (38, false) }) (v := ?v42) rfl (by kernel_rfl) (by kernel_rfl) (by kernel_rfl) (fun _ _ _ h => h) (Or.inl ⟨by rfl, ?hy42⟩) hHeld ?nx42
          case hy42 => (intro w hSw; (try dsimp only at hSw); go_simp; try with_reducible rfl)
          try simp only [Act.put, List.setIfInBounds_toArray, List.set_cons_zero, List.set_cons_succ]
          refine wpAnyH_take (i := 43) (oi := { dst := some 90, op := Op.nilCheck (Operand.tmp 89), type := 0, pos := "law.go:79", after := #[{ on := 42, ground := Ground.data }, { on := 38, ground := Ground.guard }], guard := some (38, false) }) (v := ?v43) rfl (by kernel_rfl) (by kernel_rfl) (by kernel_rfl) (fun _ _ _ h => h) (Or.inl ⟨by rfl, ?hy43⟩) hHeld ?nx43
          case hy43 => (intro w hSw; (try dsimp only at hSw); go_simp; try with_reducible rfl)
          try simp only [Act.put, List.setIfInBounds_toArray, List.set_cons_zero, List.set_cons_succ]
          refine wpAnyH_take (i := 44) (oi := { dst := some 91, op := Op.fieldAddr 36 (Operand.tmp 90) 1, type := 0, pos := "law.go:79", after := #[{ on := 43, ground := Ground.data }, { on := 38, ground := Ground.guard }], guard := some (38, false) }) (v := ?v44) rfl (by kernel_rfl) (by kernel_rfl) (by kernel_rfl) (fun _ _ _ h => h) (Or.inl ⟨by rfl, ?hy44⟩) hHeld ?nx44
          case hy44 => (intro w hSw; (try dsimp only at hSw); go_simp; try with_reducible rfl)
          try simp only [Act.put, List.setIfInBounds_toArray, List.set_cons_zero, List.set_cons_succ]
          refine wpAnyH_take (i := 45) (oi := { dst := some 92, op := Op.load 34 (Operand.tmp 91), type := 34, pos := "law.go:79", after := #[{ on := 44, ground := Ground.data }, { on := 38, ground := Ground.guard }], guard := some (38, false) }) (v := ?v45) rfl (by kernel_rfl) (by kernel_rfl) (by kernel_rfl) (fun _ _ _ h => h) (Or.inl ⟨by rfl, ?hy45⟩) hHeld ?nx45
          case hy45 => (intro w hSw; (try dsimp only at hSw); go_simp; try with_reducible rfl)
          try simp only [Act.put, List.setIfInBounds_toArray, List.set_cons_zero, List.set_cons_succ]
          refine wpAnyH_take (i := 46) (oi := { dst := some 93, op := Op.call { callee := Callee.builtin Builtin.len, args := #[Operand.tmp 92], argTypes := #[34] }, type := 3, pos := "law.go:79", after := #[{ on := 45, ground := Ground.data }, { on := 38, ground := Ground.guard }], guard := some (38, false) }) (v := ?v46) rfl (by kernel_rfl) (by kernel_rfl) (by kernel_rfl) (fun _ _ _ h => h) (Or.inl ⟨by rfl, ?hy46⟩) hHeld ?nx46
          case hy46 => (intro w hSw; (try dsimp only at hSw); go_simp; try with_reducible rfl)
          try simp only [Act.put, List.setIfInBounds_toArray, List.set_cons_zero, List.set_cons_succ]
          refine wpAnyH_take (i := 47) (oi := { dst := some 94, op := Op.binOp BinOp.sub 3 (Operand.tmp 88) (Operand.tmp 93) 3, type := 3, pos := "law.go:79", after := #[{ on := 41, ground := Ground.data }, { on := 46, ground := Ground.data }, { on := 38, ground := Ground.guard }], guard := some (38, false) }) (v := ?v47) rfl (by kernel_rfl) (by kernel_rfl) (by kernel_rfl) (fun _ _ _ h => h) (Or.inl ⟨by rfl, ?hy47⟩) hHeld ?nx47
          case hy47 => (intro w hSw; (try dsimp only at hSw); go_simp; try with_reducible rfl)
          try simp only [Act.put, List.setIfInBounds_toArray, List.set_cons_zero, List.set_cons_succ]
          refine wpAnyH_ready (rs := [40]) (by kernel_rfl) (by simp) ?_
          refine AllReadyH.cons (o := { dst := some 87, op := Op.call { callee := Callee.value (Operand.func 10), args := #[Operand.tmp 86], argTypes := #[22] }, type := 3, pos := "law.go:79", after := #[{ on := 39, ground := Ground.data }, { on := 38, ground := Ground.chain }, { on := 38, ground := Ground.guard }], guard := some (38, false) }) rfl (fun K hK => ?_) AllReadyH.nil
          go_simp
          go_at_call 10
          refine (duo_free HP.out.pr.duo n f HP.out.len HFF.out).mono ?_
          rintro e wI ⟨rfl, hf⟩
          have hZ2 := HZ.out.trans hf
          replace HP := Lib.hid (HP.out.frNo hf)
          clear HZ
          have HZ := Lib.hid hZ2
          clear hZ2
          clear hf
          refine hK.out _ _ (HK2.out _ HZ.out) (fun hH2 => ?_)
          clear hK K hHeld
          have hHeld := hH2
          clear hH2
          try simp only [Act.put, List.setIfInBounds_toArray, List.set_cons_zero, List.set_cons_succ]
          refine wpAnyH_take (i := 48) (oi := { dst := some 95, op := Op.binOp BinOp.neq 3 (Operand.tmp 87) (Operand.tmp 94) 3, type := 4, pos := "law.go:79", after := #[{ on := 40, ground := Ground.data }, { on := 47, ground := Ground.data }, { on := 38, ground := Ground.guard }], guard := some (38, false) }) (v := ?v48) rfl (by kernel_rfl) (by kernel_rfl) (by kernel_rfl) (fun _ _ _ h => h) (Or.inl ⟨by rfl, ?hy48⟩) hHeld ?nx48
          case hy48 => (intro w hSw; (try dsimp only at hSw); go_simp; try with_reducible rfl)
          try simp only [Act.put, List.setIfInBounds_toArray, List.set_cons_zero, List.set_cons_succ]
          refine wpAnyH_take (i := 49) (oi := { dst := some 96, op := Op.pick (Operand.tmp 85) (Operand.const (Value.bool true)) (Operand.tmp 95), type := 4, pos := "law.go:79", after := #[{ on := 38, ground := Ground.data }, { on := 48, ground := Ground.data }], guard := none }) (v := ?v49) rfl (by kernel_rfl) (by kernel_rfl) (by kernel_rfl) (fun _ _ _ h => h) (Or.inl ⟨by rfl, ?hy49⟩) hHeld ?nx49
          case hy49 => (intro w hSw; (try dsimp only at hSw); go_simp; try with_reducible rfl)
          try simp only [Act.put, List.setIfInBounds_toArray, List.set_cons_zero, List.set_cons_succ]
          refine wpAnyH_take (i := 50) (oi := { dst := some 97, op := Op.move (Operand.tmp 96), type := 4, pos := "law.go:79", after := #[{ on := 49, ground := Ground.data }, { on := 40, ground := Ground.chain }], guard := none }) (v := ?v50) rfl (by kernel_rfl) (by kernel_rfl) (by kernel_rfl) (fun _ _ _ h => h) (Or.inl ⟨by rfl, ?hy50⟩) hHeld ?nx50
          case hy50 => (intro w hSw; (try dsimp only at hSw); go_simp; try with_reducible rfl)
          try simp only [Act.put, List.setIfInBounds_toArray, List.set_cons_zero, List.set_cons_succ]
          refine wpAnyH_take (i := 51) (oi := { dst := some 98, op := Op.move (Operand.tmp 6), type := 22, pos := "law.go:79", after := #[{ on := 50, ground := Ground.guard }], guard := some (50, false) }) (v := ?v51) rfl (by kernel_rfl) (by kernel_rfl) (by kernel_rfl) (fun _ _ _ h => h) (Or.inl ⟨by rfl, ?hy51⟩) hHeld ?nx51
          case hy51 => (intro w hSw; (try dsimp only at hSw); go_simp; try with_reducible rfl)
          try simp only [Act.put, List.setIfInBounds_toArray, List.set_cons_zero, List.set_cons_succ]
          refine wpAnyH_take (i := 53) (oi := { dst := some 100, op := Op.move (Operand.tmp 8), type := 33, pos := "law.go:79", after := #[{ on := 50, ground := Ground.guard }], guard := some (50, false) }) (v := ?v53) rfl (by kernel_rfl) (by kernel_rfl) (by kernel_rfl) (fun _ _ _ h => h) (Or.inl ⟨by rfl, ?hy53⟩) hHeld ?nx53
          case hy53 => (intro w hSw; (try dsimp only at hSw); go_simp; try with_reducible rfl)
          try simp only [Act.put, List.setIfInBounds_toArray, List.set_cons_zero, List.set_cons_succ]
          refine wpAnyH_take (i := 54) (oi := { dst := some 101, op := Op.nilCheck (Operand.tmp 100), type := 0, pos := "law.go:79", after := #[{ on := 53, ground := Ground.data }, { on := 50, ground := Ground.guard }], guard := some (50, false) }) (v := ?v54) rfl (by kernel_rfl) (by kernel_rfl) (by kernel_rfl) (fun _ _ _ h => h) (Or.inl ⟨by rfl, ?hy54⟩) hHeld ?nx54
          case hy54 => (intro w hSw; (try dsimp only at hSw); go_simp; try with_reducible rfl)
          try simp only [Act.put, List.setIfInBounds_toArray, List.set_cons_zero, List.set_cons_succ]
          refine wpAnyH_take (i := 55) (oi := { dst := some 102, op := Op.fieldAddr 36 (Operand.tmp 101) 2, type := 0, pos := "law.go:79", after := #[{ on := 54, ground := Ground.data }, { on := 50, ground := Ground.guard }], guard := some (50, false) }) (v := ?v55) rfl (by kernel_rfl) (by kernel_rfl) (by kernel_rfl) (fun _ _ _ h => h) (Or.inl ⟨by rfl, ?hy55⟩) hHeld ?nx55
          case hy55 => (intro w hSw; (try dsimp only at hSw); go_simp; try with_reducible rfl)
          try simp only [Act.put, List.setIfInBounds_toArray, List.set_cons_zero, List.set_cons_succ]
          refine wpAnyH_take (i := 56) (oi := { dst := some 103, op := Op.load 3 (Operand.tmp 102), type := 3, pos := "law.go:79", after := #[{ on := 55, ground := Ground.data }, { on := 50, ground := Ground.guard }], guard := some (50, false) }) (v := ?v56) rfl (by kernel_rfl) (by kernel_rfl) (by kernel_rfl) (fun _ _ _ h => h) (Or.inl ⟨by rfl, ?hy56⟩) hHeld ?nx56
          case hy56 => (intro w hSw; (try dsimp only at hSw); go_simp; try with_reducible rfl)
          try simp only [Act.put, List.setIfInBounds_toArray, List.set_cons_zero, List.set_cons_succ]
          refine wpAnyH_ready (rs := [52]) (by kernel_rfl) (by simp) ?_
          refine AllReadyH.cons (o := { dst := some 99, op := Op.call { callee := Callee.value (Operand.func 12), args := #[Operand.tmp 98], argTypes := #[22] }, type := 3, pos := "law.go:79", after := #[{ on := 51, ground := Ground.data }, { on := 50, ground := Ground.chain }, { on := 50, ground := Ground.guard }], guard := some (50, false) }) rfl (fun K hK => ?_) AllReadyH.nil
          go_simp
          go_at_call 12
          refine (duo_total HP.out.pr.duo).mono ?_
          rintro e wJ ⟨rfl, hw⟩
          replace hw := hw.symm
          subst hw
          refine hK.out _ _ (HK2.out _ HZ.out) (fun hH2 => ?_)
          clear hK K hHeld
          have hHeld := hH2
          clear hH2
          try simp only [Act.put, List.setIfInBounds_toArray, List.set_cons_zero, List.set_cons_succ]
          refine wpAnyH_take (i := 57) (oi := { dst := some 104, op := Op.binOp BinOp.neq 3 (Operand.tmp 99) (Operand.tmp 103) 3, type := 4, pos := "law.go:79", after := #[{ on := 52, ground := Ground.data }, { on := 56, ground := Ground.data }, { on := 50, ground := Ground.guard }], guard := some (50, false) }) (v := ?v57) rfl (by kernel_rfl) (by kernel_rfl) (by kernel_rfl) (fun _ _ _ h => h) (Or.inl ⟨by rfl, ?hy57⟩) hHeld ?nx57
          case hy57 => (intro w hSw; (try dsimp only at hSw); go_simp; try with_reducible rfl)
          try simp only [Act.put, List.setIfInBounds_toArray, List.set_cons_zero, List.set_cons_succ]
          refine wpAnyH_take (i := 58) (oi := { dst := some 105, op := Op.pick (Operand.tmp 97) (Operand.const (Value.bool true)) (Operand.tmp 104), type := 4, pos := "law.go:79", after := #[{ on := 50, ground := Ground.data }, { on := 57, ground := Ground.data }], guard := none }) (v := ?v58) rfl (by kernel_rfl) (by kernel_rfl) (by kernel_rfl) (fun _ _ _ h => h) (Or.inl ⟨by rfl, ?hy58⟩) hHeld ?nx58
          case hy58 => (intro w hSw; (try dsimp only at hSw); go_simp; try with_reducible rfl)
          try simp only [Act.put, List.setIfInBounds_toArray, List.set_cons_zero, List.set_cons_succ]
          refine wpAnyH_done (by kernel_rfl) ?_ _
          refine NoPanic.normal ?_
          go_wp2_with fail
          go_meet
          exact ⟨rfl, op', n, L', M', hop', HP.out⟩
        case rest =>
          obtain ⟨rfl, op', n, L', M', hop', HP⟩ := hcut
          obtain ⟨n0, n1, -, -⟩ := HP.out.facts
          clear HT HOP
          go_wp2_with fail
          refine (pr_find HP.out.pr c a).mono ?_
          rintro e wf ⟨v, rfl, hv, hf⟩
          have HP2 := Lib.hid (HP.out.frNo hf)
          clear hf n0 n1
          obtain ⟨n0, n1, -, -⟩ := HP2.out.facts
          rcases hv with ⟨hno, rfl⟩ | ⟨j, d, rfl, hd, hkey⟩
          · have HNO : Hid (∀ d ∈ L', d.key ≠ (c, a)) := fun d hd => hno d (HP2.out.pr.perm.mem_iff.1 hd)
            clear hno
            go_wp2_with fail
            refine (duo_state HP2.out.pr.duo c a).mono ?_
            rintro e wg ⟨v, rfl, hv, hf⟩
            obtain rfl : v = 0 := hv.none HNO.out
            have HP3 := Lib.hid (HP2.out.frNo hf)
            clear hf hv n0 n1
            obtain ⟨n0, n1, -, -⟩ := HP3.out.facts
            go_wp2_with fail
            refine (duo_number HP3.out.pr.duo c a).mono ?_
            rintro e wh ⟨v, rfl, hv, hf⟩
            obtain rfl : v = -1 := hv.none HNO.out
            have HP4 := Lib.hid (HP3.out.frNo hf)
            clear hf hv n0 n1
            go_wp2_with fail
            go_roundg (80 - i)
            case measure => exact hg
            case rel => exact ⟨i + 1, op', L', M', by go_num, by omega, by omega, by omega, HP4.out.pr.duo.less (fun q hq => hq.elim), HP4.out.pr.perm⟩
          · have HD := Lib.hid (And.intro (HP2.out.pr.perm.mem_iff.2 (List.mem_of_getElem? hd)) hkey)
            obtain ⟨ra, rc, r1, -, hc⟩ := pr_cells HP2.out.pr
            obtain ⟨gb, hra, g2, g3⟩ := hc j d hd
            subst hra
            have hjm := (List.getElem?_eq_some_iff.1 hd).1
            obtain ⟨mm, hmm⟩ : ∃ mm, M'.length = mm := ⟨_, rfl⟩
            rw [hmm] at r1 hjm
            have t0 : (0 : Int) ≤ (j : Int) := by omega
            have t1 : (j : Int) < (mm : Int) := by omega
            obtain ⟨dno, hdno⟩ : ∃ x, d.no = x := ⟨_, rfl⟩
            obtain ⟨dst, hdst⟩ : ∃ x, d.st = x := ⟨_, rfl⟩
            rw [hdno] at g2
            rw [hdst] at g3
            have HDD := Lib.hid (And.intro hdno hdst)
            clear hd hkey hc hmm hdno hdst
            go_wp2_with fail
            go_quiet (fail)
            go_wp2_with fail
            generalize hwz : wf.drewN _ = wz
            have HPz : Hid (Tri w wz nb hb rb L' M' k op' n c a) := by subst hwz; exact HP2.out.frNo (Fr.drewN _ _ _)
            clear hwz g2 g3 r1 n0 n1
            refine (duo_state HPz.out.pr.duo c a).mono ?_
            rintro e wg ⟨v, rfl, hv, hf⟩
            have hv1 := hv.mem HPz.out.pr.duo.good.sorted HD.out.1 HD.out.2
            rw [HDD.out.2] at hv1
            subst hv1
            have HP3 := Lib.hid (HPz.out.frNo hf)
            clear hf hv
            obtain ⟨n0, n1, -, -⟩ := HP3.out.facts
            go_wp2_with fail
            refine (duo_number HP3.out.pr.duo c a).mono ?_
            rintro e wh ⟨v, rfl, hv, hf⟩
            have hv1 := hv.mem HP3.out.pr.duo.good.sorted HD.out.1 HD.out.2
            simp only [HDD.out.1] at hv1
            subst hv1
            have HP4 := Lib.hid (HP3.out.frNo hf)
            clear hf hv n0 n1
            go_wp2_with fail
            go_roundg (80 - i)
            case measure => exact hg
            case rel => exact ⟨i + 1, op', L', M', by go_num, by omega, by omega, by omega, HP4.out.pr.duo.less (fun q hq => hq.elim), HP4.out.pr.perm⟩
      · obtain rfl : i = 80 := by omega
        go_wp2_with fail
        refine (awake_any _).mono ?_
        rintro e wz ⟨rfl, hf⟩
        have HE := Lib.hid (HR.out.frNo hf)
        clear hf
        go_wp2_with fail
        go_ret
        exact ⟨rfl, HE.out.duo.fr.below (fun q hq => hq) (Nat.le_refl _)⟩
    · have q1 : ¬ ((i : Int) < (len1 : Int)) := by omega
      go_wp2_with fail
      refine (awake_any _).mono ?_
      rintro e wz ⟨rfl, hf⟩
      have HE := Lib.hid (HR.out.frNo hf)
      clear hf
      go_wp2_with fail
      go_ret
      exact ⟨rfl, HE.out.duo.fr.below (fun q hq => hq) (Nat.le_refl _)⟩

end Go.Proofs.Ytanhjjinedjaaaa
