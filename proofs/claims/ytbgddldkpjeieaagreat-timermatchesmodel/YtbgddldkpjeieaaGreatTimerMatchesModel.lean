/-
  The law TimerMatchesModel returns true for every list of operations, and changes nothing that was in memory before.
  Conditions: none beyond the row's own.
-/
import Derived.Test.YtbgddldkpjeieaaGreatOps
import Derived.WalkKit
import Derived.ProofKit
import Derived.OpenShut
import Derived.ShutString
import Derived.ChangeOld
import Derived.Below
import Derived.Deep.DeepCutAuto
import Derived.Deep.CutBlock
import Derived.Deep.RegionHeld3
namespace Go.Proofs.YtbgddldkpjeieaaGreat.timerMatchesModel
open Go.ChangeShapes Go.WideShapes Go.ChangeAt Go.RowKit
open Go.ChangeMaps (open_string shut_string)
set_option linter.unusedVariables false

theorem own : ownKnob Tryz.prog.godebug = none := by kernel_rfl
theorem laidOut : laidOutB Tryz.prog = true := by kernel_rfl

theorem exists_fst : ∀ {L : List Rec}, L ≠ [] → ∃ r, Fst L r := by
  intro L
  induction L with
  | nil => intro h; exact absurd rfl h
  | cons a L ih =>
    intro _
    by_cases hL : L = []
    · subst hL
      exact ⟨a, by simp, fun r' hr' => by simp at hr'; subst hr'; omega⟩
    · obtain ⟨r, hr, hm⟩ := ih hL
      by_cases hle : a.due < r.due ∨ (a.due = r.due ∧ a.id ≤ r.id)
      · refine ⟨a, by simp, fun r' hr' => ?_⟩
        rcases List.mem_cons.1 hr' with rfl | hr'
        · omega
        · have := hm r' hr'; omega
      · refine ⟨r, by simp [hr], fun r' hr' => ?_⟩
        rcases List.mem_cons.1 hr' with rfl | hr'
        · omega
        · exact hm r' hr'

set_option maxHeartbeats 32000000 in
set_option maxRecDepth 1000000 in
theorem walk (a0 : Option Addr) (len0 cap0 : Nat) (w : World) (w0 : OpRow w a0 len0) :
    Calls Tryz.prog 3 #[.slice a0 len0 cap0] w fun e w' => e = .returned (.bool true) ∧ Below w.heap.size w w' := by
  have HI := Lib.hid w0
  have hlen := HI.out.1
  clear w0
  go_enter Tryz.func3, Tryz.ntmps3
  go_wp2_with fail
  refine (G.tnew_any (fun k => w.heap.size ≤ k) _ (fun k hk => hk)).mono ?_
  rintro e w1 ⟨tb, rfl, htb, hT1, hf1⟩
  have HD0 := Lib.hid (duo_born hT1 (fun k hk => hk) hf1)
  clear hT1 hf1 htb
  go_wp2_with fail
  obtain ⟨xb, hxb⟩ : ∃ xb, w1.heap.size = xb := ⟨_, rfl⟩
  rw [hxb] at HD0 ⊢
  clear hxb
  revert HD0
  generalize w1.alloc (.cells #[.slice none 0 0, .int .i64 0] 30) = w2
  intro HD0
  go_loopg [5] 51 (fun g s wr => ∃ (i : Nat) (L : List Rec) (last : Int), s = .int .i64 i ∧ i ≤ 50 ∧ 50 - i < g ∧ (0 ≤ last ∧ last ≤ i) ∧ Hid (Duo w wr (fun _ => False) tb xb L last L last))
  case atStart => exact ⟨0, [], 0, by go_num, by omega, by omega, by omega, HD0.out⟩
  case round =>
    obtain ⟨i, L, last, rfl, hi50, hig, hlast, HR⟩ := hrel
    clear HD0
    by_cases hin : i < len0 ∧ i < 50
    · obtain ⟨hin1, hin2⟩ := hin
      obtain ⟨kd, ov, du, xa, xy, xz, hop, bk, bo, bd⟩ := HI.out.2 i hin1
      obtain ⟨b, off, rfl, c0, c1, c2, c3, c4, c5⟩ := hop.fr HR.out.fr (fun j hj => hj)
      have p1 : (0 : Int) ≤ (i : Int) := by omega
      have p2 : (i : Int) < (len0 : Int) := by omega
      have p3 : (i : Int) < 50 := by omega
      clear hop
      go_wp2_with fail
      have HD : Hid (Duo w (wr.alloc (.cells #[.int .i64 kd, .int .i64 ov, .int .u64 du, .int .i64 xa, .int .i64 xy, .int .i64 xz] 33)) (fun k => k = wr.heap.size) tb xb L last L last) := (HR.out.box _).less fun k hk => .inr hk
      have HO : Hid ((wr.alloc (.cells #[.int .i64 kd, .int .i64 ov, .int .u64 du, .int .i64 xa, .int .i64 xy, .int .i64 xz] 33)).heap[wr.heap.size]? = some (.cells #[.int .i64 kd, .int .i64 ov, .int .u64 du, .int .i64 xa, .int .i64 xy, .int .i64 xz] 33 (0, 0))) := heap_alloc_new wr _
      clear c0 c1 c2 c3 c4 c5 HR
      obtain ⟨ob, hob⟩ : ∃ ob, wr.heap.size = ob := ⟨_, rfl⟩
      rw [hob] at HO HD ⊢
      clear hob
      revert HD HO
      generalize wr.alloc (.cells #[.int .i64 kd, .int .i64 ov, .int .u64 du, .int .i64 xa, .int .i64 xy, .int .i64 xz] 33) = wb
      intro HD HO
      have o1 : wb.cell? ⟨ob, 1, none⟩ = some (.int .i64 ov) := by simp [World.cell?, HO.out]
      have o2 : wb.cell? ⟨ob, 2, none⟩ = some (.int .u64 du) := by simp [World.cell?, HO.out]
      go_region_held3 (fun w' => w'.cell? ⟨ob, 1, none⟩ = some (.int .i64 ov) ∧ w'.cell? ⟨ob, 2, none⟩ = some (.int .u64 du)) (go_keep) (first | (go_at_call 5; refine (someHandle_any ov _ bo).mono ?_; rintro e w3 ⟨k, hk, rfl, hw3⟩; have n1 : w3.cell? ⟨ob, 1, none⟩ = some (.int .i64 ov) := (by rw [hw3]; exact o1); have n2 : w3.cell? ⟨ob, 2, none⟩ = some (.int .u64 du) := (by rw [hw3]; exact o2); have H3 : Hid (Fr No wb w3) := (by rw [hw3]; exact Fr.drew No _); clear hw3) | (go_at_call 6; refine (someDue_any du _ bd).mono ?_; rintro e w4 ⟨rfl, hw4⟩; have m1 : w4.cell? ⟨ob, 1, none⟩ = some (.int .i64 ov) := (by rw [hw4]; exact n1); have m2 : w4.cell? ⟨ob, 2, none⟩ = some (.int .u64 du) := (by rw [hw4]; exact n2); have H4 : Hid (Fr No wb w4) := (by rw [hw4]; exact H3.out); clear hw4))
      all_goals (
        clear o1 o2
        have HD4 : Hid (Duo w w4 (fun k => k = ob) tb xb L last L last) := HD.out.frNo H4.out
        have hO4 : w4.heap[ob]? = some (.cells #[.int .i64 kd, .int .i64 ov, .int .u64 du, .int .i64 xa, .int .i64 xy, .int .i64 xz] 33 (0, 0)) := (H4.out.block ob (Array.getElem?_eq_some_iff.1 HO.out).1 (fun h => h)).trans HO.out
        have m0 : w4.cell? ⟨ob, 0, none⟩ = some (.int .i64 kd) := by simp [World.cell?, hO4]
        have m3 : w4.cell? ⟨ob, 3, none⟩ = some (.int .i64 xa) := by simp [World.cell?, hO4]
        have m4 : w4.cell? ⟨ob, 4, none⟩ = some (.int .i64 xy) := by simp [World.cell?, hO4]
        have m5 : w4.cell? ⟨ob, 5, none⟩ = some (.int .i64 xz) := by simp [World.cell?, hO4]
        have HO4 := Lib.hid hO4
        clear hO4 HD HO
        have HSD : Hid (0 ≤ sd du ∧ sd du ≤ 18446744073709551615) := sd_bd bd
        generalize sd du = dd at HSD ⊢
        have wk : Hid ((Lit.int .i64 k).wf = true) := WalkArith.wf_i64 hk
        go_wp2_with fail
        refine (mod_at kd 8 8 _ rfl (by omega) (by omega) bk).mono ?_
        rintro e w5 ⟨m, hm, rfl, hw5⟩
        have hw5' := hw5.symm
        subst hw5'
        clear hw5
        go_upto_block 2 with fail
        go_cut [9] (fun s9 wx => s9 = .bool true ∧ ∃ (L' : List Rec) (last' : Int), (0 ≤ last' ∧ last' ≤ (i : Int) + 1) ∧ Hid (Duo w wx (fun _ => False) tb xb L' last' L' last'))
        case first =>
          have hcase : (∃ q ∈ L, q.id = k) ∨ ((∀ r ∈ L, r.id ≠ k) ∧ k ≠ 0) ∨ ((∀ r ∈ L, r.id ≠ k) ∧ k = 0) := by
            by_cases h1 : ∃ q ∈ L, q.id = k
            · exact .inl h1
            · have h2 : ∀ r ∈ L, r.id ≠ k := fun r hr e => h1 ⟨r, hr, e⟩
              by_cases h0 : k = 0
              · exact .inr (.inr ⟨h2, h0⟩)
              · exact .inr (.inl ⟨h2, h0⟩)
          by_cases hm4 : m < 4
          · have q1 : (m : Int) < 4 := by omega
            rcases hcase with ⟨q, hq, rfl⟩ | ⟨hno, hk0⟩ | ⟨hno, rfl⟩
            · have HQ := Lib.hid hq
              clear hq
              obtain ⟨S1, hT1, hS1, hB1⟩ := HD4.out.t
              have HT := Lib.hid (And.intro hT1 (And.intro hS1 hB1))
              clear hT1 hS1 hB1
              go_wp2_with fail
              refine (G.start_child S1 tb L last dd q xa xy xz _ HT.out.1 HQ.out HT.out.2.1 (by omega) HSD.out).mono ?_
              rintro e w5 ⟨rfl, hT5, hf5⟩
              obtain ⟨hD5, hZ5⟩ := HT.out.2.2 _ _ _ hT5 hf5
              have hO5 := (hZ5 ob rfl).trans HO4.out
              have u3 : w5.cell? ⟨ob, 3, none⟩ = some (.int .i64 xa) := by simp [World.cell?, hO5]
              have u4 : w5.cell? ⟨ob, 4, none⟩ = some (.int .i64 xy) := by simp [World.cell?, hO5]
              have u5 : w5.cell? ⟨ob, 5, none⟩ = some (.int .i64 xz) := by simp [World.cell?, hO5]
              clear hO5
              have H5 := Lib.hid hD5
              clear hD5
              obtain ⟨X1, hR1, hX1, hB1⟩ := H5.out.x
              have HX := Lib.hid (And.intro hR1 (And.intro hX1 hB1))
              clear hR1 hX1 hB1
              go_wp2_with fail
              refine (start_ref_child X1 xb L last dd q xa xy xz _ HX.out.1 HQ.out HX.out.2.1 (by omega) HSD.out).mono ?_
              rintro e w6 ⟨rfl, hR6, hf6⟩
              obtain ⟨hD6, -⟩ := HX.out.2.2 _ _ _ hR6 hf6
              have H6 := Lib.hid hD6
              clear hD6
              go_wp2_with fail
              go_meet
              exact ⟨by simp, _, last + 1, by omega, H6.out.less fun k hk => hk.elim⟩
            · have HQ := Lib.hid hno
              clear hno
              obtain ⟨S1, hT1, hS1, hB1⟩ := HD4.out.t
              have HT := Lib.hid (And.intro hT1 (And.intro hS1 hB1))
              clear hT1 hS1 hB1
              go_wp2_with fail
              refine (G.start_miss S1 tb L last dd k xa xy xz _ HT.out.1 wk.out hk0 HQ.out).mono ?_
              rintro e w5 ⟨rfl, hT5, hf5⟩
              obtain ⟨hD5, hZ5⟩ := HT.out.2.2 _ _ _ hT5 hf5
              have hO5 := (hZ5 ob rfl).trans HO4.out
              have u3 : w5.cell? ⟨ob, 3, none⟩ = some (.int .i64 xa) := by simp [World.cell?, hO5]
              have u4 : w5.cell? ⟨ob, 4, none⟩ = some (.int .i64 xy) := by simp [World.cell?, hO5]
              have u5 : w5.cell? ⟨ob, 5, none⟩ = some (.int .i64 xz) := by simp [World.cell?, hO5]
              clear hO5
              have H5 := Lib.hid hD5
              clear hD5
              obtain ⟨X1, hR1, hX1, hB1⟩ := H5.out.x
              have HX := Lib.hid (And.intro hR1 (And.intro hX1 hB1))
              clear hR1 hX1 hB1
              go_wp2_with fail
              refine (start_ref_miss X1 xb L last dd k xa xy xz _ HX.out.1 hk0 HQ.out).mono ?_
              rintro e w6 ⟨rfl, hf6⟩
              have hD6 := H5.out.frNo hf6
              have H6 := Lib.hid hD6
              clear hD6
              go_wp2_with fail
              go_meet
              exact ⟨by simp, L, last, by omega, H6.out.less fun k hk => hk.elim⟩
            · have HQ := Lib.hid hno
              clear hno
              obtain ⟨S1, hT1, hS1, hB1⟩ := HD4.out.t
              have HT := Lib.hid (And.intro hT1 (And.intro hS1 hB1))
              clear hT1 hS1 hB1
              go_wp2_with fail
              refine (G.start_root S1 tb L last dd xa xy xz _ HT.out.1 HT.out.2.1 (by omega) HSD.out).mono ?_
              rintro e w5 ⟨rfl, hT5, hf5⟩
              obtain ⟨hD5, hZ5⟩ := HT.out.2.2 _ _ _ hT5 hf5
              have hO5 := (hZ5 ob rfl).trans HO4.out
              have u3 : w5.cell? ⟨ob, 3, none⟩ = some (.int .i64 xa) := by simp [World.cell?, hO5]
              have u4 : w5.cell? ⟨ob, 4, none⟩ = some (.int .i64 xy) := by simp [World.cell?, hO5]
              have u5 : w5.cell? ⟨ob, 5, none⟩ = some (.int .i64 xz) := by simp [World.cell?, hO5]
              clear hO5
              have H5 := Lib.hid hD5
              clear hD5
              obtain ⟨X1, hR1, hX1, hB1⟩ := H5.out.x
              have HX := Lib.hid (And.intro hR1 (And.intro hX1 hB1))
              clear hR1 hX1 hB1
              go_wp2_with fail
              refine (start_ref_root X1 xb L last dd xa xy xz _ HX.out.1 HX.out.2.1 (by omega) HSD.out).mono ?_
              rintro e w6 ⟨rfl, hR6, hf6⟩
              obtain ⟨hD6, -⟩ := HX.out.2.2 _ _ _ hR6 hf6
              have H6 := Lib.hid hD6
              clear hD6
              go_wp2_with fail
              go_meet
              exact ⟨by simp, _, last + 1, by omega, H6.out.less fun k hk => hk.elim⟩
          · by_cases hm6 : m < 6
            · have q1 : ¬ ((m : Int) < 4) := by omega
              have q2 : (m : Int) < 6 := by omega
              by_cases hsome : ∃ r ∈ L, r.due ≤ dd
              · obtain ⟨S1, hT1, hS1, hB1⟩ := HD4.out.t
                have HT := Lib.hid (And.intro hT1 (And.intro hS1 hB1))
                clear hT1 hS1 hB1
                go_wp2_with fail
                refine (G.expire_some S1 tb L last dd _ HT.out.1 hsome).mono ?_
                rintro e w5 ⟨r, hr, hdue, hmin, rfl, hT5, hf5⟩
                have hfst : Fst L r := ⟨hr, hmin⟩
                obtain ⟨hD5, -⟩ := HT.out.2.2 _ _ _ hT5 hf5
                obtain ⟨ya, yb, yc, hv⟩ := HT.out.1.val r hr
                rw [hv]
                have H5 : Hid (Duo w (w5.alloc (.cells #[.int .i64 ya, .int .i64 yb, .int .i64 yc] 26)) (fun k => k = w5.heap.size) tb xb (rest L r.id) last L last) := (hD5.box _).less fun k hk => .inr hk
                have HF := Lib.hid (And.intro hfst (And.intro hdue hv))
                clear hD5 hT5 hf5 hr hdue hmin hfst hsome hv
                obtain ⟨X1, hR1, hX1, hB1⟩ := H5.out.x
                have HX := Lib.hid (And.intro hR1 (And.intro hX1 hB1))
                clear hR1 hX1 hB1
                go_wp2_with fail
                refine (expire_ref_some X1 xb L last dd r _ HX.out.1 HF.out.1 HF.out.2.1 HX.out.2.1).mono ?_
                rintro e w6 ⟨rfl, hR6, hf6⟩
                obtain ⟨hD6, hZ6⟩ := HX.out.2.2 _ _ _ hR6 hf6
                rw [HF.out.2.2]
                have hz6 : w6.heap[w5.heap.size]? = some (.cells #[.int .i64 ya, .int .i64 yb, .int .i64 yc] 26 (0, 0)) := (hZ6 w5.heap.size rfl).trans (heap_alloc_new w5 _)
                have hz7 : (w6.alloc (.cells #[.int .i64 ya, .int .i64 yb, .int .i64 yc] 26)).heap[w5.heap.size]? = some (.cells #[.int .i64 ya, .int .i64 yb, .int .i64 yc] 26 (0, 0)) := (Below.heap_alloc _ _ _ (Array.getElem?_eq_some_iff.1 hz6).1).trans hz6
                have g0 : (w6.alloc (.cells #[.int .i64 ya, .int .i64 yb, .int .i64 yc] 26)).cell? ⟨w5.heap.size, 0, none⟩ = some (.int .i64 ya) := by unfold World.cell?; rw [hz7]; rfl
                have g1 : (w6.alloc (.cells #[.int .i64 ya, .int .i64 yb, .int .i64 yc] 26)).cell? ⟨w5.heap.size, 1, none⟩ = some (.int .i64 yb) := by unfold World.cell?; rw [hz7]; rfl
                have g2 : (w6.alloc (.cells #[.int .i64 ya, .int .i64 yb, .int .i64 yc] 26)).cell? ⟨w5.heap.size, 2, none⟩ = some (.int .i64 yc) := by unfold World.cell?; rw [hz7]; rfl
                have H6 : Hid (Duo w (w6.alloc (.cells #[.int .i64 ya, .int .i64 yb, .int .i64 yc] 26)) (fun _ => False) tb xb (rest L r.id) last (rest L r.id) last) := (hD6.frNo (Fr.alloc No _ _)).less fun k hk => hk.elim
                clear hD6 hR6 hf6 hZ6 hz6 hz7
                go_wp2_with fail
                go_meet
                exact ⟨by simp, _, last, by omega, H6.out⟩
              · have hno : ∀ r ∈ L, dd < r.due := fun r hr => by
                  have : ¬ r.due ≤ dd := fun h => hsome ⟨r, hr, h⟩
                  omega
                have HNO := Lib.hid hno
                clear hno hsome
                obtain ⟨S1, hT1, hS1, hB1⟩ := HD4.out.t
                have HT := Lib.hid (And.intro hT1 (And.intro hS1 hB1))
                clear hT1 hS1 hB1
                go_wp2_with fail
                refine (G.expire_none S1 tb L last dd _ HT.out.1 HNO.out).mono ?_
                rintro e w5 ⟨rfl, hf5⟩
                have H5 : Hid (Duo w (w5.alloc (.cells #[.int .i64 0, .int .i64 0, .int .i64 0] 26)) (fun k => k = w5.heap.size) tb xb L last L last) := ((HD4.out.frNo hf5).box _).less fun k hk => .inr hk
                clear hf5
                obtain ⟨X1, hR1, hX1, hB1⟩ := H5.out.x
                have hxe : Calls Tryz.prog 11 #[.pointer (some ⟨xb, 0, none⟩), .int .u64 dd] (w5.alloc (.cells #[.int .i64 0, .int .i64 0, .int .i64 0] 26)) fun e w' => e = .returned (.tuple #[.int .i64 0, .agg #[.int .i64 0, .int .i64 0, .int .i64 0], .bool false]) ∧ Fr No (w5.alloc (.cells #[.int .i64 0, .int .i64 0, .int .i64 0] 26)) w' := by
                  by_cases hL : L = []
                  · rw [hL] at hR1
                    exact expire_ref_empty X1 xb last dd _ hR1
                  · obtain ⟨r, hr⟩ := exists_fst hL
                    exact expire_ref_none X1 xb L last dd r _ hR1 hr (HNO.out r hr.1)
                have HX := Lib.hid hxe
                clear hR1 hX1 hB1 hxe
                go_wp2_with fail
                refine (HX.out).mono ?_
                rintro e w6 ⟨rfl, hf6⟩
                have hz6 : w6.heap[w5.heap.size]? = some (.cells #[.int .i64 0, .int .i64 0, .int .i64 0] 26 (0, 0)) := (hf6.block _ (by simp) (fun h => h)).trans (heap_alloc_new w5 _)
                have hz7 : (w6.alloc (.cells #[.int .i64 0, .int .i64 0, .int .i64 0] 26)).heap[w5.heap.size]? = some (.cells #[.int .i64 0, .int .i64 0, .int .i64 0] 26 (0, 0)) := (Below.heap_alloc _ _ _ (Array.getElem?_eq_some_iff.1 hz6).1).trans hz6
                have g0 : (w6.alloc (.cells #[.int .i64 0, .int .i64 0, .int .i64 0] 26)).cell? ⟨w5.heap.size, 0, none⟩ = some (.int .i64 0) := by unfold World.cell?; rw [hz7]; rfl
                have g1 : (w6.alloc (.cells #[.int .i64 0, .int .i64 0, .int .i64 0] 26)).cell? ⟨w5.heap.size, 1, none⟩ = some (.int .i64 0) := by unfold World.cell?; rw [hz7]; rfl
                have g2 : (w6.alloc (.cells #[.int .i64 0, .int .i64 0, .int .i64 0] 26)).cell? ⟨w5.heap.size, 2, none⟩ = some (.int .i64 0) := by unfold World.cell?; rw [hz7]; rfl
                have H6 : Hid (Duo w (w6.alloc (.cells #[.int .i64 0, .int .i64 0, .int .i64 0] 26)) (fun _ => False) tb xb L last L last) := ((H5.out.frNo hf6).frNo (Fr.alloc No _ _)).less fun k hk => hk.elim
                clear hf6 hz6 hz7
                go_wp2_with fail
                go_meet
                exact ⟨by simp, L, last, by omega, H6.out⟩
            · by_cases hm7 : m = 6
              · subst hm7
                rcases hcase with ⟨q, hq, rfl⟩ | hno
                · have HQ := Lib.hid hq
                  clear hq
                  obtain ⟨S1, hT1, hS1, hB1⟩ := HD4.out.t
                  have HT := Lib.hid (And.intro hT1 (And.intro hS1 hB1))
                  clear hT1 hS1 hB1
                  go_wp2_with fail
                  refine (G.reset_hit S1 tb L last dd q _ HT.out.1 HQ.out HSD.out).mono ?_
                  rintro e w5 ⟨rfl, hT5, hf5⟩
                  obtain ⟨hD5, hZ5⟩ := HT.out.2.2 _ _ _ hT5 hf5
                  have H5 := Lib.hid hD5
                  clear hD5
                  obtain ⟨X1, hR1, hX1, hB1⟩ := H5.out.x
                  have HX := Lib.hid (And.intro hR1 (And.intro hX1 hB1))
                  clear hR1 hX1 hB1
                  go_wp2_with fail
                  refine (reset_ref X1 xb L last dd q _ HX.out.1 HQ.out HSD.out).mono ?_
                  rintro e w6 ⟨rfl, hR6, hf6⟩
                  obtain ⟨hD6, -⟩ := HX.out.2.2 _ _ _ hR6 hf6
                  have H6 := Lib.hid hD6
                  clear hD6
                  go_wp2_with fail
                  go_meet
                  exact ⟨by simp, _, last, by omega, H6.out.less fun k hk => hk.elim⟩
                · have HQ : Hid (∀ r ∈ L, r.id ≠ k) := by rcases hno with h | h; exact h.1; exact h.1
                  clear hno
                  obtain ⟨S1, hT1, hS1, hB1⟩ := HD4.out.t
                  have HT := Lib.hid (And.intro hT1 (And.intro hS1 hB1))
                  clear hT1 hS1 hB1
                  go_wp2_with fail
                  refine (G.reset_miss S1 tb L last dd k _ HT.out.1 wk.out HQ.out).mono ?_
                  rintro e w5 ⟨rfl, hw5⟩
                  have hD5 : Duo w w5 (fun k => k = ob) tb xb L last L last := by rw [hw5]; exact HD4.out
                  clear hw5
                  have H5 := Lib.hid hD5
                  clear hD5
                  obtain ⟨X1, hR1, hX1, hB1⟩ := H5.out.x
                  have HX := Lib.hid (And.intro hR1 (And.intro hX1 hB1))
                  clear hR1 hX1 hB1
                  go_wp2_with fail
                  refine (reset_ref_miss X1 xb L last dd k _ HX.out.1 HQ.out).mono ?_
                  rintro e w6 ⟨rfl, hw6⟩
                  have hD6 : Duo w w6 (fun k => k = ob) tb xb L last L last := by rw [hw6]; exact H5.out
                  clear hw6
                  have H6 := Lib.hid hD6
                  clear hD6
                  go_wp2_with fail
                  go_meet
                  exact ⟨by simp, L, last, by omega, H6.out.less fun k hk => hk.elim⟩
              · have hm7' : m = 7 := by omega
                subst hm7'
                rcases hcase with ⟨q, hq, rfl⟩ | hno
                · have HQ := Lib.hid hq
                  clear hq
                  obtain ⟨S1, hT1, hS1, hB1⟩ := HD4.out.t
                  have HT := Lib.hid (And.intro hT1 (And.intro hS1 hB1))
                  clear hT1 hS1 hB1
                  go_wp2_with fail
                  refine (G.cancel_hit S1 tb L last q _ HT.out.1 HQ.out).mono ?_
                  rintro e w5 ⟨rfl, hT5, hf5⟩
                  obtain ⟨hD5, hZ5⟩ := HT.out.2.2 _ _ _ hT5 hf5
                  have H5 := Lib.hid hD5
                  clear hD5
                  obtain ⟨X1, hR1, hX1, hB1⟩ := H5.out.x
                  have HX := Lib.hid (And.intro hR1 (And.intro hX1 hB1))
                  clear hR1 hX1 hB1
                  go_wp2_with fail
                  refine (cancel_ref X1 xb L last q _ HX.out.1 HQ.out HX.out.2.1).mono ?_
                  rintro e w6 ⟨rfl, hR6, hf6⟩
                  obtain ⟨hD6, -⟩ := HX.out.2.2 _ _ _ hR6 hf6
                  have H6 := Lib.hid hD6
                  clear hD6
                  go_wp2_with fail
                  go_meet
                  exact ⟨by simp, _, last, by omega, H6.out.less fun k hk => hk.elim⟩
                · have HQ : Hid (∀ r ∈ L, r.id ≠ k) := by rcases hno with h | h; exact h.1; exact h.1
                  clear hno
                  obtain ⟨S1, hT1, hS1, hB1⟩ := HD4.out.t
                  have HT := Lib.hid (And.intro hT1 (And.intro hS1 hB1))
                  clear hT1 hS1 hB1
                  go_wp2_with fail
                  refine (G.cancel_miss S1 tb L last k _ HT.out.1 wk.out HQ.out).mono ?_
                  rintro e w5 ⟨rfl, hw5⟩
                  have hD5 : Duo w w5 (fun k => k = ob) tb xb L last L last := by rw [hw5]; exact HD4.out
                  clear hw5
                  have H5 := Lib.hid hD5
                  clear hD5
                  obtain ⟨X1, hR1, hX1, hB1⟩ := H5.out.x
                  have HX := Lib.hid (And.intro hR1 (And.intro hX1 hB1))
                  clear hR1 hX1 hB1
                  go_wp2_with fail
                  refine (cancel_ref_miss X1 xb L last k _ HX.out.1 HQ.out).mono ?_
                  rintro e w6 ⟨rfl, hw6⟩
                  have hD6 : Duo w w6 (fun k => k = ob) tb xb L last L last := by rw [hw6]; exact H5.out
                  clear hw6
                  have H6 := Lib.hid hD6
                  clear hD6
                  go_wp2_with fail
                  go_meet
                  exact ⟨by simp, L, last, by omega, H6.out.less fun k hk => hk.elim⟩
        case rest =>
          obtain ⟨rfl, L', last', hl', HD'⟩ := hcut
          go_wp2_with fail
          obtain ⟨S2, X2, hT2, hR2⟩ : ∃ S2 X2, G.TI S2 _ tb L' last' ∧ Rf X2 _ xb L' last' := by
            obtain ⟨S, X, h1, h2, _⟩ := HD'.out
            exact ⟨S, X, h1, h2⟩
          refine (same_any S2 X2 tb xb L' last' _ hT2 hR2).mono ?_
          rintro e w8 ⟨rfl, hf8⟩
          have H8 := Lib.hid (HD'.out.frNo hf8)
          clear hT2 hR2 hf8
          go_wp2_with fail
          go_roundg (50 - i)
          case measure => omega
          case rel => exact ⟨i + 1, L', last', by go_num, by omega, by omega, by omega, H8.out⟩)
    · by_cases hi1 : i < len0
      · have p2 : (i : Int) < (len0 : Int) := by omega
        have p3 : ¬ ((i : Int) < 50) := by omega
        clear hin
        go_wp2_with fail
        refine (awake_any _).mono ?_
        rintro e w5 ⟨rfl, hf5⟩
        have H5 := Lib.hid hf5
        clear hf5
        go_wp2_with fail
        go_ret
        exact ⟨rfl, (HR.out.fr.trans H5.out.no).below (fun k hk => hk) (Nat.le_refl _)⟩
      · have p2 : ¬ ((i : Int) < (len0 : Int)) := by omega
        clear hin
        go_wp2_with fail
        refine (awake_any _).mono ?_
        rintro e w5 ⟨rfl, hf5⟩
        have H5 := Lib.hid hf5
        clear hf5
        go_wp2_with fail
        go_ret
        exact ⟨rfl, (HR.out.fr.trans H5.out.no).below (fun k hk => hk) (Nat.le_refl _)⟩

set_option maxRecDepth 100000 in
theorem lifted (os : Os) (started : os.Started) (H : Type) (enc : TypeId × Value → H) :
    ReturnsInHanded {} Tryz.checked os 3 .any (Rows.timerMatchesModelSpec.pre6 enc Tryz.prog Tryz.f3 Rows.timerMatchesModelRow.domain false) (Rows.timerMatchesModelSpec.post enc Tryz.prog Tryz.f3 false true false false) := by
  refine returnsInHanded_of_change (C := Tryz.checked) own started (by kernel_rfl) Tryz.func3
    (ChangeSpec.witness6 (enc := enc) (C := Tryz.checked) false ⟨#[], #[.slice none 0 0], []⟩ 8 (by kernel_rfl) (by kernel_rfl) (by kernel_rfl) (by kernel_rfl)) ?_
  intro W base args ds gs before hval0 hW hcnd _
  have hval : ∀ (j : Nat) t v, Tryz.f3.params[j]? = some t → args[j]? = some v → Value.okWide Tryz.prog W .any base t v := hval0
  have hW' := hW
  obtain ⟨p, q, hA0, hV, rfl, hfz, hnd⟩ := hW
  have hA : DataW.TrodAll enc Tryz.prog W 0 (fun _ => true) true Tryz.f3.params.toList args.toList ds p := hA0
  rw [Tryz.params3] at hA hval
  obtain ⟨v0, vs0, d0, ds0, p0, q0, hargs, rfl, rfl, h0, r0⟩ := trodAll_cons hA
  obtain ⟨rfl, rfl, rfl⟩ := trodAll_nil r0
  obtain rfl : args = #[v0] := by cases args; simp_all
  obtain ⟨rfl, rfl⟩ := trodVars_none hV
  obtain ⟨a0, len0, cap0, rfl⟩ := okWide_slice Tryz.underlying22 (hval 0 22 v0 rfl rfl)
  have k0 := h0
  have lt0 : ∀ x ∈ p0, x.block < W.heap.size := by obtain ⟨m, hm⟩ := k0; exact DataW.trod_lt m _ _ _ hm
  have w0 : OpRow W a0 len0 := by
    obtain ⟨fuel, hf⟩ := h0
    exact ops_open hf
  clear hA0 hval0
  refine (walk a0 len0 cap0 W w0).mono fun e W' ⟨he, bel⟩ => ?_
  subst he
  exact ⟨_, rfl, _, _, _, [], _, [], hW', trodAll_mk1 (shut_bool Tryz.underlying4 _), (trodAll_cons_mk (Below.trod laidOut (by kernel_rfl) (of_decide_eq_true (by kernel_rfl)) k0 bel lt0) trodAll_mk0), rfl, bel.frame _, fun h => by cases h⟩

theorem over : Rows.timerMatchesModelRow.holds Tryz.pinned (OpenSpec.ofChange Rows.timerMatchesModelSpec) :=
  OpenClaim.holds_of_wide 3 Tryz.f3 rfl rfl rfl rfl rfl rfl rfl ⟨rfl, rfl, rfl, rfl, rfl⟩ rfl rfl rfl rfl rfl (by kernel_rfl) Tryz.func3 (by kernel_rfl)
    (of_decide_eq_true (by kernel_rfl)) (by unfold Func.isWrapper; first | (rw [if_pos (by decide +kernel)]; kernel_rfl) | (rw [if_neg (by decide +kernel)]; exact ⟨rfl, rfl⟩))
    (fun os started H enc _ => lifted os started H enc)

end Go.Proofs.YtbgddldkpjeieaaGreat.timerMatchesModel

namespace Go.Proofs.YtbgddldkpjeieaaGreat
/-- The statement. -/
theorem timerMatchesModel_holds : Rows.TimerMatchesModelSaid := timerMatchesModel.over
#print axioms timerMatchesModel_holds
end Go.Proofs.YtbgddldkpjeieaaGreat
