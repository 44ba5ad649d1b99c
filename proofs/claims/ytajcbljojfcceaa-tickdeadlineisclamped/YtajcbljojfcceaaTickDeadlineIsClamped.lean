/-
  The law TickDeadlineIsClamped returns true for all ticks and every list of limits, and changes nothing that was in memory before.
  Conditions: none beyond the row's own.
-/
import Derived.Test.YtajcbljojfcceaaClamp0
import Derived.SizedLaws
import Derived.WalkKit
import Derived.ProofKit
import Derived.OpenShut
import Derived.ShutString
import Derived.ChangeOld
import Derived.Below
namespace Go.Proofs.Ytajcbljojfcceaa.tickDeadlineIsClamped
open Go.ChangeShapes Go.WideShapes Go.ChangeAt Go.RowKit
open Go.ChangeMaps (open_string shut_string)
set_option linter.unusedVariables false

theorem own : ownKnob Try.prog.godebug = none := by kernel_rfl
theorem laidOut : laidOutB Try.prog = true := by kernel_rfl

theorem info22 : (Try.prog.info? 22).map (fun i => (i.zero, i.size, i.bytes)) = some (some (.int .u64 0), 1, 8) := by kernel_rfl
theorem bytes22 : Try.prog.bytesOf 22 = 8 := by kernel_rfl

set_option maxHeartbeats 800000 in
theorem walk (a0 : Int) (a1 : Int) (a2 : Int) (a3 : Option Addr) (len3 cap3 : Nat) (z3 : List Int) (w : World) (w0 : (Lit.int .u64 a0).wf = true) (w1 : (Lit.int .u64 a1).wf = true) (w2 : (Lit.int .u64 a2).wf = true) (w3 : IsRow .u64 w a3 len3 cap3 z3) (hcap : cap3 * 8 ≤ 140737488351232) :
    Calls Try.prog 5 #[.int .u64 a0, .int .u64 a1, .int .u64 a2, .slice a3 len3 cap3] w fun e w' => e = .returned (.bool true) ∧ Below w.heap.size w w' := by
  obtain ⟨b00, b01⟩ := bounds_u64 w0
  obtain ⟨b10, b11⟩ := bounds_u64 w1
  obtain ⟨b20, b21⟩ := bounds_u64 w2
  obtain ⟨i0, hi, hz0, hz1, hz2⟩ := info_parts info22
  obtain ⟨zs, hzs⟩ : ∃ zs, zs = z3.take len3 := ⟨_, rfl⟩
  have HZ := Lib.hid hzs
  have hl0 := w3.lies
  rw [← hzs] at hl0
  have HL := Lib.hid hl0
  have HR := Lib.hid w3
  have hlc : len3 * 8 ≤ 140737488351232 := by rcases w3 with ⟨_, rfl, _⟩ | ⟨_, _, h, _⟩ <;> omega
  clear w3 hzs hl0
  go_enter Try.func5, Try.ntmps5
  go_wp2_with fail
  refine (tickDeadline_any a0 a1 a3 len3 cap3 zs _ ⟨b00, b01⟩ ⟨b10, b11⟩ HL.out).mono ?_
  rintro e w' ⟨rfl, hb⟩
  have HB := Lib.hid (hb.alloc hb.size (.cells #[] 22))
  have HR1 := Lib.hid (HR.out.below HB.out)
  have HO := Lib.hid (World.ownsRow_made (base := w'.heap.size) (e := 22) (size := 1) w' #[] 0 (Nat.le_refl _) (Nat.zero_le _) rfl)
  have HS := Lib.hid hb.size
  clear hb
  go_wp2_with (first
    | (at_builtin; refine wpList_append_row rfl (.tmp 18) (.tmp 19) 27 rfl w'.heap.size 22 i0 Try.underlying27 hi hz0 hz1 hz2 _ 0 [] rfl HO.out a3 len3 cap3 z3 rfl HR1.out (by unfold maxLen; omega) (by omega) (by simp) ?_; intro v1 w1 hown1 hgrow1; rw [← HZ.out, Nat.zero_add, List.nil_append] at hown1; have HO1 := Lib.hid hown1; have HG1 := Lib.hid hgrow1; clear hown1 hgrow1)
    | (at_builtin; refine wpList_append_own _ rfl (.tmp 20) (.tmp 22) 27 rfl w'.heap.size 22 i0 (.int .u64 0) 1 8 Try.underlying27 hi hz0 hz1 hz2 rfl (by decide) v1 len3 _ rfl (HO1.out.alloc _) ⟨w1.heap.size, 0, none⟩ 1 1 [.int .u64 a2] rfl rfl (one_cell w1 a2) (one_one a2) (by unfold maxLen; omega) (by omega) (by have := HG1.out.size; simp at this ⊢; omega) ?_; intro v2 w2 hown2 hgrow2 _; have HO2 := Lib.hid hown2; have HG2 := Lib.hid hgrow2; clear hown2 hgrow2)
    | fail)
  have HB1 := Lib.hid (HB.out.grown HG1.out (by have := HS.out; simp; omega) (fun k hk => by have := HS.out; have : w'.heap.size = k := Option.some.inj hk; omega))
  have HB2 := Lib.hid ((HB1.out.alloc HB1.out.size (.cells #[.int .u64 a2] 22)).grown HG2.out (by have := HB1.out.size; simp; omega) (fun k hk => by have := HS.out; have := (HO1.out.lt k hk).1; omega))
  have ho2 := HO2.out
  rw [show List.map (Value.int .u64) zs ++ [Value.int .u64 a2] = (zs ++ [a2]).map (Value.int .u64) by simp] at ho2
  obtain ⟨A2, c2, rfl, hl2⟩ := lies_own ho2 (by omega) (by omega) (fun z hz => by
    rcases List.mem_append.1 hz with h | h
    · exact HL.out.2.2.1 z h
    · simp at h; subst h; exact ⟨b20, b21⟩)
  have HL2 := Lib.hid hl2
  clear hl2 ho2 HO2 HG2 HO1 HG1
  refine (tickDeadline_any a0 a1 A2 (len3 + 1) c2 (zs ++ [a2]) _ ⟨b00, b01⟩ ⟨b10, b11⟩ HL2.out).mono ?_
  rintro e W3 ⟨rfl, hb3⟩
  have HB3 := Lib.hid (HB2.out.trans (hb3.mono HB2.out.size))
  have HL3 := Lib.hid (HL.out.below HB3.out)
  have HD := Lib.hid (fun k hk => dlT_le (zs := zs) b00 b10 k hk)
  obtain ⟨hd1, hd2, hd3⟩ := dlT_more (over := a2) (zs := zs) b00 b01 b10
  have HD3 := Lib.hid hd3
  clear hb3 hd3 HB2 HB1 HB HR1 HO HL2 HR HZ
  go_wp2
  go_loop [11] (fun i => ∃ k : Nat, k ≤ len3 ∧ i = .int .i64 k) (fun i => len3 - (intOf i).toNat)
  case atStart => exact ⟨0, Nat.zero_le _, rfl⟩
  case round =>
    obtain ⟨k, hk, rfl⟩ := hrel
    by_cases hlt : k < len3
    · obtain ⟨b, off, rfl, hcell⟩ := HL3.out.2.2.2 k hlt
      have hle := HD.out k (by have := HL.out.1; omega)
      go_wp2
      go_round
      case rel => exact ⟨k + 1, by omega, by go_num⟩
      case measure => simp [intOf]; omega
    · go_wp2_with fail
      refine (awake_any _).mono ?_
      rintro e W4 ⟨rfl, hb4⟩
      have HB4 := Lib.hid (HB3.out.trans (hb4.mono HB3.out.size))
      clear hb4
      by_cases c1 : a2 < a0
      · go_wp2
        go_ret
        exact ⟨rfl, HB4.out⟩
      · by_cases c2 : dlT a0 a1 zs < a0
        · go_wp2
          go_ret
          exact ⟨rfl, HB4.out⟩
        · have c3 : a0 ≤ dlT a0 a1 (zs ++ [a2]) := by have := HD3.out; omega
          go_wp2
          go_ret
          exact ⟨rfl, HB4.out⟩

set_option maxRecDepth 100000 in
theorem lifted (os : Os) (started : os.Started) (H : Type) (enc : TypeId × Value → H) :
    ReturnsInHanded {} Try.checked os 5 .any (Rows.tickDeadlineIsClampedSpec.pre6 enc Try.prog Try.f5 Rows.tickDeadlineIsClampedRow.domain false) (Rows.tickDeadlineIsClampedSpec.post enc Try.prog Try.f5 false true false false) := by
  refine returnsInHanded_of_change_sized (C := Try.checked) own started (by kernel_rfl) Try.func5
    (ChangeSpec.witness6 (enc := enc) (C := Try.checked) false ⟨#[], #[.int .u64 0, .int .u64 0, .int .u64 0, .slice none 0 0], []⟩ 8 (by kernel_rfl) (by kernel_rfl) (by kernel_rfl) (by kernel_rfl)) ?_
  intro W base args ds gs before hval0 hW hcnd hsz0 _
  have hsz : (DataW.weightsEach Try.prog (Try.f5.params.toList ++ Rows.tickDeadlineIsClampedSpec.plain.varTypes Try.prog) (ds ++ gs)).all (· ≤ reachBytes) = true := hsz0
  clear hsz0
  have hval : ∀ (j : Nat) t v, Try.f5.params[j]? = some t → args[j]? = some v → Value.okWide Try.prog W .any base t v := hval0
  have hW' := hW
  obtain ⟨p, q, hA0, hV, rfl, hfz, hnd⟩ := hW
  have hA : DataW.TrodAll enc Try.prog W 0 (fun _ => true) true Try.f5.params.toList args.toList ds p := hA0
  rw [Try.params5] at hA hval hsz
  obtain ⟨v0, vs0, d0, ds0, p0, q0, hargs, rfl, rfl, h0, r0⟩ := trodAll_cons hA
  obtain ⟨v1, vs1, d1, ds1, p1, q1, rfl, rfl, rfl, h1, r1⟩ := trodAll_cons r0
  obtain ⟨v2, vs2, d2, ds2, p2, q2, rfl, rfl, rfl, h2, r2⟩ := trodAll_cons r1
  obtain ⟨v3, vs3, d3, ds3, p3, q3, rfl, rfl, rfl, h3, r3⟩ := trodAll_cons r2
  obtain ⟨rfl, rfl, rfl⟩ := trodAll_nil r3
  obtain rfl : args = #[v0, v1, v2, v3] := by cases args; simp_all
  obtain ⟨rfl, rfl⟩ := trodVars_none hV
  obtain ⟨a0, rfl, rfl, rfl, w0⟩ := open_int Try.underlying22 (hval 0 22 v0 rfl rfl) h0
  obtain ⟨a1, rfl, rfl, rfl, w1⟩ := open_int Try.underlying22 (hval 1 22 v1 rfl rfl) h1
  obtain ⟨a2, rfl, rfl, rfl, w2⟩ := open_int Try.underlying22 (hval 2 22 v2 rfl rfl) h2
  obtain ⟨a3, len3, cap3, rfl⟩ := okWide_slice Try.underlying27 (hval 3 27 v3 rfl rfl)
  have k3 := h3
  have lt3 : ∀ x ∈ p3, x.block < W.heap.size := by obtain ⟨m, hm⟩ := k3; exact DataW.trod_lt m _ _ _ hm
  obtain ⟨z3, w3, hcap⟩ : ∃ zs, IsRow .u64 W a3 len3 cap3 zs ∧ cap3 * 8 ≤ 140737488351232 := by
    obtain ⟨fuel, hf⟩ := h3
    rcases open_ints Try.underlying27 Try.underlying22 (by kernel_rfl) hf with ⟨hcs, _⟩ | ⟨x, l, c, zs, hcs, _, hl, hm, hz, hx, hcell, hwz⟩
    · simp [Value.cells] at hcs
      obtain ⟨rfl, rfl, rfl⟩ := hcs
      exact ⟨[], .inl ⟨rfl, rfl, rfl, rfl⟩, by omega⟩
    · simp [Value.cells] at hcs
      obtain ⟨rfl, rfl, rfl⟩ := hcs
      simp only [Prod.mk.injEq] at hx
      obtain ⟨rfl, _⟩ := hx
      have hs := sized_slice hsz (j := 3) (t := 27) (e := 22) rfl rfl Try.underlying27
      rw [bytes22] at hs
      simp only [lits, List.length_map, List.length_take, List.length_drop, reachBytes] at hs
      have hz' : zs.length = cap3 := by simpa using hz
      exact ⟨zs, .inr ⟨_, rfl, hl, hm, hz', hcell, hwz⟩, by omega⟩
  clear hA0 hval0
  refine (walk a0 a1 a2 a3 len3 cap3 z3 W w0 w1 w2 w3 hcap).mono fun e W' ⟨he, bel⟩ => ?_
  subst he
  exact ⟨_, rfl, _, _, _, [], _, [], hW', trodAll_mk1 (shut_bool Try.underlying4 _), (trodAll_cons_mk (shut_int Try.underlying22 w0) (trodAll_cons_mk (shut_int Try.underlying22 w1) (trodAll_cons_mk (shut_int Try.underlying22 w2) (trodAll_cons_mk (Below.trod laidOut (by kernel_rfl) (of_decide_eq_true (by kernel_rfl)) k3 bel lt3) trodAll_mk0)))), rfl, bel.frame _, fun h => by cases h⟩

theorem over : Rows.tickDeadlineIsClampedRow.holds Try.pinned (OpenSpec.ofChange Rows.tickDeadlineIsClampedSpec) :=
  OpenClaim.holds_of_wide 5 Try.f5 rfl rfl rfl rfl rfl rfl rfl ⟨rfl, rfl, rfl, rfl, rfl⟩ rfl rfl rfl rfl rfl (by kernel_rfl) Try.func5 (by kernel_rfl)
    (of_decide_eq_true (by kernel_rfl)) (by unfold Func.isWrapper; first | (rw [if_pos (by decide +kernel)]; kernel_rfl) | (rw [if_neg (by decide +kernel)]; exact ⟨rfl, rfl⟩))
    (fun os started H enc _ => lifted os started H enc)

end Go.Proofs.Ytajcbljojfcceaa.tickDeadlineIsClamped

namespace Go.Proofs.Ytajcbljojfcceaa
/-- The statement. -/
theorem tickDeadlineIsClamped_holds : Rows.TickDeadlineIsClampedSaid := tickDeadlineIsClamped.over
#print axioms tickDeadlineIsClamped_holds
end Go.Proofs.Ytajcbljojfcceaa
