/-
  THE LAW CidrTextForms, second form (what it reads is of bulk at most 1048576): the frame around its walk, the row's statement and the tied card.
  Conditions: the bound alone.
-/
import Derived.Test.YtmhnailcmlomiaaGreatDoorTb
import Derived.Test.YtmhnailcmlomiaaGreatDoorLa
import Derived.Test.YtmhnailcmlomiaaGreatDoorCards
import Derived.Test.YtmhnailcmlomiaaGreatDoorTie
import Derived.Test.YtmhnailcmlomiaaGreatDoorCa
import Derived.Test.YtmhnailcmlomiaaGreatDoorN8
import Derived.ChangeMaps5
import Derived.WalkKit
import Derived.ProofKit
import Derived.OpenShut
import Derived.ChangeOld
import Derived.Below
import Derived.Stop.Joined
import Derived.SevenTiedAt
import Derived.Deep.DeepHandedRow
import Derived.Deep.DeepWitnessRowRef
namespace Go.Proofs.YtmhnailcmlomiaaGreatDoor
open Go.ChangeShapes Go.WideShapes Go.ChangeAt Go.RowKit
set_option linter.unusedVariables false

theorem part_at {L : List Value} {r : Nat} {v : Value} (h : (L.drop r).take 1 = [v]) : L[r]? = some v := by
  have h1 : ((L.drop r).take 1)[0]? = some v := by rw [h]; rfl
  simpa using h1

set_option maxRecDepth 100000 in
/-- The cells of an address that is a part. -/
theorem adr_cells {H : Type} {enc : TypeId × Value → H} {w : World} {base : Nat} {spare : Nat → Bool} {held : Bool} {fuel : Nat} {L : List Value} {d : DataW H × List MemPlace}
    (hl : L.length = 17) (hf : DataW.trod enc Tryz.prog w base spare held fuel 30 L = some d) : ∃ b xs, L = adr b xs ∧ Bytes xs := by
  have h4 : Tryz.prog.cellsOf 4 = 1 := by kernel_rfl
  have h22 : Tryz.prog.cellsOf 28 = 16 := by kernel_rfl
  have h5 : Tryz.prog.cellsOf 5 = 1 := by kernel_rfl
  obtain ⟨xs, n, _, _, _, hxl, hx⟩ := DataW.trod_struct Tryz.underlying30 hf
  have e0 : DataW.trod enc Tryz.prog w base spare held n 4 ((L.drop 0).take (Tryz.prog.cellsOf 4)) = xs[0]? := hx 0 _ rfl
  have e1 : DataW.trod enc Tryz.prog w base spare held n 28 ((L.drop 1).take (Tryz.prog.cellsOf 28)) = xs[1]? := hx 1 _ rfl
  rw [h4] at e0
  rw [h22] at e1
  have hx2 : xs.length = 2 := hxl
  rw [List.getElem?_eq_getElem (by omega)] at e0
  obtain ⟨b, hb, _⟩ := DataW.trod_bool Tryz.underlying4 e0
  have hb0 := part_at (L := L) (r := 0) hb
  have hcell : ∀ j, j < 16 → ∃ k : Nat, L[j + 1]? = some (.int .u8 k) ∧ k < 256 := by
    intro j hj
    rw [List.getElem?_eq_getElem (by omega)] at e1
    obtain ⟨ys, m, _, _, hl1, hyl, hy⟩ := DataW.trod_array Tryz.underlying28 e1
    have ej := hy j hj
    rw [h5, List.getElem?_eq_getElem (by omega)] at ej
    obtain ⟨k, hk, _, hwf⟩ := DataW.trod_int Tryz.underlying5 ej
    have := part_at hk
    rw [Nat.mul_one, List.getElem?_take, if_pos hj, List.getElem?_drop, Nat.add_comm] at this
    have hb := bounds_u8 hwf
    refine ⟨k.toNat, ?_, by omega⟩
    rw [this]
    simp
    omega
  refine ⟨b, (List.range 16).map fun j => (numOf L[j + 1]?), ?_, by simp, ?_⟩
  · apply List.ext_getElem?
    intro i
    cases i with
    | zero => rw [hb0]; rfl
    | succ j =>
      simp only [adr, List.getElem?_cons_succ, nums, List.map_map, List.getElem?_map]
      by_cases hj : j < 16
      · obtain ⟨k, hk, _⟩ := hcell j hj
        rw [hk, List.getElem?_range hj]
        show some _ = some (Value.int .u8 ((numOf L[j + 1]? : Nat) : Int))
        rw [hk]
        simp [numOf]
      · rw [List.getElem?_eq_none (by rw [hl]; omega), List.getElem?_eq_none (by simp; omega)]
        rfl
  · intro x hx
    obtain ⟨j, hj, rfl⟩ := List.mem_map.1 hx
    obtain ⟨k, hk, hlt⟩ := hcell j (List.mem_range.1 hj)
    rw [hk]
    simpa [numOf] using hlt

set_option maxRecDepth 100000 in
theorem open_pfx {H : Type} {enc : TypeId × Value → H} {w : World} {base base' : Nat} {spare : Nat → Bool} {held : Bool} {r : Reach} {v : Value} {d : DataW H} {ps : List MemPlace}
    (hval : Value.okWide Tryz.prog w r base' 40 v) (hd : DataW.Trod enc Tryz.prog w base spare held 40 v d ps) : ∃ b xs n, v = .agg (pfx b xs n).toArray ∧ Bytes xs ∧ (-9223372036854775808 ≤ n ∧ n ≤ 9223372036854775807) := by
  obtain ⟨cs, rfl, hsz⟩ := okWide_struct Tryz.underlying40 hval
  have h18 : Tryz.prog.cellsOf 40 = 18 := by kernel_rfl
  have h17 : Tryz.prog.cellsOf 30 = 17 := by kernel_rfl
  have h3 : Tryz.prog.cellsOf 3 = 1 := by kernel_rfl
  rw [h18] at hsz
  obtain ⟨fuel, hf⟩ := hd
  simp only [Value.cells] at hf
  obtain ⟨xs, n, _, _, hl, hxl, hx⟩ := DataW.trod_struct Tryz.underlying40 hf
  have e0 : DataW.trod enc Tryz.prog w base spare held n 30 ((cs.toList.drop 0).take (Tryz.prog.cellsOf 30)) = xs[0]? := hx 0 _ rfl
  have e1 : DataW.trod enc Tryz.prog w base spare held n 3 ((cs.toList.drop 17).take (Tryz.prog.cellsOf 3)) = xs[1]? := hx 1 _ rfl
  rw [h17, List.drop_zero] at e0
  rw [h3] at e1
  have hx2 : xs.length = 2 := hxl
  have hcl : cs.toList.length = 18 := by rw [Array.length_toList]; exact hsz
  rw [List.getElem?_eq_getElem (by omega)] at e0 e1
  obtain ⟨b, ys, hL, hb⟩ := adr_cells (by rw [List.length_take, hcl]; rfl) e0
  obtain ⟨k, hk, _, hwf⟩ := DataW.trod_int Tryz.underlying3 e1
  refine ⟨b, ys, k, ?_, hb, bounds_i64 hwf⟩
  congr 1
  apply Array.toList_inj.1
  rw [List.toList_toArray, pfx, ← hL, ← List.take_append_drop 17 cs.toList]
  congr 1
  · rw [List.take_append_of_le_length (by rw [List.length_take, hcl]; exact Nat.le_refl _), List.take_take]; rfl
  · have h1 : (cs.toList.drop 17).length = 1 := by rw [List.length_drop, hcl]
    rw [List.take_of_length_le (by omega)] at hk
    exact hk

end Go.Proofs.YtmhnailcmlomiaaGreatDoor

namespace Go.Proofs.YtmhnailcmlomiaaGreatDoor.cidrTextFormsUpto
open Go.ChangeShapes Go.WideShapes Go.ChangeAt Go.RowKit
set_option linter.unusedVariables false

set_option maxRecDepth 100000 in
theorem contract (H : Type) (enc : TypeId × Value → H) (W : World) (base : Nat) (args : Array Value) (ds gs : List (DataW H)) (before : List MemPlace)
    (hval0 : ∀ (j : Nat) t v, Tryz.f7.params[j]? = some t → args[j]? = some v → Value.okWide Tryz.prog W .any base t v)
    (hW : DataW.Whole enc Tryz.prog Tryz.f7.params.toList Rows.cidrTextFormsSpec.vars false W args.toList ds gs before) (hk : Rows.uptoSmall H (ds ++ gs) = true) (hL : laidMetH Tryz.prog laid5 W) (hsh : W.ShapedOpen Tryz.prog) :
    Calls Tryz.prog 7 args W fun e W' => ∃ v, e = .returned v ∧ Rows.cidrTextFormsSpec.post enc Tryz.prog Tryz.f7 false true false false W args v W' := by
  have hval : ∀ (j : Nat) t v, Tryz.f7.params[j]? = some t → args[j]? = some v → Value.okWide Tryz.prog W .any base t v := hval0
  have hW' := hW
  obtain ⟨p, q, hA0, hV, rfl, hfz, hnd⟩ := hW
  have hA : DataW.TrodAll enc Tryz.prog W 0 (fun _ => true) true Tryz.f7.params.toList args.toList ds p := hA0
  rw [Tryz.params7] at hA hval
  obtain ⟨v0, vs0, d0, ds0, p0, q0, hargs, rfl, rfl, h0, r0⟩ := trodAll_cons hA
  obtain ⟨v1, vs1, d1, ds1, p1, q1, rfl, rfl, rfl, h1, r1⟩ := trodAll_cons r0
  obtain ⟨v2, vs2, d2, ds2, p2, q2, rfl, rfl, rfl, h2, r2⟩ := trodAll_cons r1
  obtain ⟨rfl, rfl, rfl⟩ := trodAll_nil r2
  obtain rfl : args = #[v0, v1, v2] := by cases args; simp_all
  obtain ⟨rfl, rfl⟩ := trodVars_none hV
  have k0 := h0
  have lt0 : ∀ x ∈ p0, x.block < W.heap.size := by obtain ⟨m, hm⟩ := k0; exact DataW.trod_lt m _ _ _ hm
  obtain ⟨b0, xs0, n0, rfl, hx0, hn0⟩ := open_pfx (hval 0 40 v0 rfl rfl) h0
  obtain ⟨s1, rfl, rfl, rfl, w1⟩ := Go.ChangeMaps.open_string Tryz.underlying9 (hval 1 9 v1 rfl rfl) h1
  obtain ⟨l1, hl1⟩ : ∃ l : List UInt8, l = s1.data.toList := ⟨_, rfl⟩
  have hs1 : s1 = bs l1 := by rw [hl1]; exact bs_of s1
  have hz1 : l1.length < 2147483648 := by
    have h2 := of_decide_eq_true hk
    simp only [List.cons_append, List.nil_append, Rows.uptoBulkAll, Rows.uptoBulk] at h2
    rw [← hl1] at h2
    omega
  obtain ⟨a2, rfl, rfl, rfl, w2⟩ := open_int Tryz.underlying3 (hval 2 3 v2 rfl rfl) h2
  clear hA0 hval0
  have hrun := texts_law b0 xs0 n0 l1 a2 hx0 hz1 W (gl_of hL hsh)
  rw [← hs1] at hrun
  refine hrun.mono fun e W' ⟨he, hfr⟩ => ?_
  subst he
  have bel := hfr.belowNo
  exact ⟨_, rfl, _, _, _, [], _, [], hW', trodAll_mk1 (shut_bool Tryz.underlying4 _), (trodAll_cons_mk (Below.trod laidOut (by kernel_rfl) (of_decide_eq_true (by kernel_rfl)) k0 bel lt0) (trodAll_cons_mk (Go.ChangeMaps.shut_string Tryz.underlying9 w1) (trodAll_cons_mk (shut_int Tryz.underlying3 w2) trodAll_mk0))), rfl, bel.frame _, fun h => by cases h⟩

theorem reads (os : Os) {H : Type} (enc : TypeId × Value → H) : ∃ places, DataW.whole enc Tryz.prog ((World.doorLaid Tryz.prog 62 os).forCall (fun _ _ => 0) ⟨#[], #[.agg #[.bool false, .int .u8 0, .int .u8 0, .int .u8 0, .int .u8 0, .int .u8 0, .int .u8 0, .int .u8 0, .int .u8 0, .int .u8 0, .int .u8 0, .int .u8 0, .int .u8 0, .int .u8 0, .int .u8 0, .int .u8 0, .int .u8 0, .int .i64 0], .string ⟨#[]⟩, .int .i64 0], []⟩).memory Tryz.f7.params.toList Rows.cidrTextFormsSpec.vars false #[Value.agg #[.bool false, .int .u8 0, .int .u8 0, .int .u8 0, .int .u8 0, .int .u8 0, .int .u8 0, .int .u8 0, .int .u8 0, .int .u8 0, .int .u8 0, .int .u8 0, .int .u8 0, .int .u8 0, .int .u8 0, .int .u8 0, .int .u8 0, .int .i64 0], .string ⟨#[]⟩, .int .i64 0].toList 8 = some ([.agg [.agg [.lit (.bool false), .agg [.lit (.int .u8 0), .lit (.int .u8 0), .lit (.int .u8 0), .lit (.int .u8 0), .lit (.int .u8 0), .lit (.int .u8 0), .lit (.int .u8 0), .lit (.int .u8 0), .lit (.int .u8 0), .lit (.int .u8 0), .lit (.int .u8 0), .lit (.int .u8 0), .lit (.int .u8 0), .lit (.int .u8 0), .lit (.int .u8 0), .lit (.int .u8 0)]], .lit (.int .i64 0)], .lit (.string []), .lit (.int .i64 0)], [], places) :=
  ⟨[], by kernel_rfl⟩

set_option maxRecDepth 100000 in
theorem lifted (os : Os) (started : os.Started) (H : Type) (enc : TypeId × Value → H) (F : Stop.Interp) :
    ReturnsInHanded {} Tryz.checked os 7 .any ((Rows.OpenSpec.upto Rows.cidrTextFormsSpec).preRow enc Tryz.prog Tryz.f7 Rows.cidrTextFormsUptoRow.domain false Rows.cidrTextFormsUptoRow.laid) (((Rows.OpenSpec.upto Rows.cidrTextFormsSpec).at F).post enc Tryz.prog Tryz.f7 false true false false) := by
  obtain ⟨places, hx⟩ := reads os enc
  refine returnsInHanded_of_row (C := Tryz.checked) (s := Rows.OpenSpec.upto Rows.cidrTextFormsSpec) own started (by kernel_rfl) Tryz.func7
    (witness_row_atRef (enc := enc) (C := Tryz.checked) false (World.doorLaid Tryz.prog 62 os) #[.agg #[.bool false, .int .u8 0, .int .u8 0, .int .u8 0, .int .u8 0, .int .u8 0, .int .u8 0, .int .u8 0, .int .u8 0, .int .u8 0, .int .u8 0, .int .u8 0, .int .u8 0, .int .u8 0, .int .u8 0, .int .u8 0, .int .u8 0, .int .i64 0], .string ⟨#[]⟩, .int .i64 0] rfl (by kernel_rfl) (by kernel_rfl) (by kernel_rfl)
      (OpenSpec.preRow_of_cond 8 hx (by kernel_rfl) (fun k hk => by cases hk; kernel_rfl) (by kernel_rfl) (door_met os _))) ?_
  intro W base args ds gs before hval hW _ hcond _ hL hsh _
  exact contract H enc W base args ds gs before hval hW (hcond _ rfl) hL hsh

theorem over : Rows.CidrTextFormsUptoSaid :=
  OpenClaim.holds_of_cond 7 Tryz.f7 rfl rfl rfl rfl rfl rfl rfl ⟨rfl, rfl, rfl, rfl, rfl⟩ rfl rfl rfl rfl rfl (by kernel_rfl) Tryz.func7 (by kernel_rfl)
    (of_decide_eq_true (by kernel_rfl)) (by unfold Func.isWrapper; first | (rw [if_pos (by decide +kernel)]; kernel_rfl) | (rw [if_neg (by decide +kernel)]; exact ⟨rfl, rfl⟩))
    (fun os started H enc _ F => by rw [OpenClaim.pre_eq_preRow]; exact lifted os started H enc F)

end Go.Proofs.YtmhnailcmlomiaaGreatDoor.cidrTextFormsUpto

namespace Go.Proofs.YtmhnailcmlomiaaGreatDoor
open Go
/-- The tied card of the second form. -/
theorem cidrTextFormsUpto_holds : Rows.CidrTextFormsUptoCardSaid :=
  Claim7.holds_tied_plain_at .later [] _ _ _ _
    cidrTextFormsUpto.over (fun _ h => by cases h) (by kernel_rfl) (fun _ h => by cases h) cidrTextFormsUpto_row_tie rfl ⟨rfl, rfl⟩ (by kernel_rfl) rfl
    (fun f fn hf hfn => by
      obtain rfl : f = 7 := Option.some.inj ((show Tryz.prog.funcNamed "ginnel/ginnellaw09.CidrTextForms" = some 7 by kernel_rfl).symm.trans hf) |>.symm
      obtain rfl : fn = Tryz.f7 := (Option.some.inj (Tryz.func7.symm.trans hfn)).symm
      exact ⟨by kernel_rfl, fun j t ht => by
        rw [Tryz.params7] at ht
        have hm : t ∈ [40, 9, 3] := by simpa using Array.mem_of_getElem? ht
        have hall : ([40, 9, 3].all fun u => !Tryz.prog.wantsStandIn u) = true := by kernel_rfl
        exact (show Tryz.prog.wantsStandIn t = false by simpa using List.all_eq_true.1 hall t hm)⟩)
    (by kernel_rfl)
#print axioms cidrTextFormsUpto_holds
end Go.Proofs.YtmhnailcmlomiaaGreatDoor
