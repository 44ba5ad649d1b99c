/-
  The law HeapHandleLookup returns true for every list of due times and all handles, and changes nothing that was in memory before.
  Conditions: none beyond the row's own.
-/
import Derived.Test.YtbobokhlcbojkaaLook
import Derived.WalkKit
import Derived.ProofKit
import Derived.OpenShut
import Derived.ShutString
import Derived.ChangeOld
import Derived.Below
import Derived.Deep.RegionWith
namespace Go.Proofs.Ytbobokhlcbojkaa.heapHandleLookup
open Go.ChangeShapes Go.WideShapes Go.ChangeAt Go.RowKit
open Go.ChangeMaps (open_string shut_string)
set_option linter.unusedVariables false

theorem own : ownKnob Try.prog.godebug = none := by kernel_rfl
theorem laidOut : laidOutB Try.prog = true := by kernel_rfl

set_option maxHeartbeats 8000000 in
set_option maxRecDepth 100000 in
theorem walk (a0 : Option Addr) (len0 cap0 : Nat) (z0 : List Int) (a1 : Int) (a2 : Int) (w : World) (w0 : IsRow .u64 w a0 len0 cap0 z0) (w1 : (Lit.int .i64 a1).wf = true) (w2 : (Lit.int .i64 a2).wf = true) :
    Calls Try.prog 6 #[.slice a0 len0 cap0, .int .i64 a1, .int .i64 a2] w fun e w' => e = .returned (.bool true) ∧ Below w.heap.size w w' := by
  obtain ⟨b10, b11⟩ := bounds_i64 w1
  obtain ⟨b20, b21⟩ := bounds_i64 w2
  obtain ⟨z, hz⟩ : ∃ z : Nat → Int, z = fun i => z0.getD i 0 := ⟨_, rfl⟩
  have HI : Hid (InRow w a0 len0 z) := by rw [hz]; exact w0.row
  have hlen := HI.out.1
  clear hz w0
  obtain ⟨n, hn1, hn2, hn3⟩ : ∃ n : Nat, n ≤ len0 ∧ n ≤ 60 ∧ (n : Int) = min (len0 : Int) 60 := ⟨min len0 60, by omega, by omega, by omega⟩
  have HN3 := Lib.hid hn3
  clear hn3
  go_enter Try.func6, Try.ntmps6
  go_wp2_with fail
  refine (U.new_any _).mono ?_
  rintro e w1' ⟨hb, mb, rfl, h1, h2, h3, h4⟩
  have L1 := Lib.hid (Live.born h1 (Fr.refl No w) h2 h3 h4)
  clear h1 h2 h3 h4
  go_wp2_with fail
  rw [← HN3.out]
  go_loopg [9] (n + 1) (fun g s wr => ∃ (i : Nat) (sv : Value) (A : List Ent), s = .int .i64 i ∧ i ≤ n ∧ n - i < g ∧ Hid (Live U.V 92 94 w wr hb mb sv A i ∧ A.Perm (pushed z (mkX z) i)))
  case atStart => exact ⟨0, _, [], by go_num, by omega, by omega, L1.out, List.Perm.refl _⟩
  case round =>
    obtain ⟨i, sv, A, rfl, hin, hig, HR⟩ := hrel
    clear L1
    by_cases hi : i < n
    · obtain ⟨⟨b, off, rfl, c0⟩, hd⟩ := HI.out.2 i (by omega)
      have hbl : b < w.heap.size := block_lt_of_cell c0
      have c1 : wr.cell? ⟨b, off + i, none⟩ = some (.int .u64 (z i)) := (World.cell?_of_block (a := ⟨b, off + i, none⟩) (HR.out.1.fr.block b hbl (fun h => h))).trans c0
      have p1 : (0 : Int) ≤ (i : Int) := by omega
      have p2 : (i : Int) < (n : Int) := by omega
      have p3 : (i : Int) < (len0 : Int) := by omega
      have hwr : IntKind.i64.wrap ((i : Int) + 1) = (i : Int) + 1 := by rw [IntKind.wrap_i64]; omega
      clear c0
      go_wp2_with fail
      go_region_with (go_at_call 28; refine (U.push_any hb mb sv A _ (z i) (bits BinOp.xor IntKind.u64 (z i) 5) _ (HR.out.1.keep (Fr.drew No _)).heap HR.out.1.ord (by rw [HR.out.2.length_eq, pushed_length]; omega) (by omega) hd).mono ?_; rintro e w2 ⟨rfl, sv2, A2, h1, h2, h3, h4, h5⟩; have L2 := Lib.hid (And.intro ((HR.out.1.keep (Fr.drew No _)).step h1 h3 h4 h5) h2); clear h1 h2 h3 h4 h5)
      all_goals (
        go_wp2_with fail
        go_roundg (n - i)
        case measure => exact hig
        case rel => exact ⟨i + 1, sv2, A2, by go_num, by omega, by omega, by simpa using L2.out.1, pushed_succ L2.out.2 HR.out.2⟩)
    · obtain rfl : i = n := by omega
      have p2 : ¬ ((i : Int) < (i : Int)) := by omega
      have hAl : Hid (A.length = i) := by have h := HR.out.2.length_eq; rw [pushed_length] at h; exact h
      by_cases hi0 : i = 0
      · subst hi0
        have hA : A = [] := List.eq_nil_of_length_eq_zero hAl.out
        subst hA
        go_wp2_with fail
        refine (U.get_miss hb mb sv [] _ a1 _ HR.out.1.heap w1 (fun k e h => by simp at h)).mono ?_
        rintro e w3 ⟨rfl, rfl⟩
        by_cases hid : (1 : Int) ≤ a1
        · have hid2 : ¬ (a1 ≤ 0) := by omega
          go_wp2_with fail
          refine (awake_any _).mono ?_
          rintro e w5 ⟨rfl, hf⟩
          have L5 := Lib.hid (HR.out.1.keep hf)
          clear hf
          go_wp2_with fail
          go_ret
          exact ⟨rfl, L5.out.below⟩
        · go_wp2_with fail
          refine (awake_any _).mono ?_
          rintro e w5 ⟨rfl, hf⟩
          have L5 := Lib.hid (HR.out.1.keep hf)
          clear hf
          go_wp2_with fail
          go_ret
          exact ⟨rfl, L5.out.below⟩
      · have hip : (0 : Int) < (i : Int) := by omega
        go_wp2_with fail
        refine (mod_any a2 i _ (by omega) (by omega) ⟨b20, b21⟩).mono ?_
        rintro e w3 ⟨r, hr, rfl, rfl⟩
        obtain ⟨k0, hk0⟩ := mem_get (HR.out.2.mem_iff.2 (pushed_get z (mkX z) hr))
        have HK := Lib.hid hk0
        clear hk0
        go_wp2_with fail
        rw [show (1 : Int) + (r : Int) = (r : Int) + 1 from Int.add_comm _ _]
        refine (U.remove_hit hb mb sv A _ k0 (ent z (mkX z) r) _ HR.out.1.heap HR.out.1.ord HK.out).mono ?_
        rintro e w4 ⟨rfl, sv4, A4, h1, h2, h3, h4, h5⟩
        have L4 := Lib.hid (And.intro (HR.out.1.same h1 h3 h4 h5) (And.intro h2 (gone HR.out.1.heap h2)))
        clear h1 h2 h3 h4 h5
        have wk : (Lit.int .i64 ((r : Int) + 1)).wf = true := WalkArith.wf_i64 (by omega)
        go_wp2_with fail
        refine (U.remove_miss hb mb sv4 A4 _ ((r : Int) + 1) _ L4.out.1.heap wk L4.out.2.2).mono ?_
        rintro e w5 ⟨rfl, rfl⟩
        go_wp2_with fail
        refine (U.update_miss hb mb sv4 A4 _ ((r : Int) + 1) 1 _ L4.out.1.heap wk L4.out.2.2).mono ?_
        rintro e w6 ⟨rfl, rfl⟩
        by_cases hit : 1 ≤ a1 ∧ a1 ≤ (i : Int) ∧ a1 ≠ (r : Int) + 1
        · obtain ⟨q1, q2, q3⟩ := hit
          obtain ⟨q, rfl⟩ : ∃ q : Nat, a1 = (q : Int) + 1 := ⟨(a1 - 1).toNat, by omega⟩
          have hqi : q < i := by omega
          have hmem : ent z (mkX z) q ∈ A4 := by
            have h1 := L4.out.2.1.mem_iff.2 (HR.out.2.mem_iff.2 (pushed_get z (mkX z) hqi))
            rcases List.mem_cons.1 h1 with h1 | h1
            · have h2 := congrArg Ent.id h1
              simp [ent] at h2
              exact absurd (by rw [h2]) q3
            · exact h1
          obtain ⟨kq, hkq⟩ := mem_get hmem
          have HQ := Lib.hid hkq
          clear hkq hmem
          obtain ⟨⟨b, off, rfl, c0⟩, hd⟩ := HI.out.2 q (by omega)
          have hbl : b < w.heap.size := block_lt_of_cell c0
          have HC := Lib.hid (And.intro c0 hbl)
          clear c0 hbl
          have p3 : ((q : Int) + 1 != (r : Int) + 1) = true := by simpa using (by omega : ¬ (q : Int) = (r : Int))
          have p4 : (0 : Int) ≤ (q : Int) := by omega
          have p5 : (q : Int) < (len0 : Int) := by omega
          have p6 : (q : Int) + 1 - 1 = (q : Int) := by omega
          clear q3
          go_wp2_with fail
          refine (U.get_hit hb mb sv4 A4 _ kq (ent z (mkX z) q) _ L4.out.1.heap HQ.out).mono ?_
          rintro e w7 ⟨rfl, hf7⟩
          have L7 := Lib.hid (L4.out.1.keep hf7)
          clear hf7
          unfold ent mkX
          go_wp2_with fail
          refine (awake_any _).mono ?_
          rintro e w8 ⟨rfl, hf⟩
          have L8 := Lib.hid (L7.out.keep hf)
          have c8 : w8.cell? ⟨b, off + q, none⟩ = some (.int .u64 (z q)) := (World.cell?_of_block (a := ⟨b, off + q, none⟩) (L8.out.fr.block b HC.out.2 (fun h => h))).trans HC.out.1
          clear hf
          go_wp2_with fail
          go_ret
          exact ⟨rfl, L8.out.below⟩
        · have hmiss : ∀ (k : Nat) (e : Ent), A4[k]? = some e → e.id ≠ a1 := by
            intro k e hk he
            have h1 := L4.out.2.2 k e hk
            obtain ⟨q, hq, rfl⟩ := pushed_mem (HR.out.2.mem_iff.1 (L4.out.2.1.mem_iff.1 (List.mem_cons_of_mem _ (List.mem_of_getElem? hk))))
            simp [ent] at he h1
            exact hit (by omega)
          have HM := Lib.hid hmiss
          clear hmiss
          go_wp2_with fail
          refine (U.get_miss hb mb sv4 A4 _ a1 _ L4.out.1.heap w1 HM.out).mono ?_
          rintro e w7 ⟨rfl, rfl⟩
          by_cases q1 : 1 ≤ a1
          · by_cases q2 : a1 ≤ (i : Int)
            · obtain rfl : a1 = (r : Int) + 1 := by omega
              clear hit
              go_wp2_with fail
              refine (awake_any _).mono ?_
              rintro e w5 ⟨rfl, hf⟩
              have L5 := Lib.hid (L4.out.1.keep hf)
              clear hf
              go_wp2_with fail
              go_ret
              exact ⟨rfl, L5.out.below⟩
            · clear hit w1 wk b10 b11 b20 b21 hr hn1 hn2 hlen hin hig hi hi0
              go_wp2_with fail
              refine (awake_any _).mono ?_
              rintro e w5 ⟨rfl, hf⟩
              have L5 := Lib.hid (L4.out.1.keep hf)
              clear hf
              go_wp2_with fail
              go_ret
              exact ⟨rfl, L5.out.below⟩
          · clear hit w1 wk b10 b11 b20 b21 hr hn1 hn2 hlen hin hig hi hi0
            go_wp2_with fail
            refine (awake_any _).mono ?_
            rintro e w5 ⟨rfl, hf⟩
            have L5 := Lib.hid (L4.out.1.keep hf)
            clear hf
            go_wp2_with fail
            go_ret
            exact ⟨rfl, L5.out.below⟩

set_option maxRecDepth 100000 in
theorem lifted (os : Os) (started : os.Started) (H : Type) (enc : TypeId × Value → H) :
    ReturnsInHanded {} Try.checked os 6 .any (Rows.heapHandleLookupSpec.pre6 enc Try.prog Try.f6 Rows.heapHandleLookupRow.domain false) (Rows.heapHandleLookupSpec.post enc Try.prog Try.f6 false true false false) := by
  refine returnsInHanded_of_change (C := Try.checked) own started (by kernel_rfl) Try.func6
    (ChangeSpec.witness6 (enc := enc) (C := Try.checked) false ⟨#[], #[.slice none 0 0, .int .i64 0, .int .i64 0], []⟩ 8 (by kernel_rfl) (by kernel_rfl) (by kernel_rfl) (by kernel_rfl)) ?_
  intro W base args ds gs before hval0 hW hcnd _
  have hval : ∀ (j : Nat) t v, Try.f6.params[j]? = some t → args[j]? = some v → Value.okWide Try.prog W .any base t v := hval0
  have hW' := hW
  obtain ⟨p, q, hA0, hV, rfl, hfz, hnd⟩ := hW
  have hA : DataW.TrodAll enc Try.prog W 0 (fun _ => true) true Try.f6.params.toList args.toList ds p := hA0
  rw [Try.params6] at hA hval
  obtain ⟨v0, vs0, d0, ds0, p0, q0, hargs, rfl, rfl, h0, r0⟩ := trodAll_cons hA
  obtain ⟨v1, vs1, d1, ds1, p1, q1, rfl, rfl, rfl, h1, r1⟩ := trodAll_cons r0
  obtain ⟨v2, vs2, d2, ds2, p2, q2, rfl, rfl, rfl, h2, r2⟩ := trodAll_cons r1
  obtain ⟨rfl, rfl, rfl⟩ := trodAll_nil r2
  obtain rfl : args = #[v0, v1, v2] := by cases args; simp_all
  obtain ⟨rfl, rfl⟩ := trodVars_none hV
  obtain ⟨a0, len0, cap0, rfl⟩ := okWide_slice Try.underlying51 (hval 0 51 v0 rfl rfl)
  have k0 := h0
  have lt0 : ∀ x ∈ p0, x.block < W.heap.size := by obtain ⟨m, hm⟩ := k0; exact DataW.trod_lt m _ _ _ hm
  obtain ⟨z0, w0⟩ : ∃ zs, IsRow .u64 W a0 len0 cap0 zs := by
    obtain ⟨fuel, hf⟩ := h0
    rcases open_ints Try.underlying51 Try.underlying29 (by kernel_rfl) hf with ⟨hcs, _⟩ | ⟨x, l, c, zs, hcs, _, hl, hm, hz, _, hcell, hwz⟩
    · simp [Value.cells] at hcs
      obtain ⟨rfl, rfl, rfl⟩ := hcs
      exact ⟨[], .inl ⟨rfl, rfl, rfl, rfl⟩⟩
    · simp [Value.cells] at hcs
      obtain ⟨rfl, rfl, rfl⟩ := hcs
      exact ⟨zs, .inr ⟨_, rfl, hl, hm, by simpa using hz, hcell, hwz⟩⟩
  obtain ⟨a1, rfl, rfl, rfl, w1⟩ := open_int Try.underlying3 (hval 1 3 v1 rfl rfl) h1
  obtain ⟨a2, rfl, rfl, rfl, w2⟩ := open_int Try.underlying3 (hval 2 3 v2 rfl rfl) h2
  clear hA0 hval0
  refine (walk a0 len0 cap0 z0 a1 a2 W w0 w1 w2).mono fun e W' ⟨he, bel⟩ => ?_
  subst he
  exact ⟨_, rfl, _, _, _, [], _, [], hW', trodAll_mk1 (shut_bool Try.underlying4 _), (trodAll_cons_mk (Below.trod laidOut (by kernel_rfl) (of_decide_eq_true (by kernel_rfl)) k0 bel lt0) (trodAll_cons_mk (shut_int Try.underlying3 w1) (trodAll_cons_mk (shut_int Try.underlying3 w2) trodAll_mk0))), rfl, bel.frame _, fun h => by cases h⟩

theorem over : Rows.heapHandleLookupRow.holds Try.pinned (OpenSpec.ofChange Rows.heapHandleLookupSpec) :=
  OpenClaim.holds_of_wide 6 Try.f6 rfl rfl rfl rfl rfl rfl rfl ⟨rfl, rfl, rfl, rfl, rfl⟩ rfl rfl rfl rfl rfl (by kernel_rfl) Try.func6 (by kernel_rfl)
    (of_decide_eq_true (by kernel_rfl)) (by unfold Func.isWrapper; first | (rw [if_pos (by decide +kernel)]; kernel_rfl) | (rw [if_neg (by decide +kernel)]; exact ⟨rfl, rfl⟩))
    (fun os started H enc _ => lifted os started H enc)

end Go.Proofs.Ytbobokhlcbojkaa.heapHandleLookup

namespace Go.Proofs.Ytbobokhlcbojkaa
/-- The statement. -/
theorem heapHandleLookup_holds : Rows.HeapHandleLookupSaid := heapHandleLookup.over
#print axioms heapHandleLookup_holds
end Go.Proofs.Ytbobokhlcbojkaa
