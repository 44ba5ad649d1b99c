/-
  The law HeapPopsInOrder returns true for every list of due times, and changes nothing that was in memory before.
  Conditions: none beyond the row's own.
-/
import Derived.Test.YtbobokhlcbojkaaPop
import Derived.WalkKit
import Derived.ProofKit
import Derived.OpenShut
import Derived.ShutString
import Derived.ChangeOld
import Derived.Below
namespace Go.Proofs.Ytbobokhlcbojkaa.heapPopsInOrder
open Go.ChangeShapes Go.WideShapes Go.ChangeAt Go.RowKit
open Go.ChangeMaps (open_string shut_string)
set_option linter.unusedVariables false

theorem own : ownKnob Try.prog.godebug = none := by kernel_rfl
theorem laidOut : laidOutB Try.prog = true := by kernel_rfl

set_option maxHeartbeats 8000000 in
set_option maxRecDepth 100000 in
theorem walk (a0 : Option Addr) (len0 cap0 : Nat) (z0 : List Int) (w : World) (w0 : IsRow .u64 w a0 len0 cap0 z0) :
    Calls Try.prog 5 #[.slice a0 len0 cap0] w fun e w' => e = .returned (.bool true) ∧ Below w.heap.size w w' := by
  obtain ⟨z, hz⟩ : ∃ z : Nat → Int, z = fun i => z0.getD i 0 := ⟨_, rfl⟩
  have HI : Hid (InRow w a0 len0 z) := by rw [hz]; exact w0.row
  have hlen := HI.out.1
  clear hz w0
  obtain ⟨n, hn1, hn2, hn3⟩ : ∃ n : Nat, n ≤ len0 ∧ n ≤ 90 ∧ (n : Int) = min (len0 : Int) 90 := ⟨min len0 90, by omega, by omega, by omega⟩
  have HN3 := Lib.hid hn3
  clear hn3
  go_enter Try.func5, Try.ntmps5
  go_wp2_with fail
  refine (I.new_any _).mono ?_
  rintro e w1 ⟨hb, mb, rfl, h1, h2, h3, h4⟩
  have L1 := Lib.hid (Live.born h1 (Fr.refl No w) h2 h3 h4)
  clear h1 h2 h3 h4
  go_wp2_with fail
  rw [← HN3.out]
  go_loopg [5] (n + 1) (fun g s wr => ∃ (i : Nat) (sv : Value) (A : List Ent), s = .int .i64 i ∧ i ≤ n ∧ n - i < g ∧ Hid (Live I.V 75 80 w wr hb mb sv A i ∧ A.Perm (pushed z mkI i)))
  case atStart => exact ⟨0, _, [], by go_num, by omega, by omega, L1.out, List.Perm.refl _⟩
  case round =>
    obtain ⟨i, sv, A, rfl, hin, hig, HR⟩ := hrel
    clear L1
    by_cases hi : i < n
    · obtain ⟨⟨b, off, rfl, c0⟩, hd⟩ := HI.out.2 i (by omega)
      have c1 : wr.cell? ⟨b, off + i, none⟩ = some (.int .u64 (z i)) := by
        have hlt : b < w.heap.size := block_lt_of_cell c0
        exact (World.cell?_of_block (a := ⟨b, off + i, none⟩) (HR.out.1.fr.block b hlt (fun h => h))).trans c0
      have p1 : (0 : Int) ≤ (i : Int) := by omega
      have p2 : (i : Int) < (n : Int) := by omega
      have p3 : (i : Int) < (len0 : Int) := by omega
      clear c0
      go_wp2_with fail
      refine (I.push_any hb mb sv A _ (z i) i _ HR.out.1.heap HR.out.1.ord (by rw [HR.out.2.length_eq, pushed_length]; omega) (by omega) hd).mono ?_
      rintro e w2 ⟨rfl, sv2, A2, h1, h2, h3, h4, h5⟩
      have L2 := Lib.hid (And.intro (HR.out.1.step h1 h3 h4 h5) h2)
      clear h1 h2 h3 h4 h5
      go_wp2_with fail
      go_roundg (n - i)
      case measure => exact hig
      case rel => exact ⟨i + 1, sv2, A2, by go_num, by omega, by omega, by simpa using L2.out.1, pushed_succ L2.out.2 HR.out.2⟩
    · obtain rfl : i = n := by omega
      have p2 : ¬ ((i : Int) < (i : Int)) := by omega
      have hAl : Hid (A.length = i) := by have h := HR.out.2.length_eq; rw [pushed_length] at h; exact h
      go_wp2_with fail
      refine (I.handles_any hb mb sv A _ _ HR.out.1.heap).mono ?_
      rintro e w2 ⟨rb, S, rfl, h1, h2, h3, h4, h5⟩
      rw [hAl.out] at h4 ⊢
      have L2 := Lib.hid (And.intro (HR.out.1.keep h5) (And.intro h2 (And.intro h3 (And.intro h4 h1))))
      have hown : ∀ k, Own hb mb sv k → k ≠ rb := fun k hk e => by
        have := HR.out.1.heap.own_lt hk
        have := HR.out.1.fr.size
        omega
      clear h1 h2 h3 h4 h5
      have HOW := Lib.hid hown
      clear hown
      go_wp2_with fail
      go_loopg [7, 8, 9] (i + 1) (fun g sw se si wr => ∃ (j : Nat) (was elder : Int) (sv' : Value) (B : List Ent), sw = .int .u64 was ∧ se = .int .i64 elder ∧ si = .int .i64 j ∧ j ≤ i ∧ i - j < g ∧
        Hid (Live I.V 75 80 w wr hb mb sv' B i ∧ B.Perm (S.drop j) ∧ IdRow wr rb i S ∧ sv'.ownBlock = sv.ownBlock ∧ (j = 0 → was = 0) ∧ (∀ (k : Nat) (s : Ent), j = k + 1 → S[k]? = some s → was = s.due ∧ elder = s.id)))
      case atStart => exact ⟨0, 0, 0, sv, A, by go_num, by go_num, by go_num, by omega, by omega, L2.out.1, L2.out.2.1.symm, L2.out.2.2.2.1, rfl, fun _ => rfl, fun k s h _ => by omega⟩
      case round =>
        obtain ⟨j, was, elder, sv', B, rfl, rfl, rfl, hji, hjg, HL⟩ := hrel
        have hSl : Hid (S.length = i) := L2.out.2.1.length_eq.trans hAl.out
        by_cases hj : j < i
        · obtain ⟨s, gs⟩ : ∃ s, S[j]? = some s := ⟨_, List.getElem?_eq_getElem (by have := hSl.out; omega)⟩
          obtain ⟨q, hq, rfl⟩ := pushed_mem (HR.out.2.mem_iff.1 (L2.out.2.1.mem_iff.1 (List.mem_of_getElem? gs)))
          obtain ⟨e0, g0⟩ : ∃ e, B[0]? = some e := ⟨_, List.getElem?_eq_getElem (by rw [HL.out.2.1.length_eq, List.length_drop, hSl.out]; omega)⟩
          have hdrop := drop_cons gs
          have hsrt : (ent z mkI q :: S.drop (j + 1)).Pairwise (fun a b => ¬ b.lt a) := by rw [← hdrop]; exact L2.out.2.2.1.sublist (List.drop_sublist _ _)
          obtain rfl := first_is HL.out.1.heap HL.out.1.ord (by rw [← hdrop]; exact HL.out.2.1) hsrt g0
          have hnot : j = 0 ∨ ¬ (z q < was ∨ (z q = was ∧ (q : Int) + 1 < elder)) := by
            rcases Nat.eq_zero_or_pos j with h | h
            · exact .inl h
            · right
              obtain ⟨k, rfl⟩ : ∃ k, j = k + 1 := ⟨j - 1, by omega⟩
              obtain ⟨t, gt⟩ : ∃ t, S[k]? = some t := ⟨_, List.getElem?_eq_getElem (by have := hSl.out; omega)⟩
              obtain ⟨rfl, rfl⟩ := HL.out.2.2.2.2.2 k t rfl gt
              exact sorted_next L2.out.2.2.1 gt gs
          have hwas0 := HL.out.2.2.2.2.1
          have crb := HL.out.2.2.1.cell gs
          obtain ⟨⟨b, off, rfl, c0⟩, hd⟩ := HI.out.2 q (by omega)
          have hbl : b < w.heap.size := block_lt_of_cell c0
          have HG := Lib.hid (And.intro gs (And.intro g0 (And.intro hdrop (And.intro c0 hbl))))
          have HC := Lib.hid crb
          have HNOT := Lib.hid (And.intro hnot hwas0)
          clear gs g0 hdrop hsrt c0 crb hbl hnot hwas0
          have p1 : (0 : Int) ≤ (j : Int) := by omega
          have p2 : (j : Int) < (i : Int) := by omega
          have p3 : (0 : Int) ≤ (q : Int) := by omega
          have p4 : (q : Int) < (len0 : Int) := by omega
          have p5 : ((q : Int) + 1 - 1) = (q : Int) := by omega
          go_wp2_with fail
          refine (I.pop_some hb mb sv' B _ _ _ HL.out.1.heap HL.out.1.ord HG.out.2.1).mono ?_
          rintro e w3 ⟨rfl, sv3, A3, h1, h2, h3, h4, h5⟩
          have hL3 := HL.out.1.same h1 h3 h4 h5
          have c3 : w3.cell? ⟨b, off + q, none⟩ = some (.int .u64 (z q)) := (World.cell?_of_block (a := ⟨b, off + q, none⟩) (hL3.fr.block b HG.out.2.2.2.2 (fun h => h))).trans HG.out.2.2.2.1
          have hrb3 : w3.heap[rb]? = wr.heap[rb]? := h4.block rb HL.out.2.2.1.lt (fun hk => by
            rw [own_eq HL.out.2.2.2.1] at hk
            exact HOW.out rb hk rfl)
          have cr3 : w3.cell? ⟨rb, j, none⟩ = some (.int .i64 ((q : Int) + 1)) := (World.cell?_of_block (a := ⟨rb, j, none⟩) hrb3).trans HC.out
          have L3 := Lib.hid (And.intro hL3 (And.intro h2 (And.intro (HL.out.2.2.1.keep hrb3) (h5.trans HL.out.2.2.2.1))))
          clear h1 h2 h3 h4 h5 hL3 hrb3
          unfold ent mkI
          have hlt : ¬ (z q < was) := by
            rcases HNOT.out.1 with h | h
            · have := HNOT.out.2 h; omega
            · omega
          by_cases hj0 : j = 0
          · subst hj0
            go_wp2_with fail
            go_roundg (i - 0)
            case measure => exact hjg
            case rel => exact ⟨0 + 1, z q, (q : Int) + 1, sv3, A3, rfl, rfl, by go_num, by omega, by omega, L3.out.1, (List.perm_cons _).1 (L3.out.2.1.trans (by rw [← HG.out.2.2.1]; exact HL.out.2.1)), L3.out.2.2.1, L3.out.2.2.2, fun h => by omega, fun k s hk hs => by
                obtain rfl : k = 0 := by omega
                rw [HG.out.1] at hs
                cases hs
                exact ⟨rfl, rfl⟩⟩
          · have hj1 : (0 : Int) < (j : Int) := by omega
            by_cases hzw : z q = was
            · have hel : ¬ ((q : Int) + 1 < elder) := by
                rcases HNOT.out.1 with h | h
                · omega
                · omega
              subst hzw
              go_wp2_with fail
              go_roundg (i - j)
              case measure => exact hjg
              case rel => exact ⟨j + 1, z q, (q : Int) + 1, sv3, A3, rfl, rfl, by go_num, by omega, by omega, L3.out.1, (List.perm_cons _).1 (L3.out.2.1.trans (by rw [← HG.out.2.2.1]; exact HL.out.2.1)), L3.out.2.2.1, L3.out.2.2.2, fun h => by omega, fun k s hk hs => by
                  obtain rfl : k = j := by omega
                  rw [HG.out.1] at hs
                  cases hs
                  exact ⟨rfl, rfl⟩⟩
            · go_wp2_with fail
              go_roundg (i - j)
              case measure => exact hjg
              case rel => exact ⟨j + 1, z q, (q : Int) + 1, sv3, A3, rfl, rfl, by go_num, by omega, by omega, L3.out.1, (List.perm_cons _).1 (L3.out.2.1.trans (by rw [← HG.out.2.2.1]; exact HL.out.2.1)), L3.out.2.2.1, L3.out.2.2.2, fun h => by omega, fun k s hk hs => by
                  obtain rfl : k = j := by omega
                  rw [HG.out.1] at hs
                  cases hs
                  exact ⟨rfl, rfl⟩⟩
        · obtain rfl : j = i := by omega
          have p2 : ¬ ((j : Int) < (j : Int)) := by omega
          have hB : B = [] := by
            have h := HL.out.2.1
            rw [List.drop_of_length_le (by rw [hSl.out]; exact Nat.le_refl _)] at h
            exact h.eq_nil
          subst hB
          go_wp2_with fail
          refine (I.pop_empty hb mb sv' _ _ HL.out.1.heap).mono ?_
          rintro e w3 ⟨rfl, rfl⟩
          go_wp2_with fail
          refine (awake_any _).mono ?_
          rintro e w4 ⟨rfl, hf⟩
          have L4 := Lib.hid (HL.out.1.keep hf)
          clear hf
          go_wp2_with fail
          refine (I.len_any hb mb sv' [] _ _ L4.out.heap).mono ?_
          rintro e w5 ⟨rfl, rfl⟩
          go_wp2_with fail
          go_ret
          exact ⟨rfl, L4.out.below⟩

set_option maxRecDepth 100000 in
theorem lifted (os : Os) (started : os.Started) (H : Type) (enc : TypeId × Value → H) :
    ReturnsInHanded {} Try.checked os 5 .any (Rows.heapPopsInOrderSpec.pre6 enc Try.prog Try.f5 Rows.heapPopsInOrderRow.domain false) (Rows.heapPopsInOrderSpec.post enc Try.prog Try.f5 false true false false) := by
  refine returnsInHanded_of_change (C := Try.checked) own started (by kernel_rfl) Try.func5
    (ChangeSpec.witness6 (enc := enc) (C := Try.checked) false ⟨#[], #[.slice none 0 0], []⟩ 8 (by kernel_rfl) (by kernel_rfl) (by kernel_rfl) (by kernel_rfl)) ?_
  intro W base args ds gs before hval0 hW hcnd _
  have hval : ∀ (j : Nat) t v, Try.f5.params[j]? = some t → args[j]? = some v → Value.okWide Try.prog W .any base t v := hval0
  have hW' := hW
  obtain ⟨p, q, hA0, hV, rfl, hfz, hnd⟩ := hW
  have hA : DataW.TrodAll enc Try.prog W 0 (fun _ => true) true Try.f5.params.toList args.toList ds p := hA0
  rw [Try.params5] at hA hval
  obtain ⟨v0, vs0, d0, ds0, p0, q0, hargs, rfl, rfl, h0, r0⟩ := trodAll_cons hA
  obtain ⟨rfl, rfl, rfl⟩ := trodAll_nil r0
  obtain rfl : args = #[v0] := by cases args; simp_all
  obtain ⟨rfl, rfl⟩ := trodVars_none hV
  obtain ⟨a0, len0, cap0, rfl⟩ := okWide_slice Try.underlying51 (hval 0 51 v0 rfl rfl)
  have k0 := h0
  have lt0 : ∀ x ∈ p0, x.block < W.heap.size := by obtain ⟨m, hm⟩ := k0; exact DataW.trod_lt m _ _ _ hm
  obtain ⟨z0, w0⟩ : ∃ zs, IsRow .u64 W a0 len0 cap0 zs := by
    obtain ⟨fuel, hf⟩ := h0
    rcases open_ints Try.underlying51 Try.underlying29 (by kernel_rfl) hf with ⟨hcs, _⟩ | ⟨x, l, c, zs, hcs, _, hl, hm, hz, _, hcell, hwz⟩
    · simp [Value.cells] at hcs
      obtain ⟨rfl, rfl, rfl⟩ := hcs
      exact ⟨[], .inl ⟨rfl, rfl, rfl, rfl⟩⟩
    · simp [Value.cells] at hcs
      obtain ⟨rfl, rfl, rfl⟩ := hcs
      exact ⟨zs, .inr ⟨_, rfl, hl, hm, by simpa using hz, hcell, hwz⟩⟩
  clear hA0 hval0
  refine (walk a0 len0 cap0 z0 W w0).mono fun e W' ⟨he, bel⟩ => ?_
  subst he
  exact ⟨_, rfl, _, _, _, [], _, [], hW', trodAll_mk1 (shut_bool Try.underlying4 _), (trodAll_cons_mk (Below.trod laidOut (by kernel_rfl) (of_decide_eq_true (by kernel_rfl)) k0 bel lt0) trodAll_mk0), rfl, bel.frame _, fun h => by cases h⟩

theorem over : Rows.heapPopsInOrderRow.holds Try.pinned (OpenSpec.ofChange Rows.heapPopsInOrderSpec) :=
  OpenClaim.holds_of_wide 5 Try.f5 rfl rfl rfl rfl rfl rfl rfl ⟨rfl, rfl, rfl, rfl, rfl⟩ rfl rfl rfl rfl rfl (by kernel_rfl) Try.func5 (by kernel_rfl)
    (of_decide_eq_true (by kernel_rfl)) (by unfold Func.isWrapper; first | (rw [if_pos (by decide +kernel)]; kernel_rfl) | (rw [if_neg (by decide +kernel)]; exact ⟨rfl, rfl⟩))
    (fun os started H enc _ => lifted os started H enc)

end Go.Proofs.Ytbobokhlcbojkaa.heapPopsInOrder

namespace Go.Proofs.Ytbobokhlcbojkaa
/-- The statement. -/
theorem heapPopsInOrder_holds : Rows.HeapPopsInOrderSaid := heapPopsInOrder.over
#print axioms heapPopsInOrder_holds
end Go.Proofs.Ytbobokhlcbojkaa
