/-
  CONTRACT of the generators' Rules, over this seat's translation: what the call returns is a fresh row of valid rules.
  Conditions: the list lies in a row; at most 30 of its rules are taken.
-/
import Derived.Test.YtnadendhboiliaaGreatRq
namespace Go.Proofs.YtnadendhboiliaaGreat
open Go.ChangeShapes Go.WideShapes Go.ChangeAt Go.RowKit
set_option linter.unusedVariables false

theorem fill_ru (q : Ru) (h : Bytes q.p.xs) : Instr.fill (fun i => some (i * 22, 22)) ((Array.range (1 * 22)).map ((ruC zRu).toArray[· % (ruC zRu).toArray.size]!)) [(0, .agg (ruC q).toArray)] = some (flatR [q]).toArray := by
  obtain ⟨al, sf, ⟨b, xs, n⟩, lo, hi⟩ := q
  match xs, h.1 with
  | [_, _, _, _, _, _, _, _, _, _, _, _, _, _, _, _], _ =>
    show _ = _
    kernel_rfl
theorem flatR_single (q : Ru) : flatR [q] = ruC q := by simp [flatR]
def rA4 : Ru := ⟨true, [], zP, 0, 65535⟩
def pA6 : Px := ⟨true, zeros, 0⟩
def rA6 : Ru := ⟨true, [], pA6, 0, 65535⟩
theorem ba1 : Tryz.prog.built 31 [(0, .bool true), (4, .int .i64 65535)] = some (ruC rA4).toArray := by kernel_rfl
theorem ba2 : Tryz.prog.built 25 [(0, .bool true)] = some (adr true zeros).toArray := by kernel_rfl
theorem ba3 : Tryz.prog.built 29 [(0, .agg (adr true zeros).toArray)] = some (pfx pA6.b pA6.xs pA6.n).toArray := by kernel_rfl
theorem ba4 : Tryz.prog.built 31 [(0, .bool true), (2, .agg (pfx pA6.b pA6.xs pA6.n).toArray), (4, .int .i64 65535)] = some (ruC rA6).toArray := by kernel_rfl
theorem fillA : Instr.fill (fun i => some (i * 22, 22)) ((Array.range (2 * 22)).map ((ruC zRu).toArray[· % (ruC zRu).toArray.size]!)) [(0, .agg (ruC rA4).toArray), (1, .agg (ruC rA6).toArray)] = some (flatR [rA4, rA6]).toArray := by kernel_rfl
theorem okA : okL [rA4, rA6] := fun r hr => by
  simp only [List.mem_cons, List.not_mem_nil, or_false] at hr
  rcases hr with rfl | rfl
  · exact zeros_bytes
  · exact zeros_bytes
theorem vA : ∀ r ∈ [rA4, rA6], vR r = true := by decide +kernel
theorem vRs_all {L : List Ru} (hl : L.length ≤ 32) (h : ∀ r ∈ L, vR r = true) : vRs L = true := by
  unfold vRs
  rw [decide_eq_true hl]
  simpa using h
/-- What an answer of the generator of lists of rules is. -/
def GenL (most : Nat) (w : World) (e : Ending) (w' : World) : Prop := ∃ (L : List Ru) (n : Nat) (a : Option Addr) (c : Nat), e = .returned (.slice a n c) ∧ L.length = n ∧ n ≤ most + 2 ∧ okL L ∧ vRs L = true ∧ w'.ownsRow w.heap.size 31 22 (.slice a n c) n (flatR L) ∧ Fr No w w'

set_option maxHeartbeats 8000000 in
set_option maxRecDepth 100000 in
theorem rules_gen (L0 : List Ru) (n : Nat) (hn : L0.length = n) (a : Option Addr) (cp : Nat) (w : World) (hr : RowR w a L0) (most : Nat) (hm : most ≤ 30) (all : Bool) :
    Calls Tryz.prog 4 #[.slice a n cp, .int .i64 (most : Int), .bool all] w (GenL most w) := by
  have HR0 := Lib.hid hr
  have HN := Lib.hid hn
  have D1 := Lib.hid ba1
  have D2 := Lib.hid ba2
  have D3 := Lib.hid ba3
  have D4 := Lib.hid ba4
  have HFA := Lib.hid fillA
  obtain ⟨A4, hA4⟩ : ∃ A, (ruC rA4).toArray = A := ⟨_, rfl⟩
  obtain ⟨A6, hA6⟩ : ∃ A, (ruC rA6).toArray = A := ⟨_, rfl⟩
  obtain ⟨AD, hAD⟩ : ∃ A, (adr true zeros).toArray = A := ⟨_, rfl⟩
  obtain ⟨AP, hAP⟩ : ∃ A, (pfx pA6.b pA6.xs pA6.n).toArray = A := ⟨_, rfl⟩
  rw [hA4] at D1 HFA
  rw [hA6] at D4 HFA
  rw [hAD] at D2 D3
  rw [hAP] at D3 D4
  clear hr hn hA4 hA6 hAD hAP
  go_enter Tryz.func4, Tryz.ntmps4
  have t3 := Tryz.underlying3
  have u3 := Tryz.runUnderlying3
  have g3 := Tryz.isAgg3
  have z3 := Tryz.sizeOf3
  have t4 := Tryz.underlying4
  have u4 := Tryz.runUnderlying4
  have g4 := Tryz.isAgg4
  have z4 := Tryz.sizeOf4
  have t22 := Tryz.underlying22
  have u22 := Tryz.runUnderlying22
  have g22 := Tryz.isAgg22
  have z22 := Tryz.sizeOf22
  have t25 := Tryz.underlying25
  have u25 := Tryz.runUnderlying25
  have g25 := Tryz.isAgg25
  have z25 := Tryz.sizeOf25
  have t29 := Tryz.underlying29
  have u29 := Tryz.runUnderlying29
  have g29 := Tryz.isAgg29
  have z29 := Tryz.sizeOf29
  have t31 := Tryz.underlying31
  have u31 := Tryz.runUnderlying31
  have g31 := Tryz.isAgg31
  have z31 := Tryz.sizeOf31
  have c17 := Tryz.call17
  have mixed : Tryz.prog.follows .mixedOrders = true := by kernel_rfl
  obtain ⟨k24, hk24⟩ : ∃ k, k = 17 := ⟨_, rfl⟩
  rw [← hk24] at z25
  have nk24 : ¬ k24 = 0 := by omega
  have HK25 := Lib.hid hk24
  obtain ⟨k40, hk40⟩ : ∃ k, k = 18 := ⟨_, rfl⟩
  rw [← hk40] at z29
  have nk40 : ¬ k40 = 0 := by omega
  have HK29 := Lib.hid hk40
  obtain ⟨k22, hk22⟩ : ∃ k, k = 22 := ⟨_, rfl⟩
  rw [← hk22] at z31
  have nk22 : ¬ k22 = 0 := by omega
  have HK31 := Lib.hid hk22
  have hP : Tryz.prog = PD := rfl
  rw [hP] at t3 u3 g3 z3 t4 u4 g4 z4 t22 u22 g22 z22 t25 u25 g25 z25 t29 u29 g29 z29 t31 u31 g31 z31 c17 mixed ⊢
  have HP := Lib.hid hP.symm
  clear hP hk24 hk40 hk22
  go_wp2_with fail
  go_loopg [7, 8] (most + 1) (fun g s7 s8 wr => ∃ (i : Nat) (a5 : Option Addr) (c5 : Nat), s7 = .slice a5 i c5 ∧ s8 = .int .i64 i ∧ i ≤ most ∧ most - i < g ∧ Hid (∃ L : List Ru, L.length = i ∧ okL L ∧ (∀ r ∈ L, vR r = true) ∧ wr.ownsRow w.heap.size 31 22 (.slice a5 i c5) i (flatR L) ∧ Fr No w wr))
  case atStart => exact ⟨0, none, 0, rfl, by go_num, by omega, by omega, [], rfl, (fun r hr => by cases hr), (fun r hr => by cases hr), World.ownsRow_nil _ _ _ _, Fr.refl _ _⟩
  case round =>
    obtain ⟨i, a5, c5, rfl, rfl, him, hig, HR⟩ := hrel
    obtain ⟨L, hLi, hLo, hLv, hown, hfr⟩ := HR.out
    have HL := Lib.hid (And.intro hLi (And.intro hLo (And.intro hLv (And.intro hown hfr))))
    clear HR hLi hLo hLv hown
    by_cases hlx : i < n ∧ i < most
    · obtain ⟨hlt, hlm⟩ := hlx
      obtain ⟨q, hq⟩ : ∃ q, L0[i]? = some q := ⟨_, List.getElem?_eq_getElem (by rw [HN.out]; exact hlt)⟩
      obtain ⟨b, o, rfl, hqb, hload⟩ := HR0.out.cell hq
      obtain ⟨K, hK, hKs, -⟩ := ru_letter q hqb
      have lg : Sem.run PD (loadCellsFrom ⟨b, o + i * k22, none⟩ 0 k22 #[]) wr = .ok K wr := by rw [HK31.out, ← hK]; exact (hload wr hfr).1 PD
      have HRG : Hid (∀ w', Calls Tryz.prog 17 #[.agg K] w' (GenR w')) := fun w' => by rw [← hK]; exact rule_gen q hqb w'
      have q1 : (0 : Int) ≤ (i : Int) := by omega
      have q2 : (i : Int) < (n : Int) := by omega
      have q3 : (i : Int) < (most : Int) := by omega
      clear hq hqb hload hK hKs hfr
      go_wp2_with (first | (go_at_call 17; ((with_reducible refine (at_prog HP.out (HRG.out _)).mono ?_); rintro e w3 ⟨r, hrb, hrv, rfl, hf3⟩)) | (refine law_slice30P HP.out rfl 1 #[(0, .tmp 25)] ?_ (by decide) (by decide) _ rfl _ (fill_ru r hrb) ?_; (· rfl)) | (at_builtin; go_loud (refine wpList_append_w ewR rfl (.tmp 20) (.tmp 26) rfl w.heap.size _ i (flatR L) rfl (row_frNo HL.out.2.2.2.1 (hf3.trans (Fr.alloc No w3 _))) ⟨w3.heap.size, 0, none⟩ 1 (flatR [r]) rfl (flatR_one _) (by rw [flatR_single]; exact ruC_length hrb.1) (At.block (heap_alloc_new w3 (.cells (flatR [r]).toArray 31))) (by omega) (by omega) (Nat.le_trans HL.out.2.2.2.2.size (Nat.le_trans hf3.size (Fr.alloc No w3 _).size)) ?_; intro a6 c6 w6 hown6 hg6 hat6)) | fail)
      have H6 : Hid (∃ L : List Ru, L.length = i + 1 ∧ okL L ∧ (∀ r ∈ L, vR r = true) ∧ w6.ownsRow w.heap.size 31 22 (.slice a6 (i + 1) c6) (i + 1) (flatR L) ∧ Fr No w w6) := by
        have hf : Fr No w (w3.alloc (.cells (flatR [r]).toArray 31)) := HL.out.2.2.2.2.trans (hf3.trans (Fr.alloc No w3 _))
        refine ⟨L ++ [r], by rw [List.length_append, HL.out.1]; rfl, fun u hu => ?_, fun u hu => ?_, by rw [flatR_append]; exact hown6, Fr.own_grown_w hf (row_frNo HL.out.2.2.2.1 (hf3.trans (Fr.alloc No w3 _))) (Nat.le_refl _) hg6⟩
        · rcases List.mem_append.1 hu with h | h
          · exact HL.out.2.1 u h
          · rw [List.mem_singleton.1 h]; exact hrb
        · rcases List.mem_append.1 hu with h | h
          · exact HL.out.2.2.1 u h
          · rw [List.mem_singleton.1 h]; exact hrv
      clear hown6 hg6 hat6
      go_roundg (most - i)
      case measure => exact hig
      case rel => exact ⟨i + 1, a6, c6, rfl, by go_num, by omega, by omega, H6.out⟩
    · have hx : ¬ ((i : Int) < (n : Int)) ∨ ((i : Int) < (n : Int) ∧ ¬ ((i : Int) < (most : Int))) := by omega
      have HI30 : Hid (i ≤ most ∧ i ≤ 30) := ⟨him, by omega⟩
      cases all
      · rcases hx with q1 | ⟨q1, q2⟩
        · go_wp2_with fail
          go_ret
          exact ⟨L, i, a5, c5, rfl, HL.out.1, by omega, HL.out.2.1, vRs_all (by rw [HL.out.1]; omega) HL.out.2.2.1, HL.out.2.2.2.1, HL.out.2.2.2.2⟩
        · go_wp2_with fail
          go_ret
          exact ⟨L, i, a5, c5, rfl, HL.out.1, by omega, HL.out.2.1, vRs_all (by rw [HL.out.1]; omega) HL.out.2.2.1, HL.out.2.2.2.1, HL.out.2.2.2.2⟩
      · rcases hx with q1 | ⟨q1, q2⟩
        · go_wp2_with (first | (refine law_buildP HP.out rfl 31 #[(0, .const (.bool true)), (4, .const (.int .i64 65535))] rfl _ rfl A4 D1.out ?_) | (refine law_buildP HP.out rfl 25 #[(0, .const (.bool true))] rfl _ rfl AD D2.out ?_) | (refine law_buildP HP.out rfl 29 #[(0, .tmp 31)] rfl _ rfl AP D3.out ?_) | (refine law_buildP HP.out rfl 31 #[(0, .const (.bool true)), (2, .tmp 32), (4, .const (.int .i64 65535))] rfl _ rfl A6 D4.out ?_) | (refine law_slice30P HP.out rfl 2 #[(0, .tmp 30), (1, .tmp 33)] ?_ (by decide) (by decide) _ rfl _ HFA.out ?_; (· rfl)) | (at_builtin; go_loud (refine wpList_append_many ewR rfl (.tmp 29) (.tmp 34) rfl w.heap.size _ i (flatR L) rfl (row_frNo HL.out.2.2.2.1 (Fr.alloc No wr _)) (some ⟨wr.heap.size, 0, none⟩) 2 2 (flatR [rA4, rA6]) rfl (flatR_one _) (flatR_length okA) (At.block (heap_alloc_new wr (.cells (flatR [rA4, rA6]).toArray 31))) (fun h => by cases h) (by have := HI30.out; omega) (by decide) (Nat.le_trans HL.out.2.2.2.2.size (Fr.alloc No wr _).size) ?_; intro a6 c6 w6 hown6 hg6 hat6)) | fail)
          go_ret
          refine ⟨L ++ [rA4, rA6], i + 2, a6, c6, rfl, by rw [List.length_append, HL.out.1]; rfl, by have := HI30.out; omega, fun u hu => ?_, vRs_all (by have := HI30.out; rw [List.length_append, HL.out.1]; show i + 2 ≤ 32; omega) fun u hu => ?_, by rw [flatR_append]; exact hown6, Fr.own_grown_w (HL.out.2.2.2.2.trans (Fr.alloc No wr _)) (row_frNo HL.out.2.2.2.1 (Fr.alloc No wr _)) (Nat.le_refl _) hg6⟩
          · exact (List.mem_append.1 hu).elim (HL.out.2.1 u) (okA u)
          · exact (List.mem_append.1 hu).elim (HL.out.2.2.1 u) (vA u)
        · go_wp2_with (first | (refine law_buildP HP.out rfl 31 #[(0, .const (.bool true)), (4, .const (.int .i64 65535))] rfl _ rfl A4 D1.out ?_) | (refine law_buildP HP.out rfl 25 #[(0, .const (.bool true))] rfl _ rfl AD D2.out ?_) | (refine law_buildP HP.out rfl 29 #[(0, .tmp 31)] rfl _ rfl AP D3.out ?_) | (refine law_buildP HP.out rfl 31 #[(0, .const (.bool true)), (2, .tmp 32), (4, .const (.int .i64 65535))] rfl _ rfl A6 D4.out ?_) | (refine law_slice30P HP.out rfl 2 #[(0, .tmp 30), (1, .tmp 33)] ?_ (by decide) (by decide) _ rfl _ HFA.out ?_; (· rfl)) | (at_builtin; go_loud (refine wpList_append_many ewR rfl (.tmp 29) (.tmp 34) rfl w.heap.size _ i (flatR L) rfl (row_frNo HL.out.2.2.2.1 (Fr.alloc No wr _)) (some ⟨wr.heap.size, 0, none⟩) 2 2 (flatR [rA4, rA6]) rfl (flatR_one _) (flatR_length okA) (At.block (heap_alloc_new wr (.cells (flatR [rA4, rA6]).toArray 31))) (fun h => by cases h) (by have := HI30.out; omega) (by decide) (Nat.le_trans HL.out.2.2.2.2.size (Fr.alloc No wr _).size) ?_; intro a6 c6 w6 hown6 hg6 hat6)) | fail)
          go_ret
          refine ⟨L ++ [rA4, rA6], i + 2, a6, c6, rfl, by rw [List.length_append, HL.out.1]; rfl, by have := HI30.out; omega, fun u hu => ?_, vRs_all (by have := HI30.out; rw [List.length_append, HL.out.1]; show i + 2 ≤ 32; omega) fun u hu => ?_, by rw [flatR_append]; exact hown6, Fr.own_grown_w (HL.out.2.2.2.2.trans (Fr.alloc No wr _)) (row_frNo HL.out.2.2.2.1 (Fr.alloc No wr _)) (Nat.le_refl _) hg6⟩
          · exact (List.mem_append.1 hu).elim (HL.out.2.1 u) (okA u)
          · exact (List.mem_append.1 hu).elim (HL.out.2.2.1 u) (vA u)
end Go.Proofs.YtnadendhboiliaaGreat
