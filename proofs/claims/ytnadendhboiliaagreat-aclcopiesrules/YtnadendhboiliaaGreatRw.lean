/-
  CONTRACT of awake, over this seat's translation: the fixed example gives what it should.
  Conditions: none.
-/
import Derived.Test.YtnadendhboiliaaGreatRv
namespace Go.Proofs.YtnadendhboiliaaGreat
open Go.ChangeShapes Go.WideShapes Go.ChangeAt Go.RowKit
set_option linter.unusedVariables false

theorem law_build_onP {P : Program} (hP : P = Tryz.prog) {ops : Array Oper} {rest : List Oper} {o : Oper} {a : Act} {w : World} {Q : Exit → Act → World → Prop} (hg : Region.wanted o (yielded ops a.tmps) = true) (t : TypeId) (parts : Array (Nat × Operand)) (ho : o.op = .build t parts)
    (vs : List (Nat × Value)) (hvs : (parts.toList.map fun (p : Nat × Operand) => (p.1, a.eval p.2)) = vs) (C : Array Value) (hb : Tryz.prog.built t vs = some C)
    (h : wpList P ops Q rest (a.put o.dst (.agg C)) w) : wpList P ops Q (o :: rest) a w := by
  subst hP
  refine wpList_step fun K hK => ?_
  rw [if_pos hg]
  have h2 : (parts.map fun (i, x) => (i, a.eval x)).toList = vs := by rw [Array.toList_map]; exact hvs
  subst h2
  unfold Oper.wp execOp
  simp only [ho, Sem.run_bind, run_build w t _ C hb, Result.andThen_ok]
  exact hK _ _ h
/-- New at valid rules. -/
theorem new_yes (L : List Ru) (n : Nat) (hn : L.length = n) (hv : vRs L = true) (a : Option Addr) (cp : Nat) (w : World) (hr : RowR w a L) :
    Calls Tryz.prog 6 #[.slice a n cp] w fun e w' => (∃ x tb ra rc T X, e = .returned (.tuple #[.pointer (some ⟨x, 0, none⟩), .int .i64 0]) ∧ Inc w.heap.size w' x L L.length tb ra rc T X) ∧ Fr No w w' := by
  refine (new_any L n hn a cp w hr).mono ?_
  rintro e w' ⟨hf, ⟨-, h⟩ | ⟨h, -⟩⟩
  · exact ⟨h, hf⟩
  · rw [hv] at h; cases h
theorem new_no (L : List Ru) (n : Nat) (hn : L.length = n) (hv : vRs L = false) (a : Option Addr) (cp : Nat) (w : World) (hr : RowR w a L) :
    Calls Tryz.prog 6 #[.slice a n cp] w fun e w' => e = .returned (.tuple #[.pointer none, .int .i64 1]) ∧ Fr No w w' := by
  refine (new_any L n hn a cp w hr).mono ?_
  rintro e w' ⟨hf, ⟨h, -⟩ | ⟨-, h⟩⟩
  · rw [hv] at h; cases h
  · exact ⟨h, hf⟩

set_option maxHeartbeats 8000000 in
set_option maxRecDepth 100000 in
theorem awake_any (w : World) : Calls Tryz.prog 11 #[] w fun e w' => e = .returned (.bool true) ∧ Fr No w w' := by
  obtain ⟨Z, hZ⟩ : ∃ Z : Array Value, noP.toArray = Z := ⟨_, rfl⟩
  have v28 := zero29
  rw [hZ] at v28
  have hZs : Z.size = 18 := by rw [← hZ]; rfl
  obtain ⟨P1, hP1, -, -, hP1s, -, hP1o⟩ := pfx_letter pE1.b pE1.xs pE1.n (v4_bytes (by decide) (by decide) (by decide) (by decide))
  obtain ⟨P2, hP2, -, -, hP2s, -, hP2o⟩ := pfx_letter pE2.b pE2.xs pE2.n (v4_bytes (by decide) (by decide) (by decide) (by decide))
  have HPA := Lib.hid parseE1
  have HPB := Lib.hid parseE2
  rw [hP1] at HPA
  rw [hP2] at HPB
  obtain ⟨R1, hR1⟩ : ∃ R, (ruC rE1).toArray = R := ⟨_, rfl⟩
  obtain ⟨R2, hR2⟩ : ∃ R, (ruC rE2).toArray = R := ⟨_, rfl⟩
  obtain ⟨R3, hR3⟩ : ∃ R, (ruC rE3).toArray = R := ⟨_, rfl⟩
  obtain ⟨R4, hR4⟩ : ∃ R, (ruC rF).toArray = R := ⟨_, rfl⟩
  obtain ⟨FE, hFE⟩ : ∃ F, (flatR LE).toArray = F := ⟨_, rfl⟩
  obtain ⟨FF, hFF⟩ : ∃ F, (flatR LF).toArray = F := ⟨_, rfl⟩
  have D1 := Lib.hid be1
  have D2 := Lib.hid be2
  have D3 := Lib.hid be3
  have D4 := Lib.hid bf1
  have D5 := Lib.hid fillE
  have D6 := Lib.hid fillF
  rw [hP1, hR1] at D1
  rw [hP2, hR2] at D2
  rw [hR3] at D3
  rw [hR4] at D4
  rw [hR1, hR2, hR3, hFE] at D5
  rw [hR4, hFF] at D6
  have HNE : Hid (∀ (w' : World) (g : Nat), w'.heap[g]? = some (.cells FE 31 (0, 0)) → Calls Tryz.prog 6 #[.slice (some ⟨g, 0, none⟩) 3 3] w' fun e w'' => (∃ x tb ra rc T X, e = .returned (.tuple #[.pointer (some ⟨x, 0, none⟩), .int .i64 0]) ∧ Inc w'.heap.size w'' x LE LE.length tb ra rc T X) ∧ Fr No w' w'') := fun w' g h => new_yes LE 3 rfl ex0 _ 3 w' (rowR_block okLE (by rw [hFE]; exact h))
  have HNF : Hid (∀ (w' : World) (g : Nat), w'.heap[g]? = some (.cells FF 31 (0, 0)) → Calls Tryz.prog 6 #[.slice (some ⟨g, 0, none⟩) 1 1] w' fun e w'' => e = .returned (.tuple #[.pointer none, .int .i64 1]) ∧ Fr No w' w'') := fun w' g h => new_no LF 1 rfl ex0f _ 1 w' (rowR_block okLF (by rw [hFF]; exact h))
  obtain ⟨A1, hA1⟩ : ∃ A, (adr false xE1).toArray = A := ⟨_, rfl⟩
  obtain ⟨A2, hA2⟩ : ∃ A, (adr false xE2).toArray = A := ⟨_, rfl⟩
  obtain ⟨TG, hTG⟩ : ∃ A, (tgt (bs []) false xE1 443).toArray = A := ⟨_, rfl⟩
  have D8 := Lib.hid be8
  rw [hA1, hTG] at D8
  have HV1 : Hid (∀ w', Calls Tryz.prog 27 #[.int .u8 8, .int .u8 1, .int .u8 1, .int .u8 1] w' fun e w'' => e = .returned (.agg A1) ∧ Fr No w' w'') := fun w' => by rw [← hA1]; exact v4_ref 8 1 1 1 w'
  have HV2 : Hid (∀ w', Calls Tryz.prog 27 #[.int .u8 8, .int .u8 8, .int .u8 1, .int .u8 1] w' fun e w'' => e = .returned (.agg A2) ∧ Fr No w' w'') := fun w' => by rw [← hA2]; exact v4_ref 8 8 1 1 w'
  have HE1 := Lib.hid (fun (n0 : Nat) (w : World) (x tb : Nat) (ra : Option Addr) (rc : Nat) (T : List (Px × Value)) (X : Nat → Prop) (h : Inc n0 w x LE LE.length tb ra rc T X) => allowa_any n0 w x LE tb ra rc T X h (by decide) false xE1 xE1_bytes 443)
  have HE2 := Lib.hid (fun (n0 : Nat) (w : World) (x tb : Nat) (ra : Option Addr) (rc : Nat) (T : List (Px × Value)) (X : Nat → Prop) (h : Inc n0 w x LE LE.length tb ra rc T X) => allowa_any n0 w x LE tb ra rc T X h (by decide) false xE2 xE2_bytes 443)
  have HE3 := Lib.hid (fun (n0 : Nat) (w : World) (x tb : Nat) (ra : Option Addr) (rc : Nat) (T : List (Px × Value)) (X : Nat → Prop) (h : Inc n0 w x LE LE.length tb ra rc T X) => allowa_any n0 w x LE tb ra rc T X h (by decide) false xE1 xE1_bytes 80)
  have HE4 := Lib.hid (fun (n0 : Nat) (w : World) (x tb : Nat) (ra : Option Addr) (rc : Nat) (T : List (Px × Value)) (X : Nat → Prop) (h : Inc n0 w x LE LE.length tb ra rc T X) => match_any n0 w x LE tb ra rc T X h (by decide) false xE2 xE2_bytes 443)
  have HE5 : Hid (∀ (n0 : Nat) (w : World) (x tb : Nat) (ra : Option Addr) (rc : Nat) (T : List (Px × Value)) (X : Nat → Prop) (h : Inc n0 w x LE LE.length tb ra rc T X), Calls Tryz.prog 14 #[.pointer (some ⟨x, 0, none⟩), .string ⟨#[103, 111, 111, 100, 46, 111, 114, 103]⟩, .int .i64 80] w fun e w' => e = .returned (.bool true) ∧ Fr No w w') := fun n0 w x tb ra rc T X h => by
    have h1 := allown_any n0 w x LE tb ra rc T X h (by decide) nGood 80
    rw [ex5] at h1
    exact h1
  have HE6 : Hid (∀ (n0 : Nat) (w : World) (x tb : Nat) (ra : Option Addr) (rc : Nat) (T : List (Px × Value)) (X : Nat → Prop) (h : Inc n0 w x LE LE.length tb ra rc T X), Calls Tryz.prog 14 #[.pointer (some ⟨x, 0, none⟩), .string ⟨#[97, 46, 98, 97, 100, 46, 111, 114, 103]⟩, .int .i64 80] w fun e w' => e = .returned (.bool false) ∧ Fr No w w') := fun n0 w x tb ra rc T X h => by
    have h1 := allown_any n0 w x LE tb ra rc T X h (by decide) nABad 80
    rw [ex6] at h1
    exact h1
  have HE7 : Hid (∀ (n0 : Nat) (w : World) (x tb : Nat) (ra : Option Addr) (rc : Nat) (T : List (Px × Value)) (X : Nat → Prop) (h : Inc n0 w x LE LE.length tb ra rc T X), Calls Tryz.prog 29 #[.pointer (some ⟨x, 0, none⟩), .string ⟨#[97, 46, 98, 97, 100, 46, 111, 114, 103]⟩, .int .i64 80] w fun e w' => e = .returned (.int .i64 2) ∧ Fr No w w') := fun n0 w x tb ra rc T X h => by
    have h1 := matchn_any n0 w x LE tb ra rc T X h (by decide) nABad 80
    rw [ex7] at h1
    exact h1
  have HE8 := Lib.hid (fun (n0 : Nat) (w : World) (x tb : Nat) (ra : Option Addr) (rc : Nat) (T : List (Px × Value)) (X : Nat → Prop) (h : Inc n0 w x LE LE.length tb ra rc T X) => allowt_any n0 w x LE tb ra rc T X h (by decide) [] false xE1 443 xE1_bytes)
  rw [ex1, hA1] at HE1
  rw [ex2, hA2] at HE2
  rw [ex3, hA1] at HE3
  rw [ex4, hA2] at HE4
  rw [ex8, hTG] at HE8
  clear hZ hP1 hP2 hR1 hR2 hR3 hR4 hFE hFF hA1 hA2 hTG
  go_enter Tryz.func11, Tryz.ntmps11
  have t3 := Tryz.underlying3
  have u3 := Tryz.runUnderlying3
  have g3 := Tryz.isAgg3
  have z3 := Tryz.sizeOf3
  have t4 := Tryz.underlying4
  have u4 := Tryz.runUnderlying4
  have g4 := Tryz.isAgg4
  have z4 := Tryz.sizeOf4
  have t5 := Tryz.underlying5
  have u5 := Tryz.runUnderlying5
  have g5 := Tryz.isAgg5
  have z5 := Tryz.sizeOf5
  have t9 := Tryz.underlying9
  have u9 := Tryz.runUnderlying9
  have g9 := Tryz.isAgg9
  have z9 := Tryz.sizeOf9
  have t22 := Tryz.underlying22
  have u22 := Tryz.runUnderlying22
  have g22 := Tryz.isAgg22
  have z22 := Tryz.sizeOf22
  have t25 := Tryz.underlying25
  have u25 := Tryz.runUnderlying25
  have g25 := Tryz.isAgg25
  have z25 := Tryz.sizeOf25
  have t29 := Tryz.underlying29
  have u29 := Tryz.runUnderlying29
  have g29 := Tryz.isAgg29
  have z29 := Tryz.sizeOf29
  have t31 := Tryz.underlying31
  have u31 := Tryz.runUnderlying31
  have g31 := Tryz.isAgg31
  have z31 := Tryz.sizeOf31
  have t32 := Tryz.underlying32
  have u32 := Tryz.runUnderlying32
  have g32 := Tryz.isAgg32
  have z32 := Tryz.sizeOf32
  have t33 := Tryz.underlying33
  have u33 := Tryz.runUnderlying33
  have g33 := Tryz.isAgg33
  have z33 := Tryz.sizeOf33
  have t66 := Tryz.underlying66
  have u66 := Tryz.runUnderlying66
  have g66 := Tryz.isAgg66
  have z66 := Tryz.sizeOf66
  have c6 := Tryz.call6
  have c28 := Tryz.call28
  have c12 := Tryz.call12
  have c29 := Tryz.call29
  have c14 := Tryz.call14
  have c30 := Tryz.call30
  have c26 := Tryz.call26
  have c27 := Tryz.call27
  have mixed : Tryz.prog.follows .mixedOrders = true := by kernel_rfl
  obtain ⟨k40, hk40⟩ : ∃ k, k = 18 := ⟨_, rfl⟩
  rw [← hk40] at z29
  have nk40 : ¬ k40 = 0 := by omega
  have HK29 := Lib.hid hk40
  have hP : Tryz.prog = PD := rfl
  rw [hP] at t3 u3 g3 z3 t4 u4 g4 z4 t5 u5 g5 z5 t9 u9 g9 z9 t22 u22 g22 z22 t25 u25 g25 z25 t29 u29 g29 z29 t31 u31 g31 z31 t32 u32 g32 z32 t33 u33 g33 z33 t66 u66 g66 z66 c6 c28 c12 c29 c14 c30 c26 c27 mixed v28 ⊢
  have HP := Lib.hid hP.symm
  clear hP hk40
  have hZk : Z.size = k40 := by rw [HK29.out]; exact hZs
  have hP1k : P1.size = k40 := by rw [HK29.out]; exact hP1s
  have hP2k : P2.size = k40 := by rw [HK29.out]; exact hP2s
  clear hZs hP1s hP2s
  go_upto_region 2 with (first | (go_at_call 26; go_loud (refine (at_prog HP.out (HPA.out _)).mono ?_; rintro e w1 ⟨rfl, hf1⟩; obtain ⟨y1, hst1, hyb1, hyf1⟩ := store_all (P := PD) P1.toList (heap_alloc_new w1 (.cells Z 29)) (by rw [Array.length_toList, hP1k, hZk]) hP1o)) | fail)
  have hF1 : Fr No w y1 := (hf1.trans (Fr.alloc No _ _)).ofNew hyf1 fun k hk => .inr (by rw [hk]; exact hf1.size)
  obtain ⟨b1, hb1⟩ : ∃ b, w1.heap.size = b := ⟨_, rfl⟩
  rw [hb1] at hyb1 ⊢
  have HB1 : Hid (Fr No w y1 ∧ y1.heap[b1]? = some (.cells P1 29 (0, 0))) := ⟨hF1, by simpa using hyb1⟩
  clear hst1 hyb1 hyf1 hF1 hb1 hf1
  go_upto_region 3 with (first | (go_at_call 26; go_loud (refine (at_prog HP.out (HPB.out _)).mono ?_; rintro e w2 ⟨rfl, hf2⟩; obtain ⟨y2, hst2, hyb2, hyf2⟩ := store_all (P := PD) P2.toList (heap_alloc_new w2 (.cells Z 29)) (by rw [Array.length_toList, hP2k, hZk]) hP2o)) | fail)
  have hF2 : Fr No y1 y2 := (hf2.trans (Fr.alloc No _ _)).ofNew hyf2 fun k hk => .inr (by rw [hk]; exact hf2.size)
  obtain ⟨b2, hb2⟩ : ∃ b, w2.heap.size = b := ⟨_, rfl⟩
  rw [hb2] at hyb2 ⊢
  have HB2 : Hid (Fr No w y2 ∧ y2.heap[b2]? = some (.cells P2 29 (0, 0)) ∧ y2.heap[b1]? = some (.cells P1 29 (0, 0))) := ⟨HB1.out.1.trans hF2, by simpa using hyb2, hF2.keep HB1.out.2⟩
  clear hst2 hyb2 hyf2 hF2 hb2 hf2
  have l1 : Sem.run PD (loadCellsFrom ⟨b1, 0, none⟩ 0 k40 #[]) y2 = .ok P1 y2 := load_block HB2.out.2.2 hP1k (fun j v hv => by simpa using hv)
  have l2 : Sem.run PD (loadCellsFrom ⟨b2, 0, none⟩ 0 k40 #[]) y2 = .ok P2 y2 := load_block HB2.out.2.1 hP2k (fun j v hv => by simpa using hv)
  go_upto_region 4 with (first | (refine law_buildP HP.out rfl 31 #[(0, .const (.bool true)), (2, .tmp 18), (3, .const (.int .i64 443)), (4, .const (.int .i64 443))] rfl _ rfl R1 D1.out ?_) | (refine law_buildP HP.out rfl 31 #[(2, .tmp 20), (4, .const (.int .i64 65535))] rfl _ rfl R2 D2.out ?_) | (refine law_buildP HP.out rfl 31 #[(1, .const (.string ⟨#[98, 97, 100, 46, 111, 114, 103]⟩)), (4, .const (.int .i64 65535))] rfl _ rfl R3 D3.out ?_) | (refine law_slice30P HP.out rfl 3 _ rfl (by decide) (by decide) _ rfl FE D5.out ?_) | (go_at_call 6; go_loud (refine (at_prog HP.out (HNE.out _ _ (heap_alloc_new y2 (.cells FE 31)))).mono ?_; rintro e w3 ⟨⟨x, tb, ra, rc, T, X, rfl, hI3⟩, hf3⟩)) | fail)
  have HF3 : Hid (Fr No w w3) := (HB2.out.1.trans (Fr.alloc No y2 _)).trans hf3
  have HI3 := Lib.hid hI3
  clear hI3 hf3 l1 l2
  go_upto_region 5 with (first | (refine law_buildP HP.out rfl 31 #[(3, .const (.int .i64 2)), (4, .const (.int .i64 1))] rfl _ rfl R4 D4.out ?_) | (refine law_slice30P HP.out rfl 1 _ rfl (by decide) (by decide) _ rfl FF D6.out ?_) | (go_at_call 6; go_loud (refine (at_prog HP.out (HNF.out _ _ (heap_alloc_new w3 (.cells FF 31)))).mono ?_; rintro e w4 ⟨rfl, hf4⟩)) | fail)
  have K0 : Fr No w3 w4 := (Fr.alloc No w3 _).trans hf4
  clear hf4
  go_wp2_with (first | (go_at_call 27; ((with_reducible refine (at_prog HP.out (HV1.out _)).mono ?_); rintro e wv ⟨rfl, hv⟩; have K : Fr No w3 wv := Fr.trans (by assumption) hv; clear hv)) | (go_at_call 27; ((with_reducible refine (at_prog HP.out (HV2.out _)).mono ?_); rintro e wv ⟨rfl, hv⟩; have K : Fr No w3 wv := Fr.trans (by assumption) hv; clear hv)) | (go_at_call 12; ((with_reducible refine (at_prog HP.out (HE1.out _ _ _ _ _ _ _ _ (HI3.out.no (by assumption)))).mono ?_); rintro e wv ⟨rfl, hv⟩; have K : Fr No w3 wv := Fr.trans (by assumption) hv; clear hv)) | (go_at_call 12; ((with_reducible refine (at_prog HP.out (HE2.out _ _ _ _ _ _ _ _ (HI3.out.no (by assumption)))).mono ?_); rintro e wv ⟨rfl, hv⟩; have K : Fr No w3 wv := Fr.trans (by assumption) hv; clear hv)) | (go_at_call 12; ((with_reducible refine (at_prog HP.out (HE3.out _ _ _ _ _ _ _ _ (HI3.out.no (by assumption)))).mono ?_); rintro e wv ⟨rfl, hv⟩; have K : Fr No w3 wv := Fr.trans (by assumption) hv; clear hv)) | (go_at_call 28; ((with_reducible refine (at_prog HP.out (HE4.out _ _ _ _ _ _ _ _ (HI3.out.no (by assumption)))).mono ?_); rintro e wv ⟨rfl, hv⟩; have K : Fr No w3 wv := Fr.trans (by assumption) hv; clear hv)) | (go_at_call 14; ((with_reducible refine (at_prog HP.out (HE5.out _ _ _ _ _ _ _ _ (HI3.out.no (by assumption)))).mono ?_); rintro e wv ⟨rfl, hv⟩; have K : Fr No w3 wv := Fr.trans (by assumption) hv; clear hv)) | (go_at_call 14; ((with_reducible refine (at_prog HP.out (HE6.out _ _ _ _ _ _ _ _ (HI3.out.no (by assumption)))).mono ?_); rintro e wv ⟨rfl, hv⟩; have K : Fr No w3 wv := Fr.trans (by assumption) hv; clear hv)) | (go_at_call 29; ((with_reducible refine (at_prog HP.out (HE7.out _ _ _ _ _ _ _ _ (HI3.out.no (by assumption)))).mono ?_); rintro e wv ⟨rfl, hv⟩; have K : Fr No w3 wv := Fr.trans (by assumption) hv; clear hv)) | (go_at_call 30; ((with_reducible refine (at_prog HP.out (HE8.out _ _ _ _ _ _ _ _ (HI3.out.no (by assumption)))).mono ?_); rintro e wv ⟨rfl, hv⟩; have K : Fr No w3 wv := Fr.trans (by assumption) hv; clear hv)) | (refine law_build_onP HP.out (by rfl) 66 #[(1, .tmp 80), (2, .const (.int .i64 443))] rfl _ rfl TG D8.out ?_) | fail)
  go_ret
  exact ⟨rfl, HF3.out.trans (by assumption)⟩
end Go.Proofs.YtnadendhboiliaaGreat
