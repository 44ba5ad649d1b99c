/-
  CONTRACT of BlockedPrefixes of the reference, over this seat's translation: a fresh row of the fifteen prefixes.
  Conditions: none.
-/
import Derived.Test.YtnadendhboiliaaGreatBp
import Derived.Test.YtnadendhboiliaaGreatOw
import Derived.Deep.DeepCutAuto
import Derived.Deep.CutBlock
namespace Go.Proofs.YtnadendhboiliaaGreat
open Go.ChangeShapes Go.WideShapes Go.ChangeAt Go.RowKit
set_option linter.unusedVariables false

def SL : List Value := TL.map fun t => Value.string (bs t)
theorem info9 : ∃ ie, Tryz.prog.info? 9 = some ie ∧ ie.zero = some (.string ⟨#[]⟩) ∧ ie.size = 1 := by
  obtain ⟨ie, h1, h2, h3, -⟩ := info_parts (P := Tryz.prog) (e := 9) (z := some (.string ⟨#[]⟩)) (s := 1) (b := 16) (by kernel_rfl)
  exact ⟨ie, h1, h2, h3⟩
theorem law_slice9 {ops : Array Oper} {rest : List Oper} {o : Oper} {a : Act} {w : World} {Q : Exit → Act → World → Prop} (hg : o.guard = none) (n : Nat) (parts : Array (Nat × Operand)) (ho : o.op = .buildSlice 82 n parts) (hn : n ≤ 1000) (h0 : 0 < n)
    (vs : List (Nat × Value)) (hvs : (parts.toList.map fun (p : Nat × Operand) => (p.1, a.eval p.2)) = vs) (C : Array Value)
    (hb : Instr.fill (fun i => some (i * 1, 1)) ((Array.range (n * 1)).map ((Value.string ⟨#[]⟩).cells[· % (Value.string ⟨#[]⟩).cells.size]!)) vs = some C)
    (h : wpList Tryz.prog ops Q rest (a.put o.dst (.slice (some ⟨w.heap.size, 0, none⟩) n n)) (w.alloc (.cells C 9))) : wpList Tryz.prog ops Q (o :: rest) a w := by
  obtain ⟨ie, h1, h2, h3⟩ := info9
  refine wpList_buildSlice hg 82 9 n parts ho C ie _ Tryz.underlying82 h1 h2 (by rw [h3]; omega) (by rw [h3]; omega) ?_ h
  have h2 : (parts.map fun (i, x) => (i, a.eval x)).toList = vs := by rw [Array.toList_map]; exact hvs
  rw [h2, h3]
  exact hb
def SV : List (Nat × Value) := [(0, .string (bs bt0)), (1, .string (bs bt1)), (2, .string (bs bt2)), (3, .string (bs bt3)), (4, .string (bs bt4)), (5, .string (bs bt5)), (6, .string (bs bt6)), (7, .string (bs bt7)), (8, .string (bs bt8)), (9, .string (bs bt9)), (10, .string (bs bt10)), (11, .string (bs bt11)), (12, .string (bs bt12)), (13, .string (bs bt13)), (14, .string (bs bt14))]
theorem sl_fill : Instr.fill (fun i => some (i * 1, 1)) ((Array.range (15 * 1)).map ((Value.string ⟨#[]⟩).cells[· % (Value.string ⟨#[]⟩).cells.size]!)) SV = some SL.toArray := by kernel_rfl
theorem fill_one {P : Array Value} (hP : P.size = 18) : Instr.fill (fun i => some (i * 18, 18)) ((Array.range (1 * 18)).map (noP.toArray[· % noP.toArray.size]!)) [(0, .agg P)] = some P := by
  have h := fold_set ((Array.range (1 * 18)).map (noP.toArray[· % noP.toArray.size]!)) P (by simp) hP
  simp only [Instr.fill, Value.cells, hP, Nat.zero_mul, Nat.zero_add]
  rw [if_neg (by simp)]
  have e : P.zipIdx.size = 18 := by simp [hP]
  rw [e]
  exact congrArg some h

set_option maxHeartbeats 4000000 in
set_option maxRecDepth 100000 in
theorem blocked_any (w : World) :
    Calls Tryz.prog 56 #[] w fun e w' => ∃ ad cp, e = .returned (.slice ad 15 cp) ∧ w'.ownsRow (w.heap.size + 1) 29 18 (.slice ad 15 cp) 15 (flatP PL) ∧ Fr No w w' := by
  obtain ⟨Z, hZ⟩ : ∃ Z : Array Value, noP.toArray = Z := ⟨_, rfl⟩
  have v28 := zero29
  rw [hZ] at v28
  have hZs : Z.size = 18 := by rw [← hZ]; rfl
  clear hZ
  have HSL := Lib.hid sl_fill
  go_enter Tryz.func56, Tryz.ntmps56
  have t3 := Tryz.underlying3
  have u3 := Tryz.runUnderlying3
  have g3 := Tryz.isAgg3
  have z3 := Tryz.sizeOf3
  have t4 := Tryz.underlying4
  have u4 := Tryz.runUnderlying4
  have g4 := Tryz.isAgg4
  have z4 := Tryz.sizeOf4
  have t9 := Tryz.underlying9
  have u9 := Tryz.runUnderlying9
  have g9 := Tryz.isAgg9
  have z9 := Tryz.sizeOf9
  have t25 := Tryz.underlying25
  have u25 := Tryz.runUnderlying25
  have g25 := Tryz.isAgg25
  have z25 := Tryz.sizeOf25
  have t89 := Tryz.underlying89
  have u89 := Tryz.runUnderlying89
  have g89 := Tryz.isAgg89
  have z89 := Tryz.sizeOf89
  have t29 := Tryz.underlying29
  have u29 := Tryz.runUnderlying29
  have g29 := Tryz.isAgg29
  have z29 := Tryz.sizeOf29
  have t82 := Tryz.underlying82
  have u82 := Tryz.runUnderlying82
  have g82 := Tryz.isAgg82
  have z82 := Tryz.sizeOf82
  have c26 := Tryz.call26
  have mixed : Tryz.prog.follows .mixedOrders = true := by kernel_rfl
  obtain ⟨k40, hk40⟩ : ∃ k, k = 18 := ⟨_, rfl⟩
  rw [← hk40] at z29
  have nk40 : ¬ k40 = 0 := by omega
  have HK29 := Lib.hid hk40
  have hP : Tryz.prog = PD := rfl
  rw [hP] at t3 u3 g3 z3 t4 u4 g4 z4 t9 u9 g9 z9 t25 u25 g25 z25 t89 u89 g89 z89 t29 u29 g29 z29 t82 u82 g82 z82 c26 mixed v28 ⊢
  have HP := Lib.hid hP.symm
  clear hP hk40
  have hZk : Z.size = k40 := by rw [HK29.out]; exact hZs
  clear hZs
  go_upto_region 3 with (first | (refine law_slice9 rfl 15 _ rfl (by decide) (by decide) SV rfl SL.toArray HSL.out ?_) | fail)
  obtain ⟨bw, hbw⟩ : ∃ b, w.heap.size = b := ⟨_, rfl⟩
  obtain ⟨w1, hw1⟩ : ∃ w1, w.alloc (.cells SL.toArray 9) = w1 := ⟨_, rfl⟩
  have H1 : Hid (Fr No w w1 ∧ w1.heap[bw]? = some (.cells SL.toArray 9 (0, 0)) ∧ w1.heap.size = bw + 1 ∧ w.heap.size = bw) := ⟨by rw [← hw1]; exact Fr.alloc No w _, by rw [← hw1, ← hbw]; exact heap_alloc_new w _, by rw [← hw1, ← hbw]; simp, hbw⟩
  rw [hw1, hbw]
  clear hw1 hbw HSL
  go_wp2_with fail
  go_loopg [1, 3] 17 (fun g s1 s3 wr => ∃ (i cp : Nat) (ad : Option Addr), s1 = .slice ad i cp ∧ s3 = .int .i64 i ∧ i ≤ 15 ∧ 15 - i < g ∧ Hid (wr.ownsRow (bw + 1) 29 18 (.slice ad i cp) i (flatP (PL.take i)) ∧ Fr No w1 wr))
  case atStart => exact ⟨0, 0, none, by go_num, by go_num, by omega, by omega, ⟨rfl, .inl ⟨rfl, rfl⟩⟩, Fr.refl _ _⟩
  case round =>
    obtain ⟨i, cp, ad, rfl, rfl, hi15, hig, HO⟩ := hrel
    by_cases hi : i < 15
    · obtain ⟨t, p, ht, hp, hcT, hcB, htl, hok⟩ := bl_at hi
      obtain ⟨P, hP⟩ : ∃ P, (pfx p.b p.xs p.n).toArray = P := ⟨_, rfl⟩
      have hPs : P.size = 18 := by rw [← hP, List.size_toArray]; exact pfx_length hok.1.1
      have hPk : P.size = k40 := by rw [HK29.out]; exact hPs
      have hP1 : ∀ u ∈ P.toList, u.oneCell' = true := by rw [← hP]; exact pfx_one _ _ _
      have HFO := Lib.hid (fill_one hPs)
      have HPP : Hid (∀ w', Calls Tryz.prog 26 #[.string (bs t)] w' fun e w'' => e = .returned (.tuple #[.agg P, .bool true]) ∧ Fr No w' w'') := fun w' => by
        have h := cparse_ref t (by omega) w'
        rw [hcT, hcB, hP] at h
        exact h
      obtain ⟨S, hS⟩ : ∃ S, bs t = S := ⟨_, rfl⟩
      rw [hS] at HPP
      have c1 : wr.cell? ⟨bw, i, none⟩ = some (.string S) := by
        rw [cell_of_row _ _ _ _ _ _ (HO.out.2.keep H1.out.2.1), List.getElem?_toArray, SL, List.getElem?_map, ht, ← hS]; rfl
      have p1 : (0 : Int) ≤ (i : Int) := by omega
      have p2 : (i : Int) < 15 := by omega
      have HPX : Hid ((pfx p.b p.xs p.n).toArray = P ∧ Bytes p.xs ∧ PL[i]? = some p) := ⟨hP, hok.1, hp⟩
      clear hcT hcB hok hP hp ht htl hS hPs
      go_wp2_with (first | (go_at_call 26; ((with_reducible refine (at_prog HP.out (HPP.out _)).mono ?_); rintro e w3 ⟨rfl, hf3⟩; obtain ⟨y3, hst3, hyb3, hyf3⟩ := store_all (P := PD) P.toList (heap_alloc_new w3 (.cells Z 29)) (by rw [Array.length_toList, hPk, hZk]) hP1; have K3 : Fr No wr y3 := (hf3.trans (Fr.alloc No w3 _)).ofNew hyf3 (fun k hk => .inr (by rw [hk]; exact hf3.size)); have l3 : Sem.run PD (loadCellsFrom ⟨w3.heap.size, 0, none⟩ 0 k40 #[]) y3 = .ok P y3 := load_block hyb3 hPk (fun j v hv => by simpa using hv))) | (refine law_slice28 rfl 1 #[(0, .tmp 22)] rfl (by decide) (by decide) [(0, .agg P)] rfl P HFO.out ?_) | (at_builtin; (refine wpList_append_w ewP rfl (.tmp 21) (.tmp 23) rfl (bw + 1) _ i _ rfl (row_frNo HO.out.1 (K3.trans (Fr.alloc No y3 _))) ⟨y3.heap.size, 0, none⟩ 1 (pfx p.b p.xs p.n) rfl (pfx_one _ _ _) (pfx_length HPX.out.2.1.1) (At.block (by rw [HPX.out.1]; exact heap_alloc_new y3 _)) (by omega) (by omega) (by rw [← H1.out.2.2.1]; exact Nat.le_trans HO.out.2.size (Nat.le_trans K3.size (Fr.alloc No y3 _).size)) ?_; intro a7 c7 w7 hown7 hg7 hat7; have H7 : Hid (w7.ownsRow (bw + 1) 29 18 (.slice a7 (i + 1) c7) (i + 1) (flatP (PL.take (i + 1))) ∧ Fr No w1 w7) := ⟨by rw [List.take_add_one, HPX.out.2.2, flatP_append]; simpa [flatP] using hown7, Fr.own_grown_w ((HO.out.2.trans K3).trans (Fr.alloc No y3 _)) (row_frNo HO.out.1 (K3.trans (Fr.alloc No y3 _))) (by rw [← H1.out.2.2.1]; exact Nat.le_refl _) hg7⟩; clear hown7 hg7 hat7)) | fail)
      go_roundg (15 - i)
      case measure => exact hig
      case rel => exact ⟨i + 1, c7, a7, rfl, by go_num, by omega, by omega, H7.out⟩
    · obtain rfl : i = 15 := by omega
      go_wp2_with fail
      go_ret
      exact ⟨ad, cp, rfl, by have h := HO.out.1; rw [show PL.take 15 = PL from rfl] at h; rw [H1.out.2.2.2]; exact h, H1.out.1.trans HO.out.2⟩
end Go.Proofs.YtnadendhboiliaaGreat
