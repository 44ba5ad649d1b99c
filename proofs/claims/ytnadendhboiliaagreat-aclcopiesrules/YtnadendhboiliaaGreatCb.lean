/-
  CONTRACTS of package cidr's first and of the reference's Bit, over this seat's translation: what each call returns.
  Conditions: the argument is an address.
  CONTRACTS of package cidr's PrefixOf, over this seat's translation: what the call returns.
  Conditions: the argument is an address.
  CONTRACTS of package cidr's Contains, Valid and Covers, over this seat's translation: what each call returns.
  Conditions: the arguments are addresses and prefixes.
  CONTRACTS of package cidr's Valid and Covers, over this seat's translation: what each call returns.
  Conditions: the arguments are prefixes.
-/
import Derived.Test.YtnadendhboiliaaGreatCa
import Derived.Test.YtnadendhboiliaaGreatA
namespace Go.Proofs.YtnadendhboiliaaGreat
open Go.ChangeShapes Go.WideShapes Go.ChangeAt Go.RowKit
set_option linter.unusedVariables false

set_option maxHeartbeats 2000000 in
set_option maxRecDepth 100000 in
theorem bit_ref (b : Bool) (xs : List Nat) (n : Nat) (hx : Bytes xs) (hn : (n : Int) < bitsOf b) (w : World) :
    Calls Tryz.prog 69 #[.agg (adr b xs).toArray, .int .i64 n] w fun e w' => e = .returned (.int .i64 (bitX xs n : Nat)) ∧ Fr No w w' := by
  obtain ⟨A, hA, h0, hsz, hj⟩ := adr_letter b xs hx
  rw [hA]
  clear hA
  have hl1 : Sem.run Tryz.prog (loadCellsFrom ⟨w.heap.size, 0, none⟩ 0 17 #[]) (w.alloc (.cells A 25)) = .ok A (w.alloc (.cells A 25)) := load_block (heap_alloc_new w _) hsz (fun j v hv => by simpa using hv)
  have hn16 : n / 8 < 16 := by have := bitsOf_le b; omega
  obtain ⟨x, hxn⟩ : ∃ x, xs[n / 8]? = some x := ⟨_, List.getElem?_eq_getElem (by rw [hx.1]; exact hn16)⟩
  have hx255 : x < 256 := hx.2 x (List.mem_of_getElem? hxn)
  have hc := hj _ _ hxn
  rw [show bitX xs n = x / 2 ^ (7 - n % 8) % 2 by rw [bitX, List.getD_eq_getElem?_getD, hxn]; rfl]
  have hb : ¬ bitsOf b ≤ (n : Int) := by omega
  have hn128 : n < 128 := by have := bitsOf_le b; omega
  clear hj hn
  go_enter Tryz.func69, Tryz.ntmps69
  have t3 := Tryz.underlying3
  have u3 := Tryz.runUnderlying3
  have g3 := Tryz.isAgg3
  have z3 := Tryz.sizeOf3
  have t4 := Tryz.underlying4
  have u4 := Tryz.runUnderlying4
  have g4 := Tryz.isAgg4
  have z4 := Tryz.sizeOf4
  have t5 := Tryz.underlying5
  have u5 := Tryz.runUnderlying5
  have g5 := Tryz.isAgg5
  have z5 := Tryz.sizeOf5
  have t23 := Tryz.underlying23
  have u23 := Tryz.runUnderlying23
  have g23 := Tryz.isAgg23
  have z23 := Tryz.sizeOf23
  have t25 := Tryz.underlying25
  have u25 := Tryz.runUnderlying25
  have g25 := Tryz.isAgg25
  have z25 := Tryz.sizeOf25
  have t57 := Tryz.underlying57
  have u57 := Tryz.runUnderlying57
  have g57 := Tryz.isAgg57
  have z57 := Tryz.sizeOf57
  have c60 := Tryz.call60
  have mixed : Tryz.prog.follows .mixedOrders = true := by kernel_rfl
  obtain ⟨k30, hk30⟩ : ∃ k, k = 17 := ⟨_, rfl⟩
  rw [← hk30] at z25
  have nk30 : ¬ k30 = 0 := by omega
  have HK25 := Lib.hid hk30
  have hP : Tryz.prog = PD := rfl
  rw [hP] at t3 u3 g3 z3 t4 u4 g4 z4 t5 u5 g5 z5 t23 u23 g23 z23 t25 u25 g25 z25 t57 u57 g57 z57 c60 mixed hl1 ⊢
  have HP := Lib.hid hP.symm
  clear hP hk30
  rw [← HK25.out] at hl1
  go_wp2_with fail
  refine (at_prog HP.out (bitLen_R b A h0 _)).mono ?_
  rintro e w1 ⟨rfl, hf⟩
  have HF := Lib.hid ((Fr.alloc No _ _).trans hf)
  have hcell : w1.cell? ⟨w.heap.size, 1 + n / 8, none⟩ = some (.int .u8 x) := hf.cell (by rw [cell_of_row _ _ _ _ _ _ (heap_alloc_new w _)]; exact hc)
  clear hf
  have hy : x / 2 ^ (7 - n % 8) < 256 := Nat.lt_of_le_of_lt (Nat.div_le_self _ _) hx255
  have HB := Lib.hid (bit_one hy)
  go_wp2_with fail
  go_ret
  refine ⟨?_, HF.out⟩
  have h1 := HB.out
  rw [show ((x / 2 ^ (7 - n % 8) : Nat) : Int) = (x : Int) / 2 ^ (7 - n % 8) by simp] at h1
  rw [h1]
  exact ret_int (by unfold wrap64; omega)

set_option maxHeartbeats 4000000 in
set_option maxRecDepth 100000 in
theorem first_any (b : Bool) (xs : List Nat) (n : Nat) (hx : Bytes xs) (hn : (n : Int) ≤ bitsOf b) (w : World) :
    Calls Tryz.prog 92 #[.agg (adr b xs).toArray, .int .i64 n] w fun e w' => e = .returned (.agg (adr b (pofX b xs n)).toArray) ∧ Fr No w w' := by
  obtain ⟨B, hB⟩ : ∃ B : Nat, bitsOf b = B := ⟨(bitsOf b).toNat, by have := bitsOf_le b; omega⟩
  have hB128 : B ≤ 128 := by have := bitsOf_le b; omega
  have hnB : n ≤ B := by omega
  have v30 := zero25
  obtain ⟨Z, hZ⟩ : ∃ Z : Array Value, (adr false zeros).toArray = Z := ⟨_, rfl⟩
  have hZ17 : Z.size = 17 := by rw [← hZ]; rfl
  rw [hZ] at v30
  have HE : Hid (pofX b xs n = clrs xs n (B - n)) := by show _ = _; rw [pofX, hB]; congr 1; omega
  rw [HE.out]
  obtain ⟨C0, hC0⟩ : ∃ C0 : Array Value, (adr b xs).toArray = C0 := ⟨_, rfl⟩
  obtain ⟨b1, b2, hF⟩ := alloc2 w (.cells C0 25) (.cells Z 25)
  rw [hC0]
  have HS := Lib.hid (And.intro hx (And.intro hC0 (And.intro hB hnB)))
  clear hx hC0 hZ hn HE
  go_enter Tryz.func92, Tryz.ntmps92
  have t3 := Tryz.underlying3
  have u3 := Tryz.runUnderlying3
  have g3 := Tryz.isAgg3
  have z3 := Tryz.sizeOf3
  have t4 := Tryz.underlying4
  have u4 := Tryz.runUnderlying4
  have g4 := Tryz.isAgg4
  have z4 := Tryz.sizeOf4
  have t5 := Tryz.underlying5
  have u5 := Tryz.runUnderlying5
  have g5 := Tryz.isAgg5
  have z5 := Tryz.sizeOf5
  have t23 := Tryz.underlying23
  have u23 := Tryz.runUnderlying23
  have g23 := Tryz.isAgg23
  have z23 := Tryz.sizeOf23
  have t25 := Tryz.underlying25
  have u25 := Tryz.runUnderlying25
  have g25 := Tryz.isAgg25
  have z25 := Tryz.sizeOf25
  have c91 := Tryz.call91
  have mixed : Tryz.prog.follows .mixedOrders = true := by kernel_rfl
  obtain ⟨k30, hk30⟩ : ∃ k, k = 17 := ⟨_, rfl⟩
  rw [← hk30] at z25
  have nk30 : ¬ k30 = 0 := by omega
  have HK25 := Lib.hid hk30
  have hP : Tryz.prog = PD := rfl
  rw [hP] at t3 u3 g3 z3 t4 u4 g4 z4 t5 u5 g5 z5 t23 u23 g23 z23 t25 u25 g25 z25 c91 mixed v30 ⊢
  have HP := Lib.hid hP.symm
  clear hP hk30
  go_wp2_with fail
  generalize (w.alloc (.cells C0 25)).alloc (.cells Z 25) = w2 at b1 b2 hF ⊢
  obtain ⟨m, hm⟩ : ∃ m, w.heap.size = m := ⟨_, rfl⟩
  rw [hm] at b1 b2 ⊢
  have HN : Hid (w.heap.size = m ∧ Fr No w w2 ∧ w2.heap[m]? = some (.cells C0 25 (0, 0)) ∧ w2.heap[m + 1]? = some (.cells Z 25 (0, 0))) := ⟨hm, hF, b1, b2⟩
  clear hm hF b1 b2 v30
  go_loopg [5] (B - n + 1) (fun g s wr => ∃ i : Nat, s = .int .i64 i ∧ n ≤ i ∧ i ≤ B ∧ B - i < g ∧ Hid (Fr (fun k => k = m) w2 wr ∧ wr.heap[m]? = some (.cells (adr b (clrs xs n (i - n))).toArray 25 (0, 0))))
  case atStart =>
    refine ⟨n, by go_num, by omega, hnB, by omega, Fr.refl _ _, ?_⟩
    rw [Nat.sub_self, show clrs xs n 0 = xs from rfl, HS.out.2.1]
    exact HN.out.2.2.1
  case round =>
    obtain ⟨i, rfl, hni, hiB, hig, HR⟩ := hrel
    have hcb := clrs_bytes (n := n) HS.out.1 (i - n)
    obtain ⟨A, hA, h0, hsz, hj⟩ := adr_letter b (clrs xs n (i - n)) hcb
    have hb1 := HR.out.2
    rw [hA] at hb1
    have HL : Hid (∀ w', Fr No wr w' → Sem.run PD (loadCellsFrom ⟨m, 0, none⟩ 0 k30 #[]) w' = .ok A w' ∧ w'.heap[m]? = some (.cells A 25 (0, 0))) := fun w' hf => ⟨load_block (hf.keep hb1) (by rw [HK25.out]; exact hsz) (fun j v hv => by simpa using hv), hf.keep hb1⟩
    have hl1 := (HL.out wr (Fr.refl _ _)).1
    have HBL : Hid (∀ w', Calls Tryz.prog 91 #[.agg A] w' fun e w'' => e = .returned (.int .i64 B) ∧ Fr No w' w'') := fun w' => by rw [← HS.out.2.2.1]; exact bitLen_A b A h0 w'
    have hAk : A.size = k30 := by rw [HK25.out]; exact hsz
    have HSTO : Hid (∀ w', Fr No wr w' → ∃ y, Sem.run PD (storeCells ⟨m + 1, 0, none⟩ A.toList 0) w' = .ok () y ∧ y.heap[m + 1]? = some (.cells A 25 (0, 0)) ∧ Fr No w y) := fun w' hf => by
      have hbn : w'.heap[m + 1]? = some (.cells Z 25 (0, 0)) := hf.keep ((HR.out.1.block (m + 1) (Array.getElem?_eq_some_iff.1 HN.out.2.2.2).1 (by omega)).trans HN.out.2.2.2)
      obtain ⟨y, hst, hyb, hyf⟩ := store_all (P := PD) A.toList hbn (by rw [Array.length_toList, hsz, hZ17]) (by rw [← hA]; exact adr_one _ _)
      refine ⟨y, hst, by simpa using hyb, ?_⟩
      refine ((HN.out.2.1.ofNew HR.out.1 fun k hk => .inr (by rw [HN.out.1, hk]; exact Nat.le_refl _)).trans hf).ofNew hyf fun k hk => .inr (by rw [HN.out.1, hk]; omega)
    by_cases hi : i = B
    · have HA : Hid ((adr b (clrs xs n (B - n))).toArray = A) := by show _ = _; rw [← hi]; exact hA
      have hib : ¬ (i : Int) < (B : Int) := by omega
      go_wp2_with (first | (go_at_call 91; refine (at_prog HP.out (HBL.out _)).mono ?_; rintro e w3 ⟨rfl, hf3⟩; have hl3 := (HL.out w3 hf3).1; obtain ⟨y, hst, hyb, hyf⟩ := HSTO.out w3 hf3) | fail)
      refine bodyPost_ret_by (results_agg rfl _ (b := m + 1) (k := 17) (cs := A) (Tryz.isAgg25 _) (Tryz.sizeOf25 _) rfl (load_block hyb hsz (fun j v hv => by simpa using hv))) rfl ?_
      exact ⟨by rw [HA.out], hyf⟩
    · have q2 : (i : Int) < (B : Int) := by omega
      have hi16 : i / 8 < 16 := by omega
      obtain ⟨x, hxn⟩ : ∃ x, (clrs xs n (i - n))[i / 8]? = some x := ⟨_, List.getElem?_eq_getElem (by rw [hcb.1]; exact hi16)⟩
      have hx255 : x < 256 := hcb.2 x (List.mem_of_getElem? hxn)
      have HC : Hid (∀ w', Fr No wr w' → w'.cell? ⟨m, 1 + i / 8, none⟩ = some (.int .u8 x) ∧ w'.frozen? ⟨m, 1 + i / 8, none⟩ = false) := fun w' hf => by
        have hb' := (HL.out w' hf).2
        exact ⟨by rw [cell_of_row _ _ _ _ _ _ hb']; exact hj _ _ hxn, frozen_of_row _ _ _ _ _ hb'⟩
      have hbits : bits .andNot .u8 (x : Int) (128 / 2 ^ (i % 8)) = ((offB x (7 - i % 8) : Nat) : Int) := by
        rw [← bits_off hx255 (m := 7 - i % 8) (by omega), ← shr_pow (m := i % 8) (by omega)]
        simp
      have HX : Hid (x < 256 ∧ (clrs xs n (i - n)).set (i / 8) (offB x (7 - i % 8)) = clrs xs n (i + 1 - n)) := ⟨hx255, by
        rw [show i + 1 - n = i - n + 1 by omega, clrs, clr, show n + (i - n) = i by omega, List.getD_eq_getElem?_getD, hxn]; rfl⟩
      have HB0 : Hid ((adr b (clrs xs n (i - n))).toArray = A) := hA
      have HBT := Lib.hid hbits
      clear hb1 hA hj h0 hbits
      go_wp2_with (first | (go_at_call 91; refine (at_prog HP.out (HBL.out _)).mono ?_; rintro e w3 ⟨rfl, hf3⟩; have hl3 := (HL.out w3 hf3).1) | fail)
      have c1 := (HC.out w3.drew (hf3.trans (Fr.drew _ _))).1
      have c2 := (HC.out w3.drew (hf3.trans (Fr.drew _ _))).2
      have c3 := (HC.out w3 hf3).1
      have c4 := (HC.out w3 hf3).2
      go_region
      rw [HBT.out]
      have HW : Hid (Fr (fun k => k = m) w2 (w3.setCell ⟨m, 1 + i / 8, none⟩ (.int .u8 (offB x (7 - i % 8) : Nat))).drew ∧ (w3.setCell ⟨m, 1 + i / 8, none⟩ (.int .u8 (offB x (7 - i % 8) : Nat))).drew.heap[m]? = some (.cells (adr b (clrs xs n (i + 1 - n))).toArray 25 (0, 0))) := by
        have hb3 : w3.heap[m]? = some (.cells (adr b (clrs xs n (i - n))).toArray 25 (0, 0)) := by rw [HB0.out]; exact (HL.out w3 hf3).2
        refine ⟨((HR.out.1.trans hf3.no).trans (Fr.setCell (fun k => k = m) _ _ _ rfl)).trans (Fr.drew _ _), ?_⟩
        have e1 := adr_set (i := i / 8) (x := offB x (7 - i % 8)) hb3
        rw [HX.out.2] at e1
        exact e1
      generalize (w3.setCell ⟨m, 1 + i / 8, none⟩ (.int .u8 (offB x (7 - i % 8) : Nat))).drew = w4 at HW ⊢
      clear c1 c2 c3 c4 hl3 hf3
      go_wp2_with fail
      go_roundg (B - i)
      case measure => exact hig
      case rel => exact ⟨i + 1, by go_num, by omega, by omega, by omega, HW.out.1, HW.out.2⟩
end Go.Proofs.YtnadendhboiliaaGreat
namespace Go.Proofs.YtnadendhboiliaaGreat
open Go.ChangeShapes Go.WideShapes Go.ChangeAt Go.RowKit
set_option linter.unusedVariables false

/-- No prefix. -/
def noP : List Value := pfx false zeros 0
/-- The prefix of an address, as cells. -/
def pofT (b : Bool) (xs : List Nat) (n : Int) : List Value := if pofB b xs n then pfx b (pofX b xs n) n else noP
theorem zero29 : ∀ w, (zeroValue 29).run Tryz.prog w = .ok (.agg noP.toArray) w := by
  intro w
  kernel_rfl
set_option maxRecDepth 10000 in
theorem putp16 (b : Bool) (a0 a1 a2 a3 a4 a5 a6 a7 a8 a9 a10 a11 a12 a13 a14 a15 : Nat) (n : Int) : (Array.foldl (fun (cs : Array Value) (x : Value × Nat) => cs.setIfInBounds x.snd x.fst) noP.toArray (adr b [a0, a1, a2, a3, a4, a5, a6, a7, a8, a9, a10, a11, a12, a13, a14, a15]).toArray.zipIdx 0 17).setIfInBounds 17 (.int .i64 n) = (pfx b [a0, a1, a2, a3, a4, a5, a6, a7, a8, a9, a10, a11, a12, a13, a14, a15] n).toArray := by
  kernel_rfl
theorem put_pfx (b : Bool) (xs : List Nat) (n : Int) (h : xs.length = 16) : (Array.foldl (fun (cs : Array Value) (x : Value × Nat) => cs.setIfInBounds x.snd x.fst) noP.toArray (adr b xs).toArray.zipIdx 0 17).setIfInBounds 17 (.int .i64 n) = (pfx b xs n).toArray := by
  match xs, h with
  | [a0, a1, a2, a3, a4, a5, a6, a7, a8, a9, a10, a11, a12, a13, a14, a15], _ => exact putp16 b a0 a1 a2 a3 a4 a5 a6 a7 a8 a9 a10 a11 a12 a13 a14 a15 n

set_option maxHeartbeats 4000000 in
set_option maxRecDepth 100000 in
theorem pof_any (b : Bool) (xs : List Nat) (n : Int) (hx : Bytes xs) (w : World) :
    Calls Tryz.prog 79 #[.agg (adr b xs).toArray, .int .i64 n] w fun e w' => e = .returned (.tuple #[.agg (pofT b xs n).toArray, .bool (pofB b xs n)]) ∧ Fr No w w' := by
  obtain ⟨Z, hZ⟩ : ∃ Z : Array Value, noP.toArray = Z := ⟨_, rfl⟩
  have v40 := zero29
  rw [hZ] at v40
  have hz18 : Z.size = 18 := by rw [← hZ]; rfl
  have hZ1 : ∀ u ∈ Z.toList, u.oneCell' = true := by rw [← hZ]; exact pfx_one _ _ _
  obtain ⟨A, hA, h0, hsz, -⟩ := adr_letter b xs hx
  have HVA : Hid (∀ w', Calls Tryz.prog 53 #[.agg A] w' fun e w'' => e = .returned (.bool (validA b xs)) ∧ Fr No w' w'') := fun w' => by rw [← hA]; exact valid_any b xs hx w'
  have HBL : Hid (∀ w', Calls Tryz.prog 91 #[.agg A] w' fun e w'' => e = .returned (.int .i64 (bitsOf b)) ∧ Fr No w' w'') := fun w' => bitLen_A b A h0 w'
  obtain ⟨b1, b2, hF⟩ := alloc2 w (.cells A 25) (.cells Z 29)
  have HB : Hid (((w.alloc (.cells A 25)).alloc (.cells Z 29)).heap[w.heap.size]? = some (.cells A 25 (0, 0)) ∧ ((w.alloc (.cells A 25)).alloc (.cells Z 29)).heap[w.heap.size + 1]? = some (.cells Z 29 (0, 0)) ∧ Fr No w ((w.alloc (.cells A 25)).alloc (.cells Z 29))) := ⟨b1, b2, hF⟩
  clear b1 b2 hF
  have HZ := Lib.hid (And.intro hZ (And.intro hZ1 hA))
  have hfold := put_pfx b (pofX b xs n) n (pofX_bytes hx n).1
  have hT1 : ∀ u ∈ (pfx b (pofX b xs n) n).toArray.toList, u.oneCell' = true := by intro u hu; exact pfx_one _ _ _ u (by simpa using hu)
  have hT18 : (pfx b (pofX b xs n) n).toArray.size = 18 := by rw [List.size_toArray]; exact pfx_length (pofX_bytes hx n).1
  rw [hZ] at hfold
  have HF : Hid (∀ k : Nat, (k : Int) = n → (k : Int) ≤ bitsOf b → ∀ w', Calls Tryz.prog 92 #[.agg A, .int .i64 n] w' fun e w'' => e = .returned (.agg (adr b (pofX b xs n)).toArray) ∧ Fr No w' w'') := fun k hk hkb w' => by
    rw [← hA, ← hk]
    exact first_any b xs k hx hkb w'
  have HT0 : Hid (pofT b xs n = (if pofB b xs n then pfx b (pofX b xs n) n else noP) ∧ pofB b xs n = (validA b xs && decide (0 ≤ n) && decide (n ≤ bitsOf b))) := ⟨rfl, rfl⟩
  obtain ⟨F, hFF⟩ : ∃ F : Array Value, (adr b (pofX b xs n)).toArray = F := ⟨_, rfl⟩
  have hF17 : F.size = 17 := by rw [← hFF, List.size_toArray, adr_length, (pofX_bytes hx n).1]
  obtain ⟨T, hTT⟩ : ∃ T : Array Value, (pfx b (pofX b xs n) n).toArray = T := ⟨_, rfl⟩
  rw [hFF] at hfold HF
  rw [hTT] at hfold hT1 hT18
  obtain ⟨M, hM⟩ : ∃ M, Array.foldl (fun (cs : Array Value) (x : Value × Nat) => cs.setIfInBounds x.snd x.fst) Z F.zipIdx 0 17 = M := ⟨_, rfl⟩
  rw [hM] at hfold
  have hMs : M.size = 18 := by have h := hT18; rw [← hfold, Array.size_setIfInBounds] at h; exact h
  have HT := Lib.hid (And.intro hTT (And.intro hT1 hT18))
  rw [hA]
  clear hZ hZ1 hA hx hFF hTT hT1
  generalize validA b xs = va at HVA HT0
  generalize bitsOf b = L at HBL HF HT0
  have hV : ((va = true ∧ 0 ≤ n ∧ n ≤ L) ∨ va = false ∨ (va = true ∧ n < 0) ∨ (va = true ∧ 0 ≤ n ∧ L < n)) := by
    cases va
    · exact .inr (.inl rfl)
    · by_cases h1 : n < 0
      · exact .inr (.inr (.inl ⟨rfl, h1⟩))
      · by_cases h2 : L < n
        · exact .inr (.inr (.inr ⟨rfl, by omega, h2⟩))
        · exact .inl ⟨rfl, by omega, by omega⟩
  rcases hV with ⟨rfl, h1, h2⟩ | hbad
  · have HV : Hid (pofT b xs n = pfx b (pofX b xs n) n ∧ pofB b xs n = true) := by
      have h : pofB b xs n = true := by rw [HT0.out.2, decide_eq_true h1, decide_eq_true h2]; rfl
      exact ⟨by rw [HT0.out.1, if_pos h], h⟩
    have p1 : ¬ n < 0 := by omega
    have p2 : ¬ L < n := by omega
    have HF2 := Lib.hid (HF.out n.toNat (by omega) (by omega))
    clear HF h1 h2
    go_enter Tryz.func79, Tryz.ntmps79
    have t3 := Tryz.underlying3
    have u3 := Tryz.runUnderlying3
    have g3 := Tryz.isAgg3
    have z3 := Tryz.sizeOf3
    have t4 := Tryz.underlying4
    have u4 := Tryz.runUnderlying4
    have g4 := Tryz.isAgg4
    have z4 := Tryz.sizeOf4
    have t5 := Tryz.underlying5
    have u5 := Tryz.runUnderlying5
    have g5 := Tryz.isAgg5
    have z5 := Tryz.sizeOf5
    have t23 := Tryz.underlying23
    have u23 := Tryz.runUnderlying23
    have g23 := Tryz.isAgg23
    have z23 := Tryz.sizeOf23
    have t25 := Tryz.underlying25
    have u25 := Tryz.runUnderlying25
    have g25 := Tryz.isAgg25
    have z25 := Tryz.sizeOf25
    have t29 := Tryz.underlying29
    have u29 := Tryz.runUnderlying29
    have g29 := Tryz.isAgg29
    have z29 := Tryz.sizeOf29
    have c53 := Tryz.call53
    have c91 := Tryz.call91
    have c92 := Tryz.call92
    have mixed : Tryz.prog.follows .mixedOrders = true := by kernel_rfl
    obtain ⟨k30, hk30⟩ : ∃ k, k = 17 := ⟨_, rfl⟩
    rw [← hk30] at z25
    have nk30 : ¬ k30 = 0 := by omega
    have HK25 := Lib.hid hk30
    obtain ⟨k40, hk40⟩ : ∃ k, k = 18 := ⟨_, rfl⟩
    rw [← hk40] at z29
    have nk40 : ¬ k40 = 0 := by omega
    have HK29 := Lib.hid hk40
    have hP : Tryz.prog = PD := rfl
    rw [hP] at t3 u3 g3 z3 t4 u4 g4 z4 t5 u5 g5 z5 t23 u23 g23 z23 t25 u25 g25 z25 t29 u29 g29 z29 c53 c91 c92 mixed v40 ⊢
    have HP := Lib.hid hP.symm
    clear hP hk30 hk40
    have hAk : A.size = k30 := by rw [HK25.out]; exact hsz
    have hZk : Z.size = k40 := by rw [HK29.out]; exact hz18
    have hTk : T.size = k40 := by rw [HK29.out]; exact HT.out.2.2
    have hMk : M.size = k40 := by rw [HK29.out]; exact hMs
    have hFk : F.size = k30 := by rw [HK25.out]; exact hF17
    rw [← HK25.out] at hM
    have i3 : k30 ≤ k40 := by have := HK25.out; have := HK29.out; omega
    have i4 : 17 < k40 := by have := HK29.out; omega
    have HLD : Hid (∀ w', Fr No ((w.alloc (.cells A 25)).alloc (.cells Z 29)) w' → Sem.run PD (loadCellsFrom ⟨w.heap.size, 0, none⟩ 0 k30 #[]) w' = .ok A w' ∧ w'.heap[w.heap.size + 1]? = some (.cells Z 29 (0, 0))) := fun w' hf => ⟨load_block (hf.keep HB.out.1) hAk (fun j v hv => by simpa using hv), hf.keep HB.out.2.1⟩
    have hl0 := (HLD.out _ (Fr.refl _ _)).1
    clear hMs hT18 hz18 hsz hF17
    go_wp2_with (first | (go_at_call 53; refine (at_prog HP.out (HVA.out _)).mono ?_; rintro e w3 ⟨rfl, hf3⟩; have hl3 := (HLD.out w3 hf3).1) | (go_at_call 91; refine (at_prog HP.out (HBL.out _)).mono ?_; rintro e w4 ⟨rfl, hf4⟩; have hl4 := (HLD.out w4 (hf3.trans hf4)).1) | (go_at_call 92; refine (at_prog HP.out (HF2.out _)).mono ?_; rintro e w5 ⟨rfl, hf5⟩; obtain ⟨y, hst, hyb, hyf⟩ := store_all (P := PD) T.toList (HLD.out w5 ((hf3.trans hf4).trans hf5)).2 (by rw [Array.length_toList, hTk, hZk]) HT.out.2.1) | fail)
    refine bodyPost_ret_by (results_agg_tmp rfl _ (b := w.heap.size + 1) (k := 18) (cs := T) (Tryz.isAgg29 _) (Tryz.sizeOf29 _) rfl (load_block hyb HT.out.2.2 (fun j v hv => by simpa using hv))) rfl ?_
    exact ⟨by rw [HV.out.1, HV.out.2, HT.out.1]; rfl, (((HB.out.2.2.trans hf3).trans hf4).trans hf5).ofNew hyf fun k hk => .inr (by rw [hk]; omega)⟩
  · have HV : Hid (pofT b xs n = noP ∧ pofB b xs n = false) := by
      have h : pofB b xs n = false := by
        rw [HT0.out.2]
        rcases hbad with rfl | ⟨rfl, h⟩ | ⟨rfl, h, k⟩
        · rfl
        · rw [decide_eq_false (by omega : ¬ 0 ≤ n)]; rfl
        · rw [decide_eq_false (by omega : ¬ n ≤ L)]; simp
      exact ⟨by rw [HT0.out.1, if_neg (by rw [h]; simp)], h⟩
    clear HF hfold hT18 hF17 hMs hM
    rcases hbad with rfl | ⟨rfl, p1⟩ | ⟨rfl, p0, p2⟩
    · go_enter Tryz.func79, Tryz.ntmps79
      have t3 := Tryz.underlying3
      have u3 := Tryz.runUnderlying3
      have g3 := Tryz.isAgg3
      have z3 := Tryz.sizeOf3
      have t4 := Tryz.underlying4
      have u4 := Tryz.runUnderlying4
      have g4 := Tryz.isAgg4
      have z4 := Tryz.sizeOf4
      have t5 := Tryz.underlying5
      have u5 := Tryz.runUnderlying5
      have g5 := Tryz.isAgg5
      have z5 := Tryz.sizeOf5
      have t23 := Tryz.underlying23
      have u23 := Tryz.runUnderlying23
      have g23 := Tryz.isAgg23
      have z23 := Tryz.sizeOf23
      have t25 := Tryz.underlying25
      have u25 := Tryz.runUnderlying25
      have g25 := Tryz.isAgg25
      have z25 := Tryz.sizeOf25
      have t29 := Tryz.underlying29
      have u29 := Tryz.runUnderlying29
      have g29 := Tryz.isAgg29
      have z29 := Tryz.sizeOf29
      have c53 := Tryz.call53
      have c91 := Tryz.call91
      have c92 := Tryz.call92
      have mixed : Tryz.prog.follows .mixedOrders = true := by kernel_rfl
      obtain ⟨k30, hk30⟩ : ∃ k, k = 17 := ⟨_, rfl⟩
      rw [← hk30] at z25
      have nk30 : ¬ k30 = 0 := by omega
      have HK25 := Lib.hid hk30
      obtain ⟨k40, hk40⟩ : ∃ k, k = 18 := ⟨_, rfl⟩
      rw [← hk40] at z29
      have nk40 : ¬ k40 = 0 := by omega
      have HK29 := Lib.hid hk40
      have hP : Tryz.prog = PD := rfl
      rw [hP] at t3 u3 g3 z3 t4 u4 g4 z4 t5 u5 g5 z5 t23 u23 g23 z23 t25 u25 g25 z25 t29 u29 g29 z29 c53 c91 c92 mixed v40 ⊢
      have HP := Lib.hid hP.symm
      clear hP hk30 hk40
      have hAk : A.size = k30 := by rw [HK25.out]; exact hsz
      have hZk : Z.size = k40 := by rw [HK29.out]; exact hz18
      have HLD : Hid (∀ w', Fr No ((w.alloc (.cells A 25)).alloc (.cells Z 29)) w' → Sem.run PD (loadCellsFrom ⟨w.heap.size, 0, none⟩ 0 k30 #[]) w' = .ok A w' ∧ w'.heap[w.heap.size + 1]? = some (.cells Z 29 (0, 0))) := fun w' hf => ⟨load_block (hf.keep HB.out.1) hAk (fun j v hv => by simpa using hv), hf.keep HB.out.2.1⟩
      have HZ18 := Lib.hid hz18
      have hl0 := (HLD.out _ (Fr.refl _ _)).1
      clear hz18 hsz
      go_wp2_with (first | (go_at_call 53; refine (at_prog HP.out (HVA.out _)).mono ?_; rintro e w3 ⟨rfl, hf3⟩; have hl3 := (HLD.out w3 hf3).1; obtain ⟨y, hst, hyb, hyf⟩ := store_all (P := PD) Z.toList (HLD.out w3 hf3).2 (by rw [Array.length_toList]) HZ.out.2.1) | fail)
      refine bodyPost_ret_by (results_agg_tmp rfl _ (b := w.heap.size + 1) (k := 18) (cs := Z) (Tryz.isAgg29 _) (Tryz.sizeOf29 _) rfl (load_block hyb HZ18.out (fun j v hv => by simpa using hv))) rfl ?_
      exact ⟨by rw [HV.out.1, HV.out.2, HZ.out.1]; rfl, (HB.out.2.2.trans hf3).ofNew hyf fun k hk => .inr (by rw [hk]; omega)⟩
    · go_enter Tryz.func79, Tryz.ntmps79
      have t3 := Tryz.underlying3
      have u3 := Tryz.runUnderlying3
      have g3 := Tryz.isAgg3
      have z3 := Tryz.sizeOf3
      have t4 := Tryz.underlying4
      have u4 := Tryz.runUnderlying4
      have g4 := Tryz.isAgg4
      have z4 := Tryz.sizeOf4
      have t5 := Tryz.underlying5
      have u5 := Tryz.runUnderlying5
      have g5 := Tryz.isAgg5
      have z5 := Tryz.sizeOf5
      have t23 := Tryz.underlying23
      have u23 := Tryz.runUnderlying23
      have g23 := Tryz.isAgg23
      have z23 := Tryz.sizeOf23
      have t25 := Tryz.underlying25
      have u25 := Tryz.runUnderlying25
      have g25 := Tryz.isAgg25
      have z25 := Tryz.sizeOf25
      have t29 := Tryz.underlying29
      have u29 := Tryz.runUnderlying29
      have g29 := Tryz.isAgg29
      have z29 := Tryz.sizeOf29
      have c53 := Tryz.call53
      have c91 := Tryz.call91
      have c92 := Tryz.call92
      have mixed : Tryz.prog.follows .mixedOrders = true := by kernel_rfl
      obtain ⟨k30, hk30⟩ : ∃ k, k = 17 := ⟨_, rfl⟩
      rw [← hk30] at z25
      have nk30 : ¬ k30 = 0 := by omega
      have HK25 := Lib.hid hk30
      obtain ⟨k40, hk40⟩ : ∃ k, k = 18 := ⟨_, rfl⟩
      rw [← hk40] at z29
      have nk40 : ¬ k40 = 0 := by omega
      have HK29 := Lib.hid hk40
      have hP : Tryz.prog = PD := rfl
      rw [hP] at t3 u3 g3 z3 t4 u4 g4 z4 t5 u5 g5 z5 t23 u23 g23 z23 t25 u25 g25 z25 t29 u29 g29 z29 c53 c91 c92 mixed v40 ⊢
      have HP := Lib.hid hP.symm
      clear hP hk30 hk40
      have hAk : A.size = k30 := by rw [HK25.out]; exact hsz
      have hZk : Z.size = k40 := by rw [HK29.out]; exact hz18
      have HLD : Hid (∀ w', Fr No ((w.alloc (.cells A 25)).alloc (.cells Z 29)) w' → Sem.run PD (loadCellsFrom ⟨w.heap.size, 0, none⟩ 0 k30 #[]) w' = .ok A w' ∧ w'.heap[w.heap.size + 1]? = some (.cells Z 29 (0, 0))) := fun w' hf => ⟨load_block (hf.keep HB.out.1) hAk (fun j v hv => by simpa using hv), hf.keep HB.out.2.1⟩
      have HZ18 := Lib.hid hz18
      have hl0 := (HLD.out _ (Fr.refl _ _)).1
      clear hz18 hsz
      go_wp2_with (first | (go_at_call 53; refine (at_prog HP.out (HVA.out _)).mono ?_; rintro e w3 ⟨rfl, hf3⟩; have hl3 := (HLD.out w3 hf3).1; obtain ⟨y, hst, hyb, hyf⟩ := store_all (P := PD) Z.toList (HLD.out w3 hf3).2 (by rw [Array.length_toList]) HZ.out.2.1) | fail)
      refine bodyPost_ret_by (results_agg_tmp rfl _ (b := w.heap.size + 1) (k := 18) (cs := Z) (Tryz.isAgg29 _) (Tryz.sizeOf29 _) rfl (load_block hyb HZ18.out (fun j v hv => by simpa using hv))) rfl ?_
      exact ⟨by rw [HV.out.1, HV.out.2, HZ.out.1]; rfl, (HB.out.2.2.trans hf3).ofNew hyf fun k hk => .inr (by rw [hk]; omega)⟩
    · have p1 : ¬ n < 0 := by omega
      clear p0
      go_enter Tryz.func79, Tryz.ntmps79
      have t3 := Tryz.underlying3
      have u3 := Tryz.runUnderlying3
      have g3 := Tryz.isAgg3
      have z3 := Tryz.sizeOf3
      have t4 := Tryz.underlying4
      have u4 := Tryz.runUnderlying4
      have g4 := Tryz.isAgg4
      have z4 := Tryz.sizeOf4
      have t5 := Tryz.underlying5
      have u5 := Tryz.runUnderlying5
      have g5 := Tryz.isAgg5
      have z5 := Tryz.sizeOf5
      have t23 := Tryz.underlying23
      have u23 := Tryz.runUnderlying23
      have g23 := Tryz.isAgg23
      have z23 := Tryz.sizeOf23
      have t25 := Tryz.underlying25
      have u25 := Tryz.runUnderlying25
      have g25 := Tryz.isAgg25
      have z25 := Tryz.sizeOf25
      have t29 := Tryz.underlying29
      have u29 := Tryz.runUnderlying29
      have g29 := Tryz.isAgg29
      have z29 := Tryz.sizeOf29
      have c53 := Tryz.call53
      have c91 := Tryz.call91
      have c92 := Tryz.call92
      have mixed : Tryz.prog.follows .mixedOrders = true := by kernel_rfl
      obtain ⟨k30, hk30⟩ : ∃ k, k = 17 := ⟨_, rfl⟩
      rw [← hk30] at z25
      have nk30 : ¬ k30 = 0 := by omega
      have HK25 := Lib.hid hk30
      obtain ⟨k40, hk40⟩ : ∃ k, k = 18 := ⟨_, rfl⟩
      rw [← hk40] at z29
      have nk40 : ¬ k40 = 0 := by omega
      have HK29 := Lib.hid hk40
      have hP : Tryz.prog = PD := rfl
      rw [hP] at t3 u3 g3 z3 t4 u4 g4 z4 t5 u5 g5 z5 t23 u23 g23 z23 t25 u25 g25 z25 t29 u29 g29 z29 c53 c91 c92 mixed v40 ⊢
      have HP := Lib.hid hP.symm
      clear hP hk30 hk40
      have hAk : A.size = k30 := by rw [HK25.out]; exact hsz
      have hZk : Z.size = k40 := by rw [HK29.out]; exact hz18
      have HLD : Hid (∀ w', Fr No ((w.alloc (.cells A 25)).alloc (.cells Z 29)) w' → Sem.run PD (loadCellsFrom ⟨w.heap.size, 0, none⟩ 0 k30 #[]) w' = .ok A w' ∧ w'.heap[w.heap.size + 1]? = some (.cells Z 29 (0, 0))) := fun w' hf => ⟨load_block (hf.keep HB.out.1) hAk (fun j v hv => by simpa using hv), hf.keep HB.out.2.1⟩
      have HZ18 := Lib.hid hz18
      have hl0 := (HLD.out _ (Fr.refl _ _)).1
      clear hz18 hsz
      go_wp2_with (first | (go_at_call 53; refine (at_prog HP.out (HVA.out _)).mono ?_; rintro e w3 ⟨rfl, hf3⟩; have hl3 := (HLD.out w3 hf3).1; skip) | (go_at_call 91; refine (at_prog HP.out (HBL.out _)).mono ?_; rintro e w4 ⟨rfl, hf4⟩; obtain ⟨y, hst, hyb, hyf⟩ := store_all (P := PD) Z.toList (HLD.out w4 (hf3.trans hf4)).2 (by rw [Array.length_toList]) HZ.out.2.1) | fail)
      refine bodyPost_ret_by (results_agg_tmp rfl _ (b := w.heap.size + 1) (k := 18) (cs := Z) (Tryz.isAgg29 _) (Tryz.sizeOf29 _) rfl (load_block hyb HZ18.out (fun j v hv => by simpa using hv))) rfl ?_
      exact ⟨by rw [HV.out.1, HV.out.2, HZ.out.1]; rfl, ((HB.out.2.2.trans hf3).trans hf4).ofNew hyf fun k hk => .inr (by rw [hk]; omega)⟩
end Go.Proofs.YtnadendhboiliaaGreat
namespace Go.Proofs.YtnadendhboiliaaGreat
open Go.ChangeShapes Go.WideShapes Go.ChangeAt Go.RowKit
set_option linter.unusedVariables false

theorem adr_eq9 {b c : Bool} {xs ys : List Nat} (hx : Bytes xs) (hy : Bytes ys) (w : World) : Sem.run Tryz.prog (Op.equalIn 9999 25 (.agg (adr b xs).toArray) (.agg (adr c ys).toArray)) w = .ok (decide (b = c ∧ xs = ys)) w := by
  have hS : Tryz.prog.underlying 25 = some (.struct (Tryz.prog.fieldsOf 25)) := by kernel_rfl
  have hF : Tryz.prog.fieldsOf 25 = #[{ name := "IPv6", type := 4, offset := 0, embedded := false, tag := "", pkgPath := "", byteOffset := 0 }, { name := "Bytes", type := 23, offset := 1, embedded := false, tag := "", pkgPath := "", byteOffset := 1 }] := by kernel_rfl
  have ex : ∀ (b : Bool) (xs : List Nat), Bytes xs → (adr b xs).toArray.extract 1 (1 + 16) = ((xs.map UInt8.ofNat).map Extern.Stop.cell).toArray := by
    intro b xs hx
    rw [← nums_u8 hx.2]
    apply Array.ext'
    simp [adr]
    rw [List.take_of_length_le (by rw [nums_length, hx.1]; omega)]
  have hE : Sem.run Tryz.prog (Op.equalIn 9998 23 (.agg ((adr b xs).toArray.extract 1 (1 + 16))) (.agg ((adr c ys).toArray.extract 1 (1 + 16)))) w = .ok (decide (xs = ys)) w := by
    rw [ex b xs hx, ex c ys hy, run_equalIn_bytes w 9996 23 5 16 Tryz.underlying23 Tryz.underlying5 Tryz.sizeOf5 _ _ (by simpa using hx.1) (by simpa using hy.1), ofNat_inj hx.2 hy.2]
  have hB : Sem.run Tryz.prog (Op.equalIn 9998 4 (.bool b) (.bool c)) w = .ok (b == c) w := by rw [run_equalIn_bool' w 9997 4 b c Tryz.underlying4]
  have h0 : ∀ (b : Bool) (xs : List Nat), (adr b xs).toArray[0]? = some (.bool b) := fun b xs => rfl
  rw [show (9999 : Nat) = 9998 + 1 from rfl, run_equalIn_agg w 9998 25 _ _ hS Tryz.stoodInHeld25, hF]
  have e1 : ∀ (b : Bool) (xs : List Nat), (adr b xs).toArray.extract 1 17 = (List.take 16 (adr b xs).tail).toArray := fun b xs => by apply Array.ext'; simp [adr]
  rw [show 1 + 16 = 17 from rfl, e1 b xs, e1 c ys] at hE
  simp [Op.eqFields, Go.part, Tryz.isAgg4, Tryz.isAgg23, Tryz.sizeOf23, h0, hB, hE]
  by_cases hxy : xs = ys <;> cases b <;> cases c <;> simp [hxy]

theorem pfx_eq {b c : Bool} {xs ys : List Nat} (p q : Int) (hx : Bytes xs) (hy : Bytes ys) (w : World) : Sem.run Tryz.prog (Op.equalIn 10000 29 (.agg (pfx b xs p).toArray) (.agg (pfx c ys q).toArray)) w = .ok (decide ((b = c ∧ xs = ys) ∧ p = q)) w := by
  have hS : Tryz.prog.underlying 29 = some (.struct (Tryz.prog.fieldsOf 29)) := by kernel_rfl
  have hF : Tryz.prog.fieldsOf 29 = #[{ name := "Addr", type := 25, offset := 0, embedded := false, tag := "", pkgPath := "", byteOffset := 0 }, { name := "Bits", type := 3, offset := 17, embedded := false, tag := "", pkgPath := "", byteOffset := 24 }] := by kernel_rfl
  have hex : ∀ (b : Bool) (xs : List Nat) (p : Int), Bytes xs → (pfx b xs p).toArray.extract 0 17 = (adr b xs).toArray := by
    intro b xs p hx
    apply Array.ext'
    simp [pfx]
    rw [List.take_append_of_le_length (by rw [adr_length, hx.1]; omega), List.take_of_length_le (by rw [adr_length, hx.1]; omega)]
  have h18 : ∀ (b : Bool) (xs : List Nat) (p : Int), Bytes xs → (pfx b xs p).toArray[17]? = some (.int .i64 p) := fun b xs p hx => by
    rw [List.getElem?_toArray, pfx, List.getElem?_append_right (by rw [adr_length, hx.1]; omega), adr_length, hx.1]; rfl
  have h1 := adr_eq9 (b := b) (c := c) hx hy w
  have hI : Sem.run Tryz.prog (Op.equalIn 9999 3 (.int .i64 p) (.int .i64 q)) w = .ok (p == q) w := run_equalIn_int w 9998 3 _ _ p q Tryz.underlying3
  rw [show (10000 : Nat) = 9999 + 1 from rfl, run_equalIn_agg w 9999 29 _ _ hS Tryz.stoodInHeld29, hF]
  have e1 := hex b xs p hx
  have e2 := hex c ys q hy
  have p1 := h18 b xs p hx
  have p2 := h18 c ys q hy
  generalize (pfx b xs p).toArray = T1 at e1 p1 ⊢
  generalize (pfx c ys q).toArray = T2 at e2 p2 ⊢
  simp [Op.eqFields, Go.part, Tryz.isAgg25, Tryz.isAgg3, Tryz.sizeOf25, p1, p2, e1, e2, h1, hI]
  by_cases hb : b = c <;> by_cases ha : xs = ys <;> by_cases hp : p = q <;> simp [hb, ha, hp]

theorem pofT_len (b : Bool) {xs : List Nat} (n : Int) (hx : Bytes xs) : (pofT b xs n).toArray.size = 18 ∧ ∀ u ∈ (pofT b xs n).toArray.toList, u.oneCell' = true := by
  unfold pofT
  split
  · exact ⟨by rw [List.size_toArray]; exact pfx_length (pofX_bytes hx n).1, by intro u hu; exact pfx_one _ _ _ u (by simpa using hu)⟩
  · exact ⟨rfl, by intro u hu; exact pfx_one _ _ _ u (by simpa [noP] using hu)⟩

set_option maxHeartbeats 4000000 in
set_option maxRecDepth 100000 in
theorem cont_any (b c : Bool) (xs ys : List Nat) (n : Int) (hx : Bytes xs) (hy : Bytes ys) (w : World) :
    Calls Tryz.prog 61 #[.agg (pfx b xs n).toArray, .agg (adr c ys).toArray] w fun e w' => e = .returned (.bool (contP b xs n c ys)) ∧ Fr No w w' := by
  rw [cont_eq hx hy]
  obtain ⟨Z, hZ⟩ : ∃ Z : Array Value, noP.toArray = Z := ⟨_, rfl⟩
  have v40 := zero29
  rw [hZ] at v40
  have hz18 : Z.size = 18 := by rw [← hZ]; rfl
  obtain ⟨P, hP0, -, hP17, hPs, -, hP1⟩ := pfx_letter b xs n hx
  obtain ⟨A, hA, h0, hsz, -⟩ := adr_letter c ys hy
  obtain ⟨Q, hQ⟩ : ∃ Q, (pofT c ys n).toArray = Q := ⟨_, rfl⟩
  have hQl := pofT_len c n hy
  have HPO : Hid (∀ w', Calls Tryz.prog 79 #[.agg A, .int .i64 n] w' fun e w'' => e = .returned (.tuple #[.agg Q, .bool (pofB c ys n)]) ∧ Fr No w' w'') := fun w' => by rw [← hA, ← hQ]; exact pof_any c ys n hy w'
  rw [hQ] at hQl
  have hQs := hQl.1
  have HEQ : Hid (pofB c ys n = true → ∀ w, Sem.run Tryz.prog (Op.equalIn 10000 29 (.agg P) (.agg Q)) w = .ok (decide (b = c ∧ xs = pofX c ys n)) w) := fun h w => by
    rw [← hQ, ← hP0, pofT, if_pos h, pfx_eq n n hx (pofX_bytes hy n) w]
    simp
  have HQ := Lib.hid hQl
  rw [hP0, hA]
  obtain ⟨b1, b2, hF⟩ := alloc2 w (.cells P 29) (.cells A 25)
  have HB : Hid (((w.alloc (.cells P 29)).alloc (.cells A 25)).heap[w.heap.size]? = some (.cells P 29 (0, 0)) ∧ ((w.alloc (.cells P 29)).alloc (.cells A 25)).heap[w.heap.size + 1]? = some (.cells A 25 (0, 0)) ∧ Fr No w ((w.alloc (.cells P 29)).alloc (.cells A 25))) := ⟨b1, b2, hF⟩
  have c17 : ((w.alloc (.cells P 29)).alloc (.cells A 25)).cell? ⟨w.heap.size, 17, none⟩ = some (.int .i64 n) := by rw [cell_of_row _ _ _ _ _ _ b1]; exact hP17
  have q40 := Tryz.eqGuardType29
  clear b1 b2 hF hZ hP0 hA hQ hQl hx hy hP1 hP17
  generalize decide (b = c ∧ xs = pofX c ys n) = eq at HEQ ⊢
  generalize pofB c ys n = ok at HPO HEQ ⊢
  cases ok
  · go_enter Tryz.func61, Tryz.ntmps61
    have t3 := Tryz.underlying3
    have u3 := Tryz.runUnderlying3
    have g3 := Tryz.isAgg3
    have z3 := Tryz.sizeOf3
    have t4 := Tryz.underlying4
    have u4 := Tryz.runUnderlying4
    have g4 := Tryz.isAgg4
    have z4 := Tryz.sizeOf4
    have t25 := Tryz.underlying25
    have u25 := Tryz.runUnderlying25
    have g25 := Tryz.isAgg25
    have z25 := Tryz.sizeOf25
    have t29 := Tryz.underlying29
    have u29 := Tryz.runUnderlying29
    have g29 := Tryz.isAgg29
    have z29 := Tryz.sizeOf29
    have c79 := Tryz.call79
    have mixed : Tryz.prog.follows .mixedOrders = true := by kernel_rfl
    obtain ⟨k30, hk30⟩ : ∃ k, k = 17 := ⟨_, rfl⟩
    rw [← hk30] at z25
    have nk30 : ¬ k30 = 0 := by omega
    have HK25 := Lib.hid hk30
    obtain ⟨k40, hk40⟩ : ∃ k, k = 18 := ⟨_, rfl⟩
    rw [← hk40] at z29
    have nk40 : ¬ k40 = 0 := by omega
    have HK29 := Lib.hid hk40
    have hP : Tryz.prog = PD := rfl
    rw [hP] at t3 u3 g3 z3 t4 u4 g4 z4 t25 u25 g25 z25 t29 u29 g29 z29 c79 mixed v40 ⊢
    have HP := Lib.hid hP.symm
    clear hP hk30 hk40
    have hAk : A.size = k30 := by rw [HK25.out]; exact hsz
    have hPk : P.size = k40 := by rw [HK29.out]; exact hPs
    have hZk : Z.size = k40 := by rw [HK29.out]; exact hz18
    have hQk : Q.size = k40 := by rw [HK29.out]; exact hQs
    have hl0 : Sem.run PD (loadCellsFrom ⟨w.heap.size + 1, 0, none⟩ 0 k30 #[]) ((w.alloc (.cells P 29)).alloc (.cells A 25)) = .ok A ((w.alloc (.cells P 29)).alloc (.cells A 25)) := load_block HB.out.2.1 hAk (fun j v hv => by simpa using hv)
    clear hsz hPs hz18 hQs
    go_wp2_with (first | (go_at_call 79; refine (at_prog HP.out (HPO.out _)).mono ?_; rintro e w3 ⟨rfl, hf3⟩; obtain ⟨y, hst, hyb, hyf⟩ := store_all (P := PD) Q.toList (heap_alloc_new w3 (.cells Z 29)) (by rw [Array.length_toList, hQk, hZk]) HQ.out.2) | fail)
    go_ret
    exact ⟨rfl, ((HB.out.2.2.trans hf3).trans (Fr.alloc _ _ _)).ofNew hyf fun k hk => .inr (by rw [hk]; exact (HB.out.2.2.trans hf3).size)⟩
  · have hEQ := HEQ.out rfl
    go_enter Tryz.func61, Tryz.ntmps61
    have t3 := Tryz.underlying3
    have u3 := Tryz.runUnderlying3
    have g3 := Tryz.isAgg3
    have z3 := Tryz.sizeOf3
    have t4 := Tryz.underlying4
    have u4 := Tryz.runUnderlying4
    have g4 := Tryz.isAgg4
    have z4 := Tryz.sizeOf4
    have t25 := Tryz.underlying25
    have u25 := Tryz.runUnderlying25
    have g25 := Tryz.isAgg25
    have z25 := Tryz.sizeOf25
    have t29 := Tryz.underlying29
    have u29 := Tryz.runUnderlying29
    have g29 := Tryz.isAgg29
    have z29 := Tryz.sizeOf29
    have c79 := Tryz.call79
    have mixed : Tryz.prog.follows .mixedOrders = true := by kernel_rfl
    obtain ⟨k30, hk30⟩ : ∃ k, k = 17 := ⟨_, rfl⟩
    rw [← hk30] at z25
    have nk30 : ¬ k30 = 0 := by omega
    have HK25 := Lib.hid hk30
    obtain ⟨k40, hk40⟩ : ∃ k, k = 18 := ⟨_, rfl⟩
    rw [← hk40] at z29
    have nk40 : ¬ k40 = 0 := by omega
    have HK29 := Lib.hid hk40
    have hP : Tryz.prog = PD := rfl
    rw [hP] at t3 u3 g3 z3 t4 u4 g4 z4 t25 u25 g25 z25 t29 u29 g29 z29 c79 mixed v40 hEQ q40 ⊢
    have HP := Lib.hid hP.symm
    clear hP hk30 hk40
    have hAk : A.size = k30 := by rw [HK25.out]; exact hsz
    have hPk : P.size = k40 := by rw [HK29.out]; exact hPs
    have hZk : Z.size = k40 := by rw [HK29.out]; exact hz18
    have hQk : Q.size = k40 := by rw [HK29.out]; exact hQs
    have hl0 : Sem.run PD (loadCellsFrom ⟨w.heap.size + 1, 0, none⟩ 0 k30 #[]) ((w.alloc (.cells P 29)).alloc (.cells A 25)) = .ok A ((w.alloc (.cells P 29)).alloc (.cells A 25)) := load_block HB.out.2.1 hAk (fun j v hv => by simpa using hv)
    clear hsz hPs hz18 hQs
    go_wp2_with (first | (go_at_call 79; refine (at_prog HP.out (HPO.out _)).mono ?_; rintro e w3 ⟨rfl, hf3⟩; obtain ⟨y, hst, hyb, hyf⟩ := store_all (P := PD) Q.toList (heap_alloc_new w3 (.cells Z 29)) (by rw [Array.length_toList, hQk, hZk]) HQ.out.2; have hy0 : y.heap[w.heap.size]? = some (.cells P 29 (0, 0)) := by
        { have k1 := (Fr.alloc No w3 (.cells Z 29)).keep (hf3.keep HB.out.1)
          have k0 := (Array.getElem?_eq_some_iff.1 (hf3.keep HB.out.1)).1
          exact (hyf.block _ (Array.getElem?_eq_some_iff.1 k1).1 (by omega)).trans k1 }; have hl1 : Sem.run PD (loadCellsFrom ⟨w.heap.size, 0, none⟩ 0 k40 #[]) y = .ok P y := load_block hy0 hPk (fun j v hv => by simpa using hv); have hl2 : Sem.run PD (loadCellsFrom ⟨w3.heap.size, 0, none⟩ 0 k40 #[]) y = .ok Q y := load_block hyb hQk (fun j v hv => by simpa using hv)) | fail)
    go_ret
    exact ⟨rfl, ((HB.out.2.2.trans hf3).trans (Fr.alloc _ _ _)).ofNew hyf fun k hk => .inr (by rw [hk]; exact (HB.out.2.2.trans hf3).size)⟩
end Go.Proofs.YtnadendhboiliaaGreat
namespace Go.Proofs.YtnadendhboiliaaGreat
open Go.ChangeShapes Go.WideShapes Go.ChangeAt Go.RowKit
set_option linter.unusedVariables false

theorem adr_part {A P : Array Value} (h17 : A.size = 17) (hj : ∀ (j : Nat) v, A[j]? = some v → P[j]? = some v) : ∀ (j : Nat) v, A[j]? = some v → P[0 + j]? = some v := fun j v h => by rw [Nat.zero_add]; exact hj j v h

end Go.Proofs.YtnadendhboiliaaGreat
