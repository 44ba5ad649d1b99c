/-
  CONTRACT of the laws' awake, over this seat's translation: the call returns true.
  Conditions: none.
-/
import Derived.Test.YtnbohhiooigmbaaMs
import Derived.Test.YtnbohhiooigmbaaEq
import Derived.Test.YtnbohhiooigmbaaDa
import Derived.Deep.DeepCutAuto
import Derived.Deep.CutBlock
namespace Go.Proofs.Ytnbohhiooigmbaa
open Go.ChangeShapes Go.WideShapes Go.ChangeAt Go.RowKit
set_option linter.unusedVariables false

theorem fold_off_list (n : Nat) : ∀ (L : List Value) (m : Nat) (M : Array Value), n + m + L.length ≤ M.size → ((L.zipIdx m).foldl (fun (cs : Array Value) (x : Value × Nat) => cs.setIfInBounds (n + x.snd) x.fst) M).toList = M.toList.take (n + m) ++ L ++ M.toList.drop (n + m + L.length)
  | [], m, M, _ => by simp
  | a :: L, m, M, h => by
    rw [List.zipIdx_cons, List.foldl_cons, fold_off_list n L (m + 1) _ (by rw [Array.size_setIfInBounds]; rw [List.length_cons] at h; omega)]
    have hn : n + m < M.toList.length := by rw [Array.length_toList]; rw [List.length_cons] at h; omega
    rw [Array.toList_setIfInBounds, ← Nat.add_assoc, List.take_add_one, List.take_set_of_le (Nat.le_refl _), List.getElem?_set_self hn, List.drop_set_of_lt (by omega)]
    simp [Nat.add_comm, Nat.add_left_comm]
theorem fold_off {k n : Nat} (M K : Array Value) (hM : n + k ≤ M.size) (hK : K.size = k) : (Array.foldl (fun (cs : Array Value) (x : Value × Nat) => cs.setIfInBounds (n + x.snd) x.fst) M K.zipIdx 0 k).toList = M.toList.take n ++ K.toList ++ M.toList.drop (n + k) := by
  subst hK
  have hs : K.size = K.zipIdx.size := by rw [Array.size_zipIdx]
  have h := fold_off_list n K.toList 0 M (by rw [Array.length_toList]; omega)
  rw [show Array.foldl (fun (cs : Array Value) (x : Value × Nat) => cs.setIfInBounds (n + x.snd) x.fst) M K.zipIdx 0 K.size = Array.foldl (fun (cs : Array Value) (x : Value × Nat) => cs.setIfInBounds (n + x.snd) x.fst) M K.zipIdx 0 K.zipIdx.size by rw [← hs], ← Array.foldl_toList, Array.toList_zipIdx]
  rw [h]
  simp
/-- Two aggregates laid into a row of two. -/
theorem two_parts {k : Nat} (Z0 P Q : Array Value) (hP : P.size = k) (hQ : Q.size = k) (hZ : Z0.size = 2 * k) : ∃ M R : Array Value, Array.foldl (fun (cs : Array Value) (x : Value × Nat) => cs.setIfInBounds x.snd x.fst) Z0 P.zipIdx 0 k = M ∧ M.size = 2 * k ∧ Array.foldl (fun (cs : Array Value) (x : Value × Nat) => cs.setIfInBounds (k + x.snd) x.fst) M Q.zipIdx 0 k = R ∧ R.toList = P.toList ++ Q.toList := by
  have h1 := fold_off (n := 0) Z0 P (by omega) hP
  simp only [Nat.zero_add] at h1
  have hs1 : (Array.foldl (fun (cs : Array Value) (x : Value × Nat) => cs.setIfInBounds x.snd x.fst) Z0 P.zipIdx 0 k).size = 2 * k := by
    rw [← Array.length_toList, h1]
    simp [hP, hZ]
    omega
  refine ⟨_, _, rfl, hs1, rfl, ?_⟩
  rw [fold_off _ Q (by rw [hs1]; omega) hQ, h1]
  have e1 : P.toList.length = k := by rw [Array.length_toList, hP]
  simp [List.drop_append, e1, hZ]
  omega
def pA : Px := ⟨false, v4Of 10 0 0 0, 8⟩
def qA : Px := ⟨false, v4Of 10 1 0 0, 16⟩
def sA : Value := .string ⟨#[97]⟩
def sB : Value := .string ⟨#[98]⟩
theorem bA (a b c d : Nat) (ha : a < 256) (hb : b < 256) (hc : c < 256) (hd : d < 256) : Bytes (v4Of a b c d) := v4_bytes ha hb hc hd
theorem parseA (w : World) : Calls Try.prog 47 #[.string ⟨#[49, 48, 46, 48, 46, 48, 46, 48, 47, 56]⟩] w fun e w' => e = .returned (.tuple #[.agg (pfx pA.b pA.xs pA.n).toArray, .bool true]) ∧ Fr No w w' := by
  have h := cparse_ref [49, 48, 46, 48, 46, 48, 46, 48, 47, 56] (by decide) w
  rw [show cpT [49, 48, 46, 48, 46, 48, 46, 48, 47, 56] = pfx pA.b pA.xs pA.n by kernel_rfl, show cpB [49, 48, 46, 48, 46, 48, 46, 48, 47, 56] = true by kernel_rfl] at h
  exact h
theorem parseB (w : World) : Calls Try.prog 47 #[.string ⟨#[49, 48, 46, 49, 46, 48, 46, 48, 47, 49, 54]⟩] w fun e w' => e = .returned (.tuple #[.agg (pfx qA.b qA.xs qA.n).toArray, .bool true]) ∧ Fr No w w' := by
  have h := cparse_ref [49, 48, 46, 49, 46, 48, 46, 48, 47, 49, 54] (by decide) w
  rw [show cpT [49, 48, 46, 49, 46, 48, 46, 48, 47, 49, 54] = pfx qA.b qA.xs qA.n by kernel_rfl, show cpB [49, 48, 46, 49, 46, 48, 46, 48, 47, 49, 54] = true by kernel_rfl] at h
  exact h
theorem equal_two {a b : Option Addr} {c d : Nat} {A : List Px} {w : World} (hA : A.length = 2) (hx : RowP w a A) (hy : RowP w b A) : Calls Try.prog 35 #[.slice a 2 c, .slice b 2 d] w fun e w' => e = .returned (.bool true) ∧ Fr No w w' := by
  have h := equal_any a b 2 2 c d A A w hx hy hA hA (by decide)
  rw [decide_eq_true rfl] at h
  exact h
theorem validA1 : validP pA.b pA.xs pA.n = true := by kernel_rfl
theorem validA2 : validP qA.b qA.xs qA.n = true := by kernel_rfl
theorem put1 : putL pA sA [] = [(pA, sA)] := rfl
theorem put2 : putL qA sB [(pA, sA)] = [(pA, sA), (qA, sB)] := by
  rw [putL, if_pos (by kernel_rfl : cmpX pA qA = -1)]; rfl
theorem in1 : inL [(pA, sA), (qA, sB)] false (v4Of 10 1 2 3) = [(pA, sA), (qA, sB)] := by
  unfold inL
  rw [List.filter_cons_of_pos (by kernel_rfl), List.filter_cons_of_pos (by kernel_rfl)]; rfl
theorem in2 : inL [(pA, sA), (qA, sB)] false (v4Of 10 2 0 0) = [(pA, sA)] := by
  unfold inL
  rw [List.filter_cons_of_pos (by kernel_rfl), List.filter_cons_of_neg (by rw [show has (qA, sB).1 false (v4Of 10 2 0 0) = false by kernel_rfl]; decide)]; rfl
theorem in3 : inL [(pA, sA), (qA, sB)] false (v4Of 10 1 0 0) = [(pA, sA), (qA, sB)] := by
  unfold inL
  rw [List.filter_cons_of_pos (by kernel_rfl), List.filter_cons_of_pos (by kernel_rfl)]; rfl
set_option maxHeartbeats 8000000 in
set_option maxRecDepth 100000 in
theorem awake_any (w : World) : Calls Try.prog 20 #[] w fun e w' => e = .returned (.bool true) ∧ Fr No w w' := by
  obtain ⟨Z, hZ⟩ : ∃ Z : Array Value, noP.toArray = Z := ⟨_, rfl⟩
  have v31 := zero31
  rw [hZ] at v31
  have hz18 : Z.size = 18 := by rw [← hZ]; rfl
  obtain ⟨P, hP, -, -, hPs, -, hP1⟩ := pfx_letter pA.b pA.xs pA.n (bA 10 0 0 0 (by decide) (by decide) (by decide) (by decide))
  obtain ⟨Q, hQ, -, -, hQs, -, hQ1⟩ := pfx_letter qA.b qA.xs qA.n (bA 10 1 0 0 (by decide) (by decide) (by decide) (by decide))
  have HPA : Hid (∀ w', Calls Try.prog 47 #[.string ⟨#[49, 48, 46, 48, 46, 48, 46, 48, 47, 56]⟩] w' fun e w'' => e = .returned (.tuple #[.agg P, .bool true]) ∧ Fr No w' w'') := fun w' => by rw [← hP]; exact parseA w'
  have HPB : Hid (∀ w', Calls Try.prog 47 #[.string ⟨#[49, 48, 46, 49, 46, 48, 46, 48, 47, 49, 54]⟩] w' fun e w'' => e = .returned (.tuple #[.agg Q, .bool true]) ∧ Fr No w' w'') := fun w' => by rw [← hQ]; exact parseB w'
  have HI1 : Hid (∀ (w' : World) (a : Nat) (X : Nat → Prop), StS w' a [] X → (∀ k, X k → k < w'.heap.size) → Calls Try.prog 48 #[.pointer (some ⟨a, 0, none⟩), .agg P, .string ⟨#[97]⟩] w' fun e w'' => e = .returned (.bool true) ∧ StS w'' a [(pA, sA)] X ∧ Fr (fun k => ¬ X k) w' w'') := fun w' a X h1 h2 => by
    have h := insertSS h1 h2 (by decide) pA (bA 10 0 0 0 (by decide) (by decide) (by decide) (by decide)) sA ⟨_, rfl⟩
    rw [validA1, if_pos rfl, put1, hP] at h
    exact h
  have HI2 : Hid (∀ (w' : World) (a : Nat) (X : Nat → Prop), StS w' a [(pA, sA)] X → (∀ k, X k → k < w'.heap.size) → Calls Try.prog 48 #[.pointer (some ⟨a, 0, none⟩), .agg Q, .string ⟨#[98]⟩] w' fun e w'' => e = .returned (.bool true) ∧ StS w'' a [(pA, sA), (qA, sB)] X ∧ Fr (fun k => ¬ X k) w' w'') := fun w' a X h1 h2 => by
    have h := insertSS h1 h2 (by show 1 ≤ _; decide) qA (bA 10 1 0 0 (by decide) (by decide) (by decide) (by decide)) sB ⟨_, rfl⟩
    rw [validA2, if_pos rfl, put2, hQ] at h
    exact h
  have HLK1 : Hid (∀ (w' : World) (a : Nat) (X : Nat → Prop), StS w' a [(pA, sA), (qA, sB)] X → Calls Try.prog 49 #[.pointer (some ⟨a, 0, none⟩), .agg (adr false (v4Of 10 1 2 3)).toArray] w' fun e w'' => e = .returned (.tuple #[.agg Q, .string ⟨#[98]⟩, .bool true]) ∧ Fr No w' w'') := fun w' a X h1 => by
    have h := lookupSS h1 false (v4Of 10 1 2 3) (bA 10 1 2 3 (by decide) (by decide) (by decide) (by decide))
    rw [in1, show endP [(pA, sA), (qA, sB)] = pfx qA.b qA.xs qA.n from rfl, hQ] at h
    exact h
  have HLK2 : Hid (∀ (w' : World) (a : Nat) (X : Nat → Prop), StS w' a [(pA, sA), (qA, sB)] X → Calls Try.prog 49 #[.pointer (some ⟨a, 0, none⟩), .agg (adr false (v4Of 10 2 0 0)).toArray] w' fun e w'' => e = .returned (.tuple #[.agg P, .string ⟨#[97]⟩, .bool true]) ∧ Fr No w' w'') := fun w' a X h1 => by
    have h := lookupSS h1 false (v4Of 10 2 0 0) (bA 10 2 0 0 (by decide) (by decide) (by decide) (by decide))
    rw [in2, show endP [(pA, sA)] = pfx pA.b pA.xs pA.n from rfl, hP] at h
    exact h
  have HV1 : Hid (∀ w', Calls Try.prog 50 #[.int .u8 10, .int .u8 1, .int .u8 2, .int .u8 3] w' fun e w'' => e = .returned (.agg (adr false (v4Of 10 1 2 3)).toArray) ∧ Fr No w' w'') := fun w' => v4_ref 10 1 2 3 w'
  have HV2 : Hid (∀ w', Calls Try.prog 50 #[.int .u8 10, .int .u8 2, .int .u8 0, .int .u8 0] w' fun e w'' => e = .returned (.agg (adr false (v4Of 10 2 0 0)).toArray) ∧ Fr No w' w'') := fun w' => v4_ref 10 2 0 0 w'
  have HV3 : Hid (∀ w', Calls Try.prog 50 #[.int .u8 10, .int .u8 1, .int .u8 0, .int .u8 0] w' fun e w'' => e = .returned (.agg (adr false (v4Of 10 1 0 0)).toArray) ∧ Fr No w' w'') := fun w' => v4_ref 10 1 0 0 w'
  have HW := Lib.hid (And.intro hZ (And.intro hP (And.intro hQ (And.intro hP1 hQ1))))
  obtain ⟨A1, hA1⟩ : ∃ A1, (adr false (v4Of 10 1 2 3)).toArray = A1 := ⟨_, rfl⟩
  obtain ⟨A2, hA2⟩ : ∃ A2, (adr false (v4Of 10 2 0 0)).toArray = A2 := ⟨_, rfl⟩
  obtain ⟨A3, hA3⟩ : ∃ A3, (adr false (v4Of 10 1 0 0)).toArray = A3 := ⟨_, rfl⟩
  have HMT : Hid (∀ (w' : World) (a : Nat) (X : Nat → Prop), StS w' a [(pA, sA), (qA, sB)] X → Calls Try.prog 52 #[.pointer (some ⟨a, 0, none⟩), .agg A3] w' fun e w'' => ∃ ad cp, e = .returned (.slice ad 2 cp) ∧ RowP w'' ad [pA, qA] ∧ Fr No w' w'') := fun w' a X h1 => by
    have h := matchesSS h1 false (v4Of 10 1 0 0) (bA 10 1 0 0 (by decide) (by decide) (by decide) (by decide))
    rw [in3, hA3] at h
    refine h.mono ?_
    rintro e w'' ⟨ad, cp, he, hown, hf⟩
    refine ⟨ad, cp, he, (RowP.own (fun q hq => ?_) hown).1, hf⟩
    simp only [List.map_cons, List.map_nil, List.mem_cons, List.not_mem_nil, or_false] at hq
    rcases hq with rfl | rfl
    · exact bA 10 0 0 0 (by decide) (by decide) (by decide) (by decide)
    · exact bA 10 1 0 0 (by decide) (by decide) (by decide) (by decide)
  rw [hA1] at HLK1 HV1
  rw [hA2] at HLK2 HV2
  rw [hA3] at HV3
  clear hZ hP hQ hP1 hQ1 hA1 hA2 hA3
  have q31 := Try.eqGuardType31
  go_enter Try.func20, Try.ntmps20
  have t3 := Try.underlying3
  have u3 := Try.runUnderlying3
  have g3 := Try.isAgg3
  have z3 := Try.sizeOf3
  have t4 := Try.underlying4
  have u4 := Try.runUnderlying4
  have g4 := Try.isAgg4
  have z4 := Try.sizeOf4
  have t5 := Try.underlying5
  have u5 := Try.runUnderlying5
  have g5 := Try.isAgg5
  have z5 := Try.sizeOf5
  have t9 := Try.underlying9
  have u9 := Try.runUnderlying9
  have g9 := Try.isAgg9
  have z9 := Try.sizeOf9
  have t29 := Try.underlying29
  have u29 := Try.runUnderlying29
  have g29 := Try.isAgg29
  have z29 := Try.sizeOf29
  have t31 := Try.underlying31
  have u31 := Try.runUnderlying31
  have g31 := Try.isAgg31
  have z31 := Try.sizeOf31
  have t47 := Try.underlying47
  have u47 := Try.runUnderlying47
  have g47 := Try.isAgg47
  have z47 := Try.sizeOf47
  have t90 := Try.underlying90
  have u90 := Try.runUnderlying90
  have g90 := Try.isAgg90
  have z90 := Try.sizeOf90
  have c46 := Try.call46
  have c47 := Try.call47
  have c48 := Try.call48
  have c49 := Try.call49
  have c50 := Try.call50
  have c51 := Try.call51
  have c52 := Try.call52
  have c35 := Try.call35
  have mixed : Try.prog.follows .mixedOrders = true := by kernel_rfl
  obtain ⟨k30, hk30⟩ : ∃ k, k = 17 := ⟨_, rfl⟩
  rw [← hk30] at z29
  have nk30 : ¬ k30 = 0 := by omega
  have HK29 := Lib.hid hk30
  obtain ⟨k40, hk40⟩ : ∃ k, k = 18 := ⟨_, rfl⟩
  rw [← hk40] at z31
  have nk40 : ¬ k40 = 0 := by omega
  have HK31 := Lib.hid hk40
  have hP : Try.prog = PD := rfl
  rw [hP] at t3 u3 g3 z3 t4 u4 g4 z4 t5 u5 g5 z5 t9 u9 g9 z9 t29 u29 g29 z29 t31 u31 g31 z31 t47 u47 g47 z47 t90 u90 g90 z90 c46 c47 c48 c49 c50 c51 c52 c35 mixed v31 q31 ⊢
  have HP := Lib.hid hP.symm
  clear hP hk30 hk40
  have hZk : Z.size = k40 := by rw [HK31.out]; exact hz18
  have hPk : P.size = k40 := by rw [HK31.out]; exact hPs
  have hQk : Q.size = k40 := by rw [HK31.out]; exact hQs
  clear hz18 hPs hQs
  go_upto_region 4 with (first | (go_at_call 46; go_loud (refine (at_prog HP.out (newSS _ (fun k => k < w.heap.size) (fun k hk => hk))).mono ?_; rintro e w1 ⟨a, rfl, ha, hf1, hS1⟩)) | (go_at_call 47; (with_reducible refine (at_prog HP.out (HPA.out _)).mono ?_; rintro e w2 ⟨rfl, hf2⟩; obtain ⟨y2, hst2, hyb2, hyf2⟩ := store_all (P := PD) P.toList (heap_alloc_new w2 (.cells Z 31)) (by rw [Array.length_toList, hPk, hZk]) HW.out.2.2.2.1)) | (go_at_call 47; (with_reducible refine (at_prog HP.out (HPB.out _)).mono ?_; rintro e w3 ⟨rfl, hf3⟩; obtain ⟨y3, hst3, hyb3, hyf3⟩ := store_all (P := PD) Q.toList (heap_alloc_new w3 (.cells Z 31)) (by rw [Array.length_toList, hQk, hZk]) HW.out.2.2.2.2)) | fail)
  obtain ⟨b2, hb2⟩ : ∃ b2, w2.heap.size = b2 := ⟨_, rfl⟩
  obtain ⟨b3, hb3⟩ : ∃ b3, w3.heap.size = b3 := ⟨_, rfl⟩
  rw [hb2] at hyb2 hyf2
  rw [hb3] at hyb3 hyf3
  have K2 : Fr No w1 y2 := (hf2.trans (Fr.alloc No w2 (.cells Z 31))).ofNew hyf2 fun k hk => .inr (by rw [hk, ← hb2]; exact hf2.size)
  have K3 : Fr No y2 y3 := (hf3.trans (Fr.alloc No w3 (.cells Z 31))).ofNew hyf3 fun k hk => .inr (by rw [hk, ← hb3]; exact hf3.size)
  obtain ⟨X, hX⟩ : ∃ X : Nat → Prop, (fun k => k < w.heap.size ∨ k = b2 ∨ k = b3) = X := ⟨_, rfl⟩
  have c3 := K3.keep hyb2
  have H0 : Hid (StS y3 a [] X ∧ (∀ k, X k → k < y3.heap.size) ∧ y3.heap[b2]? = some (.cells P 31 (0, 0)) ∧ y3.heap[b3]? = some (.cells Q 31 (0, 0)) ∧ Fr No w y3 ∧ X b2 ∧ X b3 ∧ ∀ k, ¬ X k → w.heap.size ≤ k) := by
    refine ⟨(hS1.add (Y := X) fun k hk => ?_).no (K2.trans K3), fun k hk => ?_, by simpa using c3, by simpa using hyb3, (hf1.trans K2).trans K3, ?_, ?_, fun k hk => ?_⟩
    · rw [← hX] at hk
      rcases hk with hk | hk | hk
      · exact .inl hk
      · exact .inr (by rw [hk, ← hb2]; exact hf2.size)
      · exact .inr (by rw [hk, ← hb3]; exact Nat.le_trans K2.size hf3.size)
    · rw [← hX] at hk
      rcases hk with hk | hk | hk
      · have := (hf1.trans K2).size; have := K3.size; omega
      · rw [hk]; exact some_lt c3
      · rw [hk]; exact some_lt hyb3
    · rw [← hX]; exact .inr (.inl rfl)
    · rw [← hX]; exact .inr (.inr rfl)
    · rw [← hX] at hk
      exact Nat.le_of_not_lt fun hc => hk (.inl hc)
  rw [hb2, hb3]
  clear hst2 hst3 hyb2 hyb3 hyf2 hyf3 hf1 hf2 hf3 hS1 ha K2 K3 c3 hb2 hb3 hX
  have lP0 : Sem.run PD (loadCellsFrom ⟨b2, 0, none⟩ 0 k40 #[]) y3 = .ok P y3 := load_block H0.out.2.2.1 hPk (fun j v hv => by simpa using hv)
  go_upto_region 8 with (first | (go_at_call 48; (with_reducible refine (at_prog HP.out (HI1.out _ a X H0.out.1 H0.out.2.1)).mono ?_; rintro e w4 ⟨rfl, hS4, hf4⟩; have b34 := (hf4.block b3 (some_lt H0.out.2.2.2.1) (fun hc => absurd H0.out.2.2.2.2.2.2.1 hc)).trans H0.out.2.2.2.1; have b24 := (hf4.block b2 (some_lt H0.out.2.2.1) (fun hc => absurd H0.out.2.2.2.2.2.1 hc)).trans H0.out.2.2.1; have lQ4 : Sem.run PD (loadCellsFrom ⟨b3, 0, none⟩ 0 k40 #[]) w4 = .ok Q w4 := load_block b34 hQk (fun j v hv => by simpa using hv))) | (go_at_call 48; (with_reducible refine (at_prog HP.out (HI2.out _ a X hS4 (fun k hk => Nat.lt_of_lt_of_le (H0.out.2.1 k hk) hf4.size))).mono ?_; rintro e w5 ⟨rfl, hS5, hf5⟩; have b35 := (hf5.block b3 (some_lt b34) (fun hc => absurd H0.out.2.2.2.2.2.2.1 hc)).trans b34; have b25 := (hf5.block b2 (some_lt b24) (fun hc => absurd H0.out.2.2.2.2.2.1 hc)).trans b24)) | (go_at_call 50; (with_reducible refine (at_prog HP.out (HV1.out _)).mono ?_; rintro e w6 ⟨rfl, hf6⟩)) | (go_at_call 49; (with_reducible refine (at_prog HP.out (HLK1.out _ a X (hS5.no hf6))).mono ?_; rintro e w7 ⟨rfl, hf7⟩; obtain ⟨y7, hst7, hyb7, hyf7⟩ := store_all (P := PD) Q.toList (heap_alloc_new w7 (.cells Z 31)) (by rw [Array.length_toList, hQk, hZk]) HW.out.2.2.2.2; have K7 : Fr No w5 y7 := ((hf6.trans hf7).trans (Fr.alloc No w7 (.cells Z 31))).ofNew hyf7 (fun k hk => .inr (by rw [hk]; exact (hf6.trans hf7).size)))) | (go_at_call 50; (with_reducible refine (at_prog HP.out (HV2.out _)).mono ?_; rintro e w8 ⟨rfl, hf8⟩)) | (go_at_call 49; (with_reducible refine (at_prog HP.out (HLK2.out _ a X (hS5.no (K7.trans hf8)))).mono ?_; rintro e w9 ⟨rfl, hf9⟩; obtain ⟨y9, hst9, hyb9, hyf9⟩ := store_all (P := PD) P.toList (heap_alloc_new w9 (.cells Z 31)) (by rw [Array.length_toList, hPk, hZk]) HW.out.2.2.2.1; have K9 : Fr No y7 y9 := ((hf8.trans hf9).trans (Fr.alloc No w9 (.cells Z 31))).ofNew hyf9 (fun k hk => .inr (by rw [hk]; exact (hf8.trans hf9).size)))) | fail)
  obtain ⟨b7, hb7⟩ : ∃ b7, w7.heap.size = b7 := ⟨_, rfl⟩
  obtain ⟨b9, hb9⟩ : ∃ b9, w9.heap.size = b9 := ⟨_, rfl⟩
  rw [hb7] at hyb7 hyf7
  rw [hb9] at hyb9 hyf9
  rw [hb7, hb9]
  have c79 := K9.keep hyb7
  have H9 : Hid (StS y9 a [(pA, sA), (qA, sB)] X ∧ y9.heap[b2]? = some (.cells P 31 (0, 0)) ∧ y9.heap[b3]? = some (.cells Q 31 (0, 0)) ∧ y9.heap[b7]? = some (.cells Q 31 (0, 0)) ∧ y9.heap[b9]? = some (.cells P 31 (0, 0)) ∧ Fr No w y9) := by
    have F5 : Fr No w w5 := H0.out.2.2.2.2.1.ofNew (hf4.trans hf5) fun k hk => .inr (Nat.le_trans (H0.out.2.2.2.2.2.2.2 k hk) (Nat.le_refl _))
    exact ⟨hS5.no (K7.trans K9), (K7.trans K9).keep b25, (K7.trans K9).keep b35, by simpa using c79, by simpa using hyb9, (F5.trans K7).trans K9⟩
  have hEQq : ∀ w', Sem.run PD (Op.equalIn 10000 31 (.agg Q) (.agg Q)) w' = .ok true w' := fun w' => by
    have bq : Bytes qA.xs := bA 10 1 0 0 (by decide) (by decide) (by decide) (by decide)
    rw [HP.out, ← HW.out.2.2.1, pfx_eq qA.n qA.n bq bq w', decide_eq_true ⟨⟨rfl, rfl⟩, rfl⟩]
  have hEQp : ∀ w', Sem.run PD (Op.equalIn 10000 31 (.agg P) (.agg P)) w' = .ok true w' := fun w' => by
    have bp : Bytes pA.xs := bA 10 0 0 0 (by decide) (by decide) (by decide) (by decide)
    rw [HP.out, ← HW.out.2.1, pfx_eq pA.n pA.n bp bp w', decide_eq_true ⟨⟨rfl, rfl⟩, rfl⟩]
  have HS : Hid (∀ w', Fr No y9 w' → Fr No y9 w' ∧ Sem.run PD (loadCellsFrom ⟨b7, 0, none⟩ 0 k40 #[]) w' = .ok Q w' ∧ Sem.run PD (loadCellsFrom ⟨b3, 0, none⟩ 0 k40 #[]) w' = .ok Q w' ∧ Sem.run PD (loadCellsFrom ⟨b9, 0, none⟩ 0 k40 #[]) w' = .ok P w' ∧ Sem.run PD (loadCellsFrom ⟨b2, 0, none⟩ 0 k40 #[]) w' = .ok P w') := fun w' hf => ⟨hf, load_block (hf.keep H9.out.2.2.2.1) hQk (fun j v hv => by simpa using hv), load_block (hf.keep H9.out.2.2.1) hQk (fun j v hv => by simpa using hv), load_block (hf.keep H9.out.2.2.2.2.1) hPk (fun j v hv => by simpa using hv), load_block (hf.keep H9.out.2.1) hPk (fun j v hv => by simpa using hv)⟩
  have hkb : ¬ 16777216 < 2 * k40 := by rw [HK31.out]; decide
  have hk0 : ¬ 2 * k40 = 0 := by rw [HK31.out]; decide
  have hk1 : ¬ 2 * k40 < k40 := by omega
  have hk2 : ¬ 2 * k40 < k40 + k40 := by omega
  obtain ⟨M, R, hM1, hMs, hM2, hR⟩ := two_parts (k := k40) (Array.map (fun x => Z[x % k40]!) (Array.range (2 * k40))) P Q hPk hQk (by simp)
  have HR : Hid (R.toList = flatP [pA, qA]) := by show _ = _; rw [hR, ← HW.out.2.1, ← HW.out.2.2.1]; simp [flatP]
  have HRR : Hid (∀ W W' : World, Fr No (W.alloc (.cells R 31)) W' → RowP W' (some ⟨W.heap.size, 0, none⟩) [pA, qA]) := fun W W' hf => by
    refine ⟨fun q hq => ?_, fun _ => ⟨_, 0, R, 31, (0, 0), rfl, hf.keep (heap_alloc_new W _), fun j v hj => ?_⟩⟩
    · simp only [List.mem_cons, List.not_mem_nil, or_false] at hq
      rcases hq with rfl | rfl
      · exact bA 10 0 0 0 (by decide) (by decide) (by decide) (by decide)
      · exact bA 10 1 0 0 (by decide) (by decide) (by decide) (by decide)
    · rw [Nat.zero_add, ← Array.getElem?_toList, HR.out]; exact hj
  have HRR0 : Hid (∀ W' : World, Fr No (y9.alloc (.cells R 31)).drew W' → RowP W' (some ⟨y9.heap.size, 0, none⟩) [pA, qA]) := fun W' h => HRR.out y9 W' ((Fr.drew No _).trans h)
  clear hR
  have e1 : ((⟨#[98]⟩ : ByteArray).toList == (⟨#[98]⟩ : ByteArray).toList) = true := by simp
  have e2 : ((⟨#[97]⟩ : ByteArray).toList == (⟨#[97]⟩ : ByteArray).toList) = true := by simp
  have f0 := HS.out _ (Fr.drew No y9)
  clear hst7 hst9 hyb7 hyb9 hyf7 hyf9 hf4 hf5 hf6 hf7 hf8 hf9 b34 b24 b35 b25 lQ4 hS4 hS5 K7 K9 c79 hb7 hb9 lP0 HPA HPB HI1 HI2 HLK1 HLK2 HV1 HV2 HW
  go_region_held3 (fun w' => Fr No y9 w' ∧ Sem.run PD (loadCellsFrom ⟨b7, 0, none⟩ 0 k40 #[]) w' = .ok Q w' ∧ Sem.run PD (loadCellsFrom ⟨b3, 0, none⟩ 0 k40 #[]) w' = .ok Q w' ∧ Sem.run PD (loadCellsFrom ⟨b9, 0, none⟩ 0 k40 #[]) w' = .ok P w' ∧ Sem.run PD (loadCellsFrom ⟨b2, 0, none⟩ 0 k40 #[]) w' = .ok P w') (first | assumption | (with_reducible exact HS.out _ K12) | (with_reducible exact HS.out _ K11) | (with_reducible exact HS.out _ K10) | (with_reducible exact HS.out _ (Fr.trans (And.left (by assumption)) (Fr.alloc No _ _)))) (first | (go_at_call 51; go_loud (with_reducible refine (at_prog HP.out (lenSS (H9.out.1.no (And.left (by assumption))))).mono ?_; rintro e wl ⟨rfl, hwl⟩; replace hwl := hwl.symm; subst hwl)) | (go_at_call 50; go_loud (with_reducible refine (at_prog HP.out (HV3.out _)).mono ?_; rintro e w10 ⟨rfl, hf10⟩; have K10 : Fr No y9 w10 := Fr.trans (And.left (by assumption)) hf10)) | (go_at_call 52; go_loud (with_reducible refine (at_prog HP.out (HMT.out _ a X (H9.out.1.no (And.left (by assumption))))).mono ?_; rintro e w11 ⟨ad, cp, rfl, hrow, hf11⟩; have K11 : Fr No y9 w11 := Fr.trans (And.left (by assumption)) hf11)) | (go_at_call 35; first | (with_reducible refine (at_prog HP.out (equal_two rfl hrow (HRR0.out _ (hf10.trans hf11)))).mono ?_; rintro e w12 ⟨rfl, hf12⟩; have K12 : Fr No y9 w12 := Fr.trans (And.left (by assumption)) hf12) | (with_reducible refine (at_prog HP.out (equal_two rfl hrow (HRR.out _ _ (hf10.trans hf11)))).mono ?_; rintro e w12 ⟨rfl, hf12⟩; have K12 : Fr No y9 w12 := Fr.trans (And.left (by assumption)) hf12) | (with_reducible refine (at_prog HP.out (equal_two rfl hrow (HRR.out _ _ hf11))).mono ?_; rintro e w12 ⟨rfl, hf12⟩; have K12 : Fr No y9 w12 := Fr.trans (And.left (by assumption)) hf12) | (with_reducible refine (at_prog HP.out (equal_two rfl (hrow.no (Fr.alloc No _ _)) (HRR.out _ _ (Fr.refl _ _)))).mono ?_; rintro e w12 ⟨rfl, hf12⟩; have K12 : Fr No y9 w12 := Fr.trans (And.left (by assumption)) hf12)))
  all_goals (
    go_wp2_with fail
    go_ret
    exact ⟨rfl, H9.out.2.2.2.2.2.trans K12⟩)
end Go.Proofs.Ytnbohhiooigmbaa
