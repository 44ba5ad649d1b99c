/-
  THE LAW TrieLongestMatch: its walk.
  Conditions: the list lies in memory.
-/
import Derived.Test.YtnbohhiooigmbaaXoI
import Derived.Test.YtnbohhiooigmbaaAw
import Derived.Test.YtnbohhiooigmbaaL4p
import Derived.Test.YtnbohhiooigmbaaR10
import Derived.Test.YtnbohhiooigmbaaGc
import Derived.Deep.Slices
import Derived.ChangeMaps5
import Derived.Deep.DeepCutAuto
import Derived.Deep.CutBlock
namespace Go.Proofs.Ytnbohhiooigmbaa
open Go.ChangeShapes Go.WideShapes Go.ChangeAt Go.RowKit
set_option linter.unusedVariables false

/-- A list of numbers as it came in: where it lies, element by element. -/
def InI (w : World) (a : Option Addr) (n : Nat) : Prop := n ≤ 9223372036854775807 ∧ ∀ i, i < n → ∃ (b o : Nat) (z : Int), a = some ⟨b, o, none⟩ ∧ w.cell? ⟨b, o + i, none⟩ = some (.int .i64 z)
theorem cells3 : Try.prog.cellsOf 3 = 1 := by kernel_rfl
theorem ints_open {H : Type} {enc : TypeId × Value → H} {w : World} {spare : Nat → Bool} {held : Bool} {fuel : Nat} {a : Option Addr} {n c : Nat} {x : DataW H × List MemPlace} (h : DataW.trod enc Try.prog w 0 spare held fuel 51 [.slice a n c] = some x) : InI w a n := by
  rcases Go.Deep.open_slice Try.underlying51 h with ⟨hcs, _⟩ | ⟨ad, len, cap, m, n', Dd, Pl, hcs, hb, hl, hm, hmm, hx, hall⟩
  · cases hcs
    exact ⟨by omega, fun i hi => by omega⟩
  · cases hcs
    unfold maxLen at hm
    simp only [cells3, Nat.mul_one] at hall
    refine ⟨by omega, fun i hi => ?_⟩
    have him : i < m := by rw [hmm]; split <;> omega
    obtain ⟨cs, hc, ht⟩ := hall i him
    obtain ⟨z, hz, _, _⟩ := DataW.trod_int Try.underlying3 ht
    unfold World.cells? at hc
    split at hc
    · have hg := mapM_some_get hc 0 0 (by simp)
      rw [hz] at hg
      have hg' : w.cell? ((ad.add i).add 0) = some (.int .i64 z) := hg
      obtain ⟨cs0, hc0, _⟩ := hall 0 (by omega)
      unfold World.cells? at hc0
      split at hc0
      · have hl0 := mapM_some_length hc0
        have hg0 := mapM_some_get hc0 0 0 (by simp)
        simp only [List.length_range] at hl0
        rw [List.getElem?_eq_getElem (by omega)] at hg0
        have hsp := World.cell?_spot hg0
        obtain ⟨b, off, spot⟩ := ad
        have hspot : spot = none := by simpa [Addr.add] using hsp
        subst hspot
        simp only [Go.WideShapes.add_plain, Nat.add_zero] at hg'
        exact ⟨b, off, z, rfl, hg'⟩
      · cases hc0
    · cases hc
def offs : List Value := List.replicate 129 (.bool false)
theorem zero52 : ∀ w, (zeroValue 52).run Try.prog w = .ok (.agg offs.toArray) w := by
  intro w
  kernel_rfl
def bitN (b : Bool) : Nat := if b then 128 else 32
theorem bitN_of (b : Bool) : bitsOf b = (bitN b : Int) ∧ bitN b ≤ 128 := by cases b <;> exact ⟨rfl, by decide⟩
theorem pof_k {b : Bool} {xs : List Nat} (hv : validA b xs = true) {m : Nat} (hm : m < bitN b + 1) : pofB b xs m = true := by
  unfold pofB
  have := (bitN_of b).1
  rw [hv, decide_eq_true (by omega : (0 : Int) ≤ m), decide_eq_true (by omega : (m : Int) ≤ bitsOf b)]
  rfl
theorem St.mono {N V T : TypeId} {w : World} {a : Nat} {L : List (Px × Value)} {X Y : Nat → Prop} (h : St N V T w a L X) (hY : ∀ k, Y k → X k) : St N V T w a L Y := by
  obtain ⟨t4, t6, h1, h2, h3⟩ := h
  exact ⟨t4, t6, h1, h2, fun k hk hy => h3 k hk (hY k hy)⟩
theorem insert_pN {w : World} {a : Nat} {L : List (Px × Value)} {X : Nat → Prop} (hS : StI w a L X) (hX : ∀ k, X k → k < w.heap.size) (hM : L.length ≤ 100000) {b : Bool} {gx : List Nat} (hg : Bytes gx) (hv : validA b gx = true) {k : Nat} (hk : k < bitN b + 1) :
    Calls Try.prog 11 #[.pointer (some ⟨a, 0, none⟩), .agg (pfx b (pofX b gx k) k).toArray, .int .i64 (k : Int)] w fun e w' => e = .returned (.bool true) ∧ StI w' a (putL (pN b gx k) (.int .i64 (k : Int)) L) X ∧ Fr (fun k => ¬ X k) w w' := by
  have h := insertSI hS hX hM (pN b gx k) (pofX_bytes hg _) (.int .i64 (k : Int)) ⟨_, rfl⟩
  rw [show validP (pN b gx k).b (pN b gx k).xs (pN b gx k).n = true from pof_valid hg (pof_k hv hk), if_pos rfl] at h
  exact h

theorem two_sets {N V T : TypeId} {w y : World} {a : Nat} {L : List (Px × Value)} {X XY : Nat → Prop} {p b9 bS : Nat} (hXY : XY = fun k => X k ∨ k = p) (hS : St N V T w a L X) (hf : Fr No w y) (hp : w.heap.size ≤ p) (hX : ∀ k, X k → k < w.heap.size) (hy : p < y.heap.size) (h9 : X b9) (hb : X bS) :
    Hid (St N V T y a L XY ∧ (∀ k, XY k → k < y.heap.size) ∧ XY b9 ∧ XY bS ∧ XY p ∧ ∀ k, X k → XY k) := by
  subst hXY
  exact ⟨(hS.add (Y := fun k => X k ∨ k = p) fun k hk => hk.imp id fun h => by rw [h]; exact hp).no hf, fun k hk => hk.elim (fun h => Nat.lt_of_lt_of_le (hX k h) hf.size) (fun h => by rw [h]; exact hy), .inl h9, .inl hb, .inr rfl, fun k h => .inl h⟩

set_option maxHeartbeats 8000000 in
set_option maxRecDepth 100000 in
theorem longest_walk (b0 : Bool) (xs0 : List Nat) (a1 : Option Addr) (n c1 : Nat) (b2 : Bool) (xs2 : List Nat) (w : World) (hx0 : Bytes xs0) (ha : InI w a1 n) (hx2 : Bytes xs2) :
    Calls Try.prog 4 #[.agg (adr b0 xs0).toArray, .slice a1 n c1, .agg (adr b2 xs2).toArray] w fun e w' => e = .returned (.bool true) ∧ Fr No w w' := by
  obtain ⟨A, hA, -, hAs, -⟩ := adr_letter b0 xs0 hx0
  obtain ⟨B, hB, hB0, hBs, -⟩ := adr_letter b2 xs2 hx2
  obtain ⟨Z, hZ⟩ : ∃ Z : Array Value, noP.toArray = Z := ⟨_, rfl⟩
  obtain ⟨Y, hY⟩ : ∃ Y : Array Value, (adr false zeros).toArray = Y := ⟨_, rfl⟩
  have v31 := zero31
  rw [hZ] at v31
  have v29 := zero29
  obtain ⟨O, hO⟩ : ∃ O : Array Value, offs.toArray = O := ⟨_, rfl⟩
  have v52 := zero52
  rw [hO] at v52
  have HO : Hid (O.size = 129 ∧ ∀ k, k < 129 → O[k]? = some (.bool false)) := ⟨by rw [← hO]; rfl, fun k hk => by rw [← hO, List.getElem?_toArray, offs, List.getElem?_replicate, if_pos hk]⟩
  clear hO
  rw [hY] at v29
  have hZs : Z.size = 18 := by rw [← hZ]; rfl
  have hYs : Y.size = 17 := by rw [← hY]; rfl
  have hgx : Bytes (genX b0 xs0) := gen_bytes hx0
  have hgv : validA b0 (genX b0 xs0) = true := gen_valid b0 xs0
  have hg2 : Bytes (genX b2 xs2) := gen_bytes hx2
  have hv2 : validA b2 (genX b2 xs2) = true := gen_valid b2 xs2
  have HVA : Hid (∀ w', Calls Try.prog 21 #[.agg A] w' fun e w'' => e = .returned (.agg (adr b0 (genX b0 xs0)).toArray) ∧ Fr No w' w'') := fun w' => by rw [← hA]; exact validAddr_gen b0 xs0 hx0 w'
  have HVB : Hid (∀ w', Calls Try.prog 21 #[.agg B] w' fun e w'' => e = .returned (.agg (adr b2 (genX b2 xs2)).toArray) ∧ Fr No w' w'') := fun w' => by rw [← hB]; exact validAddr_gen b2 xs2 hx2 w'
  obtain ⟨gx, hgxe⟩ : ∃ gx, genX b0 xs0 = gx := ⟨_, rfl⟩
  obtain ⟨gb, hgbe⟩ : ∃ gb, genX b2 xs2 = gb := ⟨_, rfl⟩
  rw [hgxe] at hgx hgv HVA
  rw [hgbe] at hg2 hv2 HVB
  obtain ⟨G, hG, hG0, hGs, -⟩ := adr_letter b0 gx hgx
  obtain ⟨D, hD, -, hDs, -⟩ := adr_letter b2 gb hg2
  rw [hG] at HVA
  rw [hD] at HVB
  have hG1 : ∀ u ∈ G.toList, u.oneCell' = true := by rw [← hG]; exact adr_one _ _
  have hD1 : ∀ u ∈ D.toList, u.oneCell' = true := by rw [← hD]; exact adr_one _ _
  have HA := Lib.hid ha
  have hn : n ≤ 9223372036854775807 := ha.1
  have HW := Lib.hid (And.intro hZ (And.intro hG (And.intro hD (And.intro hgx (And.intro hgv (And.intro hg2 (And.intro hv2 (And.intro hG1 (And.intro hD1 (And.intro hG0 hB0))))))))))
  rw [hA, hB]
  clear ha hA hB hx0 hx2 hgx hgv hg2 hv2 hG hD hG1 hD1 hG0 hB0 hgxe hgbe
  go_enter Try.func4, Try.ntmps4
  have t3 := Try.underlying3
  have u3 := Try.runUnderlying3
  have g3 := Try.isAgg3
  have z3 := Try.sizeOf3
  have t4 := Try.underlying4
  have u4 := Try.runUnderlying4
  have g4 := Try.isAgg4
  have z4 := Try.sizeOf4
  have t24 := Try.underlying24
  have u24 := Try.runUnderlying24
  have g24 := Try.isAgg24
  have z24 := Try.sizeOf24
  have t29 := Try.underlying29
  have u29 := Try.runUnderlying29
  have g29 := Try.isAgg29
  have z29 := Try.sizeOf29
  have t31 := Try.underlying31
  have u31 := Try.runUnderlying31
  have g31 := Try.isAgg31
  have z31 := Try.sizeOf31
  have t47 := Try.underlying47
  have u47 := Try.runUnderlying47
  have g47 := Try.isAgg47
  have z47 := Try.sizeOf47
  have t51 := Try.underlying51
  have u51 := Try.runUnderlying51
  have g51 := Try.isAgg51
  have z51 := Try.sizeOf51
  have t52 := Try.underlying52
  have u52 := Try.runUnderlying52
  have g52 := Try.isAgg52
  have z52 := Try.sizeOf52
  have c7 := Try.call7
  have c9 := Try.call9
  have c11 := Try.call11
  have c20 := Try.call20
  have c21 := Try.call21
  have c22 := Try.call22
  have c23 := Try.call23
  have c24 := Try.call24
  have c25 := Try.call25
  have c26 := Try.call26
  have mixed : Try.prog.follows .mixedOrders = true := by kernel_rfl
  obtain ⟨k30, hk30⟩ : ∃ k, k = 17 := ⟨_, rfl⟩
  rw [← hk30] at z29
  have nk30 : ¬ k30 = 0 := by omega
  have HK29 := Lib.hid hk30
  obtain ⟨k40, hk40⟩ : ∃ k, k = 18 := ⟨_, rfl⟩
  rw [← hk40] at z31
  have nk40 : ¬ k40 = 0 := by omega
  have HK31 := Lib.hid hk40
  obtain ⟨k52, hk52⟩ : ∃ k, k = 129 := ⟨_, rfl⟩
  rw [← hk52] at z52
  have nk52 : ¬ k52 = 0 := by omega
  have HK52 := Lib.hid hk52
  have hP : Try.prog = PD := rfl
  rw [hP] at t3 u3 g3 z3 t4 u4 g4 z4 t24 u24 g24 z24 t29 u29 g29 z29 t31 u31 g31 z31 t47 u47 g47 z47 t51 u51 g51 z51 t52 u52 g52 z52 c7 c9 c11 c20 c21 c22 c23 c24 c25 c26 mixed v31 v29 v52 ⊢
  have HP := Lib.hid hP.symm
  clear hP hk30 hk40 hk52
  have hZk : Z.size = k40 := by rw [HK31.out]; exact hZs
  have hYk : Y.size = k30 := by rw [HK29.out]; exact hYs
  have hAk : A.size = k30 := by rw [HK29.out]; exact hAs
  have hBk : B.size = k30 := by rw [HK29.out]; exact hBs
  have hGk : G.size = k30 := by rw [HK29.out]; exact hGs
  have hDk : D.size = k30 := by rw [HK29.out]; exact hDs
  clear hZs hYs hAs hBs hGs hDs
  obtain ⟨w0, hw0⟩ : ∃ w0, (w.alloc (.cells A 29)).alloc (.cells B 29) = w0 := ⟨_, rfl⟩
  have F0 : Fr No w w0 := by rw [← hw0]; exact (Fr.alloc No w _).trans (Fr.alloc No _ _)
  have k3 : w0.heap[w.heap.size]? = some (.cells A 29 (0, 0)) := by rw [← hw0]; exact (Fr.alloc No _ _).keep (heap_alloc_new w _)
  have k5 : w0.heap[w.heap.size + 1]? = some (.cells B 29 (0, 0)) := by rw [← hw0]; simpa using heap_alloc_new (w.alloc (.cells A 29)) (.cells B 29)
  obtain ⟨b3, hb3⟩ : ∃ b3, w.heap.size = b3 := ⟨_, rfl⟩
  rw [hb3] at k3 k5
  obtain ⟨b5, hb5⟩ : ∃ b5, b3 + 1 = b5 := ⟨_, rfl⟩
  rw [hb5] at k5
  go_upto_region 2 with (first | (go_at_call 7; go_loud (refine (at_prog HP.out (newSI w0 (fun k => k < w0.heap.size) (fun k hk => hk))).mono ?_; rintro e w1 ⟨t, rfl, ht, hf1, hS1⟩)) | fail)
  have l31 : Sem.run PD (loadCellsFrom ⟨b3, 0, none⟩ 0 k30 #[]) w1 = .ok A w1 := load_block (hf1.keep k3) hAk (fun j v hv => by simpa using hv)
  go_upto_region 6 with (first | (go_at_call 21; ((with_reducible refine (at_prog HP.out (HVA.out _)).mono ?_); rintro e w2 ⟨rfl, hf2⟩; obtain ⟨y2, hst2, hyb2, hyf2⟩ := store_all (P := PD) G.toList (heap_alloc_new w2 (.cells Y 29)) (by rw [Array.length_toList, hGk, hYk]) HW.out.2.2.2.2.2.2.2.1; have K2 : Fr No w1 y2 := (hf2.trans (Fr.alloc No w2 (.cells Y 29))).ofNew hyf2 (fun k hk => .inr (by rw [hk]; exact hf2.size)); have l82 : Sem.run PD (loadCellsFrom ⟨w2.heap.size, 0, none⟩ 0 k30 #[]) y2 = .ok G y2 := load_block hyb2 hGk (fun j v hv => by simpa using hv); obtain ⟨y3, hst3, hyb3, hyf3⟩ := store_all (P := PD) G.toList (heap_alloc_new y2 (.cells Y 29)) (by rw [Array.length_toList, hGk, hYk]) HW.out.2.2.2.2.2.2.2.1; have K3 : Fr No y2 y3 := (Fr.alloc No y2 (.cells Y 29)).ofNew hyf3 (fun k hk => .inr (by rw [hk]; exact Nat.le_refl _)))) | fail)
  obtain ⟨b8, hb8⟩ : ∃ b8, w2.heap.size = b8 := ⟨_, rfl⟩
  obtain ⟨b9, hb9⟩ : ∃ b9, y2.heap.size = b9 := ⟨_, rfl⟩
  rw [hb8] at hyb2 hyf2 l82 hst2
  rw [hb9] at hyb3 hyf3 hst3
  have k83 : y3.heap[b8]? = some (.cells G 29 (0, 0)) := by simpa using K3.keep hyb2
  have k93 : y3.heap[b9]? = some (.cells G 29 (0, 0)) := by simpa using hyb3
  have k53 : y3.heap[b5]? = some (.cells B 29 (0, 0)) := ((hf1.trans K2).trans K3).keep k5
  have c50 : y3.cell? ⟨b5, 0, none⟩ = some (.bool b2) := by rw [cell_of_row _ _ _ _ _ _ k53]; exact HW.out.2.2.2.2.2.2.2.2.2.2
  have c80 : y3.cell? ⟨b8, 0, none⟩ = some (.bool b0) := by rw [cell_of_row _ _ _ _ _ _ k83]; exact HW.out.2.2.2.2.2.2.2.2.2.1
  have l53 : Sem.run PD (loadCellsFrom ⟨b5, 0, none⟩ 0 k30 #[]) y3 = .ok B y3 := load_block k53 hBk (fun j v hv => by simpa using hv)
  have H3 : Hid (StI w1 t [] (fun k => k < w0.heap.size) ∧ Fr No w1 y3 ∧ Fr No w y3 ∧ w1.heap.size ≤ b8 ∧ w1.heap.size ≤ b9 ∧ w0.heap.size ≤ w1.heap.size ∧ y3.heap[b8]? = some (.cells G 29 (0, 0)) ∧ y3.heap[b9]? = some (.cells G 29 (0, 0)) ∧ (∀ k, ¬ k < w0.heap.size → w.heap.size ≤ k) ∧ b8 ≠ b9) :=
    ⟨hS1, K2.trans K3, (((F0.trans hf1).trans K2).trans K3), by rw [← hb8]; exact hf2.size, by rw [← hb9]; exact K2.size, hf1.size, k83, k93, fun k hk => Nat.le_trans F0.size (Nat.le_of_not_lt hk), fun h => by have := some_lt hyb2; omega⟩
  rw [hb8, hb9]
  clear hst2 hyb2 hyf2 hst3 hyb3 hyf3 K2 K3 l82 hS1 hf1 hf2 ht k3 k5 l31 hb8 hb9 F0 k83 hb3 hb5 hw0
  by_cases hbb : b2 = b0
  · have he : (b2 == b0) = true := by rw [hbb]; simp
    go_upto_region 8 with (first | (go_at_call 21; ((with_reducible refine (at_prog HP.out (HVB.out _)).mono ?_); rintro e w4 ⟨rfl, hf4⟩; obtain ⟨y4, hst4, hyb4, hyf4⟩ := store_all (P := PD) D.toList (hf4.keep k93) (by rw [Array.length_toList, hDk, hGk]) HW.out.2.2.2.2.2.2.2.2.1)) | fail)
    have HU : Hid ((∀ X : Nat → Prop, StI y3 t [] X → X b9 → StI y4 t [] X) ∧ Fr No w y4 ∧ y4.heap[b8]? = some (.cells G 29 (0, 0)) ∧ y4.heap[b9]? = some (.cells D 29 (0, 0)) ∧ y3.heap.size ≤ y4.heap.size) := by
      obtain ⟨g1, g2, g3, g4, g5, g6, g7, g8, g9, g10⟩ := H3.out
      refine ⟨fun X h hx => (h.no hf4).fr hyf4 fun k hk => by rw [hk]; exact hx, (g3.trans hf4).ofNew hyf4 fun k hk => .inr ?_, (hyf4.block b8 (Nat.lt_of_lt_of_le (some_lt g7) hf4.size) g10).trans (hf4.keep g7), by simpa using hyb4, Nat.le_trans hf4.size hyf4.size⟩
      rw [hk]
      exact g9 b9 (by omega)
    have HGY : Hid (Bytes gb ∧ validA b0 gb = true ∧ (adr b0 gb).toArray = D) := ⟨HW.out.2.2.2.2.2.1, by rw [← hbb]; exact HW.out.2.2.2.2.2.2.1, by rw [← hbb]; exact HW.out.2.2.1⟩
    clear hst4 hyb4 hyf4 hf4
    obtain ⟨bS, hbS⟩ : ∃ bS, y4.heap.size = bS := ⟨_, rfl⟩
    obtain ⟨X, hX⟩ : ∃ X : Nat → Prop, (fun k => k < w0.heap.size ∨ k = b8 ∨ k = b9 ∨ k = bS) = X := ⟨_, rfl⟩
    obtain ⟨wl, hwl⟩ : ∃ wl, y4.alloc (.cells O 52) = wl := ⟨_, rfl⟩
    have HL : Hid (StI wl t [] X ∧ (∀ k, X k → k < wl.heap.size) ∧ (∀ k, ¬ X k ∨ k = bS → w.heap.size ≤ k) ∧ Fr No w wl ∧ X b8 ∧ X b9 ∧ X bS ∧ wl.heap[b8]? = some (.cells G 29 (0, 0)) ∧ wl.heap[b9]? = some (.cells D 29 (0, 0)) ∧ wl.heap[bS]? = some (.cells O 52 (0, 0)) ∧ b8 ≠ bS ∧ b9 ≠ bS) := by
      obtain ⟨g1, g2, g3, g4, g5, g6, g7, g8, g9, g10⟩ := H3.out
      obtain ⟨u1, u2, u3, u4, u5⟩ := HU.out
      have hal : Fr No y4 wl := by rw [← hwl]; exact Fr.alloc No _ _
      have kS : wl.heap[bS]? = some (.cells O 52 (0, 0)) := by rw [← hwl, ← hbS]; exact heap_alloc_new _ _
      have m8 : b8 < bS := by rw [← hbS]; exact some_lt u3
      have m9 : b9 < bS := by rw [← hbS]; exact some_lt u4
      have x8 : X b8 := by rw [← hX]; exact .inr (.inl rfl)
      have x9 : X b9 := by rw [← hX]; exact .inr (.inr (.inl rfl))
      have xS : X bS := by rw [← hX]; exact .inr (.inr (.inr rfl))
      refine ⟨(u1 X ((g1.add (Y := X) fun k hk => ?_).no g2) x9).no hal, fun k hk => ?_, fun k hk => ?_, u2.trans hal, x8, x9, xS, hal.keep u3, hal.keep u4, kS, by omega, by omega⟩
      · rw [← hX] at hk
        rcases hk with hk | hk | hk | hk
        · exact .inl hk
        · exact .inr (by rw [hk]; exact g4)
        · exact .inr (by rw [hk]; exact g5)
        · exact .inr (by rw [hk]; omega)
      · rw [← hX] at hk
        rcases hk with hk | hk | hk | hk
        · exact Nat.lt_of_lt_of_le hk (Nat.le_trans g6 (Nat.le_trans g2.size (Nat.le_trans u5 hal.size)))
        · rw [hk]; exact some_lt (hal.keep u3)
        · rw [hk]; exact some_lt (hal.keep u4)
        · rw [hk]; exact some_lt kS
      · rcases hk with hk | hk
        · rw [← hX] at hk
          exact g9 k fun h => hk (.inl h)
        · rw [hk, ← hbS]; exact u2.size
    go_wp2_with fail
    go_loopg [10, 11, 13] 62 (fun g s10 s11 s13 wr => ∃ (i many : Nat) (best : Int), s10 = .int .i64 best ∧ s11 = .int .i64 many ∧ s13 = .int .i64 i ∧ i ≤ 60 ∧ 61 - i < g ∧ -1 ≤ best ∧ best ≤ 128 ∧ many ≤ i ∧ Hid (∃ L S f, StI wr t L X ∧ L.length ≤ i ∧ wr.heap[bS]? = some (.cells S 52 (0, 0)) ∧ S.size = 129 ∧ (∀ k, k < 129 → S[k]? = some (.bool (f k))) ∧ Keep b0 gx gb L f best many ∧ Fr (fun k => ¬ X k ∨ k = bS) wl wr))
    case atStart =>
      exact ⟨0, 0, -1, by go_num, by go_num, by go_num, by omega, by omega, by omega, by omega, by omega, [], O, fun _ => false, HL.out.1, by simp, HL.out.2.2.2.2.2.2.2.2.2.1, HO.out.1, HO.out.2, keep_nil _ _ _, Fr.refl _ _⟩
    case round =>
      obtain ⟨i, many, best, rfl, rfl, rfl, hi60, hig, hb1, hb2, hmi, HR⟩ := hrel
      have p1 : (0 : Int) ≤ (i : Int) := by omega
      by_cases hb : i < n ∧ i < 60
      · obtain ⟨hin, hi4⟩ := hb
        obtain ⟨ba, oa, z, hag, hz⟩ := HA.out.2 i hin
        subst hag
        have p2 : (i : Int) < (n : Int) := by omega
        have p3 : (i : Int) < 60 := by omega
        obtain ⟨L, S, f, hS, hLi, hkS, hSs, hSf, hkp, hf⟩ := HR.out
        obtain ⟨k, hk, hmod⟩ := mod_fix z (bitN b0 + 1) (by omega) (by have := (bitN_of b0).2; omega)
        have hbn := bitN_of b0
        have hgxB := HW.out.2.2.2.1
        have hgxV := HW.out.2.2.2.2.1
        obtain ⟨PP, hPP, -, hP17, hPs, -, hP1⟩ := pfx_letter b0 (pofX b0 gx k) k (pofX_bytes hgxB _)
        have hPk : PP.size = k40 := by rw [HK31.out]; exact hPs
        obtain ⟨hh, hhe⟩ : ∃ hh, has (pN b0 gx k) b0 gb = hh := ⟨_, rfl⟩
        obtain ⟨fk, hfk⟩ : ∃ fk, f k = fk := ⟨_, rfl⟩
        have HPO : Hid (∀ w', Calls Try.prog 23 #[.agg G, .int .i64 (k : Int)] w' fun e w'' => e = .returned (.tuple #[.agg PP, .bool true]) ∧ Fr No w' w'') := fun w' => by
          have h := pof_ref b0 gx k hgxB w'
          rw [pofT, pof_k hgxV hk, if_pos rfl, hPP, HW.out.2.1] at h
          exact h
        have HIP : Hid (∀ (w' : World) (Y : Nat → Prop), StI w' t L Y → (∀ k, Y k → k < w'.heap.size) → Calls Try.prog 11 #[.pointer (some ⟨t, 0, none⟩), .agg PP, .int .i64 (k : Int)] w' fun e w'' => e = .returned (.bool true) ∧ StI w'' t (putL (pN b0 gx k) (.int .i64 (k : Int)) L) Y ∧ Fr (fun k => ¬ Y k) w' w'') := fun w' Y h1 h2 => by
          have h := insert_pN h1 h2 (by omega) hgxB hgxV hk
          rw [hPP] at h
          exact h
        have HCT : Hid (∀ w', Calls Try.prog 24 #[.agg PP, .agg D] w' fun e w'' => e = .returned (.bool hh) ∧ Fr No w' w'') := fun w' => by
          have h := cont_ref b0 b0 (pofX b0 gx k) gb k (pofX_bytes hgxB _) HGY.out.1 w'
          rw [hPP, HGY.out.2.2, show contP b0 (pofX b0 gx k) k b0 gb = hh from hhe] at h
          exact h
        have HKP := keep_step (k := k) hS.srt.1 (putL_srt hS.srt.1) hkp (by omega)
        rw [hhe, hfk] at HKP
        replace HKP := Lib.hid HKP
        obtain ⟨BB, hBB⟩ : ∃ BB, bitN b0 = BB := ⟨_, rfl⟩
        have HBL : Hid (∀ w', Calls Try.prog 22 #[.agg G] w' fun e w'' => e = .returned (.int .i64 (BB : Int)) ∧ Fr No w' w'') := fun w' => by
          have h := bitLen_R b0 G HW.out.2.2.2.2.2.2.2.2.2.1 w'
          rw [hbn.1, hBB] at h
          exact h
        have HMO : Hid (∀ w', Calls Try.prog 9 #[.int .i64 z, .int .i64 ((BB : Int) + 1)] w' fun e w'' => e = .returned (.int .i64 (k : Int)) ∧ w'' = w') := fun w' => by
          have h := hmod w'
          rw [hBB] at h
          exact h
        have hB128 : BB ≤ 128 := by rw [← hBB]; exact hbn.2
        have hw1 : IntKind.i64.wrap ((BB : Int) + 1) = (BB : Int) + 1 := by rw [IntKind.wrap_i64]; omega
        have p5 : (0 : Int) ≤ (k : Int) := by omega
        have p6 : (k : Int) < 129 := by omega
        have hLk : (putL (pN b0 gx k) (.int .i64 (k : Int)) L).length ≤ i + 1 := by rw [putL_len hS.srt.1]; split <;> omega
        have FWR : Fr No w wr := HL.out.2.2.2.1.ofNew hf fun k hk => .inr (HL.out.2.2.1 k hk)
        have x8 := HL.out.2.2.2.2.1
        have x9 := HL.out.2.2.2.2.2.1
        have xS := HL.out.2.2.2.2.2.2.1
        have k8r : wr.heap[b8]? = some (.cells G 29 (0, 0)) := (hf.block b8 (some_lt HL.out.2.2.2.2.2.2.2.1) (fun hc => hc.elim (fun h => h x8) HL.out.2.2.2.2.2.2.2.2.2.2.1)).trans HL.out.2.2.2.2.2.2.2.1
        have k9r : wr.heap[b9]? = some (.cells D 29 (0, 0)) := (hf.block b9 (some_lt HL.out.2.2.2.2.2.2.2.2.1) (fun hc => hc.elim (fun h => h x9) HL.out.2.2.2.2.2.2.2.2.2.2.2)).trans HL.out.2.2.2.2.2.2.2.2.1
        have caz : wr.cell? ⟨ba, oa + i, none⟩ = some (.int .i64 z) := FWR.cell hz
        have HQ := Lib.hid (And.intro hS (And.intro hkS (And.intro hSs (And.intro hSf (And.intro hf (And.intro k8r (And.intro k9r (And.intro hLk (And.intro hfk hPs)))))))))
        have HS : Hid (∀ w', Fr No wr w' → Fr No wr w' ∧ w'.cell? ⟨ba, oa + i, none⟩ = some (.int .i64 z) ∧ Sem.run PD (loadCellsFrom ⟨b8, 0, none⟩ 0 k30 #[]) w' = .ok G w') := fun w' h => ⟨h, h.cell caz, load_block (h.keep k8r) hGk (fun j v hv => by simpa using hv)⟩
        have f1 := HS.out _ (Fr.drew No wr)
        clear hmod hS hLi hkS hSs hSf hkp hf hbn hgxB hgxV hPP hPs hhe hfk hBB hLk FWR x8 x9 xS k8r k9r caz hz
        go_wp2_with fail
        go_region_held3 (fun w' => Fr No wr w' ∧ w'.cell? ⟨ba, oa + i, none⟩ = some (.int .i64 z) ∧ Sem.run PD (loadCellsFrom ⟨b8, 0, none⟩ 0 k30 #[]) w' = .ok G w') (first | assumption | (with_reducible exact HS.out _ K3)) (first | (go_at_call 22; ((with_reducible refine (at_prog HP.out (HBL.out _)).mono ?_); rintro e w3 ⟨rfl, hf3⟩; have K3 : Fr No wr w3 := Fr.trans (And.left (by assumption)) hf3)) | (go_at_call 9; ((with_reducible refine (at_prog HP.out (HMO.out _)).mono ?_); rintro e wn ⟨rfl, hwn⟩; replace hwn := hwn.symm; subst hwn)))
        obtain ⟨-, -, l83⟩ := HS.out _ K3
        cases hh
        · cases fk
          · go_wp2_with (first | (go_at_call 23; ((with_reducible refine (at_prog HP.out (HPO.out _)).mono ?_); rintro e w4 ⟨rfl, hf4⟩; obtain ⟨yp, hstp, hybp, hyfp⟩ := store_all (P := PD) PP.toList (heap_alloc_new w4 (.cells Z 31)) (by rw [Array.length_toList, hPk, hZk]) hP1; have K4 : Fr No w3 yp := (hf4.trans (Fr.alloc No w4 (.cells Z 31))).ofNew hyfp (fun k hk => .inr (by rw [hk]; exact hf4.size)); have lP4 : Sem.run PD (loadCellsFrom ⟨w4.heap.size, 0, none⟩ 0 k40 #[]) yp = .ok PP yp := load_block hybp hPk (fun j v hv => by simpa using hv); obtain ⟨XY, hXY⟩ : ∃ XY : Nat → Prop, (fun k => X k ∨ k = w4.heap.size) = XY := ⟨_, rfl⟩; have HSP : Hid (StI yp t L XY ∧ (∀ k, XY k → k < yp.heap.size) ∧ XY b9 ∧ XY bS ∧ XY w4.heap.size ∧ ∀ k, X k → XY k) := two_sets (hXY.symm ▸ rfl) HQ.out.1 (K3.trans K4) (Nat.le_trans K3.size hf4.size) (fun k hk => Nat.lt_of_lt_of_le (HL.out.2.1 k hk) HQ.out.2.2.2.2.1.size) (some_lt hybp) HL.out.2.2.2.2.2.1 HL.out.2.2.2.2.2.2.1)) | (go_at_call 11; ((with_reducible refine (at_prog HP.out (HIP.out _ XY HSP.out.1 HSP.out.2.1)).mono ?_); rintro e w5 ⟨rfl, hS5, hf5⟩; have kp5 := (hf5.block _ (some_lt hybp) (fun hc => hc HSP.out.2.2.2.2.1)).trans hybp; have k95 := (hf5.block b9 (some_lt ((K3.trans K4).keep HQ.out.2.2.2.2.2.2.1)) (fun hc => hc HSP.out.2.2.1)).trans ((K3.trans K4).keep HQ.out.2.2.2.2.2.2.1); have kS5 := (hf5.block bS (some_lt ((K3.trans K4).keep HQ.out.2.1)) (fun hc => hc HSP.out.2.2.2.1)).trans ((K3.trans K4).keep HQ.out.2.1); have lP5 : Sem.run PD (loadCellsFrom ⟨w4.heap.size, 0, none⟩ 0 k40 #[]) w5 = .ok PP w5 := load_block kp5 hPk (fun j v hv => by simpa using hv); have l95 : Sem.run PD (loadCellsFrom ⟨b9, 0, none⟩ 0 k30 #[]) w5 = .ok D w5 := load_block k95 (by rw [HK29.out, ← HGY.out.2.2, List.size_toArray, adr_length, HGY.out.1.1]) (fun j v hv => by simpa using hv))) | (go_at_call 24; ((with_reducible refine (at_prog HP.out (HCT.out _)).mono ?_); rintro e w6 ⟨rfl, hf6⟩; have kS6 := hf6.keep kS5; have cS6 : w6.cell? ⟨bS, k, none⟩ = some (.bool false) := (by rw [cell_of_row _ _ _ _ _ _ kS6, HQ.out.2.2.2.1 k (by omega), HQ.out.2.2.2.2.2.2.2.2.1]); have zS6 := frozen_of_row w6 bS k _ _ kS6)) | fail)
            go_roundg (61 - i)
            case measure => exact hig
            case rel =>
              refine ⟨i + 1, many, best, by go_num, by go_num, by go_num, by omega, by omega, by omega, by omega, by omega, _, S.setIfInBounds k (.bool true), fun j => if j = k then true else f j, ((hS5.mono HSP.out.2.2.2.2.2).no hf6).fr (Fr.setCell (fun k => k = bS) w6 ⟨bS, k, none⟩ (.bool true) rfl) (fun q hq => by rw [hq]; exact HL.out.2.2.2.2.2.2.1), HQ.out.2.2.2.2.2.2.2.1, heap_setCell_same w6 bS k S 52 (.bool true) kS6, by rw [Array.size_setIfInBounds]; exact HQ.out.2.2.1, fun j hj => ?_, HKP.out, ?_⟩
              · show (S.setIfInBounds k (.bool true))[j]? = some (.bool (if j = k then true else f j))
                by_cases h : j = k
                · subst h; rw [Array.getElem?_setIfInBounds_self_of_lt (by rw [HQ.out.2.2.1]; exact hj), if_pos rfl]
                · rw [Array.getElem?_setIfInBounds_ne (fun e => h e.symm), if_neg h]; exact HQ.out.2.2.2.1 j hj
              · exact ((((HQ.out.2.2.2.2.1.trans (K3.mono fun _ _ h => h.elim)).trans (K4.mono fun _ _ h => h.elim)).trans (hf5.mono fun q _ hq => .inl fun hx => hq (HSP.out.2.2.2.2.2 q hx))).trans (hf6.mono fun _ _ h => h.elim)).trans (Fr.setCell _ w6 ⟨bS, k, none⟩ (.bool true) (.inr rfl))
          · go_wp2_with (first | (go_at_call 23; ((with_reducible refine (at_prog HP.out (HPO.out _)).mono ?_); rintro e w4 ⟨rfl, hf4⟩; obtain ⟨yp, hstp, hybp, hyfp⟩ := store_all (P := PD) PP.toList (heap_alloc_new w4 (.cells Z 31)) (by rw [Array.length_toList, hPk, hZk]) hP1; have K4 : Fr No w3 yp := (hf4.trans (Fr.alloc No w4 (.cells Z 31))).ofNew hyfp (fun k hk => .inr (by rw [hk]; exact hf4.size)); have lP4 : Sem.run PD (loadCellsFrom ⟨w4.heap.size, 0, none⟩ 0 k40 #[]) yp = .ok PP yp := load_block hybp hPk (fun j v hv => by simpa using hv); obtain ⟨XY, hXY⟩ : ∃ XY : Nat → Prop, (fun k => X k ∨ k = w4.heap.size) = XY := ⟨_, rfl⟩; have HSP : Hid (StI yp t L XY ∧ (∀ k, XY k → k < yp.heap.size) ∧ XY b9 ∧ XY bS ∧ XY w4.heap.size ∧ ∀ k, X k → XY k) := two_sets (hXY.symm ▸ rfl) HQ.out.1 (K3.trans K4) (Nat.le_trans K3.size hf4.size) (fun k hk => Nat.lt_of_lt_of_le (HL.out.2.1 k hk) HQ.out.2.2.2.2.1.size) (some_lt hybp) HL.out.2.2.2.2.2.1 HL.out.2.2.2.2.2.2.1)) | (go_at_call 11; ((with_reducible refine (at_prog HP.out (HIP.out _ XY HSP.out.1 HSP.out.2.1)).mono ?_); rintro e w5 ⟨rfl, hS5, hf5⟩; have kp5 := (hf5.block _ (some_lt hybp) (fun hc => hc HSP.out.2.2.2.2.1)).trans hybp; have k95 := (hf5.block b9 (some_lt ((K3.trans K4).keep HQ.out.2.2.2.2.2.2.1)) (fun hc => hc HSP.out.2.2.1)).trans ((K3.trans K4).keep HQ.out.2.2.2.2.2.2.1); have kS5 := (hf5.block bS (some_lt ((K3.trans K4).keep HQ.out.2.1)) (fun hc => hc HSP.out.2.2.2.1)).trans ((K3.trans K4).keep HQ.out.2.1); have lP5 : Sem.run PD (loadCellsFrom ⟨w4.heap.size, 0, none⟩ 0 k40 #[]) w5 = .ok PP w5 := load_block kp5 hPk (fun j v hv => by simpa using hv); have l95 : Sem.run PD (loadCellsFrom ⟨b9, 0, none⟩ 0 k30 #[]) w5 = .ok D w5 := load_block k95 (by rw [HK29.out, ← HGY.out.2.2, List.size_toArray, adr_length, HGY.out.1.1]) (fun j v hv => by simpa using hv))) | (go_at_call 24; ((with_reducible refine (at_prog HP.out (HCT.out _)).mono ?_); rintro e w6 ⟨rfl, hf6⟩; have kS6 := hf6.keep kS5; have cS6 : w6.cell? ⟨bS, k, none⟩ = some (.bool true) := (by rw [cell_of_row _ _ _ _ _ _ kS6, HQ.out.2.2.2.1 k (by omega), HQ.out.2.2.2.2.2.2.2.2.1]); have zS6 := frozen_of_row w6 bS k _ _ kS6)) | fail)
            go_roundg (61 - i)
            case measure => exact hig
            case rel =>
              refine ⟨i + 1, many, best, by go_num, by go_num, by go_num, by omega, by omega, by omega, by omega, by omega, _, S.setIfInBounds k (.bool true), fun j => if j = k then true else f j, ((hS5.mono HSP.out.2.2.2.2.2).no hf6).fr (Fr.setCell (fun k => k = bS) w6 ⟨bS, k, none⟩ (.bool true) rfl) (fun q hq => by rw [hq]; exact HL.out.2.2.2.2.2.2.1), HQ.out.2.2.2.2.2.2.2.1, heap_setCell_same w6 bS k S 52 (.bool true) kS6, by rw [Array.size_setIfInBounds]; exact HQ.out.2.2.1, fun j hj => ?_, HKP.out, ?_⟩
              · show (S.setIfInBounds k (.bool true))[j]? = some (.bool (if j = k then true else f j))
                by_cases h : j = k
                · subst h; rw [Array.getElem?_setIfInBounds_self_of_lt (by rw [HQ.out.2.2.1]; exact hj), if_pos rfl]
                · rw [Array.getElem?_setIfInBounds_ne (fun e => h e.symm), if_neg h]; exact HQ.out.2.2.2.1 j hj
              · exact ((((HQ.out.2.2.2.2.1.trans (K3.mono fun _ _ h => h.elim)).trans (K4.mono fun _ _ h => h.elim)).trans (hf5.mono fun q _ hq => .inl fun hx => hq (HSP.out.2.2.2.2.2 q hx))).trans (hf6.mono fun _ _ h => h.elim)).trans (Fr.setCell _ w6 ⟨bS, k, none⟩ (.bool true) (.inr rfl))
        · cases fk
          · go_wp2_with (first | (go_at_call 23; ((with_reducible refine (at_prog HP.out (HPO.out _)).mono ?_); rintro e w4 ⟨rfl, hf4⟩; obtain ⟨yp, hstp, hybp, hyfp⟩ := store_all (P := PD) PP.toList (heap_alloc_new w4 (.cells Z 31)) (by rw [Array.length_toList, hPk, hZk]) hP1; have K4 : Fr No w3 yp := (hf4.trans (Fr.alloc No w4 (.cells Z 31))).ofNew hyfp (fun k hk => .inr (by rw [hk]; exact hf4.size)); have lP4 : Sem.run PD (loadCellsFrom ⟨w4.heap.size, 0, none⟩ 0 k40 #[]) yp = .ok PP yp := load_block hybp hPk (fun j v hv => by simpa using hv); obtain ⟨XY, hXY⟩ : ∃ XY : Nat → Prop, (fun k => X k ∨ k = w4.heap.size) = XY := ⟨_, rfl⟩; have HSP : Hid (StI yp t L XY ∧ (∀ k, XY k → k < yp.heap.size) ∧ XY b9 ∧ XY bS ∧ XY w4.heap.size ∧ ∀ k, X k → XY k) := two_sets (hXY.symm ▸ rfl) HQ.out.1 (K3.trans K4) (Nat.le_trans K3.size hf4.size) (fun k hk => Nat.lt_of_lt_of_le (HL.out.2.1 k hk) HQ.out.2.2.2.2.1.size) (some_lt hybp) HL.out.2.2.2.2.2.1 HL.out.2.2.2.2.2.2.1)) | (go_at_call 11; ((with_reducible refine (at_prog HP.out (HIP.out _ XY HSP.out.1 HSP.out.2.1)).mono ?_); rintro e w5 ⟨rfl, hS5, hf5⟩; have kp5 := (hf5.block _ (some_lt hybp) (fun hc => hc HSP.out.2.2.2.2.1)).trans hybp; have k95 := (hf5.block b9 (some_lt ((K3.trans K4).keep HQ.out.2.2.2.2.2.2.1)) (fun hc => hc HSP.out.2.2.1)).trans ((K3.trans K4).keep HQ.out.2.2.2.2.2.2.1); have kS5 := (hf5.block bS (some_lt ((K3.trans K4).keep HQ.out.2.1)) (fun hc => hc HSP.out.2.2.2.1)).trans ((K3.trans K4).keep HQ.out.2.1); have lP5 : Sem.run PD (loadCellsFrom ⟨w4.heap.size, 0, none⟩ 0 k40 #[]) w5 = .ok PP w5 := load_block kp5 hPk (fun j v hv => by simpa using hv); have l95 : Sem.run PD (loadCellsFrom ⟨b9, 0, none⟩ 0 k30 #[]) w5 = .ok D w5 := load_block k95 (by rw [HK29.out, ← HGY.out.2.2, List.size_toArray, adr_length, HGY.out.1.1]) (fun j v hv => by simpa using hv))) | (go_at_call 24; ((with_reducible refine (at_prog HP.out (HCT.out _)).mono ?_); rintro e w6 ⟨rfl, hf6⟩; have kS6 := hf6.keep kS5; have cS6 : w6.cell? ⟨bS, k, none⟩ = some (.bool false) := (by rw [cell_of_row _ _ _ _ _ _ kS6, HQ.out.2.2.2.1 k (by omega), HQ.out.2.2.2.2.2.2.2.2.1]); have zS6 := frozen_of_row w6 bS k _ _ kS6)) | fail)
            go_roundg (61 - i)
            case measure => exact hig
            case rel =>
              refine ⟨i + 1, many + 1, max best (k : Int), by go_num, by go_num, by go_num, by omega, by omega, by omega, by omega, by omega, _, S.setIfInBounds k (.bool true), fun j => if j = k then true else f j, ((hS5.mono HSP.out.2.2.2.2.2).no hf6).fr (Fr.setCell (fun k => k = bS) w6 ⟨bS, k, none⟩ (.bool true) rfl) (fun q hq => by rw [hq]; exact HL.out.2.2.2.2.2.2.1), HQ.out.2.2.2.2.2.2.2.1, heap_setCell_same w6 bS k S 52 (.bool true) kS6, by rw [Array.size_setIfInBounds]; exact HQ.out.2.2.1, fun j hj => ?_, HKP.out, ?_⟩
              · show (S.setIfInBounds k (.bool true))[j]? = some (.bool (if j = k then true else f j))
                by_cases h : j = k
                · subst h; rw [Array.getElem?_setIfInBounds_self_of_lt (by rw [HQ.out.2.2.1]; exact hj), if_pos rfl]
                · rw [Array.getElem?_setIfInBounds_ne (fun e => h e.symm), if_neg h]; exact HQ.out.2.2.2.1 j hj
              · exact ((((HQ.out.2.2.2.2.1.trans (K3.mono fun _ _ h => h.elim)).trans (K4.mono fun _ _ h => h.elim)).trans (hf5.mono fun q _ hq => .inl fun hx => hq (HSP.out.2.2.2.2.2 q hx))).trans (hf6.mono fun _ _ h => h.elim)).trans (Fr.setCell _ w6 ⟨bS, k, none⟩ (.bool true) (.inr rfl))
          · go_wp2_with (first | (go_at_call 23; ((with_reducible refine (at_prog HP.out (HPO.out _)).mono ?_); rintro e w4 ⟨rfl, hf4⟩; obtain ⟨yp, hstp, hybp, hyfp⟩ := store_all (P := PD) PP.toList (heap_alloc_new w4 (.cells Z 31)) (by rw [Array.length_toList, hPk, hZk]) hP1; have K4 : Fr No w3 yp := (hf4.trans (Fr.alloc No w4 (.cells Z 31))).ofNew hyfp (fun k hk => .inr (by rw [hk]; exact hf4.size)); have lP4 : Sem.run PD (loadCellsFrom ⟨w4.heap.size, 0, none⟩ 0 k40 #[]) yp = .ok PP yp := load_block hybp hPk (fun j v hv => by simpa using hv); obtain ⟨XY, hXY⟩ : ∃ XY : Nat → Prop, (fun k => X k ∨ k = w4.heap.size) = XY := ⟨_, rfl⟩; have HSP : Hid (StI yp t L XY ∧ (∀ k, XY k → k < yp.heap.size) ∧ XY b9 ∧ XY bS ∧ XY w4.heap.size ∧ ∀ k, X k → XY k) := two_sets (hXY.symm ▸ rfl) HQ.out.1 (K3.trans K4) (Nat.le_trans K3.size hf4.size) (fun k hk => Nat.lt_of_lt_of_le (HL.out.2.1 k hk) HQ.out.2.2.2.2.1.size) (some_lt hybp) HL.out.2.2.2.2.2.1 HL.out.2.2.2.2.2.2.1)) | (go_at_call 11; ((with_reducible refine (at_prog HP.out (HIP.out _ XY HSP.out.1 HSP.out.2.1)).mono ?_); rintro e w5 ⟨rfl, hS5, hf5⟩; have kp5 := (hf5.block _ (some_lt hybp) (fun hc => hc HSP.out.2.2.2.2.1)).trans hybp; have k95 := (hf5.block b9 (some_lt ((K3.trans K4).keep HQ.out.2.2.2.2.2.2.1)) (fun hc => hc HSP.out.2.2.1)).trans ((K3.trans K4).keep HQ.out.2.2.2.2.2.2.1); have kS5 := (hf5.block bS (some_lt ((K3.trans K4).keep HQ.out.2.1)) (fun hc => hc HSP.out.2.2.2.1)).trans ((K3.trans K4).keep HQ.out.2.1); have lP5 : Sem.run PD (loadCellsFrom ⟨w4.heap.size, 0, none⟩ 0 k40 #[]) w5 = .ok PP w5 := load_block kp5 hPk (fun j v hv => by simpa using hv); have l95 : Sem.run PD (loadCellsFrom ⟨b9, 0, none⟩ 0 k30 #[]) w5 = .ok D w5 := load_block k95 (by rw [HK29.out, ← HGY.out.2.2, List.size_toArray, adr_length, HGY.out.1.1]) (fun j v hv => by simpa using hv))) | (go_at_call 24; ((with_reducible refine (at_prog HP.out (HCT.out _)).mono ?_); rintro e w6 ⟨rfl, hf6⟩; have kS6 := hf6.keep kS5; have cS6 : w6.cell? ⟨bS, k, none⟩ = some (.bool true) := (by rw [cell_of_row _ _ _ _ _ _ kS6, HQ.out.2.2.2.1 k (by omega), HQ.out.2.2.2.2.2.2.2.2.1]); have zS6 := frozen_of_row w6 bS k _ _ kS6)) | fail)
            go_roundg (61 - i)
            case measure => exact hig
            case rel =>
              refine ⟨i + 1, many, max best (k : Int), by go_num, by go_num, by go_num, by omega, by omega, by omega, by omega, by omega, _, S.setIfInBounds k (.bool true), fun j => if j = k then true else f j, ((hS5.mono HSP.out.2.2.2.2.2).no hf6).fr (Fr.setCell (fun k => k = bS) w6 ⟨bS, k, none⟩ (.bool true) rfl) (fun q hq => by rw [hq]; exact HL.out.2.2.2.2.2.2.1), HQ.out.2.2.2.2.2.2.2.1, heap_setCell_same w6 bS k S 52 (.bool true) kS6, by rw [Array.size_setIfInBounds]; exact HQ.out.2.2.1, fun j hj => ?_, HKP.out, ?_⟩
              · show (S.setIfInBounds k (.bool true))[j]? = some (.bool (if j = k then true else f j))
                by_cases h : j = k
                · subst h; rw [Array.getElem?_setIfInBounds_self_of_lt (by rw [HQ.out.2.2.1]; exact hj), if_pos rfl]
                · rw [Array.getElem?_setIfInBounds_ne (fun e => h e.symm), if_neg h]; exact HQ.out.2.2.2.1 j hj
              · exact ((((HQ.out.2.2.2.2.1.trans (K3.mono fun _ _ h => h.elim)).trans (K4.mono fun _ _ h => h.elim)).trans (hf5.mono fun q _ hq => .inl fun hx => hq (HSP.out.2.2.2.2.2 q hx))).trans (hf6.mono fun _ _ h => h.elim)).trans (Fr.setCell _ w6 ⟨bS, k, none⟩ (.bool true) (.inr rfl))
      · have hx : ¬ ((i : Int) < (n : Int)) ∨ ((i : Int) < (n : Int) ∧ ¬ ((i : Int) < 60)) := by omega
        obtain ⟨L, S, f, hS, hLi, hkS, hSs, hSf, hkp, hf⟩ := HR.out
        have FWR : Fr No w wr := HL.out.2.2.2.1.ofNew hf fun k hk => .inr (HL.out.2.2.1 k hk)
        have k9r : wr.heap[b9]? = some (.cells D 29 (0, 0)) := (hf.block b9 (some_lt HL.out.2.2.2.2.2.2.2.2.1) (fun hc => hc.elim (fun h => h HL.out.2.2.2.2.2.1) HL.out.2.2.2.2.2.2.2.2.2.2.2)).trans HL.out.2.2.2.2.2.2.2.2.1
        obtain ⟨hmany, hcase⟩ := keep_end hS.srt.1 hS.srt.2 hkp
        have HMT : Hid (∀ w', Fr No wr w' → Calls Try.prog 26 #[.pointer (some ⟨t, 0, none⟩), .agg D] w' fun e w'' => ∃ ad cp, e = .returned (.slice ad many cp) ∧ Fr No w' w'') := fun w' h => by
          have h := matchesSI (hS.no h) b0 gb HGY.out.1
          rw [HGY.out.2.2, ← hmany] at h
          refine h.mono ?_
          rintro e w'' ⟨ad, cp, he, -, hf⟩
          exact ⟨ad, cp, he, hf⟩
        have h9s : D.size = k30 := by rw [HK29.out, ← HGY.out.2.2, List.size_toArray, adr_length, HGY.out.1.1]
        have l9r : Sem.run PD (loadCellsFrom ⟨b9, 0, none⟩ 0 k30 #[]) wr = .ok D wr := load_block k9r h9s (fun j v hv => by simpa using hv)
        have HL9 : Hid (∀ w', Fr No wr w' → Sem.run PD (loadCellsFrom ⟨b9, 0, none⟩ 0 k30 #[]) w' = .ok D w') := fun w' h => load_block (h.keep k9r) h9s (fun j v hv => by simpa using hv)
        have HLK : Hid (∀ w', Fr No wr w' → Calls Try.prog 25 #[.pointer (some ⟨t, 0, none⟩), .agg D] w' fun e w'' => e = .returned (.tuple #[.agg (endP (inL L b0 gb)).toArray, endV (.int .i64 0) (inL L b0 gb), .bool (!(inL L b0 gb).isEmpty)]) ∧ Fr No w' w'') := fun w' h => by
          have h := lookupSI (hS.no h) b0 gb HGY.out.1
          rw [HGY.out.2.2] at h
          exact h
        have HFW := Lib.hid FWR
        rcases hcase with ⟨hbe, hnil⟩ | ⟨k, hbe, hk, hhas, hE, hV, hne⟩
        · subst hbe
          rw [hnil, show (endP []).toArray = Z from HW.out.1] at HLK
          replace HLK : Hid (∀ w', Fr No wr w' → Calls Try.prog 25 #[.pointer (some ⟨t, 0, none⟩), .agg D] w' fun e w'' => e = .returned (.tuple #[.agg Z, .int .i64 0, .bool false]) ∧ Fr No w' w'') := HLK
          clear hS hLi hkS hSs hSf hkp hf hmany hnil FWR k9r h9s
          rcases hx with p2 | ⟨p2, p3⟩
          all_goals (
            go_wp2_with (first | (go_at_call 25; ((with_reducible refine (at_prog HP.out (HLK.out wr (Fr.refl _ _))).mono ?_); rintro e w7 ⟨rfl, hf7⟩; obtain ⟨y7, hst7, hyb7, hyf7⟩ := store_all (P := PD) Z.toList (heap_alloc_new w7 (.cells Z 31)) (by rw [Array.length_toList]) (by rw [← HW.out.1]; exact pfx_one _ _ _); have K7 : Fr No wr y7 := (hf7.trans (Fr.alloc No w7 (.cells Z 31))).ofNew hyf7 (fun k hk => .inr (by rw [hk]; exact hf7.size)))) | (go_at_call 20; ((with_reducible refine (at_prog HP.out (awake_any _)).mono ?_); rintro e w8 ⟨rfl, hf8⟩; have K8 : Fr No wr w8 := K7.trans hf8; have l98 := HL9.out _ K8)) | (go_at_call 26; ((with_reducible refine (at_prog HP.out (HMT.out _ K8)).mono ?_); rintro e w9 ⟨ad, cp, rfl, hf9⟩)) | fail)
            go_ret
            exact ⟨rfl, HFW.out.trans (K8.trans hf9)⟩)
        · subst hbe
          obtain ⟨PK, hPK, -, hP17, hPs, -, hP1⟩ := pfx_letter b0 (pofX b0 gx k) k (pofX_bytes HW.out.2.2.2.1 _)
          have hPk : PK.size = k40 := by rw [HK31.out]; exact hPs
          rw [hE, hV, hne, hPK] at HLK
          replace HLK : Hid (∀ w', Fr No wr w' → Calls Try.prog 25 #[.pointer (some ⟨t, 0, none⟩), .agg D] w' fun e w'' => e = .returned (.tuple #[.agg PK, .int .i64 (k : Int), .bool true]) ∧ Fr No w' w'') := HLK
          have HCT : Hid (∀ w', Calls Try.prog 24 #[.agg PK, .agg D] w' fun e w'' => e = .returned (.bool true) ∧ Fr No w' w'') := fun w' => by
            have h := cont_ref b0 b0 (pofX b0 gx k) gb k (pofX_bytes HW.out.2.2.2.1 _) HGY.out.1 w'
            rw [hPK, HGY.out.2.2, show contP b0 (pofX b0 gx k) k b0 gb = true from hhas] at h
            exact h
          have p7 : (0 : Int) ≤ (k : Int) := by omega
          clear hS hLi hkS hSs hSf hkp hf hmany hE hV hne hPK hPs hhas FWR k9r h9s
          rcases hx with p2 | ⟨p2, p3⟩
          all_goals (
            go_wp2_with (first | (go_at_call 25; ((with_reducible refine (at_prog HP.out (HLK.out wr (Fr.refl _ _))).mono ?_); rintro e w7 ⟨rfl, hf7⟩; obtain ⟨y7, hst7, hyb7, hyf7⟩ := store_all (P := PD) PK.toList (heap_alloc_new w7 (.cells Z 31)) (by rw [Array.length_toList, hPk, hZk]) hP1; have K7 : Fr No wr y7 := (hf7.trans (Fr.alloc No w7 (.cells Z 31))).ofNew hyf7 (fun k hk => .inr (by rw [hk]; exact hf7.size)))) | (go_at_call 20; ((with_reducible refine (at_prog HP.out (awake_any _)).mono ?_); rintro e w8 ⟨rfl, hf8⟩; have K8 : Fr No wr w8 := K7.trans hf8; have l98 := HL9.out _ K8; have k78 := hf8.keep hyb7; have l78 : Sem.run PD (loadCellsFrom ⟨w7.heap.size, 0, none⟩ 0 k40 #[]) w8 = .ok PK w8 := load_block k78 hPk (fun j v hv => by simpa using hv); have c78 : w8.cell? ⟨w7.heap.size, 17, none⟩ = some (.int .i64 (k : Int)) := (by rw [cell_of_row _ _ _ _ _ _ k78]; exact hP17))) | (go_at_call 24; ((with_reducible refine (at_prog HP.out (HCT.out _)).mono ?_); rintro e w9 ⟨rfl, hf9⟩; have K9 : Fr No wr w9 := K8.trans hf9; have l99 := HL9.out _ K9)) | (go_at_call 26; ((with_reducible refine (at_prog HP.out (HMT.out _ K9)).mono ?_); rintro e w10 ⟨ad, cp, rfl, hf10⟩)) | fail)
            go_ret
            exact ⟨rfl, HFW.out.trans (K9.trans hf10)⟩)
  · have he : (b2 == b0) = false := by simpa using hbb
    go_upto_region 8 with fail
    have HU : Hid ((∀ X : Nat → Prop, StI y3 t [] X → X b9 → StI y3 t [] X) ∧ Fr No w y3 ∧ y3.heap[b8]? = some (.cells G 29 (0, 0)) ∧ y3.heap[b9]? = some (.cells G 29 (0, 0)) ∧ y3.heap.size ≤ y3.heap.size) := by
      obtain ⟨g1, g2, g3, g4, g5, g6, g7, g8, g9, g10⟩ := H3.out
      exact ⟨fun X h _ => h, g3, g7, g8, Nat.le_refl _⟩
    have HGY : Hid (Bytes gx ∧ validA b0 gx = true ∧ (adr b0 gx).toArray = G) := ⟨HW.out.2.2.2.1, HW.out.2.2.2.2.1, HW.out.2.1⟩
    obtain ⟨bS, hbS⟩ : ∃ bS, y3.heap.size = bS := ⟨_, rfl⟩
    obtain ⟨X, hX⟩ : ∃ X : Nat → Prop, (fun k => k < w0.heap.size ∨ k = b8 ∨ k = b9 ∨ k = bS) = X := ⟨_, rfl⟩
    obtain ⟨wl, hwl⟩ : ∃ wl, y3.alloc (.cells O 52) = wl := ⟨_, rfl⟩
    have HL : Hid (StI wl t [] X ∧ (∀ k, X k → k < wl.heap.size) ∧ (∀ k, ¬ X k ∨ k = bS → w.heap.size ≤ k) ∧ Fr No w wl ∧ X b8 ∧ X b9 ∧ X bS ∧ wl.heap[b8]? = some (.cells G 29 (0, 0)) ∧ wl.heap[b9]? = some (.cells G 29 (0, 0)) ∧ wl.heap[bS]? = some (.cells O 52 (0, 0)) ∧ b8 ≠ bS ∧ b9 ≠ bS) := by
      obtain ⟨g1, g2, g3, g4, g5, g6, g7, g8, g9, g10⟩ := H3.out
      obtain ⟨u1, u2, u3, u4, u5⟩ := HU.out
      have hal : Fr No y3 wl := by rw [← hwl]; exact Fr.alloc No _ _
      have kS : wl.heap[bS]? = some (.cells O 52 (0, 0)) := by rw [← hwl, ← hbS]; exact heap_alloc_new _ _
      have m8 : b8 < bS := by rw [← hbS]; exact some_lt u3
      have m9 : b9 < bS := by rw [← hbS]; exact some_lt u4
      have x8 : X b8 := by rw [← hX]; exact .inr (.inl rfl)
      have x9 : X b9 := by rw [← hX]; exact .inr (.inr (.inl rfl))
      have xS : X bS := by rw [← hX]; exact .inr (.inr (.inr rfl))
      refine ⟨(u1 X ((g1.add (Y := X) fun k hk => ?_).no g2) x9).no hal, fun k hk => ?_, fun k hk => ?_, u2.trans hal, x8, x9, xS, hal.keep u3, hal.keep u4, kS, by omega, by omega⟩
      · rw [← hX] at hk
        rcases hk with hk | hk | hk | hk
        · exact .inl hk
        · exact .inr (by rw [hk]; exact g4)
        · exact .inr (by rw [hk]; exact g5)
        · exact .inr (by rw [hk]; omega)
      · rw [← hX] at hk
        rcases hk with hk | hk | hk | hk
        · exact Nat.lt_of_lt_of_le hk (Nat.le_trans g6 (Nat.le_trans g2.size (Nat.le_trans u5 hal.size)))
        · rw [hk]; exact some_lt (hal.keep u3)
        · rw [hk]; exact some_lt (hal.keep u4)
        · rw [hk]; exact some_lt kS
      · rcases hk with hk | hk
        · rw [← hX] at hk
          exact g9 k fun h => hk (.inl h)
        · rw [hk, ← hbS]; exact u2.size
    go_wp2_with fail
    go_loopg [10, 11, 13] 62 (fun g s10 s11 s13 wr => ∃ (i many : Nat) (best : Int), s10 = .int .i64 best ∧ s11 = .int .i64 many ∧ s13 = .int .i64 i ∧ i ≤ 60 ∧ 61 - i < g ∧ -1 ≤ best ∧ best ≤ 128 ∧ many ≤ i ∧ Hid (∃ L S f, StI wr t L X ∧ L.length ≤ i ∧ wr.heap[bS]? = some (.cells S 52 (0, 0)) ∧ S.size = 129 ∧ (∀ k, k < 129 → S[k]? = some (.bool (f k))) ∧ Keep b0 gx gx L f best many ∧ Fr (fun k => ¬ X k ∨ k = bS) wl wr))
    case atStart =>
      exact ⟨0, 0, -1, by go_num, by go_num, by go_num, by omega, by omega, by omega, by omega, by omega, [], O, fun _ => false, HL.out.1, by simp, HL.out.2.2.2.2.2.2.2.2.2.1, HO.out.1, HO.out.2, keep_nil _ _ _, Fr.refl _ _⟩
    case round =>
      obtain ⟨i, many, best, rfl, rfl, rfl, hi60, hig, hb1, hb2, hmi, HR⟩ := hrel
      have p1 : (0 : Int) ≤ (i : Int) := by omega
      by_cases hb : i < n ∧ i < 60
      · obtain ⟨hin, hi4⟩ := hb
        obtain ⟨ba, oa, z, hag, hz⟩ := HA.out.2 i hin
        subst hag
        have p2 : (i : Int) < (n : Int) := by omega
        have p3 : (i : Int) < 60 := by omega
        obtain ⟨L, S, f, hS, hLi, hkS, hSs, hSf, hkp, hf⟩ := HR.out
        obtain ⟨k, hk, hmod⟩ := mod_fix z (bitN b0 + 1) (by omega) (by have := (bitN_of b0).2; omega)
        have hbn := bitN_of b0
        have hgxB := HW.out.2.2.2.1
        have hgxV := HW.out.2.2.2.2.1
        obtain ⟨PP, hPP, -, hP17, hPs, -, hP1⟩ := pfx_letter b0 (pofX b0 gx k) k (pofX_bytes hgxB _)
        have hPk : PP.size = k40 := by rw [HK31.out]; exact hPs
        obtain ⟨hh, hhe⟩ : ∃ hh, has (pN b0 gx k) b0 gx = hh := ⟨_, rfl⟩
        obtain ⟨fk, hfk⟩ : ∃ fk, f k = fk := ⟨_, rfl⟩
        have HPO : Hid (∀ w', Calls Try.prog 23 #[.agg G, .int .i64 (k : Int)] w' fun e w'' => e = .returned (.tuple #[.agg PP, .bool true]) ∧ Fr No w' w'') := fun w' => by
          have h := pof_ref b0 gx k hgxB w'
          rw [pofT, pof_k hgxV hk, if_pos rfl, hPP, HW.out.2.1] at h
          exact h
        have HIP : Hid (∀ (w' : World) (Y : Nat → Prop), StI w' t L Y → (∀ k, Y k → k < w'.heap.size) → Calls Try.prog 11 #[.pointer (some ⟨t, 0, none⟩), .agg PP, .int .i64 (k : Int)] w' fun e w'' => e = .returned (.bool true) ∧ StI w'' t (putL (pN b0 gx k) (.int .i64 (k : Int)) L) Y ∧ Fr (fun k => ¬ Y k) w' w'') := fun w' Y h1 h2 => by
          have h := insert_pN h1 h2 (by omega) hgxB hgxV hk
          rw [hPP] at h
          exact h
        have HCT : Hid (∀ w', Calls Try.prog 24 #[.agg PP, .agg G] w' fun e w'' => e = .returned (.bool hh) ∧ Fr No w' w'') := fun w' => by
          have h := cont_ref b0 b0 (pofX b0 gx k) gx k (pofX_bytes hgxB _) HGY.out.1 w'
          rw [hPP, HGY.out.2.2, show contP b0 (pofX b0 gx k) k b0 gx = hh from hhe] at h
          exact h
        have HKP := keep_step (k := k) hS.srt.1 (putL_srt hS.srt.1) hkp (by omega)
        rw [hhe, hfk] at HKP
        replace HKP := Lib.hid HKP
        obtain ⟨BB, hBB⟩ : ∃ BB, bitN b0 = BB := ⟨_, rfl⟩
        have HBL : Hid (∀ w', Calls Try.prog 22 #[.agg G] w' fun e w'' => e = .returned (.int .i64 (BB : Int)) ∧ Fr No w' w'') := fun w' => by
          have h := bitLen_R b0 G HW.out.2.2.2.2.2.2.2.2.2.1 w'
          rw [hbn.1, hBB] at h
          exact h
        have HMO : Hid (∀ w', Calls Try.prog 9 #[.int .i64 z, .int .i64 ((BB : Int) + 1)] w' fun e w'' => e = .returned (.int .i64 (k : Int)) ∧ w'' = w') := fun w' => by
          have h := hmod w'
          rw [hBB] at h
          exact h
        have hB128 : BB ≤ 128 := by rw [← hBB]; exact hbn.2
        have hw1 : IntKind.i64.wrap ((BB : Int) + 1) = (BB : Int) + 1 := by rw [IntKind.wrap_i64]; omega
        have p5 : (0 : Int) ≤ (k : Int) := by omega
        have p6 : (k : Int) < 129 := by omega
        have hLk : (putL (pN b0 gx k) (.int .i64 (k : Int)) L).length ≤ i + 1 := by rw [putL_len hS.srt.1]; split <;> omega
        have FWR : Fr No w wr := HL.out.2.2.2.1.ofNew hf fun k hk => .inr (HL.out.2.2.1 k hk)
        have x8 := HL.out.2.2.2.2.1
        have x9 := HL.out.2.2.2.2.2.1
        have xS := HL.out.2.2.2.2.2.2.1
        have k8r : wr.heap[b8]? = some (.cells G 29 (0, 0)) := (hf.block b8 (some_lt HL.out.2.2.2.2.2.2.2.1) (fun hc => hc.elim (fun h => h x8) HL.out.2.2.2.2.2.2.2.2.2.2.1)).trans HL.out.2.2.2.2.2.2.2.1
        have k9r : wr.heap[b9]? = some (.cells G 29 (0, 0)) := (hf.block b9 (some_lt HL.out.2.2.2.2.2.2.2.2.1) (fun hc => hc.elim (fun h => h x9) HL.out.2.2.2.2.2.2.2.2.2.2.2)).trans HL.out.2.2.2.2.2.2.2.2.1
        have caz : wr.cell? ⟨ba, oa + i, none⟩ = some (.int .i64 z) := FWR.cell hz
        have HQ := Lib.hid (And.intro hS (And.intro hkS (And.intro hSs (And.intro hSf (And.intro hf (And.intro k8r (And.intro k9r (And.intro hLk (And.intro hfk hPs)))))))))
        have HS : Hid (∀ w', Fr No wr w' → Fr No wr w' ∧ w'.cell? ⟨ba, oa + i, none⟩ = some (.int .i64 z) ∧ Sem.run PD (loadCellsFrom ⟨b8, 0, none⟩ 0 k30 #[]) w' = .ok G w') := fun w' h => ⟨h, h.cell caz, load_block (h.keep k8r) hGk (fun j v hv => by simpa using hv)⟩
        have f1 := HS.out _ (Fr.drew No wr)
        clear hmod hS hLi hkS hSs hSf hkp hf hbn hgxB hgxV hPP hPs hhe hfk hBB hLk FWR x8 x9 xS k8r k9r caz hz
        go_wp2_with fail
        go_region_held3 (fun w' => Fr No wr w' ∧ w'.cell? ⟨ba, oa + i, none⟩ = some (.int .i64 z) ∧ Sem.run PD (loadCellsFrom ⟨b8, 0, none⟩ 0 k30 #[]) w' = .ok G w') (first | assumption | (with_reducible exact HS.out _ K3)) (first | (go_at_call 22; ((with_reducible refine (at_prog HP.out (HBL.out _)).mono ?_); rintro e w3 ⟨rfl, hf3⟩; have K3 : Fr No wr w3 := Fr.trans (And.left (by assumption)) hf3)) | (go_at_call 9; ((with_reducible refine (at_prog HP.out (HMO.out _)).mono ?_); rintro e wn ⟨rfl, hwn⟩; replace hwn := hwn.symm; subst hwn)))
        obtain ⟨-, -, l83⟩ := HS.out _ K3
        cases hh
        · cases fk
          · go_wp2_with (first | (go_at_call 23; ((with_reducible refine (at_prog HP.out (HPO.out _)).mono ?_); rintro e w4 ⟨rfl, hf4⟩; obtain ⟨yp, hstp, hybp, hyfp⟩ := store_all (P := PD) PP.toList (heap_alloc_new w4 (.cells Z 31)) (by rw [Array.length_toList, hPk, hZk]) hP1; have K4 : Fr No w3 yp := (hf4.trans (Fr.alloc No w4 (.cells Z 31))).ofNew hyfp (fun k hk => .inr (by rw [hk]; exact hf4.size)); have lP4 : Sem.run PD (loadCellsFrom ⟨w4.heap.size, 0, none⟩ 0 k40 #[]) yp = .ok PP yp := load_block hybp hPk (fun j v hv => by simpa using hv); obtain ⟨XY, hXY⟩ : ∃ XY : Nat → Prop, (fun k => X k ∨ k = w4.heap.size) = XY := ⟨_, rfl⟩; have HSP : Hid (StI yp t L XY ∧ (∀ k, XY k → k < yp.heap.size) ∧ XY b9 ∧ XY bS ∧ XY w4.heap.size ∧ ∀ k, X k → XY k) := two_sets (hXY.symm ▸ rfl) HQ.out.1 (K3.trans K4) (Nat.le_trans K3.size hf4.size) (fun k hk => Nat.lt_of_lt_of_le (HL.out.2.1 k hk) HQ.out.2.2.2.2.1.size) (some_lt hybp) HL.out.2.2.2.2.2.1 HL.out.2.2.2.2.2.2.1)) | (go_at_call 11; ((with_reducible refine (at_prog HP.out (HIP.out _ XY HSP.out.1 HSP.out.2.1)).mono ?_); rintro e w5 ⟨rfl, hS5, hf5⟩; have kp5 := (hf5.block _ (some_lt hybp) (fun hc => hc HSP.out.2.2.2.2.1)).trans hybp; have k95 := (hf5.block b9 (some_lt ((K3.trans K4).keep HQ.out.2.2.2.2.2.2.1)) (fun hc => hc HSP.out.2.2.1)).trans ((K3.trans K4).keep HQ.out.2.2.2.2.2.2.1); have kS5 := (hf5.block bS (some_lt ((K3.trans K4).keep HQ.out.2.1)) (fun hc => hc HSP.out.2.2.2.1)).trans ((K3.trans K4).keep HQ.out.2.1); have lP5 : Sem.run PD (loadCellsFrom ⟨w4.heap.size, 0, none⟩ 0 k40 #[]) w5 = .ok PP w5 := load_block kp5 hPk (fun j v hv => by simpa using hv); have l95 : Sem.run PD (loadCellsFrom ⟨b9, 0, none⟩ 0 k30 #[]) w5 = .ok G w5 := load_block k95 (by rw [HK29.out, ← HGY.out.2.2, List.size_toArray, adr_length, HGY.out.1.1]) (fun j v hv => by simpa using hv))) | (go_at_call 24; ((with_reducible refine (at_prog HP.out (HCT.out _)).mono ?_); rintro e w6 ⟨rfl, hf6⟩; have kS6 := hf6.keep kS5; have cS6 : w6.cell? ⟨bS, k, none⟩ = some (.bool false) := (by rw [cell_of_row _ _ _ _ _ _ kS6, HQ.out.2.2.2.1 k (by omega), HQ.out.2.2.2.2.2.2.2.2.1]); have zS6 := frozen_of_row w6 bS k _ _ kS6)) | fail)
            go_roundg (61 - i)
            case measure => exact hig
            case rel =>
              refine ⟨i + 1, many, best, by go_num, by go_num, by go_num, by omega, by omega, by omega, by omega, by omega, _, S.setIfInBounds k (.bool true), fun j => if j = k then true else f j, ((hS5.mono HSP.out.2.2.2.2.2).no hf6).fr (Fr.setCell (fun k => k = bS) w6 ⟨bS, k, none⟩ (.bool true) rfl) (fun q hq => by rw [hq]; exact HL.out.2.2.2.2.2.2.1), HQ.out.2.2.2.2.2.2.2.1, heap_setCell_same w6 bS k S 52 (.bool true) kS6, by rw [Array.size_setIfInBounds]; exact HQ.out.2.2.1, fun j hj => ?_, HKP.out, ?_⟩
              · show (S.setIfInBounds k (.bool true))[j]? = some (.bool (if j = k then true else f j))
                by_cases h : j = k
                · subst h; rw [Array.getElem?_setIfInBounds_self_of_lt (by rw [HQ.out.2.2.1]; exact hj), if_pos rfl]
                · rw [Array.getElem?_setIfInBounds_ne (fun e => h e.symm), if_neg h]; exact HQ.out.2.2.2.1 j hj
              · exact ((((HQ.out.2.2.2.2.1.trans (K3.mono fun _ _ h => h.elim)).trans (K4.mono fun _ _ h => h.elim)).trans (hf5.mono fun q _ hq => .inl fun hx => hq (HSP.out.2.2.2.2.2 q hx))).trans (hf6.mono fun _ _ h => h.elim)).trans (Fr.setCell _ w6 ⟨bS, k, none⟩ (.bool true) (.inr rfl))
          · go_wp2_with (first | (go_at_call 23; ((with_reducible refine (at_prog HP.out (HPO.out _)).mono ?_); rintro e w4 ⟨rfl, hf4⟩; obtain ⟨yp, hstp, hybp, hyfp⟩ := store_all (P := PD) PP.toList (heap_alloc_new w4 (.cells Z 31)) (by rw [Array.length_toList, hPk, hZk]) hP1; have K4 : Fr No w3 yp := (hf4.trans (Fr.alloc No w4 (.cells Z 31))).ofNew hyfp (fun k hk => .inr (by rw [hk]; exact hf4.size)); have lP4 : Sem.run PD (loadCellsFrom ⟨w4.heap.size, 0, none⟩ 0 k40 #[]) yp = .ok PP yp := load_block hybp hPk (fun j v hv => by simpa using hv); obtain ⟨XY, hXY⟩ : ∃ XY : Nat → Prop, (fun k => X k ∨ k = w4.heap.size) = XY := ⟨_, rfl⟩; have HSP : Hid (StI yp t L XY ∧ (∀ k, XY k → k < yp.heap.size) ∧ XY b9 ∧ XY bS ∧ XY w4.heap.size ∧ ∀ k, X k → XY k) := two_sets (hXY.symm ▸ rfl) HQ.out.1 (K3.trans K4) (Nat.le_trans K3.size hf4.size) (fun k hk => Nat.lt_of_lt_of_le (HL.out.2.1 k hk) HQ.out.2.2.2.2.1.size) (some_lt hybp) HL.out.2.2.2.2.2.1 HL.out.2.2.2.2.2.2.1)) | (go_at_call 11; ((with_reducible refine (at_prog HP.out (HIP.out _ XY HSP.out.1 HSP.out.2.1)).mono ?_); rintro e w5 ⟨rfl, hS5, hf5⟩; have kp5 := (hf5.block _ (some_lt hybp) (fun hc => hc HSP.out.2.2.2.2.1)).trans hybp; have k95 := (hf5.block b9 (some_lt ((K3.trans K4).keep HQ.out.2.2.2.2.2.2.1)) (fun hc => hc HSP.out.2.2.1)).trans ((K3.trans K4).keep HQ.out.2.2.2.2.2.2.1); have kS5 := (hf5.block bS (some_lt ((K3.trans K4).keep HQ.out.2.1)) (fun hc => hc HSP.out.2.2.2.1)).trans ((K3.trans K4).keep HQ.out.2.1); have lP5 : Sem.run PD (loadCellsFrom ⟨w4.heap.size, 0, none⟩ 0 k40 #[]) w5 = .ok PP w5 := load_block kp5 hPk (fun j v hv => by simpa using hv); have l95 : Sem.run PD (loadCellsFrom ⟨b9, 0, none⟩ 0 k30 #[]) w5 = .ok G w5 := load_block k95 (by rw [HK29.out, ← HGY.out.2.2, List.size_toArray, adr_length, HGY.out.1.1]) (fun j v hv => by simpa using hv))) | (go_at_call 24; ((with_reducible refine (at_prog HP.out (HCT.out _)).mono ?_); rintro e w6 ⟨rfl, hf6⟩; have kS6 := hf6.keep kS5; have cS6 : w6.cell? ⟨bS, k, none⟩ = some (.bool true) := (by rw [cell_of_row _ _ _ _ _ _ kS6, HQ.out.2.2.2.1 k (by omega), HQ.out.2.2.2.2.2.2.2.2.1]); have zS6 := frozen_of_row w6 bS k _ _ kS6)) | fail)
            go_roundg (61 - i)
            case measure => exact hig
            case rel =>
              refine ⟨i + 1, many, best, by go_num, by go_num, by go_num, by omega, by omega, by omega, by omega, by omega, _, S.setIfInBounds k (.bool true), fun j => if j = k then true else f j, ((hS5.mono HSP.out.2.2.2.2.2).no hf6).fr (Fr.setCell (fun k => k = bS) w6 ⟨bS, k, none⟩ (.bool true) rfl) (fun q hq => by rw [hq]; exact HL.out.2.2.2.2.2.2.1), HQ.out.2.2.2.2.2.2.2.1, heap_setCell_same w6 bS k S 52 (.bool true) kS6, by rw [Array.size_setIfInBounds]; exact HQ.out.2.2.1, fun j hj => ?_, HKP.out, ?_⟩
              · show (S.setIfInBounds k (.bool true))[j]? = some (.bool (if j = k then true else f j))
                by_cases h : j = k
                · subst h; rw [Array.getElem?_setIfInBounds_self_of_lt (by rw [HQ.out.2.2.1]; exact hj), if_pos rfl]
                · rw [Array.getElem?_setIfInBounds_ne (fun e => h e.symm), if_neg h]; exact HQ.out.2.2.2.1 j hj
              · exact ((((HQ.out.2.2.2.2.1.trans (K3.mono fun _ _ h => h.elim)).trans (K4.mono fun _ _ h => h.elim)).trans (hf5.mono fun q _ hq => .inl fun hx => hq (HSP.out.2.2.2.2.2 q hx))).trans (hf6.mono fun _ _ h => h.elim)).trans (Fr.setCell _ w6 ⟨bS, k, none⟩ (.bool true) (.inr rfl))
        · cases fk
          · go_wp2_with (first | (go_at_call 23; ((with_reducible refine (at_prog HP.out (HPO.out _)).mono ?_); rintro e w4 ⟨rfl, hf4⟩; obtain ⟨yp, hstp, hybp, hyfp⟩ := store_all (P := PD) PP.toList (heap_alloc_new w4 (.cells Z 31)) (by rw [Array.length_toList, hPk, hZk]) hP1; have K4 : Fr No w3 yp := (hf4.trans (Fr.alloc No w4 (.cells Z 31))).ofNew hyfp (fun k hk => .inr (by rw [hk]; exact hf4.size)); have lP4 : Sem.run PD (loadCellsFrom ⟨w4.heap.size, 0, none⟩ 0 k40 #[]) yp = .ok PP yp := load_block hybp hPk (fun j v hv => by simpa using hv); obtain ⟨XY, hXY⟩ : ∃ XY : Nat → Prop, (fun k => X k ∨ k = w4.heap.size) = XY := ⟨_, rfl⟩; have HSP : Hid (StI yp t L XY ∧ (∀ k, XY k → k < yp.heap.size) ∧ XY b9 ∧ XY bS ∧ XY w4.heap.size ∧ ∀ k, X k → XY k) := two_sets (hXY.symm ▸ rfl) HQ.out.1 (K3.trans K4) (Nat.le_trans K3.size hf4.size) (fun k hk => Nat.lt_of_lt_of_le (HL.out.2.1 k hk) HQ.out.2.2.2.2.1.size) (some_lt hybp) HL.out.2.2.2.2.2.1 HL.out.2.2.2.2.2.2.1)) | (go_at_call 11; ((with_reducible refine (at_prog HP.out (HIP.out _ XY HSP.out.1 HSP.out.2.1)).mono ?_); rintro e w5 ⟨rfl, hS5, hf5⟩; have kp5 := (hf5.block _ (some_lt hybp) (fun hc => hc HSP.out.2.2.2.2.1)).trans hybp; have k95 := (hf5.block b9 (some_lt ((K3.trans K4).keep HQ.out.2.2.2.2.2.2.1)) (fun hc => hc HSP.out.2.2.1)).trans ((K3.trans K4).keep HQ.out.2.2.2.2.2.2.1); have kS5 := (hf5.block bS (some_lt ((K3.trans K4).keep HQ.out.2.1)) (fun hc => hc HSP.out.2.2.2.1)).trans ((K3.trans K4).keep HQ.out.2.1); have lP5 : Sem.run PD (loadCellsFrom ⟨w4.heap.size, 0, none⟩ 0 k40 #[]) w5 = .ok PP w5 := load_block kp5 hPk (fun j v hv => by simpa using hv); have l95 : Sem.run PD (loadCellsFrom ⟨b9, 0, none⟩ 0 k30 #[]) w5 = .ok G w5 := load_block k95 (by rw [HK29.out, ← HGY.out.2.2, List.size_toArray, adr_length, HGY.out.1.1]) (fun j v hv => by simpa using hv))) | (go_at_call 24; ((with_reducible refine (at_prog HP.out (HCT.out _)).mono ?_); rintro e w6 ⟨rfl, hf6⟩; have kS6 := hf6.keep kS5; have cS6 : w6.cell? ⟨bS, k, none⟩ = some (.bool false) := (by rw [cell_of_row _ _ _ _ _ _ kS6, HQ.out.2.2.2.1 k (by omega), HQ.out.2.2.2.2.2.2.2.2.1]); have zS6 := frozen_of_row w6 bS k _ _ kS6)) | fail)
            go_roundg (61 - i)
            case measure => exact hig
            case rel =>
              refine ⟨i + 1, many + 1, max best (k : Int), by go_num, by go_num, by go_num, by omega, by omega, by omega, by omega, by omega, _, S.setIfInBounds k (.bool true), fun j => if j = k then true else f j, ((hS5.mono HSP.out.2.2.2.2.2).no hf6).fr (Fr.setCell (fun k => k = bS) w6 ⟨bS, k, none⟩ (.bool true) rfl) (fun q hq => by rw [hq]; exact HL.out.2.2.2.2.2.2.1), HQ.out.2.2.2.2.2.2.2.1, heap_setCell_same w6 bS k S 52 (.bool true) kS6, by rw [Array.size_setIfInBounds]; exact HQ.out.2.2.1, fun j hj => ?_, HKP.out, ?_⟩
              · show (S.setIfInBounds k (.bool true))[j]? = some (.bool (if j = k then true else f j))
                by_cases h : j = k
                · subst h; rw [Array.getElem?_setIfInBounds_self_of_lt (by rw [HQ.out.2.2.1]; exact hj), if_pos rfl]
                · rw [Array.getElem?_setIfInBounds_ne (fun e => h e.symm), if_neg h]; exact HQ.out.2.2.2.1 j hj
              · exact ((((HQ.out.2.2.2.2.1.trans (K3.mono fun _ _ h => h.elim)).trans (K4.mono fun _ _ h => h.elim)).trans (hf5.mono fun q _ hq => .inl fun hx => hq (HSP.out.2.2.2.2.2 q hx))).trans (hf6.mono fun _ _ h => h.elim)).trans (Fr.setCell _ w6 ⟨bS, k, none⟩ (.bool true) (.inr rfl))
          · go_wp2_with (first | (go_at_call 23; ((with_reducible refine (at_prog HP.out (HPO.out _)).mono ?_); rintro e w4 ⟨rfl, hf4⟩; obtain ⟨yp, hstp, hybp, hyfp⟩ := store_all (P := PD) PP.toList (heap_alloc_new w4 (.cells Z 31)) (by rw [Array.length_toList, hPk, hZk]) hP1; have K4 : Fr No w3 yp := (hf4.trans (Fr.alloc No w4 (.cells Z 31))).ofNew hyfp (fun k hk => .inr (by rw [hk]; exact hf4.size)); have lP4 : Sem.run PD (loadCellsFrom ⟨w4.heap.size, 0, none⟩ 0 k40 #[]) yp = .ok PP yp := load_block hybp hPk (fun j v hv => by simpa using hv); obtain ⟨XY, hXY⟩ : ∃ XY : Nat → Prop, (fun k => X k ∨ k = w4.heap.size) = XY := ⟨_, rfl⟩; have HSP : Hid (StI yp t L XY ∧ (∀ k, XY k → k < yp.heap.size) ∧ XY b9 ∧ XY bS ∧ XY w4.heap.size ∧ ∀ k, X k → XY k) := two_sets (hXY.symm ▸ rfl) HQ.out.1 (K3.trans K4) (Nat.le_trans K3.size hf4.size) (fun k hk => Nat.lt_of_lt_of_le (HL.out.2.1 k hk) HQ.out.2.2.2.2.1.size) (some_lt hybp) HL.out.2.2.2.2.2.1 HL.out.2.2.2.2.2.2.1)) | (go_at_call 11; ((with_reducible refine (at_prog HP.out (HIP.out _ XY HSP.out.1 HSP.out.2.1)).mono ?_); rintro e w5 ⟨rfl, hS5, hf5⟩; have kp5 := (hf5.block _ (some_lt hybp) (fun hc => hc HSP.out.2.2.2.2.1)).trans hybp; have k95 := (hf5.block b9 (some_lt ((K3.trans K4).keep HQ.out.2.2.2.2.2.2.1)) (fun hc => hc HSP.out.2.2.1)).trans ((K3.trans K4).keep HQ.out.2.2.2.2.2.2.1); have kS5 := (hf5.block bS (some_lt ((K3.trans K4).keep HQ.out.2.1)) (fun hc => hc HSP.out.2.2.2.1)).trans ((K3.trans K4).keep HQ.out.2.1); have lP5 : Sem.run PD (loadCellsFrom ⟨w4.heap.size, 0, none⟩ 0 k40 #[]) w5 = .ok PP w5 := load_block kp5 hPk (fun j v hv => by simpa using hv); have l95 : Sem.run PD (loadCellsFrom ⟨b9, 0, none⟩ 0 k30 #[]) w5 = .ok G w5 := load_block k95 (by rw [HK29.out, ← HGY.out.2.2, List.size_toArray, adr_length, HGY.out.1.1]) (fun j v hv => by simpa using hv))) | (go_at_call 24; ((with_reducible refine (at_prog HP.out (HCT.out _)).mono ?_); rintro e w6 ⟨rfl, hf6⟩; have kS6 := hf6.keep kS5; have cS6 : w6.cell? ⟨bS, k, none⟩ = some (.bool true) := (by rw [cell_of_row _ _ _ _ _ _ kS6, HQ.out.2.2.2.1 k (by omega), HQ.out.2.2.2.2.2.2.2.2.1]); have zS6 := frozen_of_row w6 bS k _ _ kS6)) | fail)
            go_roundg (61 - i)
            case measure => exact hig
            case rel =>
              refine ⟨i + 1, many, max best (k : Int), by go_num, by go_num, by go_num, by omega, by omega, by omega, by omega, by omega, _, S.setIfInBounds k (.bool true), fun j => if j = k then true else f j, ((hS5.mono HSP.out.2.2.2.2.2).no hf6).fr (Fr.setCell (fun k => k = bS) w6 ⟨bS, k, none⟩ (.bool true) rfl) (fun q hq => by rw [hq]; exact HL.out.2.2.2.2.2.2.1), HQ.out.2.2.2.2.2.2.2.1, heap_setCell_same w6 bS k S 52 (.bool true) kS6, by rw [Array.size_setIfInBounds]; exact HQ.out.2.2.1, fun j hj => ?_, HKP.out, ?_⟩
              · show (S.setIfInBounds k (.bool true))[j]? = some (.bool (if j = k then true else f j))
                by_cases h : j = k
                · subst h; rw [Array.getElem?_setIfInBounds_self_of_lt (by rw [HQ.out.2.2.1]; exact hj), if_pos rfl]
                · rw [Array.getElem?_setIfInBounds_ne (fun e => h e.symm), if_neg h]; exact HQ.out.2.2.2.1 j hj
              · exact ((((HQ.out.2.2.2.2.1.trans (K3.mono fun _ _ h => h.elim)).trans (K4.mono fun _ _ h => h.elim)).trans (hf5.mono fun q _ hq => .inl fun hx => hq (HSP.out.2.2.2.2.2 q hx))).trans (hf6.mono fun _ _ h => h.elim)).trans (Fr.setCell _ w6 ⟨bS, k, none⟩ (.bool true) (.inr rfl))
      · have hx : ¬ ((i : Int) < (n : Int)) ∨ ((i : Int) < (n : Int) ∧ ¬ ((i : Int) < 60)) := by omega
        obtain ⟨L, S, f, hS, hLi, hkS, hSs, hSf, hkp, hf⟩ := HR.out
        have FWR : Fr No w wr := HL.out.2.2.2.1.ofNew hf fun k hk => .inr (HL.out.2.2.1 k hk)
        have k9r : wr.heap[b9]? = some (.cells G 29 (0, 0)) := (hf.block b9 (some_lt HL.out.2.2.2.2.2.2.2.2.1) (fun hc => hc.elim (fun h => h HL.out.2.2.2.2.2.1) HL.out.2.2.2.2.2.2.2.2.2.2.2)).trans HL.out.2.2.2.2.2.2.2.2.1
        obtain ⟨hmany, hcase⟩ := keep_end hS.srt.1 hS.srt.2 hkp
        have HMT : Hid (∀ w', Fr No wr w' → Calls Try.prog 26 #[.pointer (some ⟨t, 0, none⟩), .agg G] w' fun e w'' => ∃ ad cp, e = .returned (.slice ad many cp) ∧ Fr No w' w'') := fun w' h => by
          have h := matchesSI (hS.no h) b0 gx HGY.out.1
          rw [HGY.out.2.2, ← hmany] at h
          refine h.mono ?_
          rintro e w'' ⟨ad, cp, he, -, hf⟩
          exact ⟨ad, cp, he, hf⟩
        have h9s : G.size = k30 := by rw [HK29.out, ← HGY.out.2.2, List.size_toArray, adr_length, HGY.out.1.1]
        have l9r : Sem.run PD (loadCellsFrom ⟨b9, 0, none⟩ 0 k30 #[]) wr = .ok G wr := load_block k9r h9s (fun j v hv => by simpa using hv)
        have HL9 : Hid (∀ w', Fr No wr w' → Sem.run PD (loadCellsFrom ⟨b9, 0, none⟩ 0 k30 #[]) w' = .ok G w') := fun w' h => load_block (h.keep k9r) h9s (fun j v hv => by simpa using hv)
        have HLK : Hid (∀ w', Fr No wr w' → Calls Try.prog 25 #[.pointer (some ⟨t, 0, none⟩), .agg G] w' fun e w'' => e = .returned (.tuple #[.agg (endP (inL L b0 gx)).toArray, endV (.int .i64 0) (inL L b0 gx), .bool (!(inL L b0 gx).isEmpty)]) ∧ Fr No w' w'') := fun w' h => by
          have h := lookupSI (hS.no h) b0 gx HGY.out.1
          rw [HGY.out.2.2] at h
          exact h
        have HFW := Lib.hid FWR
        rcases hcase with ⟨hbe, hnil⟩ | ⟨k, hbe, hk, hhas, hE, hV, hne⟩
        · subst hbe
          rw [hnil, show (endP []).toArray = Z from HW.out.1] at HLK
          replace HLK : Hid (∀ w', Fr No wr w' → Calls Try.prog 25 #[.pointer (some ⟨t, 0, none⟩), .agg G] w' fun e w'' => e = .returned (.tuple #[.agg Z, .int .i64 0, .bool false]) ∧ Fr No w' w'') := HLK
          clear hS hLi hkS hSs hSf hkp hf hmany hnil FWR k9r h9s
          rcases hx with p2 | ⟨p2, p3⟩
          all_goals (
            go_wp2_with (first | (go_at_call 25; ((with_reducible refine (at_prog HP.out (HLK.out wr (Fr.refl _ _))).mono ?_); rintro e w7 ⟨rfl, hf7⟩; obtain ⟨y7, hst7, hyb7, hyf7⟩ := store_all (P := PD) Z.toList (heap_alloc_new w7 (.cells Z 31)) (by rw [Array.length_toList]) (by rw [← HW.out.1]; exact pfx_one _ _ _); have K7 : Fr No wr y7 := (hf7.trans (Fr.alloc No w7 (.cells Z 31))).ofNew hyf7 (fun k hk => .inr (by rw [hk]; exact hf7.size)))) | (go_at_call 20; ((with_reducible refine (at_prog HP.out (awake_any _)).mono ?_); rintro e w8 ⟨rfl, hf8⟩; have K8 : Fr No wr w8 := K7.trans hf8; have l98 := HL9.out _ K8)) | (go_at_call 26; ((with_reducible refine (at_prog HP.out (HMT.out _ K8)).mono ?_); rintro e w9 ⟨ad, cp, rfl, hf9⟩)) | fail)
            go_ret
            exact ⟨rfl, HFW.out.trans (K8.trans hf9)⟩)
        · subst hbe
          obtain ⟨PK, hPK, -, hP17, hPs, -, hP1⟩ := pfx_letter b0 (pofX b0 gx k) k (pofX_bytes HW.out.2.2.2.1 _)
          have hPk : PK.size = k40 := by rw [HK31.out]; exact hPs
          rw [hE, hV, hne, hPK] at HLK
          replace HLK : Hid (∀ w', Fr No wr w' → Calls Try.prog 25 #[.pointer (some ⟨t, 0, none⟩), .agg G] w' fun e w'' => e = .returned (.tuple #[.agg PK, .int .i64 (k : Int), .bool true]) ∧ Fr No w' w'') := HLK
          have HCT : Hid (∀ w', Calls Try.prog 24 #[.agg PK, .agg G] w' fun e w'' => e = .returned (.bool true) ∧ Fr No w' w'') := fun w' => by
            have h := cont_ref b0 b0 (pofX b0 gx k) gx k (pofX_bytes HW.out.2.2.2.1 _) HGY.out.1 w'
            rw [hPK, HGY.out.2.2, show contP b0 (pofX b0 gx k) k b0 gx = true from hhas] at h
            exact h
          have p7 : (0 : Int) ≤ (k : Int) := by omega
          clear hS hLi hkS hSs hSf hkp hf hmany hE hV hne hPK hPs hhas FWR k9r h9s
          rcases hx with p2 | ⟨p2, p3⟩
          all_goals (
            go_wp2_with (first | (go_at_call 25; ((with_reducible refine (at_prog HP.out (HLK.out wr (Fr.refl _ _))).mono ?_); rintro e w7 ⟨rfl, hf7⟩; obtain ⟨y7, hst7, hyb7, hyf7⟩ := store_all (P := PD) PK.toList (heap_alloc_new w7 (.cells Z 31)) (by rw [Array.length_toList, hPk, hZk]) hP1; have K7 : Fr No wr y7 := (hf7.trans (Fr.alloc No w7 (.cells Z 31))).ofNew hyf7 (fun k hk => .inr (by rw [hk]; exact hf7.size)))) | (go_at_call 20; ((with_reducible refine (at_prog HP.out (awake_any _)).mono ?_); rintro e w8 ⟨rfl, hf8⟩; have K8 : Fr No wr w8 := K7.trans hf8; have l98 := HL9.out _ K8; have k78 := hf8.keep hyb7; have l78 : Sem.run PD (loadCellsFrom ⟨w7.heap.size, 0, none⟩ 0 k40 #[]) w8 = .ok PK w8 := load_block k78 hPk (fun j v hv => by simpa using hv); have c78 : w8.cell? ⟨w7.heap.size, 17, none⟩ = some (.int .i64 (k : Int)) := (by rw [cell_of_row _ _ _ _ _ _ k78]; exact hP17))) | (go_at_call 24; ((with_reducible refine (at_prog HP.out (HCT.out _)).mono ?_); rintro e w9 ⟨rfl, hf9⟩; have K9 : Fr No wr w9 := K8.trans hf9; have l99 := HL9.out _ K9)) | (go_at_call 26; ((with_reducible refine (at_prog HP.out (HMT.out _ K9)).mono ?_); rintro e w10 ⟨ad, cp, rfl, hf10⟩)) | fail)
            go_ret
            exact ⟨rfl, HFW.out.trans (K9.trans hf10)⟩)
end Go.Proofs.Ytnbohhiooigmbaa
