/-
  THE WALK of the law IpConstructors: it gives true.
  Conditions: the groups lie in memory; the package variables are as Gl says.
-/
import Derived.Test.YtdnfmilihfkhmaaDoorX4
import Derived.Test.YtdnfmilihfkhmaaDoorR6
namespace Go.Proofs.YtdnfmilihfkhmaaDoor
open Go.ChangeShapes Go.WideShapes Go.ChangeAt Go.RowKit
set_option linter.unusedVariables false

theorem zero39w : ∀ w, (zeroValue 39).run Tryd.prog w = .ok (.int .u16 0) w := by
  intro w
  kernel_rfl
def mapG (a b c d : Nat) : List Nat := [0, 0, 0, 0, 0, 65535, a * 256 + b, c * 256 + d]
theorem mapG_facts {a b c d : Nat} (ha : a < 256) (hb : b < 256) (hc : c < 256) (hd : d < 256) : v6Of (mapG a b c d) = pack (mapG a b c d) ∧ Bytes (pack (mapG a b c d)) ∧ (∀ g ∈ mapG a b c d, g < 65536) ∧ unmapB true (pack (mapG a b c d)) = false ∧ unmapX true (pack (mapG a b c d)) = v4Of a b c d := by
  have h : ∀ a b : Nat, b < 256 → (a * 256 + b) / 256 = a ∧ (a * 256 + b) % 256 = b := fun a b h => by omega
  have hlt : ∀ g ∈ mapG a b c d, g < 65536 := by intro g hg; simp [mapG] at hg; omega
  have e : pack (mapG a b c d) = [0, 0, 0, 0, 0, 0, 0, 0, 0, 0, 255, 255, a, b, c, d] := by
    simp only [mapG, pack, List.flatMap_cons, List.flatMap_nil]
    simp [(h a b hb), (h c d hd)]
  refine ⟨rfl, ⟨rfl, pack_bytes hlt⟩, hlt, ?_, ?_⟩
  · rw [e]; simp [unmapB, isMapped, mapped]
  · rw [e]; simp [unmapX, isMapped, mapped, List.getD]
theorem unmap_v4 (a b c d : Nat) : unmapB false (v4Of a b c d) = false ∧ unmapX false (v4Of a b c d) = v4Of a b c d := ⟨rfl, rfl⟩

set_option maxHeartbeats 8000000 in
set_option maxRecDepth 100000 in
theorem cons_walk (a b c d : Nat) (ad : Option Addr) (n cp : Nat) (gs : List Nat) (ha : a < 256) (hb : b < 256) (hc : c < 256) (hd : d < 256) (w : World) (hG : Gl w) (hat : At w ad (nums .u16 gs)) (hgl : gs.length = n) (hg6 : ∀ g ∈ gs, g < 65536) :
    Calls Tryd.prog 7 #[.int .u8 a, .int .u8 b, .int .u8 c, .int .u8 d, .slice ad n cp] w fun e w' => e = .returned (.bool true) ∧ Fr No w w' := by
  have v24 := zero24
  obtain ⟨Z, hZ⟩ : ∃ Z : Array Value, (adr false zeros).toArray = Z := ⟨_, rfl⟩
  rw [hZ] at v24
  have HZ : Hid (Z.size = 17) := by show _ = _; rw [← hZ]; rfl
  clear hZ
  obtain ⟨mv, mb, ml, mu, mx⟩ := mapG_facts ha hb hc hd
  obtain ⟨X, hX⟩ : ∃ X : Array Value, (adr (decide (n = 8)) (v6Of gs)).toArray = X := ⟨_, rfl⟩
  obtain ⟨F, hF⟩ : ∃ F : Array Value, (adr false (v4Of a b c d)).toArray = F := ⟨_, rfl⟩
  obtain ⟨M, hM⟩ : ∃ M : Array Value, (adr true (pack (mapG a b c d))).toArray = M := ⟨_, rfl⟩
  have hxb := v6_bytes hg6
  have hfb : Bytes (v4Of a b c d) := v4_bytes ha hb hc hd
  have hXs : Hid (X.size = 17 ∧ (∀ u ∈ X.toList, u.oneCell' = true) ∧ F.size = 17 ∧ (∀ u ∈ F.toList, u.oneCell' = true) ∧ M.size = 17 ∧ (∀ u ∈ M.toList, u.oneCell' = true)) := by
    refine ⟨?_, ?_, ?_, ?_, ?_, ?_⟩
    · rw [← hX, List.size_toArray, adr_length, hxb.1]
    · rw [← hX]; exact adr_one _ _
    · rw [← hF]; rfl
    · rw [← hF]; exact adr_one _ _
    · rw [← hM, List.size_toArray, adr_length, mb.1]
    · rw [← hM]; exact adr_one _ _
  have H25 : Hid (∀ w', Fr No w w' → Calls Tryd.prog 25 #[.slice ad n cp] w' fun e w'' => e = .returned (.tuple #[.agg X, .bool (decide (n = 8))]) ∧ Fr No w' w'') := fun w' hf => by rw [← hX]; exact v6_any ad n cp gs w' (hat.frNo hf) hgl hg6
  have H26 : Hid (∀ w', Fr No w w' → Calls Tryd.prog 26 #[.slice ad n cp] w' fun e w'' => e = .returned (.tuple #[.agg X, .bool (decide (n = 8))]) ∧ Fr No w' w'') := fun w' hf => by rw [← hX]; exact v6_ref ad n cp gs w' (hat.frNo hf) hgl hg6
  have H27 : Hid (∀ w', Calls Tryd.prog 27 #[.int .u8 a, .int .u8 b, .int .u8 c, .int .u8 d] w' fun e w'' => e = .returned (.agg F) ∧ Fr No w' w'') := fun w' => by rw [← hF]; exact v4_any a b c d w'
  have H28 : Hid (∀ w', Calls Tryd.prog 28 #[.int .u8 a, .int .u8 b, .int .u8 c, .int .u8 d] w' fun e w'' => e = .returned (.agg F) ∧ Fr No w' w'') := fun w' => by rw [← hF]; exact v4_ref a b c d w'
  have HM6 : Hid (∀ (w' : World) (k : Nat), w'.heap[k]? = some (.cells (nums .u16 (mapG a b c d)).toArray 39 (0, 0)) → Calls Tryd.prog 25 #[.slice (some ⟨k, 0, none⟩) 8 8] w' fun e w'' => e = .returned (.tuple #[.agg M, .bool true]) ∧ Fr No w' w'') := fun w' k hk => by
    have h1 := v6_any (some ⟨k, 0, none⟩) 8 8 (mapG a b c d) w' (At.block hk) rfl ml
    rw [mv] at h1
    rw [← hM]
    exact h1
  have H10 : Hid (∀ w', Fr No w w' → Calls Tryd.prog 10 #[] w' fun e w'' => e = .returned (.bool true) ∧ Fr No w' w'') := fun w' hf => awake_any w' (hG.fr hf)
  have H13 : Hid (∀ w', Calls Tryd.prog 13 #[.agg F] w' fun e w'' => e = .returned (.bool true) ∧ Fr No w' w'') := fun w' => by rw [← hF]; exact valid_any false (v4Of a b c d) hfb w'
  have H15M : Hid (∀ w', Calls Tryd.prog 15 #[.agg M] w' fun e w'' => e = .returned (.agg F) ∧ Fr No w' w'') := fun w' => by
    have h1 := unmap_any true (pack (mapG a b c d)) mb w'
    rw [mu, mx] at h1
    rw [← hM, ← hF]
    exact h1
  have H15F : Hid (∀ w', Calls Tryd.prog 15 #[.agg F] w' fun e w'' => e = .returned (.agg F) ∧ Fr No w' w'') := fun w' => by
    have h1 := unmap_any false (v4Of a b c d) hfb w'
    rw [(unmap_v4 a b c d).1, (unmap_v4 a b c d).2] at h1
    rw [← hF]
    exact h1
  have hEX : ∀ w, Sem.run Tryd.prog (Op.equalIn 10000 24 (.agg X) (.agg X)) w = .ok true w := fun w => by rw [← hX, adr_eq hxb hxb]; simp
  have hEF : ∀ w, Sem.run Tryd.prog (Op.equalIn 10000 24 (.agg F) (.agg F)) w = .ok true w := fun w => by rw [← hF, adr_eq hfb hfb]; simp
  have o1 := or_group' ha hb
  have o2 := or_group' hc hd
  have v39 := zero39w
  have a1 : (a : Int) ≤ 255 := by omega
  have a2 : (c : Int) ≤ 255 := by omega
  have a3 : (0 : Int) ≤ (a : Int) := by omega
  have a5 : (b : Int) ≤ 255 := by omega
  have a6 : (d : Int) ≤ 255 := by omega
  have a7 : (0 : Int) ≤ (b : Int) := by omega
  have a8 : (0 : Int) ≤ (d : Int) := by omega
  have a4 : (0 : Int) ≤ (c : Int) := by omega
  have hc1 : ((a * 256 + b : Nat) : Int) = (a : Int) * 256 + (b : Int) := by omega
  have hc2 : ((c * 256 + d : Nat) : Int) = (c : Int) * 256 + (d : Int) := by omega
  have HBLK : Hid (∀ w' : World, (w'.alloc (.cells #[.int .u16 0, .int .u16 0, .int .u16 0, .int .u16 0, .int .u16 0, .int .u16 65535, .int .u16 ((a : Int) * 256 + (b : Int)), .int .u16 ((c : Int) * 256 + (d : Int))] 39)).heap[w'.heap.size]? = some (.cells (nums .u16 (mapG a b c d)).toArray 39 (0, 0))) := fun w' => by
    rw [← hc1, ← hc2]; exact heap_alloc_new w' _
  rw [hc1] at o1
  rw [hc2] at o2
  clear hc1 hc2 mv mb ml mu mx hX hF hM hxb hfb ha hb hc hd hG hat hg6 hgl
  go_enter Tryd.func7, Tryd.ntmps7
  have q24 := Tryd.eqGuardType24
  have t3 := Tryd.underlying3
  have u3 := Tryd.runUnderlying3
  have g3 := Tryd.isAgg3
  have z3 := Tryd.sizeOf3
  have t4 := Tryd.underlying4
  have u4 := Tryd.runUnderlying4
  have g4 := Tryd.isAgg4
  have z4 := Tryd.sizeOf4
  have t5 := Tryd.underlying5
  have u5 := Tryd.runUnderlying5
  have g5 := Tryd.isAgg5
  have z5 := Tryd.sizeOf5
  have t22 := Tryd.underlying22
  have u22 := Tryd.runUnderlying22
  have g22 := Tryd.isAgg22
  have z22 := Tryd.sizeOf22
  have t24 := Tryd.underlying24
  have u24 := Tryd.runUnderlying24
  have g24 := Tryd.isAgg24
  have z24 := Tryd.sizeOf24
  have t30 := Tryd.underlying30
  have u30 := Tryd.runUnderlying30
  have g30 := Tryd.isAgg30
  have z30 := Tryd.sizeOf30
  have t37 := Tryd.underlying37
  have u37 := Tryd.runUnderlying37
  have g37 := Tryd.isAgg37
  have z37 := Tryd.sizeOf37
  have t39 := Tryd.underlying39
  have u39 := Tryd.runUnderlying39
  have g39 := Tryd.isAgg39
  have z39 := Tryd.sizeOf39
  have c10 := Tryd.call10
  have c13 := Tryd.call13
  have c15 := Tryd.call15
  have c25 := Tryd.call25
  have c26 := Tryd.call26
  have c27 := Tryd.call27
  have c28 := Tryd.call28
  have mixed : Tryd.prog.follows .mixedOrders = true := by kernel_rfl
  obtain ⟨k24, hk24⟩ : ∃ k, k = 17 := ⟨_, rfl⟩
  rw [← hk24] at z24
  have nk24 : ¬ k24 = 0 := by omega
  have HK24 := Lib.hid hk24
  have hP : Tryd.prog = PD := rfl
  rw [hP] at t3 u3 g3 z3 t4 u4 g4 z4 t5 u5 g5 z5 t22 u22 g22 z22 t24 u24 g24 z24 t30 u30 g30 z30 t37 u37 g37 z37 t39 u39 g39 z39 c10 c13 c15 c25 c26 c27 c28 mixed v24 v39 hEX hEF q24 ⊢
  have HP := Lib.hid hP.symm
  clear hP hk24
  have hXk : X.size = k24 := by rw [HK24.out]; exact hXs.out.1
  have hFk : F.size = k24 := by rw [HK24.out]; exact hXs.out.2.2.1
  have hMk : M.size = k24 := by rw [HK24.out]; exact hXs.out.2.2.2.2.1
  go_wp2_with fail
  refine (at_prog HP.out (H25.out w (Fr.refl _ _))).mono ?_
  rintro e w1 ⟨rfl, hf1⟩
  obtain ⟨y1, hs1, hb1, hg1⟩ := put_new PD w1 (A := X) HZ.out hXs.out.1 hXs.out.2.1
  have G1 := Lib.hid (And.intro (hf1.trans hg1) hb1)
  clear hf1 hg1 hb1
  go_wp2_with fail
  clear hs1
  refine (at_prog HP.out (H26.out y1 G1.out.1)).mono ?_
  rintro e w2 ⟨rfl, hf2⟩
  obtain ⟨y2, hs2, hb2, hg2⟩ := put_new PD w2 (A := X) HZ.out hXs.out.1 hXs.out.2.1
  have G2 := Lib.hid (And.intro (G1.out.1.trans (hf2.trans hg2)) (And.intro hb2 ((hf2.trans hg2).keep G1.out.2)))
  clear hf2 hg2 hb2
  go_wp2_with fail
  clear hs2
  refine (at_prog HP.out (H27.out y2)).mono ?_
  rintro e w3 ⟨rfl, hf3⟩
  obtain ⟨y3, hs3, hb3, hg3⟩ := put_new PD w3 (A := F) HZ.out hXs.out.2.2.1 hXs.out.2.2.2.1
  have G3 := Lib.hid (And.intro (G2.out.1.trans (hf3.trans hg3)) (And.intro hb3 (And.intro ((hf3.trans hg3).keep G2.out.2.1) ((hf3.trans hg3).keep G2.out.2.2))))
  clear hf3 hg3 hb3
  go_wp2_with fail
  clear hs3
  refine (at_prog HP.out (HM6.out _ _ (HBLK.out y3))).mono ?_
  rintro e w4 ⟨rfl, hf4⟩
  obtain ⟨y4, hs4, hb4, hg4⟩ := put_new PD w4 (A := M) HZ.out hXs.out.2.2.2.2.1 hXs.out.2.2.2.2.2
  have hf34 := ((Fr.alloc No y3 (.cells #[.int .u16 0, .int .u16 0, .int .u16 0, .int .u16 0, .int .u16 0, .int .u16 65535, .int .u16 ((a : Int) * 256 + (b : Int)), .int .u16 ((c : Int) * 256 + (d : Int))] 39)).trans hf4).trans hg4
  have G4 := Lib.hid (And.intro (G3.out.1.trans hf34) (And.intro hb4 (And.intro (hf34.keep G3.out.2.1) (And.intro (hf34.keep G3.out.2.2.1) (hf34.keep G3.out.2.2.2)))))
  clear hf4 hg4 hb4 hf34
  go_wp2_with fail
  clear hs4
  generalize w1.heap.size = n1 at G4 ⊢
  generalize w2.heap.size = n2 at G4 ⊢
  generalize w3.heap.size = n3 at G4 ⊢
  generalize w4.heap.size = n4 at G4 ⊢
  have HLD : Hid (∀ w', Fr No y4 w' → Sem.run PD (loadCellsFrom ⟨n1, 0, none⟩ 0 k24 #[]) w' = .ok X w' ∧ Sem.run PD (loadCellsFrom ⟨n2, 0, none⟩ 0 k24 #[]) w' = .ok X w' ∧ Sem.run PD (loadCellsFrom ⟨n3, 0, none⟩ 0 k24 #[]) w' = .ok F w' ∧ Sem.run PD (loadCellsFrom ⟨n4, 0, none⟩ 0 k24 #[]) w' = .ok M w') := fun w' hf => by
    rw [HK24.out]
    exact ⟨load_block (hf.keep G4.out.2.2.2.2) hXs.out.1 (fun j v hv => by simpa using hv), load_block (hf.keep G4.out.2.2.2.1) hXs.out.1 (fun j v hv => by simpa using hv), load_block (hf.keep G4.out.2.2.1) hXs.out.2.2.1 (fun j v hv => by simpa using hv), load_block (hf.keep G4.out.2.1) hXs.out.2.2.2.2.1 (fun j v hv => by simpa using hv)⟩
  have f0 : Fr No y4 y4.drew := Fr.drew No _
  have m := HLD.out _ f0
  go_region_held3 (fun w' => Sem.run PD (loadCellsFrom ⟨n1, 0, none⟩ 0 k24 #[]) w' = .ok X w' ∧ Sem.run PD (loadCellsFrom ⟨n2, 0, none⟩ 0 k24 #[]) w' = .ok X w' ∧ Sem.run PD (loadCellsFrom ⟨n3, 0, none⟩ 0 k24 #[]) w' = .ok F w' ∧ Sem.run PD (loadCellsFrom ⟨n4, 0, none⟩ 0 k24 #[]) w' = .ok M w') (assumption) (first
    | (go_at_call 10; with_reducible refine (at_prog HP.out (H10.out y4.drew (G4.out.1.trans f0))).mono ?_; rintro e x0 ⟨rfl, h0⟩; have f1 := f0.trans h0; have m1 := HLD.out _ f1; clear h0)
    | (go_at_call 28; with_reducible refine (at_prog HP.out (H28.out x0)).mono ?_; rintro e x1 ⟨rfl, h0⟩; have f2 := f1.trans h0; have m2 := HLD.out _ f2; clear h0)
    | (go_at_call 13; with_reducible refine (at_prog HP.out (H13.out x1)).mono ?_; rintro e x2 ⟨rfl, h0⟩; have f3 := f2.trans h0; have m3 := HLD.out _ f3; clear h0)
    | (go_at_call 15; with_reducible refine (at_prog HP.out (H15M.out x2)).mono ?_; rintro e x3 ⟨rfl, h0⟩; have f4 := f3.trans h0; have m4 := HLD.out _ f4; clear h0)
    | (go_at_call 15; with_reducible refine (at_prog HP.out (H15F.out x3)).mono ?_; rintro e x4 ⟨rfl, h0⟩; have f5 := f4.trans h0; have m5 := HLD.out _ f5; clear h0))
  go_wp2_with fail
  go_ret
  exact ⟨rfl, G4.out.1.trans f5⟩

/-- In the frame's order. -/
theorem cons_law (a b c d : Nat) (ad : Option Addr) (n cp : Nat) (gs : List Nat) (ha : a < 256) (hb : b < 256) (hc : c < 256) (hd : d < 256) {w : World} (hat : At w ad (nums .u16 gs)) (hgl : gs.length = n) (hnc : n ≤ cp) (hnl : ad = none → cp = 0) (hg6 : ∀ g ∈ gs, g < 65536) (w' : World) (hG : Gl w) :
    Calls Tryd.prog 7 #[.int .u8 a, .int .u8 b, .int .u8 c, .int .u8 d, .slice ad n cp] w fun e w' => e = .returned (.bool true) ∧ Fr No w w' := cons_walk a b c d ad n cp gs ha hb hc hd w hG hat hgl hg6
end Go.Proofs.YtdnfmilihfkhmaaDoor
