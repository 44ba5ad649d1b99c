/-
  THE WALK of the law IpParsesExactly: it gives true.
  Conditions: the string is shorter than 2 to the 31; the numbers lie in memory; the package variables are as Gl says.
-/
import Derived.Test.YtdnfmilihfkhmaaDoorX4
import Derived.Test.YtdnfmilihfkhmaaDoorR8
import Derived.Test.YtdnfmilihfkhmaaDoorX22
namespace Go.Proofs.YtdnfmilihfkhmaaDoor
open Go.ChangeShapes Go.WideShapes Go.ChangeAt Go.RowKit
set_option linter.unusedVariables false

set_option maxHeartbeats 8000000 in
set_option maxRecDepth 100000 in
theorem exactly_walk (l : List UInt8) (ad : Option Addr) (n cp : Nat) (gs : List Nat) (hl : l.length < 2147483648) (w : World) (hG : Gl w) (hat : At w ad (nums .u8 gs)) (hgl : gs.length = n) (hg6 : ∀ g ∈ gs, g < 256) :
    Calls Tryd.prog 5 #[.string (bs l), .slice ad n cp] w fun e w' => e = .returned (.bool true) ∧ Fr No w w' := by
  have HG := Lib.hid (And.intro hG (And.intro hat (And.intro hgl hg6)))
  have v24 := zero24
  obtain ⟨Z, hZ⟩ : ∃ Z : Array Value, (adr false zeros).toArray = Z := ⟨_, rfl⟩
  rw [hZ] at v24
  have HZ : Hid (Z.size = 17) := by show _ = _; rw [← hZ]; rfl
  have HAW : Hid (∀ w', Fr No w w' → Calls Tryd.prog 10 #[] w' fun e w'' => e = .returned (.bool true) ∧ Fr No w' w'') := fun w' hf => awake_any w' (HG.out.1.fr hf)
  have HPR : Hid (∀ s : ByteArray, s.size < 2147483648 → ∃ (A : Array Value) (b : Bool), A.size = 17 ∧ (∀ u ∈ A.toList, u.oneCell' = true) ∧ (∀ w, Sem.run PD (Op.equalIn 10000 24 (.agg A) (.agg A)) w = .ok true w) ∧ (∀ w', Fr No w w' → Calls Tryd.prog 20 #[.string s] w' fun e w'' => e = .returned (.tuple #[.agg A, .bool b]) ∧ Fr No w' w'') ∧ (∀ w', Calls Tryd.prog 21 #[.string s] w' fun e w'' => e = .returned (.tuple #[.agg A, .bool b]) ∧ Fr No w' w'')) := fun s hs => by
    obtain ⟨l, rfl⟩ : ∃ l, s = bs l := ⟨_, bs_of s⟩
    rw [bs_size] at hs
    refine ⟨(adr (resB (parseS l)) (resX (parseS l))).toArray, (parseS l).isSome, by rw [List.size_toArray, adr_length, (resX_bytes l).1], adr_one _ _, fun w => ?_, fun w' hf => parse_any l w' (HG.out.1.fr hf).g hs, fun w' => parse_ref l hs w'⟩
    have := adr_eq (b := resB (parseS l)) (c := resB (parseS l)) (resX_bytes l) (resX_bytes l) w
    rw [show Sem.run PD _ w = Sem.run Tryd.prog _ w from rfl, this]; simp
  obtain ⟨A, b, hA17, hA1, hEA, hA20, hA21⟩ := HPR.out (bs l) hl
  obtain ⟨B, c, hB17, hB1, hEB, hB20, hB21⟩ := HPR.out (str (chars gs)) (by
    have h1 : (str (chars gs)).size = (chars gs).length := by simp [str, ByteArray.size]
    rw [h1, chars, List.length_map, List.length_take]; omega)
  have HCH : Hid (∀ w', Fr No w w' → Calls Tryd.prog 22 #[.slice ad n cp] w' fun e w'' => e = .returned (.string (str (chars gs))) ∧ Fr No w' w'') := fun w' hf => chars_any ad n cp gs w' (hat.frNo hf) hgl hg6
  have HAB := Lib.hid (And.intro hA17 (And.intro hA1 (And.intro hB17 hB1)))
  have HCC := Lib.hid (And.intro hA20 (And.intro hA21 (And.intro hB20 hB21)))
  generalize str (chars gs) = sc at HCH HCC
  generalize bs l = sl at HCC ⊢
  clear hZ hG hat hgl hg6 hl hA1 hB1 hA20 hA21 hB20 hB21
  go_enter Tryd.func5, Tryd.ntmps5
  have q24 := Tryd.eqGuardType24
  have t3 := Tryd.underlying3
  have u3 := Tryd.runUnderlying3
  have g3 := Tryd.isAgg3
  have z3 := Tryd.sizeOf3
  have t4 := Tryd.underlying4
  have u4 := Tryd.runUnderlying4
  have g4 := Tryd.isAgg4
  have z4 := Tryd.sizeOf4
  have t5 := Tryd.underlying5
  have u5 := Tryd.runUnderlying5
  have g5 := Tryd.isAgg5
  have z5 := Tryd.sizeOf5
  have t9 := Tryd.underlying9
  have u9 := Tryd.runUnderlying9
  have g9 := Tryd.isAgg9
  have z9 := Tryd.sizeOf9
  have t22 := Tryd.underlying22
  have u22 := Tryd.runUnderlying22
  have g22 := Tryd.isAgg22
  have z22 := Tryd.sizeOf22
  have t24 := Tryd.underlying24
  have u24 := Tryd.runUnderlying24
  have g24 := Tryd.isAgg24
  have z24 := Tryd.sizeOf24
  have t34 := Tryd.underlying34
  have u34 := Tryd.runUnderlying34
  have g34 := Tryd.isAgg34
  have z34 := Tryd.sizeOf34
  have c10 := Tryd.call10
  have c20 := Tryd.call20
  have c21 := Tryd.call21
  have c22 := Tryd.call22
  have mixed : Tryd.prog.follows .mixedOrders = true := by kernel_rfl
  obtain ⟨k24, hk24⟩ : ∃ k, k = 17 := ⟨_, rfl⟩
  rw [← hk24] at z24
  have nk24 : ¬ k24 = 0 := by omega
  have HK24 := Lib.hid hk24
  have hP : Tryd.prog = PD := rfl
  rw [hP] at t3 u3 g3 z3 t4 u4 g4 z4 t5 u5 g5 z5 t9 u9 g9 z9 t22 u22 g22 z22 t24 u24 g24 z24 t34 u34 g34 z34 c10 c20 c21 c22 mixed v24 q24 ⊢
  have HP := Lib.hid hP.symm
  clear hP hk24
  have hAk : A.size = k24 := by rw [HK24.out]; exact hA17
  have hBk : B.size = k24 := by rw [HK24.out]; exact hB17
  clear hA17 hB17
  go_wp2_with fail
  refine (at_prog HP.out (HCC.out.1 w (Fr.refl _ _))).mono ?_
  rintro e w1 ⟨rfl, hf1⟩
  obtain ⟨y1, hs1, hb1, hg1⟩ := put_new PD w1 (A := A) HZ.out HAB.out.1 HAB.out.2.1
  have G1 := Lib.hid (And.intro (hf1.trans hg1) hb1)
  clear hf1 hg1 hb1
  go_wp2_with fail
  clear hs1
  refine (at_prog HP.out (HCC.out.2.1 y1)).mono ?_
  rintro e w2 ⟨rfl, hf2⟩
  obtain ⟨y2, hs2, hb2, hg2⟩ := put_new PD w2 (A := A) HZ.out HAB.out.1 HAB.out.2.1
  have G2 := Lib.hid (And.intro (G1.out.1.trans (hf2.trans hg2)) (And.intro hb2 ((hf2.trans hg2).keep G1.out.2)))
  clear hf2 hg2 hb2
  go_wp2_with fail
  clear hs2
  refine (at_prog HP.out (HCH.out y2 G2.out.1)).mono ?_
  rintro e w3 ⟨rfl, hf3⟩
  have F3 := Lib.hid hf3
  clear hf3
  go_wp2_with fail
  refine (at_prog HP.out (HCC.out.2.2.1 w3 (G2.out.1.trans F3.out))).mono ?_
  rintro e w4 ⟨rfl, hf4⟩
  obtain ⟨y4, hs4, hb4, hg4⟩ := put_new PD w4 (A := B) HZ.out HAB.out.2.2.1 HAB.out.2.2.2
  have hk4 := (F3.out.trans hf4).trans hg4
  have G4 := Lib.hid (And.intro (G2.out.1.trans hk4) (And.intro hb4 (And.intro (hk4.keep G2.out.2.1) (hk4.keep G2.out.2.2))))
  clear hf4 hg4 hb4 hk4
  go_wp2_with fail
  clear hs4
  refine (at_prog HP.out (HCH.out y4 G4.out.1)).mono ?_
  rintro e w5 ⟨rfl, hf5⟩
  have F5 := Lib.hid hf5
  clear hf5
  go_wp2_with fail
  refine (at_prog HP.out (HCC.out.2.2.2 w5)).mono ?_
  rintro e w6 ⟨rfl, hf6⟩
  obtain ⟨y6, hs6, hb6, hg6⟩ := put_new PD w6 (A := B) HZ.out HAB.out.2.2.1 HAB.out.2.2.2
  have hk6 := (F5.out.trans hf6).trans hg6
  have G6 := Lib.hid (And.intro (G4.out.1.trans hk6) (And.intro hb6 (And.intro (hk6.keep G4.out.2.1) (And.intro (hk6.keep G4.out.2.2.1) (hk6.keep G4.out.2.2.2)))))
  clear hf6 hg6 hb6 hk6
  go_wp2_with fail
  clear hs6
  refine (at_prog HP.out (HAW.out y6 G6.out.1)).mono ?_
  rintro e w7 ⟨rfl, hf7⟩
  have hl1 : Sem.run PD (loadCellsFrom ⟨w1.heap.size, 0, none⟩ 0 k24 #[]) w7 = .ok A w7 := by rw [HK24.out]; exact load_block (hf7.keep G6.out.2.2.2.2) HAB.out.1 (fun j v hv => by simpa using hv)
  have hl2 : Sem.run PD (loadCellsFrom ⟨w2.heap.size, 0, none⟩ 0 k24 #[]) w7 = .ok A w7 := by rw [HK24.out]; exact load_block (hf7.keep G6.out.2.2.2.1) HAB.out.1 (fun j v hv => by simpa using hv)
  have hl4 : Sem.run PD (loadCellsFrom ⟨w4.heap.size, 0, none⟩ 0 k24 #[]) w7 = .ok B w7 := by rw [HK24.out]; exact load_block (hf7.keep G6.out.2.2.1) HAB.out.2.2.1 (fun j v hv => by simpa using hv)
  have hl6 : Sem.run PD (loadCellsFrom ⟨w6.heap.size, 0, none⟩ 0 k24 #[]) w7 = .ok B w7 := by rw [HK24.out]; exact load_block (hf7.keep G6.out.2.1) HAB.out.2.2.1 (fun j v hv => by simpa using hv)
  have H7 := Lib.hid (G6.out.1.trans hf7)
  clear hf7
  go_wp2_with fail
  go_ret
  exact ⟨rfl, H7.out⟩
end Go.Proofs.YtdnfmilihfkhmaaDoor
