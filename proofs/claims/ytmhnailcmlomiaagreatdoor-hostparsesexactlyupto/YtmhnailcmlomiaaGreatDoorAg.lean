/-
  CONTRACT of the laws' agrees, over this seat's translation: the call returns true.
  Conditions: the string is shorter than 2 to the 31; the package variables are as Gl says.
-/
import Derived.Test.YtmhnailcmlomiaaGreatDoorPz
import Derived.Test.YtmhnailcmlomiaaGreatDoorXr
namespace Go.Proofs.YtmhnailcmlomiaaGreatDoor
open Go.ChangeShapes Go.WideShapes Go.ChangeAt Go.RowKit
set_option linter.unusedVariables false

theorem ptT_tgt (l : List UInt8) : ∃ nl b xs p, ptT l = tgt (bs nl) b xs p ∧ Bytes xs := by
  unfold ptT
  split
  · rename_i i _
    split
    · obtain ⟨n, b, xs, h, hx⟩ := phT_tgt (l.take i)
      exact ⟨n.data.toList, b, xs, _, by rw [h, withP_tgt _ _ _ hx.1, ← bs_of n], hx⟩
    · exact ⟨[], false, zeros, 0, rfl, zeros_bytes⟩
  · exact ⟨[], false, zeros, 0, rfl, zeros_bytes⟩

set_option maxHeartbeats 16000000 in
set_option maxRecDepth 100000 in
theorem agrees_law (l : List UInt8) (hl : l.length < 2147483648) (w : World) (hG : Gl w) :
    Calls Tryz.prog 9 #[.string (bs l)] w fun e w' => e = .returned (.bool true) ∧ Fr No w w' := by
  obtain ⟨Z, hZ⟩ : ∃ Z : Array Value, noT.toArray = Z := ⟨_, rfl⟩
  have v62 := zero32
  rw [hZ] at v62
  have hz19 : Z.size = 19 := by rw [← hZ]; rfl
  have N1 : Hid (∀ w', Calls Tryz.prog 36 #[.string (bs l)] w' fun e w'' => e = .returned (.tuple #[.string (nmS (nameP l)), .bool (nameP l).isSome]) ∧ Fr No w' w'') := fun w' => by rw [← ansN_eq]; exact pname_any l hl w'
  have N2 : Hid (∀ w', Calls Tryz.prog 39 #[.string (bs l)] w' fun e w'' => e = .returned (.tuple #[.string (nmS (nameP l)), .bool (nameP l).isSome]) ∧ Fr No w' w'') := fun w' => by rw [← ansN_eq]; exact pname_ref l (by omega) w'
  have T1 : Hid (∀ w', Gl w' → Calls Tryz.prog 17 #[.string (bs l)] w' fun e w'' => e = .returned (.tuple #[.agg (ptT l).toArray, .bool (ptB l)]) ∧ Fr No w' w'') := fun w' h => ptarget_any l w' h.g hl
  have T2 : Hid (∀ w', Calls Tryz.prog 40 #[.string (bs l)] w' fun e w'' => e = .returned (.tuple #[.agg (ptT l).toArray, .bool (ptB l)]) ∧ Fr No w' w'') := fun w' => ptarget_ref l hl w'
  have O1 : Hid (∀ w', Calls Tryz.prog 41 #[.string (bs l)] w' fun e w'' => e = .returned (.tuple #[.int .i64 (portN (portV l) : Nat), .bool (portV l).isSome]) ∧ w'' = w') := fun w' => pport_any l (by omega) w'
  have O2 : Hid (∀ w', Calls Tryz.prog 42 #[.string (bs l)] w' fun e w'' => e = .returned (.tuple #[.int .i64 (portN (portV l) : Nat), .bool (portV l).isSome]) ∧ w'' = w') := fun w' => pport_ref l w'
  have C1 : Hid (∀ w', Calls Tryz.prog 38 #[.string (bs l)] w' fun e w'' => e = .returned (.int .i64 (cntV l : Nat)) ∧ w'' = w') := fun w' => cnt_any l w'
  have C2 : Hid (∀ w', Calls Tryz.prog 43 #[.string (bs l)] w' fun e w'' => e = .returned (.int .i64 (cntV l : Nat)) ∧ Fr No w' w'') := fun w' => cnt_ref l w'
  obtain ⟨nl, b, xs, p, hpt, hx⟩ := ptT_tgt l
  have hTe := tgt_same nl b xs p hx
  have hTs := tgt_size (n := bs nl) (b := b) (p := p) hx
  have hT1 := tgt_ones (bs nl) b xs p
  rw [← hpt] at hTe hTs hT1
  generalize (ptT l).toArray = T at T1 T2 hTe hTs hT1
  generalize ptB l = tb at T1 T2
  generalize nmS (nameP l) = sn at N1 N2
  generalize (nameP l).isSome = sb at N1 N2
  generalize ((portN (portV l) : Nat) : Int) = pn at O1 O2
  generalize (portV l).isSome = pb at O1 O2
  generalize ((cntV l : Nat) : Int) = cn at C1 C2
  generalize bs l = s at N1 N2 T1 T2 O1 O2 C1 C2 ⊢
  have HB := Lib.hid (And.intro hG hT1)
  have q62 := Tryz.eqGuardType32
  have e1 : (sn.toList == sn.toList) = true := by simp
  have e2 : (sb == sb) = true := by simp
  have e3 : (tb == tb) = true := by simp
  have e4 : (pn == pn) = true := by simp
  have e5 : (pb == pb) = true := by simp
  have e6 : (cn == cn) = true := by simp
  clear hpt hx hG hT1 hZ hl
  go_enter Tryz.func9, Tryz.ntmps9
  have t3 := Tryz.underlying3
  have u3 := Tryz.runUnderlying3
  have g3 := Tryz.isAgg3
  have z3 := Tryz.sizeOf3
  have t4 := Tryz.underlying4
  have u4 := Tryz.runUnderlying4
  have g4 := Tryz.isAgg4
  have z4 := Tryz.sizeOf4
  have t9 := Tryz.underlying9
  have u9 := Tryz.runUnderlying9
  have g9 := Tryz.isAgg9
  have z9 := Tryz.sizeOf9
  have t30 := Tryz.underlying30
  have u30 := Tryz.runUnderlying30
  have g30 := Tryz.isAgg30
  have z30 := Tryz.sizeOf30
  have t32 := Tryz.underlying32
  have u32 := Tryz.runUnderlying32
  have g32 := Tryz.isAgg32
  have z32 := Tryz.sizeOf32
  have c17 := Tryz.call17
  have c36 := Tryz.call36
  have c38 := Tryz.call38
  have c39 := Tryz.call39
  have c40 := Tryz.call40
  have c41 := Tryz.call41
  have c42 := Tryz.call42
  have c43 := Tryz.call43
  have mixed : Tryz.prog.follows .mixedOrders = true := by kernel_rfl
  obtain ⟨k62, hk62⟩ : ∃ k, k = 19 := ⟨_, rfl⟩
  rw [← hk62] at z32
  have nk62 : ¬ k62 = 0 := by omega
  have HK32 := Lib.hid hk62
  have hP : Tryz.prog = PD := rfl
  rw [hP] at t3 u3 g3 z3 t4 u4 g4 z4 t9 u9 g9 z9 t30 u30 g30 z30 t32 u32 g32 z32 c17 c36 c38 c39 c40 c41 c42 c43 mixed v62 hTe q62 ⊢
  have HP := Lib.hid hP.symm
  clear hP hk62
  have hZk : Z.size = k62 := by rw [HK32.out]; exact hz19
  have hTk : T.size = k62 := by rw [HK32.out]; exact hTs
  clear hz19 hTs
  go_wp2_with (first | (go_at_call 36; refine (at_prog HP.out (N1.out _)).mono ?_; rintro e w1 ⟨rfl, h1⟩) | (go_at_call 39; refine (at_prog HP.out (N2.out _)).mono ?_; rintro e w2 ⟨rfl, h2⟩; have g2 := h1.trans h2) | (go_at_call 17; refine (at_prog HP.out (T1.out _ (HB.out.1.fr g2))).mono ?_; rintro e w3 ⟨rfl, h3⟩; obtain ⟨y3, hs3, hb3, hf3⟩ := store_all (P := PD) T.toList (heap_alloc_new w3 (.cells Z 32)) (by rw [Array.length_toList, hTk, hZk]) HB.out.2; have g3 : Fr No w y3 := ((g2.trans h3).trans (Fr.alloc No w3 (.cells Z 32))).ofNew hf3 (fun k hk => .inr (by rw [hk]; exact (g2.trans h3).size))) | (go_at_call 40; refine (at_prog HP.out (T2.out _)).mono ?_; rintro e w4 ⟨rfl, h4⟩; obtain ⟨y4, hs4, hb4, hf4⟩ := store_all (P := PD) T.toList (heap_alloc_new w4 (.cells Z 32)) (by rw [Array.length_toList, hTk, hZk]) HB.out.2; have g34 : Fr No y3 y4 := (h4.trans (Fr.alloc No w4 (.cells Z 32))).ofNew hf4 (fun k hk => .inr (by rw [hk]; exact h4.size)); have l3 : Sem.run PD (loadCellsFrom ⟨w3.heap.size, 0, none⟩ 0 k62 #[]) y4 = .ok T y4 := load_block (g34.keep hb3) (by simpa using hTk) (fun j v hv => by simpa using hv); have l4 : Sem.run PD (loadCellsFrom ⟨w4.heap.size, 0, none⟩ 0 k62 #[]) y4 = .ok T y4 := load_block hb4 (by simpa using hTk) (fun j v hv => by simpa using hv)) | (go_at_call 41; refine (at_prog HP.out (O1.out _)).mono ?_; rintro e w5 ⟨rfl, h5⟩; replace h5 := h5.symm; subst h5) | (go_at_call 42; refine (at_prog HP.out (O2.out _)).mono ?_; rintro e w6 ⟨rfl, h6⟩; replace h6 := h6.symm; subst h6) | (go_at_call 38; refine (at_prog HP.out (C1.out _)).mono ?_; rintro e w7 ⟨rfl, h7⟩; replace h7 := h7.symm; subst h7) | (go_at_call 43; refine (at_prog HP.out (C2.out _)).mono ?_; rintro e w8 ⟨rfl, h8⟩) | fail)
  all_goals (
    go_wp2_with fail
    go_ret
    exact ⟨rfl, (g3.trans g34).trans h8⟩)
end Go.Proofs.YtmhnailcmlomiaaGreatDoor
