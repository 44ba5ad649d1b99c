/-
  CONTRACT of package host's parseAddr, over this seat's translation: what the call returns.
  Conditions: the string is shorter than 2 to the 31; the package variables are as Glob says.
-/
import Derived.Test.YtmhnailcmlomiaaGreatDoorN4
import Derived.Test.YtmhnailcmlomiaaGreatDoorP7
namespace Go.Proofs.YtmhnailcmlomiaaGreatDoor
open Go.ChangeShapes Go.WideShapes Go.ChangeAt Go.RowKit
set_option linter.unusedVariables false

/-- A target's cells. -/
def tgt (n : ByteArray) (b : Bool) (xs : List Nat) (p : Int) : List Value := .string n :: (adr b xs ++ [.int .i64 p])
theorem tgt_length (n : ByteArray) (b : Bool) (xs : List Nat) (p : Int) (h : xs.length = 16) : (tgt n b xs p).length = 19 := by simp [tgt, adr_length, h]
theorem tgt_one (n : ByteArray) (b : Bool) (xs : List Nat) (p : Int) : ∀ u ∈ tgt n b xs p, u.oneCell' = true := by
  intro u hu
  rcases List.mem_cons.1 hu with rfl | hu
  · rfl
  · rcases List.mem_append.1 hu with hu | hu
    · exact adr_one _ _ u hu
    · cases List.mem_singleton.1 hu; rfl
def noT : List Value := tgt ⟨#[]⟩ false zeros 0
theorem zero32 : ∀ w, (zeroValue 32).run Tryz.prog w = .ok (.agg noT.toArray) w := by
  intro w
  kernel_rfl
set_option maxRecDepth 10000 in
theorem put16 (b : Bool) (a0 a1 a2 a3 a4 a5 a6 a7 a8 a9 a10 a11 a12 a13 a14 a15 : Nat) : Array.foldl (fun (cs : Array Value) (x : Value × Nat) => cs.setIfInBounds (1 + x.snd) x.fst) noT.toArray (adr b [a0, a1, a2, a3, a4, a5, a6, a7, a8, a9, a10, a11, a12, a13, a14, a15]).toArray.zipIdx 0 17 = (tgt ⟨#[]⟩ b [a0, a1, a2, a3, a4, a5, a6, a7, a8, a9, a10, a11, a12, a13, a14, a15] 0).toArray := by
  kernel_rfl
theorem put_addr (b : Bool) (xs : List Nat) (h : xs.length = 16) : Array.foldl (fun (cs : Array Value) (x : Value × Nat) => cs.setIfInBounds (1 + x.snd) x.fst) noT.toArray (adr b xs).toArray.zipIdx 0 17 = (tgt ⟨#[]⟩ b xs 0).toArray := by
  match xs, h with
  | [a0, a1, a2, a3, a4, a5, a6, a7, a8, a9, a10, a11, a12, a13, a14, a15], _ => exact put16 b a0 a1 a2 a3 a4 a5 a6 a7 a8 a9 a10 a11 a12 a13 a14 a15
/-- The target without a port that these bytes, an address, are written for. -/
def pa (l : List UInt8) (v6 : Bool) : Bool := (parseS l).isSome && decide (resB (parseS l) = v6)
def paT (l : List UInt8) (v6 : Bool) : List Value := if pa l v6 then tgt ⟨#[]⟩ (resB (parseS l)) (resX (parseS l)) 0 else noT

set_option maxHeartbeats 2000000 in
set_option maxRecDepth 100000 in
theorem paddr_any (l : List UInt8) (v6 : Bool) (w : World) (hG : Glob w) (hl : l.length < 2147483648) :
    Calls Tryz.prog 83 #[.string (bs l), .bool v6] w fun e w' => e = .returned (.tuple #[.agg (paT l v6).toArray, .bool (pa l v6)]) ∧ Fr No w w' := by
  obtain ⟨Z, hZ⟩ : ∃ Z : Array Value, noT.toArray = Z := ⟨_, rfl⟩
  have v62 := zero32
  rw [hZ] at v62
  have hz19 : Z.size = 19 := by rw [← hZ]; rfl
  obtain ⟨Y, hY⟩ : ∃ Y : Array Value, (adr false zeros).toArray = Y := ⟨_, rfl⟩
  have v24 := zero30
  rw [hY] at v24
  have hy17 : Y.size = 17 := by rw [← hY]; rfl
  obtain ⟨A, hA, h0, hsz, -⟩ := adr_letter (resB (parseS l)) (resX (parseS l)) (resX_bytes l)
  have HP1 := Lib.hid (parse_any l (w.alloc (.cells Z 32)) (hG.fr (Fr.alloc No _ _)) hl)
  rw [hA] at HP1
  have hfold := put_addr (resB (parseS l)) (resX (parseS l)) (resX_bytes l).1
  have hT1 : ∀ u ∈ (tgt ⟨#[]⟩ (resB (parseS l)) (resX (parseS l)) 0).toArray.toList, u.oneCell' = true := by intro u hu; exact tgt_one _ _ _ _ u (by simpa using hu)
  have hT19 : (tgt ⟨#[]⟩ (resB (parseS l)) (resX (parseS l)) 0).toArray.size = 19 := by rw [List.size_toArray]; exact tgt_length _ _ _ _ (resX_bytes l).1
  rw [hA, hZ] at hfold
  have hA1 : ∀ u ∈ A.toList, u.oneCell' = true := by rw [← hA]; exact adr_one _ _
  have hZ1 : ∀ u ∈ Z.toList, u.oneCell' = true := by rw [← hZ]; exact tgt_one _ _ _ _
  have HV : Hid (paT l v6 = (if pa l v6 then tgt ⟨#[]⟩ (resB (parseS l)) (resX (parseS l)) 0 else noT) ∧ pa l v6 = ((parseS l).isSome && decide (resB (parseS l) = v6))) := ⟨rfl, rfl⟩
  have HZ := Lib.hid (And.intro hZ (And.intro hZ1 (And.intro hz19 (And.intro hA (And.intro hA1 (And.intro hsz hy17))))))
  generalize hTT : (tgt ⟨#[]⟩ (resB (parseS l)) (resX (parseS l)) 0).toArray = T at hfold hT1 hT19
  have HT := Lib.hid (And.intro hTT (And.intro hT1 hT19))
  clear hTT hT1
  generalize resB (parseS l) = b at h0 HP1 HV HZ HT
  generalize (parseS l).isSome = ok at HP1 HV
  clear hZ hZ1 hY hA hA1 hG hl
  go_enter Tryz.func83, Tryz.ntmps83
  have t3 := Tryz.underlying3
  have u3 := Tryz.runUnderlying3
  have g3 := Tryz.isAgg3
  have z3 := Tryz.sizeOf3
  have t4 := Tryz.underlying4
  have u4 := Tryz.runUnderlying4
  have g4 := Tryz.isAgg4
  have z4 := Tryz.sizeOf4
  have t9 := Tryz.underlying9
  have u9 := Tryz.runUnderlying9
  have g9 := Tryz.isAgg9
  have z9 := Tryz.sizeOf9
  have t30 := Tryz.underlying30
  have u30 := Tryz.runUnderlying30
  have g30 := Tryz.isAgg30
  have z30 := Tryz.sizeOf30
  have t32 := Tryz.underlying32
  have u32 := Tryz.runUnderlying32
  have g32 := Tryz.isAgg32
  have z32 := Tryz.sizeOf32
  have c66 := Tryz.call66
  have mixed : Tryz.prog.follows .mixedOrders = true := by kernel_rfl
  obtain ⟨k24, hk24⟩ : ∃ k, k = 17 := ⟨_, rfl⟩
  rw [← hk24] at z30
  have nk24 : ¬ k24 = 0 := by omega
  have HK30 := Lib.hid hk24
  obtain ⟨k62, hk62⟩ : ∃ k, k = 19 := ⟨_, rfl⟩
  rw [← hk62] at z32
  have nk62 : ¬ k62 = 0 := by omega
  have HK32 := Lib.hid hk62
  have hP : Tryz.prog = PD := rfl
  rw [hP] at t3 u3 g3 z3 t4 u4 g4 z4 t9 u9 g9 z9 t30 u30 g30 z30 t32 u32 g32 z32 c66 mixed v24 v62 ⊢
  have HP := Lib.hid hP.symm
  clear hP hk24 hk62
  have hAk : A.size = k24 := by rw [HK30.out]; exact hsz
  have hYk : Y.size = k24 := by rw [HK30.out]; exact hy17
  have hZk : Z.size = k62 := by rw [HK32.out]; exact hz19
  have hTk : T.size = k62 := by rw [HK32.out]; exact hT19
  have hkk : 1 + k24 ≤ k62 := by have := HK30.out; have := HK32.out; omega
  have hk0 : k24 = 17 := HK30.out
  rw [← hk0] at hfold
  clear hsz hy17 hz19 hT19 hk0
  go_wp2_with fail
  refine (at_prog HP.out HP1.out).mono ?_
  rintro e w4 ⟨rfl, hf4⟩
  obtain ⟨y1, hs1, hb1, hg1⟩ := store_all (P := PD) A.toList (heap_alloc_new w4 (.cells Y 30)) (by rw [Array.length_toList, hAk, hYk]) HZ.out.2.2.2.2.1
  have hb1' : y1.heap[w4.heap.size]? = some (.cells A 30 (0, 0)) := by simpa using hb1
  have hlt : w.heap.size < w4.heap.size := Nat.lt_of_lt_of_le (by simp) hf4.size
  have hb0 : y1.heap[w.heap.size]? = some (.cells Z 32 (0, 0)) := by
    have k1 := (Fr.alloc No w4 (.cells Y 30)).keep (hf4.keep (heap_alloc_new w (.cells Z 32)))
    exact (hg1.block _ (Array.getElem?_eq_some_iff.1 k1).1 (by omega)).trans k1
  have HF := Lib.hid ((((Fr.alloc No w (.cells Z 32)).trans hf4).trans (Fr.alloc No w4 (.cells Y 30))).ofNew hg1 fun k hk => .inr (by rw [hk]; omega))
  have c1 : y1.cell? ⟨w4.heap.size, 0, none⟩ = some (.bool b) := by rw [cell_of_row _ _ _ _ _ _ hb1']; exact h0
  have hld : Sem.run PD (loadCellsFrom ⟨w4.heap.size, 0, none⟩ 0 k24 #[]) y1 = .ok A y1 := load_block hb1' hAk (fun j v hv => by simpa using hv)
  have HB := Lib.hid hb0
  clear hb1 hb1' hb0 hg1 hf4
  cases ok
  · obtain ⟨y2, hs2, hb2, hg2⟩ := store_all (P := PD) Z.toList HB.out (by rw [Array.length_toList]) HZ.out.2.1
    have hb3 : y2.heap[w.heap.size]? = some (.cells Z 32 (0, 0)) := by simpa using hb2
    have HL := Lib.hid (And.intro hb3 hg2)
    clear hb2 hg2 hb3
    go_wp2_with fail
    refine bodyPost_ret_by (results_agg_tmp rfl _ (b := w.heap.size) (k := 19) (cs := Z) (Tryz.isAgg32 _) (Tryz.sizeOf32 _) rfl (load_block HL.out.1 (by rw [← HK32.out]; exact hZk) (fun j v hv => by simpa using hv))) rfl ?_
    exact ⟨by rw [HV.out.1, HV.out.2, ← HZ.out.1]; rfl, HF.out.ofNew HL.out.2 fun k hk => .inr (by omega)⟩
  · cases b
    · cases v6
      · obtain ⟨y2, hs2, hb2, hg2⟩ := store_all (P := PD) T.toList HB.out (by rw [Array.length_toList]; rw [hTk, hZk]) HT.out.2.1
        have hb3 : y2.heap[w.heap.size]? = some (.cells T 32 (0, 0)) := by simpa using hb2
        have HL := Lib.hid (And.intro hb3 hg2)
        clear hb2 hg2 hb3
        go_wp2_with fail
        refine bodyPost_ret_by (results_agg_tmp rfl _ (b := w.heap.size) (k := 19) (cs := T) (Tryz.isAgg32 _) (Tryz.sizeOf32 _) rfl (load_block HL.out.1 (by rw [← HK32.out]; exact hTk) (fun j v hv => by simpa using hv))) rfl ?_
        exact ⟨by rw [HV.out.1, HV.out.2, ← HT.out.1]; rfl, HF.out.ofNew HL.out.2 fun k hk => .inr (by omega)⟩
      · obtain ⟨y2, hs2, hb2, hg2⟩ := store_all (P := PD) Z.toList HB.out (by rw [Array.length_toList]) HZ.out.2.1
        have hb3 : y2.heap[w.heap.size]? = some (.cells Z 32 (0, 0)) := by simpa using hb2
        have HL := Lib.hid (And.intro hb3 hg2)
        clear hb2 hg2 hb3
        go_wp2_with fail
        refine bodyPost_ret_by (results_agg_tmp rfl _ (b := w.heap.size) (k := 19) (cs := Z) (Tryz.isAgg32 _) (Tryz.sizeOf32 _) rfl (load_block HL.out.1 (by rw [← HK32.out]; exact hZk) (fun j v hv => by simpa using hv))) rfl ?_
        exact ⟨by rw [HV.out.1, HV.out.2, ← HZ.out.1]; rfl, HF.out.ofNew HL.out.2 fun k hk => .inr (by omega)⟩
    · cases v6
      · obtain ⟨y2, hs2, hb2, hg2⟩ := store_all (P := PD) Z.toList HB.out (by rw [Array.length_toList]) HZ.out.2.1
        have hb3 : y2.heap[w.heap.size]? = some (.cells Z 32 (0, 0)) := by simpa using hb2
        have HL := Lib.hid (And.intro hb3 hg2)
        clear hb2 hg2 hb3
        go_wp2_with fail
        refine bodyPost_ret_by (results_agg_tmp rfl _ (b := w.heap.size) (k := 19) (cs := Z) (Tryz.isAgg32 _) (Tryz.sizeOf32 _) rfl (load_block HL.out.1 (by rw [← HK32.out]; exact hZk) (fun j v hv => by simpa using hv))) rfl ?_
        exact ⟨by rw [HV.out.1, HV.out.2, ← HZ.out.1]; rfl, HF.out.ofNew HL.out.2 fun k hk => .inr (by omega)⟩
      · obtain ⟨y2, hs2, hb2, hg2⟩ := store_all (P := PD) T.toList HB.out (by rw [Array.length_toList]; rw [hTk, hZk]) HT.out.2.1
        have hb3 : y2.heap[w.heap.size]? = some (.cells T 32 (0, 0)) := by simpa using hb2
        have HL := Lib.hid (And.intro hb3 hg2)
        clear hb2 hg2 hb3
        go_wp2_with fail
        refine bodyPost_ret_by (results_agg_tmp rfl _ (b := w.heap.size) (k := 19) (cs := T) (Tryz.isAgg32 _) (Tryz.sizeOf32 _) rfl (load_block HL.out.1 (by rw [← HK32.out]; exact hTk) (fun j v hv => by simpa using hv))) rfl ?_
        exact ⟨by rw [HV.out.1, HV.out.2, ← HT.out.1]; rfl, HF.out.ofNew HL.out.2 fun k hk => .inr (by omega)⟩
end Go.Proofs.YtmhnailcmlomiaaGreatDoor
