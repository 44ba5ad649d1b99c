/-
  THE WALK OF CidrMatchesModel, over this seat's translation: the call returns true.
  Conditions: the arguments are prefixes and an address; the package variables are as Gl says.
-/
import Derived.Test.YtmhnailcmlomiaaGreatDoorEa
import Derived.Test.YtmhnailcmlomiaaGreatDoorGc
import Derived.Test.YtmhnailcmlomiaaGreatDoorCh
import Derived.Deep.DeepCutAuto
import Derived.Deep.CutBlock
namespace Go.Proofs.YtmhnailcmlomiaaGreatDoor
open Go.ChangeShapes Go.WideShapes Go.ChangeAt Go.RowKit
set_option linter.unusedVariables false

theorem pfx_size {b : Bool} {xs : List Nat} {n : Int} (hx : Bytes xs) : (pfx b xs n).toArray.size = 18 := by rw [List.size_toArray]; exact pfx_length hx.1
theorem pfx_ones (b : Bool) (xs : List Nat) (n : Int) : ∀ u ∈ (pfx b xs n).toArray.toList, u.oneCell' = true := by intro u hu; exact pfx_one _ _ _ u (by simpa using hu)
theorem adr_size {b : Bool} {xs : List Nat} (hx : Bytes xs) : (adr b xs).toArray.size = 17 := by rw [List.size_toArray, adr_length, hx.1]
theorem adr_ones (b : Bool) (xs : List Nat) : ∀ u ∈ (adr b xs).toArray.toList, u.oneCell' = true := by intro u hu; exact adr_one _ _ u (by simpa using hu)

set_option maxHeartbeats 32000000 in
set_option maxRecDepth 100000 in
theorem cmatch_law (b : Bool) (xs : List Nat) (n : Int) (c : Bool) (ys : List Nat) (m : Int) (d : Bool) (zs : List Nat) (hx : Bytes xs) (hy : Bytes ys) (hz : Bytes zs) (w : World) (hG : Gl w) :
    Calls Tryz.prog 6 #[.agg (pfx b xs n).toArray, .agg (pfx c ys m).toArray, .agg (adr d zs).toArray] w fun e w' => e = .returned (.bool true) ∧ Fr No w w' := by
  obtain ⟨Z, hZ⟩ : ∃ Z : Array Value, noP.toArray = Z := ⟨_, rfl⟩
  obtain ⟨Y, hY⟩ : ∃ Y : Array Value, (adr false zeros).toArray = Y := ⟨_, rfl⟩
  have v40 := zero40
  have v30 := zero30
  rw [hZ] at v40
  rw [hY] at v30
  have hZs : Z.size = 18 := by rw [← hZ]; rfl
  have hYs : Y.size = 17 := by rw [← hY]; rfl
  have G1 : Hid (∀ w', Calls Tryz.prog 18 #[.agg (pfx b xs n).toArray] w' (GenP w')) := fun w' => prefix_gen b xs n hx w'
  have G2 : Hid (∀ w', Calls Tryz.prog 18 #[.agg (pfx c ys m).toArray] w' (GenP w')) := fun w' => prefix_gen c ys m hy w'
  have G3 : Hid (∀ w', Calls Tryz.prog 27 #[.agg (adr d zs).toArray] w' (GenB w')) := fun w' => saddr_gen d zs hz w'
  have V1 : Hid (∀ w', Calls Tryz.prog 19 #[.agg (pfx b xs n).toArray] w' fun e w'' => e = .returned (.bool (validP b xs n)) ∧ Fr No w' w'') := fun w' => validp_any b xs n hx w'
  have V2 : Hid (∀ w', Calls Tryz.prog 20 #[.agg (pfx b xs n).toArray] w' fun e w'' => e = .returned (.bool (validP b xs n)) ∧ Fr No w' w'') := fun w' => validp_ref b xs n hx w'
  have C1 : Hid (∀ w', Calls Tryz.prog 21 #[.agg (pfx b xs n).toArray, .agg (adr d zs).toArray] w' fun e w'' => e = .returned (.bool (contP b xs n d zs)) ∧ Fr No w' w'') := fun w' => cont_any b d xs zs n hx hz w'
  have C2 : Hid (∀ w', Calls Tryz.prog 22 #[.agg (pfx b xs n).toArray, .agg (adr d zs).toArray] w' fun e w'' => e = .returned (.bool (contP b xs n d zs)) ∧ Fr No w' w'') := fun w' => cont_ref b d xs zs n hx hz w'
  have O1 : Hid (∀ w', Calls Tryz.prog 23 #[.agg (pfx b xs n).toArray, .agg (pfx c ys m).toArray] w' fun e w'' => e = .returned (.bool (covP b xs n c ys m)) ∧ Fr No w' w'') := fun w' => cov_any b c xs ys n m hx hy w'
  have O2 : Hid (∀ w', Calls Tryz.prog 24 #[.agg (pfx b xs n).toArray, .agg (pfx c ys m).toArray] w' fun e w'' => e = .returned (.bool (covP b xs n c ys m)) ∧ Fr No w' w'') := fun w' => cov_ref b c xs ys n m hx hy w'
  have M1 : Hid (∀ w', Calls Tryz.prog 25 #[.agg (pfx b xs n).toArray, .agg (pfx c ys m).toArray] w' fun e w'' => e = .returned (.int .i64 (cmpP b c xs ys n m)) ∧ Fr No w' w'') := fun w' => cmpp_any b c xs ys n m hx hy w'
  have M2 : Hid (∀ w', Calls Tryz.prog 26 #[.agg (pfx b xs n).toArray, .agg (pfx c ys m).toArray] w' fun e w'' => e = .returned (.int .i64 (cmpP b c xs ys n m)) ∧ Fr No w' w'') := fun w' => cmpp_ref b c xs ys n m hx hy w'
  have hPs := pfx_size (b := b) (n := n) hx
  have hQs := pfx_size (b := c) (n := m) hy
  have hAs := adr_size (b := d) hz
  generalize validP b xs n = vp at V1 V2
  generalize contP b xs n d zs = ct at C1 C2
  generalize covP b xs n c ys m = cv at O1 O2
  generalize cmpP b c xs ys n m = cm at M1 M2
  generalize (pfx b xs n).toArray = P at G1 V1 V2 C1 C2 O1 O2 M1 M2 hPs ⊢
  generalize (pfx c ys m).toArray = Q at G2 O1 O2 M1 M2 hQs ⊢
  generalize (adr d zs).toArray = A at G3 C1 C2 hAs ⊢
  obtain ⟨b1, b2, b3, hF⟩ := alloc3 w (.cells P 40) (.cells Q 40) (.cells A 30)
  obtain ⟨w1, hw1⟩ : ∃ w1, ((w.alloc (.cells P 40)).alloc (.cells Q 40)).alloc (.cells A 30) = w1 := ⟨_, rfl⟩
  obtain ⟨nb, hnb⟩ : ∃ nb, w.heap.size = nb := ⟨_, rfl⟩
  rw [hw1, hnb] at b1 b2 b3
  rw [hw1] at hF
  have HB := Lib.hid (And.intro b1 (And.intro b2 (And.intro b3 (And.intro hF hG))))
  clear b1 b2 b3 hF hG hZ hY hx hy hz
  have e1 : (vp != vp) = false := by simp
  have e2 : (ct != ct) = false := by simp
  have e3 : (cv != cv) = false := by simp
  have e4 : (cm != cm) = false := by simp
  go_enter Tryz.func6, Tryz.ntmps6
  have t3 := Tryz.underlying3
  have u3 := Tryz.runUnderlying3
  have g3 := Tryz.isAgg3
  have z3 := Tryz.sizeOf3
  have t4 := Tryz.underlying4
  have u4 := Tryz.runUnderlying4
  have g4 := Tryz.isAgg4
  have z4 := Tryz.sizeOf4
  have t28 := Tryz.underlying28
  have u28 := Tryz.runUnderlying28
  have g28 := Tryz.isAgg28
  have z28 := Tryz.sizeOf28
  have t30 := Tryz.underlying30
  have u30 := Tryz.runUnderlying30
  have g30 := Tryz.isAgg30
  have z30 := Tryz.sizeOf30
  have t40 := Tryz.underlying40
  have u40 := Tryz.runUnderlying40
  have g40 := Tryz.isAgg40
  have z40 := Tryz.sizeOf40
  have c18 := Tryz.call18
  have c19 := Tryz.call19
  have c20 := Tryz.call20
  have c21 := Tryz.call21
  have c22 := Tryz.call22
  have c23 := Tryz.call23
  have c24 := Tryz.call24
  have c25 := Tryz.call25
  have c26 := Tryz.call26
  have c27 := Tryz.call27
  have c28 := Tryz.call28
  have mixed : Tryz.prog.follows .mixedOrders = true := by kernel_rfl
  obtain ⟨k30, hk30⟩ : ∃ k, k = 17 := ⟨_, rfl⟩
  rw [← hk30] at z30
  have nk30 : ¬ k30 = 0 := by omega
  have HK30 := Lib.hid hk30
  obtain ⟨k40, hk40⟩ : ∃ k, k = 18 := ⟨_, rfl⟩
  rw [← hk40] at z40
  have nk40 : ¬ k40 = 0 := by omega
  have HK40 := Lib.hid hk40
  have hP : Tryz.prog = PD := rfl
  rw [hP] at t3 u3 g3 z3 t4 u4 g4 z4 t28 u28 g28 z28 t30 u30 g30 z30 t40 u40 g40 z40 c18 c19 c20 c21 c22 c23 c24 c25 c26 c27 c28 mixed v40 v30 ⊢
  have HP := Lib.hid hP.symm
  clear hP hk30 hk40
  have hPk : P.size = k40 := by rw [HK40.out]; exact hPs
  have hQk : Q.size = k40 := by rw [HK40.out]; exact hQs
  have hZk : Z.size = k40 := by rw [HK40.out]; exact hZs
  have hAk : A.size = k30 := by rw [HK30.out]; exact hAs
  have hYk : Y.size = k30 := by rw [HK30.out]; exact hYs
  clear hPs hQs hZs hAs hYs
  have HSS : Hid (∀ w', Fr No w1 w' → Sem.run PD (loadCellsFrom ⟨nb, 0, none⟩ 0 k40 #[]) w' = .ok P w' ∧ Sem.run PD (loadCellsFrom ⟨nb + 1, 0, none⟩ 0 k40 #[]) w' = .ok Q w' ∧ Sem.run PD (loadCellsFrom ⟨nb + 1 + 1, 0, none⟩ 0 k30 #[]) w' = .ok A w') := fun w' hf => ⟨load_block (hf.keep HB.out.1) hPk (fun j v hv => by simpa using hv), load_block (hf.keep HB.out.2.1) hQk (fun j v hv => by simpa using hv), load_block (hf.keep HB.out.2.2.1) hAk (fun j v hv => by simpa using hv)⟩
  go_upto_region 1 with fail
  go_cut [7, 8] (fun s7 s8 wx => ∃ (b7 b8 : Nat) (c1 : Bool) (y1 : List Nat) (k1 : Int) (c2 : Bool) (y2 : List Nat) (k2 : Int), s7 = .pointer (some ⟨b7, 0, none⟩) ∧ s8 = .pointer (some ⟨b8, 0, none⟩) ∧ Hid ((Bytes y1 ∧ validP c1 y1 k1 = true) ∧ Bytes y2 ∧ Fr No w1 wx ∧ wx.heap[b7]? = some (.cells (pfx c1 y1 k1).toArray 40 (0, 0)) ∧ wx.heap[b8]? = some (.cells (pfx c2 y2 k2).toArray 40 (0, 0))))
  case first =>
    clear V1 V2 C1 C2 O1 O2 M1 M2 G3
    have f5 : Fr No w1 w1.drew := Fr.drew No _
    have hS0 := HSS.out _ f5
    refine wp_region_noPanic ?_
    refine wp_region_held_drew (S := (fun w' : World => Sem.run PD (loadCellsFrom ⟨nb, 0, none⟩ 0 k40 #[]) w' = .ok P w' ∧ Sem.run PD (loadCellsFrom ⟨nb + 1, 0, none⟩ 0 k40 #[]) w' = .ok Q w' ∧ Sem.run PD (loadCellsFrom ⟨nb + 1 + 1, 0, none⟩ 0 k30 #[]) w' = .ok A w')) (by kernel_rfl) hS0 (fun hHeld => ?_)
    clear hS0
    generalize w1.drew = yd at f5 hHeld ⊢
    refine wpAnyH_take (i := 0) (oi := { dst := some 10, op := Op.load 40 (Operand.tmp 3), type := 40, pos := "law.go:21", after := #[], guard := none }) (v := ?v0x1) rfl (by kernel_rfl) (by kernel_rfl) (by kernel_rfl) (fun _ _ _ h => h) (Or.inl ⟨by rfl, ?hy0x1⟩) hHeld ?nx0x1
    case hy0x1 => (intro w hSw; (try dsimp only at hSw); go_simp; try with_reducible rfl)
    try simp only [Act.put, List.setIfInBounds_toArray, List.set_cons_zero, List.set_cons_succ]
    refine wpAnyH_take (i := 2) (oi := { dst := some 12, op := Op.load 40 (Operand.tmp 4), type := 40, pos := "law.go:21", after := #[], guard := none }) (v := ?v2x2) rfl (by kernel_rfl) (by kernel_rfl) (by kernel_rfl) (fun _ _ _ h => h) (Or.inl ⟨by rfl, ?hy2x2⟩) hHeld ?nx2x2
    case hy2x2 => (intro w hSw; (try dsimp only at hSw); go_simp; try with_reducible rfl)
    try simp only [Act.put, List.setIfInBounds_toArray, List.set_cons_zero, List.set_cons_succ]
    refine wpAnyH_ready (rs := [1, 4, 5]) (by kernel_rfl) (by simp) ?_
    refine (AllReadyH.cons (o := { dst := some 11, op := Op.call { callee := Callee.value (Operand.func 18), args := #[Operand.tmp 10], argTypes := #[40] }, type := 40, pos := "law.go:21", after := #[{ on := 0, ground := Ground.data }], guard := none }) rfl (fun K hK => ?_) (AllReadyH.cons (o := { dst := some 7, op := Op.alloc 40, type := 0, pos := "law.go:21", after := #[], guard := none }) rfl (fun K hK => ?_) (AllReadyH.cons (o := { dst := some 8, op := Op.alloc 40, type := 0, pos := "law.go:21", after := #[], guard := none }) rfl (fun K hK => ?_) AllReadyH.nil)))
    · go_simp
      go_at_call 18
      refine (at_prog HP.out (G1.out _)).mono ?_
      rintro e xx1 ⟨c1, y1, k1, hy1b, hy1v, rfl, hx2⟩
      obtain ⟨R1, hR1⟩ : ∃ R : Array Value, (pfx c1 y1 k1).toArray = R := ⟨_, rfl⟩
      have hR1k : R1.size = k40 := by rw [HK40.out, ← hR1]; exact pfx_size hy1b
      have HR1 := Lib.hid (And.intro hR1 (And.intro hy1b hy1v))
      rw [hR1]
      clear hR1 hy1b hy1v
      have gg3 := f5.trans hx2
      have hS := HSS.out _ gg3
      clear hx2
      refine hK.out _ _ hS (fun hH2 => ?_)
      clear hK K hHeld
      have hHeld := hH2
      clear hH2 hS
      try simp only [Act.put, List.setIfInBounds_toArray, List.set_cons_zero, List.set_cons_succ]
      refine wpAnyH_ready (rs := [3, 4, 5]) (by kernel_rfl) (by simp) ?_
      refine (AllReadyH.cons (o := { dst := some 13, op := Op.call { callee := Callee.value (Operand.func 18), args := #[Operand.tmp 12], argTypes := #[40] }, type := 40, pos := "law.go:21", after := #[{ on := 2, ground := Ground.data }, { on := 1, ground := Ground.chain }], guard := none }) rfl (fun K hK => ?_) (AllReadyH.cons (o := { dst := some 7, op := Op.alloc 40, type := 0, pos := "law.go:21", after := #[], guard := none }) rfl (fun K hK => ?_) (AllReadyH.cons (o := { dst := some 8, op := Op.alloc 40, type := 0, pos := "law.go:21", after := #[], guard := none }) rfl (fun K hK => ?_) AllReadyH.nil)))
      · go_simp
        go_at_call 18
        refine (at_prog HP.out (G2.out _)).mono ?_
        rintro e xx4 ⟨c2, y2, k2, hy2b, hy2v, rfl, hx5⟩
        obtain ⟨R2, hR2⟩ : ∃ R : Array Value, (pfx c2 y2 k2).toArray = R := ⟨_, rfl⟩
        have hR2k : R2.size = k40 := by rw [HK40.out, ← hR2]; exact pfx_size hy2b
        have HR2 := Lib.hid (And.intro hR2 (And.intro hy2b hy2v))
        rw [hR2]
        clear hR2 hy2b hy2v
        have gg6 := gg3.trans hx5
        have hS := HSS.out _ gg6
        clear hx5
        refine hK.out _ _ hS (fun hH2 => ?_)
        clear hK K hHeld
        have hHeld := hH2
        clear hH2 hS
        try simp only [Act.put, List.setIfInBounds_toArray, List.set_cons_zero, List.set_cons_succ]
        refine wpAnyH_ready (rs := [4, 5]) (by kernel_rfl) (by simp) ?_
        refine (AllReadyH.cons (o := { dst := some 7, op := Op.alloc 40, type := 0, pos := "law.go:21", after := #[], guard := none }) rfl (fun K hK => ?_) (AllReadyH.cons (o := { dst := some 8, op := Op.alloc 40, type := 0, pos := "law.go:21", after := #[], guard := none }) rfl (fun K hK => ?_) AllReadyH.nil))
        · go_simp
          have gg11 := gg6.trans (Fr.alloc No xx4 (.cells Z 40))
          have hz12 := heap_alloc_new xx4 (.cells Z 40)
          obtain ⟨xa7, hxa8⟩ : ∃ xa, xx4.alloc (.cells Z 40) = xa := ⟨_, rfl⟩
          obtain ⟨ba9, hba10⟩ : ∃ ba, xx4.heap.size = ba := ⟨_, rfl⟩
          have agba9 := gg6.size
          rw [hba10] at agba9
          rw [hxa8] at gg11 hz12 ⊢
          rw [hba10] at hz12 ⊢
          have hS := HSS.out _ gg11
          clear hxa8 hba10
          refine hK.out _ _ hS (fun hH2 => ?_)
          clear hK K hHeld
          have hHeld := hH2
          clear hH2 hS
          try simp only [Act.put, List.setIfInBounds_toArray, List.set_cons_zero, List.set_cons_succ]
          refine wpAnyH_ready (rs := [5]) (by kernel_rfl) (by simp) ?_
          refine (AllReadyH.cons (o := { dst := some 8, op := Op.alloc 40, type := 0, pos := "law.go:21", after := #[], guard := none }) rfl (fun K hK => ?_) AllReadyH.nil)
          go_simp
          have gg17 := gg11.trans (Fr.alloc No xa7 (.cells Z 40))
          have hz18 := heap_alloc_new xa7 (.cells Z 40)
          have hne19 := (Array.getElem?_eq_some_iff.1 hz12).1
          have hz20 := (Fr.alloc No xa7 (.cells Z 40)).keep hz12
          obtain ⟨xa13, hxa14⟩ : ∃ xa, xa7.alloc (.cells Z 40) = xa := ⟨_, rfl⟩
          obtain ⟨ba15, hba16⟩ : ∃ ba, xa7.heap.size = ba := ⟨_, rfl⟩
          have agba15 := gg11.size
          rw [hba16] at agba15
          rw [hxa14] at gg17 hz18 hz20 ⊢
          rw [hba16] at hz18 ⊢
          rw [hba16] at hne19
          have hS := HSS.out _ gg17
          clear hxa14 hba16
          refine hK.out _ _ hS (fun hH2 => ?_)
          clear hK K hHeld
          have hHeld := hH2
          clear hH2 hS
          try simp only [Act.put, List.setIfInBounds_toArray, List.set_cons_zero, List.set_cons_succ]
          refine wpAnyH_ready (rs := [6]) (by kernel_rfl) (by simp) ?_
          refine (AllReadyH.cons (o := { dst := none, op := Op.store 40 (Operand.tmp 7) (Operand.tmp 11), type := 0, pos := "law.go:21", after := #[{ on := 4, ground := Ground.data }, { on := 1, ground := Ground.data }, { on := 3, ground := Ground.chain }, { on := 0, ground := Ground.phase }, { on := 1, ground := Ground.phase }, { on := 2, ground := Ground.textOnly Departure.lateStores }, { on := 3, ground := Ground.textOnly Departure.lateStoresUnsure }, { on := 4, ground := Ground.phase }, { on := 5, ground := Ground.phase }], guard := none }) rfl (fun K hK => ?_) AllReadyH.nil)
          obtain ⟨yy21, sa22, sb23, sc24⟩ := store_all (P := PD) R1.toList hz20 (by rw [Array.length_toList, hR1k, hZk]) (by rw [← HR1.out.1]; exact pfx_ones _ _ _)
          go_simp
          have gg25 := gg17.ofNew sc24 fun k hk => .inr (by rw [hk]; exact agba9)
          have hz26 := (sc24.block _ (Array.getElem?_eq_some_iff.1 hz18).1 (by omega)).trans hz18
          have sb23s := sb23
          simp only [Array.toArray_toList] at sb23s
          have hS := HSS.out _ gg25
          clear sb23 sc24
          refine hK.out _ _ hS (fun hH2 => ?_)
          clear hK K hHeld
          have hHeld := hH2
          clear hH2 hS
          try simp only [Act.put, List.setIfInBounds_toArray, List.set_cons_zero, List.set_cons_succ]
          refine wpAnyH_ready (rs := [7]) (by kernel_rfl) (by simp) ?_
          refine (AllReadyH.cons (o := { dst := none, op := Op.store 40 (Operand.tmp 8) (Operand.tmp 13), type := 0, pos := "law.go:21", after := #[{ on := 5, ground := Ground.data }, { on := 3, ground := Ground.data }, { on := 6, ground := Ground.chain }, { on := 0, ground := Ground.phase }, { on := 1, ground := Ground.phase }, { on := 2, ground := Ground.phase }, { on := 3, ground := Ground.phase }, { on := 4, ground := Ground.phase }, { on := 5, ground := Ground.phase }, { on := 6, ground := Ground.phase }], guard := none }) rfl (fun K hK => ?_) AllReadyH.nil)
          obtain ⟨yy27, sa28, sb29, sc30⟩ := store_all (P := PD) R2.toList hz26 (by rw [Array.length_toList, hR2k, hZk]) (by rw [← HR2.out.1]; exact pfx_ones _ _ _)
          go_simp
          have gg31 := gg25.ofNew sc30 fun k hk => .inr (by rw [hk]; exact agba15)
          have hz32 := (sc30.block _ (Array.getElem?_eq_some_iff.1 sb23s).1 (by omega)).trans sb23s
          have sb29s := sb29
          simp only [Array.toArray_toList] at sb29s
          have hS := HSS.out _ gg31
          clear sb29 sc30
          refine hK.out _ _ hS (fun hH2 => ?_)
          clear hK K hHeld
          have hHeld := hH2
          clear hH2 hS
          try simp only [Act.put, List.setIfInBounds_toArray, List.set_cons_zero, List.set_cons_succ]
          refine wpAnyH_done (by kernel_rfl) ?_ _
          refine NoPanic.normal ?_
          go_wp2_with fail
          go_meet
          exact ⟨_, _, _, _, _, _, _, _, rfl, rfl, HR1.out.2, HR2.out.2.1, gg31, by rw [HR1.out.1]; exact hz32, by rw [HR2.out.1]; exact sb29s⟩
        · go_simp
          have gg37 := gg6.trans (Fr.alloc No xx4 (.cells Z 40))
          have hz38 := heap_alloc_new xx4 (.cells Z 40)
          obtain ⟨xa33, hxa34⟩ : ∃ xa, xx4.alloc (.cells Z 40) = xa := ⟨_, rfl⟩
          obtain ⟨ba35, hba36⟩ : ∃ ba, xx4.heap.size = ba := ⟨_, rfl⟩
          have agba35 := gg6.size
          rw [hba36] at agba35
          rw [hxa34] at gg37 hz38 ⊢
          rw [hba36] at hz38 ⊢
          have hS := HSS.out _ gg37
          clear hxa34 hba36
          refine hK.out _ _ hS (fun hH2 => ?_)
          clear hK K hHeld
          have hHeld := hH2
          clear hH2 hS
          try simp only [Act.put, List.setIfInBounds_toArray, List.set_cons_zero, List.set_cons_succ]
          refine wpAnyH_ready (rs := [4]) (by kernel_rfl) (by simp) ?_
          refine (AllReadyH.cons (o := { dst := some 7, op := Op.alloc 40, type := 0, pos := "law.go:21", after := #[], guard := none }) rfl (fun K hK => ?_) AllReadyH.nil)
          go_simp
          have gg43 := gg37.trans (Fr.alloc No xa33 (.cells Z 40))
          have hz44 := heap_alloc_new xa33 (.cells Z 40)
          have hne45 := (Array.getElem?_eq_some_iff.1 hz38).1
          have hz46 := (Fr.alloc No xa33 (.cells Z 40)).keep hz38
          obtain ⟨xa39, hxa40⟩ : ∃ xa, xa33.alloc (.cells Z 40) = xa := ⟨_, rfl⟩
          obtain ⟨ba41, hba42⟩ : ∃ ba, xa33.heap.size = ba := ⟨_, rfl⟩
          have agba41 := gg37.size
          rw [hba42] at agba41
          rw [hxa40] at gg43 hz44 hz46 ⊢
          rw [hba42] at hz44 ⊢
          rw [hba42] at hne45
          have hS := HSS.out _ gg43
          clear hxa40 hba42
          refine hK.out _ _ hS (fun hH2 => ?_)
          clear hK K hHeld
          have hHeld := hH2
          clear hH2 hS
          try simp only [Act.put, List.setIfInBounds_toArray, List.set_cons_zero, List.set_cons_succ]
          refine wpAnyH_ready (rs := [6]) (by kernel_rfl) (by simp) ?_
          refine (AllReadyH.cons (o := { dst := none, op := Op.store 40 (Operand.tmp 7) (Operand.tmp 11), type := 0, pos := "law.go:21", after := #[{ on := 4, ground := Ground.data }, { on := 1, ground := Ground.data }, { on := 3, ground := Ground.chain }, { on := 0, ground := Ground.phase }, { on := 1, ground := Ground.phase }, { on := 2, ground := Ground.textOnly Departure.lateStores }, { on := 3, ground := Ground.textOnly Departure.lateStoresUnsure }, { on := 4, ground := Ground.phase }, { on := 5, ground := Ground.phase }], guard := none }) rfl (fun K hK => ?_) AllReadyH.nil)
          obtain ⟨yy47, sa48, sb49, sc50⟩ := store_all (P := PD) R1.toList hz44 (by rw [Array.length_toList, hR1k, hZk]) (by rw [← HR1.out.1]; exact pfx_ones _ _ _)
          go_simp
          have gg51 := gg43.ofNew sc50 fun k hk => .inr (by rw [hk]; exact agba41)
          have hz52 := (sc50.block _ (Array.getElem?_eq_some_iff.1 hz46).1 (by omega)).trans hz46
          have sb49s := sb49
          simp only [Array.toArray_toList] at sb49s
          have hS := HSS.out _ gg51
          clear sb49 sc50
          refine hK.out _ _ hS (fun hH2 => ?_)
          clear hK K hHeld
          have hHeld := hH2
          clear hH2 hS
          try simp only [Act.put, List.setIfInBounds_toArray, List.set_cons_zero, List.set_cons_succ]
          refine wpAnyH_ready (rs := [7]) (by kernel_rfl) (by simp) ?_
          refine (AllReadyH.cons (o := { dst := none, op := Op.store 40 (Operand.tmp 8) (Operand.tmp 13), type := 0, pos := "law.go:21", after := #[{ on := 5, ground := Ground.data }, { on := 3, ground := Ground.data }, { on := 6, ground := Ground.chain }, { on := 0, ground := Ground.phase }, { on := 1, ground := Ground.phase }, { on := 2, ground := Ground.phase }, { on := 3, ground := Ground.phase }, { on := 4, ground := Ground.phase }, { on := 5, ground := Ground.phase }, { on := 6, ground := Ground.phase }], guard := none }) rfl (fun K hK => ?_) AllReadyH.nil)
          obtain ⟨yy53, sa54, sb55, sc56⟩ := store_all (P := PD) R2.toList hz52 (by rw [Array.length_toList, hR2k, hZk]) (by rw [← HR2.out.1]; exact pfx_ones _ _ _)
          go_simp
          have gg57 := gg51.ofNew sc56 fun k hk => .inr (by rw [hk]; exact agba35)
          have hz58 := (sc56.block _ (Array.getElem?_eq_some_iff.1 sb49s).1 (by omega)).trans sb49s
          have sb55s := sb55
          simp only [Array.toArray_toList] at sb55s
          have hS := HSS.out _ gg57
          clear sb55 sc56
          refine hK.out _ _ hS (fun hH2 => ?_)
          clear hK K hHeld
          have hHeld := hH2
          clear hH2 hS
          try simp only [Act.put, List.setIfInBounds_toArray, List.set_cons_zero, List.set_cons_succ]
          refine wpAnyH_done (by kernel_rfl) ?_ _
          refine NoPanic.normal ?_
          go_wp2_with fail
          go_meet
          exact ⟨_, _, _, _, _, _, _, _, rfl, rfl, HR1.out.2, HR2.out.2.1, gg57, by rw [HR1.out.1]; exact hz58, by rw [HR2.out.1]; exact sb55s⟩
      · go_simp
        have gg63 := gg3.trans (Fr.alloc No xx1 (.cells Z 40))
        have hz64 := heap_alloc_new xx1 (.cells Z 40)
        obtain ⟨xa59, hxa60⟩ : ∃ xa, xx1.alloc (.cells Z 40) = xa := ⟨_, rfl⟩
        obtain ⟨ba61, hba62⟩ : ∃ ba, xx1.heap.size = ba := ⟨_, rfl⟩
        have agba61 := gg3.size
        rw [hba62] at agba61
        rw [hxa60] at gg63 hz64 ⊢
        rw [hba62] at hz64 ⊢
        have hS := HSS.out _ gg63
        clear hxa60 hba62
        refine hK.out _ _ hS (fun hH2 => ?_)
        clear hK K hHeld
        have hHeld := hH2
        clear hH2 hS
        try simp only [Act.put, List.setIfInBounds_toArray, List.set_cons_zero, List.set_cons_succ]
        refine wpAnyH_ready (rs := [3, 5]) (by kernel_rfl) (by simp) ?_
        refine (AllReadyH.cons (o := { dst := some 13, op := Op.call { callee := Callee.value (Operand.func 18), args := #[Operand.tmp 12], argTypes := #[40] }, type := 40, pos := "law.go:21", after := #[{ on := 2, ground := Ground.data }, { on := 1, ground := Ground.chain }], guard := none }) rfl (fun K hK => ?_) (AllReadyH.cons (o := { dst := some 8, op := Op.alloc 40, type := 0, pos := "law.go:21", after := #[], guard := none }) rfl (fun K hK => ?_) AllReadyH.nil))
        · go_simp
          go_at_call 18
          refine (at_prog HP.out (G2.out _)).mono ?_
          rintro e xx65 ⟨c2, y2, k2, hy2b, hy2v, rfl, hx66⟩
          obtain ⟨R2, hR2⟩ : ∃ R : Array Value, (pfx c2 y2 k2).toArray = R := ⟨_, rfl⟩
          have hR2k : R2.size = k40 := by rw [HK40.out, ← hR2]; exact pfx_size hy2b
          have HR2 := Lib.hid (And.intro hR2 (And.intro hy2b hy2v))
          rw [hR2]
          clear hR2 hy2b hy2v
          have gg67 := gg63.trans hx66
          have hz68 := hx66.keep hz64
          have hS := HSS.out _ gg67
          clear hx66
          refine hK.out _ _ hS (fun hH2 => ?_)
          clear hK K hHeld
          have hHeld := hH2
          clear hH2 hS
          try simp only [Act.put, List.setIfInBounds_toArray, List.set_cons_zero, List.set_cons_succ]
          refine wpAnyH_ready (rs := [5]) (by kernel_rfl) (by simp) ?_
          refine (AllReadyH.cons (o := { dst := some 8, op := Op.alloc 40, type := 0, pos := "law.go:21", after := #[], guard := none }) rfl (fun K hK => ?_) AllReadyH.nil)
          go_simp
          have gg73 := gg67.trans (Fr.alloc No xx65 (.cells Z 40))
          have hz74 := heap_alloc_new xx65 (.cells Z 40)
          have hne75 := (Array.getElem?_eq_some_iff.1 hz68).1
          have hz76 := (Fr.alloc No xx65 (.cells Z 40)).keep hz68
          obtain ⟨xa69, hxa70⟩ : ∃ xa, xx65.alloc (.cells Z 40) = xa := ⟨_, rfl⟩
          obtain ⟨ba71, hba72⟩ : ∃ ba, xx65.heap.size = ba := ⟨_, rfl⟩
          have agba71 := gg67.size
          rw [hba72] at agba71
          rw [hxa70] at gg73 hz74 hz76 ⊢
          rw [hba72] at hz74 ⊢
          rw [hba72] at hne75
          have hS := HSS.out _ gg73
          clear hxa70 hba72
          refine hK.out _ _ hS (fun hH2 => ?_)
          clear hK K hHeld
          have hHeld := hH2
          clear hH2 hS
          try simp only [Act.put, List.setIfInBounds_toArray, List.set_cons_zero, List.set_cons_succ]
          refine wpAnyH_ready (rs := [6]) (by kernel_rfl) (by simp) ?_
          refine (AllReadyH.cons (o := { dst := none, op := Op.store 40 (Operand.tmp 7) (Operand.tmp 11), type := 0, pos := "law.go:21", after := #[{ on := 4, ground := Ground.data }, { on := 1, ground := Ground.data }, { on := 3, ground := Ground.chain }, { on := 0, ground := Ground.phase }, { on := 1, ground := Ground.phase }, { on := 2, ground := Ground.textOnly Departure.lateStores }, { on := 3, ground := Ground.textOnly Departure.lateStoresUnsure }, { on := 4, ground := Ground.phase }, { on := 5, ground := Ground.phase }], guard := none }) rfl (fun K hK => ?_) AllReadyH.nil)
          obtain ⟨yy77, sa78, sb79, sc80⟩ := store_all (P := PD) R1.toList hz76 (by rw [Array.length_toList, hR1k, hZk]) (by rw [← HR1.out.1]; exact pfx_ones _ _ _)
          go_simp
          have gg81 := gg73.ofNew sc80 fun k hk => .inr (by rw [hk]; exact agba61)
          have hz82 := (sc80.block _ (Array.getElem?_eq_some_iff.1 hz74).1 (by omega)).trans hz74
          have sb79s := sb79
          simp only [Array.toArray_toList] at sb79s
          have hS := HSS.out _ gg81
          clear sb79 sc80
          refine hK.out _ _ hS (fun hH2 => ?_)
          clear hK K hHeld
          have hHeld := hH2
          clear hH2 hS
          try simp only [Act.put, List.setIfInBounds_toArray, List.set_cons_zero, List.set_cons_succ]
          refine wpAnyH_ready (rs := [7]) (by kernel_rfl) (by simp) ?_
          refine (AllReadyH.cons (o := { dst := none, op := Op.store 40 (Operand.tmp 8) (Operand.tmp 13), type := 0, pos := "law.go:21", after := #[{ on := 5, ground := Ground.data }, { on := 3, ground := Ground.data }, { on := 6, ground := Ground.chain }, { on := 0, ground := Ground.phase }, { on := 1, ground := Ground.phase }, { on := 2, ground := Ground.phase }, { on := 3, ground := Ground.phase }, { on := 4, ground := Ground.phase }, { on := 5, ground := Ground.phase }, { on := 6, ground := Ground.phase }], guard := none }) rfl (fun K hK => ?_) AllReadyH.nil)
          obtain ⟨yy83, sa84, sb85, sc86⟩ := store_all (P := PD) R2.toList hz82 (by rw [Array.length_toList, hR2k, hZk]) (by rw [← HR2.out.1]; exact pfx_ones _ _ _)
          go_simp
          have gg87 := gg81.ofNew sc86 fun k hk => .inr (by rw [hk]; exact agba71)
          have hz88 := (sc86.block _ (Array.getElem?_eq_some_iff.1 sb79s).1 (by omega)).trans sb79s
          have sb85s := sb85
          simp only [Array.toArray_toList] at sb85s
          have hS := HSS.out _ gg87
          clear sb85 sc86
          refine hK.out _ _ hS (fun hH2 => ?_)
          clear hK K hHeld
          have hHeld := hH2
          clear hH2 hS
          try simp only [Act.put, List.setIfInBounds_toArray, List.set_cons_zero, List.set_cons_succ]
          refine wpAnyH_done (by kernel_rfl) ?_ _
          refine NoPanic.normal ?_
          go_wp2_with fail
          go_meet
          exact ⟨_, _, _, _, _, _, _, _, rfl, rfl, HR1.out.2, HR2.out.2.1, gg87, by rw [HR1.out.1]; exact hz88, by rw [HR2.out.1]; exact sb85s⟩
        · go_simp
          have gg93 := gg63.trans (Fr.alloc No xa59 (.cells Z 40))
          have hz94 := heap_alloc_new xa59 (.cells Z 40)
          have hne95 := (Array.getElem?_eq_some_iff.1 hz64).1
          have hz96 := (Fr.alloc No xa59 (.cells Z 40)).keep hz64
          obtain ⟨xa89, hxa90⟩ : ∃ xa, xa59.alloc (.cells Z 40) = xa := ⟨_, rfl⟩
          obtain ⟨ba91, hba92⟩ : ∃ ba, xa59.heap.size = ba := ⟨_, rfl⟩
          have agba91 := gg63.size
          rw [hba92] at agba91
          rw [hxa90] at gg93 hz94 hz96 ⊢
          rw [hba92] at hz94 ⊢
          rw [hba92] at hne95
          have hS := HSS.out _ gg93
          clear hxa90 hba92
          refine hK.out _ _ hS (fun hH2 => ?_)
          clear hK K hHeld
          have hHeld := hH2
          clear hH2 hS
          try simp only [Act.put, List.setIfInBounds_toArray, List.set_cons_zero, List.set_cons_succ]
          refine wpAnyH_ready (rs := [3]) (by kernel_rfl) (by simp) ?_
          refine (AllReadyH.cons (o := { dst := some 13, op := Op.call { callee := Callee.value (Operand.func 18), args := #[Operand.tmp 12], argTypes := #[40] }, type := 40, pos := "law.go:21", after := #[{ on := 2, ground := Ground.data }, { on := 1, ground := Ground.chain }], guard := none }) rfl (fun K hK => ?_) AllReadyH.nil)
          go_simp
          go_at_call 18
          refine (at_prog HP.out (G2.out _)).mono ?_
          rintro e xx97 ⟨c2, y2, k2, hy2b, hy2v, rfl, hx98⟩
          obtain ⟨R2, hR2⟩ : ∃ R : Array Value, (pfx c2 y2 k2).toArray = R := ⟨_, rfl⟩
          have hR2k : R2.size = k40 := by rw [HK40.out, ← hR2]; exact pfx_size hy2b
          have HR2 := Lib.hid (And.intro hR2 (And.intro hy2b hy2v))
          rw [hR2]
          clear hR2 hy2b hy2v
          have gg99 := gg93.trans hx98
          have hz100 := hx98.keep hz96
          have hz101 := hx98.keep hz94
          have hS := HSS.out _ gg99
          clear hx98
          refine hK.out _ _ hS (fun hH2 => ?_)
          clear hK K hHeld
          have hHeld := hH2
          clear hH2 hS
          try simp only [Act.put, List.setIfInBounds_toArray, List.set_cons_zero, List.set_cons_succ]
          refine wpAnyH_ready (rs := [6]) (by kernel_rfl) (by simp) ?_
          refine (AllReadyH.cons (o := { dst := none, op := Op.store 40 (Operand.tmp 7) (Operand.tmp 11), type := 0, pos := "law.go:21", after := #[{ on := 4, ground := Ground.data }, { on := 1, ground := Ground.data }, { on := 3, ground := Ground.chain }, { on := 0, ground := Ground.phase }, { on := 1, ground := Ground.phase }, { on := 2, ground := Ground.textOnly Departure.lateStores }, { on := 3, ground := Ground.textOnly Departure.lateStoresUnsure }, { on := 4, ground := Ground.phase }, { on := 5, ground := Ground.phase }], guard := none }) rfl (fun K hK => ?_) AllReadyH.nil)
          obtain ⟨yy102, sa103, sb104, sc105⟩ := store_all (P := PD) R1.toList hz100 (by rw [Array.length_toList, hR1k, hZk]) (by rw [← HR1.out.1]; exact pfx_ones _ _ _)
          go_simp
          have gg106 := gg99.ofNew sc105 fun k hk => .inr (by rw [hk]; exact agba61)
          have hz107 := (sc105.block _ (Array.getElem?_eq_some_iff.1 hz101).1 (by omega)).trans hz101
          have sb104s := sb104
          simp only [Array.toArray_toList] at sb104s
          have hS := HSS.out _ gg106
          clear sb104 sc105
          refine hK.out _ _ hS (fun hH2 => ?_)
          clear hK K hHeld
          have hHeld := hH2
          clear hH2 hS
          try simp only [Act.put, List.setIfInBounds_toArray, List.set_cons_zero, List.set_cons_succ]
          refine wpAnyH_ready (rs := [7]) (by kernel_rfl) (by simp) ?_
          refine (AllReadyH.cons (o := { dst := none, op := Op.store 40 (Operand.tmp 8) (Operand.tmp 13), type := 0, pos := "law.go:21", after := #[{ on := 5, ground := Ground.data }, { on := 3, ground := Ground.data }, { on := 6, ground := Ground.chain }, { on := 0, ground := Ground.phase }, { on := 1, ground := Ground.phase }, { on := 2, ground := Ground.phase }, { on := 3, ground := Ground.phase }, { on := 4, ground := Ground.phase }, { on := 5, ground := Ground.phase }, { on := 6, ground := Ground.phase }], guard := none }) rfl (fun K hK => ?_) AllReadyH.nil)
          obtain ⟨yy108, sa109, sb110, sc111⟩ := store_all (P := PD) R2.toList hz107 (by rw [Array.length_toList, hR2k, hZk]) (by rw [← HR2.out.1]; exact pfx_ones _ _ _)
          go_simp
          have gg112 := gg106.ofNew sc111 fun k hk => .inr (by rw [hk]; exact agba91)
          have hz113 := (sc111.block _ (Array.getElem?_eq_some_iff.1 sb104s).1 (by omega)).trans sb104s
          have sb110s := sb110
          simp only [Array.toArray_toList] at sb110s
          have hS := HSS.out _ gg112
          clear sb110 sc111
          refine hK.out _ _ hS (fun hH2 => ?_)
          clear hK K hHeld
          have hHeld := hH2
          clear hH2 hS
          try simp only [Act.put, List.setIfInBounds_toArray, List.set_cons_zero, List.set_cons_succ]
          refine wpAnyH_done (by kernel_rfl) ?_ _
          refine NoPanic.normal ?_
          go_wp2_with fail
          go_meet
          exact ⟨_, _, _, _, _, _, _, _, rfl, rfl, HR1.out.2, HR2.out.2.1, gg112, by rw [HR1.out.1]; exact hz113, by rw [HR2.out.1]; exact sb110s⟩
      · go_simp
        have gg118 := gg3.trans (Fr.alloc No xx1 (.cells Z 40))
        have hz119 := heap_alloc_new xx1 (.cells Z 40)
        obtain ⟨xa114, hxa115⟩ : ∃ xa, xx1.alloc (.cells Z 40) = xa := ⟨_, rfl⟩
        obtain ⟨ba116, hba117⟩ : ∃ ba, xx1.heap.size = ba := ⟨_, rfl⟩
        have agba116 := gg3.size
        rw [hba117] at agba116
        rw [hxa115] at gg118 hz119 ⊢
        rw [hba117] at hz119 ⊢
        have hS := HSS.out _ gg118
        clear hxa115 hba117
        refine hK.out _ _ hS (fun hH2 => ?_)
        clear hK K hHeld
        have hHeld := hH2
        clear hH2 hS
        try simp only [Act.put, List.setIfInBounds_toArray, List.set_cons_zero, List.set_cons_succ]
        refine wpAnyH_ready (rs := [3, 4]) (by kernel_rfl) (by simp) ?_
        refine (AllReadyH.cons (o := { dst := some 13, op := Op.call { callee := Callee.value (Operand.func 18), args := #[Operand.tmp 12], argTypes := #[40] }, type := 40, pos := "law.go:21", after := #[{ on := 2, ground := Ground.data }, { on := 1, ground := Ground.chain }], guard := none }) rfl (fun K hK => ?_) (AllReadyH.cons (o := { dst := some 7, op := Op.alloc 40, type := 0, pos := "law.go:21", after := #[], guard := none }) rfl (fun K hK => ?_) AllReadyH.nil))
        · go_simp
          go_at_call 18
          refine (at_prog HP.out (G2.out _)).mono ?_
          rintro e xx120 ⟨c2, y2, k2, hy2b, hy2v, rfl, hx121⟩
          obtain ⟨R2, hR2⟩ : ∃ R : Array Value, (pfx c2 y2 k2).toArray = R := ⟨_, rfl⟩
          have hR2k : R2.size = k40 := by rw [HK40.out, ← hR2]; exact pfx_size hy2b
          have HR2 := Lib.hid (And.intro hR2 (And.intro hy2b hy2v))
          rw [hR2]
          clear hR2 hy2b hy2v
          have gg122 := gg118.trans hx121
          have hz123 := hx121.keep hz119
          have hS := HSS.out _ gg122
          clear hx121
          refine hK.out _ _ hS (fun hH2 => ?_)
          clear hK K hHeld
          have hHeld := hH2
          clear hH2 hS
          try simp only [Act.put, List.setIfInBounds_toArray, List.set_cons_zero, List.set_cons_succ]
          refine wpAnyH_ready (rs := [4]) (by kernel_rfl) (by simp) ?_
          refine (AllReadyH.cons (o := { dst := some 7, op := Op.alloc 40, type := 0, pos := "law.go:21", after := #[], guard := none }) rfl (fun K hK => ?_) AllReadyH.nil)
          go_simp
          have gg128 := gg122.trans (Fr.alloc No xx120 (.cells Z 40))
          have hz129 := heap_alloc_new xx120 (.cells Z 40)
          have hne130 := (Array.getElem?_eq_some_iff.1 hz123).1
          have hz131 := (Fr.alloc No xx120 (.cells Z 40)).keep hz123
          obtain ⟨xa124, hxa125⟩ : ∃ xa, xx120.alloc (.cells Z 40) = xa := ⟨_, rfl⟩
          obtain ⟨ba126, hba127⟩ : ∃ ba, xx120.heap.size = ba := ⟨_, rfl⟩
          have agba126 := gg122.size
          rw [hba127] at agba126
          rw [hxa125] at gg128 hz129 hz131 ⊢
          rw [hba127] at hz129 ⊢
          rw [hba127] at hne130
          have hS := HSS.out _ gg128
          clear hxa125 hba127
          refine hK.out _ _ hS (fun hH2 => ?_)
          clear hK K hHeld
          have hHeld := hH2
          clear hH2 hS
          try simp only [Act.put, List.setIfInBounds_toArray, List.set_cons_zero, List.set_cons_succ]
          refine wpAnyH_ready (rs := [6]) (by kernel_rfl) (by simp) ?_
          refine (AllReadyH.cons (o := { dst := none, op := Op.store 40 (Operand.tmp 7) (Operand.tmp 11), type := 0, pos := "law.go:21", after := #[{ on := 4, ground := Ground.data }, { on := 1, ground := Ground.data }, { on := 3, ground := Ground.chain }, { on := 0, ground := Ground.phase }, { on := 1, ground := Ground.phase }, { on := 2, ground := Ground.textOnly Departure.lateStores }, { on := 3, ground := Ground.textOnly Departure.lateStoresUnsure }, { on := 4, ground := Ground.phase }, { on := 5, ground := Ground.phase }], guard := none }) rfl (fun K hK => ?_) AllReadyH.nil)
          obtain ⟨yy132, sa133, sb134, sc135⟩ := store_all (P := PD) R1.toList hz129 (by rw [Array.length_toList, hR1k, hZk]) (by rw [← HR1.out.1]; exact pfx_ones _ _ _)
          go_simp
          have gg136 := gg128.ofNew sc135 fun k hk => .inr (by rw [hk]; exact agba126)
          have hz137 := (sc135.block _ (Array.getElem?_eq_some_iff.1 hz131).1 (by omega)).trans hz131
          have sb134s := sb134
          simp only [Array.toArray_toList] at sb134s
          have hS := HSS.out _ gg136
          clear sb134 sc135
          refine hK.out _ _ hS (fun hH2 => ?_)
          clear hK K hHeld
          have hHeld := hH2
          clear hH2 hS
          try simp only [Act.put, List.setIfInBounds_toArray, List.set_cons_zero, List.set_cons_succ]
          refine wpAnyH_ready (rs := [7]) (by kernel_rfl) (by simp) ?_
          refine (AllReadyH.cons (o := { dst := none, op := Op.store 40 (Operand.tmp 8) (Operand.tmp 13), type := 0, pos := "law.go:21", after := #[{ on := 5, ground := Ground.data }, { on := 3, ground := Ground.data }, { on := 6, ground := Ground.chain }, { on := 0, ground := Ground.phase }, { on := 1, ground := Ground.phase }, { on := 2, ground := Ground.phase }, { on := 3, ground := Ground.phase }, { on := 4, ground := Ground.phase }, { on := 5, ground := Ground.phase }, { on := 6, ground := Ground.phase }], guard := none }) rfl (fun K hK => ?_) AllReadyH.nil)
          obtain ⟨yy138, sa139, sb140, sc141⟩ := store_all (P := PD) R2.toList hz137 (by rw [Array.length_toList, hR2k, hZk]) (by rw [← HR2.out.1]; exact pfx_ones _ _ _)
          go_simp
          have gg142 := gg136.ofNew sc141 fun k hk => .inr (by rw [hk]; exact agba116)
          have hz143 := (sc141.block _ (Array.getElem?_eq_some_iff.1 sb134s).1 (by omega)).trans sb134s
          have sb140s := sb140
          simp only [Array.toArray_toList] at sb140s
          have hS := HSS.out _ gg142
          clear sb140 sc141
          refine hK.out _ _ hS (fun hH2 => ?_)
          clear hK K hHeld
          have hHeld := hH2
          clear hH2 hS
          try simp only [Act.put, List.setIfInBounds_toArray, List.set_cons_zero, List.set_cons_succ]
          refine wpAnyH_done (by kernel_rfl) ?_ _
          refine NoPanic.normal ?_
          go_wp2_with fail
          go_meet
          exact ⟨_, _, _, _, _, _, _, _, rfl, rfl, HR1.out.2, HR2.out.2.1, gg142, by rw [HR1.out.1]; exact hz143, by rw [HR2.out.1]; exact sb140s⟩
        · go_simp
          have gg148 := gg118.trans (Fr.alloc No xa114 (.cells Z 40))
          have hz149 := heap_alloc_new xa114 (.cells Z 40)
          have hne150 := (Array.getElem?_eq_some_iff.1 hz119).1
          have hz151 := (Fr.alloc No xa114 (.cells Z 40)).keep hz119
          obtain ⟨xa144, hxa145⟩ : ∃ xa, xa114.alloc (.cells Z 40) = xa := ⟨_, rfl⟩
          obtain ⟨ba146, hba147⟩ : ∃ ba, xa114.heap.size = ba := ⟨_, rfl⟩
          have agba146 := gg118.size
          rw [hba147] at agba146
          rw [hxa145] at gg148 hz149 hz151 ⊢
          rw [hba147] at hz149 ⊢
          rw [hba147] at hne150
          have hS := HSS.out _ gg148
          clear hxa145 hba147
          refine hK.out _ _ hS (fun hH2 => ?_)
          clear hK K hHeld
          have hHeld := hH2
          clear hH2 hS
          try simp only [Act.put, List.setIfInBounds_toArray, List.set_cons_zero, List.set_cons_succ]
          refine wpAnyH_ready (rs := [3]) (by kernel_rfl) (by simp) ?_
          refine (AllReadyH.cons (o := { dst := some 13, op := Op.call { callee := Callee.value (Operand.func 18), args := #[Operand.tmp 12], argTypes := #[40] }, type := 40, pos := "law.go:21", after := #[{ on := 2, ground := Ground.data }, { on := 1, ground := Ground.chain }], guard := none }) rfl (fun K hK => ?_) AllReadyH.nil)
          go_simp
          go_at_call 18
          refine (at_prog HP.out (G2.out _)).mono ?_
          rintro e xx152 ⟨c2, y2, k2, hy2b, hy2v, rfl, hx153⟩
          obtain ⟨R2, hR2⟩ : ∃ R : Array Value, (pfx c2 y2 k2).toArray = R := ⟨_, rfl⟩
          have hR2k : R2.size = k40 := by rw [HK40.out, ← hR2]; exact pfx_size hy2b
          have HR2 := Lib.hid (And.intro hR2 (And.intro hy2b hy2v))
          rw [hR2]
          clear hR2 hy2b hy2v
          have gg154 := gg148.trans hx153
          have hz155 := hx153.keep hz149
          have hz156 := hx153.keep hz151
          have hS := HSS.out _ gg154
          clear hx153
          refine hK.out _ _ hS (fun hH2 => ?_)
          clear hK K hHeld
          have hHeld := hH2
          clear hH2 hS
          try simp only [Act.put, List.setIfInBounds_toArray, List.set_cons_zero, List.set_cons_succ]
          refine wpAnyH_ready (rs := [6]) (by kernel_rfl) (by simp) ?_
          refine (AllReadyH.cons (o := { dst := none, op := Op.store 40 (Operand.tmp 7) (Operand.tmp 11), type := 0, pos := "law.go:21", after := #[{ on := 4, ground := Ground.data }, { on := 1, ground := Ground.data }, { on := 3, ground := Ground.chain }, { on := 0, ground := Ground.phase }, { on := 1, ground := Ground.phase }, { on := 2, ground := Ground.textOnly Departure.lateStores }, { on := 3, ground := Ground.textOnly Departure.lateStoresUnsure }, { on := 4, ground := Ground.phase }, { on := 5, ground := Ground.phase }], guard := none }) rfl (fun K hK => ?_) AllReadyH.nil)
          obtain ⟨yy157, sa158, sb159, sc160⟩ := store_all (P := PD) R1.toList hz155 (by rw [Array.length_toList, hR1k, hZk]) (by rw [← HR1.out.1]; exact pfx_ones _ _ _)
          go_simp
          have gg161 := gg154.ofNew sc160 fun k hk => .inr (by rw [hk]; exact agba146)
          have hz162 := (sc160.block _ (Array.getElem?_eq_some_iff.1 hz156).1 (by omega)).trans hz156
          have sb159s := sb159
          simp only [Array.toArray_toList] at sb159s
          have hS := HSS.out _ gg161
          clear sb159 sc160
          refine hK.out _ _ hS (fun hH2 => ?_)
          clear hK K hHeld
          have hHeld := hH2
          clear hH2 hS
          try simp only [Act.put, List.setIfInBounds_toArray, List.set_cons_zero, List.set_cons_succ]
          refine wpAnyH_ready (rs := [7]) (by kernel_rfl) (by simp) ?_
          refine (AllReadyH.cons (o := { dst := none, op := Op.store 40 (Operand.tmp 8) (Operand.tmp 13), type := 0, pos := "law.go:21", after := #[{ on := 5, ground := Ground.data }, { on := 3, ground := Ground.data }, { on := 6, ground := Ground.chain }, { on := 0, ground := Ground.phase }, { on := 1, ground := Ground.phase }, { on := 2, ground := Ground.phase }, { on := 3, ground := Ground.phase }, { on := 4, ground := Ground.phase }, { on := 5, ground := Ground.phase }, { on := 6, ground := Ground.phase }], guard := none }) rfl (fun K hK => ?_) AllReadyH.nil)
          obtain ⟨yy163, sa164, sb165, sc166⟩ := store_all (P := PD) R2.toList hz162 (by rw [Array.length_toList, hR2k, hZk]) (by rw [← HR2.out.1]; exact pfx_ones _ _ _)
          go_simp
          have gg167 := gg161.ofNew sc166 fun k hk => .inr (by rw [hk]; exact agba116)
          have hz168 := (sc166.block _ (Array.getElem?_eq_some_iff.1 sb159s).1 (by omega)).trans sb159s
          have sb165s := sb165
          simp only [Array.toArray_toList] at sb165s
          have hS := HSS.out _ gg167
          clear sb165 sc166
          refine hK.out _ _ hS (fun hH2 => ?_)
          clear hK K hHeld
          have hHeld := hH2
          clear hH2 hS
          try simp only [Act.put, List.setIfInBounds_toArray, List.set_cons_zero, List.set_cons_succ]
          refine wpAnyH_done (by kernel_rfl) ?_ _
          refine NoPanic.normal ?_
          go_wp2_with fail
          go_meet
          exact ⟨_, _, _, _, _, _, _, _, rfl, rfl, HR1.out.2, HR2.out.2.1, gg167, by rw [HR1.out.1]; exact hz168, by rw [HR2.out.1]; exact sb165s⟩
    · go_simp
      have gg173 := f5.trans (Fr.alloc No yd (.cells Z 40))
      have hz174 := heap_alloc_new yd (.cells Z 40)
      obtain ⟨xa169, hxa170⟩ : ∃ xa, yd.alloc (.cells Z 40) = xa := ⟨_, rfl⟩
      obtain ⟨ba171, hba172⟩ : ∃ ba, yd.heap.size = ba := ⟨_, rfl⟩
      have agba171 := f5.size
      rw [hba172] at agba171
      rw [hxa170] at gg173 hz174 ⊢
      rw [hba172] at hz174 ⊢
      have hS := HSS.out _ gg173
      clear hxa170 hba172
      refine hK.out _ _ hS (fun hH2 => ?_)
      clear hK K hHeld
      have hHeld := hH2
      clear hH2 hS
      try simp only [Act.put, List.setIfInBounds_toArray, List.set_cons_zero, List.set_cons_succ]
      refine wpAnyH_ready (rs := [1, 5]) (by kernel_rfl) (by simp) ?_
      refine (AllReadyH.cons (o := { dst := some 11, op := Op.call { callee := Callee.value (Operand.func 18), args := #[Operand.tmp 10], argTypes := #[40] }, type := 40, pos := "law.go:21", after := #[{ on := 0, ground := Ground.data }], guard := none }) rfl (fun K hK => ?_) (AllReadyH.cons (o := { dst := some 8, op := Op.alloc 40, type := 0, pos := "law.go:21", after := #[], guard := none }) rfl (fun K hK => ?_) AllReadyH.nil))
      · go_simp
        go_at_call 18
        refine (at_prog HP.out (G1.out _)).mono ?_
        rintro e xx175 ⟨c1, y1, k1, hy1b, hy1v, rfl, hx176⟩
        obtain ⟨R1, hR1⟩ : ∃ R : Array Value, (pfx c1 y1 k1).toArray = R := ⟨_, rfl⟩
        have hR1k : R1.size = k40 := by rw [HK40.out, ← hR1]; exact pfx_size hy1b
        have HR1 := Lib.hid (And.intro hR1 (And.intro hy1b hy1v))
        rw [hR1]
        clear hR1 hy1b hy1v
        have gg177 := gg173.trans hx176
        have hz178 := hx176.keep hz174
        have hS := HSS.out _ gg177
        clear hx176
        refine hK.out _ _ hS (fun hH2 => ?_)
        clear hK K hHeld
        have hHeld := hH2
        clear hH2 hS
        try simp only [Act.put, List.setIfInBounds_toArray, List.set_cons_zero, List.set_cons_succ]
        refine wpAnyH_ready (rs := [3, 5]) (by kernel_rfl) (by simp) ?_
        refine (AllReadyH.cons (o := { dst := some 13, op := Op.call { callee := Callee.value (Operand.func 18), args := #[Operand.tmp 12], argTypes := #[40] }, type := 40, pos := "law.go:21", after := #[{ on := 2, ground := Ground.data }, { on := 1, ground := Ground.chain }], guard := none }) rfl (fun K hK => ?_) (AllReadyH.cons (o := { dst := some 8, op := Op.alloc 40, type := 0, pos := "law.go:21", after := #[], guard := none }) rfl (fun K hK => ?_) AllReadyH.nil))
        · go_simp
          go_at_call 18
          refine (at_prog HP.out (G2.out _)).mono ?_
          rintro e xx179 ⟨c2, y2, k2, hy2b, hy2v, rfl, hx180⟩
          obtain ⟨R2, hR2⟩ : ∃ R : Array Value, (pfx c2 y2 k2).toArray = R := ⟨_, rfl⟩
          have hR2k : R2.size = k40 := by rw [HK40.out, ← hR2]; exact pfx_size hy2b
          have HR2 := Lib.hid (And.intro hR2 (And.intro hy2b hy2v))
          rw [hR2]
          clear hR2 hy2b hy2v
          have gg181 := gg177.trans hx180
          have hz182 := hx180.keep hz178
          have hS := HSS.out _ gg181
          clear hx180
          refine hK.out _ _ hS (fun hH2 => ?_)
          clear hK K hHeld
          have hHeld := hH2
          clear hH2 hS
          try simp only [Act.put, List.setIfInBounds_toArray, List.set_cons_zero, List.set_cons_succ]
          refine wpAnyH_ready (rs := [5]) (by kernel_rfl) (by simp) ?_
          refine (AllReadyH.cons (o := { dst := some 8, op := Op.alloc 40, type := 0, pos := "law.go:21", after := #[], guard := none }) rfl (fun K hK => ?_) AllReadyH.nil)
          go_simp
          have gg187 := gg181.trans (Fr.alloc No xx179 (.cells Z 40))
          have hz188 := heap_alloc_new xx179 (.cells Z 40)
          have hne189 := (Array.getElem?_eq_some_iff.1 hz182).1
          have hz190 := (Fr.alloc No xx179 (.cells Z 40)).keep hz182
          obtain ⟨xa183, hxa184⟩ : ∃ xa, xx179.alloc (.cells Z 40) = xa := ⟨_, rfl⟩
          obtain ⟨ba185, hba186⟩ : ∃ ba, xx179.heap.size = ba := ⟨_, rfl⟩
          have agba185 := gg181.size
          rw [hba186] at agba185
          rw [hxa184] at gg187 hz188 hz190 ⊢
          rw [hba186] at hz188 ⊢
          rw [hba186] at hne189
          have hS := HSS.out _ gg187
          clear hxa184 hba186
          refine hK.out _ _ hS (fun hH2 => ?_)
          clear hK K hHeld
          have hHeld := hH2
          clear hH2 hS
          try simp only [Act.put, List.setIfInBounds_toArray, List.set_cons_zero, List.set_cons_succ]
          refine wpAnyH_ready (rs := [6]) (by kernel_rfl) (by simp) ?_
          refine (AllReadyH.cons (o := { dst := none, op := Op.store 40 (Operand.tmp 7) (Operand.tmp 11), type := 0, pos := "law.go:21", after := #[{ on := 4, ground := Ground.data }, { on := 1, ground := Ground.data }, { on := 3, ground := Ground.chain }, { on := 0, ground := Ground.phase }, { on := 1, ground := Ground.phase }, { on := 2, ground := Ground.textOnly Departure.lateStores }, { on := 3, ground := Ground.textOnly Departure.lateStoresUnsure }, { on := 4, ground := Ground.phase }, { on := 5, ground := Ground.phase }], guard := none }) rfl (fun K hK => ?_) AllReadyH.nil)
          obtain ⟨yy191, sa192, sb193, sc194⟩ := store_all (P := PD) R1.toList hz190 (by rw [Array.length_toList, hR1k, hZk]) (by rw [← HR1.out.1]; exact pfx_ones _ _ _)
          go_simp
          have gg195 := gg187.ofNew sc194 fun k hk => .inr (by rw [hk]; exact agba171)
          have hz196 := (sc194.block _ (Array.getElem?_eq_some_iff.1 hz188).1 (by omega)).trans hz188
          have sb193s := sb193
          simp only [Array.toArray_toList] at sb193s
          have hS := HSS.out _ gg195
          clear sb193 sc194
          refine hK.out _ _ hS (fun hH2 => ?_)
          clear hK K hHeld
          have hHeld := hH2
          clear hH2 hS
          try simp only [Act.put, List.setIfInBounds_toArray, List.set_cons_zero, List.set_cons_succ]
          refine wpAnyH_ready (rs := [7]) (by kernel_rfl) (by simp) ?_
          refine (AllReadyH.cons (o := { dst := none, op := Op.store 40 (Operand.tmp 8) (Operand.tmp 13), type := 0, pos := "law.go:21", after := #[{ on := 5, ground := Ground.data }, { on := 3, ground := Ground.data }, { on := 6, ground := Ground.chain }, { on := 0, ground := Ground.phase }, { on := 1, ground := Ground.phase }, { on := 2, ground := Ground.phase }, { on := 3, ground := Ground.phase }, { on := 4, ground := Ground.phase }, { on := 5, ground := Ground.phase }, { on := 6, ground := Ground.phase }], guard := none }) rfl (fun K hK => ?_) AllReadyH.nil)
          obtain ⟨yy197, sa198, sb199, sc200⟩ := store_all (P := PD) R2.toList hz196 (by rw [Array.length_toList, hR2k, hZk]) (by rw [← HR2.out.1]; exact pfx_ones _ _ _)
          go_simp
          have gg201 := gg195.ofNew sc200 fun k hk => .inr (by rw [hk]; exact agba185)
          have hz202 := (sc200.block _ (Array.getElem?_eq_some_iff.1 sb193s).1 (by omega)).trans sb193s
          have sb199s := sb199
          simp only [Array.toArray_toList] at sb199s
          have hS := HSS.out _ gg201
          clear sb199 sc200
          refine hK.out _ _ hS (fun hH2 => ?_)
          clear hK K hHeld
          have hHeld := hH2
          clear hH2 hS
          try simp only [Act.put, List.setIfInBounds_toArray, List.set_cons_zero, List.set_cons_succ]
          refine wpAnyH_done (by kernel_rfl) ?_ _
          refine NoPanic.normal ?_
          go_wp2_with fail
          go_meet
          exact ⟨_, _, _, _, _, _, _, _, rfl, rfl, HR1.out.2, HR2.out.2.1, gg201, by rw [HR1.out.1]; exact hz202, by rw [HR2.out.1]; exact sb199s⟩
        · go_simp
          have gg207 := gg177.trans (Fr.alloc No xx175 (.cells Z 40))
          have hz208 := heap_alloc_new xx175 (.cells Z 40)
          have hne209 := (Array.getElem?_eq_some_iff.1 hz178).1
          have hz210 := (Fr.alloc No xx175 (.cells Z 40)).keep hz178
          obtain ⟨xa203, hxa204⟩ : ∃ xa, xx175.alloc (.cells Z 40) = xa := ⟨_, rfl⟩
          obtain ⟨ba205, hba206⟩ : ∃ ba, xx175.heap.size = ba := ⟨_, rfl⟩
          have agba205 := gg177.size
          rw [hba206] at agba205
          rw [hxa204] at gg207 hz208 hz210 ⊢
          rw [hba206] at hz208 ⊢
          rw [hba206] at hne209
          have hS := HSS.out _ gg207
          clear hxa204 hba206
          refine hK.out _ _ hS (fun hH2 => ?_)
          clear hK K hHeld
          have hHeld := hH2
          clear hH2 hS
          try simp only [Act.put, List.setIfInBounds_toArray, List.set_cons_zero, List.set_cons_succ]
          refine wpAnyH_ready (rs := [3]) (by kernel_rfl) (by simp) ?_
          refine (AllReadyH.cons (o := { dst := some 13, op := Op.call { callee := Callee.value (Operand.func 18), args := #[Operand.tmp 12], argTypes := #[40] }, type := 40, pos := "law.go:21", after := #[{ on := 2, ground := Ground.data }, { on := 1, ground := Ground.chain }], guard := none }) rfl (fun K hK => ?_) AllReadyH.nil)
          go_simp
          go_at_call 18
          refine (at_prog HP.out (G2.out _)).mono ?_
          rintro e xx211 ⟨c2, y2, k2, hy2b, hy2v, rfl, hx212⟩
          obtain ⟨R2, hR2⟩ : ∃ R : Array Value, (pfx c2 y2 k2).toArray = R := ⟨_, rfl⟩
          have hR2k : R2.size = k40 := by rw [HK40.out, ← hR2]; exact pfx_size hy2b
          have HR2 := Lib.hid (And.intro hR2 (And.intro hy2b hy2v))
          rw [hR2]
          clear hR2 hy2b hy2v
          have gg213 := gg207.trans hx212
          have hz214 := hx212.keep hz210
          have hz215 := hx212.keep hz208
          have hS := HSS.out _ gg213
          clear hx212
          refine hK.out _ _ hS (fun hH2 => ?_)
          clear hK K hHeld
          have hHeld := hH2
          clear hH2 hS
          try simp only [Act.put, List.setIfInBounds_toArray, List.set_cons_zero, List.set_cons_succ]
          refine wpAnyH_ready (rs := [6]) (by kernel_rfl) (by simp) ?_
          refine (AllReadyH.cons (o := { dst := none, op := Op.store 40 (Operand.tmp 7) (Operand.tmp 11), type := 0, pos := "law.go:21", after := #[{ on := 4, ground := Ground.data }, { on := 1, ground := Ground.data }, { on := 3, ground := Ground.chain }, { on := 0, ground := Ground.phase }, { on := 1, ground := Ground.phase }, { on := 2, ground := Ground.textOnly Departure.lateStores }, { on := 3, ground := Ground.textOnly Departure.lateStoresUnsure }, { on := 4, ground := Ground.phase }, { on := 5, ground := Ground.phase }], guard := none }) rfl (fun K hK => ?_) AllReadyH.nil)
          obtain ⟨yy216, sa217, sb218, sc219⟩ := store_all (P := PD) R1.toList hz214 (by rw [Array.length_toList, hR1k, hZk]) (by rw [← HR1.out.1]; exact pfx_ones _ _ _)
          go_simp
          have gg220 := gg213.ofNew sc219 fun k hk => .inr (by rw [hk]; exact agba171)
          have hz221 := (sc219.block _ (Array.getElem?_eq_some_iff.1 hz215).1 (by omega)).trans hz215
          have sb218s := sb218
          simp only [Array.toArray_toList] at sb218s
          have hS := HSS.out _ gg220
          clear sb218 sc219
          refine hK.out _ _ hS (fun hH2 => ?_)
          clear hK K hHeld
          have hHeld := hH2
          clear hH2 hS
          try simp only [Act.put, List.setIfInBounds_toArray, List.set_cons_zero, List.set_cons_succ]
          refine wpAnyH_ready (rs := [7]) (by kernel_rfl) (by simp) ?_
          refine (AllReadyH.cons (o := { dst := none, op := Op.store 40 (Operand.tmp 8) (Operand.tmp 13), type := 0, pos := "law.go:21", after := #[{ on := 5, ground := Ground.data }, { on := 3, ground := Ground.data }, { on := 6, ground := Ground.chain }, { on := 0, ground := Ground.phase }, { on := 1, ground := Ground.phase }, { on := 2, ground := Ground.phase }, { on := 3, ground := Ground.phase }, { on := 4, ground := Ground.phase }, { on := 5, ground := Ground.phase }, { on := 6, ground := Ground.phase }], guard := none }) rfl (fun K hK => ?_) AllReadyH.nil)
          obtain ⟨yy222, sa223, sb224, sc225⟩ := store_all (P := PD) R2.toList hz221 (by rw [Array.length_toList, hR2k, hZk]) (by rw [← HR2.out.1]; exact pfx_ones _ _ _)
          go_simp
          have gg226 := gg220.ofNew sc225 fun k hk => .inr (by rw [hk]; exact agba205)
          have hz227 := (sc225.block _ (Array.getElem?_eq_some_iff.1 sb218s).1 (by omega)).trans sb218s
          have sb224s := sb224
          simp only [Array.toArray_toList] at sb224s
          have hS := HSS.out _ gg226
          clear sb224 sc225
          refine hK.out _ _ hS (fun hH2 => ?_)
          clear hK K hHeld
          have hHeld := hH2
          clear hH2 hS
          try simp only [Act.put, List.setIfInBounds_toArray, List.set_cons_zero, List.set_cons_succ]
          refine wpAnyH_done (by kernel_rfl) ?_ _
          refine NoPanic.normal ?_
          go_wp2_with fail
          go_meet
          exact ⟨_, _, _, _, _, _, _, _, rfl, rfl, HR1.out.2, HR2.out.2.1, gg226, by rw [HR1.out.1]; exact hz227, by rw [HR2.out.1]; exact sb224s⟩
      · go_simp
        have gg232 := gg173.trans (Fr.alloc No xa169 (.cells Z 40))
        have hz233 := heap_alloc_new xa169 (.cells Z 40)
        have hne234 := (Array.getElem?_eq_some_iff.1 hz174).1
        have hz235 := (Fr.alloc No xa169 (.cells Z 40)).keep hz174
        obtain ⟨xa228, hxa229⟩ : ∃ xa, xa169.alloc (.cells Z 40) = xa := ⟨_, rfl⟩
        obtain ⟨ba230, hba231⟩ : ∃ ba, xa169.heap.size = ba := ⟨_, rfl⟩
        have agba230 := gg173.size
        rw [hba231] at agba230
        rw [hxa229] at gg232 hz233 hz235 ⊢
        rw [hba231] at hz233 ⊢
        rw [hba231] at hne234
        have hS := HSS.out _ gg232
        clear hxa229 hba231
        refine hK.out _ _ hS (fun hH2 => ?_)
        clear hK K hHeld
        have hHeld := hH2
        clear hH2 hS
        try simp only [Act.put, List.setIfInBounds_toArray, List.set_cons_zero, List.set_cons_succ]
        refine wpAnyH_ready (rs := [1]) (by kernel_rfl) (by simp) ?_
        refine (AllReadyH.cons (o := { dst := some 11, op := Op.call { callee := Callee.value (Operand.func 18), args := #[Operand.tmp 10], argTypes := #[40] }, type := 40, pos := "law.go:21", after := #[{ on := 0, ground := Ground.data }], guard := none }) rfl (fun K hK => ?_) AllReadyH.nil)
        go_simp
        go_at_call 18
        refine (at_prog HP.out (G1.out _)).mono ?_
        rintro e xx236 ⟨c1, y1, k1, hy1b, hy1v, rfl, hx237⟩
        obtain ⟨R1, hR1⟩ : ∃ R : Array Value, (pfx c1 y1 k1).toArray = R := ⟨_, rfl⟩
        have hR1k : R1.size = k40 := by rw [HK40.out, ← hR1]; exact pfx_size hy1b
        have HR1 := Lib.hid (And.intro hR1 (And.intro hy1b hy1v))
        rw [hR1]
        clear hR1 hy1b hy1v
        have gg238 := gg232.trans hx237
        have hz239 := hx237.keep hz235
        have hz240 := hx237.keep hz233
        have hS := HSS.out _ gg238
        clear hx237
        refine hK.out _ _ hS (fun hH2 => ?_)
        clear hK K hHeld
        have hHeld := hH2
        clear hH2 hS
        try simp only [Act.put, List.setIfInBounds_toArray, List.set_cons_zero, List.set_cons_succ]
        refine wpAnyH_ready (rs := [3]) (by kernel_rfl) (by simp) ?_
        refine (AllReadyH.cons (o := { dst := some 13, op := Op.call { callee := Callee.value (Operand.func 18), args := #[Operand.tmp 12], argTypes := #[40] }, type := 40, pos := "law.go:21", after := #[{ on := 2, ground := Ground.data }, { on := 1, ground := Ground.chain }], guard := none }) rfl (fun K hK => ?_) AllReadyH.nil)
        go_simp
        go_at_call 18
        refine (at_prog HP.out (G2.out _)).mono ?_
        rintro e xx241 ⟨c2, y2, k2, hy2b, hy2v, rfl, hx242⟩
        obtain ⟨R2, hR2⟩ : ∃ R : Array Value, (pfx c2 y2 k2).toArray = R := ⟨_, rfl⟩
        have hR2k : R2.size = k40 := by rw [HK40.out, ← hR2]; exact pfx_size hy2b
        have HR2 := Lib.hid (And.intro hR2 (And.intro hy2b hy2v))
        rw [hR2]
        clear hR2 hy2b hy2v
        have gg243 := gg238.trans hx242
        have hz244 := hx242.keep hz239
        have hz245 := hx242.keep hz240
        have hS := HSS.out _ gg243
        clear hx242
        refine hK.out _ _ hS (fun hH2 => ?_)
        clear hK K hHeld
        have hHeld := hH2
        clear hH2 hS
        try simp only [Act.put, List.setIfInBounds_toArray, List.set_cons_zero, List.set_cons_succ]
        refine wpAnyH_ready (rs := [6]) (by kernel_rfl) (by simp) ?_
        refine (AllReadyH.cons (o := { dst := none, op := Op.store 40 (Operand.tmp 7) (Operand.tmp 11), type := 0, pos := "law.go:21", after := #[{ on := 4, ground := Ground.data }, { on := 1, ground := Ground.data }, { on := 3, ground := Ground.chain }, { on := 0, ground := Ground.phase }, { on := 1, ground := Ground.phase }, { on := 2, ground := Ground.textOnly Departure.lateStores }, { on := 3, ground := Ground.textOnly Departure.lateStoresUnsure }, { on := 4, ground := Ground.phase }, { on := 5, ground := Ground.phase }], guard := none }) rfl (fun K hK => ?_) AllReadyH.nil)
        obtain ⟨yy246, sa247, sb248, sc249⟩ := store_all (P := PD) R1.toList hz244 (by rw [Array.length_toList, hR1k, hZk]) (by rw [← HR1.out.1]; exact pfx_ones _ _ _)
        go_simp
        have gg250 := gg243.ofNew sc249 fun k hk => .inr (by rw [hk]; exact agba171)
        have hz251 := (sc249.block _ (Array.getElem?_eq_some_iff.1 hz245).1 (by omega)).trans hz245
        have sb248s := sb248
        simp only [Array.toArray_toList] at sb248s
        have hS := HSS.out _ gg250
        clear sb248 sc249
        refine hK.out _ _ hS (fun hH2 => ?_)
        clear hK K hHeld
        have hHeld := hH2
        clear hH2 hS
        try simp only [Act.put, List.setIfInBounds_toArray, List.set_cons_zero, List.set_cons_succ]
        refine wpAnyH_ready (rs := [7]) (by kernel_rfl) (by simp) ?_
        refine (AllReadyH.cons (o := { dst := none, op := Op.store 40 (Operand.tmp 8) (Operand.tmp 13), type := 0, pos := "law.go:21", after := #[{ on := 5, ground := Ground.data }, { on := 3, ground := Ground.data }, { on := 6, ground := Ground.chain }, { on := 0, ground := Ground.phase }, { on := 1, ground := Ground.phase }, { on := 2, ground := Ground.phase }, { on := 3, ground := Ground.phase }, { on := 4, ground := Ground.phase }, { on := 5, ground := Ground.phase }, { on := 6, ground := Ground.phase }], guard := none }) rfl (fun K hK => ?_) AllReadyH.nil)
        obtain ⟨yy252, sa253, sb254, sc255⟩ := store_all (P := PD) R2.toList hz251 (by rw [Array.length_toList, hR2k, hZk]) (by rw [← HR2.out.1]; exact pfx_ones _ _ _)
        go_simp
        have gg256 := gg250.ofNew sc255 fun k hk => .inr (by rw [hk]; exact agba230)
        have hz257 := (sc255.block _ (Array.getElem?_eq_some_iff.1 sb248s).1 (by omega)).trans sb248s
        have sb254s := sb254
        simp only [Array.toArray_toList] at sb254s
        have hS := HSS.out _ gg256
        clear sb254 sc255
        refine hK.out _ _ hS (fun hH2 => ?_)
        clear hK K hHeld
        have hHeld := hH2
        clear hH2 hS
        try simp only [Act.put, List.setIfInBounds_toArray, List.set_cons_zero, List.set_cons_succ]
        refine wpAnyH_done (by kernel_rfl) ?_ _
        refine NoPanic.normal ?_
        go_wp2_with fail
        go_meet
        exact ⟨_, _, _, _, _, _, _, _, rfl, rfl, HR1.out.2, HR2.out.2.1, gg256, by rw [HR1.out.1]; exact hz257, by rw [HR2.out.1]; exact sb254s⟩
    · go_simp
      have gg262 := f5.trans (Fr.alloc No yd (.cells Z 40))
      have hz263 := heap_alloc_new yd (.cells Z 40)
      obtain ⟨xa258, hxa259⟩ : ∃ xa, yd.alloc (.cells Z 40) = xa := ⟨_, rfl⟩
      obtain ⟨ba260, hba261⟩ : ∃ ba, yd.heap.size = ba := ⟨_, rfl⟩
      have agba260 := f5.size
      rw [hba261] at agba260
      rw [hxa259] at gg262 hz263 ⊢
      rw [hba261] at hz263 ⊢
      have hS := HSS.out _ gg262
      clear hxa259 hba261
      refine hK.out _ _ hS (fun hH2 => ?_)
      clear hK K hHeld
      have hHeld := hH2
      clear hH2 hS
      try simp only [Act.put, List.setIfInBounds_toArray, List.set_cons_zero, List.set_cons_succ]
      refine wpAnyH_ready (rs := [1, 4]) (by kernel_rfl) (by simp) ?_
      refine (AllReadyH.cons (o := { dst := some 11, op := Op.call { callee := Callee.value (Operand.func 18), args := #[Operand.tmp 10], argTypes := #[40] }, type := 40, pos := "law.go:21", after := #[{ on := 0, ground := Ground.data }], guard := none }) rfl (fun K hK => ?_) (AllReadyH.cons (o := { dst := some 7, op := Op.alloc 40, type := 0, pos := "law.go:21", after := #[], guard := none }) rfl (fun K hK => ?_) AllReadyH.nil))
      · go_simp
        go_at_call 18
        refine (at_prog HP.out (G1.out _)).mono ?_
        rintro e xx264 ⟨c1, y1, k1, hy1b, hy1v, rfl, hx265⟩
        obtain ⟨R1, hR1⟩ : ∃ R : Array Value, (pfx c1 y1 k1).toArray = R := ⟨_, rfl⟩
        have hR1k : R1.size = k40 := by rw [HK40.out, ← hR1]; exact pfx_size hy1b
        have HR1 := Lib.hid (And.intro hR1 (And.intro hy1b hy1v))
        rw [hR1]
        clear hR1 hy1b hy1v
        have gg266 := gg262.trans hx265
        have hz267 := hx265.keep hz263
        have hS := HSS.out _ gg266
        clear hx265
        refine hK.out _ _ hS (fun hH2 => ?_)
        clear hK K hHeld
        have hHeld := hH2
        clear hH2 hS
        try simp only [Act.put, List.setIfInBounds_toArray, List.set_cons_zero, List.set_cons_succ]
        refine wpAnyH_ready (rs := [3, 4]) (by kernel_rfl) (by simp) ?_
        refine (AllReadyH.cons (o := { dst := some 13, op := Op.call { callee := Callee.value (Operand.func 18), args := #[Operand.tmp 12], argTypes := #[40] }, type := 40, pos := "law.go:21", after := #[{ on := 2, ground := Ground.data }, { on := 1, ground := Ground.chain }], guard := none }) rfl (fun K hK => ?_) (AllReadyH.cons (o := { dst := some 7, op := Op.alloc 40, type := 0, pos := "law.go:21", after := #[], guard := none }) rfl (fun K hK => ?_) AllReadyH.nil))
        · go_simp
          go_at_call 18
          refine (at_prog HP.out (G2.out _)).mono ?_
          rintro e xx268 ⟨c2, y2, k2, hy2b, hy2v, rfl, hx269⟩
          obtain ⟨R2, hR2⟩ : ∃ R : Array Value, (pfx c2 y2 k2).toArray = R := ⟨_, rfl⟩
          have hR2k : R2.size = k40 := by rw [HK40.out, ← hR2]; exact pfx_size hy2b
          have HR2 := Lib.hid (And.intro hR2 (And.intro hy2b hy2v))
          rw [hR2]
          clear hR2 hy2b hy2v
          have gg270 := gg266.trans hx269
          have hz271 := hx269.keep hz267
          have hS := HSS.out _ gg270
          clear hx269
          refine hK.out _ _ hS (fun hH2 => ?_)
          clear hK K hHeld
          have hHeld := hH2
          clear hH2 hS
          try simp only [Act.put, List.setIfInBounds_toArray, List.set_cons_zero, List.set_cons_succ]
          refine wpAnyH_ready (rs := [4]) (by kernel_rfl) (by simp) ?_
          refine (AllReadyH.cons (o := { dst := some 7, op := Op.alloc 40, type := 0, pos := "law.go:21", after := #[], guard := none }) rfl (fun K hK => ?_) AllReadyH.nil)
          go_simp
          have gg276 := gg270.trans (Fr.alloc No xx268 (.cells Z 40))
          have hz277 := heap_alloc_new xx268 (.cells Z 40)
          have hne278 := (Array.getElem?_eq_some_iff.1 hz271).1
          have hz279 := (Fr.alloc No xx268 (.cells Z 40)).keep hz271
          obtain ⟨xa272, hxa273⟩ : ∃ xa, xx268.alloc (.cells Z 40) = xa := ⟨_, rfl⟩
          obtain ⟨ba274, hba275⟩ : ∃ ba, xx268.heap.size = ba := ⟨_, rfl⟩
          have agba274 := gg270.size
          rw [hba275] at agba274
          rw [hxa273] at gg276 hz277 hz279 ⊢
          rw [hba275] at hz277 ⊢
          rw [hba275] at hne278
          have hS := HSS.out _ gg276
          clear hxa273 hba275
          refine hK.out _ _ hS (fun hH2 => ?_)
          clear hK K hHeld
          have hHeld := hH2
          clear hH2 hS
          try simp only [Act.put, List.setIfInBounds_toArray, List.set_cons_zero, List.set_cons_succ]
          refine wpAnyH_ready (rs := [6]) (by kernel_rfl) (by simp) ?_
          refine (AllReadyH.cons (o := { dst := none, op := Op.store 40 (Operand.tmp 7) (Operand.tmp 11), type := 0, pos := "law.go:21", after := #[{ on := 4, ground := Ground.data }, { on := 1, ground := Ground.data }, { on := 3, ground := Ground.chain }, { on := 0, ground := Ground.phase }, { on := 1, ground := Ground.phase }, { on := 2, ground := Ground.textOnly Departure.lateStores }, { on := 3, ground := Ground.textOnly Departure.lateStoresUnsure }, { on := 4, ground := Ground.phase }, { on := 5, ground := Ground.phase }], guard := none }) rfl (fun K hK => ?_) AllReadyH.nil)
          obtain ⟨yy280, sa281, sb282, sc283⟩ := store_all (P := PD) R1.toList hz277 (by rw [Array.length_toList, hR1k, hZk]) (by rw [← HR1.out.1]; exact pfx_ones _ _ _)
          go_simp
          have gg284 := gg276.ofNew sc283 fun k hk => .inr (by rw [hk]; exact agba274)
          have hz285 := (sc283.block _ (Array.getElem?_eq_some_iff.1 hz279).1 (by omega)).trans hz279
          have sb282s := sb282
          simp only [Array.toArray_toList] at sb282s
          have hS := HSS.out _ gg284
          clear sb282 sc283
          refine hK.out _ _ hS (fun hH2 => ?_)
          clear hK K hHeld
          have hHeld := hH2
          clear hH2 hS
          try simp only [Act.put, List.setIfInBounds_toArray, List.set_cons_zero, List.set_cons_succ]
          refine wpAnyH_ready (rs := [7]) (by kernel_rfl) (by simp) ?_
          refine (AllReadyH.cons (o := { dst := none, op := Op.store 40 (Operand.tmp 8) (Operand.tmp 13), type := 0, pos := "law.go:21", after := #[{ on := 5, ground := Ground.data }, { on := 3, ground := Ground.data }, { on := 6, ground := Ground.chain }, { on := 0, ground := Ground.phase }, { on := 1, ground := Ground.phase }, { on := 2, ground := Ground.phase }, { on := 3, ground := Ground.phase }, { on := 4, ground := Ground.phase }, { on := 5, ground := Ground.phase }, { on := 6, ground := Ground.phase }], guard := none }) rfl (fun K hK => ?_) AllReadyH.nil)
          obtain ⟨yy286, sa287, sb288, sc289⟩ := store_all (P := PD) R2.toList hz285 (by rw [Array.length_toList, hR2k, hZk]) (by rw [← HR2.out.1]; exact pfx_ones _ _ _)
          go_simp
          have gg290 := gg284.ofNew sc289 fun k hk => .inr (by rw [hk]; exact agba260)
          have hz291 := (sc289.block _ (Array.getElem?_eq_some_iff.1 sb282s).1 (by omega)).trans sb282s
          have sb288s := sb288
          simp only [Array.toArray_toList] at sb288s
          have hS := HSS.out _ gg290
          clear sb288 sc289
          refine hK.out _ _ hS (fun hH2 => ?_)
          clear hK K hHeld
          have hHeld := hH2
          clear hH2 hS
          try simp only [Act.put, List.setIfInBounds_toArray, List.set_cons_zero, List.set_cons_succ]
          refine wpAnyH_done (by kernel_rfl) ?_ _
          refine NoPanic.normal ?_
          go_wp2_with fail
          go_meet
          exact ⟨_, _, _, _, _, _, _, _, rfl, rfl, HR1.out.2, HR2.out.2.1, gg290, by rw [HR1.out.1]; exact hz291, by rw [HR2.out.1]; exact sb288s⟩
        · go_simp
          have gg296 := gg266.trans (Fr.alloc No xx264 (.cells Z 40))
          have hz297 := heap_alloc_new xx264 (.cells Z 40)
          have hne298 := (Array.getElem?_eq_some_iff.1 hz267).1
          have hz299 := (Fr.alloc No xx264 (.cells Z 40)).keep hz267
          obtain ⟨xa292, hxa293⟩ : ∃ xa, xx264.alloc (.cells Z 40) = xa := ⟨_, rfl⟩
          obtain ⟨ba294, hba295⟩ : ∃ ba, xx264.heap.size = ba := ⟨_, rfl⟩
          have agba294 := gg266.size
          rw [hba295] at agba294
          rw [hxa293] at gg296 hz297 hz299 ⊢
          rw [hba295] at hz297 ⊢
          rw [hba295] at hne298
          have hS := HSS.out _ gg296
          clear hxa293 hba295
          refine hK.out _ _ hS (fun hH2 => ?_)
          clear hK K hHeld
          have hHeld := hH2
          clear hH2 hS
          try simp only [Act.put, List.setIfInBounds_toArray, List.set_cons_zero, List.set_cons_succ]
          refine wpAnyH_ready (rs := [3]) (by kernel_rfl) (by simp) ?_
          refine (AllReadyH.cons (o := { dst := some 13, op := Op.call { callee := Callee.value (Operand.func 18), args := #[Operand.tmp 12], argTypes := #[40] }, type := 40, pos := "law.go:21", after := #[{ on := 2, ground := Ground.data }, { on := 1, ground := Ground.chain }], guard := none }) rfl (fun K hK => ?_) AllReadyH.nil)
          go_simp
          go_at_call 18
          refine (at_prog HP.out (G2.out _)).mono ?_
          rintro e xx300 ⟨c2, y2, k2, hy2b, hy2v, rfl, hx301⟩
          obtain ⟨R2, hR2⟩ : ∃ R : Array Value, (pfx c2 y2 k2).toArray = R := ⟨_, rfl⟩
          have hR2k : R2.size = k40 := by rw [HK40.out, ← hR2]; exact pfx_size hy2b
          have HR2 := Lib.hid (And.intro hR2 (And.intro hy2b hy2v))
          rw [hR2]
          clear hR2 hy2b hy2v
          have gg302 := gg296.trans hx301
          have hz303 := hx301.keep hz297
          have hz304 := hx301.keep hz299
          have hS := HSS.out _ gg302
          clear hx301
          refine hK.out _ _ hS (fun hH2 => ?_)
          clear hK K hHeld
          have hHeld := hH2
          clear hH2 hS
          try simp only [Act.put, List.setIfInBounds_toArray, List.set_cons_zero, List.set_cons_succ]
          refine wpAnyH_ready (rs := [6]) (by kernel_rfl) (by simp) ?_
          refine (AllReadyH.cons (o := { dst := none, op := Op.store 40 (Operand.tmp 7) (Operand.tmp 11), type := 0, pos := "law.go:21", after := #[{ on := 4, ground := Ground.data }, { on := 1, ground := Ground.data }, { on := 3, ground := Ground.chain }, { on := 0, ground := Ground.phase }, { on := 1, ground := Ground.phase }, { on := 2, ground := Ground.textOnly Departure.lateStores }, { on := 3, ground := Ground.textOnly Departure.lateStoresUnsure }, { on := 4, ground := Ground.phase }, { on := 5, ground := Ground.phase }], guard := none }) rfl (fun K hK => ?_) AllReadyH.nil)
          obtain ⟨yy305, sa306, sb307, sc308⟩ := store_all (P := PD) R1.toList hz303 (by rw [Array.length_toList, hR1k, hZk]) (by rw [← HR1.out.1]; exact pfx_ones _ _ _)
          go_simp
          have gg309 := gg302.ofNew sc308 fun k hk => .inr (by rw [hk]; exact agba294)
          have hz310 := (sc308.block _ (Array.getElem?_eq_some_iff.1 hz304).1 (by omega)).trans hz304
          have sb307s := sb307
          simp only [Array.toArray_toList] at sb307s
          have hS := HSS.out _ gg309
          clear sb307 sc308
          refine hK.out _ _ hS (fun hH2 => ?_)
          clear hK K hHeld
          have hHeld := hH2
          clear hH2 hS
          try simp only [Act.put, List.setIfInBounds_toArray, List.set_cons_zero, List.set_cons_succ]
          refine wpAnyH_ready (rs := [7]) (by kernel_rfl) (by simp) ?_
          refine (AllReadyH.cons (o := { dst := none, op := Op.store 40 (Operand.tmp 8) (Operand.tmp 13), type := 0, pos := "law.go:21", after := #[{ on := 5, ground := Ground.data }, { on := 3, ground := Ground.data }, { on := 6, ground := Ground.chain }, { on := 0, ground := Ground.phase }, { on := 1, ground := Ground.phase }, { on := 2, ground := Ground.phase }, { on := 3, ground := Ground.phase }, { on := 4, ground := Ground.phase }, { on := 5, ground := Ground.phase }, { on := 6, ground := Ground.phase }], guard := none }) rfl (fun K hK => ?_) AllReadyH.nil)
          obtain ⟨yy311, sa312, sb313, sc314⟩ := store_all (P := PD) R2.toList hz310 (by rw [Array.length_toList, hR2k, hZk]) (by rw [← HR2.out.1]; exact pfx_ones _ _ _)
          go_simp
          have gg315 := gg309.ofNew sc314 fun k hk => .inr (by rw [hk]; exact agba260)
          have hz316 := (sc314.block _ (Array.getElem?_eq_some_iff.1 sb307s).1 (by omega)).trans sb307s
          have sb313s := sb313
          simp only [Array.toArray_toList] at sb313s
          have hS := HSS.out _ gg315
          clear sb313 sc314
          refine hK.out _ _ hS (fun hH2 => ?_)
          clear hK K hHeld
          have hHeld := hH2
          clear hH2 hS
          try simp only [Act.put, List.setIfInBounds_toArray, List.set_cons_zero, List.set_cons_succ]
          refine wpAnyH_done (by kernel_rfl) ?_ _
          refine NoPanic.normal ?_
          go_wp2_with fail
          go_meet
          exact ⟨_, _, _, _, _, _, _, _, rfl, rfl, HR1.out.2, HR2.out.2.1, gg315, by rw [HR1.out.1]; exact hz316, by rw [HR2.out.1]; exact sb313s⟩
      · go_simp
        have gg321 := gg262.trans (Fr.alloc No xa258 (.cells Z 40))
        have hz322 := heap_alloc_new xa258 (.cells Z 40)
        have hne323 := (Array.getElem?_eq_some_iff.1 hz263).1
        have hz324 := (Fr.alloc No xa258 (.cells Z 40)).keep hz263
        obtain ⟨xa317, hxa318⟩ : ∃ xa, xa258.alloc (.cells Z 40) = xa := ⟨_, rfl⟩
        obtain ⟨ba319, hba320⟩ : ∃ ba, xa258.heap.size = ba := ⟨_, rfl⟩
        have agba319 := gg262.size
        rw [hba320] at agba319
        rw [hxa318] at gg321 hz322 hz324 ⊢
        rw [hba320] at hz322 ⊢
        rw [hba320] at hne323
        have hS := HSS.out _ gg321
        clear hxa318 hba320
        refine hK.out _ _ hS (fun hH2 => ?_)
        clear hK K hHeld
        have hHeld := hH2
        clear hH2 hS
        try simp only [Act.put, List.setIfInBounds_toArray, List.set_cons_zero, List.set_cons_succ]
        refine wpAnyH_ready (rs := [1]) (by kernel_rfl) (by simp) ?_
        refine (AllReadyH.cons (o := { dst := some 11, op := Op.call { callee := Callee.value (Operand.func 18), args := #[Operand.tmp 10], argTypes := #[40] }, type := 40, pos := "law.go:21", after := #[{ on := 0, ground := Ground.data }], guard := none }) rfl (fun K hK => ?_) AllReadyH.nil)
        go_simp
        go_at_call 18
        refine (at_prog HP.out (G1.out _)).mono ?_
        rintro e xx325 ⟨c1, y1, k1, hy1b, hy1v, rfl, hx326⟩
        obtain ⟨R1, hR1⟩ : ∃ R : Array Value, (pfx c1 y1 k1).toArray = R := ⟨_, rfl⟩
        have hR1k : R1.size = k40 := by rw [HK40.out, ← hR1]; exact pfx_size hy1b
        have HR1 := Lib.hid (And.intro hR1 (And.intro hy1b hy1v))
        rw [hR1]
        clear hR1 hy1b hy1v
        have gg327 := gg321.trans hx326
        have hz328 := hx326.keep hz322
        have hz329 := hx326.keep hz324
        have hS := HSS.out _ gg327
        clear hx326
        refine hK.out _ _ hS (fun hH2 => ?_)
        clear hK K hHeld
        have hHeld := hH2
        clear hH2 hS
        try simp only [Act.put, List.setIfInBounds_toArray, List.set_cons_zero, List.set_cons_succ]
        refine wpAnyH_ready (rs := [3]) (by kernel_rfl) (by simp) ?_
        refine (AllReadyH.cons (o := { dst := some 13, op := Op.call { callee := Callee.value (Operand.func 18), args := #[Operand.tmp 12], argTypes := #[40] }, type := 40, pos := "law.go:21", after := #[{ on := 2, ground := Ground.data }, { on := 1, ground := Ground.chain }], guard := none }) rfl (fun K hK => ?_) AllReadyH.nil)
        go_simp
        go_at_call 18
        refine (at_prog HP.out (G2.out _)).mono ?_
        rintro e xx330 ⟨c2, y2, k2, hy2b, hy2v, rfl, hx331⟩
        obtain ⟨R2, hR2⟩ : ∃ R : Array Value, (pfx c2 y2 k2).toArray = R := ⟨_, rfl⟩
        have hR2k : R2.size = k40 := by rw [HK40.out, ← hR2]; exact pfx_size hy2b
        have HR2 := Lib.hid (And.intro hR2 (And.intro hy2b hy2v))
        rw [hR2]
        clear hR2 hy2b hy2v
        have gg332 := gg327.trans hx331
        have hz333 := hx331.keep hz328
        have hz334 := hx331.keep hz329
        have hS := HSS.out _ gg332
        clear hx331
        refine hK.out _ _ hS (fun hH2 => ?_)
        clear hK K hHeld
        have hHeld := hH2
        clear hH2 hS
        try simp only [Act.put, List.setIfInBounds_toArray, List.set_cons_zero, List.set_cons_succ]
        refine wpAnyH_ready (rs := [6]) (by kernel_rfl) (by simp) ?_
        refine (AllReadyH.cons (o := { dst := none, op := Op.store 40 (Operand.tmp 7) (Operand.tmp 11), type := 0, pos := "law.go:21", after := #[{ on := 4, ground := Ground.data }, { on := 1, ground := Ground.data }, { on := 3, ground := Ground.chain }, { on := 0, ground := Ground.phase }, { on := 1, ground := Ground.phase }, { on := 2, ground := Ground.textOnly Departure.lateStores }, { on := 3, ground := Ground.textOnly Departure.lateStoresUnsure }, { on := 4, ground := Ground.phase }, { on := 5, ground := Ground.phase }], guard := none }) rfl (fun K hK => ?_) AllReadyH.nil)
        obtain ⟨yy335, sa336, sb337, sc338⟩ := store_all (P := PD) R1.toList hz333 (by rw [Array.length_toList, hR1k, hZk]) (by rw [← HR1.out.1]; exact pfx_ones _ _ _)
        go_simp
        have gg339 := gg332.ofNew sc338 fun k hk => .inr (by rw [hk]; exact agba319)
        have hz340 := (sc338.block _ (Array.getElem?_eq_some_iff.1 hz334).1 (by omega)).trans hz334
        have sb337s := sb337
        simp only [Array.toArray_toList] at sb337s
        have hS := HSS.out _ gg339
        clear sb337 sc338
        refine hK.out _ _ hS (fun hH2 => ?_)
        clear hK K hHeld
        have hHeld := hH2
        clear hH2 hS
        try simp only [Act.put, List.setIfInBounds_toArray, List.set_cons_zero, List.set_cons_succ]
        refine wpAnyH_ready (rs := [7]) (by kernel_rfl) (by simp) ?_
        refine (AllReadyH.cons (o := { dst := none, op := Op.store 40 (Operand.tmp 8) (Operand.tmp 13), type := 0, pos := "law.go:21", after := #[{ on := 5, ground := Ground.data }, { on := 3, ground := Ground.data }, { on := 6, ground := Ground.chain }, { on := 0, ground := Ground.phase }, { on := 1, ground := Ground.phase }, { on := 2, ground := Ground.phase }, { on := 3, ground := Ground.phase }, { on := 4, ground := Ground.phase }, { on := 5, ground := Ground.phase }, { on := 6, ground := Ground.phase }], guard := none }) rfl (fun K hK => ?_) AllReadyH.nil)
        obtain ⟨yy341, sa342, sb343, sc344⟩ := store_all (P := PD) R2.toList hz340 (by rw [Array.length_toList, hR2k, hZk]) (by rw [← HR2.out.1]; exact pfx_ones _ _ _)
        go_simp
        have gg345 := gg339.ofNew sc344 fun k hk => .inr (by rw [hk]; exact agba260)
        have hz346 := (sc344.block _ (Array.getElem?_eq_some_iff.1 sb337s).1 (by omega)).trans sb337s
        have sb343s := sb343
        simp only [Array.toArray_toList] at sb343s
        have hS := HSS.out _ gg345
        clear sb343 sc344
        refine hK.out _ _ hS (fun hH2 => ?_)
        clear hK K hHeld
        have hHeld := hH2
        clear hH2 hS
        try simp only [Act.put, List.setIfInBounds_toArray, List.set_cons_zero, List.set_cons_succ]
        refine wpAnyH_done (by kernel_rfl) ?_ _
        refine NoPanic.normal ?_
        go_wp2_with fail
        go_meet
        exact ⟨_, _, _, _, _, _, _, _, rfl, rfl, HR1.out.2, HR2.out.2.1, gg345, by rw [HR1.out.1]; exact hz346, by rw [HR2.out.1]; exact sb343s⟩
  case rest =>
    obtain ⟨b7, b8, c1, y1, k1, c2, y2, k2, rfl, rfl, HC⟩ := hcut
    clear G1 G2
    have V3 : Hid (∀ w', Calls Tryz.prog 19 #[.agg (pfx c1 y1 k1).toArray] w' fun e w'' => e = .returned (.bool true) ∧ Fr No w' w'') := fun w' => by rw [← HC.out.1.2]; exact validp_any c1 y1 k1 HC.out.1.1 w'
    have O3 : Hid (∀ w', Calls Tryz.prog 23 #[.agg (pfx c1 y1 k1).toArray, .agg (pfx c2 y2 k2).toArray] w' fun e w'' => e = .returned (.bool (covP c1 y1 k1 c2 y2 k2)) ∧ Fr No w' w'') := fun w' => cov_any c1 c2 y1 y2 k1 k2 HC.out.1.1 HC.out.2.1 w'
    have O4 : Hid (∀ w', Calls Tryz.prog 24 #[.agg (pfx c1 y1 k1).toArray, .agg (pfx c2 y2 k2).toArray] w' fun e w'' => e = .returned (.bool (covP c1 y1 k1 c2 y2 k2)) ∧ Fr No w' w'') := fun w' => cov_ref c1 c2 y1 y2 k1 k2 HC.out.1.1 HC.out.2.1 w'
    have M3 : Hid (∀ w', Calls Tryz.prog 25 #[.agg (pfx c1 y1 k1).toArray, .agg (pfx c2 y2 k2).toArray] w' fun e w'' => e = .returned (.int .i64 (cmpP c1 c2 y1 y2 k1 k2)) ∧ Fr No w' w'') := fun w' => cmpp_any c1 c2 y1 y2 k1 k2 HC.out.1.1 HC.out.2.1 w'
    have M4 : Hid (∀ w', Calls Tryz.prog 26 #[.agg (pfx c1 y1 k1).toArray, .agg (pfx c2 y2 k2).toArray] w' fun e w'' => e = .returned (.int .i64 (cmpP c1 c2 y1 y2 k1 k2)) ∧ Fr No w' w'') := fun w' => cmpp_ref c1 c2 y1 y2 k1 k2 HC.out.1.1 HC.out.2.1 w'
    have D1 : Hid (∀ (d' : Bool) (z' : List Nat), Bytes z' → ∀ w', Calls Tryz.prog 21 #[.agg (pfx c1 y1 k1).toArray, .agg (adr d' z').toArray] w' fun e w'' => e = .returned (.bool (contP c1 y1 k1 d' z')) ∧ Fr No w' w'') := fun d' z' hz w' => cont_any c1 d' y1 z' k1 HC.out.1.1 hz w'
    have D2 : Hid (∀ (d' : Bool) (z' : List Nat), Bytes z' → ∀ w', Calls Tryz.prog 22 #[.agg (pfx c1 y1 k1).toArray, .agg (adr d' z').toArray] w' fun e w'' => e = .returned (.bool (contP c1 y1 k1 d' z')) ∧ Fr No w' w'') := fun d' z' hz w' => cont_ref c1 d' y1 z' k1 HC.out.1.1 hz w'
    have hR1 : (pfx c1 y1 k1).toArray.size = k40 := by rw [HK40.out]; exact pfx_size HC.out.1.1
    have hR2 : (pfx c2 y2 k2).toArray.size = k40 := by rw [HK40.out]; exact pfx_size HC.out.2.1
    have HD : Hid (Fr No w1 wc ∧ wc.heap[b7]? = some (.cells (pfx c1 y1 k1).toArray 40 (0, 0)) ∧ wc.heap[b8]? = some (.cells (pfx c2 y2 k2).toArray 40 (0, 0))) := HC.out.2.2
    clear HC
    generalize covP c1 y1 k1 c2 y2 k2 = cv2 at O3 O4
    generalize cmpP c1 c2 y1 y2 k1 k2 = cm2 at M3 M4
    generalize contP c1 y1 k1 = CT at D1 D2
    generalize (pfx c1 y1 k1).toArray = R1 at V3 O3 O4 M3 M4 D1 D2 hR1 HD
    generalize (pfx c2 y2 k2).toArray = R2 at O3 O4 M3 M4 hR2 HD
    have e5 : (cv2 == cv2) = true := by simp
    have e6 : (cm2 == cm2) = true := by simp
    go_wp2_with fail
    have HSA : Hid (∀ w', Fr No wc w' → Sem.run PD (loadCellsFrom ⟨nb, 0, none⟩ 0 k40 #[]) w' = .ok P w' ∧ Sem.run PD (loadCellsFrom ⟨nb + 1, 0, none⟩ 0 k40 #[]) w' = .ok Q w' ∧ Sem.run PD (loadCellsFrom ⟨nb + 1 + 1, 0, none⟩ 0 k30 #[]) w' = .ok A w') := fun w' hf => HSS.out w' (HD.out.1.trans hf)
    have f5 : Fr No wc wc.drew := Fr.drew No _
    have hS0 := HSA.out _ f5
    refine wp_region_noPanic ?_
    refine wp_region_held_drew (S := (fun w' : World => Sem.run PD (loadCellsFrom ⟨nb, 0, none⟩ 0 k40 #[]) w' = .ok P w' ∧ Sem.run PD (loadCellsFrom ⟨nb + 1, 0, none⟩ 0 k40 #[]) w' = .ok Q w' ∧ Sem.run PD (loadCellsFrom ⟨nb + 1 + 1, 0, none⟩ 0 k30 #[]) w' = .ok A w')) (by kernel_rfl) hS0 (fun hHeld => ?_)
    clear hS0
    refine wpAnyH_take (i := 0) (oi := { dst := some 14, op := Op.load 40 (Operand.tmp 3), type := 40, pos := "law.go:22", after := #[], guard := none }) (v := ?v0x3) rfl (by kernel_rfl) (by kernel_rfl) (by kernel_rfl) (fun _ _ _ h => h) (Or.inl ⟨by rfl, ?hy0x3⟩) hHeld ?nx0x3
    case hy0x3 => (intro w hSw; (try dsimp only at hSw); go_simp; try with_reducible rfl)
    try simp only [Act.put, List.setIfInBounds_toArray, List.set_cons_zero, List.set_cons_succ]
    refine wpAnyH_take (i := 2) (oi := { dst := some 16, op := Op.load 40 (Operand.tmp 3), type := 40, pos := "law.go:22", after := #[], guard := none }) (v := ?v2x4) rfl (by kernel_rfl) (by kernel_rfl) (by kernel_rfl) (fun _ _ _ h => h) (Or.inl ⟨by rfl, ?hy2x4⟩) hHeld ?nx2x4
    case hy2x4 => (intro w hSw; (try dsimp only at hSw); go_simp; try with_reducible rfl)
    try simp only [Act.put, List.setIfInBounds_toArray, List.set_cons_zero, List.set_cons_succ]
    refine wpAnyH_ready (rs := [1]) (by kernel_rfl) (by simp) ?_
    refine (AllReadyH.cons (o := { dst := some 15, op := Op.call { callee := Callee.value (Operand.func 19), args := #[Operand.tmp 14], argTypes := #[40] }, type := 4, pos := "law.go:22", after := #[{ on := 0, ground := Ground.data }], guard := none }) rfl (fun K hK => ?_) AllReadyH.nil)
    go_simp
    go_at_call 19
    refine (at_prog HP.out (V1.out _)).mono ?_
    rintro e xx347 ⟨rfl, hx348⟩
    have gg349 := f5.trans hx348
    have hS := HSA.out _ gg349
    clear hx348
    refine hK.out _ _ hS (fun hH2 => ?_)
    clear hK K hHeld
    have hHeld := hH2
    clear hH2 hS
    try simp only [Act.put, List.setIfInBounds_toArray, List.set_cons_zero, List.set_cons_succ]
    refine wpAnyH_ready (rs := [3]) (by kernel_rfl) (by simp) ?_
    refine (AllReadyH.cons (o := { dst := some 17, op := Op.call { callee := Callee.value (Operand.func 20), args := #[Operand.tmp 16], argTypes := #[40] }, type := 4, pos := "law.go:22", after := #[{ on := 2, ground := Ground.data }, { on := 1, ground := Ground.chain }], guard := none }) rfl (fun K hK => ?_) AllReadyH.nil)
    go_simp
    go_at_call 20
    refine (at_prog HP.out (V2.out _)).mono ?_
    rintro e xx350 ⟨rfl, hx351⟩
    have gg352 := gg349.trans hx351
    have hS := HSA.out _ gg352
    clear hx351
    refine hK.out _ _ hS (fun hH2 => ?_)
    clear hK K hHeld
    have hHeld := hH2
    clear hH2 hS
    try simp only [Act.put, List.setIfInBounds_toArray, List.set_cons_zero, List.set_cons_succ]
    refine wpAnyH_take (i := 4) (oi := { dst := some 18, op := Op.binOp BinOp.neq 4 (Operand.tmp 15) (Operand.tmp 17) 4, type := 4, pos := "law.go:22", after := #[{ on := 1, ground := Ground.data }, { on := 3, ground := Ground.data }], guard := none }) (v := ?v4x5) rfl (by kernel_rfl) (by kernel_rfl) (by kernel_rfl) (fun _ _ _ h => h) (Or.inl ⟨by rfl, ?hy4x5⟩) hHeld ?nx4x5
    case hy4x5 => (intro w hSw; (try dsimp only at hSw); go_simp; try with_reducible rfl)
    try simp only [Act.put, List.setIfInBounds_toArray, List.set_cons_zero, List.set_cons_succ]
    refine wpAnyH_take (i := 5) (oi := { dst := some 19, op := Op.move (Operand.tmp 18), type := 4, pos := "law.go:22", after := #[{ on := 4, ground := Ground.data }, { on := 3, ground := Ground.chain }], guard := none }) (v := ?v5x6) rfl (by kernel_rfl) (by kernel_rfl) (by kernel_rfl) (fun _ _ _ h => h) (Or.inl ⟨by rfl, ?hy5x6⟩) hHeld ?nx5x6
    case hy5x6 => (intro w hSw; (try dsimp only at hSw); go_simp; try with_reducible rfl)
    try simp only [Act.put, List.setIfInBounds_toArray, List.set_cons_zero, List.set_cons_succ]
    refine wpAnyH_take (i := 6) (oi := { dst := some 20, op := Op.load 40 (Operand.tmp 3), type := 40, pos := "law.go:22", after := #[{ on := 5, ground := Ground.guard }], guard := some (5, false) }) (v := ?v6x7) rfl (by kernel_rfl) (by kernel_rfl) (by kernel_rfl) (fun _ _ _ h => h) (Or.inl ⟨by rfl, ?hy6x7⟩) hHeld ?nx6x7
    case hy6x7 => (intro w hSw; (try dsimp only at hSw); go_simp; try with_reducible rfl)
    try simp only [Act.put, List.setIfInBounds_toArray, List.set_cons_zero, List.set_cons_succ]
    refine wpAnyH_take (i := 7) (oi := { dst := some 21, op := Op.load 30 (Operand.tmp 5), type := 30, pos := "law.go:22", after := #[{ on := 5, ground := Ground.guard }], guard := some (5, false) }) (v := ?v7x8) rfl (by kernel_rfl) (by kernel_rfl) (by kernel_rfl) (fun _ _ _ h => h) (Or.inl ⟨by rfl, ?hy7x8⟩) hHeld ?nx7x8
    case hy7x8 => (intro w hSw; (try dsimp only at hSw); go_simp; try with_reducible rfl)
    try simp only [Act.put, List.setIfInBounds_toArray, List.set_cons_zero, List.set_cons_succ]
    refine wpAnyH_take (i := 9) (oi := { dst := some 23, op := Op.load 40 (Operand.tmp 3), type := 40, pos := "law.go:22", after := #[{ on := 5, ground := Ground.guard }], guard := some (5, false) }) (v := ?v9x9) rfl (by kernel_rfl) (by kernel_rfl) (by kernel_rfl) (fun _ _ _ h => h) (Or.inl ⟨by rfl, ?hy9x9⟩) hHeld ?nx9x9
    case hy9x9 => (intro w hSw; (try dsimp only at hSw); go_simp; try with_reducible rfl)
    try simp only [Act.put, List.setIfInBounds_toArray, List.set_cons_zero, List.set_cons_succ]
    refine wpAnyH_take (i := 10) (oi := { dst := some 24, op := Op.load 30 (Operand.tmp 5), type := 30, pos := "law.go:22", after := #[{ on := 5, ground := Ground.guard }], guard := some (5, false) }) (v := ?v10x10) rfl (by kernel_rfl) (by kernel_rfl) (by kernel_rfl) (fun _ _ _ h => h) (Or.inl ⟨by rfl, ?hy10x10⟩) hHeld ?nx10x10
    case hy10x10 => (intro w hSw; (try dsimp only at hSw); go_simp; try with_reducible rfl)
    try simp only [Act.put, List.setIfInBounds_toArray, List.set_cons_zero, List.set_cons_succ]
    refine wpAnyH_ready (rs := [8]) (by kernel_rfl) (by simp) ?_
    refine (AllReadyH.cons (o := { dst := some 22, op := Op.call { callee := Callee.value (Operand.func 21), args := #[Operand.tmp 20, Operand.tmp 21], argTypes := #[40, 30] }, type := 4, pos := "law.go:22", after := #[{ on := 6, ground := Ground.data }, { on := 7, ground := Ground.data }, { on := 5, ground := Ground.chain }, { on := 5, ground := Ground.guard }], guard := some (5, false) }) rfl (fun K hK => ?_) AllReadyH.nil)
    go_simp
    go_at_call 21
    refine (at_prog HP.out (C1.out _)).mono ?_
    rintro e xx353 ⟨rfl, hx354⟩
    have gg355 := gg352.trans hx354
    have hS := HSA.out _ gg355
    clear hx354
    refine hK.out _ _ hS (fun hH2 => ?_)
    clear hK K hHeld
    have hHeld := hH2
    clear hH2 hS
    try simp only [Act.put, List.setIfInBounds_toArray, List.set_cons_zero, List.set_cons_succ]
    refine wpAnyH_ready (rs := [11]) (by kernel_rfl) (by simp) ?_
    refine (AllReadyH.cons (o := { dst := some 25, op := Op.call { callee := Callee.value (Operand.func 22), args := #[Operand.tmp 23, Operand.tmp 24], argTypes := #[40, 30] }, type := 4, pos := "law.go:22", after := #[{ on := 9, ground := Ground.data }, { on := 10, ground := Ground.data }, { on := 8, ground := Ground.chain }, { on := 5, ground := Ground.guard }], guard := some (5, false) }) rfl (fun K hK => ?_) AllReadyH.nil)
    go_simp
    go_at_call 22
    refine (at_prog HP.out (C2.out _)).mono ?_
    rintro e xx356 ⟨rfl, hx357⟩
    have gg358 := gg355.trans hx357
    have hS := HSA.out _ gg358
    clear hx357
    refine hK.out _ _ hS (fun hH2 => ?_)
    clear hK K hHeld
    have hHeld := hH2
    clear hH2 hS
    try simp only [Act.put, List.setIfInBounds_toArray, List.set_cons_zero, List.set_cons_succ]
    refine wpAnyH_take (i := 12) (oi := { dst := some 26, op := Op.binOp BinOp.neq 4 (Operand.tmp 22) (Operand.tmp 25) 4, type := 4, pos := "law.go:22", after := #[{ on := 8, ground := Ground.data }, { on := 11, ground := Ground.data }, { on := 5, ground := Ground.guard }], guard := some (5, false) }) (v := ?v12x11) rfl (by kernel_rfl) (by kernel_rfl) (by kernel_rfl) (fun _ _ _ h => h) (Or.inl ⟨by rfl, ?hy12x11⟩) hHeld ?nx12x11
    case hy12x11 => (intro w hSw; (try dsimp only at hSw); go_simp; try with_reducible rfl)
    try simp only [Act.put, List.setIfInBounds_toArray, List.set_cons_zero, List.set_cons_succ]
    refine wpAnyH_take (i := 13) (oi := { dst := some 27, op := Op.pick (Operand.tmp 19) (Operand.const (Value.bool true)) (Operand.tmp 26), type := 4, pos := "law.go:22", after := #[{ on := 5, ground := Ground.data }, { on := 12, ground := Ground.data }], guard := none }) (v := ?v13x12) rfl (by kernel_rfl) (by kernel_rfl) (by kernel_rfl) (fun _ _ _ h => h) (Or.inl ⟨by rfl, ?hy13x12⟩) hHeld ?nx13x12
    case hy13x12 => (intro w hSw; (try dsimp only at hSw); go_simp; try with_reducible rfl)
    try simp only [Act.put, List.setIfInBounds_toArray, List.set_cons_zero, List.set_cons_succ]
    refine wpAnyH_take (i := 14) (oi := { dst := some 28, op := Op.move (Operand.tmp 27), type := 4, pos := "law.go:22", after := #[{ on := 13, ground := Ground.data }, { on := 11, ground := Ground.chain }], guard := none }) (v := ?v14x13) rfl (by kernel_rfl) (by kernel_rfl) (by kernel_rfl) (fun _ _ _ h => h) (Or.inl ⟨by rfl, ?hy14x13⟩) hHeld ?nx14x13
    case hy14x13 => (intro w hSw; (try dsimp only at hSw); go_simp; try with_reducible rfl)
    try simp only [Act.put, List.setIfInBounds_toArray, List.set_cons_zero, List.set_cons_succ]
    refine wpAnyH_take (i := 15) (oi := { dst := some 29, op := Op.load 40 (Operand.tmp 3), type := 40, pos := "law.go:22", after := #[{ on := 14, ground := Ground.guard }], guard := some (14, false) }) (v := ?v15x14) rfl (by kernel_rfl) (by kernel_rfl) (by kernel_rfl) (fun _ _ _ h => h) (Or.inl ⟨by rfl, ?hy15x14⟩) hHeld ?nx15x14
    case hy15x14 => (intro w hSw; (try dsimp only at hSw); go_simp; try with_reducible rfl)
    try simp only [Act.put, List.setIfInBounds_toArray, List.set_cons_zero, List.set_cons_succ]
    refine wpAnyH_take (i := 16) (oi := { dst := some 30, op := Op.load 40 (Operand.tmp 4), type := 40, pos := "law.go:22", after := #[{ on := 14, ground := Ground.guard }], guard := some (14, false) }) (v := ?v16x15) rfl (by kernel_rfl) (by kernel_rfl) (by kernel_rfl) (fun _ _ _ h => h) (Or.inl ⟨by rfl, ?hy16x15⟩) hHeld ?nx16x15
    case hy16x15 => (intro w hSw; (try dsimp only at hSw); go_simp; try with_reducible rfl)
    try simp only [Act.put, List.setIfInBounds_toArray, List.set_cons_zero, List.set_cons_succ]
    refine wpAnyH_take (i := 18) (oi := { dst := some 32, op := Op.load 40 (Operand.tmp 3), type := 40, pos := "law.go:22", after := #[{ on := 14, ground := Ground.guard }], guard := some (14, false) }) (v := ?v18x16) rfl (by kernel_rfl) (by kernel_rfl) (by kernel_rfl) (fun _ _ _ h => h) (Or.inl ⟨by rfl, ?hy18x16⟩) hHeld ?nx18x16
    case hy18x16 => (intro w hSw; (try dsimp only at hSw); go_simp; try with_reducible rfl)
    try simp only [Act.put, List.setIfInBounds_toArray, List.set_cons_zero, List.set_cons_succ]
    refine wpAnyH_take (i := 19) (oi := { dst := some 33, op := Op.load 40 (Operand.tmp 4), type := 40, pos := "law.go:22", after := #[{ on := 14, ground := Ground.guard }], guard := some (14, false) }) (v := ?v19x17) rfl (by kernel_rfl) (by kernel_rfl) (by kernel_rfl) (fun _ _ _ h => h) (Or.inl ⟨by rfl, ?hy19x17⟩) hHeld ?nx19x17
    case hy19x17 => (intro w hSw; (try dsimp only at hSw); go_simp; try with_reducible rfl)
    try simp only [Act.put, List.setIfInBounds_toArray, List.set_cons_zero, List.set_cons_succ]
    refine wpAnyH_ready (rs := [17]) (by kernel_rfl) (by simp) ?_
    refine (AllReadyH.cons (o := { dst := some 31, op := Op.call { callee := Callee.value (Operand.func 23), args := #[Operand.tmp 29, Operand.tmp 30], argTypes := #[40, 40] }, type := 4, pos := "law.go:22", after := #[{ on := 15, ground := Ground.data }, { on := 16, ground := Ground.data }, { on := 14, ground := Ground.chain }, { on := 14, ground := Ground.guard }], guard := some (14, false) }) rfl (fun K hK => ?_) AllReadyH.nil)
    go_simp
    go_at_call 23
    refine (at_prog HP.out (O1.out _)).mono ?_
    rintro e xx359 ⟨rfl, hx360⟩
    have gg361 := gg358.trans hx360
    have hS := HSA.out _ gg361
    clear hx360
    refine hK.out _ _ hS (fun hH2 => ?_)
    clear hK K hHeld
    have hHeld := hH2
    clear hH2 hS
    try simp only [Act.put, List.setIfInBounds_toArray, List.set_cons_zero, List.set_cons_succ]
    refine wpAnyH_ready (rs := [20]) (by kernel_rfl) (by simp) ?_
    refine (AllReadyH.cons (o := { dst := some 34, op := Op.call { callee := Callee.value (Operand.func 24), args := #[Operand.tmp 32, Operand.tmp 33], argTypes := #[40, 40] }, type := 4, pos := "law.go:22", after := #[{ on := 18, ground := Ground.data }, { on := 19, ground := Ground.data }, { on := 17, ground := Ground.chain }, { on := 14, ground := Ground.guard }], guard := some (14, false) }) rfl (fun K hK => ?_) AllReadyH.nil)
    go_simp
    go_at_call 24
    refine (at_prog HP.out (O2.out _)).mono ?_
    rintro e xx362 ⟨rfl, hx363⟩
    have gg364 := gg361.trans hx363
    have hS := HSA.out _ gg364
    clear hx363
    refine hK.out _ _ hS (fun hH2 => ?_)
    clear hK K hHeld
    have hHeld := hH2
    clear hH2 hS
    try simp only [Act.put, List.setIfInBounds_toArray, List.set_cons_zero, List.set_cons_succ]
    refine wpAnyH_take (i := 21) (oi := { dst := some 35, op := Op.binOp BinOp.neq 4 (Operand.tmp 31) (Operand.tmp 34) 4, type := 4, pos := "law.go:22", after := #[{ on := 17, ground := Ground.data }, { on := 20, ground := Ground.data }, { on := 14, ground := Ground.guard }], guard := some (14, false) }) (v := ?v21x18) rfl (by kernel_rfl) (by kernel_rfl) (by kernel_rfl) (fun _ _ _ h => h) (Or.inl ⟨by rfl, ?hy21x18⟩) hHeld ?nx21x18
    case hy21x18 => (intro w hSw; (try dsimp only at hSw); go_simp; try with_reducible rfl)
    try simp only [Act.put, List.setIfInBounds_toArray, List.set_cons_zero, List.set_cons_succ]
    refine wpAnyH_take (i := 22) (oi := { dst := some 36, op := Op.pick (Operand.tmp 28) (Operand.const (Value.bool true)) (Operand.tmp 35), type := 4, pos := "law.go:22", after := #[{ on := 14, ground := Ground.data }, { on := 21, ground := Ground.data }], guard := none }) (v := ?v22x19) rfl (by kernel_rfl) (by kernel_rfl) (by kernel_rfl) (fun _ _ _ h => h) (Or.inl ⟨by rfl, ?hy22x19⟩) hHeld ?nx22x19
    case hy22x19 => (intro w hSw; (try dsimp only at hSw); go_simp; try with_reducible rfl)
    try simp only [Act.put, List.setIfInBounds_toArray, List.set_cons_zero, List.set_cons_succ]
    refine wpAnyH_take (i := 23) (oi := { dst := some 37, op := Op.move (Operand.tmp 36), type := 4, pos := "law.go:22", after := #[{ on := 22, ground := Ground.data }, { on := 20, ground := Ground.chain }], guard := none }) (v := ?v23x20) rfl (by kernel_rfl) (by kernel_rfl) (by kernel_rfl) (fun _ _ _ h => h) (Or.inl ⟨by rfl, ?hy23x20⟩) hHeld ?nx23x20
    case hy23x20 => (intro w hSw; (try dsimp only at hSw); go_simp; try with_reducible rfl)
    try simp only [Act.put, List.setIfInBounds_toArray, List.set_cons_zero, List.set_cons_succ]
    refine wpAnyH_take (i := 24) (oi := { dst := some 38, op := Op.load 40 (Operand.tmp 3), type := 40, pos := "law.go:22", after := #[{ on := 23, ground := Ground.guard }], guard := some (23, false) }) (v := ?v24x21) rfl (by kernel_rfl) (by kernel_rfl) (by kernel_rfl) (fun _ _ _ h => h) (Or.inl ⟨by rfl, ?hy24x21⟩) hHeld ?nx24x21
    case hy24x21 => (intro w hSw; (try dsimp only at hSw); go_simp; try with_reducible rfl)
    try simp only [Act.put, List.setIfInBounds_toArray, List.set_cons_zero, List.set_cons_succ]
    refine wpAnyH_take (i := 25) (oi := { dst := some 39, op := Op.load 40 (Operand.tmp 4), type := 40, pos := "law.go:22", after := #[{ on := 23, ground := Ground.guard }], guard := some (23, false) }) (v := ?v25x22) rfl (by kernel_rfl) (by kernel_rfl) (by kernel_rfl) (fun _ _ _ h => h) (Or.inl ⟨by rfl, ?hy25x22⟩) hHeld ?nx25x22
    case hy25x22 => (intro w hSw; (try dsimp only at hSw); go_simp; try with_reducible rfl)
    try simp only [Act.put, List.setIfInBounds_toArray, List.set_cons_zero, List.set_cons_succ]
    refine wpAnyH_take (i := 27) (oi := { dst := some 41, op := Op.load 40 (Operand.tmp 3), type := 40, pos := "law.go:22", after := #[{ on := 23, ground := Ground.guard }], guard := some (23, false) }) (v := ?v27x23) rfl (by kernel_rfl) (by kernel_rfl) (by kernel_rfl) (fun _ _ _ h => h) (Or.inl ⟨by rfl, ?hy27x23⟩) hHeld ?nx27x23
    case hy27x23 => (intro w hSw; (try dsimp only at hSw); go_simp; try with_reducible rfl)
    try simp only [Act.put, List.setIfInBounds_toArray, List.set_cons_zero, List.set_cons_succ]
    refine wpAnyH_take (i := 28) (oi := { dst := some 42, op := Op.load 40 (Operand.tmp 4), type := 40, pos := "law.go:22", after := #[{ on := 23, ground := Ground.guard }], guard := some (23, false) }) (v := ?v28x24) rfl (by kernel_rfl) (by kernel_rfl) (by kernel_rfl) (fun _ _ _ h => h) (Or.inl ⟨by rfl, ?hy28x24⟩) hHeld ?nx28x24
    case hy28x24 => (intro w hSw; (try dsimp only at hSw); go_simp; try with_reducible rfl)
    try simp only [Act.put, List.setIfInBounds_toArray, List.set_cons_zero, List.set_cons_succ]
    refine wpAnyH_ready (rs := [26]) (by kernel_rfl) (by simp) ?_
    refine (AllReadyH.cons (o := { dst := some 40, op := Op.call { callee := Callee.value (Operand.func 25), args := #[Operand.tmp 38, Operand.tmp 39], argTypes := #[40, 40] }, type := 3, pos := "law.go:22", after := #[{ on := 24, ground := Ground.data }, { on := 25, ground := Ground.data }, { on := 23, ground := Ground.chain }, { on := 23, ground := Ground.guard }], guard := some (23, false) }) rfl (fun K hK => ?_) AllReadyH.nil)
    go_simp
    go_at_call 25
    refine (at_prog HP.out (M1.out _)).mono ?_
    rintro e xx365 ⟨rfl, hx366⟩
    have gg367 := gg364.trans hx366
    have hS := HSA.out _ gg367
    clear hx366
    refine hK.out _ _ hS (fun hH2 => ?_)
    clear hK K hHeld
    have hHeld := hH2
    clear hH2 hS
    try simp only [Act.put, List.setIfInBounds_toArray, List.set_cons_zero, List.set_cons_succ]
    refine wpAnyH_ready (rs := [29]) (by kernel_rfl) (by simp) ?_
    refine (AllReadyH.cons (o := { dst := some 43, op := Op.call { callee := Callee.value (Operand.func 26), args := #[Operand.tmp 41, Operand.tmp 42], argTypes := #[40, 40] }, type := 3, pos := "law.go:22", after := #[{ on := 27, ground := Ground.data }, { on := 28, ground := Ground.data }, { on := 26, ground := Ground.chain }, { on := 23, ground := Ground.guard }], guard := some (23, false) }) rfl (fun K hK => ?_) AllReadyH.nil)
    go_simp
    go_at_call 26
    refine (at_prog HP.out (M2.out _)).mono ?_
    rintro e xx368 ⟨rfl, hx369⟩
    have gg370 := gg367.trans hx369
    have hS := HSA.out _ gg370
    clear hx369
    refine hK.out _ _ hS (fun hH2 => ?_)
    clear hK K hHeld
    have hHeld := hH2
    clear hH2 hS
    try simp only [Act.put, List.setIfInBounds_toArray, List.set_cons_zero, List.set_cons_succ]
    refine wpAnyH_take (i := 30) (oi := { dst := some 44, op := Op.binOp BinOp.neq 3 (Operand.tmp 40) (Operand.tmp 43) 3, type := 4, pos := "law.go:22", after := #[{ on := 26, ground := Ground.data }, { on := 29, ground := Ground.data }, { on := 23, ground := Ground.guard }], guard := some (23, false) }) (v := ?v30x25) rfl (by kernel_rfl) (by kernel_rfl) (by kernel_rfl) (fun _ _ _ h => h) (Or.inl ⟨by rfl, ?hy30x25⟩) hHeld ?nx30x25
    case hy30x25 => (intro w hSw; (try dsimp only at hSw); go_simp; try with_reducible rfl)
    try simp only [Act.put, List.setIfInBounds_toArray, List.set_cons_zero, List.set_cons_succ]
    refine wpAnyH_take (i := 31) (oi := { dst := some 45, op := Op.pick (Operand.tmp 37) (Operand.const (Value.bool true)) (Operand.tmp 44), type := 4, pos := "law.go:22", after := #[{ on := 23, ground := Ground.data }, { on := 30, ground := Ground.data }], guard := none }) (v := ?v31x26) rfl (by kernel_rfl) (by kernel_rfl) (by kernel_rfl) (fun _ _ _ h => h) (Or.inl ⟨by rfl, ?hy31x26⟩) hHeld ?nx31x26
    case hy31x26 => (intro w hSw; (try dsimp only at hSw); go_simp; try with_reducible rfl)
    try simp only [Act.put, List.setIfInBounds_toArray, List.set_cons_zero, List.set_cons_succ]
    refine wpAnyH_done (by kernel_rfl) ?_ _
    refine NoPanic.normal ?_
    have HG2 := Lib.hid gg370
    obtain ⟨-, -, la⟩ := hHeld
    go_wp2_with (first | (go_at_call 27; refine (at_prog HP.out (G3.out _)).mono ?_; rintro e w5 ⟨d', z', hzb, rfl, hf5⟩; have hBs : (adr d' z').toArray.size = k30 := (by rw [HK30.out]; exact adr_size hzb); have hB1 := adr_ones d' z'; have C3 := Lib.hid (D1.out d' z' hzb); have C4 := Lib.hid (D2.out d' z' hzb); clear hzb; generalize CT d' z' = ct2 at C3 C4; generalize (adr d' z').toArray = B at C3 C4 hBs hB1 ⊢; have e7 : (ct2 == ct2) = true := (by simp); obtain ⟨y5, hst5, hyb5, hyf5⟩ := store_all (P := PD) B.toList (heap_alloc_new w5 (.cells Y 30)) (by rw [Array.length_toList, hBs, hYk]) hB1) | fail)
    obtain ⟨nd, hnd⟩ : ∃ nd, w5.heap.size = nd := ⟨_, rfl⟩
    rw [hnd] at hyb5 ⊢
    have HE : Hid (Fr No wc y5 ∧ y5.heap[nd]? = some (.cells B 30 (0, 0))) := by
      have g := (HG2.out.trans hf5).trans (Fr.alloc No w5 (.cells Y 30))
      exact ⟨g.ofNew hyf5 fun k hk => .inr (by rw [hk]; exact (HG2.out.trans hf5).size), by simpa using hyb5⟩
    clear hyb5 hyf5 hf5 hst5 hnd la
    have HSB : Hid (∀ w', Fr No y5 w' → Sem.run PD (loadCellsFrom ⟨b7, 0, none⟩ 0 k40 #[]) w' = .ok R1 w' ∧ Sem.run PD (loadCellsFrom ⟨b8, 0, none⟩ 0 k40 #[]) w' = .ok R2 w' ∧ Sem.run PD (loadCellsFrom ⟨nd, 0, none⟩ 0 k30 #[]) w' = .ok B w') := fun w' hf => ⟨load_block ((HE.out.1.trans hf).keep HD.out.2.1) hR1 (fun j v hv => by simpa using hv), load_block ((HE.out.1.trans hf).keep HD.out.2.2) hR2 (fun j v hv => by simpa using hv), load_block (hf.keep HE.out.2) hBs (fun j v hv => by simpa using hv)⟩
    have h5 : Fr No y5 y5.drew := Fr.drew No _
    have hS5 := HSB.out _ h5
    refine wp_region_noPanic ?_
    refine wp_region_held_drew (S := (fun w' : World => Sem.run PD (loadCellsFrom ⟨b7, 0, none⟩ 0 k40 #[]) w' = .ok R1 w' ∧ Sem.run PD (loadCellsFrom ⟨b8, 0, none⟩ 0 k40 #[]) w' = .ok R2 w' ∧ Sem.run PD (loadCellsFrom ⟨nd, 0, none⟩ 0 k30 #[]) w' = .ok B w')) (by kernel_rfl) hS5 (fun hHeld => ?_)
    clear hS5
    refine wpAnyH_ready (rs := [0]) (by kernel_rfl) (by simp) ?_
    refine (AllReadyH.cons (o := { dst := some 48, op := Op.call { callee := Callee.value (Operand.func 28), args := #[], argTypes := #[] }, type := 4, pos := "law.go:26", after := #[], guard := none }) rfl (fun K hK => ?_) AllReadyH.nil)
    go_simp
    go_at_call 28
    refine (at_prog HP.out (cawake_any _ (HB.out.2.2.2.2.fr (((HB.out.2.2.2.1.trans HD.out.1).trans HE.out.1).trans h5)))).mono ?_
    rintro e xx371 ⟨rfl, hx372⟩
    have gg373 := h5.trans hx372
    have hS := HSB.out _ gg373
    clear hx372
    refine hK.out _ _ hS (fun hH2 => ?_)
    clear hK K hHeld
    have hHeld := hH2
    clear hH2 hS
    try simp only [Act.put, List.setIfInBounds_toArray, List.set_cons_zero, List.set_cons_succ]
    refine wpAnyH_take (i := 1) (oi := { dst := some 49, op := Op.move (Operand.tmp 48), type := 4, pos := "law.go:26", after := #[{ on := 0, ground := Ground.data }, { on := 0, ground := Ground.chain }], guard := none }) (v := ?v1x27) rfl (by kernel_rfl) (by kernel_rfl) (by kernel_rfl) (fun _ _ _ h => h) (Or.inl ⟨by rfl, ?hy1x27⟩) hHeld ?nx1x27
    case hy1x27 => (intro w hSw; (try dsimp only at hSw); go_simp; try with_reducible rfl)
    try simp only [Act.put, List.setIfInBounds_toArray, List.set_cons_zero, List.set_cons_succ]
    refine wpAnyH_take (i := 2) (oi := { dst := some 50, op := Op.load 40 (Operand.tmp 7), type := 40, pos := "law.go:26", after := #[{ on := 1, ground := Ground.guard }], guard := some (1, true) }) (v := ?v2x28) rfl (by kernel_rfl) (by kernel_rfl) (by kernel_rfl) (fun _ _ _ h => h) (Or.inl ⟨by rfl, ?hy2x28⟩) hHeld ?nx2x28
    case hy2x28 => (intro w hSw; (try dsimp only at hSw); go_simp; try with_reducible rfl)
    try simp only [Act.put, List.setIfInBounds_toArray, List.set_cons_zero, List.set_cons_succ]
    refine wpAnyH_ready (rs := [3]) (by kernel_rfl) (by simp) ?_
    refine (AllReadyH.cons (o := { dst := some 51, op := Op.call { callee := Callee.value (Operand.func 19), args := #[Operand.tmp 50], argTypes := #[40] }, type := 4, pos := "law.go:26", after := #[{ on := 2, ground := Ground.data }, { on := 1, ground := Ground.chain }, { on := 1, ground := Ground.guard }], guard := some (1, true) }) rfl (fun K hK => ?_) AllReadyH.nil)
    go_simp
    go_at_call 19
    refine (at_prog HP.out (V3.out _)).mono ?_
    rintro e xx374 ⟨rfl, hx375⟩
    have gg376 := gg373.trans hx375
    have hS := HSB.out _ gg376
    clear hx375
    refine hK.out _ _ hS (fun hH2 => ?_)
    clear hK K hHeld
    have hHeld := hH2
    clear hH2 hS
    try simp only [Act.put, List.setIfInBounds_toArray, List.set_cons_zero, List.set_cons_succ]
    refine wpAnyH_take (i := 4) (oi := { dst := some 52, op := Op.pick (Operand.tmp 49) (Operand.tmp 51) (Operand.const (Value.bool false)), type := 4, pos := "law.go:26", after := #[{ on := 1, ground := Ground.data }, { on := 3, ground := Ground.data }], guard := none }) (v := ?v4x29) rfl (by kernel_rfl) (by kernel_rfl) (by kernel_rfl) (fun _ _ _ h => h) (Or.inl ⟨by rfl, ?hy4x29⟩) hHeld ?nx4x29
    case hy4x29 => (intro w hSw; (try dsimp only at hSw); go_simp; try with_reducible rfl)
    try simp only [Act.put, List.setIfInBounds_toArray, List.set_cons_zero, List.set_cons_succ]
    refine wpAnyH_take (i := 5) (oi := { dst := some 53, op := Op.move (Operand.tmp 52), type := 4, pos := "law.go:26", after := #[{ on := 4, ground := Ground.data }, { on := 3, ground := Ground.chain }], guard := none }) (v := ?v5x30) rfl (by kernel_rfl) (by kernel_rfl) (by kernel_rfl) (fun _ _ _ h => h) (Or.inl ⟨by rfl, ?hy5x30⟩) hHeld ?nx5x30
    case hy5x30 => (intro w hSw; (try dsimp only at hSw); go_simp; try with_reducible rfl)
    try simp only [Act.put, List.setIfInBounds_toArray, List.set_cons_zero, List.set_cons_succ]
    refine wpAnyH_take (i := 6) (oi := { dst := some 54, op := Op.load 40 (Operand.tmp 7), type := 40, pos := "law.go:26", after := #[{ on := 5, ground := Ground.guard }], guard := some (5, true) }) (v := ?v6x31) rfl (by kernel_rfl) (by kernel_rfl) (by kernel_rfl) (fun _ _ _ h => h) (Or.inl ⟨by rfl, ?hy6x31⟩) hHeld ?nx6x31
    case hy6x31 => (intro w hSw; (try dsimp only at hSw); go_simp; try with_reducible rfl)
    try simp only [Act.put, List.setIfInBounds_toArray, List.set_cons_zero, List.set_cons_succ]
    refine wpAnyH_take (i := 7) (oi := { dst := some 55, op := Op.load 30 (Operand.tmp 9), type := 30, pos := "law.go:26", after := #[{ on := 5, ground := Ground.guard }], guard := some (5, true) }) (v := ?v7x32) rfl (by kernel_rfl) (by kernel_rfl) (by kernel_rfl) (fun _ _ _ h => h) (Or.inl ⟨by rfl, ?hy7x32⟩) hHeld ?nx7x32
    case hy7x32 => (intro w hSw; (try dsimp only at hSw); go_simp; try with_reducible rfl)
    try simp only [Act.put, List.setIfInBounds_toArray, List.set_cons_zero, List.set_cons_succ]
    refine wpAnyH_take (i := 9) (oi := { dst := some 57, op := Op.load 40 (Operand.tmp 7), type := 40, pos := "law.go:26", after := #[{ on := 5, ground := Ground.guard }], guard := some (5, true) }) (v := ?v9x33) rfl (by kernel_rfl) (by kernel_rfl) (by kernel_rfl) (fun _ _ _ h => h) (Or.inl ⟨by rfl, ?hy9x33⟩) hHeld ?nx9x33
    case hy9x33 => (intro w hSw; (try dsimp only at hSw); go_simp; try with_reducible rfl)
    try simp only [Act.put, List.setIfInBounds_toArray, List.set_cons_zero, List.set_cons_succ]
    refine wpAnyH_take (i := 10) (oi := { dst := some 58, op := Op.load 30 (Operand.tmp 9), type := 30, pos := "law.go:26", after := #[{ on := 5, ground := Ground.guard }], guard := some (5, true) }) (v := ?v10x34) rfl (by kernel_rfl) (by kernel_rfl) (by kernel_rfl) (fun _ _ _ h => h) (Or.inl ⟨by rfl, ?hy10x34⟩) hHeld ?nx10x34
    case hy10x34 => (intro w hSw; (try dsimp only at hSw); go_simp; try with_reducible rfl)
    try simp only [Act.put, List.setIfInBounds_toArray, List.set_cons_zero, List.set_cons_succ]
    refine wpAnyH_ready (rs := [8]) (by kernel_rfl) (by simp) ?_
    refine (AllReadyH.cons (o := { dst := some 56, op := Op.call { callee := Callee.value (Operand.func 21), args := #[Operand.tmp 54, Operand.tmp 55], argTypes := #[40, 30] }, type := 4, pos := "law.go:26", after := #[{ on := 6, ground := Ground.data }, { on := 7, ground := Ground.data }, { on := 5, ground := Ground.chain }, { on := 5, ground := Ground.guard }], guard := some (5, true) }) rfl (fun K hK => ?_) AllReadyH.nil)
    go_simp
    go_at_call 21
    refine (at_prog HP.out (C3.out _)).mono ?_
    rintro e xx377 ⟨rfl, hx378⟩
    have gg379 := gg376.trans hx378
    have hS := HSB.out _ gg379
    clear hx378
    refine hK.out _ _ hS (fun hH2 => ?_)
    clear hK K hHeld
    have hHeld := hH2
    clear hH2 hS
    try simp only [Act.put, List.setIfInBounds_toArray, List.set_cons_zero, List.set_cons_succ]
    refine wpAnyH_ready (rs := [11]) (by kernel_rfl) (by simp) ?_
    refine (AllReadyH.cons (o := { dst := some 59, op := Op.call { callee := Callee.value (Operand.func 22), args := #[Operand.tmp 57, Operand.tmp 58], argTypes := #[40, 30] }, type := 4, pos := "law.go:26", after := #[{ on := 9, ground := Ground.data }, { on := 10, ground := Ground.data }, { on := 8, ground := Ground.chain }, { on := 5, ground := Ground.guard }], guard := some (5, true) }) rfl (fun K hK => ?_) AllReadyH.nil)
    go_simp
    go_at_call 22
    refine (at_prog HP.out (C4.out _)).mono ?_
    rintro e xx380 ⟨rfl, hx381⟩
    have gg382 := gg379.trans hx381
    have hS := HSB.out _ gg382
    clear hx381
    refine hK.out _ _ hS (fun hH2 => ?_)
    clear hK K hHeld
    have hHeld := hH2
    clear hH2 hS
    try simp only [Act.put, List.setIfInBounds_toArray, List.set_cons_zero, List.set_cons_succ]
    refine wpAnyH_take (i := 12) (oi := { dst := some 60, op := Op.binOp BinOp.eql 4 (Operand.tmp 56) (Operand.tmp 59) 4, type := 4, pos := "law.go:26", after := #[{ on := 8, ground := Ground.data }, { on := 11, ground := Ground.data }, { on := 5, ground := Ground.guard }], guard := some (5, true) }) (v := ?v12x35) rfl (by kernel_rfl) (by kernel_rfl) (by kernel_rfl) (fun _ _ _ h => h) (Or.inl ⟨by rfl, ?hy12x35⟩) hHeld ?nx12x35
    case hy12x35 => (intro w hSw; (try dsimp only at hSw); go_simp; try with_reducible rfl)
    try simp only [Act.put, List.setIfInBounds_toArray, List.set_cons_zero, List.set_cons_succ]
    refine wpAnyH_take (i := 13) (oi := { dst := some 61, op := Op.pick (Operand.tmp 53) (Operand.tmp 60) (Operand.const (Value.bool false)), type := 4, pos := "law.go:26", after := #[{ on := 5, ground := Ground.data }, { on := 12, ground := Ground.data }], guard := none }) (v := ?v13x36) rfl (by kernel_rfl) (by kernel_rfl) (by kernel_rfl) (fun _ _ _ h => h) (Or.inl ⟨by rfl, ?hy13x36⟩) hHeld ?nx13x36
    case hy13x36 => (intro w hSw; (try dsimp only at hSw); go_simp; try with_reducible rfl)
    try simp only [Act.put, List.setIfInBounds_toArray, List.set_cons_zero, List.set_cons_succ]
    refine wpAnyH_take (i := 14) (oi := { dst := some 62, op := Op.move (Operand.tmp 61), type := 4, pos := "law.go:26", after := #[{ on := 13, ground := Ground.data }, { on := 11, ground := Ground.chain }], guard := none }) (v := ?v14x37) rfl (by kernel_rfl) (by kernel_rfl) (by kernel_rfl) (fun _ _ _ h => h) (Or.inl ⟨by rfl, ?hy14x37⟩) hHeld ?nx14x37
    case hy14x37 => (intro w hSw; (try dsimp only at hSw); go_simp; try with_reducible rfl)
    try simp only [Act.put, List.setIfInBounds_toArray, List.set_cons_zero, List.set_cons_succ]
    refine wpAnyH_take (i := 15) (oi := { dst := some 63, op := Op.load 40 (Operand.tmp 7), type := 40, pos := "law.go:26", after := #[{ on := 14, ground := Ground.guard }], guard := some (14, true) }) (v := ?v15x38) rfl (by kernel_rfl) (by kernel_rfl) (by kernel_rfl) (fun _ _ _ h => h) (Or.inl ⟨by rfl, ?hy15x38⟩) hHeld ?nx15x38
    case hy15x38 => (intro w hSw; (try dsimp only at hSw); go_simp; try with_reducible rfl)
    try simp only [Act.put, List.setIfInBounds_toArray, List.set_cons_zero, List.set_cons_succ]
    refine wpAnyH_take (i := 16) (oi := { dst := some 64, op := Op.load 40 (Operand.tmp 8), type := 40, pos := "law.go:26", after := #[{ on := 14, ground := Ground.guard }], guard := some (14, true) }) (v := ?v16x39) rfl (by kernel_rfl) (by kernel_rfl) (by kernel_rfl) (fun _ _ _ h => h) (Or.inl ⟨by rfl, ?hy16x39⟩) hHeld ?nx16x39
    case hy16x39 => (intro w hSw; (try dsimp only at hSw); go_simp; try with_reducible rfl)
    try simp only [Act.put, List.setIfInBounds_toArray, List.set_cons_zero, List.set_cons_succ]
    refine wpAnyH_take (i := 18) (oi := { dst := some 66, op := Op.load 40 (Operand.tmp 7), type := 40, pos := "law.go:26", after := #[{ on := 14, ground := Ground.guard }], guard := some (14, true) }) (v := ?v18x40) rfl (by kernel_rfl) (by kernel_rfl) (by kernel_rfl) (fun _ _ _ h => h) (Or.inl ⟨by rfl, ?hy18x40⟩) hHeld ?nx18x40
    case hy18x40 => (intro w hSw; (try dsimp only at hSw); go_simp; try with_reducible rfl)
    try simp only [Act.put, List.setIfInBounds_toArray, List.set_cons_zero, List.set_cons_succ]
    refine wpAnyH_take (i := 19) (oi := { dst := some 67, op := Op.load 40 (Operand.tmp 8), type := 40, pos := "law.go:26", after := #[{ on := 14, ground := Ground.guard }], guard := some (14, true) }) (v := ?v19x41) rfl (by kernel_rfl) (by kernel_rfl) (by kernel_rfl) (fun _ _ _ h => h) (Or.inl ⟨by rfl, ?hy19x41⟩) hHeld ?nx19x41
    case hy19x41 => (intro w hSw; (try dsimp only at hSw); go_simp; try with_reducible rfl)
    try simp only [Act.put, List.setIfInBounds_toArray, List.set_cons_zero, List.set_cons_succ]
    refine wpAnyH_ready (rs := [17]) (by kernel_rfl) (by simp) ?_
    refine (AllReadyH.cons (o := { dst := some 65, op := Op.call { callee := Callee.value (Operand.func 23), args := #[Operand.tmp 63, Operand.tmp 64], argTypes := #[40, 40] }, type := 4, pos := "law.go:26", after := #[{ on := 15, ground := Ground.data }, { on := 16, ground := Ground.data }, { on := 14, ground := Ground.chain }, { on := 14, ground := Ground.guard }], guard := some (14, true) }) rfl (fun K hK => ?_) AllReadyH.nil)
    go_simp
    go_at_call 23
    refine (at_prog HP.out (O3.out _)).mono ?_
    rintro e xx383 ⟨rfl, hx384⟩
    have gg385 := gg382.trans hx384
    have hS := HSB.out _ gg385
    clear hx384
    refine hK.out _ _ hS (fun hH2 => ?_)
    clear hK K hHeld
    have hHeld := hH2
    clear hH2 hS
    try simp only [Act.put, List.setIfInBounds_toArray, List.set_cons_zero, List.set_cons_succ]
    refine wpAnyH_ready (rs := [20]) (by kernel_rfl) (by simp) ?_
    refine (AllReadyH.cons (o := { dst := some 68, op := Op.call { callee := Callee.value (Operand.func 24), args := #[Operand.tmp 66, Operand.tmp 67], argTypes := #[40, 40] }, type := 4, pos := "law.go:26", after := #[{ on := 18, ground := Ground.data }, { on := 19, ground := Ground.data }, { on := 17, ground := Ground.chain }, { on := 14, ground := Ground.guard }], guard := some (14, true) }) rfl (fun K hK => ?_) AllReadyH.nil)
    go_simp
    go_at_call 24
    refine (at_prog HP.out (O4.out _)).mono ?_
    rintro e xx386 ⟨rfl, hx387⟩
    have gg388 := gg385.trans hx387
    have hS := HSB.out _ gg388
    clear hx387
    refine hK.out _ _ hS (fun hH2 => ?_)
    clear hK K hHeld
    have hHeld := hH2
    clear hH2 hS
    try simp only [Act.put, List.setIfInBounds_toArray, List.set_cons_zero, List.set_cons_succ]
    refine wpAnyH_take (i := 21) (oi := { dst := some 69, op := Op.binOp BinOp.eql 4 (Operand.tmp 65) (Operand.tmp 68) 4, type := 4, pos := "law.go:26", after := #[{ on := 17, ground := Ground.data }, { on := 20, ground := Ground.data }, { on := 14, ground := Ground.guard }], guard := some (14, true) }) (v := ?v21x42) rfl (by kernel_rfl) (by kernel_rfl) (by kernel_rfl) (fun _ _ _ h => h) (Or.inl ⟨by rfl, ?hy21x42⟩) hHeld ?nx21x42
    case hy21x42 => (intro w hSw; (try dsimp only at hSw); go_simp; try with_reducible rfl)
    try simp only [Act.put, List.setIfInBounds_toArray, List.set_cons_zero, List.set_cons_succ]
    refine wpAnyH_take (i := 22) (oi := { dst := some 70, op := Op.pick (Operand.tmp 62) (Operand.tmp 69) (Operand.const (Value.bool false)), type := 4, pos := "law.go:26", after := #[{ on := 14, ground := Ground.data }, { on := 21, ground := Ground.data }], guard := none }) (v := ?v22x43) rfl (by kernel_rfl) (by kernel_rfl) (by kernel_rfl) (fun _ _ _ h => h) (Or.inl ⟨by rfl, ?hy22x43⟩) hHeld ?nx22x43
    case hy22x43 => (intro w hSw; (try dsimp only at hSw); go_simp; try with_reducible rfl)
    try simp only [Act.put, List.setIfInBounds_toArray, List.set_cons_zero, List.set_cons_succ]
    refine wpAnyH_take (i := 23) (oi := { dst := some 71, op := Op.move (Operand.tmp 70), type := 4, pos := "law.go:26", after := #[{ on := 22, ground := Ground.data }, { on := 20, ground := Ground.chain }], guard := none }) (v := ?v23x44) rfl (by kernel_rfl) (by kernel_rfl) (by kernel_rfl) (fun _ _ _ h => h) (Or.inl ⟨by rfl, ?hy23x44⟩) hHeld ?nx23x44
    case hy23x44 => (intro w hSw; (try dsimp only at hSw); go_simp; try with_reducible rfl)
    try simp only [Act.put, List.setIfInBounds_toArray, List.set_cons_zero, List.set_cons_succ]
    refine wpAnyH_take (i := 24) (oi := { dst := some 72, op := Op.load 40 (Operand.tmp 7), type := 40, pos := "law.go:26", after := #[{ on := 23, ground := Ground.guard }], guard := some (23, true) }) (v := ?v24x45) rfl (by kernel_rfl) (by kernel_rfl) (by kernel_rfl) (fun _ _ _ h => h) (Or.inl ⟨by rfl, ?hy24x45⟩) hHeld ?nx24x45
    case hy24x45 => (intro w hSw; (try dsimp only at hSw); go_simp; try with_reducible rfl)
    try simp only [Act.put, List.setIfInBounds_toArray, List.set_cons_zero, List.set_cons_succ]
    refine wpAnyH_take (i := 25) (oi := { dst := some 73, op := Op.load 40 (Operand.tmp 8), type := 40, pos := "law.go:26", after := #[{ on := 23, ground := Ground.guard }], guard := some (23, true) }) (v := ?v25x46) rfl (by kernel_rfl) (by kernel_rfl) (by kernel_rfl) (fun _ _ _ h => h) (Or.inl ⟨by rfl, ?hy25x46⟩) hHeld ?nx25x46
    case hy25x46 => (intro w hSw; (try dsimp only at hSw); go_simp; try with_reducible rfl)
    try simp only [Act.put, List.setIfInBounds_toArray, List.set_cons_zero, List.set_cons_succ]
    refine wpAnyH_take (i := 27) (oi := { dst := some 75, op := Op.load 40 (Operand.tmp 7), type := 40, pos := "law.go:26", after := #[{ on := 23, ground := Ground.guard }], guard := some (23, true) }) (v := ?v27x47) rfl (by kernel_rfl) (by kernel_rfl) (by kernel_rfl) (fun _ _ _ h => h) (Or.inl ⟨by rfl, ?hy27x47⟩) hHeld ?nx27x47
    case hy27x47 => (intro w hSw; (try dsimp only at hSw); go_simp; try with_reducible rfl)
    try simp only [Act.put, List.setIfInBounds_toArray, List.set_cons_zero, List.set_cons_succ]
    refine wpAnyH_take (i := 28) (oi := { dst := some 76, op := Op.load 40 (Operand.tmp 8), type := 40, pos := "law.go:26", after := #[{ on := 23, ground := Ground.guard }], guard := some (23, true) }) (v := ?v28x48) rfl (by kernel_rfl) (by kernel_rfl) (by kernel_rfl) (fun _ _ _ h => h) (Or.inl ⟨by rfl, ?hy28x48⟩) hHeld ?nx28x48
    case hy28x48 => (intro w hSw; (try dsimp only at hSw); go_simp; try with_reducible rfl)
    try simp only [Act.put, List.setIfInBounds_toArray, List.set_cons_zero, List.set_cons_succ]
    refine wpAnyH_ready (rs := [26]) (by kernel_rfl) (by simp) ?_
    refine (AllReadyH.cons (o := { dst := some 74, op := Op.call { callee := Callee.value (Operand.func 25), args := #[Operand.tmp 72, Operand.tmp 73], argTypes := #[40, 40] }, type := 3, pos := "law.go:26", after := #[{ on := 24, ground := Ground.data }, { on := 25, ground := Ground.data }, { on := 23, ground := Ground.chain }, { on := 23, ground := Ground.guard }], guard := some (23, true) }) rfl (fun K hK => ?_) AllReadyH.nil)
    go_simp
    go_at_call 25
    refine (at_prog HP.out (M3.out _)).mono ?_
    rintro e xx389 ⟨rfl, hx390⟩
    have gg391 := gg388.trans hx390
    have hS := HSB.out _ gg391
    clear hx390
    refine hK.out _ _ hS (fun hH2 => ?_)
    clear hK K hHeld
    have hHeld := hH2
    clear hH2 hS
    try simp only [Act.put, List.setIfInBounds_toArray, List.set_cons_zero, List.set_cons_succ]
    refine wpAnyH_ready (rs := [29]) (by kernel_rfl) (by simp) ?_
    refine (AllReadyH.cons (o := { dst := some 77, op := Op.call { callee := Callee.value (Operand.func 26), args := #[Operand.tmp 75, Operand.tmp 76], argTypes := #[40, 40] }, type := 3, pos := "law.go:26", after := #[{ on := 27, ground := Ground.data }, { on := 28, ground := Ground.data }, { on := 26, ground := Ground.chain }, { on := 23, ground := Ground.guard }], guard := some (23, true) }) rfl (fun K hK => ?_) AllReadyH.nil)
    go_simp
    go_at_call 26
    refine (at_prog HP.out (M4.out _)).mono ?_
    rintro e xx392 ⟨rfl, hx393⟩
    have gg394 := gg391.trans hx393
    have hS := HSB.out _ gg394
    clear hx393
    refine hK.out _ _ hS (fun hH2 => ?_)
    clear hK K hHeld
    have hHeld := hH2
    clear hH2 hS
    try simp only [Act.put, List.setIfInBounds_toArray, List.set_cons_zero, List.set_cons_succ]
    refine wpAnyH_take (i := 30) (oi := { dst := some 78, op := Op.binOp BinOp.eql 3 (Operand.tmp 74) (Operand.tmp 77) 3, type := 4, pos := "law.go:26", after := #[{ on := 26, ground := Ground.data }, { on := 29, ground := Ground.data }, { on := 23, ground := Ground.guard }], guard := some (23, true) }) (v := ?v30x49) rfl (by kernel_rfl) (by kernel_rfl) (by kernel_rfl) (fun _ _ _ h => h) (Or.inl ⟨by rfl, ?hy30x49⟩) hHeld ?nx30x49
    case hy30x49 => (intro w hSw; (try dsimp only at hSw); go_simp; try with_reducible rfl)
    try simp only [Act.put, List.setIfInBounds_toArray, List.set_cons_zero, List.set_cons_succ]
    refine wpAnyH_take (i := 31) (oi := { dst := some 79, op := Op.pick (Operand.tmp 71) (Operand.tmp 78) (Operand.const (Value.bool false)), type := 4, pos := "law.go:26", after := #[{ on := 23, ground := Ground.data }, { on := 30, ground := Ground.data }], guard := none }) (v := ?v31x50) rfl (by kernel_rfl) (by kernel_rfl) (by kernel_rfl) (fun _ _ _ h => h) (Or.inl ⟨by rfl, ?hy31x50⟩) hHeld ?nx31x50
    case hy31x50 => (intro w hSw; (try dsimp only at hSw); go_simp; try with_reducible rfl)
    try simp only [Act.put, List.setIfInBounds_toArray, List.set_cons_zero, List.set_cons_succ]
    refine wpAnyH_take (i := 32) (oi := { dst := some 6, op := Op.assign (Operand.tmp 79), type := 4, pos := "law.go:26", after := #[{ on := 31, ground := Ground.data }, { on := 29, ground := Ground.chain }, { on := 0, ground := Ground.phase }, { on := 1, ground := Ground.phase }, { on := 2, ground := Ground.phase }, { on := 3, ground := Ground.phase }, { on := 4, ground := Ground.phase }, { on := 5, ground := Ground.phase }, { on := 6, ground := Ground.phase }, { on := 7, ground := Ground.phase }, { on := 8, ground := Ground.phase }, { on := 9, ground := Ground.phase }, { on := 10, ground := Ground.phase }, { on := 11, ground := Ground.phase }, { on := 12, ground := Ground.phase }, { on := 13, ground := Ground.phase }, { on := 14, ground := Ground.phase }, { on := 15, ground := Ground.phase }, { on := 16, ground := Ground.phase }, { on := 17, ground := Ground.phase }, { on := 18, ground := Ground.phase }, { on := 19, ground := Ground.phase }, { on := 20, ground := Ground.phase }, { on := 21, ground := Ground.phase }, { on := 22, ground := Ground.phase }, { on := 23, ground := Ground.phase }, { on := 24, ground := Ground.phase }, { on := 25, ground := Ground.phase }, { on := 26, ground := Ground.phase }, { on := 27, ground := Ground.phase }, { on := 28, ground := Ground.phase }, { on := 29, ground := Ground.phase }, { on := 30, ground := Ground.phase }, { on := 31, ground := Ground.phase }], guard := none }) (v := ?v32x51) rfl (by kernel_rfl) (by kernel_rfl) (by kernel_rfl) (fun _ _ _ h => h) (Or.inl ⟨by rfl, ?hy32x51⟩) hHeld ?nx32x51
    case hy32x51 => (intro w hSw; (try dsimp only at hSw); go_simp; try with_reducible rfl)
    try simp only [Act.put, List.setIfInBounds_toArray, List.set_cons_zero, List.set_cons_succ]
    refine wpAnyH_done (by kernel_rfl) ?_ _
    refine NoPanic.normal ?_
    go_wp2_with fail
    go_ret
    exact ⟨rfl, ((HB.out.2.2.2.1.trans HD.out.1).trans HE.out.1).trans gg394⟩
end Go.Proofs.YtmhnailcmlomiaaGreatDoor
