/-
  CONTRACTS of appendV4 and parseGroups, over this seat's translation: what each call returns.
  Conditions: the string is shorter than 2 to the 31; the package variables are as Glob says.
-/
import Derived.Test.YtdnfmilihfkhmaaDoorP2
import Derived.Test.YtdnfmilihfkhmaaDoorP3
namespace Go.Proofs.YtdnfmilihfkhmaaDoor
open Go.ChangeShapes Go.WideShapes Go.ChangeAt Go.RowKit
set_option linter.unusedVariables false

/-- Groups in memory that is new. -/
def GrpR (w0 w : World) (gs : List Nat) (e : Ending) : Prop := ∃ a n cap, gs.length = n ∧ e = .returned (.tuple #[.slice a n cap, .bool true]) ∧ w.ownsRow w0.heap.size 39 1 (.slice a n cap) n (nums .u16 gs)

set_option maxHeartbeats 2000000 in
set_option maxRecDepth 100000 in
theorem appendV4_any (w0 : World) (ar : Option Addr) (n cap : Nat) (gs : List Nat) (l : List UInt8) (w : World) (hG : Glob w) (hl : l.length < 2147483648) (hf : Fr No w0 w) (hn : gs.length = n) (hn8 : n ≤ 8) (hown : w.ownsRow w0.heap.size 39 1 (.slice ar n cap) n (nums .u16 gs)) :
    Calls Tryd.prog 90 #[.slice ar n cap, .string (bs l)] w fun e w' => Fr No w0 w' ∧ ((∃ xs, par 3 l = some xs ∧ GrpR w0 w' (gs ++ two xs) e) ∨ (par 3 l = none ∧ e = .returned (.tuple #[.slice none 0 0, .bool false]))) := by
  have HPV := Lib.hid (parseV4_any l w hG hl)
  obtain ⟨Z, hZ⟩ : ∃ Z : Array Value, (adr false zeros).toArray = Z := ⟨_, rfl⟩
  obtain ⟨Y, hY⟩ : ∃ Y : Array Value, (nums .u16 [0, 0, 0, 0, 0, 0, 0, 0]).toArray = Y := ⟨_, rfl⟩
  have v24 := zero24
  have v55 := zero73
  rw [hZ] at v24
  rw [hY] at v55
  have hzs : Z.size = 17 := by rw [← hZ]; rfl
  have hys : Y.size = 8 := by rw [← hY]; rfl
  have HO := Lib.hid (And.intro hown (And.intro hf (And.intro hn (And.intro hzs hys))))
  clear hown hf hn hZ hY hzs hys hG
  generalize bs l = s at HPV ⊢
  have hnq : ∀ q : List Nat, q = quad (par 3 l) → Bytes q := fun q hq => by
    subst hq
    cases h : par 3 l with
    | none => exact zeros_bytes
    | some xs =>
      have h4 := par_length 3 l xs h
      have hlt := par_lt 3 l xs h
      match xs, h4 with
      | [a, b, c, d], _ => exact v4_bytes (hlt a (by simp)) (hlt b (by simp)) (hlt c (by simp)) (hlt d (by simp))
  have HQ : Hid (∀ xs, par 3 l = some xs → (grps (quad (par 3 l))).take 2 = two xs ∧ two xs = [grp (quad (par 3 l)) 0, grp (quad (par 3 l)) 1]) := fun xs h => by
    have h4 := par_length 3 l xs h
    rw [h]
    match xs, h4 with
    | [a, b, c, d], _ => exact ⟨rfl, rfl⟩
  obtain ⟨q, hq⟩ : ∃ q, quad (par 3 l) = q := ⟨_, rfl⟩
  have hB := hnq q hq.symm
  rw [hq] at HPV HQ
  have HB := Lib.hid hB
  obtain ⟨ok, hok⟩ : ∃ ok, isQ (par 3 l) = ok := ⟨_, rfl⟩
  rw [hok] at HPV
  have HOK := Lib.hid hok
  obtain ⟨A, hA, h0, hsz, hj⟩ := adr_letter false q hB
  have hgo := fun w => groupsOf_any false q hB w
  rw [hA] at HPV hgo
  have HGO := Lib.hid hgo
  have HA := Lib.hid (And.intro hsz hA)
  clear hnq hq hB hok h0 hj hA hgo hsz hl
  have v39 : ∀ w, (zeroValue 39).run Tryd.prog w = .ok (.int .u16 0) w := fun w => by kernel_rfl
  go_enter Tryd.func90, Tryd.ntmps90
  have t3 := Tryd.underlying3
  have u3 := Tryd.runUnderlying3
  have g3 := Tryd.isAgg3
  have z3 := Tryd.sizeOf3
  have t4 := Tryd.underlying4
  have u4 := Tryd.runUnderlying4
  have g4 := Tryd.isAgg4
  have z4 := Tryd.sizeOf4
  have t9 := Tryd.underlying9
  have u9 := Tryd.runUnderlying9
  have g9 := Tryd.isAgg9
  have z9 := Tryd.sizeOf9
  have t24 := Tryd.underlying24
  have u24 := Tryd.runUnderlying24
  have g24 := Tryd.isAgg24
  have z24 := Tryd.sizeOf24
  have t37 := Tryd.underlying37
  have u37 := Tryd.runUnderlying37
  have g37 := Tryd.isAgg37
  have z37 := Tryd.sizeOf37
  have t39 := Tryd.underlying39
  have u39 := Tryd.runUnderlying39
  have g39 := Tryd.isAgg39
  have z39 := Tryd.sizeOf39
  have t73 := Tryd.underlying73
  have u73 := Tryd.runUnderlying73
  have g73 := Tryd.isAgg73
  have z73 := Tryd.sizeOf73
  have c46 := Tryd.call46
  have c61 := Tryd.call61
  have mixed : Tryd.prog.follows .mixedOrders = true := by kernel_rfl
  obtain ⟨k24, hk24⟩ : ∃ k, k = 17 := ⟨_, rfl⟩
  rw [← hk24] at z24
  have nk24 : ¬ k24 = 0 := by omega
  have HK24 := Lib.hid hk24
  obtain ⟨k55, hk55⟩ : ∃ k, k = 8 := ⟨_, rfl⟩
  rw [← hk55] at z73
  have nk55 : ¬ k55 = 0 := by omega
  have HK73 := Lib.hid hk55
  have hP : Tryd.prog = PD := rfl
  rw [hP] at t3 u3 g3 z3 t4 u4 g4 z4 t9 u9 g9 z9 t24 u24 g24 z24 t37 u37 g37 z37 t39 u39 g39 z39 t73 u73 g73 z73 c46 c61 mixed v24 v55 v39 ⊢
  have HP := Lib.hid hP.symm
  clear hP hk24 hk55
  go_wp2_with fail
  refine (at_prog HP.out HPV.out).mono ?_
  rintro e w1 ⟨rfl, hf1⟩
  obtain ⟨y, hst, hyb, hyf⟩ := store_all (P := PD) A.toList (heap_alloc_new w1 (.cells Z 24)) (by rw [Array.length_toList, HA.out.1, HO.out.2.2.2.1]) (by rw [← HA.out.2]; exact adr_one _ _)
  have hak : A.size = k24 := by rw [HK24.out]; exact HA.out.1
  have hla : Sem.run PD (loadCellsFrom ⟨w1.heap.size, 0, none⟩ 0 k24 #[]) y = .ok A y := by rw [HK24.out]; exact load_block hyb HA.out.1 (fun j v hv => by simpa using hv)
  have HY : Hid (Fr No w y) := (hf1.trans (Fr.alloc No _ _)).ofNew hyf fun k hk => .inr (by rw [hk]; exact hf1.size)
  clear hyb hyf hf1
  cases ok
  · go_wp2_with fail
    go_ret2
    refine ⟨HO.out.2.1.trans HY.out, .inr ⟨?_, rfl⟩⟩
    cases h : par 3 l with
    | none => rfl
    | some xs => have := HOK.out; rw [h] at this; cases this
  · go_wp2_with fail
    refine (at_prog HP.out (HGO.out _)).mono ?_
    rintro e w2 ⟨rfl, hf2⟩
    have hG8 : (nums .u16 (grps q)).toArray.size = 8 := rfl
    generalize hGG : (nums .u16 (grps q)).toArray = G at hG8
    obtain ⟨z, hst2, hzb, hzf⟩ := store_all (P := PD) G.toList (heap_alloc_new w2 (.cells Y 73)) (by rw [Array.length_toList, hG8, HO.out.2.2.2.2]) (by rw [← hGG]; exact nums_one _ _)
    have hgk : G.size = k55 := by rw [HK73.out]; exact hG8
    have hzb' : z.heap[w2.heap.size]? = some (.cells (nums .u16 (grps q)).toArray 73 (0, 0)) := by rw [hGG]; simpa using hzb
    have c0 : z.cell? ⟨w2.heap.size, 0, none⟩ = some (.int .u16 (grp q 0 : Nat)) := by rw [cell_of_row _ _ _ _ _ _ hzb']; rfl
    have c1 : z.cell? ⟨w2.heap.size, 1, none⟩ = some (.int .u16 (grp q 1 : Nat)) := by rw [cell_of_row _ _ _ _ _ _ hzb']; rfl
    have HZ : Hid (Fr No w z) := ((HY.out.trans hf2).trans (Fr.alloc No _ _)).ofNew hzf fun k hk => .inr (by rw [hk]; exact Nat.le_trans HY.out.size hf2.size)
    have HW : Hid ((z.alloc (.cells #[.int .u16 (grp q 0 : Nat), .int .u16 (grp q 1 : Nat)] 39)).ownsRow w0.heap.size 39 1 (.slice ar n cap) n (nums .u16 gs) ∧ Fr No w0 (z.alloc (.cells #[.int .u16 (grp q 0 : Nat), .int .u16 (grp q 1 : Nat)] 39)) ∧ At (z.alloc (.cells #[.int .u16 (grp q 0 : Nat), .int .u16 (grp q 1 : Nat)] 39)) (some ⟨z.heap.size, 0, none⟩) (nums .u16 [grp q 0, grp q 1])) := ⟨row_frNo HO.out.1 (HZ.out.trans (Fr.alloc No _ _)), (HO.out.2.1.trans HZ.out).trans (Fr.alloc No _ _), At.block (heap_alloc_new z _)⟩
    clear hzb hzf hzb' hf2 hst hla hG8
    go_wp2_with (first | (at_builtin; refine wpList_append_vals el16 rfl (.tmp 18) (.tmp 23) rfl w0.heap.size _ n _ rfl HW.out.1 _ 2 2 (nums .u16 [grp q 0, grp q 1]) rfl (nums_one _ _) rfl HW.out.2.2 (fun h => by cases h) (by unfold maxLen; omega) (by omega) HW.out.2.1.size ?_; intro a3 cp3 w3 hown3 hg3 hat3; have H3 : Hid (w3.ownsRow w0.heap.size 39 1 (.slice a3 (n + 2) cp3) (n + 2) (nums .u16 (gs ++ [grp q 0, grp q 1])) ∧ Fr No w0 w3) := ⟨(by rw [nums_append]; exact hown3), HW.out.2.1.own_grown HW.out.1 (Nat.le_refl _) hg3⟩; clear hown3 hg3 hat3) | fail)
    go_ret2
    refine ⟨H3.out.2, .inl ?_⟩
    cases h : par 3 l with
    | none => have := HOK.out; rw [h] at this; cases this
    | some xs =>
      obtain ⟨_, e2⟩ := HQ.out xs h
      refine ⟨xs, rfl, a3, n + 2, cp3, ?_, rfl, ?_⟩
      · rw [e2, List.length_append, HO.out.2.2.1]; rfl
      · rw [e2]; exact H3.out.1

/-- Groups in memory that is new, or nothing. -/
def GrpO (w0 w : World) (o : Option (List Nat)) (e : Ending) : Prop := (∃ gs, o = some gs ∧ gs.length ≤ 10 ∧ GrpR w0 w gs e) ∨ (e = .returned (.tuple #[.slice none 0 0, .bool false]) ∧ ∀ gs, o = some gs → 8 < gs.length)

end Go.Proofs.YtdnfmilihfkhmaaDoor
