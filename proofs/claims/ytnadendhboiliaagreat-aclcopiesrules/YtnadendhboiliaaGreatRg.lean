/-
  CONTRACT of package acl's New, over this seat's translation: an access control list of the given rules, if there are at most 32 and all are valid.
  Conditions: the rules lie in memory.
-/
import Derived.Test.YtnadendhboiliaaGreatRe
import Derived.Test.YtnadendhboiliaaGreatRb
import Derived.Test.YtnadendhboiliaaGreatMc
namespace Go.Proofs.YtnadendhboiliaaGreat
open Go.ChangeShapes Go.WideShapes Go.ChangeAt Go.RowKit
set_option linter.unusedVariables false

def zRu : Ru := ⟨false, [], zP, 0, 0⟩
theorem zero31 : ∀ w, (zeroValue 31).run Tryz.prog w = .ok (.agg (ruC zRu).toArray) w := by
  intro w
  kernel_rfl
theorem zero52 : ∀ w, (zeroValue 52).run Tryz.prog w = .ok (.agg #[.slice none 0 0, .pointer none]) w := by
  intro w
  kernel_rfl
theorem vRs_no {L : List Ru} {j : Nat} {q : Ru} (h : L[j]? = some q) (hv : vR q = false) : vRs L = false := by
  unfold vRs
  have : L.all vR = false := List.all_eq_false.2 ⟨q, List.mem_of_getElem? h, by rw [hv]; decide⟩
  rw [this, Bool.and_false]
theorem vRs_yes {L : List Ru} (hl : L.length ≤ 32) (h : ∀ (j : Nat) (q : Ru), j < L.length → L[j]? = some q → vR q = true) : vRs L = true := by
  unfold vRs
  rw [decide_eq_true hl, Bool.true_and, List.all_eq_true]
  intro q hq
  obtain ⟨j, hj⟩ := List.getElem?_of_mem hq
  exact h j q (List.getElem?_eq_some_iff.1 hj).1 hj
/-- What New answers. -/
def NewP (L : List Ru) (w : World) (e : Ending) (w' : World) : Prop := Fr No w w' ∧ ((vRs L = true ∧ ∃ x tb ra rc T X, e = .returned (.tuple #[.pointer (some ⟨x, 0, none⟩), .int .i64 0]) ∧ Inc w.heap.size w' x L L.length tb ra rc T X) ∨ (vRs L = false ∧ e = .returned (.tuple #[.pointer none, .int .i64 1])))
/-- A list as it begins. -/
theorem Inc.start {w w1 w2 : World} {L : List Ru} {ra : Option Addr} {rc tb : Nat} (hr : RowR w1 ra L) (hfar : FarR w.heap.size ra L) (hf1 : Fr No w w1) (hf2 : Fr No w1 w2) (hst : StL w2 tb [] (fun k => k < w1.heap.size)) :
    Inc w.heap.size (w2.alloc (.cells #[.slice ra L.length rc, .pointer (some ⟨tb, 0, none⟩)] 52)) w2.heap.size L 0 tb ra rc [] (fun k => k < w1.heap.size ∨ k = w2.heap.size) := by
  have hf3 := Fr.alloc No w2 (.cells #[.slice ra L.length rc, .pointer (some ⟨tb, 0, none⟩)] 52)
  have hsz : (w2.alloc (.cells #[.slice ra L.length rc, .pointer (some ⟨tb, 0, none⟩)] 52)).heap.size = w2.heap.size + 1 := by simp
  have h12 := hf2.size
  have h01 := hf1.size
  refine ⟨heap_alloc_new w2 _, hr.no (hf2.trans hf3), hfar, (hst.add fun k hk => hk.elim .inl fun e => .inr (by omega)).no hf3, fun k hk => ?_, fun k hk => .inl (by omega), .inr rfl, by omega, fun ad he hn => ?_, ⟨fun p x hm => (by cases hm), fun p hp => absurd rfl hp, fun p x q y hm => (by cases hm)⟩, fun p v k hm => (by cases hm), Nat.le_refl _⟩
  · rw [hsz]; rcases hk with hk | hk <;> omega
  · obtain ⟨b, o, cs, T, f, h1, h2, -⟩ := hr.2 hn
    rw [he] at h1; cases h1
    have := some_lt h2
    exact ⟨.inl this, Nat.lt_of_lt_of_le this h12⟩

set_option maxHeartbeats 8000000 in
set_option maxRecDepth 100000 in
theorem new_any (L : List Ru) (n : Nat) (hn : L.length = n) (a : Option Addr) (cp : Nat) (w : World) (hr : RowR w a L) :
    Calls Tryz.prog 6 #[.slice a n cp] w (NewP L w) := by
  by_cases h32 : 32 < n
  · have HV : Hid (vRs L = false) := by show _ = _; unfold vRs; rw [decide_eq_false (by omega : ¬ L.length ≤ 32)]; rfl
    clear hr hn
    have h32' : (32 : Int) < (n : Int) := by omega
    go_enter Tryz.func6, Tryz.ntmps6
    have t3 := Tryz.underlying3
    have u3 := Tryz.runUnderlying3
    have g3 := Tryz.isAgg3
    have z3 := Tryz.sizeOf3
    have t4 := Tryz.underlying4
    have u4 := Tryz.runUnderlying4
    have g4 := Tryz.isAgg4
    have z4 := Tryz.sizeOf4
    have t22 := Tryz.underlying22
    have u22 := Tryz.runUnderlying22
    have g22 := Tryz.isAgg22
    have z22 := Tryz.sizeOf22
    have t31 := Tryz.underlying31
    have u31 := Tryz.runUnderlying31
    have g31 := Tryz.isAgg31
    have z31 := Tryz.sizeOf31
    have t32 := Tryz.underlying32
    have u32 := Tryz.runUnderlying32
    have g32 := Tryz.isAgg32
    have z32 := Tryz.sizeOf32
    have t52 := Tryz.underlying52
    have u52 := Tryz.runUnderlying52
    have g52 := Tryz.isAgg52
    have z52 := Tryz.sizeOf52
    have c18 := Tryz.call18
    have c19 := Tryz.call19
    have c20 := Tryz.call20
    have c21 := Tryz.call21
    have mixed : Tryz.prog.follows .mixedOrders = true := by kernel_rfl
    obtain ⟨k22, hk22⟩ : ∃ k, k = 22 := ⟨_, rfl⟩
    rw [← hk22] at z31
    have nk22 : ¬ k22 = 0 := by omega
    have HK31 := Lib.hid hk22
    have hP : Tryz.prog = PD := rfl
    rw [hP] at t3 u3 g3 z3 t4 u4 g4 z4 t22 u22 g22 z22 t31 u31 g31 z31 t32 u32 g32 z32 t52 u52 g52 z52 c18 c19 c20 c21 mixed ⊢
    have HP := Lib.hid hP.symm
    clear hP hk22
    go_wp2_with fail
    go_ret2
    exact ⟨Fr.refl _ _, .inr ⟨HV.out, rfl⟩⟩
  have h32' : ¬ (32 : Int) < (n : Int) := by omega
  obtain ⟨Z, hZ⟩ : ∃ Z : Array Value, (ruC zRu).toArray = Z := ⟨_, rfl⟩
  have v30 := zero31
  rw [hZ] at v30
  have hZs : Z.size = 22 := by rw [← hZ]; rfl
  have HCL := Lib.hid (fun w' (hf : Fr No w w') => clone_any L n hn (by omega) a cp w' (hr.no hf))
  have HN := Lib.hid hn
  have v70 := zero52
  clear hr hZ hn
  go_enter Tryz.func6, Tryz.ntmps6
  have t3 := Tryz.underlying3
  have u3 := Tryz.runUnderlying3
  have g3 := Tryz.isAgg3
  have z3 := Tryz.sizeOf3
  have t4 := Tryz.underlying4
  have u4 := Tryz.runUnderlying4
  have g4 := Tryz.isAgg4
  have z4 := Tryz.sizeOf4
  have t9 := Tryz.underlying9
  have u9 := Tryz.runUnderlying9
  have g9 := Tryz.isAgg9
  have z9 := Tryz.sizeOf9
  have t22 := Tryz.underlying22
  have u22 := Tryz.runUnderlying22
  have g22 := Tryz.isAgg22
  have z22 := Tryz.sizeOf22
  have t31 := Tryz.underlying31
  have u31 := Tryz.runUnderlying31
  have g31 := Tryz.isAgg31
  have z31 := Tryz.sizeOf31
  have t32 := Tryz.underlying32
  have u32 := Tryz.runUnderlying32
  have g32 := Tryz.isAgg32
  have z32 := Tryz.sizeOf32
  have t33 := Tryz.underlying33
  have u33 := Tryz.runUnderlying33
  have g33 := Tryz.isAgg33
  have z33 := Tryz.sizeOf33
  have t48 := Tryz.underlying48
  have u48 := Tryz.runUnderlying48
  have g48 := Tryz.isAgg48
  have z48 := Tryz.sizeOf48
  have t52 := Tryz.underlying52
  have u52 := Tryz.runUnderlying52
  have g52 := Tryz.isAgg52
  have z52 := Tryz.sizeOf52
  have c18 := Tryz.call18
  have c19 := Tryz.call19
  have c20 := Tryz.call20
  have c21 := Tryz.call21
  have mixed : Tryz.prog.follows .mixedOrders = true := by kernel_rfl
  obtain ⟨k22, hk22⟩ : ∃ k, k = 22 := ⟨_, rfl⟩
  rw [← hk22] at z31
  have nk22 : ¬ k22 = 0 := by omega
  have HK31 := Lib.hid hk22
  have hP : Tryz.prog = PD := rfl
  rw [hP] at t3 u3 g3 z3 t4 u4 g4 z4 t9 u9 g9 z9 t22 u22 g22 z22 t31 u31 g31 z31 t32 u32 g32 z32 t33 u33 g33 z33 t48 u48 g48 z48 t52 u52 g52 z52 c18 c19 c20 c21 mixed v30 v70 ⊢
  have HP := Lib.hid hP.symm
  clear hP hk22
  have hZk : Z.size = k22 := by rw [HK31.out]; exact hZs
  clear hZs
  go_wp2_with (first | (go_at_call 18; go_loud (refine (at_prog HP.out (HCL.out _ (Fr.refl _ _))).mono ?_; rintro e w1 ⟨ra, rc, rfl, hr1, hfar, hf1⟩)) | (go_at_call 19; go_loud (refine (at_prog HP.out (newSL w1 (fun k => k < w1.heap.size) fun k hk => hk)).mono ?_; rintro e w2 ⟨tb, rfl, htb, hf2, hst⟩)) | fail)
  have hw1 : Fr No w w1 := hf1
  have hI0 := Inc.start (rc := rc) hr1 hfar hf1 hf2 hst
  have hFA : Fr No w (w2.alloc (.cells #[.slice ra L.length rc, .pointer (some ⟨tb, 0, none⟩)] 52)) := (hf1.trans hf2).trans (Fr.alloc No w2 _)
  rw [HN.out] at hI0 hFA
  obtain ⟨x, hx⟩ : ∃ x, w2.heap.size = x := ⟨_, rfl⟩
  obtain ⟨w3, hw3⟩ : ∃ w3, w2.alloc (.cells #[.slice ra n rc, .pointer (some ⟨tb, 0, none⟩)] 52) = w3 := ⟨_, rfl⟩
  rw [hx, hw3] at hI0
  rw [hw3] at hFA
  rw [hx, hw3]
  have HBX : Hid (w3.heap[x]? = some (.cells #[.slice ra n rc, .pointer (some ⟨tb, 0, none⟩)] 52 (0, 0))) := by have := hI0.box; rw [HN.out] at this; exact this
  have b0 : w3.cell? ⟨x, 0, none⟩ = some (.slice ra n rc) := cell_of HBX.out rfl
  have HI0 : Hid (∃ T X, Inc w.heap.size w3 x L 0 tb ra rc T X) := ⟨_, _, hI0⟩
  have HFA := Lib.hid hFA
  have HW := Lib.hid (And.intro hr1 hfar)
  clear hI0 hFA hr1 hfar hf1 hf2 hst hw1 htb hx hw3
  go_wp2_with fail
  go_loopg [20] (n + 1) (fun g s wr => ∃ (i : Nat), s = .int .i64 i ∧ i ≤ n ∧ n - i < g ∧ Hid ((∃ T X, Inc w.heap.size wr x L i tb ra rc T X) ∧ Fr No w wr ∧ ∀ (j : Nat) (q : Ru), j < i → L[j]? = some q → vR q = true))
  case atStart => exact ⟨0, by go_num, by omega, by omega, HI0.out, HFA.out, fun j q h => by omega⟩
  case round =>
    obtain ⟨i, rfl, hin, hig, HR⟩ := hrel
    by_cases hi : i < n
    · have p1 : (0 : Int) ≤ (i : Int) := by omega
      have p2 : (i : Int) < (n : Int) := by omega
      obtain ⟨r, hr⟩ : ∃ r, L[i]? = some r := ⟨_, List.getElem?_eq_getElem (by rw [HN.out]; exact hi)⟩
      obtain ⟨T, X, hI⟩ := HR.out.1
      obtain ⟨b, o, rfl, hb, hcell⟩ := hI.rows.cell hr
      obtain ⟨R, hR, hRs, -, -, -, -, -, -, hR1⟩ := ru_letter r hb
      have hRk : R.size = k22 := by rw [HK31.out]; exact hRs
      have l1 : Sem.run PD (loadCellsFrom ⟨b, o + i * k22, none⟩ 0 k22 #[]) wr = .ok R wr := by rw [HK31.out, ← hR]; exact (hcell wr (Fr.refl _ _)).1 PD
      obtain ⟨y, hst, hyb, hyf⟩ := store_all (P := PD) R.toList (heap_alloc_new wr (.cells Z 31)) (by rw [Array.length_toList, hRk, hZk]) hR1
      have hyb' : y.heap[wr.heap.size]? = some (.cells R 31 (0, 0)) := by simpa using hyb
      have hfy : Fr No wr y := (Fr.alloc No wr _).ofNew hyf fun k hk => .inr (by rw [hk]; exact Nat.le_refl _)
      obtain ⟨d0, d1, -⟩ := ru_box r hb hR y _ _ hyb'
      have HVR : Hid (∀ w', Calls Tryz.prog 20 #[.agg R] w' fun e w'' => e = .returned (.bool (vR r)) ∧ Fr No w' w'') := fun w' => by rw [← hR]; exact vr_any r hb w'
      have HY := Lib.hid (And.intro hfy (And.intro hyb' (And.intro hr (And.intro hI hb))))
      have ly : Sem.run PD (loadCellsFrom ⟨wr.heap.size, 0, none⟩ 0 k22 #[]) y = .ok R y := load_block hyb' hRk (fun j v hv => by simpa using hv)
      have hemp := bs_empty r.sf
      clear hyb hyb' hyf hfy hr hI hcell hR hb hR1 hRs d0
      cases hv : vR r with
      | false =>
        rw [hv] at HVR
        have HVF := Lib.hid hv
        clear hv hemp
        go_wp2_with (first | (go_at_call 20; go_loud (refine (at_prog HP.out (HVR.out _)).mono ?_; rintro e w5 ⟨rfl, hf5⟩)) | fail)
        go_ret2
        exact ⟨(HR.out.2.1.trans HY.out.1).trans hf5, .inr ⟨vRs_no HY.out.2.2.1 HVF.out, rfl⟩⟩
      | true =>
        rw [hv] at HVR
        have HVF := Lib.hid hv
        clear hv
        by_cases hs : r.sf = []
        · rw [decide_eq_true hs] at hemp
          have hvp : validP r.p.b r.p.xs r.p.n = true := by
            have := HVF.out
            unfold vR at this
            rw [if_pos hs] at this
            exact (Bool.and_eq_true _ _ ▸ this : _ ∧ _).2
          have HADD : Hid (∀ w', Fr No wr w' → Calls Tryz.prog 21 #[.pointer (some ⟨x, 0, none⟩), .int .i64 i] w' fun e w'' => e = .returned (.tuple #[]) ∧ (∃ T' X', Inc w.heap.size w'' x L (i + 1) tb (some ⟨b, o, none⟩) rc T' X') ∧ Fr (fun k => w.heap.size ≤ k) w' w'') := fun w' hf => add_any _ w' x L i tb _ rc T X (HY.out.2.2.2.1.no hf) r HY.out.2.2.1 hs hvp (by rw [HN.out]; omega)
          generalize bs r.sf = s at d1 hemp
          clear hs hvp
          go_wp2_with (first | (go_at_call 20; go_loud (refine (at_prog HP.out (HVR.out _)).mono ?_; rintro e w5 ⟨rfl, hf5⟩; have d5 := hf5.cell d1)) | (go_at_call 21; go_loud (refine (at_prog HP.out (HADD.out _ (HY.out.1.trans hf5))).mono ?_; rintro e w6 ⟨rfl, hI6, hf6⟩)) | fail)
          go_roundg (n - i)
          case measure => exact hig
          case rel =>
            refine ⟨i + 1, by go_num, by omega, by omega, hI6, ((HR.out.2.1.trans HY.out.1).trans hf5).ofNew hf6 (fun k hk => .inr hk), fun j q hj hq => ?_⟩
            by_cases hji : j = i
            · subst hji; rw [HY.out.2.2.1] at hq; cases hq; exact HVF.out
            · exact HR.out.2.2 j q (by omega) hq
        · rw [decide_eq_false hs] at hemp
          have HS := Lib.hid hs
          generalize bs r.sf = s at d1 hemp
          clear hs
          go_wp2_with (first | (go_at_call 20; go_loud (refine (at_prog HP.out (HVR.out _)).mono ?_; rintro e w5 ⟨rfl, hf5⟩; have d5 := hf5.cell d1)) | fail)
          go_roundg (n - i)
          case measure => exact hig
          case rel =>
            refine ⟨i + 1, by go_num, by omega, by omega, ⟨T, X, (HY.out.2.2.2.1.next HY.out.2.2.1 HS.out).no (HY.out.1.trans hf5)⟩, (HR.out.2.1.trans HY.out.1).trans hf5, fun j q hj hq => ?_⟩
            by_cases hji : j = i
            · subst hji; rw [HY.out.2.2.1] at hq; cases hq; exact HVF.out
            · exact HR.out.2.2 j q (by omega) hq
    · obtain rfl : i = n := by omega
      go_wp2_with fail
      go_ret2
      obtain ⟨T, X, hI⟩ := HR.out.1
      exact ⟨HR.out.2.1, .inl ⟨vRs_yes (by rw [HN.out]; omega) (by rw [HN.out]; exact HR.out.2.2), x, tb, ra, rc, T, X, rfl, by rw [HN.out]; exact hI⟩⟩
end Go.Proofs.YtnadendhboiliaaGreat
