/-
  CONTRACTS of groupsOf, of longestZeros and of the reference's Group, over this seat's translation: what each call returns.
  Conditions: the argument is an address; eight groups.
-/
import Derived.Test.YtdnfmilihfkhmaaDoorV
namespace Go.Proofs.YtdnfmilihfkhmaaDoor
open Go.ChangeShapes Go.WideShapes Go.ChangeAt Go.RowKit
set_option linter.unusedVariables false

/-- Group i of an address. -/
def grp (xs : List Nat) (i : Nat) : Nat := xs.getD (2 * i) 0 * 256 + xs.getD (2 * i + 1) 0
/-- The eight groups. -/
def grps (xs : List Nat) : List Nat := [grp xs 0, grp xs 1, grp xs 2, grp xs 3, grp xs 4, grp xs 5, grp xs 6, grp xs 7]

theorem grps_get (xs : List Nat) {i : Nat} (hi : i < 8) : (grps xs)[i]? = some (grp xs i) := by
  have : i = 0 ∨ i = 1 ∨ i = 2 ∨ i = 3 ∨ i = 4 ∨ i = 5 ∨ i = 6 ∨ i = 7 := by omega
  rcases this with rfl | rfl | rfl | rfl | rfl | rfl | rfl | rfl <;> rfl

theorem get_or {xs : List Nat} (hx : Bytes xs) (i : Nat) (hi : i < 16) : ∃ x, xs[i]? = some x ∧ xs.getD i 0 = x ∧ x < 256 := by
  have h : i < xs.length := by rw [hx.1]; exact hi
  exact ⟨xs[i], List.getElem?_eq_getElem h, by simp [List.getD, List.getElem?_eq_getElem h], hx.2 _ (List.getElem_mem h)⟩

theorem wraps_i64_63 (n : Int) (h₀ : 0 ≤ n) (h₁ : n < 2 ^ 63) : IntKind.i64.wrap n = n := by simp [IntKind.wrap, IntKind.bits, IntKind.signed]; omega
theorem or_int {a b : Nat} (ha : a < 256) (hb : b < 256) : bits .or .i64 ((a : Int) * 256) (b : Int) = ((a * 256 + b : Nat) : Int) := by
  have h := (bits_nat .i64 63 (by decide) wraps_i64_63 (a * 256) b (by omega) (by omega)).2
  have e : a * 256 ||| b = a * 256 + b := by
    have := Nat.two_pow_add_eq_or_of_lt (i := 8) (by omega : b < 2 ^ 8) a
    rw [show (2 : Nat) ^ 8 = 256 from rfl, Nat.mul_comm] at this
    rw [← this]
  rw [e] at h
  rw [← h]
  simp
theorem or_group' {a b : Nat} (ha : a < 256) (hb : b < 256) : bits .or .u16 ((a : Int) * 256) (b : Int) = ((a * 256 + b : Nat) : Int) := by
  rw [← or_group ha hb]; simp

theorem grps_lt {xs : List Nat} (hx : Bytes xs) : ∀ g ∈ grps xs, g < 65536 := by
  have h : ∀ i, i < 8 → grp xs i < 65536 := by
    intro i hi
    obtain ⟨x, -, e1, h1⟩ := get_or hx (2 * i) (by omega)
    obtain ⟨y, -, e2, h2⟩ := get_or hx (2 * i + 1) (by omega)
    rw [grp, e1, e2]
    omega
  intro g hg
  simp only [grps, List.mem_cons, List.not_mem_nil, or_false] at hg
  rcases hg with rfl | rfl | rfl | rfl | rfl | rfl | rfl | rfl <;> exact h _ (by omega)

set_option maxHeartbeats 2000000 in
set_option maxRecDepth 100000 in
theorem group_ref (b : Bool) (xs : List Nat) (i : Nat) (hx : Bytes xs) (hi : i < 8) (w : World) :
    Calls Tryd.prog 41 #[.agg (adr b xs).toArray, .int .i64 i] w fun e w' => e = .returned (.int .i64 (grp xs i : Nat)) ∧ Fr No w w' := by
  obtain ⟨A, hA, h0, hsz, hj⟩ := adr_letter b xs hx
  rw [hA]
  obtain ⟨x, h1, e1, l1⟩ := get_or hx (2 * i) (by omega)
  obtain ⟨y, h2, e2, l2⟩ := get_or hx (2 * i + 1) (by omega)
  have c1 := hj _ _ h1
  have c2 := hj _ _ h2
  have q3 : (0 : Int) ≤ 2 * (i : Int) := by omega
  have q4 : 2 * (i : Int) < 16 := by omega
  have q5 : (0 : Int) ≤ 2 * (i : Int) + 1 := by omega
  have q6 : 2 * (i : Int) + 1 < 16 := by omega
  have HV : Hid (grp xs i = x * 256 + y) := by
    show _ = _
    rw [grp, e1, e2]
  have k1 : (w.alloc (.cells A 24)).cell? ⟨w.heap.size, 1 + 2 * i, none⟩ = some (.int .u8 x) := by rw [cell_of_row _ _ _ _ _ _ (heap_alloc_new w _)]; exact c1
  have k2 : (w.alloc (.cells A 24)).cell? ⟨w.heap.size, 1 + (2 * i + 1), none⟩ = some (.int .u8 y) := by rw [cell_of_row _ _ _ _ _ _ (heap_alloc_new w _)]; exact c2
  have HF : Hid (Fr No w (w.alloc (.cells A 24))) := Fr.alloc No _ _
  have HO := Lib.hid (or_int l1 l2)
  clear hj hA h0 h1 h2 e1 e2 c1 c2
  go_enter Tryd.func41, Tryd.ntmps41
  go_wp2_with fail
  generalize w.alloc (.cells A 24) = w1 at k1 k2 HF ⊢
  generalize w.heap.size = n at k1 k2 ⊢
  go_quiet (fail)
  go_wp2_with fail
  go_ret
  refine ⟨?_, HF.out.trans (Fr.drewN _ _ _)⟩
  rw [HV.out]
  exact ret_int HO.out

/-- The groups when the first i have been written. -/
def gpart (xs : List Nat) (i : Nat) : List Nat := (grps xs).take i ++ List.replicate (8 - i) 0
theorem gpart_length (xs : List Nat) {i : Nat} (hi : i ≤ 8) : (gpart xs i).length = 8 := by
  rw [gpart, List.length_append, List.length_take, List.length_replicate, show (grps xs).length = 8 from rfl]; omega
theorem gpart_step (xs : List Nat) {i : Nat} (hi : i < 8) : (gpart xs i).set i (grp xs i) = gpart xs (i + 1) := by
  have : i = 0 ∨ i = 1 ∨ i = 2 ∨ i = 3 ∨ i = 4 ∨ i = 5 ∨ i = 6 ∨ i = 7 := by omega
  rcases this with rfl | rfl | rfl | rfl | rfl | rfl | rfl | rfl <;> rfl
theorem nums_set {w : World} {m i x : Nat} {k : IntKind} {L : List Nat} {t : TypeId} (h : w.heap[m]? = some (.cells (nums k L).toArray t (0, 0))) : (w.setCell ⟨m, i, none⟩ (.int k x)).heap[m]? = some (.cells (nums k (L.set i x)).toArray t (0, 0)) := by
  rw [heap_setCell_same w m i _ _ _ h]
  congr 2
  apply Array.ext'
  simp [nums, List.map_set]

theorem zero73 : ∀ w, (zeroValue 73).run Tryd.prog w = .ok (.agg (nums .u16 [0, 0, 0, 0, 0, 0, 0, 0]).toArray) w := by
  intro w
  kernel_rfl

set_option maxHeartbeats 2000000 in
set_option maxRecDepth 100000 in
theorem groupsOf_any (b : Bool) (xs : List Nat) (hx : Bytes xs) (w : World) :
    Calls Tryd.prog 61 #[.agg (adr b xs).toArray] w fun e w' => e = .returned (.agg (nums .u16 (grps xs)).toArray) ∧ Fr No w w' := by
  obtain ⟨A, hA, h0, hsz, hj⟩ := adr_letter b xs hx
  have hA' := hA
  rw [hA]
  obtain ⟨Z, hZ⟩ : ∃ Z : Array Value, (nums .u16 [0, 0, 0, 0, 0, 0, 0, 0]).toArray = Z := ⟨_, rfl⟩
  have v55 := zero73
  rw [hZ] at v55
  go_enter Tryd.func61, Tryd.ntmps61
  have t3 := Tryd.underlying3
  have u3 := Tryd.runUnderlying3
  have g3 := Tryd.isAgg3
  have z3 := Tryd.sizeOf3
  have t5 := Tryd.underlying5
  have u5 := Tryd.runUnderlying5
  have g5 := Tryd.isAgg5
  have z5 := Tryd.sizeOf5
  have t22 := Tryd.underlying22
  have u22 := Tryd.runUnderlying22
  have g22 := Tryd.isAgg22
  have z22 := Tryd.sizeOf22
  have t24 := Tryd.underlying24
  have u24 := Tryd.runUnderlying24
  have g24 := Tryd.isAgg24
  have z24 := Tryd.sizeOf24
  have t30 := Tryd.underlying30
  have u30 := Tryd.runUnderlying30
  have g30 := Tryd.isAgg30
  have z30 := Tryd.sizeOf30
  have t39 := Tryd.underlying39
  have u39 := Tryd.runUnderlying39
  have g39 := Tryd.isAgg39
  have z39 := Tryd.sizeOf39
  have t73 := Tryd.underlying73
  have u73 := Tryd.runUnderlying73
  have g73 := Tryd.isAgg73
  have z73 := Tryd.sizeOf73
  have mixed : Tryd.prog.follows .mixedOrders = true := by kernel_rfl
  obtain ⟨k55, hk55⟩ : ∃ k, k = 8 := ⟨_, rfl⟩
  rw [← hk55] at z73
  have nk55 : ¬ k55 = 0 := by omega
  have HK73 := Lib.hid hk55
  have hP : Tryd.prog = PD := rfl
  rw [hP] at t3 u3 g3 z3 t5 u5 g5 z5 t22 u22 g22 z22 t24 u24 g24 z24 t30 u30 g30 z30 t39 u39 g39 z39 t73 u73 g73 z73 mixed v55 ⊢
  have HP := Lib.hid hP.symm
  clear hP hk55
  go_wp2_with fail
  obtain ⟨b1, b2, b3, hF⟩ := alloc3 w (.cells A 24) (.cells Z 73) (.cells Z 73)
  generalize ((w.alloc (.cells A 24)).alloc (.cells Z 73)).alloc (.cells Z 73) = w3 at b1 b2 b3 hF ⊢
  obtain ⟨n, hn⟩ : ∃ n, w.heap.size = n := ⟨_, rfl⟩
  rw [hn] at b1 b2 b3 ⊢
  have HN : Hid (w.heap.size = n ∧ Fr No w w3 ∧ w3.heap[n]? = some (.cells (adr b xs).toArray 24 (0, 0)) ∧ w3.heap[n + 1]? = some (.cells (nums .u16 [0, 0, 0, 0, 0, 0, 0, 0]).toArray 73 (0, 0)) ∧ w3.heap[n + 1 + 1]? = some (.cells (nums .u16 (gpart xs 0)).toArray 73 (0, 0))) := ⟨hn, hF, by rw [hA']; exact b1, by rw [hZ]; exact b2, by rw [show gpart xs 0 = [0, 0, 0, 0, 0, 0, 0, 0] from rfl, hZ]; exact b3⟩
  clear hn hF b1 b2 b3 v55 hj hA' hZ h0
  go_loopg [5] 9 (fun g s wr => ∃ i : Nat, s = .int .i64 i ∧ i ≤ 8 ∧ 8 - i < g ∧ Hid (Fr (fun k => k = n + 1 + 1) w3 wr ∧ wr.heap[n + 1 + 1]? = some (.cells (nums .u16 (gpart xs i)).toArray 73 (0, 0))))
  case atStart => exact ⟨0, by go_num, by omega, by omega, Fr.refl _ _, HN.out.2.2.2.2⟩
  case round =>
    obtain ⟨i, rfl, hi8, hig, HR⟩ := hrel
    have hbn : wr.heap[n]? = some (.cells (adr b xs).toArray 24 (0, 0)) := (HR.out.1.block n (Array.getElem?_eq_some_iff.1 HN.out.2.2.1).1 (by omega)).trans HN.out.2.2.1
    by_cases hi : i = 8
    · subst hi
      have hR := HR.out
      rw [show gpart xs 8 = grps xs from rfl] at hR
      have hbz : wr.heap[n + 1]? = some (.cells (nums .u16 [0, 0, 0, 0, 0, 0, 0, 0]).toArray 73 (0, 0)) := (hR.1.block (n + 1) (Array.getElem?_eq_some_iff.1 HN.out.2.2.2.1).1 (by omega)).trans HN.out.2.2.2.1
      have hA8 : (nums .u16 (grps xs)).toArray.size = 8 := rfl
      have hl : Sem.run PD (loadCellsFrom ⟨n + 1 + 1, 0, none⟩ 0 k55 #[]) wr = .ok (nums .u16 (grps xs)).toArray wr := by rw [HK73.out]; exact load_block hR.2 hA8 (fun j v hv => by simpa using hv)
      obtain ⟨y, hst, hyb, hyf⟩ := store_all (P := PD) (nums .u16 (grps xs)).toArray.toList hbz rfl (nums_one _ _)
      have hsk : (nums .u16 (grps xs)).toArray.size = k55 := by rw [HK73.out]; rfl
      have HY : Hid (y.heap[n + 1]? = some (.cells (nums .u16 (grps xs)).toArray 73 (0, 0)) ∧ Fr No w y) := by
        refine ⟨by simpa using hyb, ?_⟩
        refine (HN.out.2.1.ofNew hR.1 fun k hk => .inr (by rw [HN.out.1, hk]; omega)).ofNew hyf fun k hk => .inr (by rw [HN.out.1, hk]; omega)
      have H8 := Lib.hid hA8
      clear hA8 hR hbz hyb hyf HR hbn
      generalize hAA : (nums .u16 (grps xs)).toArray = G at hl hst hsk HY H8 ⊢
      have HAA := Lib.hid hAA
      clear hAA
      go_wp2_with fail
      refine bodyPost_ret_by (results_agg rfl _ (b := n + 1) (k := 8) (cs := G) (Tryd.isAgg73 _) (Tryd.sizeOf73 _) rfl (load_block HY.out.1 H8.out (fun j v hv => by simpa using hv))) rfl ?_
      exact ⟨by rw [HAA.out], HY.out.2⟩
    · obtain ⟨x, h1, e1, l1⟩ := get_or hx (2 * i) (by omega)
      obtain ⟨y, h2, e2, l2⟩ := get_or hx (2 * i + 1) (by omega)
      have k1 : wr.cell? ⟨n, 1 + 2 * i, none⟩ = some (.int .u8 x) := by rw [cell_of_row _ _ _ _ _ _ hbn]; simpa using adr_get h1
      have k2 : wr.cell? ⟨n, 1 + (2 * i + 1), none⟩ = some (.int .u8 y) := by rw [cell_of_row _ _ _ _ _ _ hbn]; simpa using adr_get h2
      have hgl : (gpart xs i).length = 8 := gpart_length xs (by omega)
      obtain ⟨z, hz⟩ : ∃ z, (gpart xs i)[i]? = some z := ⟨_, List.getElem?_eq_getElem (by rw [hgl]; omega)⟩
      have k3 : wr.cell? ⟨n + 1 + 1, i, none⟩ = some (.int .u16 z) := by rw [cell_of_row _ _ _ _ _ _ HR.out.2]; simpa using nums_get hz
      have f3 := frozen_of_row wr (n + 1 + 1) i _ _ HR.out.2
      have q1 : (0 : Int) ≤ (i : Int) := by omega
      have q2 : (i : Int) < 8 := by omega
      have q3 : (0 : Int) ≤ 2 * (i : Int) := by omega
      have q4 : 2 * (i : Int) < 16 := by omega
      have q5 : (0 : Int) ≤ 2 * (i : Int) + 1 := by omega
      have q6 : 2 * (i : Int) + 1 < 16 := by omega
      have HV : Hid (grp xs i = x * 256 + y) := by
        show _ = _
        rw [grp, e1, e2]
      have HO := Lib.hid (or_group' l1 l2)
      clear hbn hgl e1 e2 h1 h2 hz
      go_wp2_with fail
      go_region
      rw [HO.out, ← HV.out]
      have e1 := nums_set (i := i) (x := grp xs i) HR.out.2
      rw [gpart_step xs (by omega)] at e1
      have HE : Hid (Fr (fun k => k = n + 1 + 1) w3 (wr.setCell ⟨n + 1 + 1, i, none⟩ (.int .u16 (grp xs i))).drew ∧ (wr.setCell ⟨n + 1 + 1, i, none⟩ (.int .u16 (grp xs i))).drew.heap[n + 1 + 1]? = some (.cells (nums .u16 (gpart xs (i + 1))).toArray 73 (0, 0))) := ⟨HR.out.1.trans ((Fr.setCell (fun k => k = n + 1 + 1) _ _ _ rfl).trans (Fr.drew _ _)), e1⟩
      clear e1
      go_wp2_with fail
      go_roundg (8 - i)
      case measure => exact hig
      case rel => exact ⟨i + 1, by go_num, by omega, by omega, HE.out⟩
end Go.Proofs.YtdnfmilihfkhmaaDoor
