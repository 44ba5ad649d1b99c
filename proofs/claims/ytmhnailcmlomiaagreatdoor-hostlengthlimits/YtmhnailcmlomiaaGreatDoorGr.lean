/-
  CONTRACTS of groupsOf, of longestZeros and of the reference's Group, over this seat's translation: what each call returns.
  Conditions: the argument is an address; eight groups.
  CONTRACTS of longestZeros, over this seat's translation: what the call returns.
  Conditions: eight groups.
  CONTRACTS of strconv.FormatUint to the base 16, over this seat's translation: what each call returns.
  Conditions: the number is below 65536; the package variables are as Glob says.
-/
import Derived.Test.YtmhnailcmlomiaaGreatDoorA
import Derived.Laws.BytesArg
import Derived.Laws.BitsLemmas
namespace Go.Proofs.YtmhnailcmlomiaaGreatDoor
open Go.ChangeShapes Go.WideShapes Go.ChangeAt Go.RowKit
set_option linter.unusedVariables false

/-- Group i of an address. -/
def grp (xs : List Nat) (i : Nat) : Nat := xs.getD (2 * i) 0 * 256 + xs.getD (2 * i + 1) 0
/-- The eight groups. -/
def grps (xs : List Nat) : List Nat := [grp xs 0, grp xs 1, grp xs 2, grp xs 3, grp xs 4, grp xs 5, grp xs 6, grp xs 7]

theorem grps_get (xs : List Nat) {i : Nat} (hi : i < 8) : (grps xs)[i]? = some (grp xs i) := by
  have : i = 0 ∨ i = 1 ∨ i = 2 ∨ i = 3 ∨ i = 4 ∨ i = 5 ∨ i = 6 ∨ i = 7 := by omega
  rcases this with rfl | rfl | rfl | rfl | rfl | rfl | rfl | rfl <;> rfl

theorem get_or {xs : List Nat} (hx : Bytes xs) (i : Nat) (hi : i < 16) : ∃ x, xs[i]? = some x ∧ xs.getD i 0 = x ∧ x < 256 := by
  have h : i < xs.length := by rw [hx.1]; exact hi
  exact ⟨xs[i], List.getElem?_eq_getElem h, by simp [List.getD, List.getElem?_eq_getElem h], hx.2 _ (List.getElem_mem h)⟩

theorem wraps_i64_63 (n : Int) (h₀ : 0 ≤ n) (h₁ : n < 2 ^ 63) : IntKind.i64.wrap n = n := by simp [IntKind.wrap, IntKind.bits, IntKind.signed]; omega
theorem or_int {a b : Nat} (ha : a < 256) (hb : b < 256) : bits .or .i64 ((a : Int) * 256) (b : Int) = ((a * 256 + b : Nat) : Int) := by
  have h := (bits_nat .i64 63 (by decide) wraps_i64_63 (a * 256) b (by omega) (by omega)).2
  have e : a * 256 ||| b = a * 256 + b := by
    have := Nat.two_pow_add_eq_or_of_lt (i := 8) (by omega : b < 2 ^ 8) a
    rw [show (2 : Nat) ^ 8 = 256 from rfl, Nat.mul_comm] at this
    rw [← this]
  rw [e] at h
  rw [← h]
  simp
theorem or_group' {a b : Nat} (ha : a < 256) (hb : b < 256) : bits .or .u16 ((a : Int) * 256) (b : Int) = ((a * 256 + b : Nat) : Int) := by
  rw [← or_group ha hb]; simp

theorem grps_lt {xs : List Nat} (hx : Bytes xs) : ∀ g ∈ grps xs, g < 65536 := by
  have h : ∀ i, i < 8 → grp xs i < 65536 := by
    intro i hi
    obtain ⟨x, -, e1, h1⟩ := get_or hx (2 * i) (by omega)
    obtain ⟨y, -, e2, h2⟩ := get_or hx (2 * i + 1) (by omega)
    rw [grp, e1, e2]
    omega
  intro g hg
  simp only [grps, List.mem_cons, List.not_mem_nil, or_false] at hg
  rcases hg with rfl | rfl | rfl | rfl | rfl | rfl | rfl | rfl <;> exact h _ (by omega)

set_option maxHeartbeats 2000000 in
set_option maxRecDepth 100000 in
theorem group_ref (b : Bool) (xs : List Nat) (i : Nat) (hx : Bytes xs) (hi : i < 8) (w : World) :
    Calls Tryz.prog 71 #[.agg (adr b xs).toArray, .int .i64 i] w fun e w' => e = .returned (.int .i64 (grp xs i : Nat)) ∧ Fr No w w' := by
  obtain ⟨A, hA, h0, hsz, hj⟩ := adr_letter b xs hx
  rw [hA]
  obtain ⟨x, h1, e1, l1⟩ := get_or hx (2 * i) (by omega)
  obtain ⟨y, h2, e2, l2⟩ := get_or hx (2 * i + 1) (by omega)
  have c1 := hj _ _ h1
  have c2 := hj _ _ h2
  have q3 : (0 : Int) ≤ 2 * (i : Int) := by omega
  have q4 : 2 * (i : Int) < 16 := by omega
  have q5 : (0 : Int) ≤ 2 * (i : Int) + 1 := by omega
  have q6 : 2 * (i : Int) + 1 < 16 := by omega
  have HV : Hid (grp xs i = x * 256 + y) := by
    show _ = _
    rw [grp, e1, e2]
  have k1 : (w.alloc (.cells A 30)).cell? ⟨w.heap.size, 1 + 2 * i, none⟩ = some (.int .u8 x) := by rw [cell_of_row _ _ _ _ _ _ (heap_alloc_new w _)]; exact c1
  have k2 : (w.alloc (.cells A 30)).cell? ⟨w.heap.size, 1 + (2 * i + 1), none⟩ = some (.int .u8 y) := by rw [cell_of_row _ _ _ _ _ _ (heap_alloc_new w _)]; exact c2
  have HF : Hid (Fr No w (w.alloc (.cells A 30))) := Fr.alloc No _ _
  have HO := Lib.hid (or_int l1 l2)
  clear hj hA h0 h1 h2 e1 e2 c1 c2
  go_enter Tryz.func71, Tryz.ntmps71
  go_wp2_with fail
  generalize w.alloc (.cells A 30) = w1 at k1 k2 HF ⊢
  generalize w.heap.size = n at k1 k2 ⊢
  go_quiet (fail)
  go_wp2_with fail
  go_ret
  refine ⟨?_, HF.out.trans (Fr.drewN _ _ _)⟩
  rw [HV.out]
  exact ret_int HO.out

/-- The groups when the first i have been written. -/
def gpart (xs : List Nat) (i : Nat) : List Nat := (grps xs).take i ++ List.replicate (8 - i) 0
theorem gpart_length (xs : List Nat) {i : Nat} (hi : i ≤ 8) : (gpart xs i).length = 8 := by
  rw [gpart, List.length_append, List.length_take, List.length_replicate, show (grps xs).length = 8 from rfl]; omega
theorem gpart_step (xs : List Nat) {i : Nat} (hi : i < 8) : (gpart xs i).set i (grp xs i) = gpart xs (i + 1) := by
  have : i = 0 ∨ i = 1 ∨ i = 2 ∨ i = 3 ∨ i = 4 ∨ i = 5 ∨ i = 6 ∨ i = 7 := by omega
  rcases this with rfl | rfl | rfl | rfl | rfl | rfl | rfl | rfl <;> rfl
theorem nums_set {w : World} {m i x : Nat} {k : IntKind} {L : List Nat} {t : TypeId} (h : w.heap[m]? = some (.cells (nums k L).toArray t (0, 0))) : (w.setCell ⟨m, i, none⟩ (.int k x)).heap[m]? = some (.cells (nums k (L.set i x)).toArray t (0, 0)) := by
  rw [heap_setCell_same w m i _ _ _ h]
  congr 2
  apply Array.ext'
  simp [nums, List.map_set]

theorem zero95 : ∀ w, (zeroValue 95).run Tryz.prog w = .ok (.agg (nums .u16 [0, 0, 0, 0, 0, 0, 0, 0]).toArray) w := by
  intro w
  kernel_rfl

set_option maxHeartbeats 2000000 in
set_option maxRecDepth 100000 in
theorem groupsOf_any (b : Bool) (xs : List Nat) (hx : Bytes xs) (w : World) :
    Calls Tryz.prog 104 #[.agg (adr b xs).toArray] w fun e w' => e = .returned (.agg (nums .u16 (grps xs)).toArray) ∧ Fr No w w' := by
  obtain ⟨A, hA, h0, hsz, hj⟩ := adr_letter b xs hx
  have hA' := hA
  rw [hA]
  obtain ⟨Z, hZ⟩ : ∃ Z : Array Value, (nums .u16 [0, 0, 0, 0, 0, 0, 0, 0]).toArray = Z := ⟨_, rfl⟩
  have v55 := zero95
  rw [hZ] at v55
  go_enter Tryz.func104, Tryz.ntmps104
  have t3 := Tryz.underlying3
  have u3 := Tryz.runUnderlying3
  have g3 := Tryz.isAgg3
  have z3 := Tryz.sizeOf3
  have t5 := Tryz.underlying5
  have u5 := Tryz.runUnderlying5
  have g5 := Tryz.isAgg5
  have z5 := Tryz.sizeOf5
  have t28 := Tryz.underlying28
  have u28 := Tryz.runUnderlying28
  have g28 := Tryz.isAgg28
  have z28 := Tryz.sizeOf28
  have t30 := Tryz.underlying30
  have u30 := Tryz.runUnderlying30
  have g30 := Tryz.isAgg30
  have z30 := Tryz.sizeOf30
  have t69 := Tryz.underlying69
  have u69 := Tryz.runUnderlying69
  have g69 := Tryz.isAgg69
  have z69 := Tryz.sizeOf69
  have t93 := Tryz.underlying93
  have u93 := Tryz.runUnderlying93
  have g93 := Tryz.isAgg93
  have z93 := Tryz.sizeOf93
  have t95 := Tryz.underlying95
  have u95 := Tryz.runUnderlying95
  have g95 := Tryz.isAgg95
  have z95 := Tryz.sizeOf95
  have mixed : Tryz.prog.follows .mixedOrders = true := by kernel_rfl
  obtain ⟨k55, hk55⟩ : ∃ k, k = 8 := ⟨_, rfl⟩
  rw [← hk55] at z95
  have nk55 : ¬ k55 = 0 := by omega
  have HK95 := Lib.hid hk55
  have hP : Tryz.prog = PD := rfl
  rw [hP] at t3 u3 g3 z3 t5 u5 g5 z5 t28 u28 g28 z28 t30 u30 g30 z30 t69 u69 g69 z69 t93 u93 g93 z93 t95 u95 g95 z95 mixed v55 ⊢
  have HP := Lib.hid hP.symm
  clear hP hk55
  go_wp2_with fail
  obtain ⟨b1, b2, b3, hF⟩ := alloc3 w (.cells A 30) (.cells Z 95) (.cells Z 95)
  generalize ((w.alloc (.cells A 30)).alloc (.cells Z 95)).alloc (.cells Z 95) = w3 at b1 b2 b3 hF ⊢
  obtain ⟨n, hn⟩ : ∃ n, w.heap.size = n := ⟨_, rfl⟩
  rw [hn] at b1 b2 b3 ⊢
  have HN : Hid (w.heap.size = n ∧ Fr No w w3 ∧ w3.heap[n]? = some (.cells (adr b xs).toArray 30 (0, 0)) ∧ w3.heap[n + 1]? = some (.cells (nums .u16 [0, 0, 0, 0, 0, 0, 0, 0]).toArray 95 (0, 0)) ∧ w3.heap[n + 1 + 1]? = some (.cells (nums .u16 (gpart xs 0)).toArray 95 (0, 0))) := ⟨hn, hF, by rw [hA']; exact b1, by rw [hZ]; exact b2, by rw [show gpart xs 0 = [0, 0, 0, 0, 0, 0, 0, 0] from rfl, hZ]; exact b3⟩
  clear hn hF b1 b2 b3 v55 hj hA' hZ h0
  go_loopg [5] 9 (fun g s wr => ∃ i : Nat, s = .int .i64 i ∧ i ≤ 8 ∧ 8 - i < g ∧ Hid (Fr (fun k => k = n + 1 + 1) w3 wr ∧ wr.heap[n + 1 + 1]? = some (.cells (nums .u16 (gpart xs i)).toArray 95 (0, 0))))
  case atStart => exact ⟨0, by go_num, by omega, by omega, Fr.refl _ _, HN.out.2.2.2.2⟩
  case round =>
    obtain ⟨i, rfl, hi8, hig, HR⟩ := hrel
    have hbn : wr.heap[n]? = some (.cells (adr b xs).toArray 30 (0, 0)) := (HR.out.1.block n (Array.getElem?_eq_some_iff.1 HN.out.2.2.1).1 (by omega)).trans HN.out.2.2.1
    by_cases hi : i = 8
    · subst hi
      have hR := HR.out
      rw [show gpart xs 8 = grps xs from rfl] at hR
      have hbz : wr.heap[n + 1]? = some (.cells (nums .u16 [0, 0, 0, 0, 0, 0, 0, 0]).toArray 95 (0, 0)) := (hR.1.block (n + 1) (Array.getElem?_eq_some_iff.1 HN.out.2.2.2.1).1 (by omega)).trans HN.out.2.2.2.1
      have hA8 : (nums .u16 (grps xs)).toArray.size = 8 := rfl
      have hl : Sem.run PD (loadCellsFrom ⟨n + 1 + 1, 0, none⟩ 0 k55 #[]) wr = .ok (nums .u16 (grps xs)).toArray wr := by rw [HK95.out]; exact load_block hR.2 hA8 (fun j v hv => by simpa using hv)
      obtain ⟨y, hst, hyb, hyf⟩ := store_all (P := PD) (nums .u16 (grps xs)).toArray.toList hbz rfl (nums_one _ _)
      have hsk : (nums .u16 (grps xs)).toArray.size = k55 := by rw [HK95.out]; rfl
      have HY : Hid (y.heap[n + 1]? = some (.cells (nums .u16 (grps xs)).toArray 95 (0, 0)) ∧ Fr No w y) := by
        refine ⟨by simpa using hyb, ?_⟩
        refine (HN.out.2.1.ofNew hR.1 fun k hk => .inr (by rw [HN.out.1, hk]; omega)).ofNew hyf fun k hk => .inr (by rw [HN.out.1, hk]; omega)
      have H8 := Lib.hid hA8
      clear hA8 hR hbz hyb hyf HR hbn
      generalize hAA : (nums .u16 (grps xs)).toArray = G at hl hst hsk HY H8 ⊢
      have HAA := Lib.hid hAA
      clear hAA
      go_wp2_with fail
      refine bodyPost_ret_by (results_agg rfl _ (b := n + 1) (k := 8) (cs := G) (Tryz.isAgg95 _) (Tryz.sizeOf95 _) rfl (load_block HY.out.1 H8.out (fun j v hv => by simpa using hv))) rfl ?_
      exact ⟨by rw [HAA.out], HY.out.2⟩
    · obtain ⟨x, h1, e1, l1⟩ := get_or hx (2 * i) (by omega)
      obtain ⟨y, h2, e2, l2⟩ := get_or hx (2 * i + 1) (by omega)
      have k1 : wr.cell? ⟨n, 1 + 2 * i, none⟩ = some (.int .u8 x) := by rw [cell_of_row _ _ _ _ _ _ hbn]; simpa using adr_get h1
      have k2 : wr.cell? ⟨n, 1 + (2 * i + 1), none⟩ = some (.int .u8 y) := by rw [cell_of_row _ _ _ _ _ _ hbn]; simpa using adr_get h2
      have hgl : (gpart xs i).length = 8 := gpart_length xs (by omega)
      obtain ⟨z, hz⟩ : ∃ z, (gpart xs i)[i]? = some z := ⟨_, List.getElem?_eq_getElem (by rw [hgl]; omega)⟩
      have k3 : wr.cell? ⟨n + 1 + 1, i, none⟩ = some (.int .u16 z) := by rw [cell_of_row _ _ _ _ _ _ HR.out.2]; simpa using nums_get hz
      have f3 := frozen_of_row wr (n + 1 + 1) i _ _ HR.out.2
      have q1 : (0 : Int) ≤ (i : Int) := by omega
      have q2 : (i : Int) < 8 := by omega
      have q3 : (0 : Int) ≤ 2 * (i : Int) := by omega
      have q4 : 2 * (i : Int) < 16 := by omega
      have q5 : (0 : Int) ≤ 2 * (i : Int) + 1 := by omega
      have q6 : 2 * (i : Int) + 1 < 16 := by omega
      have HV : Hid (grp xs i = x * 256 + y) := by
        show _ = _
        rw [grp, e1, e2]
      have HO := Lib.hid (or_group' l1 l2)
      clear hbn hgl e1 e2 h1 h2 hz
      go_wp2_with fail
      go_region
      rw [HO.out, ← HV.out]
      have e1 := nums_set (i := i) (x := grp xs i) HR.out.2
      rw [gpart_step xs (by omega)] at e1
      have HE : Hid (Fr (fun k => k = n + 1 + 1) w3 (wr.setCell ⟨n + 1 + 1, i, none⟩ (.int .u16 (grp xs i))).drew ∧ (wr.setCell ⟨n + 1 + 1, i, none⟩ (.int .u16 (grp xs i))).drew.heap[n + 1 + 1]? = some (.cells (nums .u16 (gpart xs (i + 1))).toArray 95 (0, 0))) := ⟨HR.out.1.trans ((Fr.setCell (fun k => k = n + 1 + 1) _ _ _ rfl).trans (Fr.drew _ _)), e1⟩
      clear e1
      go_wp2_with fail
      go_roundg (8 - i)
      case measure => exact hig
      case rel => exact ⟨i + 1, by go_num, by omega, by omega, HE.out⟩
end Go.Proofs.YtmhnailcmlomiaaGreatDoor
namespace Go.Proofs.YtmhnailcmlomiaaGreatDoor
open Go.ChangeShapes Go.WideShapes Go.ChangeAt Go.RowKit
set_option linter.unusedVariables false

/-- The scan for the longest run of zeros: the groups left, the place, the best start and length, the run at hand. -/
def scanZ : List Nat → Nat → Nat → Nat → Nat → Nat × Nat
  | [], _, s, l, _ => (s, l)
  | g :: gs, i, s, l, r => if g ≠ 0 then scanZ gs (i + 1) s l 0 else if l < r + 1 then scanZ gs (i + 1) (i - r) (r + 1) (r + 1) else scanZ gs (i + 1) s l (r + 1)

theorem scanZ_step {gs : List Nat} {i g : Nat} (h : gs[i]? = some g) (s l r : Nat) : scanZ (gs.drop i) i s l r = if g ≠ 0 then scanZ (gs.drop (i + 1)) (i + 1) s l 0 else if l < r + 1 then scanZ (gs.drop (i + 1)) (i + 1) (i - r) (r + 1) (r + 1) else scanZ (gs.drop (i + 1)) (i + 1) s l (r + 1) := by
  obtain ⟨h1, e1⟩ := List.getElem?_eq_some_iff.1 h
  rw [List.drop_eq_getElem_cons h1, e1]
  rfl

theorem index_arr {A : Array Value} {i g : Nat} (h : A[i]? = some (.int .u16 g)) (hi : i < 8) (w : World) : Sem.run Tryz.prog (Instr.index 95 (.agg A) (.int .i64 i)) w = .ok (.int .u16 g) w := by
  have h1 : (0 : Int) ≤ (i : Int) ∧ (i : Int) < 8 := by omega
  simp [Instr.index, asIntOf, run_underlying Tryz.underlying95, Tryz.sizeOf93, part, Tryz.isAgg93, h1, h]
  omega

set_option maxHeartbeats 2000000 in
set_option maxRecDepth 100000 in
theorem longest_any (gs : List Nat) (h8 : gs.length = 8) (w : World) :
    Calls Tryz.prog 105 #[.agg (nums .u16 gs).toArray] w fun e w' => e = .returned (.tuple #[.int .i64 ((scanZ gs 0 0 0 0).1 : Nat), .int .i64 ((scanZ gs 0 0 0 0).2 : Nat)]) ∧ Fr No w w' := by
  have hj : ∀ i g : Nat, gs[i]? = some g → (nums .u16 gs).toArray[i]? = some (.int .u16 g) := fun i g h => by simpa using nums_get (k := .u16) h
  have hsz : (nums .u16 gs).toArray.size = 8 := by simp [nums, h8]
  have hl1 : Sem.run Tryz.prog (loadCellsFrom ⟨w.heap.size, 0, none⟩ 0 8 #[]) (w.alloc (.cells (nums .u16 gs).toArray 95)) = .ok (nums .u16 gs).toArray (w.alloc (.cells (nums .u16 gs).toArray 95)) := load_all (heap_alloc_new w _) (by simpa using hsz)
  generalize (nums .u16 gs).toArray = A at hj hsz hl1 ⊢
  have HF : Hid (Fr No w (w.alloc (.cells A 95))) := Fr.alloc No _ _
  have HS := Lib.hid (And.intro h8 hj)
  clear h8 hj hsz
  go_enter Tryz.func105, Tryz.ntmps105
  have t3 := Tryz.underlying3
  have u3 := Tryz.runUnderlying3
  have g3 := Tryz.isAgg3
  have z3 := Tryz.sizeOf3
  have t93 := Tryz.underlying93
  have u93 := Tryz.runUnderlying93
  have g93 := Tryz.isAgg93
  have z93 := Tryz.sizeOf93
  have t95 := Tryz.underlying95
  have u95 := Tryz.runUnderlying95
  have g95 := Tryz.isAgg95
  have z95 := Tryz.sizeOf95
  have mixed : Tryz.prog.follows .mixedOrders = true := by kernel_rfl
  obtain ⟨k55, hk55⟩ : ∃ k, k = 8 := ⟨_, rfl⟩
  rw [← hk55] at z95
  have nk55 : ¬ k55 = 0 := by omega
  have HK95 := Lib.hid hk55
  have hP : Tryz.prog = PD := rfl
  rw [hP] at t3 u3 g3 z3 t93 u93 g93 z93 t95 u95 g95 z95 mixed hl1 ⊢
  have HP := Lib.hid hP.symm
  clear hP hk55
  rw [← HK95.out] at hl1
  go_wp2_with fail
  clear hl1
  generalize w.alloc (.cells A 95) = w1 at HF ⊢
  generalize w.heap.size = n
  go_loopg [2, 3, 4, 8] 9 (fun g s2 s3 s4 s8 wr => ∃ s l r i : Nat, s2 = .int .i64 s ∧ s3 = .int .i64 l ∧ s4 = .int .i64 r ∧ s8 = .int .i64 i ∧ i ≤ 8 ∧ 8 - i < g ∧ r ≤ i ∧ l ≤ 8 ∧ Hid (wr = w1 ∧ scanZ (gs.drop i) i s l r = scanZ gs 0 0 0 0))
  case atStart => exact ⟨0, 0, 0, 0, rfl, rfl, rfl, rfl, by omega, by omega, by omega, by omega, rfl, rfl⟩
  case round =>
    obtain ⟨s, l, r, i, rfl, rfl, rfl, rfl, hi8, hig, hri, hl8, HR⟩ := hrel
    by_cases hi : i = 8
    · subst hi
      go_wp2_with fail
      go_ret2
      have h := HR.out.2
      rw [List.drop_of_length_le (by rw [HS.out.1]; omega)] at h
      exact ⟨by rw [← h]; rfl, by rw [HR.out.1]; exact HF.out⟩
    · obtain ⟨g, hg⟩ : ∃ g, gs[i]? = some g := ⟨_, List.getElem?_eq_getElem (by rw [HS.out.1]; omega)⟩
      have c1 : Sem.run PD (Instr.index 95 (.agg A) (.int .i64 i)) wr = .ok (.int .u16 g) wr := index_arr (HS.out.2 i g hg) (by omega) wr
      have q1 : (0 : Int) ≤ (i : Int) := by omega
      have q2 : (i : Int) < 8 := by omega
      have HV := Lib.hid (HR.out.2.symm.trans (scanZ_step hg s l r))
      by_cases hg0 : g = 0
      · subst hg0
        by_cases hlr : l < r + 1
        · have p1 : (l : Int) < (r : Int) + 1 := by omega
          go_wp2_with fail
          go_roundg (8 - i)
          case measure => exact hig
          case rel => exact ⟨i - r, r + 1, r + 1, i + 1, by go_num, by go_num, by go_num, by go_num, by omega, by omega, by omega, by omega, HR.out.1, by rw [HV.out, if_neg (by simp), if_pos hlr]⟩
        · have p1 : ¬ (l : Int) < (r : Int) + 1 := by omega
          go_wp2_with fail
          go_roundg (8 - i)
          case measure => exact hig
          case rel => exact ⟨s, l, r + 1, i + 1, rfl, rfl, by go_num, by go_num, by omega, by omega, by omega, by omega, HR.out.1, by rw [HV.out, if_neg (by simp), if_neg hlr]⟩
      · have p1 : ¬ (g : Int) = 0 := by omega
        go_wp2_with fail
        go_roundg (8 - i)
        case measure => exact hig
        case rel => exact ⟨s, l, 0, i + 1, rfl, rfl, rfl, by go_num, by omega, by omega, by omega, by omega, HR.out.1, by rw [HV.out, if_pos hg0]⟩
end Go.Proofs.YtmhnailcmlomiaaGreatDoor
namespace Go.Proofs.YtmhnailcmlomiaaGreatDoor
open Go.ChangeShapes Go.WideShapes Go.ChangeAt Go.RowKit
set_option linter.unusedVariables false

/-- A hexadecimal digit. -/
def hexD (d : Nat) : Nat := if d < 10 then 48 + d else 87 + d
/-- A number's hexadecimal digits. -/
def hexN (n : Nat) : List Nat := if h : n < 16 then [hexD n] else hexN (n / 16) ++ [hexD (n % 16)]
termination_by n
decreasing_by omega

/-- Numbers as a string. -/
def str (xs : List Nat) : ByteArray := ⟨(xs.map UInt8.ofNat).toArray⟩

theorem tz16 (w : World) (h : Glob w) : Calls Tryz.prog 141 #[.int .u64 16] w fun e w' => e = .returned (.int .i64 4) ∧ w' = w := by
  have c := h.tz 15 _ rfl 4 rfl
  have e1 : bits BinOp.and IntKind.u64 16 (IntKind.u64.wrap (-16)) = 16 := by decide
  have e2 : IntKind.u64.wrap (16 * 285870213051353865) = 4573923408821661840 := by decide
  go_enter Tryz.func141, Tryz.ntmps141
  go_wp2
  go_ret
  exact ⟨rfl, rfl⟩

theorem pow16 (w : World) : Calls Tryz.prog 140 #[.int .i64 16] w fun e w' => e = .returned (.bool true) ∧ w' = w := by
  go_enter Tryz.func140, Tryz.ntmps140
  go_wp2
  go_ret
  exact ⟨rfl, rfl⟩

theorem hexN_small {n : Nat} (h : n < 16) : hexN n = [hexD n] := by rw [hexN, dif_pos h]
theorem hexN_big {n : Nat} (h : 16 ≤ n) : hexN n = hexN (n / 16) ++ [hexD (n % 16)] := by rw [hexN, dif_neg (by omega)]
theorem hexD_lt {n : Nat} (h : n < 16) : hexD n < 256 := by unfold hexD; split <;> omega

/-- The row of digits while they are written: the last ones are there. -/
def Tail (L D : List Nat) (i : Nat) : Prop := L.length = 65 ∧ L.drop i = D

theorem Tail.set {L D : List Nat} {i d : Nat} (h : Tail L D (i + 1)) (hi : i < 65) : Tail (L.set i d) (d :: D) i := by
  refine ⟨by rw [List.length_set]; exact h.1, ?_⟩
  have hl : i < (L.set i d).length := by rw [List.length_set, h.1]; exact hi
  rw [List.drop_eq_getElem_cons hl, List.getElem_set_self, List.drop_set_of_lt (by omega), h.2]

theorem and15 {x : Nat} (h : x < 65536) : bits .and .u64 (x : Int) 15 = ((x % 16 : Nat) : Int) := by
  have h1 := bits_mask .u64 64 (by decide) (fun n h0 h1 => by rw [show IntKind.u64.wrap n = n % 18446744073709551616 by simp [IntKind.wrap, IntKind.bits, IntKind.signed]]; omega) 4 (by decide) (x : Int) (by omega) (by omega)
  have e : ((2 : Int) ^ 4 - 1) = 15 := by decide
  rw [e] at h1
  rw [h1]
  omega

/-- The digits that the program looks up. -/
def digs : ByteArray := ⟨#[48, 49, 50, 51, 52, 53, 54, 55, 56, 57, 97, 98, 99, 100, 101, 102, 103, 104, 105, 106, 107, 108, 109, 110, 111, 112, 113, 114, 115, 116, 117, 118, 119, 120, 121, 122]⟩

theorem digs_get {d : Nat} (h : d < 16) (h' : d < digs.size) : digs[d].toNat = hexD d := by
  have : d = 0 ∨ d = 1 ∨ d = 2 ∨ d = 3 ∨ d = 4 ∨ d = 5 ∨ d = 6 ∨ d = 7 ∨ d = 8 ∨ d = 9 ∨ d = 10 ∨ d = 11 ∨ d = 12 ∨ d = 13 ∨ d = 14 ∨ d = 15 := by omega
  rcases this with rfl | rfl | rfl | rfl | rfl | rfl | rfl | rfl | rfl | rfl | rfl | rfl | rfl | rfl | rfl | rfl <;> rfl

theorem strOfNums_str (D : List Nat) : strOfNums (D.map fun (x : Nat) => (x : Int)) = str D := by
  rw [strOfNums, List.map_map]; rfl

theorem str_conv {w : World} {n j : Nat} {L D : List Nat} {t : TypeId} {fr : Nat × Nat} (hb : w.heap[n]? = some (.cells (nums .u8 L).toArray t fr)) (hT : Tail L D j) (m c : Nat) (hm : D.length = m) : (convert 22 9 (.slice (some ⟨n, j, none⟩) m c)).run Tryz.prog w = .ok (.string (str D)) w := by
  rw [← strOfNums_str]
  refine run_convert_bytes_arg w 22 5 Tryz.underlying22 Tryz.underlying5 n j m c _ (by rw [List.length_map]; exact hm) ?_ 9 Tryz.underlying9
  intro i hi
  have hi' : i < D.length := by omega
  have h1 : L[j + i]? = some D[i] := by
    have := List.getElem?_eq_getElem hi'
    rw [← this, ← hT.2, List.getElem?_drop]
  rw [cell_of_row _ _ _ _ _ _ hb]
  have h2 := nums_get (k := .u8) h1
  simp [List.getD, List.getElem?_eq_getElem hi'] at h2 ⊢
  exact h2

set_option maxHeartbeats 2000000 in
set_option maxRecDepth 100000 in
theorem bits16 (u : Nat) (hu : u < 65536) (w : World) (hG : Glob w) :
    Calls Tryz.prog 119 #[.slice none 0 0, .int .u64 u, .int .i64 16, .bool false, .bool false] w fun e w' => e = .returned (.tuple #[.slice none 0 0, .string (str (hexN u))]) ∧ Fr No w w' := by
  go_enter Tryz.func119, Tryz.ntmps119
  go_wp2_with (first | (go_at_call 140; refine (pow16 _).mono ?_; rintro e w1 ⟨rfl, rfl⟩) | (go_at_call 141; refine (tz16 _ (hG.fr (Fr.alloc No _ _))).mono ?_; rintro e w1 ⟨rfl, rfl⟩))
  have hz : Tryz.zeroCells136 = (nums .u8 (List.replicate 65 0)).toArray := by kernel_rfl
  have hb : (w.alloc (.cells Tryz.zeroCells136 136)).heap[w.heap.size]? = some (.cells (nums .u8 (List.replicate 65 0)).toArray 136 (0, 0)) := by rw [← hz]; exact heap_alloc_new w _
  have hF := Fr.alloc No w (.cells Tryz.zeroCells136 136)
  generalize w.alloc (.cells Tryz.zeroCells136 136) = w1 at hb hF ⊢
  obtain ⟨n, hn⟩ : ∃ n, w.heap.size = n := ⟨_, rfl⟩
  rw [hn] at hb ⊢
  have HN := Lib.hid (And.intro hn (And.intro hF hb))
  clear hn hF hb hz
  go_loopg [1, 13] 65537 (fun g s1 s13 wr => ∃ v i : Nat, s1 = .int .u64 v ∧ s13 = .int .i64 i ∧ v < g ∧ v < 65536 ∧ Hid (∃ L D, i + D.length = 65 ∧ ((i = 65 ∧ v < 65536) ∨ (i = 64 ∧ v < 4096) ∨ (i = 63 ∧ v < 256) ∨ (i = 62 ∧ v < 16)) ∧ hexN v ++ D = hexN u ∧ Tail L D i ∧ (∀ x ∈ D, x < 256) ∧ wr.heap[n]? = some (.cells (nums .u8 L).toArray 136 (0, 0)) ∧ Fr (fun k => k = n) w1 wr))
  case atStart => exact ⟨u, 65, rfl, rfl, by omega, hu, List.replicate 65 0, [], rfl, .inl ⟨rfl, hu⟩, by simp, ⟨rfl, rfl⟩, by simp, HN.out.2.2, Fr.refl _ _⟩
  case round =>
    obtain ⟨v, i, rfl, rfl, hvg, hv6, HR⟩ := hrel
    obtain ⟨L, D, hiD, hcase, hhex, hT, hD, hblk, hfr⟩ := HR.out
    have hi62 : 62 ≤ i ∧ i ≤ 65 := by omega
    obtain ⟨j, rfl⟩ : ∃ j, i = j + 1 := ⟨i - 1, by omega⟩
    obtain ⟨z, hz⟩ : ∃ z, L[j]? = some z := ⟨_, List.getElem?_eq_getElem (by rw [hT.1]; omega)⟩
    have k1 : wr.cell? ⟨n, j, none⟩ = some (.int .u8 z) := by rw [cell_of_row _ _ _ _ _ _ hblk]; simpa using nums_get hz
    have f1 := frozen_of_row wr n j _ _ hblk
    have q1 : (0 : Int) ≤ (j : Int) := by omega
    have q2 : (j : Int) < 65 := by omega
    have q3 : ((j : Nat) : Int) + 1 - 1 = (j : Int) := by omega
    by_cases h16 : 16 ≤ v
    · have p1 : (16 : Int) ≤ (v : Int) := by omega
      have ha := and15 hv6
      have H := Lib.hid (And.intro hiD (And.intro hcase (And.intro hhex (And.intro hT (And.intro hD (And.intro hblk hfr))))))
      have q4 : (0 : Int) ≤ ((v % 16 : Nat) : Int) := by omega
      have q5 : ((v % 16 : Nat) : Int) < 36 := by omega
      clear hiD hcase hhex hT hD hblk hfr HR hz
      have hd16 : v % 16 < 16 := by omega
      generalize hd : v % 16 = d at ha q4 q5 hd16
      go_wp2_with fail
      go_roundg v
      case measure => exact hvg
      case rel =>
        obtain ⟨hiD, hcase, hhex, hT, hD, hblk, hfr⟩ := H.out
        have e : ∀ h', ((⟨#[48, 49, 50, 51, 52, 53, 54, 55, 56, 57, 97, 98, 99, 100, 101, 102, 103, 104, 105, 106, 107, 108, 109, 110, 111, 112, 113, 114, 115, 116, 117, 118, 119, 120, 121, 122]⟩ : ByteArray)[d]'h').toNat = hexD d := fun h' => digs_get hd16 h'
        rw [e]
        refine ⟨v / 16, j, by go_num, rfl, by omega, by omega, L.set j (hexD d), hexD d :: D, ?_, ?_, ?_, hT.set (by omega), ?_, nums_set hblk, ?_⟩
        · simp; omega
        · omega
        · rw [← hhex, hexN_big h16, hd]; simp
        · intro x hx
          rcases List.mem_cons.1 hx with rfl | hx
          · exact hexD_lt hd16
          · exact hD x hx
        · exact hfr.trans (Fr.setCell (fun k => k = n) _ _ _ rfl)
    · have p1 : ¬ (16 : Int) ≤ (v : Int) := by omega
      have hv16 : v < 16 := by omega
      have q4 : (0 : Int) ≤ (v : Int) := by omega
      have q5 : (v : Int) < 36 := by omega
      have hT' := hT.set (d := hexD v) (by omega : j < 65)
      have hb' := nums_set (i := j) (x := hexD v) hblk
      have e : ∀ h', ((⟨#[48, 49, 50, 51, 52, 53, 54, 55, 56, 57, 97, 98, 99, 100, 101, 102, 103, 104, 105, 106, 107, 108, 109, 110, 111, 112, 113, 114, 115, 116, 117, 118, 119, 120, 121, 122]⟩ : ByteArray)[v]'h').toNat = hexD v := fun h' => digs_get hv16 h'
      have hcv := str_conv hb' hT' (65 - j) (65 - j) (by simp; omega)
      have HF : Hid (Fr No w (wr.setCell ⟨n, j, none⟩ (.int .u8 (hexD v : Nat)))) := HN.out.2.1.ofNew (hfr.trans (Fr.setCell (fun k => k = n) _ _ _ rfl)) fun k hk => .inr (by rw [HN.out.1, hk]; exact Nat.le_refl _)
      have HV : Hid (str (hexD v :: D) = str (hexN u)) := by
        show _ = _
        rw [← hhex, hexN_small hv16]; rfl
      have q6 : (j : Int) ≤ 65 := by omega
      clear hiD hcase hhex hT hD hblk hfr HR hz hT' hb'
      generalize hexD v = dv at e hcv HF HV
      go_wp2_with fail
      go_ret2
      exact ⟨by rw [← HV.out]; rfl, HF.out⟩

set_option maxHeartbeats 2000000 in
set_option maxRecDepth 100000 in
theorem formatUint (u : Nat) (hu : u < 65536) (w : World) (hG : Glob w) :
    Calls Tryz.prog 120 #[.int .u64 u, .int .i64 16] w fun e w' => e = .returned (.string (str (hexN u))) ∧ Fr No w w' := by
  go_enter Tryz.func120, Tryz.ntmps120
  go_wp2_with (first | (go_at_call 142; go_in) | (go_at_call 119; refine (bits16 u hu _ hG).mono ?_; rintro e w1 ⟨rfl, hf⟩; have HF := Lib.hid hf; clear hf))
  go_ret
  exact ⟨rfl, HF.out⟩
end Go.Proofs.YtmhnailcmlomiaaGreatDoor
