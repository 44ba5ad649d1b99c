/-
  CONTRACTS of the helpers WithSpare, Unchanged, Overwrite and Equal at rules, over this seat's translation.
  Conditions: the rows lie in memory.
-/
import Derived.Test.YtnadendhboiliaaGreatRs
import Derived.Test.YtnadendhboiliaaGreatEq
namespace Go.Proofs.YtnadendhboiliaaGreat
open Go.ChangeShapes Go.WideShapes Go.ChangeAt Go.RowKit
set_option linter.unusedVariables false

theorem adr_eq8 {b c : Bool} {xs ys : List Nat} (hx : Bytes xs) (hy : Bytes ys) (w : World) : Sem.run Tryz.prog (Op.equalIn 9998 25 (.agg (adr b xs).toArray) (.agg (adr c ys).toArray)) w = .ok (decide (b = c ∧ xs = ys)) w := by
  have hS : Tryz.prog.underlying 25 = some (.struct (Tryz.prog.fieldsOf 25)) := by kernel_rfl
  have hF : Tryz.prog.fieldsOf 25 = #[{ name := "IPv6", type := 4, offset := 0, embedded := false, tag := "", pkgPath := "", byteOffset := 0 }, { name := "Bytes", type := 23, offset := 1, embedded := false, tag := "", pkgPath := "", byteOffset := 1 }] := by kernel_rfl
  have ex : ∀ (b : Bool) (xs : List Nat), Bytes xs → (adr b xs).toArray.extract 1 (1 + 16) = ((xs.map UInt8.ofNat).map Extern.Stop.cell).toArray := by
    intro b xs hx
    rw [← nums_u8 hx.2]
    apply Array.ext'
    simp [adr]
    rw [List.take_of_length_le (by rw [nums_length, hx.1]; omega)]
  have hE : Sem.run Tryz.prog (Op.equalIn 9997 23 (.agg ((adr b xs).toArray.extract 1 (1 + 16))) (.agg ((adr c ys).toArray.extract 1 (1 + 16)))) w = .ok (decide (xs = ys)) w := by
    rw [ex b xs hx, ex c ys hy, run_equalIn_bytes w 9995 23 5 16 Tryz.underlying23 Tryz.underlying5 Tryz.sizeOf5 _ _ (by simpa using hx.1) (by simpa using hy.1), ofNat_inj hx.2 hy.2]
  have hB : Sem.run Tryz.prog (Op.equalIn 9997 4 (.bool b) (.bool c)) w = .ok (b == c) w := by rw [run_equalIn_bool' w 9996 4 b c Tryz.underlying4]
  have h0 : ∀ (b : Bool) (xs : List Nat), (adr b xs).toArray[0]? = some (.bool b) := fun b xs => rfl
  rw [show (9998 : Nat) = 9997 + 1 from rfl, run_equalIn_agg w 9997 25 _ _ hS Tryz.stoodInHeld25, hF]
  have e1 : ∀ (b : Bool) (xs : List Nat), (adr b xs).toArray.extract 1 17 = (List.take 16 (adr b xs).tail).toArray := fun b xs => by apply Array.ext'; simp [adr]
  rw [show 1 + 16 = 17 from rfl, e1 b xs, e1 c ys] at hE
  simp [Op.eqFields, Go.part, Tryz.isAgg4, Tryz.isAgg23, Tryz.sizeOf23, h0, hB, hE]
  by_cases hxy : xs = ys <;> cases b <;> cases c <;> simp [hxy]

theorem pfx_eq9 {b c : Bool} {xs ys : List Nat} (p q : Int) (hx : Bytes xs) (hy : Bytes ys) (w : World) : Sem.run Tryz.prog (Op.equalIn 9999 29 (.agg (pfx b xs p).toArray) (.agg (pfx c ys q).toArray)) w = .ok (decide ((b = c ∧ xs = ys) ∧ p = q)) w := by
  have hS : Tryz.prog.underlying 29 = some (.struct (Tryz.prog.fieldsOf 29)) := by kernel_rfl
  have hF : Tryz.prog.fieldsOf 29 = #[{ name := "Addr", type := 25, offset := 0, embedded := false, tag := "", pkgPath := "", byteOffset := 0 }, { name := "Bits", type := 3, offset := 17, embedded := false, tag := "", pkgPath := "", byteOffset := 24 }] := by kernel_rfl
  have hex : ∀ (b : Bool) (xs : List Nat) (p : Int), Bytes xs → (pfx b xs p).toArray.extract 0 17 = (adr b xs).toArray := by
    intro b xs p hx
    apply Array.ext'
    simp [pfx]
    rw [List.take_append_of_le_length (by rw [adr_length, hx.1]; omega), List.take_of_length_le (by rw [adr_length, hx.1]; omega)]
  have h18 : ∀ (b : Bool) (xs : List Nat) (p : Int), Bytes xs → (pfx b xs p).toArray[17]? = some (.int .i64 p) := fun b xs p hx => by
    rw [List.getElem?_toArray, pfx, List.getElem?_append_right (by rw [adr_length, hx.1]; omega), adr_length, hx.1]; rfl
  have h1 := adr_eq8 (b := b) (c := c) hx hy w
  have hI : Sem.run Tryz.prog (Op.equalIn 9998 3 (.int .i64 p) (.int .i64 q)) w = .ok (p == q) w := run_equalIn_int w 9997 3 _ _ p q Tryz.underlying3
  rw [show (9999 : Nat) = 9998 + 1 from rfl, run_equalIn_agg w 9998 29 _ _ hS Tryz.stoodInHeld29, hF]
  have e1 := hex b xs p hx
  have e2 := hex c ys q hy
  have p1 := h18 b xs p hx
  have p2 := h18 c ys q hy
  generalize (pfx b xs p).toArray = T1 at e1 p1 ⊢
  generalize (pfx c ys q).toArray = T2 at e2 p2 ⊢
  simp [Op.eqFields, Go.part, Tryz.isAgg25, Tryz.isAgg3, Tryz.sizeOf25, p1, p2, e1, e2, h1, hI]
  by_cases hb : b = c <;> by_cases ha : xs = ys <;> by_cases hp : p = q <;> simp [hb, ha, hp]

theorem ru_same (r : Ru) (h : Bytes r.p.xs) (w : World) : Sem.run Tryz.prog (Op.equalIn 10000 31 (.agg (ruC r).toArray) (.agg (ruC r).toArray)) w = .ok true w := by
  have hS : Tryz.prog.underlying 31 = some (.struct (Tryz.prog.fieldsOf 31)) := by kernel_rfl
  have hF : Tryz.prog.fieldsOf 31 = #[{ name := "Allow", type := 4, offset := 0, embedded := false, tag := "", pkgPath := "", byteOffset := 0 }, { name := "Suffix", type := 9, offset := 1, embedded := false, tag := "", pkgPath := "", byteOffset := 8 }, { name := "Prefix", type := 29, offset := 2, embedded := false, tag := "", pkgPath := "", byteOffset := 24 }, { name := "PortMin", type := 3, offset := 20, embedded := false, tag := "", pkgPath := "", byteOffset := 56 }, { name := "PortMax", type := 3, offset := 21, embedded := false, tag := "", pkgPath := "", byteOffset := 64 }] := by kernel_rfl
  have e2 : (ruC r).toArray.extract 2 20 = (pfx r.p.b r.p.xs r.p.n).toArray := by
    apply Array.ext'
    simp only [List.extract_toArray, List.extract_eq_take_drop]
    show (((pfx r.p.b r.p.xs r.p.n) ++ [Value.int .i64 r.lo, Value.int .i64 r.hi]).take (20 - 2)) = _
    rw [List.take_append_of_le_length (by rw [pfx_length h.1]; decide), List.take_of_length_le (by rw [pfx_length h.1]; decide)]
  obtain ⟨R, hR, hRs, d0, d1, d19, d20, d21, -, -⟩ := ru_letter r h
  have hP : Sem.run Tryz.prog (Op.equalIn 9999 29 (.agg (pfx r.p.b r.p.xs r.p.n).toArray) (.agg (pfx r.p.b r.p.xs r.p.n).toArray)) w = .ok true w := by
    rw [pfx_eq9 r.p.n r.p.n h h w, decide_eq_true ⟨⟨rfl, rfl⟩, rfl⟩]
  have hI : ∀ p : Int, Sem.run Tryz.prog (Op.equalIn 9999 3 (.int .i64 p) (.int .i64 p)) w = .ok true w := fun p => by rw [run_equalIn_int w 9998 3 _ _ p p Tryz.underlying3]; simp
  have hB : Sem.run Tryz.prog (Op.equalIn 9999 4 (.bool r.al) (.bool r.al)) w = .ok true w := by rw [run_equalIn_bool' w 9998 4 _ _ Tryz.underlying4]; simp
  have hT : Sem.run Tryz.prog (Op.equalIn 9999 9 (.string (bs r.sf)) (.string (bs r.sf))) w = .ok true w := by rw [run_equalIn_string w 9998 9 _ _ Tryz.underlying9]; simp
  rw [show (10000 : Nat) = 9999 + 1 from rfl, run_equalIn_agg w 9999 31 _ _ hS Tryz.stoodInHeld31, hF]
  rw [hR] at e2 ⊢
  generalize (pfx r.p.b r.p.xs r.p.n).toArray = T at e2 hP
  generalize bs r.sf = s at d1 hT
  simp [Op.eqFields, Go.part, Tryz.isAgg4, Tryz.isAgg9, Tryz.isAgg29, Tryz.isAgg3, Tryz.sizeOf29, d0, d1, d20, d21, e2, hP, hI, hB, hT]

set_option maxHeartbeats 4000000 in
set_option maxRecDepth 100000 in
theorem eqR_any (p : Ru) (hp : Bytes p.p.xs) (w : World) : Calls Tryz.prog 42 #[.agg (ruC p).toArray, .agg (ruC p).toArray] w fun e w' => e = .returned (.bool true) ∧ Fr No w w' := by
  obtain ⟨P, hP, hPs, -⟩ := ru_letter p hp
  have hEQ : ∀ w', Sem.run Tryz.prog (Op.equalIn 10000 31 (.agg P) (.agg P)) w' = .ok true w' := fun w' => by rw [← hP]; exact ru_same p hp w'
  rw [hP]
  obtain ⟨b1, b2, hF⟩ := alloc2 w (.cells P 31) (.cells P 31)
  have HF := Lib.hid hF
  have l1 : Sem.run Tryz.prog (loadCellsFrom ⟨w.heap.size, 0, none⟩ 0 22 #[]) ((w.alloc (.cells P 31)).alloc (.cells P 31)) = .ok P ((w.alloc (.cells P 31)).alloc (.cells P 31)) := load_block b1 hPs (fun j v hv => by simpa using hv)
  have l2 : Sem.run Tryz.prog (loadCellsFrom ⟨w.heap.size + 1, 0, none⟩ 0 22 #[]) ((w.alloc (.cells P 31)).alloc (.cells P 31)) = .ok P ((w.alloc (.cells P 31)).alloc (.cells P 31)) := load_block b2 hPs (fun j v hv => by simpa using hv)
  have q31 := Tryz.eqGuardType31
  clear b1 b2 hF hP
  go_enter Tryz.func42, Tryz.ntmps42
  have t3 := Tryz.underlying3
  have u3 := Tryz.runUnderlying3
  have g3 := Tryz.isAgg3
  have z3 := Tryz.sizeOf3
  have t4 := Tryz.underlying4
  have u4 := Tryz.runUnderlying4
  have g4 := Tryz.isAgg4
  have z4 := Tryz.sizeOf4
  have t25 := Tryz.underlying25
  have u25 := Tryz.runUnderlying25
  have g25 := Tryz.isAgg25
  have z25 := Tryz.sizeOf25
  have t29 := Tryz.underlying29
  have u29 := Tryz.runUnderlying29
  have g29 := Tryz.isAgg29
  have z29 := Tryz.sizeOf29
  have t31 := Tryz.underlying31
  have u31 := Tryz.runUnderlying31
  have g31 := Tryz.isAgg31
  have z31 := Tryz.sizeOf31
  have mixed : Tryz.prog.follows .mixedOrders = true := by kernel_rfl
  obtain ⟨k22, hk22⟩ : ∃ k, k = 22 := ⟨_, rfl⟩
  rw [← hk22] at z31
  have nk22 : ¬ k22 = 0 := by omega
  have HK31 := Lib.hid hk22
  have hP : Tryz.prog = PD := rfl
  rw [hP] at t3 u3 g3 z3 t4 u4 g4 z4 t25 u25 g25 z25 t29 u29 g29 z29 t31 u31 g31 z31 mixed l1 l2 hEQ q31 ⊢
  have HP := Lib.hid hP.symm
  clear hP hk22
  have hPk : P.size = k22 := by rw [HK31.out]; exact hPs
  rw [← HK31.out] at l1 l2
  clear hPs
  go_wp2_with fail
  go_ret
  exact ⟨rfl, HF.out⟩
theorem RowR.load {w : World} {a : Option Addr} {A : List Ru} (h : RowR w a A) {i : Nat} {q : Ru} (hq : A[i]? = some q) : ∃ b o, a = some ⟨b, o, none⟩ ∧ ∀ (P : Program) (w' : World), Fr No w w' → Sem.run P (loadCellsFrom ⟨b, o + i * 22, none⟩ 0 22 #[]) w' = .ok (ruC q).toArray w' := by
  obtain ⟨b, o, ha, -, hc⟩ := h.cell hq
  exact ⟨b, o, ha, fun P w' hf => (hc w' hf).1 P⟩

set_option maxHeartbeats 4000000 in
set_option maxRecDepth 100000 in
theorem equalF_same (a b : Option Addr) (n c d : Nat) (A : List Ru) (w : World) (hx : RowR w a A) (hy : RowR w b A) (hA : A.length = n) (hn : n ≤ 100000) :
    Calls Tryz.prog 41 #[.slice a n c, .slice b n d, .func (.func 42) #[] #[]] w fun e w' => e = .returned (.bool true) ∧ Fr No w w' := by
  have HX := Lib.hid (And.intro hx (And.intro hy hA))
  clear hx hy hA
  go_enter Tryz.func41, Tryz.ntmps41
  have t3 := Tryz.underlying3
  have u3 := Tryz.runUnderlying3
  have g3 := Tryz.isAgg3
  have z3 := Tryz.sizeOf3
  have t4 := Tryz.underlying4
  have u4 := Tryz.runUnderlying4
  have g4 := Tryz.isAgg4
  have z4 := Tryz.sizeOf4
  have t22 := Tryz.underlying22
  have u22 := Tryz.runUnderlying22
  have g22 := Tryz.isAgg22
  have z22 := Tryz.sizeOf22
  have t29 := Tryz.underlying29
  have u29 := Tryz.runUnderlying29
  have g29 := Tryz.isAgg29
  have z29 := Tryz.sizeOf29
  have t31 := Tryz.underlying31
  have u31 := Tryz.runUnderlying31
  have g31 := Tryz.isAgg31
  have z31 := Tryz.sizeOf31
  have c42 := Tryz.call42
  have mixed : Tryz.prog.follows .mixedOrders = true := by kernel_rfl
  obtain ⟨k22, hk22⟩ : ∃ k, k = 22 := ⟨_, rfl⟩
  rw [← hk22] at z31
  have nk22 : ¬ k22 = 0 := by omega
  have HK31 := Lib.hid hk22
  have hP : Tryz.prog = PD := rfl
  rw [hP] at t3 u3 g3 z3 t4 u4 g4 z4 t22 u22 g22 z22 t29 u29 g29 z29 t31 u31 g31 z31 c42 mixed ⊢
  have HP := Lib.hid hP.symm
  clear hP hk22
  go_wp2_with fail
  go_loopg [7] (n + 1) (fun g s wr => ∃ (i : Nat), s = .int .i64 i ∧ i ≤ n ∧ n - i < g ∧ Hid (Fr No w wr))
  case atStart => exact ⟨0, by go_num, by omega, by omega, Fr.refl _ _⟩
  case round =>
    obtain ⟨i, rfl, hin, hig, HR⟩ := hrel
    by_cases hi : i < n
    · obtain ⟨x, gx⟩ : ∃ x, A[i]? = some x := ⟨_, List.getElem?_eq_getElem (by rw [HX.out.2.2]; exact hi)⟩
      obtain ⟨bx, ox, rfl, lx⟩ := HX.out.1.load gx
      obtain ⟨by_, oy, rfl, ly⟩ := HX.out.2.1.load gx
      have hbx := HX.out.1.1 x (List.mem_of_getElem? gx)
      obtain ⟨X, hX, hXs, -⟩ := ru_letter x hbx
      have HCE : Hid (∀ w', Calls Tryz.prog 42 #[.agg X, .agg X] w' fun e w'' => e = .returned (.bool true) ∧ Fr No w' w'') := fun w' => by rw [← hX]; exact eqR_any x hbx w'
      have hXk : X.size = k22 := by rw [HK31.out]; exact hXs
      rw [hX] at lx ly
      have HS : Hid (∀ w', Fr No w w' → Fr No w w' ∧ Sem.run PD (loadCellsFrom ⟨bx, ox + i * k22, none⟩ 0 k22 #[]) w' = .ok X w' ∧ Sem.run PD (loadCellsFrom ⟨by_, oy + i * k22, none⟩ 0 k22 #[]) w' = .ok X w') := fun w' hf => ⟨hf, by rw [HK31.out]; exact lx PD w' hf, by rw [HK31.out]; exact ly PD w' hf⟩
      have p1 : (0 : Int) ≤ (i : Int) := by omega
      have p2 : (i : Int) < (n : Int) := by omega
      have f1 := HS.out _ (HR.out.trans (Fr.drew _ _))
      clear gx lx ly hbx hX hXs
      go_wp2_with fail
      go_region_held3 (fun w' => Fr No w w' ∧ Sem.run PD (loadCellsFrom ⟨bx, ox + i * k22, none⟩ 0 k22 #[]) w' = .ok X w' ∧ Sem.run PD (loadCellsFrom ⟨by_, oy + i * k22, none⟩ 0 k22 #[]) w' = .ok X w') (first | assumption | exact HS.out _ K3) (first | (go_at_call 42; go_loud (refine (at_prog HP.out (HCE.out _)).mono ?_; rintro e w3 ⟨rfl, hf3⟩; have K3 : Fr No w w3 := Fr.trans (And.left (by assumption)) hf3)))
      go_wp2_with fail
      go_roundg (n - i)
      case measure => exact hig
      case rel => exact ⟨i + 1, by go_num, by omega, by omega, K3⟩
    · obtain rfl : i = n := by omega
      have p2 : ¬ ((i : Int) < (i : Int)) := by omega
      go_wp2_with fail
      go_ret
      exact ⟨rfl, HR.out⟩
theorem equal_same (a b : Option Addr) (n c d : Nat) (A : List Ru) (w : World) (hx : RowR w a A) (hy : RowR w b A) (hA : A.length = n) (hn : n ≤ 100000) :
    Calls Tryz.prog 22 #[.slice a n c, .slice b n d] w fun e w' => e = .returned (.bool true) ∧ Fr No w w' := by
  have HX := Lib.hid (And.intro hx (And.intro hy hA))
  clear hx hy hA
  go_enter Tryz.func22, Tryz.ntmps22
  go_wp2_with (first | (go_at_call 41; refine (equalF_same a b n c d A _ HX.out.1 HX.out.2.1 HX.out.2.2 hn).mono ?_; rintro e w1 ⟨rfl, hf⟩) | fail)
  go_ret
  exact ⟨rfl, hf⟩

set_option maxHeartbeats 2000000 in
set_option maxRecDepth 100000 in
theorem overwrite_any (g n cp : Nat) (cur0 : Array Value) (w : World) (h : w.heap[g]? = some (.cells cur0 31 (0, 0))) (hs : n * 22 ≤ cur0.size) (hn : n ≤ 100000) :
    Calls Tryz.prog 8 #[.slice (some ⟨g, 0, none⟩) n cp] w fun e w' => e = .returned (.tuple #[]) ∧ Fr (fun k => k = g) w w' := by
  obtain ⟨Z, hZ⟩ : ∃ Z : Array Value, (ruC zRu).toArray = Z := ⟨_, rfl⟩
  have v31 := zero31
  rw [hZ] at v31
  have hZs : Z.size = 22 := by rw [← hZ]; rfl
  have hZ1 : ∀ u ∈ Z.toList, u.oneCell' = true := by rw [← hZ]; exact ruC_one _
  have HW := Lib.hid (And.intro h (And.intro hs (And.intro hZ1 hZs)))
  have hgl : g < w.heap.size := some_lt h
  have HGL := Lib.hid hgl
  clear h hs hZ1 hZ hgl
  go_enter Tryz.func8, Tryz.ntmps8
  have t3 := Tryz.underlying3
  have u3 := Tryz.runUnderlying3
  have g3 := Tryz.isAgg3
  have z3 := Tryz.sizeOf3
  have t22 := Tryz.underlying22
  have u22 := Tryz.runUnderlying22
  have g22 := Tryz.isAgg22
  have z22 := Tryz.sizeOf22
  have t31 := Tryz.underlying31
  have u31 := Tryz.runUnderlying31
  have g31 := Tryz.isAgg31
  have z31 := Tryz.sizeOf31
  have mixed : Tryz.prog.follows .mixedOrders = true := by kernel_rfl
  obtain ⟨k22, hk22⟩ : ∃ k, k = 22 := ⟨_, rfl⟩
  rw [← hk22] at z31
  have nk22 : ¬ k22 = 0 := by omega
  have HK31 := Lib.hid hk22
  have hP : Tryz.prog = PD := rfl
  rw [hP] at t3 u3 g3 z3 t22 u22 g22 z22 t31 u31 g31 z31 mixed v31 ⊢
  have HP := Lib.hid hP.symm
  clear hP hk22
  have hZk : Z.size = k22 := by rw [HK31.out]; exact hZs
  clear hZs
  go_wp2_with fail
  go_loopg [3] (n + 1) (fun gg s wr => ∃ (i : Nat), s = .int .i64 i ∧ i ≤ n ∧ n - i < gg ∧ Hid (Fr (fun k => k = g) w wr ∧ wr.heap[w.heap.size]? = some (.cells Z 31 (0, 0)) ∧ ∃ cur, wr.heap[g]? = some (.cells cur 31 (0, 0)) ∧ n * 22 ≤ cur.size))
  case atStart => exact ⟨0, by go_num, by omega, by omega, Fr.alloc _ _ _, heap_alloc_new w _, cur0, (Fr.alloc No w _).keep HW.out.1, HW.out.2.1⟩
  case round =>
    obtain ⟨i, rfl, hin, hig, HR⟩ := hrel
    by_cases hi : i < n
    · obtain ⟨hf, hz, cur, h4, h5⟩ := HR.out
      have lz : Sem.run PD (loadCellsFrom ⟨w.heap.size, 0, none⟩ 0 k22 #[]) wr = .ok Z wr := load_block hz hZk (fun j v hv => by simpa using hv)
      obtain ⟨y, hst, hyb, hyf⟩ := store_at (P := PD) (o := i * k22) Z.toList h4 (by rw [Array.length_toList, HW.out.2.2.2, HK31.out]; omega) HW.out.2.2.1
      have HG := Lib.hid (And.intro hf (And.intro hz (And.intro h5 (And.intro hyb hyf))))
      have p1 : (0 : Int) ≤ (i : Int) := by omega
      have p2 : (i : Int) < (n : Int) := by omega
      clear hf hz h4 h5 hyb hyf
      go_wp2_with fail
      go_roundg (n - i)
      case measure => exact hig
      case rel =>
        obtain ⟨hf, hz, h5, hyb, hyf⟩ := HG.out
        refine ⟨i + 1, by go_num, by omega, by omega, hf.trans hyf, (hyf.block _ (some_lt hz) (fun hc => by have := HGL.out; omega)).trans hz, _, hyb, ?_⟩
        have := HW.out.2.2.2
        simp
        rw [HK31.out]
        omega
    · obtain rfl : i = n := by omega
      have p2 : ¬ ((i : Int) < (i : Int)) := by omega
      go_wp2_with fail
      go_end0
      exact ⟨rfl, HR.out.1⟩
theorem RowR.left {w : World} {a : Option Addr} {A B : List Ru} (h : RowR w a (A ++ B)) : RowR w a A :=
  ⟨fun r hr => h.1 r (List.mem_append_left _ hr), fun hne => by
    obtain ⟨b, o, cs, T, f, h1, h2, h3⟩ := h.2 (by simp [hne])
    exact ⟨b, o, cs, T, f, h1, h2, fun j v hj => h3 j v (by rw [flatR_append, List.getElem?_append_left (List.getElem?_eq_some_iff.1 hj).1]; exact hj)⟩⟩
theorem row_cap31 {w : World} {base n c : Nat} {a : Option Addr} {xs : List Value} (h : w.ownsRow base 31 22 (.slice a n c) n xs) (hn : 0 < n) : n ≤ c ∧ c ≤ 9223372036854775807 := by
  rcases h.2 with ⟨hv, h0⟩ | ⟨g, cap, cur, hv, hb, hg, h1, h2, h3, h4⟩
  · omega
  · cases hv
    exact ⟨h1, h2⟩
theorem fill_three (q : Ru) (h : Bytes q.p.xs) : Instr.fill (fun i => some (i * 22, 22)) ((Array.range (3 * 22)).map ((ruC zRu).toArray[· % (ruC zRu).toArray.size]!)) [(0, .agg (ruC q).toArray), (1, .agg (ruC q).toArray), (2, .agg (ruC q).toArray)] = some (flatR [q, q, q]).toArray := by
  obtain ⟨al, sf, ⟨b, xs, n⟩, lo, hi⟩ := q
  match xs, h.1 with
  | [_, _, _, _, _, _, _, _, _, _, _, _, _, _, _, _], _ =>
    show _ = _
    kernel_rfl
set_option maxHeartbeats 4000000 in
set_option maxRecDepth 100000 in
theorem spare_any (a : Option Addr) (n n3 cap : Nat) (L : List Ru) (z : Ru) (hz : Bytes z.p.xs) (w : World) (hr : RowR w a L) (hn : L.length = n) (hnil : a = none → n = 0 ∧ cap = 0) (hm : n ≤ 100000) (h3 : n + 3 = n3) :
    Calls Tryz.prog 5 #[.slice a n cap, .agg (ruC z).toArray] w fun e w' => ∃ g c2, e = .returned (.slice (some ⟨g, 0, none⟩) n n3) ∧ w'.ownsRow w.heap.size 31 22 (.slice (some ⟨g, 0, none⟩) n3 c2) n3 (flatR (L ++ [z, z, z])) ∧ Fr No w w' := by
  obtain ⟨Z, hZ, hZs, -⟩ := ru_letter z hz
  have HFT := Lib.hid (fill_three z hz)
  rw [hZ] at HFT ⊢
  have HZ := Lib.hid (And.intro hZ hz)
  have hb1 := heap_alloc_new w (.cells Z 31)
  have hF1 := Fr.alloc No w (.cells Z 31)
  obtain ⟨w1, hw1⟩ : ∃ w1, w.alloc (.cells Z 31) = w1 := ⟨_, rfl⟩
  obtain ⟨zb, hzb⟩ : ∃ zb, w.heap.size = zb := ⟨_, rfl⟩
  rw [hw1, hzb] at hb1
  rw [hw1] at hF1
  have HB := Lib.hid (And.intro hb1 (And.intro hF1 hzb))
  have HO : Hid ((w1.alloc (.cells #[] 31)).ownsRow w1.heap.size 31 22 (.slice (some ⟨w1.heap.size, 0, none⟩) 0 0) 0 []) := World.ownsRow_made w1 #[] 0 (Nat.le_refl _) (Nat.zero_le _) rfl
  have HF0 : Hid (Fr No w (w1.alloc (.cells #[] 31))) := hF1.trans (Fr.alloc No w1 _)
  have HAT : Hid (At (w1.alloc (.cells #[] 31)) a (flatR L)) := (RowR.at hr).frNo HF0.out
  have HOK := Lib.hid (And.intro hr.1 (And.intro hn (And.intro hnil h3)))
  have hl : (flatR L).length = n * 22 := by rw [flatR_length hr.1, hn]
  have HL := Lib.hid hl
  have e3 : (n3 : Int) - 3 = (n : Int) := by omega
  have p1 : (0 : Int) ≤ (n : Int) := by omega
  have p2 : (n : Int) ≤ (n3 : Int) := by omega
  have hn3 : n3 ≤ 17592186044000 := by omega
  clear hr hn hnil h3 hl hb1 hF1 hZ hz
  go_enter Tryz.func5, Tryz.ntmps5
  have t3 := Tryz.underlying3
  have u3 := Tryz.runUnderlying3
  have g3 := Tryz.isAgg3
  have z3 := Tryz.sizeOf3
  have t4 := Tryz.underlying4
  have u4 := Tryz.runUnderlying4
  have g4 := Tryz.isAgg4
  have z4 := Tryz.sizeOf4
  have t9 := Tryz.underlying9
  have u9 := Tryz.runUnderlying9
  have g9 := Tryz.isAgg9
  have z9 := Tryz.sizeOf9
  have t22 := Tryz.underlying22
  have u22 := Tryz.runUnderlying22
  have g22 := Tryz.isAgg22
  have z22 := Tryz.sizeOf22
  have t25 := Tryz.underlying25
  have u25 := Tryz.runUnderlying25
  have g25 := Tryz.isAgg25
  have z25 := Tryz.sizeOf25
  have t29 := Tryz.underlying29
  have u29 := Tryz.runUnderlying29
  have g29 := Tryz.isAgg29
  have z29 := Tryz.sizeOf29
  have t31 := Tryz.underlying31
  have u31 := Tryz.runUnderlying31
  have g31 := Tryz.isAgg31
  have z31 := Tryz.sizeOf31
  have mixed : Tryz.prog.follows .mixedOrders = true := by kernel_rfl
  obtain ⟨k22, hk22⟩ : ∃ k, k = 22 := ⟨_, rfl⟩
  rw [← hk22] at z31
  have nk22 : ¬ k22 = 0 := by omega
  have HK31 := Lib.hid hk22
  have hP : Tryz.prog = PD := rfl
  rw [hP] at t3 u3 g3 z3 t4 u4 g4 z4 t9 u9 g9 z9 t22 u22 g22 z22 t25 u25 g25 z25 t29 u29 g29 z29 t31 u31 g31 z31 mixed ⊢
  have HP := Lib.hid hP.symm
  clear hP hk22
  have hZk : Z.size = k22 := by rw [HK31.out]; exact hZs
  have HLD : Hid (∀ w', Fr No w1 w' → Sem.run PD (loadCellsFrom ⟨zb, 0, none⟩ 0 k22 #[]) w' = .ok Z w') := fun w' hf => load_block (hf.keep HB.out.1) hZk (fun j v hv => by simpa using hv)
  clear hZs
  go_wp2_with (first
    | (at_builtin; go_loud (refine wpList_append_many ewR rfl (.tmp 6) (.tmp 7) rfl w1.heap.size _ 0 [] rfl HO.out a n cap (flatR L) rfl (flatR_one _) HL.out HAT.out HOK.out.2.2.1 (by omega) (by decide) (by simp) ?_; intro a2 c2 w2 ho2 hg2 hb2; rw [Nat.zero_add] at ho2 ⊢; rw [List.nil_append] at ho2; have hf2 : Fr No w1 w2 := Fr.own_grown_w (Fr.alloc No w1 _) HO.out (Nat.le_refl _) hg2; have lz := HLD.out w2 hf2; have H2 := Lib.hid (And.intro ho2 hf2); clear ho2 hg2 hb2 hf2))
    | (refine law_slice30P HP.out rfl 3 #[(0, .tmp 10), (1, .tmp 11), (2, .tmp 12)] ?_ (by decide) (by decide) _ rfl _ HFT.out ?_; (· rfl))
    | (at_builtin; go_loud (refine wpList_append_many ewR rfl (.tmp 9) (.tmp 13) rfl w1.heap.size _ n (flatR L) rfl (row_frNo H2.out.1 (Fr.alloc No w2 _)) (some ⟨w2.heap.size, 0, none⟩) 3 3 (flatR [z, z, z]) rfl (flatR_one _) (flatR_length (fun r hr => by have h : r = z := (by simpa using hr); rw [h]; exact HZ.out.2)) (At.block (heap_alloc_new w2 (.cells (flatR [z, z, z]).toArray 31))) (fun h => by cases h) (by omega) (by decide) (Nat.le_trans H2.out.2.size (Fr.alloc No w2 _).size) ?_; intro a3 c3 w3 ho3 hg3 hb3; rw [HOK.out.2.2.2] at ho3 ⊢; obtain ⟨g3, cap3, hv3, _⟩ := ho3.form (by have := HOK.out.2.2.2; omega); cases hv3; have hc3 := (row_cap31 ho3 (by have := HOK.out.2.2.2; omega)).1; have hc63 := (row_cap31 ho3 (by have := HOK.out.2.2.2; omega)).2; have H3 := Lib.hid (And.intro ho3 (Fr.own_grown_w (H2.out.2.trans (Fr.alloc No w2 _)) (row_frNo H2.out.1 (Fr.alloc No w2 _)) (Nat.le_refl _) hg3)); clear ho3 hg3 hb3))
    | fail)
  go_ret
  exact ⟨g3, c3, rfl, by rw [flatR_append]; exact row_base_w H3.out.1 HB.out.2.1.size, HB.out.2.1.trans H3.out.2⟩

set_option maxHeartbeats 4000000 in
set_option maxRecDepth 100000 in
theorem unchanged_any (g n n3 cap : Nat) (b : Option Addr) (L : List Ru) (z : Ru) (hz : Bytes z.p.xs) (w : World) (hx : RowR w (some ⟨g, 0, none⟩) (L ++ [z, z, z])) (hy : RowR w b L) (hn : L.length = n) (hm : n ≤ 100000) (h3 : n + 3 = n3) :
    Calls Tryz.prog 7 #[.slice (some ⟨g, 0, none⟩) n n3, .slice b n cap, .agg (ruC z).toArray] w fun e w' => e = .returned (.bool true) ∧ Fr No w w' := by
  obtain ⟨Z, hZ, hZs, -⟩ := ru_letter z hz
  have hEQ : ∀ w', Sem.run Tryz.prog (Op.equalIn 10000 31 (.agg Z) (.agg Z)) w' = .ok true w' := fun w' => by rw [← hZ]; exact ru_same z hz w'
  have HZ := Lib.hid (And.intro hZ (And.intro hn h3))
  rw [hZ]
  have hb1 := heap_alloc_new w (.cells Z 31)
  have hF1 := Fr.alloc No w (.cells Z 31)
  obtain ⟨w1, hw1⟩ : ∃ w1, w.alloc (.cells Z 31) = w1 := ⟨_, rfl⟩
  obtain ⟨zb, hzb⟩ : ∃ zb, w.heap.size = zb := ⟨_, rfl⟩
  rw [hw1, hzb] at hb1
  rw [hw1] at hF1
  have HB := Lib.hid (And.intro hb1 (And.intro hF1 hzb))
  have HX : Hid (RowR w1 (some ⟨g, 0, none⟩) (L ++ [z, z, z]) ∧ RowR w1 b L) := ⟨hx.no hF1, hy.no hF1⟩
  have HES : Hid (∀ w', Fr No w1 w' → Calls Tryz.prog 22 #[.slice (some ⟨g, 0, none⟩) n n3, .slice b n cap] w' fun e w'' => e = .returned (.bool true) ∧ Fr No w' w'') := fun w' hf => equal_same _ b n n3 cap L w' (HX.out.1.left.no hf) (HX.out.2.no hf) HZ.out.2.1 hm
  have e3 : (n : Int) + 3 = (n3 : Int) := by omega
  have p0 : ¬ ((n3 : Int) < (n3 : Int)) := by omega
  have p1 : (0 : Int) ≤ (n3 : Int) := by omega
  have hn3 : n3 ≤ 17592186044000 := by omega
  have hnn : n ≤ n3 := by omega
  have q31 := Tryz.eqGuardType31
  clear hx hy hn h3 hZ hb1 hF1
  go_enter Tryz.func7, Tryz.ntmps7
  have t3 := Tryz.underlying3
  have u3 := Tryz.runUnderlying3
  have g3 := Tryz.isAgg3
  have z3 := Tryz.sizeOf3
  have t4 := Tryz.underlying4
  have u4 := Tryz.runUnderlying4
  have g4 := Tryz.isAgg4
  have z4 := Tryz.sizeOf4
  have t9 := Tryz.underlying9
  have u9 := Tryz.runUnderlying9
  have g9 := Tryz.isAgg9
  have z9 := Tryz.sizeOf9
  have t22 := Tryz.underlying22
  have u22 := Tryz.runUnderlying22
  have g22 := Tryz.isAgg22
  have z22 := Tryz.sizeOf22
  have t25 := Tryz.underlying25
  have u25 := Tryz.runUnderlying25
  have g25 := Tryz.isAgg25
  have z25 := Tryz.sizeOf25
  have t29 := Tryz.underlying29
  have u29 := Tryz.runUnderlying29
  have g29 := Tryz.isAgg29
  have z29 := Tryz.sizeOf29
  have t31 := Tryz.underlying31
  have u31 := Tryz.runUnderlying31
  have g31 := Tryz.isAgg31
  have z31 := Tryz.sizeOf31
  have c22 := Tryz.call22
  have mixed : Tryz.prog.follows .mixedOrders = true := by kernel_rfl
  obtain ⟨k22, hk22⟩ : ∃ k, k = 22 := ⟨_, rfl⟩
  rw [← hk22] at z31
  have nk22 : ¬ k22 = 0 := by omega
  have HK31 := Lib.hid hk22
  have hP : Tryz.prog = PD := rfl
  rw [hP] at t3 u3 g3 z3 t4 u4 g4 z4 t9 u9 g9 z9 t22 u22 g22 z22 t25 u25 g25 z25 t29 u29 g29 z29 t31 u31 g31 z31 c22 mixed hEQ q31 ⊢
  have HP := Lib.hid hP.symm
  clear hP hk22
  have hZk : Z.size = k22 := by rw [HK31.out]; exact hZs
  clear hZs
  have K0 := Fr.refl No w1
  go_wp2_with (first | (go_at_call 22; ((with_reducible refine (at_prog HP.out (HES.out _ K0)).mono ?_); rintro e w3 ⟨rfl, hf3⟩)) | fail)
  have H3 := Lib.hid hf3
  clear hf3 K0
  go_loopg [8] (n3 - n + 1) (fun t s8 wr => ∃ i : Nat, s8 = .int .i64 i ∧ n ≤ i ∧ i ≤ n3 ∧ n3 - i < t ∧ Hid (Fr No w3 wr))
  case atStart => exact ⟨n, rfl, by omega, by omega, by omega, Fr.refl _ _⟩
  case round =>
    obtain ⟨i, rfl, hni, hin, hig, HR⟩ := hrel
    by_cases hi : i < n3
    · have q1 : (0 : Int) ≤ (i : Int) := by omega
      have q2 : (i : Int) < (n3 : Int) := by omega
      have h9 : (L ++ [z, z, z])[i]? = some z := by
        have h1 := HZ.out.2.1
        have h2 := HZ.out.2.2
        rw [List.getElem?_append_right (by omega)]
        rcases (by omega : i - L.length = 0 ∨ i - L.length = 1 ∨ i - L.length = 2) with h | h | h <;> rw [h] <;> rfl
      obtain ⟨b', o', ha, lx⟩ := HX.out.1.load h9
      cases ha
      rw [HZ.out.1] at lx
      have HS : Hid (∀ w', Fr No wr w' → Fr No wr w' ∧ Sem.run PD (loadCellsFrom ⟨g, i * k22, none⟩ 0 k22 #[]) w' = .ok Z w' ∧ Sem.run PD (loadCellsFrom ⟨zb, 0, none⟩ 0 k22 #[]) w' = .ok Z w') := fun w' hf => ⟨hf, by rw [HK31.out]; have := lx PD w' ((H3.out.trans HR.out).trans hf); rwa [Nat.zero_add] at this, load_block (((H3.out.trans HR.out).trans hf).keep HB.out.1) hZk (fun j v hv => by simpa using hv)⟩
      have f1 := HS.out _ (Fr.drew No wr)
      clear h9 lx
      go_upto_region 7 with fail
      go_region_held3 (fun w' => Fr No wr w' ∧ Sem.run PD (loadCellsFrom ⟨g, i * k22, none⟩ 0 k22 #[]) w' = .ok Z w' ∧ Sem.run PD (loadCellsFrom ⟨zb, 0, none⟩ 0 k22 #[]) w' = .ok Z w') (first | assumption) (fail)
      go_wp2_with fail
      go_roundg (n3 - i)
      case measure => exact hig
      case rel => exact ⟨i + 1, by go_num, by omega, by omega, by omega, HR.out.trans (Fr.drew No wr)⟩
    · obtain rfl : i = n3 := by omega
      have q2 : ¬ ((i : Int) < (i : Int)) := by omega
      go_wp2_with fail
      go_ret
      exact ⟨rfl, (HB.out.2.1.trans H3.out).trans HR.out⟩
end Go.Proofs.YtnadendhboiliaaGreat
