/-
  CONTRACTS of the helpers Equal and Overwrite at prefixes, over this seat's translation.
  Conditions: the rows lie in memory.
-/
import Derived.Test.YtgbbgkbpafpnbaaWd
import Derived.Deep.RegionHeld3
import Derived.BigQuiet
namespace Go.Proofs.Ytgbbgkbpafpnbaa
open Go.ChangeShapes Go.WideShapes Go.ChangeAt Go.RowKit
set_option linter.unusedVariables false

/-- A row of prefixes in memory. -/
def RowP (w : World) (a : Option Addr) (A : List Px) : Prop := (∀ q ∈ A, Bytes q.xs) ∧ (A ≠ [] → ∃ b o cs T f, a = some ⟨b, o, none⟩ ∧ w.heap[b]? = some (.cells cs T f) ∧ ∀ (j : Nat) v, (flatP A)[j]? = some v → cs[o + j]? = some v)
theorem RowP.no {w w' : World} {a : Option Addr} {A : List Px} (h : RowP w a A) (hf : Fr No w w') : RowP w' a A :=
  ⟨h.1, fun hn => by obtain ⟨b, o, cs, T, f, h1, h2, h3⟩ := h.2 hn; exact ⟨b, o, cs, T, f, h1, hf.keep h2, h3⟩⟩
theorem RowP.fr {S : Nat → Prop} {w w' : World} {a : Option Addr} {A : List Px} (h : RowP w a A) (hf : Fr S w w') (hS : ∀ ad, a = some ad → ¬ S ad.block) : RowP w' a A :=
  ⟨h.1, fun hn => by
    obtain ⟨b, o, cs, T, f, h1, h2, h3⟩ := h.2 hn
    exact ⟨b, o, cs, T, f, h1, (hf.block b (some_lt h2) (hS _ h1)).trans h2, h3⟩⟩
theorem flatP_get {A : List Px} (hb : ∀ q ∈ A, Bytes q.xs) {i : Nat} {q : Px} (h : A[i]? = some q) {j : Nat} {v : Value} (hv : (pfx q.b q.xs q.n)[j]? = some v) : (flatP A)[i * 18 + j]? = some v := by
  have hlt := (List.getElem?_eq_some_iff.1 h).1
  have hA : A = A.take i ++ q :: A.drop (i + 1) := by
    rw [← (List.getElem?_eq_some_iff.1 h).2, ← List.drop_eq_getElem_cons hlt, List.take_append_drop]
  have hl : (flatP (A.take i)).length = i * 18 := by rw [flatP_length fun x hx => hb x (List.mem_of_mem_take hx), List.length_take]; congr 1; omega
  rw [hA, flatP_append, List.getElem?_append_right (by omega), hl, show i * 18 + j - i * 18 = j by omega, flatP, List.flatMap_cons, List.getElem?_append_left (List.getElem?_eq_some_iff.1 hv).1]
  exact hv
theorem RowP.load {w : World} {a : Option Addr} {A : List Px} (h : RowP w a A) {i : Nat} {q : Px} (hq : A[i]? = some q) : ∃ b o, a = some ⟨b, o, none⟩ ∧ ∀ (P : Program) (w' : World), Fr No w w' → Sem.run P (loadCellsFrom ⟨b, o + i * 18, none⟩ 0 18 #[]) w' = .ok (pfx q.b q.xs q.n).toArray w' := by
  have hn : A ≠ [] := fun hc => by rw [hc] at hq; cases hq
  obtain ⟨b, o, cs, T, f, h1, h2, h3⟩ := h.2 hn
  refine ⟨b, o, h1, fun P w' hf => ?_⟩
  refine load_block (hf.keep h2) (by rw [List.size_toArray]; exact pfx_length (h.1 q (List.mem_of_getElem? hq)).1) fun j v hv => ?_
  rw [List.getElem?_toArray] at hv
  rw [Nat.add_assoc]
  exact h3 _ _ (flatP_get h.1 hq hv)
theorem RowP.own {w : World} {base n cap : Nat} {a : Option Addr} {A : List Px} (hb : ∀ q ∈ A, Bytes q.xs) (h : w.ownsRow base 28 18 (.slice a n cap) n (flatP A)) : RowP w a A ∧ A.length = n := by
  have hl := h.1
  rw [flatP_length hb] at hl
  refine ⟨⟨hb, fun hn => ?_⟩, by omega⟩
  rcases h.2 with ⟨hv, h0⟩ | ⟨g, cap', cur, hv, _, hg, _, _, _, ht⟩
  · cases hv
    exact absurd (List.length_eq_zero_iff.1 (by omega)) hn
  · cases hv
    refine ⟨g, 0, cur, 28, (0, 0), rfl, hg, fun j v hj => ?_⟩
    rw [← ht, List.getElem?_take] at hj
    split at hj
    · rw [Nat.zero_add, ← Array.getElem?_toList]; exact hj
    · cases hj

set_option maxHeartbeats 4000000 in
set_option maxRecDepth 100000 in
theorem eqP_any (p q : Px) (hp : Bytes p.xs) (hq : Bytes q.xs) (w : World) : Calls Try.prog 31 #[.agg (pfx p.b p.xs p.n).toArray, .agg (pfx q.b q.xs q.n).toArray] w fun e w' => e = .returned (.bool (decide (p = q))) ∧ Fr No w w' := by
  obtain ⟨P, hP, -, -, hPs, -, -⟩ := pfx_letter p.b p.xs p.n hp
  obtain ⟨Q, hQ, -, -, hQs, -, -⟩ := pfx_letter q.b q.xs q.n hq
  have hEQ : ∀ w', Sem.run Try.prog (Op.equalIn 10000 28 (.agg P) (.agg Q)) w' = .ok (decide (p = q)) w' := fun w' => by
    rw [← hP, ← hQ, pfx_eq p.n q.n hp hq w']
    congr 1
    exact decide_eq_decide.2 Px.eq_iff
  rw [hP, hQ]
  obtain ⟨b1, b2, hF⟩ := alloc2 w (.cells P 28) (.cells Q 28)
  have HF := Lib.hid hF
  have l1 : Sem.run Try.prog (loadCellsFrom ⟨w.heap.size, 0, none⟩ 0 18 #[]) ((w.alloc (.cells P 28)).alloc (.cells Q 28)) = .ok P ((w.alloc (.cells P 28)).alloc (.cells Q 28)) := load_block b1 hPs (fun j v hv => by simpa using hv)
  have l2 : Sem.run Try.prog (loadCellsFrom ⟨w.heap.size + 1, 0, none⟩ 0 18 #[]) ((w.alloc (.cells P 28)).alloc (.cells Q 28)) = .ok Q ((w.alloc (.cells P 28)).alloc (.cells Q 28)) := load_block b2 hQs (fun j v hv => by simpa using hv)
  have q31 := Try.eqGuardType28
  generalize decide (p = q) = eq at hEQ ⊢
  clear b1 b2 hF hP hQ
  go_enter Try.func31, Try.ntmps31
  have t3 := Try.underlying3
  have u3 := Try.runUnderlying3
  have g3 := Try.isAgg3
  have z3 := Try.sizeOf3
  have t4 := Try.underlying4
  have u4 := Try.runUnderlying4
  have g4 := Try.isAgg4
  have z4 := Try.sizeOf4
  have t24 := Try.underlying24
  have u24 := Try.runUnderlying24
  have g24 := Try.isAgg24
  have z24 := Try.sizeOf24
  have t28 := Try.underlying28
  have u28 := Try.runUnderlying28
  have g28 := Try.isAgg28
  have z28 := Try.sizeOf28
  have c36 := Try.call36
  have mixed : Try.prog.follows .mixedOrders = true := by kernel_rfl
  obtain ⟨k40, hk40⟩ : ∃ k, k = 18 := ⟨_, rfl⟩
  rw [← hk40] at z28
  have nk40 : ¬ k40 = 0 := by omega
  have HK28 := Lib.hid hk40
  have hP : Try.prog = PD := rfl
  rw [hP] at t3 u3 g3 z3 t4 u4 g4 z4 t24 u24 g24 z24 t28 u28 g28 z28 c36 mixed l1 l2 hEQ q31 ⊢
  have HP := Lib.hid hP.symm
  clear hP hk40
  have hPk : P.size = k40 := by rw [HK28.out]; exact hPs
  have hQk : Q.size = k40 := by rw [HK28.out]; exact hQs
  rw [← HK28.out] at l1 l2
  clear hPs hQs
  go_wp2_with fail
  go_ret
  exact ⟨rfl, HF.out⟩

set_option maxHeartbeats 4000000 in
set_option maxRecDepth 100000 in
theorem equalFunc_any (a b : Option Addr) (n m c d : Nat) (A B : List Px) (w : World) (hx : RowP w a A) (hy : RowP w b B) (hA : A.length = n) (hB : B.length = m) (hn : n ≤ 100000) :
    Calls Try.prog 30 #[.slice a n c, .slice b m d, .func (.func 31) #[] #[]] w fun e w' => e = .returned (.bool (decide (A = B))) ∧ Fr No w w' := by
  by_cases hnm : n = m
  · subst hnm
    have HX := Lib.hid (And.intro hx (And.intro hy (And.intro hA hB)))
    clear hx hy hA hB
    go_enter Try.func30, Try.ntmps30
    have t3 := Try.underlying3
    have u3 := Try.runUnderlying3
    have g3 := Try.isAgg3
    have z3 := Try.sizeOf3
    have t4 := Try.underlying4
    have u4 := Try.runUnderlying4
    have g4 := Try.isAgg4
    have z4 := Try.sizeOf4
    have t24 := Try.underlying24
    have u24 := Try.runUnderlying24
    have g24 := Try.isAgg24
    have z24 := Try.sizeOf24
    have t28 := Try.underlying28
    have u28 := Try.runUnderlying28
    have g28 := Try.isAgg28
    have z28 := Try.sizeOf28
    have t25 := Try.underlying25
    have u25 := Try.runUnderlying25
    have g25 := Try.isAgg25
    have z25 := Try.sizeOf25
    have c31 := Try.call31
    have mixed : Try.prog.follows .mixedOrders = true := by kernel_rfl
    obtain ⟨k40, hk40⟩ : ∃ k, k = 18 := ⟨_, rfl⟩
    rw [← hk40] at z28
    have nk40 : ¬ k40 = 0 := by omega
    have HK28 := Lib.hid hk40
    have hP : Try.prog = PD := rfl
    rw [hP] at t3 u3 g3 z3 t4 u4 g4 z4 t24 u24 g24 z24 t28 u28 g28 z28 t25 u25 g25 z25 c31 mixed ⊢
    have HP := Lib.hid hP.symm
    clear hP hk40
    go_wp2_with fail
    go_loopg [7] (n + 1) (fun g s wr => ∃ (i : Nat), s = .int .i64 i ∧ i ≤ n ∧ n - i < g ∧ Hid (Fr No w wr ∧ A.take i = B.take i))
    case atStart => exact ⟨0, by go_num, by omega, by omega, Fr.refl _ _, rfl⟩
    case round =>
      obtain ⟨i, rfl, hin, hig, HR⟩ := hrel
      by_cases hi : i < n
      · obtain ⟨x, gx⟩ : ∃ x, A[i]? = some x := ⟨_, List.getElem?_eq_getElem (by rw [HX.out.2.2.1]; exact hi)⟩
        obtain ⟨y, gy⟩ : ∃ y, B[i]? = some y := ⟨_, List.getElem?_eq_getElem (by rw [HX.out.2.2.2]; exact hi)⟩
        obtain ⟨bx, ox, rfl, lx⟩ := HX.out.1.load gx
        obtain ⟨by_, oy, rfl, ly⟩ := HX.out.2.1.load gy
        have hbx := HX.out.1.1 x (List.mem_of_getElem? gx)
        have hby := HX.out.2.1.1 y (List.mem_of_getElem? gy)
        have HCE : Hid (∀ w', Calls Try.prog 31 #[.agg (pfx x.b x.xs x.n).toArray, .agg (pfx y.b y.xs y.n).toArray] w' fun e w'' => e = .returned (.bool (decide (x = y))) ∧ Fr No w' w'') := fun w' => eqP_any x y hbx hby w'
        obtain ⟨X, hX⟩ : ∃ X, (pfx x.b x.xs x.n).toArray = X := ⟨_, rfl⟩
        obtain ⟨Y, hY⟩ : ∃ Y, (pfx y.b y.xs y.n).toArray = Y := ⟨_, rfl⟩
        have hXk : X.size = k40 := by rw [HK28.out, ← hX, List.size_toArray]; exact pfx_length hbx.1
        have hYk : Y.size = k40 := by rw [HK28.out, ← hY, List.size_toArray]; exact pfx_length hby.1
        rw [hX, hY] at HCE
        rw [hX] at lx
        rw [hY] at ly
        have HS : Hid (∀ w', Fr No w w' → Fr No w w' ∧ Sem.run PD (loadCellsFrom ⟨bx, ox + i * k40, none⟩ 0 k40 #[]) w' = .ok X w' ∧ Sem.run PD (loadCellsFrom ⟨by_, oy + i * k40, none⟩ 0 k40 #[]) w' = .ok Y w') := fun w' hf => ⟨hf, by rw [HK28.out]; exact lx PD w' hf, by rw [HK28.out]; exact ly PD w' hf⟩
        have HG := Lib.hid (And.intro gx gy)
        have p1 : (0 : Int) ≤ (i : Int) := by omega
        have p2 : (i : Int) < (n : Int) := by omega
        have f1 := HS.out _ (HR.out.1.trans (Fr.drew _ _))
        clear gx gy lx ly hbx hby hX hY
        go_wp2_with fail
        by_cases hxy : x = y
        · rw [decide_eq_true hxy] at HCE
          go_region_held3 (fun w' => Fr No w w' ∧ Sem.run PD (loadCellsFrom ⟨bx, ox + i * k40, none⟩ 0 k40 #[]) w' = .ok X w' ∧ Sem.run PD (loadCellsFrom ⟨by_, oy + i * k40, none⟩ 0 k40 #[]) w' = .ok Y w') (first | assumption | exact HS.out _ K3) (first | (go_at_call 31; go_loud (refine (at_prog HP.out (HCE.out _)).mono ?_; rintro e w3 ⟨rfl, hf3⟩; have K3 : Fr No w w3 := Fr.trans (And.left (by assumption)) hf3)))
          go_wp2_with fail
          go_roundg (n - i)
          case measure => exact hig
          case rel =>
            refine ⟨i + 1, by go_num, by omega, by omega, K3, ?_⟩
            rw [List.take_add_one, List.take_add_one, HR.out.2, HG.out.1, HG.out.2, hxy]
        · rw [decide_eq_false hxy] at HCE
          have HD : Hid (decide (A = B) = false) := decide_eq_false fun e => hxy (by
            have h1 := HG.out.1
            rw [e, HG.out.2] at h1
            cases h1; rfl)
          go_region_held3 (fun w' => Fr No w w' ∧ Sem.run PD (loadCellsFrom ⟨bx, ox + i * k40, none⟩ 0 k40 #[]) w' = .ok X w' ∧ Sem.run PD (loadCellsFrom ⟨by_, oy + i * k40, none⟩ 0 k40 #[]) w' = .ok Y w') (first | assumption | exact HS.out _ K3) (first | (go_at_call 31; go_loud (refine (at_prog HP.out (HCE.out _)).mono ?_; rintro e w3 ⟨rfl, hf3⟩; have K3 : Fr No w w3 := Fr.trans (And.left (by assumption)) hf3)))
          go_wp2_with fail
          go_ret
          exact ⟨by rw [HD.out]; rfl, K3⟩
      · obtain rfl : i = n := by omega
        have p2 : ¬ ((i : Int) < (i : Int)) := by omega
        go_wp2_with fail
        go_ret
        refine ⟨?_, HR.out.1⟩
        have h2 := HR.out.2
        rw [List.take_of_length_le (by rw [HX.out.2.2.1]; exact Nat.le_refl _), List.take_of_length_le (by rw [HX.out.2.2.2]; exact Nat.le_refl _)] at h2
        rw [decide_eq_true h2]
        rfl
  · have hne : ((n : Int) == (m : Int)) = false := by simpa using (by omega : ¬ (n : Int) = (m : Int))
    have hd : decide (A = B) = false := decide_eq_false (fun e => hnm (by rw [← hA, ← hB, e]))
    have HD := Lib.hid hd
    clear hx hy hd hA hB
    go_enter Try.func30, Try.ntmps30
    go_wp2_with fail
    go_ret
    exact ⟨by rw [HD.out]; rfl, Fr.refl _ _⟩

theorem equal_any (a b : Option Addr) (n m c d : Nat) (A B : List Px) (w : World) (hx : RowP w a A) (hy : RowP w b B) (hA : A.length = n) (hB : B.length = m) (hn : n ≤ 100000) :
    Calls Try.prog 17 #[.slice a n c, .slice b m d] w fun e w' => e = .returned (.bool (decide (A = B))) ∧ Fr No w w' := by
  have HX := Lib.hid (And.intro hx (And.intro hy (And.intro hA hB)))
  clear hx hy hA hB
  go_enter Try.func17, Try.ntmps17
  go_wp2_with (first | (go_at_call 30; refine (equalFunc_any a b n m c d A B _ HX.out.1 HX.out.2.1 HX.out.2.2.1 HX.out.2.2.2 hn).mono ?_; rintro e w1 ⟨rfl, hf⟩) | fail)
  go_ret
  exact ⟨rfl, hf⟩
end Go.Proofs.Ytgbbgkbpafpnbaa
