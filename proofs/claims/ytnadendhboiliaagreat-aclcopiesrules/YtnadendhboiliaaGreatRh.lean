/-
  CONTRACTS of slices.Backward at prefixes and of the iterator that it hands back, over this seat's translation.
  Conditions: the row lies in memory.
-/
import Derived.Test.YtnadendhboiliaaGreatEq
import Derived.RangeFuncNested
import Derived.RangeFuncBound
import Derived.RangeFuncCalls
import Derived.RangeFuncLeaves
import Derived.Shelf.Abstract
import Derived.Shelf.RegionOpen
import Derived.WalkKit
import Derived.OwnWalkIn
import Derived.TacticsInMore
import Derived.LoopNIn
import Derived.LoopIn
namespace Go.Proofs.YtnadendhboiliaaGreat
open Go.ChangeShapes Go.WideShapes Go.ChangeAt Go.RowKit Go.Shelf
set_option linter.unusedVariables false
attribute [local go_sem] Oper.semAt_some

set_option maxHeartbeats 1000000 in
theorem back_any (a : Option Addr) (n c : Nat) (w : World) : Calls Tryz.prog 47 #[.slice a n c] w fun e w' => e = .returned (.func (.func 70) #[] #[.pointer (some ⟨w.heap.size, 0, none⟩)]) ∧ w' = w.alloc (.cells #[.slice a n c] 89) := by
  go_enter Tryz.func47, Tryz.ntmps47
  go_wp2_with fail
  go_ret
  exact ⟨rfl, rfl⟩

def zQ : Px := ⟨false, zeros, 0⟩
/-- A prefix that comes, with its index. -/
abbrev PP := { x : Nat × Px // Bytes x.2.xs }
/-- The j-th that comes. -/
def dn (L : List Px) (hL : ∀ q ∈ L, Bytes q.xs) (j : Nat) : PP := ⟨(L.length - 1 - j, (L[L.length - 1 - j]?).getD zQ), by
  show Bytes ((L[L.length - 1 - j]?).getD zQ).xs
  cases h : L[L.length - 1 - j]? with
  | none => exact zeros_bytes
  | some q => exact hL q (List.mem_of_getElem? h)⟩
def upto (L : List Px) (hL : ∀ q ∈ L, Bytes q.xs) (k : Nat) : List PP := (List.range k).map (dn L hL)
theorem upto_succ (L : List Px) (hL : ∀ q ∈ L, Bytes q.xs) (k : Nat) : upto L hL (k + 1) = upto L hL k ++ [dn L hL k] := by simp [upto, List.range_succ]
theorem upto_length (L : List Px) (hL : ∀ q ∈ L, Bytes q.xs) (k : Nat) : (upto L hL k).length = k := by simp [upto]
def encP (x : PP) : Array Value := #[.int .i64 (x.1.1 : Int), .agg (pfx x.1.2.b x.1.2.xs x.1.2.n).toArray]
theorem RowP.below {n0 : Nat} {w w' : World} {a : Option Addr} {A : List Px} (h : RowP w a A) (hf : Below n0 w w') (hl : ∀ ad, a = some ad → A ≠ [] → ad.block < n0) : RowP w' a A :=
  ⟨h.1, fun hn => by
    obtain ⟨b, o, cs, T, f, h1, h2, h3⟩ := h.2 hn
    exact ⟨b, o, cs, T, f, h1, (hf.block b (hl _ h1 hn)).trans h2, h3⟩⟩
set_option maxRecDepth 100000 in
set_option maxHeartbeats 2000000 in
theorem back1_in (n : Nat) (hn : 1 ≤ n) (l bs n0 : Nat) (ad : Option Addr) (cp : Nat) (L : List Px) (hL : ∀ q ∈ L, Bytes q.xs) (N : Nat) (hN : L.length = N) (hsm : N ≤ 100000) (hbn : bs < n0) (J Jx : List PP → World → Prop)
    (hY : ∀ pre x W, J pre W → pre.length < N → YieldAt Fence.wide (n - 1) Tryz.prog l (encP x) W fun e W' =>
      (e = .returned (.bool true) ∧ J (pre ++ [x]) W' ∧ Below n0 W W') ∨ (e = .returned (.bool false) ∧ Jx (pre ++ [x]) W'))
    (W : World) (hbs : W.cell? ⟨bs, 0, none⟩ = some (.slice ad N cp)) (hrow : RowP W ad L) (hlow : ∀ a, ad = some a → L ≠ [] → a.block < n0) (h0 : J [] W) :
    CallsIn Fence.wide n Tryz.prog 70 #[.func (.yield l) #[] #[], .pointer (some ⟨bs, 0, none⟩)] W fun e W' => (∃ v, e = .returned v) ∧
      ((∃ ys, ys = upto L hL N ∧ J ys W') ∨ (∃ pre, (∃ k, k ≤ N ∧ pre = upto L hL k) ∧ Jx pre W')) := by
  refine callsIn_of_wp Tryz.func70 rfl trivial ?_ rfl
  simp only [Tryz.ntmps70, List.size_toArray, List.length_cons, List.length_nil, Nat.reduceAdd, Nat.reduceSub, Array.replicate_succ, Array.replicate_zero, List.push_toArray, List.append_toArray, List.nil_append, List.cons_append]
  have HROW := Lib.hid (And.intro hrow hlow)
  have HN := Lib.hid hN
  clear hrow hlow hN
  have t3 := Tryz.underlying3
  have u3 := Tryz.runUnderlying3
  have g3 := Tryz.isAgg3
  have z3 := Tryz.sizeOf3
  have t4 := Tryz.underlying4
  have u4 := Tryz.runUnderlying4
  have g4 := Tryz.isAgg4
  have z4 := Tryz.sizeOf4
  have t25 := Tryz.underlying25
  have u25 := Tryz.runUnderlying25
  have g25 := Tryz.isAgg25
  have z25 := Tryz.sizeOf25
  have t29 := Tryz.underlying29
  have u29 := Tryz.runUnderlying29
  have g29 := Tryz.isAgg29
  have z29 := Tryz.sizeOf29
  have t89 := Tryz.underlying89
  have u89 := Tryz.runUnderlying89
  have g89 := Tryz.isAgg89
  have z89 := Tryz.sizeOf89
  have mixed : Tryz.prog.follows .mixedOrders = true := by kernel_rfl
  obtain ⟨k24, hk24⟩ : ∃ k, k = 17 := ⟨_, rfl⟩
  rw [← hk24] at z25
  have nk24 : ¬ k24 = 0 := by omega
  have HK25 := Lib.hid hk24
  obtain ⟨k40, hk40⟩ : ∃ k, k = 18 := ⟨_, rfl⟩
  rw [← hk40] at z29
  have nk40 : ¬ k40 = 0 := by omega
  have HK29 := Lib.hid hk40
  have hP : Tryz.prog = PD := rfl
  rw [hP] at t3 u3 g3 z3 t4 u4 g4 z4 t25 u25 g25 z25 t29 u29 g29 z29 t89 u89 g89 z89 mixed hY ⊢
  have HP := Lib.hid hP.symm
  clear hP hk24 hk40
  gi_wp2
  gi_loopw [3] (fun i wr => ∃ k m : Nat, k + m = N ∧ i = .int .i64 ((m : Int) - 1) ∧ J (upto L hL k) wr ∧ Below n0 W wr) (fun i _ => (intOf i + 1).toNat)
  case atStart => exact ⟨0, N, by omega, rfl, h0, Below.refl _ _⟩
  case round =>
    obtain ⟨k, m, hkm, rfl, hJs, hbl⟩ := hrel
    cases m with
    | zero =>
      have e1 : ((0 : Nat) : Int) - 1 = -1 := rfl
      rw [e1]
      gi_wp2
      go_end0
      obtain rfl : k = N := by omega
      exact ⟨⟨_, rfl⟩, .inl ⟨_, rfl, hJs⟩⟩
    | succ q =>
      have e1 : ((q + 1 : Nat) : Int) - 1 = (q : Int) := by omega
      rw [e1]
      have hq : q < L.length := by rw [HN.out]; omega
      obtain ⟨p, hp⟩ : ∃ p, L[q]? = some p := ⟨_, List.getElem?_eq_getElem hq⟩
      have hb : Bytes p.xs := hL p (List.mem_of_getElem? hp)
      have hx : dn L hL k = ⟨(q, p), hb⟩ := by
        have e2 : L.length - 1 - k = q := by rw [HN.out]; omega
        refine Subtype.ext ?_
        show (L.length - 1 - k, (L[L.length - 1 - k]?).getD zQ) = (q, p)
        rw [e2, hp]; rfl
      have hrow := HROW.out.1.below hbl HROW.out.2
      obtain ⟨b, o, rfl, hld⟩ := hrow.load hp
      obtain ⟨P, hP', -, -, hPs, -, -⟩ := pfx_letter p.b p.xs p.n hb
      have hPk : P.size = k40 := by rw [HK29.out]; exact hPs
      obtain ⟨fn, tmps, assign, body, hy, hR⟩ := hY _ ⟨(q, p), hb⟩ wr hJs (by rw [upto_length]; omega)
      have l1 : Sem.run PD (loadCellsFrom ⟨b, o + q * k40, none⟩ 0 k40 #[]) wr = .ok P wr := by rw [HK29.out, ← hP']; exact hld PD wr (Fr.refl _ _)
      have c1 : wr.cell? ⟨bs, 0, none⟩ = some (.slice (some ⟨b, o, none⟩) N cp) := (hbl.cell (p := ⟨bs, 0, none⟩) hbn).trans hbs
      dsimp only [encP] at hy
      rw [hP'] at hy
      have p1 : (0 : Int) ≤ (q : Int) := by omega
      have p2 : (q : Int) < (N : Int) := by omega
      have HX := Lib.hid hx
      clear hx hP' hPs hld hrow hp e1
      gi_wp2
      refine hR.mono ?_
      rintro e W3 (⟨rfl, hJ3, hk3⟩ | ⟨rfl, hJx3⟩)
      · gi_wp2
        go_roundw
        case rel => exact ⟨k + 1, q, by omega, by first | rfl | go_num, by rw [upto_succ, HX.out]; exact hJ3, hbl.trans hk3⟩
        case measure => simp [intOf]
      · gi_wp2
        refine bodyPost_ret (results_none rfl _ _ _) rfl ?_
        exact ⟨⟨_, rfl⟩, .inr ⟨_, ⟨k + 1, by omega, rfl⟩, by rw [upto_succ, HX.out]; exact hJx3⟩⟩

/-- What Backward hands back comes from the last to the first. -/
theorem back_stops (n : Nat) (hn : 1 ≤ n) (bs n0 : Nat) (ad : Option Addr) (cp : Nat) (L : List Px) (hL : ∀ q ∈ L, Bytes q.xs) (N : Nat) (hN : L.length = N) (hsm : N ≤ 100000) (w : World) (hbn : bs < n0) (hn0 : n0 ≤ w.heap.size) (hbs : w.cell? ⟨bs, 0, none⟩ = some (.slice ad N cp)) (hrow : RowP w ad L) (hlow : ∀ a, ad = some a → L ≠ [] → a.block < n0) :
    SeqStopsK Fence.wide n Tryz.prog 70 #[.pointer (some ⟨bs, 0, none⟩)] encP (Below n0) (fun ys => ys = upto L hL N) (fun pre => ∃ k, k ≤ N ∧ pre = upto L hL k) N w := fun l J Jx W hW _ _ hY h0 =>
  back1_in n hn l bs n0 ad cp L hL N hN hsm hbn J Jx hY W ((hW.cell (p := ⟨bs, 0, none⟩) (Nat.lt_of_lt_of_le hbn hn0)).trans hbs) (hrow.below (hW.mono hn0) hlow) hlow h0
end Go.Proofs.YtnadendhboiliaaGreat
