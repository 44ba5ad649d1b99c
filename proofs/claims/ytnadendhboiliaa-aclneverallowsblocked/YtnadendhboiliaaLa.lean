/-
  THE LAW AclTargetDecision: its walk; what New gives of generated rules.
  Conditions: the list lies in memory.
-/
import Derived.Test.YtnadendhboiliaaRs
import Derived.Test.YtnadendhboiliaaRw
import Derived.Test.YtnadendhboiliaaRo
import Derived.Test.YtnadendhboiliaaLd
import Derived.Deep.DeepCutAuto
import Derived.Deep.CutBlock
namespace Go.Proofs.Ytnadendhboiliaa
open Go.ChangeShapes Go.WideShapes Go.ChangeAt Go.RowKit
set_option linter.unusedVariables false

/-- What New gives of generated rules. -/
def GenX (L : List Ru) (w : World) (e : Ending) (w' : World) : Prop := ∃ x, e = .returned (.tuple #[.pointer (some ⟨x, 0, none⟩), .int .i64 0]) ∧ Hid (∃ n0 tb ra rc T X, Inc n0 w' x L L.length tb ra rc T X) ∧ Fr No w w'
theorem newl (L : List Ru) (n : Nat) (hn : L.length = n) (hok : okL L) (hv : vRs L = true) (a : Option Addr) (cp base : Nat) (w : World) (hr : w.ownsRow base 30 22 (.slice a n cp) n (flatR L)) : Calls Try.prog 11 #[.slice a n cp] w (GenX L w) := by
  refine (new_yes L n hn hv a cp w (RowR.own hok hr).1).mono ?_
  rintro e w' ⟨⟨x, tb, ra, rc, T, X, he, hI⟩, hf⟩
  exact ⟨x, he, Lib.hid ⟨_, tb, ra, rc, T, X, hI⟩, hf⟩

set_option maxHeartbeats 8000000 in
set_option maxRecDepth 100000 in
theorem target_walk (a : Option Addr) (n cp : Nat) (nl : List UInt8) (b : Bool) (xs : List Nat) (p : Int) (k : Int) (all : Bool) (w : World) (ha : InR w a n) (hx : Bytes xs) :
    Calls Try.prog 6 #[.slice a n cp, .agg (tgt (bs nl) b xs p).toArray, .int .i64 k, .bool all] w fun e w' => e = .returned (.bool true) ∧ Fr No w w' := by
  obtain ⟨L0, hL0, hr0⟩ := ha.row
  have HRL : Hid (∀ w', Fr No w w' → Calls Try.prog 15 #[.slice a n cp, .int .i64 10, .bool all] w' (GenL 10 w')) := fun w' hf => rules_gen L0 n hL0 a cp w' (hr0.no hf) 10 (by decide) all
  clear hL0 hr0 ha
  obtain ⟨T, hT, -, -, -, hTs, -, hT1⟩ := tgt_letter (bs nl) b xs p hx
  obtain ⟨Z, hZ⟩ : ∃ Z : Array Value, noT.toArray = Z := ⟨_, rfl⟩
  have v57 := zero57
  rw [hZ] at v57
  have hZs : Z.size = 19 := by rw [← hZ]; rfl
  have HTX := Lib.hid (And.intro hT hx)
  have HF0 : Hid (Fr No w (w.alloc (.cells T 57)) ∧ (w.alloc (.cells T 57)).heap[w.heap.size]? = some (.cells T 57 (0, 0))) := ⟨Fr.alloc No w _, heap_alloc_new w _⟩
  rw [hT]
  clear hT hx hZ
  go_enter Try.func6, Try.ntmps6
  have t3 := Try.underlying3
  have u3 := Try.runUnderlying3
  have g3 := Try.isAgg3
  have z3 := Try.sizeOf3
  have t4 := Try.underlying4
  have u4 := Try.runUnderlying4
  have g4 := Try.isAgg4
  have z4 := Try.sizeOf4
  have t9 := Try.underlying9
  have u9 := Try.runUnderlying9
  have g9 := Try.isAgg9
  have z9 := Try.sizeOf9
  have t22 := Try.underlying22
  have u22 := Try.runUnderlying22
  have g22 := Try.isAgg22
  have z22 := Try.sizeOf22
  have t26 := Try.underlying26
  have u26 := Try.runUnderlying26
  have g26 := Try.isAgg26
  have z26 := Try.sizeOf26
  have t32 := Try.underlying32
  have u32 := Try.runUnderlying32
  have g32 := Try.isAgg32
  have z32 := Try.sizeOf32
  have t33 := Try.underlying33
  have u33 := Try.runUnderlying33
  have g33 := Try.isAgg33
  have z33 := Try.sizeOf33
  have t57 := Try.underlying57
  have u57 := Try.runUnderlying57
  have g57 := Try.isAgg57
  have z57 := Try.sizeOf57
  have c11 := Try.call11
  have c14 := Try.call14
  have c15 := Try.call15
  have c27 := Try.call27
  have c28 := Try.call28
  have c29 := Try.call29
  have mixed : Try.prog.follows .mixedOrders = true := by kernel_rfl
  obtain ⟨k19, hk19⟩ : ∃ k, k = 19 := ⟨_, rfl⟩
  rw [← hk19] at z57
  have nk19 : ¬ k19 = 0 := by omega
  have HK57 := Lib.hid hk19
  have hP : Try.prog = PD := rfl
  rw [hP] at t3 u3 g3 z3 t4 u4 g4 z4 t9 u9 g9 z9 t22 u22 g22 z22 t26 u26 g26 z26 t32 u32 g32 z32 t33 u33 g33 z33 t57 u57 g57 z57 c11 c14 c15 c27 c28 c29 mixed v57 ⊢
  have HP := Lib.hid hP.symm
  clear hP hk19
  have hTk : T.size = k19 := by rw [HK57.out]; exact hTs
  have hZk : Z.size = k19 := by rw [HK57.out]; exact hZs
  have HS19 : Hid (T.size = 19 ∧ Z.size = 19) := ⟨hTs, hZs⟩
  clear hTs hZs
  go_upto_region 5 with (first | (go_at_call 15; ((refine (at_prog HP.out (HRL.out _ HF0.out.1)).mono ?_); rintro e w1 ⟨L, m, ad, c, rfl, hLm, hm, hok, hv, ho, hf1⟩)) | (go_at_call 11; ((refine (at_prog HP.out (newl L m hLm hok hv ad c _ w1 ho)).mono ?_); rintro e w2 ⟨x, rfl, hI, hf2⟩)) | fail)
  have hRow2 : RowR w2 ad L := (RowR.own hok ho).1.no hf2
  have HW2 : Hid (Fr No w w2 ∧ w2.heap[w.heap.size]? = some (.cells T 57 (0, 0))) := ⟨(HF0.out.1.trans hf1).trans hf2, (hf1.trans hf2).keep HF0.out.2⟩
  have HX2 : Hid (∀ w', Fr No w2 w' → ∀ (nl : List UInt8) (b : Bool) (xs : List Nat) (p : Int), Bytes xs → Calls Try.prog 28 #[.pointer (some ⟨x, 0, none⟩), .agg (tgt (bs nl) b xs p).toArray] w' (fun e w'' => e = .returned (.bool (alT L nl b xs p)) ∧ Fr No w' w'') ∧ Calls Try.prog 29 #[.slice ad m c, .agg (tgt (bs nl) b xs p).toArray] w' (fun e w'' => e = .returned (.bool (alT L nl b xs p)) ∧ Fr No w' w'')) := fun w' hf nl b xs p hx => by
    obtain ⟨n0, tb, ra, rc, T, X, h⟩ := hI.out
    exact ⟨allowt_any n0 w' x L tb ra rc T X (h.no hf) (by omega) nl b xs p hx, allowt_ref w' L m hLm (by omega) ad c (hRow2.no hf) nl b xs p hx⟩
  clear hRow2 hI ho hf1 hf2 hok hv hLm hm
  go_upto_region 6 with (first | (go_at_call 27; ((with_reducible refine (at_prog HP.out (target_gen _ _)).mono ?_); rintro e w3 ⟨nl', b', xs', p', hx', rfl, hf3⟩; obtain ⟨U, hU, -, -, -, hUs, -, hU1⟩ := tgt_letter (bs nl') b' xs' p' hx'; rw [hU]; have hUk : U.size = k19 := hUs.trans HK57.out.symm; obtain ⟨y, hst, hyb, hyf⟩ := store_all (P := PD) U.toList (heap_alloc_new w3 (.cells Z 57)) (by rw [Array.length_toList, hUs, HS19.out.2]) hU1)) | fail)
  obtain ⟨ub, hub⟩ : ∃ ub, w3.heap.size = ub := ⟨_, rfl⟩
  obtain ⟨tb, htb⟩ : ∃ tb, w.heap.size = tb := ⟨_, rfl⟩
  have hFy : Fr No w2 y := (hf3.trans (Fr.alloc No w3 _)).ofNew hyf fun k hk => .inr (by rw [hk]; exact hf3.size)
  rw [hub] at hyb ⊢
  rw [htb]
  have HY : Hid (Fr No w2 y ∧ Fr No w y ∧ y.heap[ub]? = some (.cells U 57 (0, 0)) ∧ y.heap[tb]? = some (.cells T 57 (0, 0))) := ⟨hFy, HW2.out.1.trans hFy, by simpa using hyb, hFy.keep (by rw [← htb]; exact HW2.out.2)⟩
  have HS : Hid (∀ w', Fr No y w' → Fr No y w' ∧ Sem.run PD (loadCellsFrom ⟨tb, 0, none⟩ 0 k19 #[]) w' = .ok T w' ∧ Sem.run PD (loadCellsFrom ⟨ub, 0, none⟩ 0 k19 #[]) w' = .ok U w') := fun w' hf => ⟨hf, load_block (hf.keep HY.out.2.2.2) hTk (fun j v hv => by simpa using hv), load_block (hf.keep HY.out.2.2.1) hUk (fun j v hv => by simpa using hv)⟩
  obtain ⟨v1, hv1⟩ : ∃ v, alT L nl b xs p = v := ⟨_, rfl⟩
  obtain ⟨v2, hv2⟩ : ∃ v, alT L nl' b' xs' p' = v := ⟨_, rfl⟩
  have HC1 : Hid (∀ w', Fr No y w' → Calls Try.prog 28 #[.pointer (some ⟨x, 0, none⟩), .agg T] w' (fun e w'' => e = .returned (.bool v1) ∧ Fr No w' w'') ∧ Calls Try.prog 29 #[.slice ad m c, .agg T] w' (fun e w'' => e = .returned (.bool v1) ∧ Fr No w' w'')) := fun w' hf => by
    have h := HX2.out w' (HY.out.1.trans hf) nl b xs p HTX.out.2
    rw [HTX.out.1, hv1] at h
    exact h
  have HC2 : Hid (∀ w', Fr No y w' → Calls Try.prog 28 #[.pointer (some ⟨x, 0, none⟩), .agg U] w' (fun e w'' => e = .returned (.bool v2) ∧ Fr No w' w'') ∧ Calls Try.prog 29 #[.slice ad m c, .agg U] w' (fun e w'' => e = .returned (.bool v2) ∧ Fr No w' w'')) := fun w' hf => by
    have h := HX2.out w' (HY.out.1.trans hf) nl' b' xs' p' hx'
    rw [hU, hv2] at h
    exact h
  clear hst hyb hyf hFy hf3 hub htb hv1 hv2 hU hx' hTk hUk hZk hUs hU1 hT1
  have hS0 := HS.out _ (Fr.drew No y)
  have q1 : (v1 == v1) = true := by simp
  have q2 : (v2 == v2) = true := by simp
  go_region_held3 (fun w' => Fr No y w' ∧ Sem.run PD (loadCellsFrom ⟨tb, 0, none⟩ 0 k19 #[]) w' = .ok T w' ∧ Sem.run PD (loadCellsFrom ⟨ub, 0, none⟩ 0 k19 #[]) w' = .ok U w') (first | assumption | (with_reducible exact HS.out _ (by assumption))) (first | (go_at_call 14; ((with_reducible refine (at_prog HP.out (awake_any _)).mono ?_); rintro e w3 ⟨rfl, hf3⟩; have K3 : Fr No y w3 := Fr.trans (And.left (by assumption)) hf3; clear hf3)) | (go_at_call 28; first | ((with_reducible refine (at_prog HP.out (HC1.out _ (And.left (by assumption))).1).mono ?_); rintro e w3 ⟨rfl, hf3⟩; have K3 : Fr No y w3 := Fr.trans (And.left (by assumption)) hf3; clear hf3) | ((with_reducible refine (at_prog HP.out (HC2.out _ (And.left (by assumption))).1).mono ?_); rintro e w3 ⟨rfl, hf3⟩; have K3 : Fr No y w3 := Fr.trans (And.left (by assumption)) hf3; clear hf3)) | (go_at_call 29; first | ((with_reducible refine (at_prog HP.out (HC1.out _ (And.left (by assumption))).2).mono ?_); rintro e w3 ⟨rfl, hf3⟩; have K3 : Fr No y w3 := Fr.trans (And.left (by assumption)) hf3; clear hf3) | ((with_reducible refine (at_prog HP.out (HC2.out _ (And.left (by assumption))).2).mono ?_); rintro e w3 ⟨rfl, hf3⟩; have K3 : Fr No y w3 := Fr.trans (And.left (by assumption)) hf3; clear hf3)))
  all_goals go_wp2_with fail
  all_goals go_ret
  all_goals exact ⟨rfl, HY.out.2.1.trans (by assumption)⟩
end Go.Proofs.Ytnadendhboiliaa
