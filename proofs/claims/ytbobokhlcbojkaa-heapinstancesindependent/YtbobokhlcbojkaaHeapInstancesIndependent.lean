/-
  The law HeapInstancesIndependent returns true for every list of due times and every address, and changes nothing that was in memory before.
  Conditions: none beyond the row's own.
-/
import Derived.Test.YtbobokhlcbojkaaTwo
import Derived.Test.YtbobokhlcbojkaaLook
import Derived.WalkKit
import Derived.ProofKit
import Derived.OpenShut
import Derived.ShutString
import Derived.ChangeOld
import Derived.Below
import Derived.Deep.RegionWith
namespace Go.Proofs.Ytbobokhlcbojkaa.heapInstancesIndependent
open Go.ChangeShapes Go.WideShapes Go.ChangeAt Go.RowKit
open Go.ChangeMaps (open_string shut_string)
set_option linter.unusedVariables false

theorem own : ownKnob Try.prog.godebug = none := by kernel_rfl
theorem laidOut : laidOutB Try.prog = true := by kernel_rfl
theorem at_prog {P : Program} (h : P = Try.prog) {f : Nat} {args : Array Value} {w : World} {R : Ending → World → Prop} (c : Calls Try.prog f args w R) : Calls P f args w R := by subst h; exact c

theorem sorted_strict {S : List Ent} (hn : (S.map Ent.id).Nodup) (hs : S.Pairwise (fun a b => ¬ b.lt a)) : S.Pairwise (fun a b => a.lt b) := by
  have h1 := List.pairwise_map.1 hn
  refine (hs.and h1).imp fun {a b} h => ?_
  unfold Ent.lt at h ⊢
  omega

theorem sorted_same {B S T : List Ent} (hB : (B.map Ent.id).Nodup) (h1 : S.Perm B) (h2 : T.Perm B) (s1 : S.Pairwise (fun a b => ¬ b.lt a)) (s2 : T.Pairwise (fun a b => ¬ b.lt a)) : S = T :=
  sorted_unique (h1.trans h2.symm) s1 (sorted_strict (((h2.map Ent.id).nodup_iff).2 hB) s2)

def mkA (cs : Array Value) (_ : Nat) : Value := .agg cs

set_option maxHeartbeats 8000000 in
set_option maxRecDepth 100000 in
theorem walk (a0 : Option Addr) (len0 cap0 : Nat) (z0 : List Int) (cs : Array Value) (w : World) (w0 : IsRow .u64 w a0 len0 cap0 z0) (hcs : IsAddr cs) :
    Calls Try.prog 7 #[.slice a0 len0 cap0, .agg cs] w fun e w' => e = .returned (.bool true) ∧ Below w.heap.size w w' := by
  obtain ⟨z, hz⟩ : ∃ z : Nat → Int, z = fun i => z0.getD i 0 := ⟨_, rfl⟩
  have HI : Hid (InRow (w.alloc (.cells cs 61)) a0 len0 z) := by rw [hz]; exact w0.row.fr (Fr.alloc No w _) (fun k _ h => h)
  have hlen := HI.out.1
  clear hz w0
  obtain ⟨n, hn1, hn2, hn3⟩ : ∃ n : Nat, n ≤ len0 ∧ n ≤ 40 ∧ (n : Int) = min (len0 : Int) 40 := ⟨min len0 40, by omega, by omega, by omega⟩
  have HN3 := Lib.hid hn3
  clear hn3
  have mixed : Try.prog.follows .mixedOrders = true := by kernel_rfl
  have t3 := Try.underlying3
  have u3 := Try.runUnderlying3
  have g3 := Try.isAgg3
  have z3 := Try.sizeOf3
  have t4 := Try.underlying4
  have u4 := Try.runUnderlying4
  have g4 := Try.isAgg4
  have z4 := Try.sizeOf4
  have t29 := Try.underlying29
  have u29 := Try.runUnderlying29
  have g29 := Try.isAgg29
  have z29 := Try.sizeOf29
  have t46 := Try.underlying46
  have u46 := Try.runUnderlying46
  have g46 := Try.isAgg46
  have z46 := Try.sizeOf46
  have t51 := Try.underlying51
  have u51 := Try.runUnderlying51
  have g51 := Try.isAgg51
  have z51 := Try.sizeOf51
  have g61 := Try.isAgg61
  have z61 := Try.sizeOf61
  have t62 := Try.underlying62
  have u62 := Try.runUnderlying62
  have g62 := Try.isAgg62
  have z62 := Try.sizeOf62
  have t64 := Try.underlying64
  have u64 := Try.runUnderlying64
  have g64 := Try.isAgg64
  have z64 := Try.sizeOf64
  have t9 := Try.underlying9
  have u9 := Try.runUnderlying9
  have g9 := Try.isAgg9
  have z9 := Try.sizeOf9
  have call22 := Try.call22
  have call25 := Try.call25
  have call32 := Try.call32
  have call33 := Try.call33
  have call34 := Try.call34
  have call35 := Try.call35
  have call36 := Try.call36
  have call37 := Try.call37
  have call38 := Try.call38
  have call39 := Try.call39
  have call40 := Try.call40
  have call41 := Try.call41
  have eg61 := Try.eqGuardType61
  have v61 := A.zx_run
  have heq := addr_same hcs
  have sx := A.zx_size
  have sc := hcs.1
  have nx : ¬ A.zx = #[] := by simp [A.zx]
  have HCS := Lib.hid hcs
  clear hcs
  go_enter Try.func7, Try.ntmps7
  obtain ⟨zx', hzx⟩ : ∃ z, z = A.zx := ⟨_, rfl⟩
  rw [← hzx] at v61 sx nx
  obtain ⟨kx, hkx⟩ : ∃ k, k = 17 := ⟨_, rfl⟩
  rw [← hkx] at sx sc z61
  have nkx : ¬ kx = 0 := by omega
  obtain ⟨P, hP⟩ : ∃ P, P = Try.prog := ⟨_, rfl⟩
  rw [← hP] at heq mixed t3 u3 g3 z3 t4 u4 g4 z4 t29 u29 g29 z29 t46 u46 g46 z46 t51 u51 g51 z51 g61 z61 t62 u62 g62 z62 t64 u64 g64 z64 t9 u9 g9 z9 call22 call25 call32 call33 call34 call35 call36 call37 call38 call39 call40 call41 eg61 v61 ⊢
  have HP := Lib.hid hP
  clear hP hkx hzx
  go_wp2_with fail
  obtain ⟨wB, hwB⟩ : ∃ y, y = w.alloc (.cells cs 61) := ⟨_, rfl⟩
  have HB : Hid (Fr No w wB ∧ wB.heap[w.heap.size]? = some (.cells cs 61 (0, 0)) ∧ w.heap.size < wB.heap.size) := by subst hwB; exact ⟨Fr.alloc No w _, heap_alloc_new w _, by simp⟩
  rw [← hwB] at HI ⊢
  clear hwB
  obtain ⟨bx, hbx⟩ : ∃ b, b = w.heap.size := ⟨_, rfl⟩
  rw [← hbx] at HB ⊢
  have HBX := Lib.hid hbx
  clear hbx
  refine (at_prog HP.out (A.new_any _)).mono ?_
  rintro e w1 ⟨ha, ma, rfl, h1, h2, h3, h4⟩
  have L1 := Lib.hid (A.Live.born h1 (Fr.refl No wB) h2 h3 h4)
  clear h1 h2 h3 h4
  go_wp2_with fail
  refine (at_prog HP.out (S.new_any _)).mono ?_
  rintro e w2 ⟨hb, mb, rfl, h1, h2, h3, h4⟩
  have L2 : Hid (Two wB w2 ha ma (.slice none 0 0) [] 0 hb mb (.slice none 0 0) [] 0) := ⟨L1.out.keep h2, Live.born h1 L1.out.fr h2 h3 h4, fun k hk hk' => by
    have := L1.out.heap.own_lt hk
    rcases hk' with rfl | rfl | hk'
    · omega
    · omega
    · cases hk'⟩
  clear h1 h2 h3 h4 L1
  go_wp2_with fail
  rw [← HN3.out]
  go_loopg [8] (n + 1) (fun g s wr => ∃ (i : Nat) (sa : Value) (Ea : List Ent) (sb : Value) (Eb : List Ent), s = .int .i64 i ∧ i ≤ n ∧ n - i < g ∧ Hid (Two wB wr ha ma sa Ea i hb mb sb Eb i ∧ Ea.Perm (pushed z (mkA cs) i) ∧ Eb.length = i))
  case atStart => exact ⟨0, _, [], _, [], by go_num, by omega, by omega, L2.out, List.Perm.refl _, rfl⟩
  case round =>
    obtain ⟨i, sa, Ea, sb, Eb, rfl, hin, hig, HR⟩ := hrel
    clear L2
    by_cases hi : i < n
    · obtain ⟨⟨b, off, rfl, c0⟩, hd⟩ := HI.out.2 i (by omega)
      have HC0 : Hid (wB.cell? ⟨b, off + i, none⟩ = some (.int .u64 (z i)) ∧ b < wB.heap.size) := ⟨c0, block_lt_of_cell c0⟩
      have p1 : (0 : Int) ≤ (i : Int) := by omega
      have p2 : (i : Int) < (n : Int) := by omega
      have p3 : (i : Int) < (len0 : Int) := by omega
      clear c0
      go_wp2_with fail
      refine region_tail 6 mixed (by kernel_rfl) ?_
      intro y hy
      have HT : Hid (Two wB y ha ma sa Ea i hb mb sb Eb i) := by subst hy; exact HR.out.1.keep (Fr.drew No _)
      clear hy
      have c1 : y.cell? ⟨b, off + i, none⟩ = some (.int .u64 (z i)) := (World.cell?_of_block (a := ⟨b, off + i, none⟩) (HT.out.fr.block b HC0.out.2 (fun h => h))).trans HC0.out.1
      have lx := load_block (P := P) (w := y) (B := bx) (o := 0) (xs := cs) ((HT.out.fr.block bx HB.out.2.2 (fun h => h)).trans HB.out.2.1) sc (fun j v hv => by simpa using hv)
      simp only [List.take_succ_cons, List.take_zero, List.drop_succ_cons, List.drop_zero]
      iterate 6 still_step
      refine wpStill_nil ?_
      clear c1 lx
      go_wp2_with fail
      refine (at_prog HP.out (A.push_cs ha ma sa Ea _ (z i) cs HCS.out _ HT.out.a.heap HT.out.a.ord (by rw [HR.out.2.1.length_eq, pushed_length]; omega) (by omega) hd)).mono ?_
      rintro e w3 ⟨rfl, sa3, Ea3, h1, h2, h3, h4, h5⟩
      have HT3 := Lib.hid (And.intro (HT.out.stepA h1 h3 h4 h5) h2)
      clear h1 h2 h3 h4 h5
      have c3 : w3.cell? ⟨b, off + i, none⟩ = some (.int .u64 (z i)) := (World.cell?_of_block (a := ⟨b, off + i, none⟩) (HT3.out.1.fr.block b HC0.out.2 (fun h => h))).trans HC0.out.1
      go_wp2_with fail
      refine (at_prog HP.out (S.push_any hb mb sb Eb _ (18446744073709551615 - z i) ⟨#[120]⟩ _ HT3.out.1.b.heap HT3.out.1.b.ord (by rw [HR.out.2.2]; omega) (by omega) (by omega))).mono ?_
      rintro e w4 ⟨rfl, sb4, Eb4, h1, h2, h3, h4, h5⟩
      have HT4 : Hid (Two wB w4 ha ma sa3 Ea3 ((i : Int) + 1) hb mb sb4 Eb4 ((i : Int) + 1) ∧ Eb4.length = i + 1) := ⟨HT3.out.1.stepB h1 h3 h4 h5, by rw [h2.length_eq, List.length_cons, HR.out.2.2]⟩
      clear h1 h2 h3 h4 h5 c3
      go_wp2_with fail
      refine (at_prog HP.out (A.handles_any ha ma sa3 Ea3 _ _ HT4.out.1.a.heap)).mono ?_
      rintro e w5 ⟨rb, S5, rfl, h1, h2, h3, h4, h5⟩
      have HT5 : Hid (Fr No w4 w5 ∧ w4.heap.size ≤ rb ∧ ∃ c : Array Value, w5.heap[rb]? = some (.cells c 3 (0, 0)) ∧ c.size = Ea3.length) := ⟨h5, h1, by obtain ⟨c, q1, q2, _⟩ := h4; exact ⟨c, q1, q2⟩⟩
      clear h1 h2 h3 h4 h5
      go_wp2_with fail
      refine (at_prog HP.out (overwrite_any rb Ea3.length _ (HT4.out.1.a.heap.good.len) HT5.out.2.2)).mono ?_
      rintro e w6 ⟨rfl, h6⟩
      have HT6 := Lib.hid (HT4.out.1.keep (HT5.out.1.ofNew h6 (fun k hk => Or.inr (by have := HT5.out.2.1; omega))))
      clear h6
      go_wp2_with fail
      go_roundg (n - i)
      case measure => exact hig
      case rel => exact ⟨i + 1, sa3, Ea3, sb4, Eb4, by go_num, by omega, by omega, by simpa using HT6.out, pushed_succ HT3.out.2 HR.out.2.1, HT4.out.2⟩
    · obtain rfl : i = n := by omega
      have p2 : ¬ ((i : Int) < (i : Int)) := by omega
      have HAll : Hid (∀ e ∈ Ea, e ∈ pushed z (mkA cs) i) := fun e he => HR.out.2.1.mem_iff.1 he
      have HAl : Hid (Ea.length = i) := by have h := HR.out.2.1.length_eq; rw [pushed_length] at h; exact h
      go_wp2_with fail
      rename World => wl
      go_loopg [9] (i + 1) (fun g s wr => ∃ (j : Nat) (sa' : Value) (Ea' : List Ent), s = .int .i64 j ∧ j ≤ i ∧ i - j < g ∧ Hid (Two wB wr ha ma sa' Ea' i hb mb sb Eb i ∧ Ea'.length + j = i ∧ ∀ e ∈ Ea', e ∈ pushed z (mkA cs) i))
      case atStart => exact ⟨0, sa, Ea, by go_num, by omega, by omega, HR.out.1, by rw [HAl.out]; omega, HAll.out⟩
      case round =>
        obtain ⟨j, sa', Ea', rfl, hji, hjg, HL⟩ := hrel
        by_cases hj : j < i
        · obtain ⟨e0, g0⟩ : ∃ e, Ea'[0]? = some e := ⟨_, List.getElem?_eq_getElem (by have := HL.out.2.1; omega)⟩
          obtain ⟨q, hq, rfl⟩ := pushed_mem (HL.out.2.2 _ (List.mem_of_getElem? g0))
          obtain ⟨⟨b, off, rfl, c0⟩, hd⟩ := HI.out.2 q (by omega)
          have HC0 : Hid (wB.cell? ⟨b, off + q, none⟩ = some (.int .u64 (z q)) ∧ b < wB.heap.size) := ⟨c0, block_lt_of_cell c0⟩
          have HG := Lib.hid g0
          clear c0 g0
          have p1 : (j : Int) < (i : Int) := by omega
          have p3 : (0 : Int) ≤ (q : Int) := by omega
          have p4 : (q : Int) < (len0 : Int) := by omega
          have p5 : ((q : Int) + 1 - 1) = (q : Int) := by omega
          have p6 : ¬ ((q : Int) + 1 < 1) := by omega
          have p7 : ¬ ((i : Int) < (q : Int) + 1) := by omega
          go_wp2_with fail
          refine (at_prog HP.out (A.pop_some ha ma sa' Ea' _ _ _ HL.out.1.a.heap HL.out.1.a.ord HG.out)).mono ?_
          rintro e w3 ⟨rfl, sa3, Ea3, h1, h2, h3, h4, h5⟩
          have hT3 := HL.out.1.stepA h1 h3 h4 (fun k hk => .inl (by rw [← h5]; exact hk))
          obtain ⟨y, sX, yb, yf⟩ := store_block (P := P) (w := w3.alloc (.cells zx' 61)) (B := w3.heap.size) (cs := zx') (t := 61) cs.toList (heap_alloc_new w3 _) (by simp [sc, sx]) HCS.out.one
          have hTy : Two wB y ha ma sa3 Ea3 i hb mb sb Eb i := hT3.keep ((Fr.alloc No w3 _).ofNew yf (fun k hk => Or.inr (by omega)))
          have cy : y.cell? ⟨b, off + q, none⟩ = some (.int .u64 (z q)) := (World.cell?_of_block (a := ⟨b, off + q, none⟩) (hTy.fr.block b HC0.out.2 (fun h => h))).trans HC0.out.1
          have l12 := load_block (P := P) (w := y) (B := w3.heap.size) (o := 0) (xs := cs) yb sc (fun j v hv => by simpa using hv)
          have l3 := load_block (P := P) (w := y) (B := bx) (o := 0) (xs := cs) ((hTy.fr.block bx HB.out.2.2 (fun h => h)).trans HB.out.2.1) sc (fun j v hv => by simpa using hv)
          have HT3 : Hid (Two wB y ha ma sa3 Ea3 i hb mb sb Eb i ∧ Ea3.length + (j + 1) = i ∧ ∀ e ∈ Ea3, e ∈ pushed z (mkA cs) i) := ⟨hTy, by have e1 := h2.length_eq; have e2 := HL.out.2.1; rw [List.length_cons] at e1; omega, fun e he => HL.out.2.2 e (h2.mem_iff.1 (List.mem_cons_of_mem _ he))⟩
          clear h1 h2 h3 h4 h5 hT3 hTy yb yf
          unfold ent mkA
          go_wp2_with fail
          go_roundg (i - j)
          case measure => exact hjg
          case rel => exact ⟨j + 1, sa3, Ea3, by go_num, by omega, by omega, HT3.out⟩
        · obtain rfl : j = i := by omega
          have p3 : ¬ ((j : Int) < (j : Int)) := by omega
          have hB : Ea' = [] := List.eq_nil_of_length_eq_zero (by have := HL.out.2.1; omega)
          subst hB
          have HBl : Hid (Eb.length = j) := HR.out.2.2
          go_wp2_with fail
          refine (at_prog HP.out (awake_any _)).mono ?_
          rintro e w4 ⟨rfl, hf⟩
          have L4 := Lib.hid (HL.out.1.keep hf)
          clear hf
          go_wp2_with fail
          refine (at_prog HP.out (A.len_any ha ma sa' [] _ _ L4.out.a.heap)).mono ?_
          rintro e w5 ⟨rfl, rfl⟩
          go_wp2_with fail
          refine (at_prog HP.out (S.len_any hb mb sb Eb _ _ L4.out.b.heap)).mono ?_
          rintro e w6 ⟨rfl, rfl⟩
          rw [HBl.out]
          go_wp2_with fail
          refine (at_prog HP.out (S.handles_any hb mb sb Eb _ _ L4.out.b.heap)).mono ?_
          rintro e w7 ⟨r7, S7, rfl, h1, h2, h3, h4, h5⟩
          rw [HBl.out] at h4 ⊢
          have L7 := Lib.hid (And.intro (L4.out.keep h5) (And.intro h2 (And.intro h3 h4)))
          clear h1 h2 h3 h4 h5
          go_wp2_with fail
          refine (at_prog HP.out (S.handles_any hb mb sb Eb _ _ L7.out.1.b.heap)).mono ?_
          rintro e w8 ⟨r8, S8, rfl, h1, h2, h3, h4, h5⟩
          rw [HBl.out] at h4 ⊢
          have hS : S7 = S8 := by
            obtain ⟨⟨D, hr, ht⟩, hg⟩ := L7.out.1.b.heap
            exact sorted_same ht.nodup L7.out.2.1 h2 L7.out.2.2.1 h3
          subst hS
          have i7 := (L7.out.2.2.2.ints (L7.out.2.1.length_eq.trans HBl.out)).fr h5 (fun b _ h => h)
          have i8 := h4.ints (h2.length_eq.trans HBl.out)
          have L8 := Lib.hid (And.intro (L7.out.1.keep h5) (And.intro i7 i8))
          clear h1 h2 h3 h4 h5 i7 i8
          go_wp2_with fail
          refine (at_prog HP.out (equal_any _ _ j j j j _ _ _ L8.out.2.1 L8.out.2.2 (by omega))).mono ?_
          rintro e w9 ⟨rfl, hf⟩
          have L9 := Lib.hid (L8.out.1.keep hf)
          clear hf
          have hdec : decide (S7.map Ent.id = S7.map Ent.id) = true := decide_eq_true rfl
          rw [hdec]
          go_wp2_with fail
          go_ret
          exact ⟨rfl, (HB.out.1.trans L9.out.fr).below (fun k hk => hk.elim) (Nat.le_refl _)⟩

set_option maxRecDepth 100000 in
theorem lifted (os : Os) (started : os.Started) (H : Type) (enc : TypeId × Value → H) :
    ReturnsInHanded {} Try.checked os 7 .any (Rows.heapInstancesIndependentSpec.pre6 enc Try.prog Try.f7 Rows.heapInstancesIndependentRow.domain false) (Rows.heapInstancesIndependentSpec.post enc Try.prog Try.f7 false true false false) := by
  refine returnsInHanded_of_change (C := Try.checked) own started (by kernel_rfl) Try.func7
    (ChangeSpec.witness6 (enc := enc) (C := Try.checked) false ⟨#[], #[.slice none 0 0, .agg #[.bool false, .int .u8 0, .int .u8 0, .int .u8 0, .int .u8 0, .int .u8 0, .int .u8 0, .int .u8 0, .int .u8 0, .int .u8 0, .int .u8 0, .int .u8 0, .int .u8 0, .int .u8 0, .int .u8 0, .int .u8 0, .int .u8 0]], []⟩ 8 (by kernel_rfl) (by kernel_rfl) (by kernel_rfl) (by kernel_rfl)) ?_
  intro W base args ds gs before hval0 hW hcnd _
  have hval : ∀ (j : Nat) t v, Try.f7.params[j]? = some t → args[j]? = some v → Value.okWide Try.prog W .any base t v := hval0
  have hW' := hW
  obtain ⟨p, q, hA0, hV, rfl, hfz, hnd⟩ := hW
  have hA : DataW.TrodAll enc Try.prog W 0 (fun _ => true) true Try.f7.params.toList args.toList ds p := hA0
  rw [Try.params7] at hA hval
  obtain ⟨v0, vs0, d0, ds0, p0, q0, hargs, rfl, rfl, h0, r0⟩ := trodAll_cons hA
  obtain ⟨v1, vs1, d1, ds1, p1, q1, rfl, rfl, rfl, h1, r1⟩ := trodAll_cons r0
  obtain ⟨rfl, rfl, rfl⟩ := trodAll_nil r1
  obtain rfl : args = #[v0, v1] := by cases args; simp_all
  obtain ⟨rfl, rfl⟩ := trodVars_none hV
  obtain ⟨a0, len0, cap0, rfl⟩ := okWide_slice Try.underlying51 (hval 0 51 v0 rfl rfl)
  have k0 := h0
  have lt0 : ∀ x ∈ p0, x.block < W.heap.size := by obtain ⟨m, hm⟩ := k0; exact DataW.trod_lt m _ _ _ hm
  obtain ⟨z0, w0⟩ : ∃ zs, IsRow .u64 W a0 len0 cap0 zs := by
    obtain ⟨fuel, hf⟩ := h0
    rcases open_ints Try.underlying51 Try.underlying29 (by kernel_rfl) hf with ⟨hcs, _⟩ | ⟨x, l, c, zs, hcs, _, hl, hm, hz, _, hcell, hwz⟩
    · simp [Value.cells] at hcs
      obtain ⟨rfl, rfl, rfl⟩ := hcs
      exact ⟨[], .inl ⟨rfl, rfl, rfl, rfl⟩⟩
    · simp [Value.cells] at hcs
      obtain ⟨rfl, rfl, rfl⟩ := hcs
      exact ⟨zs, .inr ⟨_, rfl, hl, hm, by simpa using hz, hcell, hwz⟩⟩
  obtain ⟨cs, rfl, w1⟩ := open_addr (hval 1 61 v1 rfl rfl) h1
  have k1 := h1
  have lt1 : ∀ x ∈ p1, x.block < W.heap.size := by obtain ⟨m, hm⟩ := k1; exact DataW.trod_lt m _ _ _ hm
  clear hA0 hval0
  refine (walk a0 len0 cap0 z0 cs W w0 w1).mono fun e W' ⟨he, bel⟩ => ?_
  subst he
  exact ⟨_, rfl, _, _, _, [], _, [], hW', trodAll_mk1 (shut_bool Try.underlying4 _), (trodAll_cons_mk (Below.trod laidOut (by kernel_rfl) (of_decide_eq_true (by kernel_rfl)) k0 bel lt0) (trodAll_cons_mk (Below.trod laidOut (by kernel_rfl) (of_decide_eq_true (by kernel_rfl)) k1 bel lt1) trodAll_mk0)), rfl, bel.frame _, fun h => by cases h⟩

theorem over : Rows.heapInstancesIndependentRow.holds Try.pinned (OpenSpec.ofChange Rows.heapInstancesIndependentSpec) :=
  OpenClaim.holds_of_wide 7 Try.f7 rfl rfl rfl rfl rfl rfl rfl ⟨rfl, rfl, rfl, rfl, rfl⟩ rfl rfl rfl rfl rfl (by kernel_rfl) Try.func7 (by kernel_rfl)
    (of_decide_eq_true (by kernel_rfl)) (by unfold Func.isWrapper; first | (rw [if_pos (by decide +kernel)]; kernel_rfl) | (rw [if_neg (by decide +kernel)]; exact ⟨rfl, rfl⟩))
    (fun os started H enc _ => lifted os started H enc)

end Go.Proofs.Ytbobokhlcbojkaa.heapInstancesIndependent

namespace Go.Proofs.Ytbobokhlcbojkaa
/-- The statement. -/
theorem heapInstancesIndependent_holds : Rows.HeapInstancesIndependentSaid := heapInstancesIndependent.over
#print axioms heapInstancesIndependent_holds
end Go.Proofs.Ytbobokhlcbojkaa
