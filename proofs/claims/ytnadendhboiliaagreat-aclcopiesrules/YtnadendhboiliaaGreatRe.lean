/-
  CONTRACT of package acl's addAddrRule, over this seat's translation: an address rule is laid into the trie.
  Conditions: the rules ahead of it are laid; the rule is an address rule and valid.
-/
import Derived.Test.YtnadendhboiliaaGreatRd
import Derived.Test.YtnadendhboiliaaGreatRc
namespace Go.Proofs.YtnadendhboiliaaGreat
open Go.ChangeShapes Go.WideShapes Go.ChangeAt Go.RowKit
set_option linter.unusedVariables false

theorem ewI : Ew 50 3 1 8 := ⟨Tryz.underlying50, ⟨.int .i64 0, by kernel_rfl, rfl⟩, by decide⟩
theorem own_shape {w : World} {B m : Nat} {v : Value} {xs : List Value} (h : w.ownsRow B 3 1 v m xs) : ∃ a c, v = .slice a m c := by
  obtain ⟨a, c, hv, -⟩ := row_any h
  exact ⟨a, c, hv⟩
theorem Inc.val {n0 : Nat} {w : World} {x : Nat} {L : List Ru} {i tb : Nat} {ra : Option Addr} {rc : Nat} {T : List (Px × Value)} {X : Nat → Prop} (h : Inc n0 w x L i tb ra rc T X) (p : Px) : w.ownsRow (x + 1) 3 1 ((valL T p).getD (.slice none 0 0)) (idx L i p).length (nums .i64 (idx L i p)) := by
  cases hq : valL T p with
  | some y => exact (h.vals.val p y ((valL_iff h.st.srt.1).1 hq)).2
  | none =>
    have hi : idx L i p = [] := by
      by_cases hc : idx L i p = []
      · exact hc
      · obtain ⟨y, hy⟩ := h.vals.key p hc
        exact absurd rfl (valL_none.1 hq _ hy)
    rw [hi]
    exact World.ownsRow_nil w _ _ _

set_option maxHeartbeats 8000000 in
set_option maxRecDepth 100000 in
theorem add_any (n0 : Nat) (w : World) (x : Nat) (L : List Ru) (i tb : Nat) (ra : Option Addr) (rc : Nat) (T : List (Px × Value)) (X : Nat → Prop) (h : Inc n0 w x L i tb ra rc T X) (r : Ru) (hr : L[i]? = some r) (hs : r.sf = []) (hv : validP r.p.b r.p.xs r.p.n = true) (hm : L.length ≤ 32) :
    Calls Tryz.prog 21 #[.pointer (some ⟨x, 0, none⟩), .int .i64 i] w fun e w' => e = .returned (.tuple #[]) ∧ (∃ T' X', Inc n0 w' x L (i + 1) tb ra rc T' X') ∧ Fr (fun k => n0 ≤ k) w w' := by
  obtain ⟨b, o, hra, hb, hcell⟩ := h.rows.cell hr
  have hi : i < L.length := (List.getElem?_eq_some_iff.1 hr).1
  obtain ⟨ln, hln⟩ : ∃ ln, L.length = ln := ⟨_, rfl⟩
  obtain ⟨P, hP, -, -, hPs, -, hP1⟩ := pfx_letter r.p.b r.p.xs r.p.n hb
  obtain ⟨Z, hZ⟩ : ∃ Z : Array Value, noP.toArray = Z := ⟨_, rfl⟩
  have v28 := zero29
  rw [hZ] at v28
  have hZs : Z.size = 18 := by rw [← hZ]; rfl
  have hpl : ∀ (Q : Program) w', Fr No w w' → Sem.run Q (loadCellsFrom ⟨b, o + i * 22 + 2, none⟩ 0 18 #[]) w' = .ok P w' := fun Q w' hf => by rw [← hP]; exact h.rows.pfx hr hra hf Q
  have HPL := Lib.hid hpl
  obtain ⟨v0, hv0⟩ : ∃ v0, (valL T r.p).getD (.slice none 0 0) = v0 := ⟨_, rfl⟩
  have hval := h.val r.p
  rw [hv0] at hval
  obtain ⟨m, hmm⟩ : ∃ m, (idx L i r.p).length = m := ⟨_, rfl⟩
  rw [hmm] at hval
  have hmi : m ≤ i := by rw [← hmm]; exact idx_len _ _ _
  obtain ⟨a0, c0, rfl⟩ := own_shape hval
  have HG : Hid (∀ w', Fr No w w' → Calls Tryz.prog 39 #[.pointer (some ⟨tb, 0, none⟩), .agg P] w' fun e w'' => e = .returned (.tuple #[.slice a0 m c0, .bool (valL T r.p).isSome]) ∧ Fr No w' w'') := fun w' hf => by
    have hg := getSL (h.st.no hf) r.p hb
    rw [hv0, hP] at hg
    exact hg
  have HI := Lib.hid h
  have c0x : ∀ w', Fr No w w' → w'.cell? ⟨x, 0, none⟩ = some (.slice (some ⟨b, o, none⟩) ln rc) ∧ w'.cell? ⟨x, 1, none⟩ = some (.pointer (some ⟨tb, 0, none⟩)) := fun w' hf => ⟨cell_of (hf.keep h.box) (by rw [hra, hln]; rfl), cell_of (hf.keep h.box) rfl⟩
  have HX := Lib.hid c0x
  generalize (valL T r.p).isSome = bs0 at HG
  have hil : (i : Int) < (ln : Int) := by omega
  have hi0 : (0 : Int) ≤ (i : Int) := by omega
  have HR := Lib.hid (And.intro hr (And.intro hs (And.intro hv0 (And.intro hval (And.intro hmm (And.intro hP (And.intro hv hm)))))))
  have HM := Lib.hid hmi
  clear hr hs hv0 hval hmm hcell hZ hb hln hpl h hP hmi c0x hv
  go_enter Tryz.func21, Tryz.ntmps21
  have v3 := Tryz.zeroValue3
  have t3 := Tryz.underlying3
  have u3 := Tryz.runUnderlying3
  have g3 := Tryz.isAgg3
  have z3 := Tryz.sizeOf3
  have t4 := Tryz.underlying4
  have u4 := Tryz.runUnderlying4
  have g4 := Tryz.isAgg4
  have z4 := Tryz.sizeOf4
  have t22 := Tryz.underlying22
  have u22 := Tryz.runUnderlying22
  have g22 := Tryz.isAgg22
  have z22 := Tryz.sizeOf22
  have t25 := Tryz.underlying25
  have u25 := Tryz.runUnderlying25
  have g25 := Tryz.isAgg25
  have z25 := Tryz.sizeOf25
  have t28 := Tryz.underlying28
  have u28 := Tryz.runUnderlying28
  have g28 := Tryz.isAgg28
  have z28 := Tryz.sizeOf28
  have t29 := Tryz.underlying29
  have u29 := Tryz.runUnderlying29
  have g29 := Tryz.isAgg29
  have z29 := Tryz.sizeOf29
  have t31 := Tryz.underlying31
  have u31 := Tryz.runUnderlying31
  have g31 := Tryz.isAgg31
  have z31 := Tryz.sizeOf31
  have t32 := Tryz.underlying32
  have u32 := Tryz.runUnderlying32
  have g32 := Tryz.isAgg32
  have z32 := Tryz.sizeOf32
  have t50 := Tryz.underlying50
  have u50 := Tryz.runUnderlying50
  have g50 := Tryz.isAgg50
  have z50 := Tryz.sizeOf50
  have t48 := Tryz.underlying48
  have u48 := Tryz.runUnderlying48
  have g48 := Tryz.isAgg48
  have z48 := Tryz.sizeOf48
  have t52 := Tryz.underlying52
  have u52 := Tryz.runUnderlying52
  have g52 := Tryz.isAgg52
  have z52 := Tryz.sizeOf52
  have c39 := Tryz.call39
  have c40 := Tryz.call40
  have mixed : Tryz.prog.follows .mixedOrders = true := by kernel_rfl
  obtain ⟨k24, hk24⟩ : ∃ k, k = 17 := ⟨_, rfl⟩
  rw [← hk24] at z25
  have nk24 : ¬ k24 = 0 := by omega
  have HK25 := Lib.hid hk24
  obtain ⟨k40, hk40⟩ : ∃ k, k = 18 := ⟨_, rfl⟩
  rw [← hk40] at z29
  have nk40 : ¬ k40 = 0 := by omega
  have HK29 := Lib.hid hk40
  obtain ⟨k22, hk22⟩ : ∃ k, k = 22 := ⟨_, rfl⟩
  rw [← hk22] at z31
  have nk22 : ¬ k22 = 0 := by omega
  have HK31 := Lib.hid hk22
  have hP : Tryz.prog = PD := rfl
  rw [hP] at t3 u3 g3 z3 t4 u4 g4 z4 t22 u22 g22 z22 t25 u25 g25 z25 t28 u28 g28 z28 t29 u29 g29 z29 t31 u31 g31 z31 t32 u32 g32 z32 t50 u50 g50 z50 t48 u48 g48 z48 t52 u52 g52 z52 c39 c40 mixed v28 v3 ⊢
  have HP := Lib.hid hP.symm
  clear hP hk24 hk40 hk22
  have hPk : P.size = k40 := by rw [HK29.out]; exact hPs
  have hZk : Z.size = k40 := by rw [HK29.out]; exact hZs
  obtain ⟨y, hst, hyb, hyf⟩ := store_all (P := PD) P.toList (heap_alloc_new w (.cells Z 29)) (by rw [Array.length_toList, hPk, hZk]) hP1
  obtain ⟨f0, f1⟩ := HX.out w (Fr.refl _ _)
  have l0 : Sem.run PD (loadCellsFrom ⟨b, o + i * k22 + 2, none⟩ 0 k40 #[]) w = .ok P w := by rw [HK31.out, HK29.out]; exact HPL.out PD w (Fr.refl _ _)
  clear hPs hZs
  go_upto_region 1 with fail
  obtain ⟨nb, hnb⟩ : ∃ nb, w.heap.size = nb := ⟨_, rfl⟩
  have hFy : Fr No w y := by
    have h1 := Fr.alloc No w (.cells Z 29)
    exact h1.ofNew hyf fun k hk => .inr (by rw [hk]; exact Nat.le_refl _)
  rw [hnb] at hyb hst
  have HY : Hid (Fr No w y ∧ y.heap[nb]? = some (.cells P 29 (0, 0)) ∧ w.heap.size = nb) := ⟨hFy, by simpa using hyb, hnb⟩
  have HS : Hid (∀ w', Fr No y w' → Fr No y w' ∧ w'.cell? ⟨x, 1, none⟩ = some (.pointer (some ⟨tb, 0, none⟩)) ∧ Sem.run PD (loadCellsFrom ⟨nb, 0, none⟩ 0 k40 #[]) w' = .ok P w') := fun w' hf => ⟨hf, (HX.out w' (HY.out.1.trans hf)).2, load_block (hf.keep HY.out.2.1) hPk (fun j v hv => by simpa using hv)⟩
  have HG2 : Hid (∀ w', Fr No y w' → Calls Tryz.prog 39 #[.pointer (some ⟨tb, 0, none⟩), .agg P] w' fun e w'' => e = .returned (.tuple #[.slice a0 m c0, .bool bs0]) ∧ Fr No w' w'') := fun w' hf => HG.out w' (HY.out.1.trans hf)
  have hS0 := HS.out _ (Fr.drew No y)
  rw [hnb]
  clear hFy hyb hyf hnb hst
  go_region_held3 (fun w' => Fr No y w' ∧ w'.cell? ⟨x, 1, none⟩ = some (.pointer (some ⟨tb, 0, none⟩)) ∧ Sem.run PD (loadCellsFrom ⟨nb, 0, none⟩ 0 k40 #[]) w' = .ok P w') (first | assumption | (with_reducible exact HS.out _ K3)) (first | (go_at_call 39; ((with_reducible refine (at_prog HP.out (HG2.out _ (And.left (by assumption)))).mono ?_); rintro e w3 ⟨rfl, hf3⟩; have K3 : Fr No y w3 := Fr.trans (And.left (by assumption)) hf3)))
  have HW3 : Hid (Fr No y w3 ∧ Fr No w w3) := ⟨K3, HY.out.1.trans K3⟩
  clear hS0 K3 hf3
  go_upto_region 2 with fail
  have HS2 : Hid (∀ w', Fr (fun k => (Value.slice a0 m c0).ownBlock = some k) w3 w' → Fr (fun k => (Value.slice a0 m c0).ownBlock = some k) w3 w' ∧ w'.cell? ⟨x, 1, none⟩ = some (.pointer (some ⟨tb, 0, none⟩)) ∧ Sem.run PD (loadCellsFrom ⟨nb, 0, none⟩ 0 k40 #[]) w' = .ok P w') := fun w' hf => by
    have hx3 : w3.heap[x]? = some _ := HW3.out.2.keep HI.out.box
    have hb3 := HW3.out.1.keep HY.out.2.1
    have hnbx : w.heap.size = nb := HY.out.2.2
    have hlt : ∀ k, (Value.slice a0 m c0).ownBlock = some k → x < k ∧ k < nb := fun k hk => by
      have := HR.out.2.2.2.1.lt k hk
      omega
    refine ⟨hf, cell_of ((hf.block x (some_lt hx3) fun hc => by have := hlt x hc; omega).trans hx3) rfl, ?_⟩
    exact load_block ((hf.block nb (some_lt hb3) fun hc => by have := hlt nb hc; omega).trans hb3) hPk (fun j v hv => by simpa using hv)
  have hS0 := HS2.out _ (Fr.drew _ w3)
  have HWA : Hid (Fr No w (w3.drew.alloc (.cells #[.int .i64 i] 3)) ∧ Fr No w3 (w3.drew.alloc (.cells #[.int .i64 i] 3))) := ⟨HW3.out.2.trans ((Fr.drew No w3).trans (Fr.alloc No _ _)), (Fr.drew No w3).trans (Fr.alloc No _ _)⟩
  have HOA : Hid ((w3.drew.alloc (.cells #[.int .i64 i] 3)).ownsRow (x + 1) 3 1 (.slice a0 m c0) m (nums .i64 (idx L i r.p))) := row_frNo HR.out.2.2.2.1 HWA.out.1
  have HAT : Hid (At (w3.drew.alloc (.cells #[.int .i64 i] 3)) (some ⟨w3.drew.heap.size, 0, none⟩) (nums .i64 [i])) := At.block (heap_alloc_new w3.drew _)
  have HBS : Hid (x + 1 ≤ (w3.drew.alloc (.cells #[.int .i64 i] 3)).heap.size) := Nat.le_trans (some_lt HI.out.box) HWA.out.1.size
  have hlnb : nb < (w3.drew.alloc (.cells #[.int .i64 i] 3)).heap.size := Nat.lt_of_lt_of_le (some_lt HY.out.2.1) (Nat.le_trans HW3.out.1.size HWA.out.2.size)
  have hIA := HI.out.more HWA.out.1 (nb := nb) (by rw [HY.out.2.2]; exact Nat.le_refl _) hlnb
  obtain ⟨ids, hids⟩ : ∃ ids, nums .i64 (idx L i r.p) = ids := ⟨_, rfl⟩
  have HINS : Hid (∀ (w5 : World) (a5 : Option Addr) (c5 : Nat), w5.ownsRow (x + 1) 3 1 (.slice a5 (m + 1) c5) (m + 1) (ids ++ nums .i64 [i]) → (w3.drew.alloc (.cells #[.int .i64 i] 3)).grownBy w5 (Value.slice a0 m c0).ownBlock → ((Value.slice a5 (m + 1) c5).ownBlock = (Value.slice a0 m c0).ownBlock ∨ (Value.slice a5 (m + 1) c5).ownBlock = some (w3.drew.alloc (.cells #[.int .i64 i] 3)).heap.size) →
      Calls Tryz.prog 40 #[.pointer (some ⟨tb, 0, none⟩), .agg P, .slice a5 (m + 1) c5] w5 fun e w'' => e = .returned (.bool true) ∧ (∃ T' X', Inc n0 w'' x L (i + 1) tb ra rc T' X') ∧ Fr (fun k => n0 ≤ k) (w3.drew.alloc (.cells #[.int .i64 i] 3)) w'' ∧ w''.cell? ⟨x, 1, none⟩ = some (.pointer (some ⟨tb, 0, none⟩)) ∧ Sem.run PD (loadCellsFrom ⟨nb, 0, none⟩ 0 k40 #[]) w'' = .ok P w'') := fun w5 a5 c5 ho5 hg5 hb5 => by
    have ho6 : w5.ownsRow (x + 1) 3 1 (.slice a5 (m + 1) c5) ((idx L i r.p).length + 1) (nums .i64 (idx L i r.p ++ [i])) := by rw [HR.out.2.2.2.2.1, nums_append, hids]; exact ho5
    obtain ⟨g1, g2, g3⟩ := hIA.grow HR.out.2.2.1 hg5 hb5 ho6 (Fr.refl No w5)
    have hin := insertSL g1 g2 (by have := hIA.len; have := HR.out.2.2.2.2.2.2.2; omega) r.p (HI.out.rows.1 r (List.mem_of_getElem? HR.out.1)) (.slice a5 (m + 1) c5) ⟨(a5, m + 1, c5), rfl⟩
    rw [HR.out.2.2.2.2.2.2.1, HR.out.2.2.2.2.2.1, if_pos rfl] at hin
    refine hin.mono ?_
    rintro e w6 ⟨he, h6, hf6⟩
    obtain ⟨hd, hfd⟩ := hIA.done HR.out.1 HR.out.2.1 HR.out.2.2.1 hg5 hb5 ho6 (Fr.refl No w5) h6 hf6
    have hb5x := (HS2.out _ (HWA.out.2.no.trans (Fr.grown hg5 fun k hk => hk))).2.2
    have hnb5 : w5.heap[nb]? = some (.cells P 29 (0, 0)) := by
      have hb3 := HWA.out.2.keep (HW3.out.1.keep HY.out.2.1)
      refine ((Fr.grown (S := fun k => (Value.slice a0 m c0).ownBlock = some k) hg5 fun k hk => hk).block nb (some_lt hb3) fun hc => ?_).trans hb3
      have := HR.out.2.2.2.1.lt nb hc
      have := HY.out.2.2
      omega
    refine ⟨he, ⟨_, _, hd⟩, hfd, cell_of hd.box rfl, ?_⟩
    exact load_block ((hf6.block nb (some_lt hnb5) fun hc => hc (.inl (.inr rfl))).trans hnb5) hPk (fun j v hv => by simpa using hv)
  rw [hids] at HOA
  clear hIA hids
  have hm8 : (m + 1) * 8 ≤ 140737488355328 := by have := HM.out; have := HR.out.2.2.2.2.2.2.2; omega
  have HP0 := Lib.hid hP1
  clear hP1
  have hS0 := hS0.2
  go_region_held3 (fun w' => w'.cell? ⟨x, 1, none⟩ = some (.pointer (some ⟨tb, 0, none⟩)) ∧ Sem.run PD (loadCellsFrom ⟨nb, 0, none⟩ 0 k40 #[]) w' = .ok P w') (first | assumption | exact hS6 | exact (HS2.out _ K5).2 | exact (HS2.out _ (HWA.out.2.no)).2) (first | (go_loud (refine step_append_many ewI rfl (.tmp 29) (.tmp 31) rfl (x + 1) _ m _ rfl HOA.out (some ⟨w3.drew.heap.size, 0, none⟩) 1 1 (nums .i64 [i]) rfl (nums_one _ _) rfl HAT.out (fun h => by cases h) hm8 (by decide) HBS.out ?_); intro a5 c5 w5 ho5 hg5 hb5; have K5 : Fr (fun k => (Value.slice a0 m c0).ownBlock = some k) w3 w5 := HWA.out.2.no.trans (Fr.grown hg5 fun k hk => hk)) | (go_at_call 40; go_loud (refine (at_prog HP.out (HINS.out _ _ _ ho5 hg5 hb5)).mono ?_; rintro e w6 ⟨rfl, hI6, hf6, hS6⟩)))
  go_wp2_with fail
  go_end0
  exact ⟨rfl, hI6, (HWA.out.1.no).trans hf6⟩
end Go.Proofs.YtnadendhboiliaaGreat
