/-
  CONTRACTS of New, Len, Reset and Start of the timers at one value type, over this seat's translation: what each call returns, what it leaves in memory.
  Conditions: the timers lie in memory as Tim says; fewer than 900 have been started.
-/
import Derived.Test.YtbgddldkpjeieaaGreatM5
import Derived.Test.YtbgddldkpjeieaaGreatMem
import Derived.WalkSpells
namespace Go.Proofs.YtbgddldkpjeieaaGreat.M
open Go.ChangeShapes Go.WideShapes Go.ChangeAt Go.RowKit Go.Maps
set_option linter.unusedVariables false

def VV (v : Value) : Prop := ∃ x : ByteArray, v = Value.string x
abbrev TX := TimX V VV (fun v => #[v]) 109 111 94 92
abbrev TI := Tim V VV (fun v => #[v]) 109 111 94 92
theorem tyne : (92 : TypeId) ≠ 109 ∧ (92 : TypeId) ≠ 111 ∧ (94 : TypeId) ≠ 109 ∧ (94 : TypeId) ≠ 111 := by decide
theorem tyne2 : (92 : TypeId) ≠ 94 := by decide

theorem tnew_any (S : Nat → Prop) (w : World) (hS : ∀ k, w.heap.size ≤ k → S k) : Calls Tryz.prog 37 #[] w fun e w' => ∃ tb, e = .returned (.pointer (some ⟨tb, 0, none⟩)) ∧ w.heap.size ≤ tb ∧ TI S w' tb [] 0 ∧ Fr No w w' := by
  go_enter Tryz.func37, Tryz.ntmps37
  go_wp2_with fail
  refine (new_any w).mono ?_
  rintro e w1 ⟨hb, mb, rfl, hH, hF, l1, l2⟩
  go_wp2_with fail
  go_ret
  refine ⟨w1.heap.size, rfl, hF.size, ⟨hb, mb, _, [], fun _ => 0, fun _ => none, ⟨heap_alloc_new _ _, hH.frNo (Fr.alloc No _ _), ordered_nil, List.Perm.refl _, ⟨List.Pairwise.nil, by simp, by simp, by simp, by simp⟩, by simp, by simp, by simp, by simp, by simp⟩, ?_⟩, hF.trans (Fr.alloc No _ _)⟩
  have := hF.size
  rintro k (rfl | (rfl | rfl | e) | ⟨r, hr, _⟩ | ⟨r, hr, _⟩)
  · exact hS _ this
  · exact hS _ l1
  · exact hS _ l2
  · simp [Value.ownBlock] at e
  · simp at hr
  · simp at hr

theorem tlen_any (S : Nat → Prop) (tb : Nat) (L : List Rec) (last : Int) (w : World) (h : TI S w tb L last) :
    Calls Tryz.prog 41 #[.pointer (some ⟨tb, 0, none⟩)] w fun e w' => e = .returned (.int .i64 L.length) ∧ w' = w := by
  obtain ⟨hb, mb, sv, A, blk, cm, hX, hM⟩ := h
  have c0 := hX.hcell
  have hl : A.length = L.length := by simpa using hX.perm.length_eq
  have HX := Lib.hid hX.heap
  clear hX
  go_enter Tryz.func41, Tryz.ntmps41
  go_wp2_with fail
  refine (len_any hb mb sv A last _ HX.out).mono ?_
  rintro e w1 ⟨rfl, rfl⟩
  rw [hl]
  go_wp2_with fail
  go_ret
  exact ⟨rfl, rfl⟩

theorem start_bound {S : Nat → Prop} {tb hb mb : Nat} {sv : Value} {A : List Ent} {blk : Int → Nat} {cm : Int → Option Nat} {L : List Rec} {reg : Int → Int → Prop} {last : Int} {w : World} (h : TX w tb hb mb sv A blk cm L reg last) (hl : last < 900) : A.length < 900 := by
  have h1 : A.length = L.length := by simpa using h.perm.length_eq
  have h2 := h.wood.len
  omega

theorem kid_start {L : List Rec} {last d p : Int} {v : Value} (hw : Wood L last) (hp : p = 0 ∨ ∃ q ∈ L, q.id = p) (hl : 0 ≤ last) : ∀ r ∈ L ++ [⟨last + 1, d, p, v⟩], ∀ x, (kid L r.id x ∨ (r.id = p ∧ x = last + 1)) ↔ kid (L ++ [⟨last + 1, d, p, v⟩]) r.id x := by
  intro r hr x
  constructor
  · rintro (⟨q, hq, h1, h2⟩ | ⟨h1, h2⟩)
    · exact ⟨q, List.mem_append_left _ hq, h1, h2⟩
    · exact ⟨⟨last + 1, d, p, v⟩, by simp, h2.symm, h1.symm⟩
  · rintro ⟨q, hq, h1, h2⟩
    rcases List.mem_append.1 hq with hq | hq
    · exact .inl ⟨q, hq, h1, h2⟩
    · simp at hq
      subst hq
      exact .inr ⟨h2.symm, h1.symm⟩

theorem kid_new {L : List Rec} {last : Int} (hw : Wood L last) : ∀ x, ¬ kid L (last + 1) x := by
  rintro x ⟨q, hq, _, h2⟩
  have h1 := hw.par_lt hq
  have h3 := hw.id q hq
  omega

set_option maxHeartbeats 1000000 in
set_option maxRecDepth 100000 in
theorem start_root (S : Nat → Prop) (tb : Nat) (L : List Rec) (last d : Int) (x : ByteArray) (w : World) (h : TI S w tb L last) (hS : ∀ k, w.heap.size ≤ k → S k) (hl : last < 900) (hd : 0 ≤ d ∧ d ≤ 18446744073709551615) :
    Calls Tryz.prog 38 #[.pointer (some ⟨tb, 0, none⟩), .int .i64 0, .int .u64 d, (Value.string x)] w fun e w' => e = .returned (.tuple #[.int .i64 (last + 1), .bool true]) ∧ TI S w' tb (L ++ [⟨last + 1, d, 0, (Value.string x)⟩]) (last + 1) ∧ Fr S w w' := by
  obtain ⟨hb, mb, sv, A, blk, cm, hX, hM⟩ := h
  have hX1 := hX.frNo (Fr.alloc No w (.cells #[.int .i64 0, .map none, Value.string x] 94))
  have c0 := hX1.hcell
  have hA := start_bound (S := S) hX hl
  have HX := Lib.hid (And.intro hX hX1)
  have HM := Lib.hid (And.intro hM hS)
  clear hX hX1 hM hS
  go_enter Tryz.func38, Tryz.ntmps38
  go_wp2_with fail
  refine (push_any hb mb sv A last d (some ⟨w.heap.size, 0, none⟩) _ HX.out.2.heap HX.out.2.ord hA hl hd).mono ?_
  rintro e w2 ⟨rfl, sv', A', hH, hp, hO, hf, hg⟩
  have H2 := Lib.hid (And.intro hH (And.intro hp (And.intro hO (And.intro hf hg))))
  clear hH hp hO hf hg
  go_wp2_with fail
  refine bodyPost_ret_by (by simp [results]; rfl) rfl ?_
  obtain ⟨hH, hp, hO, hf, hg⟩ := H2.out
  obtain ⟨hX, hX1⟩ := HX.out
  obtain ⟨hM, hS⟩ := HM.out
  have hl0 := hX.top
  obtain ⟨hT, -⟩ := hX.started tyne (p := 0) (v := (Value.string x)) ⟨x, rfl⟩ (.inl rfl) hd (Fr.alloc No w _) (heap_alloc_new w _) hf hH hO hp (kid_new hX.wood)
  refine ⟨rfl, ⟨hb, mb, sv', A', _, _, hT.reg' fun r hr y => ?_, ?_⟩, ?_⟩
  · rw [← kid_start hX.wood (.inl rfl) hl0.1 r hr y]
    have := hT.wood.id r hr
    constructor
    · exact fun h => .inl h
    · rintro (h | ⟨h, _⟩)
      · exact h
      · omega
  · exact mine_started hX hg hM hS
  · exact (Fr.alloc S w _).trans (hf.mono fun k _ hk => hM k (.inr (.inl hk)))

set_option maxHeartbeats 1000000 in
set_option maxRecDepth 100000 in
theorem start_miss (S : Nat → Prop) (tb : Nat) (L : List Rec) (last d k : Int) (x : ByteArray) (w : World) (h : TI S w tb L last) (hk : (Lit.int .i64 k).wf = true) (hk0 : k ≠ 0) (hno : ∀ r ∈ L, r.id ≠ k) :
    Calls Tryz.prog 38 #[.pointer (some ⟨tb, 0, none⟩), .int .i64 k, .int .u64 d, (Value.string x)] w fun e w' => e = .returned (.tuple #[.int .i64 0, .bool false]) ∧ TI S w' tb L last ∧ Fr S w w' := by
  obtain ⟨hb, mb, sv, A, blk, cm, hX, hM⟩ := h
  have hX1 := hX.frNo (Fr.alloc No w (.cells #[.int .i64 k, .map none, Value.string x] 94))
  have c0 := hX1.hcell
  have HX := Lib.hid (And.intro hX1 (And.intro hM (And.intro hno hk)))
  clear hX hX1 hM hno hk
  go_enter Tryz.func38, Tryz.ntmps38
  go_wp2_with fail
  refine (get_miss hb mb sv A last k _ HX.out.1.heap HX.out.2.2.2 (HX.out.1.miss HX.out.2.2.1)).mono ?_
  rintro e w2 ⟨rfl, rfl⟩
  go_wp2_with fail
  refine bodyPost_ret_by (by simp [results]; rfl) rfl ?_
  exact ⟨rfl, ⟨hb, mb, sv, A, blk, cm, HX.out.1, HX.out.2.1⟩, Fr.alloc S w _⟩

theorem map_set1 {w : World} {b : Nat} {a c : Value} {X : Array Value} {t : TypeId} (h : w.heap[b]? = some (.cells (#[a, c] ++ X) t (0, 0))) (u : Value) : (w.setCell ⟨b, 1, none⟩ u).heap[b]? = some (.cells (#[a, u] ++ X) t (0, 0)) := by
  rw [heap_setCell_same w b 1 _ _ u h]; simp

set_option maxHeartbeats 2000000 in
set_option maxRecDepth 100000 in
theorem start_child (S : Nat → Prop) (tb : Nat) (L : List Rec) (last d : Int) (q : Rec) (x : ByteArray) (w : World) (h : TI S w tb L last) (hq : q ∈ L) (hS : ∀ k, w.heap.size ≤ k → S k) (hl : last < 900) (hd : 0 ≤ d ∧ d ≤ 18446744073709551615) :
    Calls Tryz.prog 38 #[.pointer (some ⟨tb, 0, none⟩), .int .i64 q.id, .int .u64 d, (Value.string x)] w fun e w' => e = .returned (.tuple #[.int .i64 (last + 1), .bool true]) ∧ TI S w' tb (L ++ [⟨last + 1, d, q.id, (Value.string x)⟩]) (last + 1) ∧ Fr S w w' := by
  obtain ⟨hb, mb, sv, A, blk, cm, hX, hM⟩ := h
  have hq0 : q.id ≠ 0 := by have := hX.wood.id q hq; omega
  have hq1 : 0 ≤ last := hX.top.1
  have hX1 := hX.frNo (Fr.alloc No w (.cells #[.int .i64 q.id, .map none, Value.string x] 94))
  have c0 := hX1.hcell
  have hA := start_bound (S := S) hX hl
  obtain ⟨i, hi⟩ := hX.get hq
  have HX := Lib.hid (And.intro hX (And.intro hX1 (And.intro hi hq)))
  have HM := Lib.hid (And.intro hM hS)
  clear hX hX1 hM hS hi hq
  go_enter Tryz.func38, Tryz.ntmps38
  go_wp2_with fail
  refine (get_hit hb mb sv A last i _ _ HX.out.2.1.heap HX.out.2.2.1).mono ?_
  rintro e w2 ⟨rfl, hf2⟩
  have hX2 := HX.out.2.1.frNo hf2
  have c0' := hX2.hcell
  have hn2 : w2.heap[w.heap.size]? = some (.cells #[.int .i64 q.id, .map none, Value.string x] 94 (0, 0)) := (hf2.block _ (by simp) (fun h => h)).trans (heap_alloc_new w _)
  have hF2 : Fr No w w2 := (Fr.alloc No w _).trans hf2
  have hz2 : w.heap.size + 1 ≤ w2.heap.size := by have := hf2.size; simpa using this
  have H2 := Lib.hid (And.intro hX2 (And.intro hF2 (And.intro hn2 hz2)))
  clear hX2 hF2 hn2 hf2 c0 hz2
  simp only [entOf]
  go_wp2_with fail
  refine (push_any hb mb sv A last d (some ⟨w.heap.size, 0, none⟩) _ H2.out.1.heap H2.out.1.ord hA hl hd).mono ?_
  rintro e w3 ⟨rfl, sv', A', hH, hp, hO, hf, hg⟩
  obtain ⟨hT, hK⟩ := HX.out.1.started tyne (p := q.id) (v := (Value.string x)) ⟨x, rfl⟩ (.inr ⟨q, HX.out.2.2.2, rfl⟩) hd H2.out.2.1 H2.out.2.2.1 hf hH hO hp (kid_new HX.out.1.wood)
  have hne : q.id ≠ last + 1 := by have := HX.out.1.wood.id q HX.out.2.2.2; omega
  have hqL : q ∈ L ++ [⟨last + 1, d, q.id, (Value.string x)⟩] := List.mem_append_left _ HX.out.2.2.2
  have hN := hT.ncell hqL
  have hNb := hT.node q hqL
  have hK := hK q HX.out.2.2.2
  rw [upd_ne _ _ hne, upd_ne _ _ hne] at hN hNb
  have hFS : Fr S w w3 := H2.out.2.1.no.trans (hf.mono fun k _ hk => HM.out.1 k (.inr (.inl hk)))
  have hMi := mine_started (d := d) (p := q.id) (v := (Value.string x)) (sv' := sv') (o := .map #[] 0) HX.out.1 (fun k hk => by rcases hg k hk with e | e; exact .inl e; right; have := H2.out.2.2.2; simp; omega) HM.out.1 HM.out.2
  have n1 := hN.2
  have nfz := frozen_of_row w3 (blk q.id) 1 _ _ hNb
  have hmbs := hT.heap.mapAt
  obtain ⟨mbn, mbD, hmbm⟩ := hmbs
  have hmlt := hmbm.lt
  have H3 := Lib.hid (And.intro hT (And.intro hNb (And.intro hFS (And.intro hMi hqL))))
  have HK := Lib.hid hK
  clear hH hp hO hf hg hT hK hN hNb hFS hMi c0' hmbm
  have wk : (Lit.int .i64 (last + 1)).wf = true := WalkArith.wf_i64 (by omega)
  have hreg : Hid (∀ (kp : Int → Prop) (w' : World) (n : Nat) (D : DataW Unit) (c : Nat), (upd cm (last + 1) none q.id = some c ∨ w3.heap.size ≤ c) → Fr (fun k => k = blk q.id ∨ k = c) w3 w' → w'.heap[blk q.id]? = some (.cells (#[.int .i64 q.par, .map (some c)] ++ (fun v => #[v]) q.val) 94 (0, 0)) → c ≠ mb → w'.ownsMap Tryz.prog 3 (plainElem Tryz.prog 4) c n D → (n : Int) ≤ last + 1 → (∀ y, Maps.has D (key y) = true ↔ kid L q.id y ∨ y = last + 1) → TI S w' tb (L ++ [⟨last + 1, d, q.id, (Value.string x)⟩]) (last + 1) ∧ Fr S w w') := by
    intro kp w' n D c hc hf hn hmb hown hnl hD
    obtain ⟨hT, hNb, hFS, hMi, hqL⟩ := H3.out
    have hbq : upd blk (last + 1) w.heap.size q.id = blk q.id := upd_ne _ _ hne
    have hres := hT.regd (reg' := fun a y => kid L a y ∨ (a = q.id ∧ y = last + 1)) tyne tyne2 hqL hc (by rw [hbq]; exact hf) (by rw [hbq]; exact hn) hmb hown hnl (fun y => (hD y).trans (by simp)) (fun r hr he y => by simp [he])
    have hSb : S (blk q.id) := HM.out.1 _ (.inr (.inr (.inl ⟨q, HX.out.2.2.2, rfl⟩)))
    have hSc : S c := by
      rcases hc with hc | hc
      · rw [upd_ne _ _ hne] at hc; exact HM.out.1 _ (.inr (.inr (.inr ⟨q, HX.out.2.2.2, hc⟩)))
      · exact HM.out.2 c (Nat.le_trans hFS.size hc)
    refine ⟨⟨hb, mb, sv', A', _, _, hres.reg' (kid_start HX.out.1.wood (.inr ⟨q, HX.out.2.2.2, rfl⟩) hq1), ?_⟩, hFS.trans (hf.mono fun k _ hk => ?_)⟩
    · rintro k (hk | hk | hk | ⟨r, hr, hk⟩)
      · exact hMi k (.inl hk)
      · exact hMi k (.inr (.inl hk))
      · exact hMi k (.inr (.inr (.inl hk)))
      · by_cases e : r.id = q.id
        · rw [e, upd_same] at hk; cases hk; exact hSc
        · rw [upd_ne _ _ e] at hk; exact hMi k (.inr (.inr (.inr ⟨r, hr, hk⟩)))
    · rcases hk with rfl | rfl
      · exact hSb
      · exact hSc
  have hcq : upd cm (last + 1) none q.id = cm q.id := upd_ne _ _ hne
  have HC := Lib.hid hcq
  clear hcq
  cases hcm : cm q.id with
  | none =>
    have hk0 := HK.out
    rw [hcm] at hk0 n1
    have HK0 := Lib.hid hk0
    clear hk0 HK
    have hmm := @run_makeMap Tryz.prog
    have heq := fun w => run_eql_map_nil w 51 3 4 none Tryz.underlying51
    have hNA : (w3.alloc (.map #[] 0)).heap[blk q.id]? = some (.cells (#[.int .i64 q.par, .map none] ++ (fun v => #[v]) q.val) 94 (0, 0)) := by
      rw [Below.heap_alloc _ _ _ (Array.getElem?_eq_some_iff.1 H3.out.2.1).1, H3.out.2.1, hcm]
    have nfa := frozen_of_row _ (blk q.id) 1 _ _ hNA
    have n1a : (w3.alloc (.map #[] 0)).cell? ⟨blk q.id, 1, none⟩ = some (.map none) := by simp [World.cell?, hNA]
    have HNA := Lib.hid hNA
    have HOM : Hid (((w3.alloc (.map #[] 0)).setCell ⟨blk q.id, 1, none⟩ (.map (some w3.heap.size))).ownsMap Tryz.prog 3 (plainElem (H := Unit) Tryz.prog 4) w3.heap.size 0 (.map [])) :=
      (World.ownsMap_made w3 _ _ _).setCell (by have := (Array.getElem?_eq_some_iff.1 H3.out.2.1).1; exact fun e => by simp at e; omega) _
    have HCM := Lib.hid hcm
    clear hNA hcm
    go_wp2_with (first | (at_mapUpdate; refine wpList_mapUpdate_in _ rfl _ _ _ 51 rfl 3 4 law3 Tryz.underlying51 _ w3.heap.size 0 (.map []) rfl HOM.out (by unfold maxLen; omega) _ _ _ rfl rfl (keyOf_int_mk Tryz.underlying3 wk) _ [] (plainElem_bool Tryz.underlying4 true) ?_; intro w4 hown4 hturn4) | fail)
    refine bodyPost_ret_by (by simp [results]; rfl) rfl ?_
    have hbl := (Array.getElem?_eq_some_iff.1 H3.out.2.1).1
    refine ⟨rfl, hreg.out (fun _ => True) w4 (0 + 1) _ w3.heap.size (.inr (Nat.le_refl _)) ?_ ?_ (by omega) hown4 (by omega) ?_⟩
    · refine ((Fr.alloc _ w3 _).trans (Fr.setCell _ _ _ _ (.inl rfl))).trans (Fr.grown hturn4.grown fun k hk => by cases hk; exact .inr rfl)
    · have := hturn4.grown.block (blk q.id) (by simp; omega) (by simp; omega)
      rw [this, map_set1 HNA.out]
    · intro y
      rw [has_put_iff (by simp [IsMap])]
      have := HK0.out y
      simp [this, Maps.has]
  | some c =>
    have hk0 := HK.out
    rw [hcm] at hk0 n1
    obtain ⟨hcb, n, D, hnl, hown, hD⟩ := hk0
    have hlt := hown.lt
    have HOW := Lib.hid hown
    have HD := Lib.hid (And.intro hD hcm)
    clear HK hown hD hcm
    have heq := fun w => run_eql_map_nil w 51 3 4 (some c) Tryz.underlying51
    go_wp2_with (first | (at_mapUpdate; refine wpList_mapUpdate_in _ rfl _ _ _ 51 rfl 3 4 law3 Tryz.underlying51 _ c n D rfl HOW.out (by unfold maxLen; omega) _ _ _ rfl rfl (keyOf_int_mk Tryz.underlying3 wk) _ [] (plainElem_bool Tryz.underlying4 true) ?_; intro w4 hown4 hturn4) | fail)
    refine bodyPost_ret_by (by simp [results]; rfl) rfl ?_
    refine ⟨rfl, hreg.out (fun _ => True) w4 (n + 1) _ c (.inl (HC.out.trans HD.out.2)) ?_ ?_ hcb hown4 (by omega) ?_⟩
    · exact Fr.grown hturn4.grown fun k hk => by cases hk; exact .inr rfl
    · have hne2 : blk q.id ≠ c := map_ne H3.out.2.1 HOW.out
      have := hturn4.grown.block (blk q.id) (Array.getElem?_eq_some_iff.1 H3.out.2.1).1 (by simpa using fun e => hne2 e)
      rw [this, H3.out.2.1, HD.out.2]
    · intro y
      rw [has_put_iff HOW.out.isMap, HD.out.1 y]
      exact or_comm


end Go.Proofs.YtbgddldkpjeieaaGreat.M
