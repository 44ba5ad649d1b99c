/-
  How a set of timers lies in memory: a header, a heap of pointers, a node a timer, a map of children a node; no walk.
  Conditions: as each theorem says.
-/
import Derived.Test.YtbgddldkpjeieaaGreatWood
import Derived.Test.YtbgddldkpjeieaaGreatOrd3
namespace Go.Proofs.YtbgddldkpjeieaaGreat
open Go.ChangeShapes Go.WideShapes Go.ChangeAt Go.RowKit Go.Maps
set_option linter.unusedVariables false

/-- The cells of a struct that lies in a node. -/
def aggCells : Value → Array Value
  | .agg x => x
  | v => #[v]

def entOf (blk : Int → Nat) (r : Rec) : Ent := ⟨r.due, r.id, .pointer (some ⟨blk r.id, 0, none⟩)⟩

/-- The map of a node's children, where there is one. -/
def KidsAt (w : World) (mb : Nat) (last : Int) (reg : Int → Prop) : Option Nat → Prop
  | none => ∀ x, ¬ reg x
  | some c => c ≠ mb ∧ ∃ (n : Nat) (D : DataW Unit), (n : Int) ≤ last ∧ w.ownsMap Tryz.prog 3 (plainElem Tryz.prog 4) c n D ∧ ∀ x, Maps.has D (key x) = true ↔ reg x

def kid (L : List Rec) (k x : Int) : Prop := ∃ r ∈ L, r.id = x ∧ r.par = k

structure TimX (V VV : Value → Prop) (vc : Value → Array Value) (st en nt tt : TypeId) (w : World) (tb hb mb : Nat) (sv : Value) (A : List Ent) (blk : Int → Nat) (cm : Int → Option Nat) (L : List Rec) (reg : Int → Int → Prop) (last : Int) : Prop where
  hdr : w.heap[tb]? = some (.cells #[.pointer (some ⟨hb, 0, none⟩)] tt (0, 0))
  heap : HeapAt V st en w hb mb sv A last
  ord : Ordered A
  perm : A.Perm (L.map (entOf blk))
  wood : Wood L last
  val : ∀ r ∈ L, VV r.val
  node : ∀ r ∈ L, w.heap[blk r.id]? = some (.cells (#[.int .i64 r.par, .map (cm r.id)] ++ vc r.val) nt (0, 0))
  inj : ∀ r ∈ L, ∀ r' ∈ L, blk r.id = blk r'.id → r.id = r'.id
  kids : ∀ r ∈ L, KidsAt w mb last (reg r.id) (cm r.id)
  cinj : ∀ r ∈ L, ∀ r' ∈ L, ∀ c, cm r.id = some c → cm r'.id = some c → r.id = r'.id

/-- The blocks that a set of timers takes up. -/
def Mine (tb hb mb : Nat) (sv : Value) (blk : Int → Nat) (cm : Int → Option Nat) (L : List Rec) (k : Nat) : Prop := k = tb ∨ Own hb mb sv k ∨ (∃ r ∈ L, k = blk r.id) ∨ ∃ r ∈ L, cm r.id = some k

def Tim (V VV : Value → Prop) (vc : Value → Array Value) (st en nt tt : TypeId) (S : Nat → Prop) (w : World) (tb : Nat) (L : List Rec) (last : Int) : Prop :=
  ∃ hb mb sv A blk cm, TimX V VV vc st en nt tt w tb hb mb sv A blk cm L (kid L) last ∧ ∀ k, Mine tb hb mb sv blk cm L k → S k

theorem cells_ne {w : World} {a b : Nat} {x y : Array Value} {t u : TypeId} {p q : Nat × Nat} (ha : w.heap[a]? = some (.cells x t p)) (hb : w.heap[b]? = some (.cells y u q)) (h : t ≠ u) : a ≠ b := by
  rintro rfl
  rw [ha] at hb
  cases hb
  exact h rfl

theorem map_ne {w : World} {a b n : Nat} {x : Array Value} {t : TypeId} {p : Nat × Nat} {k : TypeId} {R : Value → Option (DataW Unit × List MemPlace)} {D : DataW Unit} (ha : w.heap[a]? = some (.cells x t p)) (hb : w.ownsMap Tryz.prog k R b n D) : a ≠ b := by
  rintro rfl
  obtain ⟨es, cl, hm, _⟩ := hb
  rw [ha] at hm
  cases hm

theorem HeapAt.hdr {V : Value → Prop} {st en : TypeId} {w : World} {hb mb : Nat} {sv : Value} {A : List Ent} {last : Int} (h : HeapAt V st en w hb mb sv A last) : w.heap[hb]? = some (.cells #[sv, .map (some mb), .int .i64 last] st (0, 0)) := by
  obtain ⟨⟨D, hr, _⟩, _⟩ := h; exact hr.hdr
theorem HeapAt.mapAt {V : Value → Prop} {st en : TypeId} {w : World} {hb mb : Nat} {sv : Value} {A : List Ent} {last : Int} (h : HeapAt V st en w hb mb sv A last) : ∃ (n : Nat) (D : DataW Unit), w.ownsMap Tryz.prog 3 (plainElem Tryz.prog 3) mb n D := by
  obtain ⟨⟨D, hr, _⟩, _⟩ := h; exact ⟨_, _, hr.map⟩
theorem HeapAt.rowAt {V : Value → Prop} {st en : TypeId} {w : World} {hb mb : Nat} {sv : Value} {A : List Ent} {last : Int} (h : HeapAt V st en w hb mb sv A last) {g : Nat} (hg : sv.ownBlock = some g) : ∃ cur, w.heap[g]? = some (.cells cur en (0, 0)) := by
  obtain ⟨⟨D, hr, _⟩, _⟩ := h
  rcases hr.row.2 with ⟨hv, _⟩ | ⟨g', cap, cur, hv, _, hc, _⟩
  · rw [hv] at hg; simp [Value.ownBlock] at hg
  · rw [hv] at hg; simp [Value.ownBlock] at hg; subst hg; exact ⟨cur, hc⟩

section
variable {V VV : Value → Prop} {vc : Value → Array Value} {st en nt tt : TypeId} {w w' : World} {tb hb mb : Nat} {sv : Value} {A : List Ent} {blk : Int → Nat} {cm : Int → Option Nat} {L : List Rec} {reg : Int → Int → Prop} {last : Int}

/-- A block of cells of another type is none of the heap's. -/
theorem HeapAt.notOwn (h : HeapAt V st en w hb mb sv A last) {k : Nat} {x : Array Value} {t : TypeId} {p : Nat × Nat} (hk : w.heap[k]? = some (.cells x t p)) (h1 : t ≠ st) (h2 : t ≠ en) : ¬ Own hb mb sv k := by
  rintro (rfl | rfl | e)
  · exact cells_ne hk h.hdr h1 rfl
  · obtain ⟨n, D, hm⟩ := h.mapAt; exact map_ne hk hm rfl
  · obtain ⟨cur, hc⟩ := h.rowAt e; exact cells_ne hk hc h2 rfl

theorem HeapAt.notOwn_map (h : HeapAt V st en w hb mb sv A last) {c n : Nat} {k : TypeId} {R : Value → Option (DataW Unit × List MemPlace)} {D : DataW Unit} (hc : w.ownsMap Tryz.prog k R c n D) (hne : c ≠ mb) : ¬ Own hb mb sv c := by
  rintro (rfl | rfl | e)
  · exact map_ne h.hdr hc rfl
  · exact hne rfl
  · obtain ⟨cur, hg⟩ := h.rowAt e; exact map_ne hg hc rfl

theorem KidsAt.keep {o : Option Nat} {r : Int → Prop} (h : KidsAt w mb last r o) (hw : ∀ c, o = some c → w'.heap[c]? = w.heap[c]?) : KidsAt w' mb last r o := by
  cases o with
  | none => exact h
  | some c =>
    obtain ⟨h1, n, D, h2, h3, h4⟩ := h
    refine ⟨h1, n, D, h2, ?_, h4⟩
    obtain ⟨es, cl, h5, h6⟩ := h3
    exact ⟨es, cl, (hw c rfl).trans h5, h6⟩

theorem KidsAt.more {o : Option Nat} {r : Int → Prop} {last' : Int} (h : KidsAt w mb last r o) (hl : last ≤ last') : KidsAt w mb last' r o := by
  cases o with
  | none => exact h
  | some c => obtain ⟨h1, n, D, h2, h3, h4⟩ := h; exact ⟨h1, n, D, by omega, h3, h4⟩

theorem KidsAt.iff {o : Option Nat} {r r' : Int → Prop} (h : KidsAt w mb last r o) (hr : ∀ x, r x ↔ r' x) : KidsAt w mb last r' o := by
  cases o with
  | none => exact fun x hx => h x ((hr x).2 hx)
  | some c => obtain ⟨h1, n, D, h2, h3, h4⟩ := h; exact ⟨h1, n, D, h2, h3, fun x => (h4 x).trans (hr x)⟩

theorem TimX.reg' {reg' : Int → Int → Prop} (h : TimX V VV vc st en nt tt w tb hb mb sv A blk cm L reg last) (hr : ∀ r ∈ L, ∀ x, reg r.id x ↔ reg' r.id x) : TimX V VV vc st en nt tt w tb hb mb sv A blk cm L reg' last :=
  { h with kids := fun r hm => (h.kids r hm).iff (hr r hm) }

theorem TimX.mine_lt (h : TimX V VV vc st en nt tt w tb hb mb sv A blk cm L reg last) {k : Nat} (hk : Mine tb hb mb sv blk cm L k) : k < w.heap.size := by
  rcases hk with rfl | hk | ⟨r, hr, rfl⟩ | ⟨r, hr, hc⟩
  · exact (Array.getElem?_eq_some_iff.1 h.hdr).1
  · exact h.heap.own_lt hk
  · exact (Array.getElem?_eq_some_iff.1 (h.node r hr)).1
  · have := h.kids r hr
    rw [hc] at this
    obtain ⟨_, n, D, _, h3, _⟩ := this
    exact h3.lt

theorem TimX.keep (h : TimX V VV vc st en nt tt w tb hb mb sv A blk cm L reg last) (hw : ∀ k, Mine tb hb mb sv blk cm L k → w'.heap[k]? = w.heap[k]?) : TimX V VV vc st en nt tt w' tb hb mb sv A blk cm L reg last :=
  { h with
    hdr := (hw tb (.inl rfl)).trans h.hdr
    heap := h.heap.keep fun k hk => hw k (.inr (.inl hk))
    node := fun r hr => (hw _ (.inr (.inr (.inl ⟨r, hr, rfl⟩)))).trans (h.node r hr)
    kids := fun r hr => (h.kids r hr).keep fun c hc => hw c (.inr (.inr (.inr ⟨r, hr, hc⟩))) }

theorem TimX.fr {S : Nat → Prop} (h : TimX V VV vc st en nt tt w tb hb mb sv A blk cm L reg last) (hf : Fr S w w') (hS : ∀ k, Mine tb hb mb sv blk cm L k → ¬ S k) : TimX V VV vc st en nt tt w' tb hb mb sv A blk cm L reg last :=
  h.keep fun k hk => hf.block k (h.mine_lt hk) (hS k hk)

theorem TimX.frNo (h : TimX V VV vc st en nt tt w tb hb mb sv A blk cm L reg last) (hf : Fr No w w') : TimX V VV vc st en nt tt w' tb hb mb sv A blk cm L reg last := h.fr hf fun _ _ h => h

theorem TimX.top (h : TimX V VV vc st en nt tt w tb hb mb sv A blk cm L reg last) : 0 ≤ last ∧ last ≤ 1000 := h.heap.good.last

/-- What a call on the heap alone leaves of the rest. -/
theorem TimX.apart (h : TimX V VV vc st en nt tt w tb hb mb sv A blk cm L reg last) (ht : tt ≠ st ∧ tt ≠ en ∧ nt ≠ st ∧ nt ≠ en) : ¬ Own hb mb sv tb ∧ (∀ r ∈ L, ¬ Own hb mb sv (blk r.id)) ∧ ∀ r ∈ L, ∀ c, cm r.id = some c → ¬ Own hb mb sv c := by
  refine ⟨h.heap.notOwn h.hdr ht.1 ht.2.1, fun r hr => h.heap.notOwn (h.node r hr) ht.2.2.1 ht.2.2.2, fun r hr c hc => ?_⟩
  have := h.kids r hr
  rw [hc] at this
  obtain ⟨hne, n, D, _, h3, _⟩ := this
  exact h.heap.notOwn_map h3 hne

/-- The heap has turned by a call of its own; the timers are others, their nodes are where they were. -/
theorem TimX.heaped (h : TimX V VV vc st en nt tt w tb hb mb sv A blk cm L reg last) (ht : tt ≠ st ∧ tt ≠ en ∧ nt ≠ st ∧ nt ≠ en) (hf : Fr (Own hb mb sv) w w') {sv' : Value} {A' : List Ent} {L' : List Rec}
    (hH : HeapAt V st en w' hb mb sv' A' last) (hO : Ordered A') (hp : A'.Perm (L'.map (entOf blk))) (hw : Wood L' last) (hL : ∀ r ∈ L', ∃ q ∈ L, q.id = r.id ∧ q.par = r.par ∧ q.val = r.val) : TimX V VV vc st en nt tt w' tb hb mb sv' A' blk cm L' reg last := by
  have ha := h.apart ht
  refine ⟨(hf.block tb (h.mine_lt (.inl rfl)) ha.1).trans h.hdr, hH, hO, hp, hw, ?_, ?_, ?_, ?_, ?_⟩
  · intro r hr; obtain ⟨q, hq, e1, e2, e3⟩ := hL r hr; exact e3 ▸ h.val q hq
  · intro r hr
    obtain ⟨q, hq, e1, e2, e3⟩ := hL r hr
    rw [← e1, ← e2, ← e3]
    exact (hf.block _ (h.mine_lt (.inr (.inr (.inl ⟨q, hq, rfl⟩)))) (ha.2.1 q hq)).trans (h.node q hq)
  · intro r hr r' hr' e
    obtain ⟨q, hq, e1, e2, e3⟩ := hL r hr
    obtain ⟨q', hq', e1', _, _⟩ := hL r' hr'
    rw [← e1, ← e1'] at e ⊢
    exact h.inj q hq q' hq' e
  · intro r hr
    obtain ⟨q, hq, e1, e2, e3⟩ := hL r hr
    rw [← e1]
    exact (h.kids q hq).keep fun c hc => hf.block c (h.mine_lt (.inr (.inr (.inr ⟨q, hq, hc⟩)))) (ha.2.2 q hq c hc)
  · intro r hr r' hr' c hc hc'
    obtain ⟨q, hq, e1, e2, e3⟩ := hL r hr
    obtain ⟨q', hq', e1', _, _⟩ := hL r' hr'
    rw [← e1] at hc
    rw [← e1'] at hc'
    rw [← e1, ← e1']
    exact h.cinj q hq q' hq' c hc hc'

def upd {α : Type} (f : Int → α) (k : Int) (a : α) (x : Int) : α := if x = k then a else f x
theorem upd_same {α : Type} (f : Int → α) (k : Int) (a : α) : upd f k a k = a := by simp [upd]
theorem upd_ne {α : Type} (f : Int → α) {k x : Int} (a : α) (h : x ≠ k) : upd f k a x = f x := by simp [upd, h]

/-- A node of a new timer has been laid at the heap's end, and pushed. -/
theorem TimX.started (h : TimX V VV vc st en nt tt w tb hb mb sv A blk cm L reg last) (ht : tt ≠ st ∧ tt ≠ en ∧ nt ≠ st ∧ nt ≠ en) {d p : Int} {v : Value} {w1 : World} (hv : VV v) (hp : p = 0 ∨ ∃ q ∈ L, q.id = p) (hd : 0 ≤ d ∧ d ≤ 18446744073709551615)
    (h1 : Fr No w w1) (hn : w1.heap[w.heap.size]? = some (.cells (#[.int .i64 p, .map none] ++ vc v) nt (0, 0))) (hf : Fr (Own hb mb sv) w1 w') {sv' : Value} {A' : List Ent}
    (hH : HeapAt V st en w' hb mb sv' A' (last + 1)) (hO : Ordered A') (hpm : A'.Perm (⟨d, last + 1, .pointer (some ⟨w.heap.size, 0, none⟩)⟩ :: A)) (hnew : ∀ x, ¬ reg (last + 1) x) :
    TimX V VV vc st en nt tt w' tb hb mb sv' A' (upd blk (last + 1) w.heap.size) (upd cm (last + 1) none) (L ++ [⟨last + 1, d, p, v⟩]) reg (last + 1) ∧ ∀ r ∈ L, KidsAt w' mb last (reg r.id) (cm r.id) := by
  have hX := h.frNo h1
  have ha := hX.apart ht
  have hl := h.top
  have hne : ∀ r ∈ L, r.id ≠ last + 1 := fun r hr => by have := h.wood.id r hr; omega
  have hlt : ∀ r ∈ L, blk r.id < w.heap.size := fun r hr => h.mine_lt (.inr (.inr (.inl ⟨r, hr, rfl⟩)))
  have hnn : w'.heap[w.heap.size]? = some (.cells (#[.int .i64 p, .map none] ++ vc v) nt (0, 0)) := (hf.block _ (Array.getElem?_eq_some_iff.1 hn).1 (hX.heap.notOwn hn ht.2.2.1 ht.2.2.2)).trans hn
  have mem : ∀ {r : Rec}, r ∈ L ++ [⟨last + 1, d, p, v⟩] → r ∈ L ∨ r = ⟨last + 1, d, p, v⟩ := fun {r} hr => by
    rcases List.mem_append.1 hr with hr | hr
    · exact .inl hr
    · simp at hr; exact .inr hr
  have hk : ∀ r ∈ L, KidsAt w' mb last (reg r.id) (cm r.id) := fun r hr => (hX.kids r hr).keep fun c hc => hf.block c (hX.mine_lt (.inr (.inr (.inr ⟨r, hr, hc⟩)))) (ha.2.2 r hr c hc)
  refine ⟨⟨(hf.block tb (hX.mine_lt (.inl rfl)) ha.1).trans hX.hdr, hH, hO, ?_, h.wood.start hl.1 hp hd, ?_, ?_, ?_, ?_, ?_⟩, hk⟩
  · refine hpm.trans ?_
    have e1 : L.map (entOf (upd blk (last + 1) w.heap.size)) = L.map (entOf blk) := List.map_congr_left fun r hr => by unfold entOf; rw [upd_ne _ _ (hne r hr)]
    rw [List.map_append, e1]
    have e2 : entOf (upd blk (last + 1) w.heap.size) ⟨last + 1, d, p, v⟩ = ⟨d, last + 1, .pointer (some ⟨w.heap.size, 0, none⟩)⟩ := by unfold entOf; simp [upd_same]
    simp only [List.map_cons, List.map_nil, e2]
    exact (h.perm.cons _).trans (List.perm_append_singleton _ _).symm
  · intro r hr
    rcases mem hr with hr | rfl
    · exact h.val r hr
    · exact hv
  · intro r hr
    rcases mem hr with hr | rfl
    · rw [upd_ne _ _ (hne r hr), upd_ne _ _ (hne r hr)]
      exact (hf.block _ (hX.mine_lt (.inr (.inr (.inl ⟨r, hr, rfl⟩)))) (ha.2.1 r hr)).trans (hX.node r hr)
    · simp only [upd_same]; exact hnn
  · intro r hr r' hr' e
    rcases mem hr with hr | rfl <;> rcases mem hr' with hr' | rfl
    · rw [upd_ne _ _ (hne r hr), upd_ne _ _ (hne r' hr')] at e; exact h.inj r hr r' hr' e
    · rw [upd_ne _ _ (hne r hr)] at e; simp only [upd_same] at e; have := hlt r hr; omega
    · rw [upd_ne _ _ (hne r' hr')] at e; simp only [upd_same] at e; have := hlt r' hr'; omega
    · rfl
  · intro r hr
    rcases mem hr with hr | rfl
    · rw [upd_ne _ _ (hne r hr)]
      exact (hk r hr).more (by omega)
    · simp only [upd_same]; exact hnew
  · intro r hr r' hr' c hc hc'
    rcases mem hr with hr | rfl <;> rcases mem hr' with hr' | rfl
    · rw [upd_ne _ _ (hne r hr)] at hc; rw [upd_ne _ _ (hne r' hr')] at hc'; exact h.cinj r hr r' hr' c hc hc'
    · simp [upd_same] at hc'
    · simp [upd_same] at hc
    · rfl

theorem has_put_iff {D : DataW Unit} {k x : Int} {y : DataW Unit} (hD : IsMap D) : Maps.has (D.put (key k) y) (key x) = true ↔ x = k ∨ Maps.has D (key x) = true := by
  by_cases h : x = k
  · subst h; simp only [has_put_same hD (isKey _), true_or]
  · rw [has_put_other (key_ne h)]; simp [h]

theorem has_del_iff {D : DataW Unit} {k x : Int} : Maps.has (D.del (key k)) (key x) = true ↔ x ≠ k ∧ Maps.has D (key x) = true := by
  by_cases h : x = k
  · subst h; simp [has_del_same]
  · rw [has_del_other (key_ne h)]; simp [h]

/-- One node's map of children has been written, or has come to be. -/
theorem TimX.regd {reg' : Int → Int → Prop} (h : TimX V VV vc st en nt tt w tb hb mb sv A blk cm L reg last) (ht : tt ≠ st ∧ tt ≠ en ∧ nt ≠ st ∧ nt ≠ en) (htn : tt ≠ nt) {r0 : Rec} (hr0 : r0 ∈ L) {c n : Nat} {D : DataW Unit} (hc : cm r0.id = some c ∨ w.heap.size ≤ c)
    (hf : Fr (fun k => k = blk r0.id ∨ k = c) w w') (hn : w'.heap[blk r0.id]? = some (.cells (#[.int .i64 r0.par, .map (some c)] ++ vc r0.val) nt (0, 0))) (hmb : c ≠ mb) (hown : w'.ownsMap Tryz.prog 3 (plainElem Tryz.prog 4) c n D) (hnl : (n : Int) ≤ last)
    (hD : ∀ x, Maps.has D (key x) = true ↔ reg' r0.id x) (hreg : ∀ r ∈ L, r.id ≠ r0.id → ∀ x, reg r.id x ↔ reg' r.id x) : TimX V VV vc st en nt tt w' tb hb mb sv A blk (upd cm r0.id (some c)) L reg' last := by
  have ha := h.apart ht
  have nc : ∀ k, k < w.heap.size → (∀ n D, w.ownsMap Tryz.prog 3 (plainElem (H := Unit) Tryz.prog 4) k n D → k ≠ c) → k ≠ c := by
    intro k hk hh e
    subst e
    rcases hc with hc | hc
    · have := h.kids r0 hr0
      rw [hc] at this
      obtain ⟨_, n', D', _, h3, _⟩ := this
      exact hh n' D' h3 rfl
    · omega
  have ncell : ∀ k x t p, w.heap[k]? = some (.cells x t p) → k ≠ c := fun k x t p hk => nc k (Array.getElem?_eq_some_iff.1 hk).1 fun n D hm => absurd rfl (map_ne hk hm)
  have hkeep : ∀ k, k < w.heap.size → k ≠ blk r0.id → k ≠ c → w'.heap[k]? = w.heap[k]? := fun k hk h1 h2 => hf.block k hk (by rintro (e | e); exact h1 e; exact h2 e)
  refine ⟨?_, ?_, h.ord, h.perm, h.wood, h.val, ?_, h.inj, ?_, ?_⟩
  · exact (hkeep tb (h.mine_lt (.inl rfl)) (cells_ne h.hdr (h.node r0 hr0) htn) (ncell _ _ _ _ h.hdr)).trans h.hdr
  · refine h.heap.keep fun k hk => hkeep k (h.heap.own_lt hk) (fun e => ha.2.1 r0 hr0 (e ▸ hk)) (fun e => ?_)
    subst e
    rcases hc with hc | hc
    · exact ha.2.2 r0 hr0 _ hc hk
    · have := h.heap.own_lt hk; omega
  · intro r hr
    by_cases e : r.id = r0.id
    · have := h.wood.uniq hr hr0 e
      subst this
      rw [upd_same]; exact hn
    · rw [upd_ne _ _ e]
      exact (hkeep _ (h.mine_lt (.inr (.inr (.inl ⟨r, hr, rfl⟩)))) (fun e' => e (h.inj r hr r0 hr0 e')) (ncell _ _ _ _ (h.node r hr))).trans (h.node r hr)
  · intro r hr
    by_cases e : r.id = r0.id
    · rw [e, upd_same]; exact ⟨hmb, n, D, hnl, hown, hD⟩
    · rw [upd_ne _ _ e]
      refine ((h.kids r hr).keep fun c' hc' => ?_).iff (hreg r hr e)
      have hk := h.kids r hr
      rw [hc'] at hk
      obtain ⟨_, n', D', _, h3, _⟩ := hk
      refine hkeep c' h3.lt (fun e' => map_ne (h.node r0 hr0) h3 e'.symm) (fun e' => ?_)
      subst e'
      rcases hc with hc | hc
      · exact e (h.cinj r hr r0 hr0 _ hc' hc)
      · have := h3.lt; omega
  · intro r hr r' hr' c' h1 h2
    by_cases e : r.id = r0.id <;> by_cases e' : r'.id = r0.id
    · omega
    · rw [e, upd_same] at h1; cases h1
      rw [upd_ne _ _ e'] at h2
      rcases hc with hc | hc
      · exact absurd (h.cinj r' hr' r0 hr0 _ h2 hc) e'
      · have := h.mine_lt (.inr (.inr (.inr ⟨r', hr', h2⟩))); omega
    · rw [e', upd_same] at h2; cases h2
      rw [upd_ne _ _ e] at h1
      rcases hc with hc | hc
      · exact absurd (h.cinj r hr r0 hr0 _ h1 hc) e
      · have := h.mine_lt (.inr (.inr (.inr ⟨r, hr, h1⟩))); omega
    · rw [upd_ne _ _ e] at h1; rw [upd_ne _ _ e'] at h2; exact h.cinj r hr r' hr' c' h1 h2

theorem TimX.get (h : TimX V VV vc st en nt tt w tb hb mb sv A blk cm L reg last) {r : Rec} (hr : r ∈ L) : ∃ i : Nat, A[i]? = some (entOf blk r) :=
  List.mem_iff_getElem?.1 (h.perm.mem_iff.2 (List.mem_map_of_mem hr))

theorem TimX.miss (h : TimX V VV vc st en nt tt w tb hb mb sv A blk cm L reg last) {k : Int} (hk : ∀ r ∈ L, r.id ≠ k) : ∀ (i : Nat) (e : Ent), A[i]? = some e → e.id ≠ k := by
  intro i e hi
  obtain ⟨r, hr, rfl⟩ := List.mem_map.1 (h.perm.mem_iff.1 (List.mem_of_getElem? hi))
  exact hk r hr

theorem TimX.hcell (h : TimX V VV vc st en nt tt w tb hb mb sv A blk cm L reg last) : w.cell? ⟨tb, 0, none⟩ = some (.pointer (some ⟨hb, 0, none⟩)) := by
  simp [World.cell?, h.hdr]

theorem TimX.ncell (h : TimX V VV vc st en nt tt w tb hb mb sv A blk cm L reg last) {r : Rec} (hr : r ∈ L) : w.cell? ⟨blk r.id, 0, none⟩ = some (.int .i64 r.par) ∧ w.cell? ⟨blk r.id, 1, none⟩ = some (.map (cm r.id)) := by
  have := h.node r hr
  refine ⟨?_, ?_⟩ <;> simp [World.cell?, this, Array.getElem?_append]

theorem Tim.mono {S T : Nat → Prop} (h : Tim V VV vc st en nt tt S w tb L last) (hS : ∀ k, k < w.heap.size → S k → T k) : Tim V VV vc st en nt tt T w tb L last := by
  obtain ⟨hb, mb, sv, A, blk, cm, hX, hM⟩ := h
  exact ⟨hb, mb, sv, A, blk, cm, hX, fun k hk => hS k (hX.mine_lt hk) (hM k hk)⟩

theorem Tim.other {S T : Nat → Prop} (h : Tim V VV vc st en nt tt S w tb L last) (hf : Fr T w w') (hS : ∀ k, S k → ¬ T k) : Tim V VV vc st en nt tt S w' tb L last := by
  obtain ⟨hb, mb, sv, A, blk, cm, hX, hM⟩ := h
  exact ⟨hb, mb, sv, A, blk, cm, hX.fr hf fun k hk => hS k (hM k hk), hM⟩

theorem Tim.frNo {S : Nat → Prop} (h : Tim V VV vc st en nt tt S w tb L last) (hf : Fr No w w') : Tim V VV vc st en nt tt S w' tb L last := h.other hf fun _ _ h => h

theorem Tim.wood {S : Nat → Prop} (h : Tim V VV vc st en nt tt S w tb L last) : Wood L last := by
  obtain ⟨hb, mb, sv, A, blk, cm, hX, hM⟩ := h; exact hX.wood
theorem Tim.val {S : Nat → Prop} (h : Tim V VV vc st en nt tt S w tb L last) : ∀ r ∈ L, VV r.val := by
  obtain ⟨hb, mb, sv, A, blk, cm, hX, hM⟩ := h; exact hX.val
theorem Tim.top {S : Nat → Prop} (h : Tim V VV vc st en nt tt S w tb L last) : 0 ≤ last ∧ last ≤ 1000 := by
  obtain ⟨hb, mb, sv, A, blk, cm, hX, hM⟩ := h; exact hX.top

theorem mine_started (h : TimX V VV vc st en nt tt w tb hb mb sv A blk cm L reg last) {S : Nat → Prop} {sv' : Value} {d p : Int} {v : Value} {o : Obj} (hg : ∀ k, sv'.ownBlock = some k → sv.ownBlock = some k ∨ (w.alloc o).heap.size ≤ k) (hM : ∀ k, Mine tb hb mb sv blk cm L k → S k) (hS : ∀ k, w.heap.size ≤ k → S k) :
    ∀ k, Mine tb hb mb sv' (upd blk (last + 1) w.heap.size) (upd cm (last + 1) none) (L ++ [⟨last + 1, d, p, v⟩]) k → S k := by
  have hne : ∀ r ∈ L, r.id ≠ last + 1 := fun r hr => by have := h.wood.id r hr; omega
  have hz : (w.alloc o).heap.size = w.heap.size + 1 := by simp
  rintro k (rfl | (rfl | rfl | e) | ⟨r, hr, rfl⟩ | ⟨r, hr, hc⟩)
  · exact hM _ (.inl rfl)
  · exact hM _ (.inr (.inl (.inl rfl)))
  · exact hM _ (.inr (.inl (.inr (.inl rfl))))
  · rcases hg k e with e | e
    · exact hM _ (.inr (.inl (.inr (.inr e))))
    · exact hS k (by omega)
  · rcases List.mem_append.1 hr with hr | hr
    · rw [upd_ne _ _ (hne r hr)]; exact hM _ (.inr (.inr (.inl ⟨r, hr, rfl⟩)))
    · simp at hr; subst hr; simp only [upd_same]; exact hS _ (Nat.le_refl _)
  · rcases List.mem_append.1 hr with hr | hr
    · rw [upd_ne _ _ (hne r hr)] at hc; exact hM _ (.inr (.inr (.inr ⟨r, hr, hc⟩)))
    · simp at hr; subst hr; simp [upd_same] at hc

theorem reset_perm (h : TimX V VV vc st en nt tt w tb hb mb sv A blk cm L reg last) {q : Rec} (hq : q ∈ L) {i : Nat} (hi : A[i]? = some (entOf blk q)) (d : Int) : (A.set i { entOf blk q with due := d }).Perm ((L.map (redue q.id d)).map (entOf blk)) := by
  obtain ⟨R, h1, h2⟩ : ∃ R, A.Perm (entOf blk q :: R) ∧ ∀ e', (A.set i e').Perm (e' :: R) := by
    have hl := (List.getElem?_eq_some_iff.1 hi).1
    have hg := (List.getElem?_eq_some_iff.1 hi).2
    refine ⟨A.take i ++ A.drop (i + 1), ?_, fun e' => ?_⟩
    · have : A = A.take i ++ entOf blk q :: A.drop (i + 1) := by rw [← hg, ← List.drop_eq_getElem_cons hl, List.take_append_drop]
      exact (List.Perm.of_eq this).trans List.perm_middle
    · rw [List.set_eq_take_append_cons_drop, if_pos hl]
      exact List.perm_middle
  refine (h2 _).trans ?_
  obtain ⟨a, b, hL⟩ := List.append_of_mem hq
  have hx : ∀ r ∈ a ++ b, redue q.id d r = r := by
    intro r hr
    unfold redue
    rw [if_neg]
    intro e
    have hw := h.wood.asc
    rw [hL] at hw
    rw [List.pairwise_append, List.pairwise_cons] at hw
    rcases List.mem_append.1 hr with hr | hr
    · have := hw.2.2 r hr q List.mem_cons_self; omega
    · have := hw.2.1.1 r hr; omega
  have e1 : a.map (redue q.id d) = a := by conv => rhs; rw [← List.map_id a]
                                           exact List.map_congr_left fun r hr => hx r (List.mem_append_left _ hr)
  have e2 : b.map (redue q.id d) = b := by conv => rhs; rw [← List.map_id b]
                                           exact List.map_congr_left fun r hr => hx r (List.mem_append_right _ hr)
  have e3 : redue q.id d q = { q with due := d } := by unfold redue; rw [if_pos rfl]
  have hR : R.Perm ((a ++ b).map (entOf blk)) := by
    have h3 := h1.symm.trans h.perm
    rw [hL, List.map_append, List.map_cons] at h3
    have h4 := h3.trans List.perm_middle
    rw [← List.map_append] at h4
    exact (List.perm_cons _).1 h4
  rw [hL, List.map_append, List.map_cons, e1, e2, e3, List.map_append, List.map_cons]
  refine List.Perm.trans ?_ List.perm_middle.symm
  rw [← List.map_append]
  exact hR.cons _

end
end Go.Proofs.YtbgddldkpjeieaaGreat
