/-
  What lies in memory behind a removal and behind a change of a due time; no walk.
  Conditions: as each theorem says.
-/
import Derived.Test.YtbgddldkpjeieaaGreatOrd2
namespace Go.Proofs.YtbgddldkpjeieaaGreat
open Go.ChangeShapes Go.WideShapes Go.ChangeAt Go.RowKit Go.Maps
set_option linter.unusedVariables false

theorem cut_heap {V : Value → Prop} {st en : TypeId} {w : World} {hb mb g m cap i N : Nat} {A : List Ent} {last : Int} {ei el : Ent} {D : DataW Unit} {Z : Value}
    (hR : Raw st en w hb mb (.slice (some ⟨g, 0, none⟩) (m + 1) cap) (swp A i m ei el) last N (D.del (key ei.id))) (ht : Tied D (swp A i m ei el)) (hg : Sound V (swp A i m ei el) last) (hi : A[i]? = some ei) (hl : A[m]? = some el) (hm : A.length = m + 1) :
    HeapAt V st en ((((w.setCell ⟨g, m * 3, none⟩ (.int .u64 0)).setCell ⟨g, m * 3 + 1, none⟩ (.int .i64 0)).setCell ⟨g, m * 3 + 2, none⟩ Z).setCell ⟨hb, 0, none⟩ (.slice (some ⟨g, 0, none⟩) m cap)) hb mb (.slice (some ⟨g, 0, none⟩) m cap) ((swp A i m ei el).take m) last := by
  have hB : (swp A i m ei el).length = m + 1 := by rw [swp_length]; exact hm
  have h1 := hR.put hB m ⟨0, 0, Z⟩
  have h2 := h1.cut (by rw [List.length_set]; exact hB) m (by omega)
  rw [set_take] at h2
  have ht' := ht
  rw [cut_eq hi hl hm] at ht'
  have ht2 := ht'.drop
  refine ⟨⟨_, { h2 with map := ownsMap_tight h2.map ht2.size }, ht2⟩, hg.sub (fun k e hk => ⟨k, (take_get hk).2⟩) (by simp; omega)⟩

theorem cut_fr {w w' : World} {hb mb g n cap : Nat} {o1 o2 o3 : Nat} {a b c v : Value} (h : Fr (Own hb mb (.slice (some ⟨g, 0, none⟩) n cap)) w w') :
    Fr (Own hb mb (.slice (some ⟨g, 0, none⟩) n cap)) w ((((w'.setCell ⟨g, o1, none⟩ a).setCell ⟨g, o2, none⟩ b).setCell ⟨g, o3, none⟩ c).setCell ⟨hb, 0, none⟩ v) :=
  (h.trans (Fr.put w' o1 o2 o3 a b c)).trans (Fr.hdr 0 v)

theorem flat_due (A : List Ent) : ∀ (i : Nat) (e : Ent) (d : Int), A[i]? = some e → (flat A).set (i * 3) (.int .u64 d) = flat (A.set i { e with due := d }) := by
  induction A with
  | nil => intro i e d h; simp at h
  | cons a A ih =>
    intro i e d h
    cases i with
    | zero => simp at h; subst h; simp [flat]
    | succ i =>
      rw [show (i + 1) * 3 = i * 3 + 1 + 1 + 1 by omega]
      simp only [flat, List.set_cons_succ]
      rw [ih i e d (by simpa using h)]

theorem due_heap {V : Value → Prop} {st en : TypeId} {w : World} {hb mb g n cap i : Nat} {A : List Ent} {last d : Int} {e : Ent} (h : HeapAt V st en w hb mb (.slice (some ⟨g, 0, none⟩) n cap) A last) (hn : A.length = n) (hi : A[i]? = some e) (hd : 0 ≤ d ∧ d ≤ 18446744073709551615) :
    HeapAt V st en (w.setCell ⟨g, i * 3, none⟩ (.int .u64 d)) hb mb (.slice (some ⟨g, 0, none⟩) n cap) (A.set i { e with due := d }) last := by
  obtain ⟨⟨D, hr, ht⟩, hg⟩ := h
  have hg1 : g ≠ hb := fun e => hr.apart (by simp [Value.ownBlock, e])
  have hg2 : g ≠ mb := fun e => hr.rne (by simp [Value.ownBlock, e])
  subst hn
  refine ⟨⟨D, ⟨?_, ?_, ?_, hr.apart⟩, ht.due hi d⟩, hg.due' hi d hd⟩
  · rw [heap_setCell_other _ _ _ _ hg1.symm]; exact hr.hdr
  · have := (hr.row.stored (i * 3) (.int .u64 d)).1
    rw [flat_due A i e d hi] at this
    rw [List.length_set]; exact this
  · rw [List.length_set]; exact hr.map.setCell (a := ⟨g, i * 3, none⟩) hg2.symm _

theorem due_fr {w : World} {hb mb g n cap : Nat} (o : Nat) (v : Value) : Fr (Own hb mb (.slice (some ⟨g, 0, none⟩) n cap)) w (w.setCell ⟨g, o, none⟩ v) := Fr.setCell _ w ⟨g, o, none⟩ v (.inr (.inr rfl))

theorem ex_due {A : List Ent} {i : Nat} {e : Ent} (h : Ordered A) (hi : A[i]? = some e) (e' : Ent) : Ex i (A.set i e') := ex_of_agree h fun k b hk hb => by rw [set_get hi, if_neg hk] at hb; exact hb

end Go.Proofs.YtbgddldkpjeieaaGreat
