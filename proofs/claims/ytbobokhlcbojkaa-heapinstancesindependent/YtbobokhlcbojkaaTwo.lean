/-
  Two heaps that lie apart in memory: one of addresses, one of strings; no walk.
  Conditions: as each theorem says.
-/
import Derived.Test.YtbobokhlcbojkaaA4
import Derived.Test.YtbobokhlcbojkaaA7
import Derived.Test.YtbobokhlcbojkaaA8
import Derived.Test.YtbobokhlcbojkaaAd
import Derived.Test.YtbobokhlcbojkaaOver
import Derived.Test.YtbobokhlcbojkaaPop
namespace Go.Proofs.Ytbobokhlcbojkaa.A
open Go.ChangeShapes Go.WideShapes Go.ChangeAt Go.RowKit Go.Maps
set_option linter.unusedVariables false

structure Live (V : Value → Prop) (st en : TypeId) (w0 w : World) (hb mb : Nat) (sv : Value) (A : List Ent) (last : Int) : Prop where
  heap : HeapAt V st en w hb mb sv A last
  ord : Ordered A
  fr : Fr No w0 w
  own : ∀ k, Own hb mb sv k → w0.heap.size ≤ k

section
variable {V : Value → Prop} {st en : TypeId} {w0 w w' : World} {hb mb : Nat} {sv sv' : Value} {A A' : List Ent} {last last' : Int}

theorem Live.born (h : HeapAt V st en w' hb mb (.slice none 0 0) [] 0) (hf : Fr No w0 w) (hf' : Fr No w w') (h1 : w.heap.size ≤ hb) (h2 : w.heap.size ≤ mb) : Live V st en w0 w' hb mb (.slice none 0 0) [] 0 :=
  ⟨h, ordered_nil, hf.trans hf', fun k hk => by
    have := hf.size
    rcases hk with rfl | rfl | hk
    · omega
    · omega
    · cases hk⟩

theorem Live.step (h : Live V st en w0 w hb mb sv A last) (hA : HeapAt V st en w' hb mb sv' A' last') (hO : Ordered A') (hf : Fr (Own hb mb sv) w w') (hs : ∀ k, sv'.ownBlock = some k → sv.ownBlock = some k ∨ w.heap.size ≤ k) : Live V st en w0 w' hb mb sv' A' last' :=
  ⟨hA, hO, h.fr.ofNew hf (fun k hk => Or.inr (h.own k hk)), fun k hk => by
    rcases hk with rfl | rfl | hk
    · exact h.own _ (.inl rfl)
    · exact h.own _ (.inr (.inl rfl))
    · rcases hs k hk with h1 | h1
      · exact h.own _ (.inr (.inr h1))
      · have := h.fr.size; omega⟩

theorem Live.same (h : Live V st en w0 w hb mb sv A last) (hA : HeapAt V st en w' hb mb sv' A' last') (hO : Ordered A') (hf : Fr (Own hb mb sv) w w') (hs : sv'.ownBlock = sv.ownBlock) : Live V st en w0 w' hb mb sv' A' last' :=
  h.step hA hO hf fun k hk => .inl (by rw [← hs]; exact hk)

theorem Live.keep (h : Live V st en w0 w hb mb sv A last) (hf : Fr No w w') : Live V st en w0 w' hb mb sv A last := ⟨h.heap.frNo hf, h.ord, h.fr.trans hf, h.own⟩

theorem Live.other {S : Nat → Prop} (h : Live V st en w0 w hb mb sv A last) (hf : Fr S w w') (hS : ∀ k, Own hb mb sv k → ¬ S k) (hN : ∀ k, S k → w0.heap.size ≤ k) : Live V st en w0 w' hb mb sv A last :=
  ⟨h.heap.fr hf hS, h.ord, h.fr.ofNew hf (fun k hk => Or.inr (hN k hk)), h.own⟩

theorem Live.below (h : Live V st en w0 w hb mb sv A last) : Below w0.heap.size w0 w := h.fr.below (fun k hk => hk.elim) (Nat.le_refl _)
end


theorem push_cs (hb mb : Nat) (sv : Value) (A : List Ent) (last : Int) (d : Int) (cs : Array Value) (hcs : IsAddr cs) (w : World) (h : HA w hb mb sv A last) (hO : Ordered A) (hA : A.length < 900) (hl : last < 900) (hd : 0 ≤ d ∧ d ≤ 18446744073709551615) :
    Calls Try.prog 34 #[.pointer (some ⟨hb, 0, none⟩), .int .u64 d, .agg cs] w fun e w' => e = .returned (.int .i64 (last + 1)) ∧ ∃ sv' A', HA w' hb mb sv' A' (last + 1) ∧ A'.Perm (⟨d, last + 1, .agg cs⟩ :: A) ∧ Ordered A' ∧ Fr (Own hb mb sv) w w' ∧ (∀ k, sv'.ownBlock = some k → sv.ownBlock = some k ∨ w.heap.size ≤ k) := by
  have h1 := hcs.one
  have hs := hcs.1
  clear hcs
  obtain ⟨l⟩ := cs
  match l, hs with
  | [x0, x1, x2, x3, x4, x5, x6, x7, x8, x9, x10, x11, x12, x13, x14, x15, x16], _ => exact push_any hb mb sv A last d x0 x1 x2 x3 x4 x5 x6 x7 x8 x9 x10 x11 x12 x13 x14 x15 x16 h1 w h hO hA hl hd

end Go.Proofs.Ytbobokhlcbojkaa.A

namespace Go.Proofs.Ytbobokhlcbojkaa
open Go.ChangeShapes Go.WideShapes Go.ChangeAt Go.RowKit Go.Maps

abbrev ALive := A.Live A.V 97 102
abbrev AHeap := A.HeapAt A.V 97 102

structure Two (w0 w : World) (ha ma : Nat) (sa : Value) (A : List Ent) (la : Int) (hb mb : Nat) (sb : Value) (B : List Ent) (lb : Int) : Prop where
  a : ALive w0 w ha ma sa A la
  b : Live S.V 100 104 w0 w hb mb sb B lb
  apart : ∀ k, Own ha ma sa k → ¬ Own hb mb sb k

section
variable {w0 w w' : World} {ha ma hb mb : Nat} {sa sb sa' sb' : Value} {A B A' B' : List Ent} {la lb la' lb' : Int}

theorem Two.stepA (h : Two w0 w ha ma sa A la hb mb sb B lb) (hA : AHeap w' ha ma sa' A' la') (hO : Ordered A') (hf : Fr (Own ha ma sa) w w') (hs : ∀ k, sa'.ownBlock = some k → sa.ownBlock = some k ∨ w.heap.size ≤ k) : Two w0 w' ha ma sa' A' la' hb mb sb B lb :=
  ⟨h.a.step hA hO hf hs, h.b.other hf (fun k hk ha => h.apart k ha hk) h.a.own, fun k hk hk' => by
    rcases hk with rfl | rfl | hk
    · exact h.apart _ (.inl rfl) hk'
    · exact h.apart _ (.inr (.inl rfl)) hk'
    · rcases hs k hk with h1 | h1
      · exact h.apart _ (.inr (.inr h1)) hk'
      · have := h.b.heap.own_lt hk'; omega⟩

theorem Two.stepB (h : Two w0 w ha ma sa A la hb mb sb B lb) (hB : HeapAt S.V 100 104 w' hb mb sb' B' lb') (hO : Ordered B') (hf : Fr (Own hb mb sb) w w') (hs : ∀ k, sb'.ownBlock = some k → sb.ownBlock = some k ∨ w.heap.size ≤ k) : Two w0 w' ha ma sa A la hb mb sb' B' lb' :=
  ⟨h.a.other hf (fun k hk hb => h.apart k hk hb) h.b.own, h.b.step hB hO hf hs, fun k hk' hk => by
    rcases hk with rfl | rfl | hk
    · exact h.apart _ hk' (.inl rfl)
    · exact h.apart _ hk' (.inr (.inl rfl))
    · rcases hs k hk with h1 | h1
      · exact h.apart _ hk' (.inr (.inr h1))
      · have := h.a.heap.own_lt hk'; omega⟩

theorem Two.keep (h : Two w0 w ha ma sa A la hb mb sb B lb) (hf : Fr No w w') : Two w0 w' ha ma sa A la hb mb sb B lb := ⟨h.a.keep hf, h.b.keep hf, h.apart⟩
theorem Two.fr (h : Two w0 w ha ma sa A la hb mb sb B lb) : Fr No w0 w := h.a.fr
end

end Go.Proofs.Ytbobokhlcbojkaa
