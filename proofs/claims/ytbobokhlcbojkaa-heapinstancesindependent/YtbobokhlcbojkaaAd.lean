/-
  An address that came in: its seventeen cells; that it equals itself; no walk.
  Conditions: as each theorem says.
-/
import Derived.Test.YtbobokhlcbojkaaBl
import Derived.OpenShut
import Derived.ChangeArms
import Derived.Laws.StructEq
namespace Go.Proofs.Ytbobokhlcbojkaa
open Go.ChangeShapes Go.WideShapes Go.ChangeAt Go.RowKit Go.Maps
set_option linter.unusedVariables false

def IsAddr (cs : Array Value) : Prop := cs.size = 17 ∧ (∃ b : Bool, cs[0]? = some (.bool b)) ∧ ∀ j, j < 16 → ∃ n : Int, cs[j + 1]? = some (.int .u8 n)

theorem IsAddr.one {cs : Array Value} (h : IsAddr cs) : ∀ u ∈ cs.toList, u.oneCell' = true := by
  obtain ⟨hs, ⟨b, hb⟩, hn⟩ := h
  intro u hu
  obtain ⟨i, hi⟩ := List.mem_iff_getElem?.1 hu
  rw [Array.getElem?_toList] at hi
  cases i with
  | zero => rw [hb] at hi; cases hi; rfl
  | succ j =>
    have hj : j + 1 < cs.size := (Array.getElem?_eq_some_iff.1 hi).1
    obtain ⟨n, hn⟩ := hn j (by omega)
    rw [hn] at hi; cases hi; rfl

theorem IsAddr.val {cs : Array Value} (h : IsAddr cs) : A.V (.agg cs) := ⟨cs, rfl, h.1, h.one⟩

theorem cell_at {cs : List Value} {r : Nat} {v : Value} (h : (cs.drop r).take 1 = [v]) : cs[r]? = some v := by
  have h1 : ((cs.drop r).take 1)[0]? = some v := by rw [h]; rfl
  simpa using h1

set_option maxRecDepth 100000 in
theorem open_addr {H : Type} {enc : TypeId × Value → H} {w : World} {base base' : Nat} {spare : Nat → Bool} {held : Bool} {r : Reach} {v : Value} {d : DataW H} {ps : List MemPlace}
    (hval : Value.okWide Try.prog w r base' 61 v) (hd : DataW.Trod enc Try.prog w base spare held 61 v d ps) : ∃ cs, v = .agg cs ∧ IsAddr cs := by
  obtain ⟨cs, rfl, hsz⟩ := okWide_struct Try.underlying61 hval
  have h17 : Try.prog.cellsOf 61 = 17 := by kernel_rfl
  have h4 : Try.prog.cellsOf 4 = 1 := by kernel_rfl
  have h59 : Try.prog.cellsOf 59 = 16 := by kernel_rfl
  have h5 : Try.prog.cellsOf 5 = 1 := by kernel_rfl
  rw [h17] at hsz
  obtain ⟨fuel, hf⟩ := hd
  simp only [Value.cells] at hf
  obtain ⟨xs, n, _, _, hl, hxl, hx⟩ := DataW.trod_struct Try.underlying61 hf
  have e0 : DataW.trod enc Try.prog w base spare held n 4 ((cs.toList.drop 0).take (Try.prog.cellsOf 4)) = xs[0]? := hx 0 _ rfl
  have e1 : DataW.trod enc Try.prog w base spare held n 59 ((cs.toList.drop 1).take (Try.prog.cellsOf 59)) = xs[1]? := hx 1 _ rfl
  rw [h4] at e0
  rw [h59] at e1
  have hx2 : xs.length = 2 := hxl
  refine ⟨cs, rfl, hsz, ?_, ?_⟩
  · rw [List.getElem?_eq_getElem (by omega)] at e0
    obtain ⟨b, hb, _⟩ := DataW.trod_bool Try.underlying4 e0
    refine ⟨b, ?_⟩
    have := cell_at (cs := cs.toList) (r := 0) hb
    simpa using this
  · intro j hj
    rw [List.getElem?_eq_getElem (by omega)] at e1
    obtain ⟨ys, m, _, _, hl1, hyl, hy⟩ := DataW.trod_array Try.underlying59 e1
    have ej := hy j hj
    rw [h5, List.getElem?_eq_getElem (by omega)] at ej
    obtain ⟨k, hk, _⟩ := DataW.trod_int Try.underlying5 ej
    refine ⟨k, ?_⟩
    have := cell_at hk
    rw [Nat.mul_one, List.getElem?_take, if_pos hj, List.getElem?_drop, Nat.add_comm] at this
    simpa using this

theorem bytes_same (d : Nat) (ys : Array Value) (hy : ∀ j, j < 16 → ∃ n : Int, ys[j]? = some (.int .u8 n)) (w : World) : (Op.equalIn (d + 2) 59 (.agg ys) (.agg ys)).run Try.prog w = .ok true w := by
  rw [Op.equalIn]
  simp only [Sem.run_bind, run_underlying Try.underlying59, Result.andThen_ok, Try.sizeOf5, Std.Legacy.Range.forIn_eq_forIn_range', Std.Legacy.Range.size, Nat.sub_zero, Nat.add_sub_cancel, Nat.div_one]
  have hl : ∀ i ∈ List.range' 0 16 1, i < 16 := fun i hi => by simpa using (List.mem_range'_1.1 hi).2
  generalize List.range' 0 16 1 = l at hl ⊢
  induction l with
  | nil => simp
  | cons i l ih =>
    obtain ⟨n, hn⟩ := hy i (hl i (by simp))
    have px : (part 5 ys (i * 1)).run Try.prog w = .ok (.int .u8 n) w := by simp [part, isAgg, run_underlying Try.underlying5, hn]
    have pe : (Op.equalIn (d + 1) 5 (.int .u8 n) (.int .u8 n)).run Try.prog w = .ok true w := by rw [run_equalIn_int w d 5 .u8 .u8 _ _ Try.underlying5]; simp
    simp only [List.forIn_cons, Sem.run_bind, px, pe, Result.andThen_ok, Bool.not_true, Bool.false_eq_true, if_false, Sem.run_pure]
    exact ih fun j hj => hl j (by simp [hj])

theorem addr_same {cs : Array Value} (h : IsAddr cs) (w : World) : Sem.run Try.prog (Op.equalIn 10000 61 (.agg cs) (.agg cs)) w = .ok true w := by
  obtain ⟨hs, ⟨b, hb⟩, hn⟩ := h
  have hS : Try.prog.underlying 61 = some (.struct (Try.prog.fieldsOf 61)) := by kernel_rfl
  have hF : Try.prog.fieldsOf 61 = #[{ name := "IPv6", type := 4, offset := 0, embedded := false, tag := "", pkgPath := "", byteOffset := 0 }, { name := "Bytes", type := 59, offset := 1, embedded := false, tag := "", pkgPath := "", byteOffset := 1 }] := by kernel_rfl
  have hE : Sem.run Try.prog (Op.equalIn 9999 59 (.agg (cs.extract 1 (1 + 16))) (.agg (cs.extract 1 (1 + 16)))) w = .ok true w := bytes_same 9997 _ (fun j hj => by
    obtain ⟨n, hn⟩ := hn j hj
    refine ⟨n, ?_⟩
    rw [Array.getElem?_extract, if_pos (by omega), Nat.add_comm, hn]) w
  have hB : Sem.run Try.prog (Op.equalIn 9999 4 (.bool b) (.bool b)) w = .ok true w := by rw [run_equalIn_bool' w 9998 4 b b Try.underlying4]; simp
  rw [show (10000 : Nat) = 9999 + 1 from rfl, run_equalIn_agg w 9999 61 _ _ hS Try.stoodInHeld61, hF]
  simp [Op.eqFields, part, Try.isAgg4, Try.isAgg59, Try.sizeOf59, hb, hB, hE]

end Go.Proofs.Ytbobokhlcbojkaa
