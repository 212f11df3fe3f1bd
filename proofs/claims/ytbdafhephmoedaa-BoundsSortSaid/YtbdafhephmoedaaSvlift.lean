/- What lifts of stage 13 want: an entry that came in. Conditions: none beyond those typed. -/
import Derived.Test.YtbdafhephmoedaaLift
import Derived.Test.YtbdafhephmoedaaSvmath
namespace Go.Proofs.Ytbdafhephmoedaa
open Go.ChangeShapes Go.WideShapes Go.ChangeAt Go.RowKit
set_option linter.unusedVariables false
set_option linter.unusedSimpArgs false
set_option maxRecDepth 100000

theorem open_entry {H : Type} {enc : TypeId × Value → H} {W : World} {cs : Array Value} {d : DataW H} {p : List MemPlace} (h : DataW.Trod enc Try.prog W 0 (fun _ => true) true 24 (.agg cs) d p) :
    ∃ (s : ByteArray) (t x : Int) (y1 y2 : DataW H), cs = #[.string s, .int .u64 t, .int .u64 x] ∧ d = .agg [.lit (.string s.data.toList), y1, y2] ∧ W64 t ∧ W64 x := by
  obtain ⟨fuel, hf⟩ := h
  obtain ⟨y0, y1, y2, m, hd, hlen, t0, t1, t2⟩ := Go.Deep.trod_struct3 Try.underlying24 hf
  have e0 : Try.prog.cellsOf 24 = 3 := by kernel_rfl
  have e1 : Try.prog.cellsOf 9 = 1 := by kernel_rfl
  have e2 : Try.prog.cellsOf 22 = 1 := by kernel_rfl
  obtain ⟨l⟩ := cs
  have hlen' : l.length = 3 := by rw [← e0]; simpa [Value.cells] using hlen
  match l, hlen' with
  | [c0, c1, c2], _ =>
    simp only [Value.cells] at t0 t1 t2
    rw [e1] at t0
    rw [e2] at t1 t2
    simp at t0 t1 t2
    obtain ⟨s, h0, k0, _⟩ := DataW.trod_string Try.underlying9 t0
    obtain ⟨t, h1, _, w1⟩ := DataW.trod_int Try.underlying22 t1
    obtain ⟨x, h2, _, w2⟩ := DataW.trod_int Try.underlying22 t2
    simp only [List.cons.injEq, and_true] at h0 h1 h2
    subst h0 h1 h2
    injection hd with hd _
    rw [k0] at hd
    exact ⟨s, t, x, y1.1, y2.1, rfl, hd, bounds_u64 w1, bounds_u64 w2⟩
theorem sized_entry {H : Type} {ts : List TypeId} {ds : List (DataW H)} (h : (DataW.weightsEach Try.prog ts ds).all (· ≤ reachBytes) = true) {j : Nat} {s : ByteArray} {y1 y2 : DataW H} (ht : ts[j]? = some 24) (hd : ds[j]? = some (.agg [.lit (.string s.data.toList), y1, y2])) : Sz s := by
  have h1 : s.data.toList.length ≤ 140737488351232 := of_decide_eq_true (List.all_eq_true.1 h _ (DataW.weights_mem_each ht hd _ (by simp [DataW.weights, Try.underlying24, DataW.weightsEach])))
  have h2 := ba_size s
  unfold Sz
  omega
end Go.Proofs.Ytbdafhephmoedaa
