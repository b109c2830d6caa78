/- How long the owners of a game that came in may be: its bytes fit the machine. -/
import Derived.Test.YtnecihnhlkaajaaGOpen
import Derived.SizedLaws
namespace Go.Proofs.Ytnecihnhlkaajaa.Gr
open Go.RowKit Go.WideShapes Go.ChangeShapes Go.Deep
set_option linter.unusedSimpArgs false
set_option linter.unusedVariables false
theorem bytes3 : Try.prog.bytesOf 3 = 8 := by kernel_rfl
theorem own_small {H : Type} {enc : TypeId × Value → H} {w : World} {base : Nat} {spare : Nat → Bool} {held : Bool} {d : DataW H} {p : List MemPlace} {OA NA : Option Addr} {on oc nn nc : Nat}
    (h : DataW.Trod enc Try.prog w base spare held 25 (.agg #[.slice OA on oc, .slice NA nn nc]) d p) (hw : ∀ n ∈ d.weights Try.prog 25, n ≤ reachBytes) : on ≤ 2 ^ 48 := by
  obtain ⟨fuel, hf⟩ := h
  obtain ⟨ys, m, _, hx, hcl, hyl, hf⟩ := DataW.trod_struct Try.underlying25 hf
  match ys, hyl with
  | [y0, y1], _ =>
    have g0 := hf 0 _ rfl
    simp [Value.cells, cellsL, cellsN] at g0
    have hd : d = .agg [y0.1, y1.1] := by
      have := congrArg Prod.fst hx
      simpa using this
    subst hd
    rcases DataW.trod_slice Try.underlying22 g0 with ⟨hcs, _⟩ | ⟨a, len, cap, elems, rest, q, hq, hcs, hy, _, hl, hcm, hlen, hel, _, _⟩
    · simp at hcs
      omega
    · simp at hcs
      obtain ⟨_, rfl, _⟩ := hcs
      have hm : (elems.length + rest.length) * 8 ∈ (DataW.agg [y0.1, y1.1]).weights Try.prog 25 := by
        have e0 : y0.1 = .slice (elems.map (·.1)) (rest.map (·.1)) := by rw [hy]
        rw [e0]
        unfold DataW.weights
        rw [Try.underlying25]
        simp only [List.map_cons, List.map_nil]
        unfold DataW.weightsEach
        rw [List.mem_append]
        refine .inl ?_
        unfold DataW.weights
        rw [Try.underlying22]
        simp only [bytes3, List.length_map]
        exact List.mem_cons_self
      have := hw _ hm
      have h2 := reachBytes_lt
      omega
end Go.Proofs.Ytnecihnhlkaajaa.Gr
