/- Proved: whatever game, whatever player, whatever two rows of marks come in, parrylaw11.PreForms returns true, and its arguments read afterwards as they read before. No condition. -/
import Derived.Test.YtnecihnhlkaajaaRows
import Derived.Test.YtnecihnhlkaajaaPForms
import Derived.Test.YtnecihnhlkaajaaGOpen
import Derived.Test.YtnecihnhlkaajaaPost
import Derived.Test.YtnecihnhlkaajaaPSize
import Derived.WalkKit
import Derived.ProofKit
import Derived.OpenShut
import Derived.Carry
namespace Go.Proofs.Ytnecihnhlkaajaa.preForms
open Gr Go.ChangeShapes Go.WideShapes Go.ChangeAt Go.RowKit
open Go.ChangeMaps (open_string shut_string)
set_option linter.unusedVariables false
set_option linter.unusedSimpArgs false

theorem own : ownKnob Try.prog.godebug = none := by kernel_rfl
theorem laidOut : laidOutB Try.prog = true := by kernel_rfl
theorem read25 : Try.prog.readableRec 25 = true := by kernel_rfl
theorem size25 : 25 < Try.prog.types.size := of_decide_eq_true (by kernel_rfl)
theorem read26 : Try.prog.readableRec 26 = true := by kernel_rfl
theorem size26 : 26 < Try.prog.types.size := of_decide_eq_true (by kernel_rfl)

set_option maxRecDepth 100000 in
theorem lifted (os : Os) (started : os.Started) (H : Type) (enc : TypeId × Value → H) :
    ReturnsInHanded {} Try.checked os 3 .any (Rows.preFormsSpec.pre6 enc Try.prog Try.f3 Rows.preFormsRow.domain false) (Rows.preFormsSpec.post enc Try.prog Try.f3 false true false false) := by
  refine returnsInHanded_of_change_sized (C := Try.checked) own started (by kernel_rfl) Try.func3
    (ChangeSpec.witness6 (enc := enc) (C := Try.checked) false ⟨#[], #[.agg #[.slice none 0 0, .slice none 0 0], .int .i64 0, .slice none 0 0, .slice none 0 0], []⟩ 8 (by kernel_rfl) (by kernel_rfl) (by kernel_rfl) (by kernel_rfl)) ?_
  intro W base args ds gs before hval0 hW hcnd hsz _
  have hval : ∀ (j : Nat) t v, Try.f3.params[j]? = some t → args[j]? = some v → Value.okWide Try.prog W .any base t v := hval0
  have hW' := hW
  have hlt : ∀ p ∈ before, p.block < W.heap.size := fun p hp => hW.lt p hp
  obtain ⟨p, q, hA0, hV, rfl, hfz, hnd⟩ := hW
  have hA : DataW.TrodAll enc Try.prog W 0 (fun _ => true) true Try.f3.params.toList args.toList ds p := hA0
  rw [Try.params3] at hA hval
  obtain ⟨v0, vs0, d0, ds0, p0, q0, hargs, rfl, rfl, h0, r0⟩ := trodAll_cons hA
  obtain ⟨v1, vs1, d1, ds1, p1, q1, rfl, rfl, rfl, h1, r1⟩ := trodAll_cons r0
  obtain ⟨v2, vs2, d2, ds2, p2, q2, rfl, rfl, rfl, h2, r2⟩ := trodAll_cons r1
  obtain ⟨v3, vs3, d3, ds3, p3, q3, rfl, rfl, rfl, h3, r3⟩ := trodAll_cons r2
  obtain ⟨rfl, rfl, rfl⟩ := trodAll_nil r3
  obtain rfl : args = #[v0, v1, v2, v3] := by cases args; simp_all
  obtain ⟨rfl, rfl⟩ := trodVars_none hV
  obtain ⟨OA0, on0, oc0, NA0, nn0, nc0, g0, rfl, hg0⟩ := open_game (hval 0 25 v0 rfl rfl) h0
  obtain ⟨a1, rfl, rfl, rfl, w1⟩ := open_int Try.underlying3 (hval 1 3 v1 rfl rfl) h1
  obtain ⟨A2, n2, c2, l2, rfl, hr2⟩ := open_bools (hval 2 26 v2 rfl rfl) h2
  obtain ⟨A3, n3, c3, l3, rfl, hr3⟩ := open_bools (hval 3 26 v3 rfl rfl) h3
  have hsm := own_small h0 (fun n hn => of_decide_eq_true (List.all_eq_true.1 hsz _ (DataW.weights_mem_each (j := 0) (t := 25) (d := d0) (by rw [Try.params3]; rfl) rfl n hn)))
  clear hA0 hval0
  simp only [List.append_nil, List.nil_append] at hW' hlt
  refine (pforms_any W.heap.size OA0 NA0 on0 oc0 nn0 nc0 g0 a1 A2 n2 c2 l2 A3 n3 c3 l3 W (Nat.le_refl _) hg0 hr2 hr3 hsm).mono fun e W' ⟨he, hg⟩ => ?_
  subst he
  refine ⟨_, rfl, post_of_below (pa := p0 ++ (p2 ++ (p3))) (pv := []) hW' (fun _ _ _ => (trodAll_cons_mk (shut_bool Try.underlying4 _) trodAll_mk0)) (fun sp hsp => ?_) (fun _ _ => rfl) (by simp)
    hg (ok_one (by kernel_rfl) rfl (okWide_bool_mk Try.underlying4 _))⟩
  have k0 := WideElems.Trod_stays laidOut read25 size25 h0 (fun x hx => hg.same (hlt x (by simp [hx]))) (sp' := sp) (fun x hx => hsp x (by simp [hx]))
  have k2 := WideElems.Trod_stays laidOut read26 size26 h2 (fun x hx => hg.same (hlt x (by simp [hx]))) (sp' := sp) (fun x hx => hsp x (by simp [hx]))
  have k3 := WideElems.Trod_stays laidOut read26 size26 h3 (fun x hx => hg.same (hlt x (by simp [hx]))) (sp' := sp) (fun x hx => hsp x (by simp [hx]))
  have := trodAll_cons_mk k0 (trodAll_cons_mk (shut_int Try.underlying3 w1) (trodAll_cons_mk k2 (trodAll_cons_mk k3 trodAll_mk0)))
  simp only [List.append_nil, List.nil_append] at this
  exact this

theorem over : Rows.preFormsRow.holds Try.pinned (OpenSpec.ofChange Rows.preFormsSpec) :=
  OpenClaim.holds_of_wide 3 Try.f3 rfl rfl rfl rfl rfl rfl rfl ⟨rfl, rfl, rfl, rfl, rfl⟩ rfl rfl rfl rfl rfl (by kernel_rfl) Try.func3 (by kernel_rfl)
    (of_decide_eq_true (by kernel_rfl)) (by unfold Func.isWrapper; first | (rw [if_pos (by decide +kernel)]; kernel_rfl) | (rw [if_neg (by decide +kernel)]; exact ⟨rfl, rfl⟩))
    (fun os started H enc _ => lifted os started H enc)

theorem proved : Rows.PreFormsSaid := over
#print axioms proved
end Go.Proofs.Ytnecihnhlkaajaa.preForms
