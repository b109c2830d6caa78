/- What may be chosen, as data. What follows of modules as data: one command more or less, the sides, the goals, other names. What the statements of stage 6 say, as data. What the statements of stage 6 say, as data: the system's answers, commands that fail, one command more, the beginnings. -/
import Derived.Test.YtbppdalfcldodaaGreatGMd
import Derived.Test.YtbppdalfcldodaaGreatGVal
import Derived.Test.YtbppdalfcldodaaGreatGPart
import Derived.Test.YtbppdalfcldodaaGreatGReads
namespace Go.Proofs.YtbppdalfcldodaaGreat
open Go.RowKit Ex
set_option linter.unusedSimpArgs false
set_option linter.unusedVariables false

theorem row12 {w : World} {b : Nat} {x : M8} (h : BoxM w b x) : w.cell? ⟨b, 0, none⟩ = some (.slice x.vars.A x.vars.n x.vars.c) ∧ w.cell? ⟨b, 1, none⟩ = some (.int .i64 x.ie.op) ∧ w.cell? ⟨b, 2, none⟩ = some (.int .i64 x.ie.n) ∧ w.cell? ⟨b, 3, none⟩ = some (.slice x.ie.A x.ie.len x.ie.cap) ∧
    w.cell? ⟨b, 4, none⟩ = some (.int .i64 x.is.op) ∧ w.cell? ⟨b, 5, none⟩ = some (.int .i64 x.is.n) ∧ w.cell? ⟨b, 6, none⟩ = some (.slice x.is.A x.is.len x.is.cap) ∧ w.cell? ⟨b, 7, none⟩ = some (.slice x.env.A x.env.n x.env.c) ∧ w.cell? ⟨b, 8, none⟩ = some (.slice x.sys.A x.sys.n x.sys.c) ∧
    w.cell? ⟨b, 9, none⟩ = some (.slice x.asm.A x.asm.n x.asm.c) ∧ w.cell? ⟨b, 10, none⟩ = some (.slice x.ens.A x.ens.n x.ens.c) ∧ w.cell? ⟨b, 11, none⟩ = some (.slice x.prio.A x.prio.n x.prio.c) :=
  ⟨h 0 _ rfl, h 1 _ rfl, h 2 _ rfl, h 3 _ rfl, h 4 _ rfl, h 5 _ rfl, h 6 _ rfl, h 7 _ rfl, h 8 _ rfl, h 9 _ rfl, h 10 _ rfl, h 11 _ rfl⟩
def pickB (l : List Dom.V) (p : Int) : Bool := decide (0 ≤ p) && (Dom.partL l p true == p)
def scanS (l : List Dom.V) (st nx i : Int) : List ST → Int → Bool → Option (Int × Bool)
  | [], w, a => some (w, a)
  | s :: r, w, a => if s.var = i then (if s.any = true then scanS l st nx i r w true else if (valE l s.e st nx).2 = 0 then scanS l st nx i r (valE l s.e st nx).1 false else none) else scanS l st nx i r w a
def atR (r : Option (Int × Bool)) (z : Int) : Bool := match r with
  | none => false
  | some (x, a) => a || (z == x)
def doesAt (l : List Dom.V) (c : CT) (env : Bool) (st nx : Int) (ws zs : List Int) (i : Nat) (v : Dom.V) : Bool :=
  if v.env = env then atR (scanS l st nx (i : Int) c.sets (ws.getD i 0) false) (zs.getD i 0) else true
def doesGo (l : List Dom.V) (c : CT) (env : Bool) (st nx : Int) (ws zs : List Int) : Nat → List Dom.V → Bool
  | _, [] => true
  | i, v :: r => doesAt l c env st nx ws zs i v && doesGo l c env st nx ws zs (i + 1) r
def doesB (l : List Dom.V) (c : CT) (env : Bool) (st nx to : Int) : Bool := trueE l c.guard st nx && doesGo l c env st nx (Dom.valsL l st) (Dom.valsL l to) 0 l
/- those of the first k numbers of which f is true, in order -/
def upTo (f : Int → Bool) : Nat → List Int
  | 0 => []
  | k + 1 => upTo f k ++ (if f (k : Int) = true then [(k : Int)] else [])
theorem upTo_len (f : Int → Bool) : ∀ k, (upTo f k).length ≤ k
  | 0 => Nat.le_refl _
  | k + 1 => by
    rw [upTo, List.length_append]
    have := upTo_len f k
    split <;> simp <;> omega
def totN (m : MT) : Nat := (Dom.totL m.vars).toNat
def initEnvL (m : MT) : List Int := if modE m = 0 then upTo (fun p => pickB m.vars p && trueE m.vars m.ie p p) (totN m) else []
def initSysL (m : MT) (p : Int) : List Int := if modE m = 0 ∧ pickB m.vars p = true then upTo (fun s => (Dom.partL m.vars s true == p) && trueE m.vars m.is s s) (totN m) else []
def envL (m : MT) (st : Int) : List Int := if modE m = 0 ∧ 0 ≤ st ∧ st < Dom.totL m.vars then upTo (fun p => m.env.any (fun c => pickB m.vars p && doesB m.vars c true st st p)) (totN m) else []
def sysL (m : MT) (st p : Int) : List Int := if modE m = 0 ∧ 0 ≤ st ∧ st < Dom.totL m.vars ∧ pickB m.vars p = true then upTo (fun s => m.sys.any (fun c => (Dom.partL m.vars s true == p) && doesB m.vars c false st p s)) (totN m) else []
/- a row of numbers that is handed back -/
def IntsPost (w : World) (xs : List Int) (e : Ending) (w' : World) : Prop := ∃ O n c, e = .returned (.slice O n c) ∧ w'.ownsRow w.heap.size 3 1 (.slice O n c) n (ints xs) ∧ xs.length = n ∧ Below w.heap.size w w'
theorem ints_none {w w' : World} (h : Below w.heap.size w w') : IntsPost w [] (.returned (.slice none 0 0)) w' := ⟨none, 0, 0, rfl, ⟨rfl, .inl ⟨rfl, rfl⟩⟩, rfl, h⟩
theorem ints_snoc (xs : List Int) (x : Int) : ints xs ++ [Value.int .i64 x] = ints (xs ++ [x]) := by simp [ints]

set_option maxHeartbeats 400000 in
theorem rpick_any (B : Nat) (Av : Option Addr) (nv cv : Nat) (lv : List Dom.V) (p : Int) (w : World) (ho : OkVars ⟨Av, nv, cv⟩ lv) (hB : B ≤ w.heap.size) (hrv : Dom.RV w B Av nv lv) :
    Calls Tryz.prog 82 #[.slice Av nv cv, .int .i64 p] w fun e w' => e = .returned (.bool (pickB lv p)) ∧ Below w.heap.size w w' := by
  have Hs : Hid (pickB lv p = (decide (0 ≤ p) && (Dom.partL lv p true == p))) := hide rfl
  by_cases h0 : 0 ≤ p
  · have hb : decide (0 ≤ p) = true := by simp [h0]
    have Hf : Hid (pickB lv p = (Dom.partL lv p true == p)) := hide (by rw [Hs.out, hb]; rfl)
    go_enter Tryz.func82, Tryz.ntmps82
    go_wp2_with fail
    refine (Dom.rpart_any Av nv cv B lv p true w ho.1 ho.2.1 ho.2.2.1 hB hrv ho.2.2.2).mono ?_
    rintro e w1 ⟨rfl, hb1⟩
    go_wp2_with fail
    go_ret
    exact ⟨ret_bool Hf.out.symm, hb1⟩
  · have hb : decide (0 ≤ p) = false := by simp; omega
    have Hf : Hid (pickB lv p = false) := hide (by rw [Hs.out, hb]; rfl)
    go_enter Tryz.func82, Tryz.ntmps82
    go_wp2_with fail
    go_ret
    exact ⟨ret_bool Hf.out.symm, Below.refl _ _⟩
end Go.Proofs.YtbppdalfcldodaaGreat
namespace Go.Proofs.YtbppdalfcldodaaGreat
open Go.RowKit Ex
set_option linter.unusedSimpArgs false
set_option linter.unusedVariables false

theorem modE_iff (m : MT) : modE m = 0 ↔ Dom.mayL m.vars = 0 ∧ needE m.vars m.ie 1 false false false = 0 ∧ needE m.vars m.is 1 true false false = 0 ∧ sizesE m = 0 ∧ cmdsE m.vars true m.env = 0 ∧ cmdsE m.vars false m.sys = 0 ∧ bothE m = 0 ∧ goalsE m.vars m.asm = 0 ∧ goalsE m.vars m.ens = 0 ∧ goalsE m.vars m.prio = 0 := by
  have h : ∀ l : List Int, firstE l = 0 ↔ ∀ x ∈ l, x = 0 := by
    intro l
    induction l with
    | nil => simp [firstE]
    | cons x r ih =>
      rw [firstE]
      by_cases hx : x = 0
      · rw [if_pos hx, ih]; simp [hx]
      · rw [if_neg hx]; simp [hx]
  unfold modE
  rw [h]
  simp
theorem cmdsE_iff (l : List Dom.V) (env : Bool) : ∀ cs, cmdsE l env cs = 0 ↔ ∀ c ∈ cs, cmdE l c env = 0
  | [] => by simp [cmdsE]
  | c :: r => by
    rw [cmdsE]
    by_cases hc : cmdE l c env = 0
    · rw [if_pos hc, cmdsE_iff l env r]; simp [hc]
    · rw [if_neg hc]; simp [hc]
theorem sizesE_zero {m : MT} (h : sizesE m = 0) : m.env.length ≤ 12 ∧ m.sys.length ≤ 12 ∧ m.asm.length ≤ 4 ∧ m.ens.length ≤ 4 ∧ m.prio.length ≤ 6 := by
  unfold sizesE at h
  split at h
  · cases h
  · omega
/- one command more -/
/- alike -/
def FitC (c : CT) : Prop := fitsB c.guard = true ∧ ∀ s ∈ c.sets, fitsB s.e = true
theorem cmdE_parts {l : List Dom.V} {c : CT} {env : Bool} (h : cmdE l c env = 0) : Dom.mayL l = 0 ∧ needE l c.guard 1 true (!env) false = 0 ∧ c.sets.length ≤ 6 ∧ setGo l env [] c.sets = 0 := by
  unfold cmdE at h
  by_cases h1 : Dom.mayL l = 0
  · rw [if_pos h1] at h
    by_cases h2 : needE l c.guard 1 true (!env) false = 0
    · rw [if_pos h2] at h
      by_cases h3 : 6 < c.sets.length
      · rw [if_pos h3] at h; cases h
      · rw [if_neg h3] at h; exact ⟨h1, h2, by omega, h⟩
    · rw [if_neg h2] at h; exact absurd h h2
  · rw [if_neg h1] at h; exact absurd h h1
def FitM (m : MT) : Prop := fitsB m.ie = true ∧ fitsB m.is = true ∧ (∀ c ∈ m.env, FitC c) ∧ (∀ c ∈ m.sys, FitC c) ∧ (∀ t ∈ m.asm, fitsB t = true) ∧ (∀ t ∈ m.ens, fitsB t = true) ∧ (∀ t ∈ m.prio, fitsB t = true)
/- the goals -/
/- the sides -/
theorem setGo_at {l : List Dom.V} {env : Bool} : ∀ {ss : List ST} {seen : List Int}, setGo l env seen ss = 0 → ∀ (i : Nat) (s : ST), ss[i]? = some s → 0 ≤ s.var ∧ s.var < l.length ∧ envAt l s.var = env ∧ s.var ∉ seen ∧ ∀ (j : Nat) (u : ST), j < i → ss[j]? = some u → u.var ≠ s.var
  | [], seen, _, i, s, hs => by simp at hs
  | a :: r, seen, h, i, s, hs => by
    rw [setGo] at h
    have hb : ¬ (a.var < 0 ∨ (l.length : Int) ≤ a.var ∨ envAt l a.var ≠ env ∨ a.var ∈ seen) := fun hb => by rw [if_pos hb] at h; cases h
    rw [if_neg hb] at h
    have hr : setGo l env (a.var :: seen) r = 0 := by
      split at h
      · split at h
        · exact h
        · cases h
      · split at h
        · exact h
        · rename_i hn; exact absurd h hn
    have hb2 : 0 ≤ a.var ∧ a.var < l.length ∧ envAt l a.var = env ∧ a.var ∉ seen := by
      refine ⟨?_, ?_, ?_, ?_⟩
      · exact Decidable.byContradiction fun h => hb (.inl (by omega))
      · exact Decidable.byContradiction fun h => hb (.inr (.inl (by omega)))
      · exact Decidable.byContradiction fun h => hb (.inr (.inr (.inl h)))
      · exact fun h => hb (.inr (.inr (.inr h)))
    cases i with
    | zero =>
      simp at hs; subst hs
      exact ⟨hb2.1, hb2.2.1, hb2.2.2.1, hb2.2.2.2, fun j u hj _ => by omega⟩
    | succ i =>
      obtain ⟨q1, q2, q3, q4, q5⟩ := setGo_at hr i s (by simpa using hs)
      simp at q4
      refine ⟨q1, q2, q3, q4.2, fun j u hj hu => ?_⟩
      cases j with
      | zero => simp at hu; subst hu; exact fun e => q4.1 e.symm
      | succ j => exact q5 j u (by omega) (by simpa using hu)
def gT (v : Int) : T := .mk 8 0 [.mk 2 0 [], .mk 9 0 [.mk 4 v [], .mk 4 v []]]
/- other names -/
def shp (l : List Dom.V) : List (Bool × Int) := l.map (fun v => (v.env, v.srt))
section
variable {l l2 : List Dom.V} (hs : shp l = shp l2)
include hs
variable (h1 : Dom.mayL l = 0) (h2 : Dom.mayL l2 = 0)
include h1 h2
end
def q7 : ByteArray := ⟨#[113, 95, 55]⟩
end Go.Proofs.YtbppdalfcldodaaGreat
namespace Go.Proofs.YtbppdalfcldodaaGreat
open Go.RowKit Ex
set_option linter.unusedSimpArgs false
set_option linter.unusedVariables false

theorem upTo_congr {f g : Int → Bool} : ∀ {n : Nat}, (∀ k : Nat, k < n → f (k : Int) = g (k : Int)) → upTo f n = upTo g n
  | 0, _ => rfl
  | n + 1, h => by
    rw [upTo, upTo, upTo_congr (fun k hk => h k (by omega)), h n (by omega)]
section
variable {l : List Dom.V}
theorem val_at {s : Int} {k : Nat} {v : Dom.V} (h : l[k]? = some v) : ∃ x, (Dom.valsL l s)[k]? = some x := by
  have hk := (List.getElem?_eq_some_iff.1 h).1
  exact ⟨_, List.getElem?_eq_getElem (by rw [Dom.valsL_length]; exact hk)⟩
/- two states agree on a side -/
def Agree (l : List Dom.V) (e : Bool) (s t : Int) : Prop := ∀ (k : Nat) (v : Dom.V), l[k]? = some v → v.env = e → (Dom.valsL l s).getD k 0 = (Dom.valsL l t).getD k 0
theorem pick_agree {e : Bool} {s t : Int} (h : Agree l e s t) : Dom.pickL e l (Dom.valsL l s) = Dom.pickL e l (Dom.valsL l t) := by
  refine List.ext_getElem? (fun k => ?_)
  by_cases hk : k < l.length
  · have hv := List.getElem?_eq_getElem hk
    obtain ⟨x, hx⟩ := val_at (s := s) hv
    obtain ⟨y, hy⟩ := val_at (s := t) hv
    rw [Dom.pickL_at e l _ k _ x hv hx, Dom.pickL_at e l _ k _ y hv hy]
    by_cases he : (l[k]).env = e
    · have := h k _ hv he
      simp [hx, hy] at this
      rw [if_pos he, if_pos he, this]
    · rw [if_neg he, if_neg he]
  · rw [List.getElem?_eq_none (by rw [Dom.pickL_length e l _ (Dom.valsL_length l s)]; omega), List.getElem?_eq_none (by rw [Dom.pickL_length e l _ (Dom.valsL_length l t)]; omega)]
theorem agree_pick {e : Bool} {s t : Int} (h : Dom.pickL e l (Dom.valsL l s) = Dom.pickL e l (Dom.valsL l t)) : Agree l e s t := fun k v hv he => by
  obtain ⟨x, hx⟩ := val_at (s := s) hv
  obtain ⟨y, hy⟩ := val_at (s := t) hv
  have h1 := Dom.pickL_at e l _ k v x hv hx
  have h2 := Dom.pickL_at e l _ k v y hv hy
  rw [h, h2, if_pos he, if_pos he] at h1
  simp [hx, hy]
  exact (Option.some.inj h1).symm
theorem part_eq {s : Int} (e : Bool) (hM : Dom.mayL l = 0) (h0 : 0 ≤ s) (h1 : s < Dom.totL l) : Dom.partL l s e = Dom.numL l (Dom.pickL e l (Dom.valsL l s)) := by
  unfold Dom.partL Dom.goodS
  rw [if_pos (by simp [hM, h0, h1])]
theorem vals_part {s : Int} (e : Bool) (hM : Dom.mayL l = 0) (h0 : 0 ≤ s) (h1 : s < Dom.totL l) : Dom.valsL l (Dom.partL l s e) = Dom.pickL e l (Dom.valsL l s) := by
  rw [part_eq e hM h0 h1]
  exact Dom.vals_num l _ (Dom.mayL_all hM) (Dom.has_pick e l _ (Dom.mayL_all hM) (Dom.has_vals l s (Dom.mayL_all hM))) (Dom.pickL_length e l _ (Dom.valsL_length l s))
theorem vals_inj {s t : Int} (hM : Dom.mayL l = 0) (h0 : 0 ≤ s) (h1 : s < Dom.totL l) (h2 : 0 ≤ t) (h3 : t < Dom.totL l) (h : Dom.valsL l s = Dom.valsL l t) : s = t := by
  have hp : Dom.totL l = Dom.prodV l := Dom.totL_prod (Dom.mayL_zero hM).2
  rw [← Dom.num_vals l s (Dom.mayL_all hM) h0 (by omega), ← Dom.num_vals l t (Dom.mayL_all hM) h2 (by omega), h]
theorem part_rng {s : Int} (e : Bool) (hM : Dom.mayL l = 0) (h0 : 0 ≤ s) (h1 : s < Dom.totL l) : 0 ≤ Dom.partL l s e ∧ Dom.partL l s e < Dom.totL l := by
  have hp : Dom.totL l = Dom.prodV l := Dom.totL_prod (Dom.mayL_zero hM).2
  rw [part_eq e hM h0 h1]
  have := Dom.num_range l _ (Dom.mayL_all hM) (Dom.has_pick e l _ (Dom.mayL_all hM) (Dom.has_vals l s (Dom.mayL_all hM))) (Dom.pickL_length e l _ (Dom.valsL_length l s))
  omega
theorem agree_part {s : Int} (e : Bool) (hM : Dom.mayL l = 0) (h0 : 0 ≤ s) (h1 : s < Dom.totL l) : Agree l e (Dom.partL l s e) s := fun k v hv he => by
  rw [vals_part e hM h0 h1]
  obtain ⟨x, hx⟩ := val_at (s := s) hv
  have := Dom.pickL_at e l _ k v x hv hx
  rw [if_pos he] at this
  simp [this, hx]
theorem part_of_agree {e : Bool} {s t : Int} (hM : Dom.mayL l = 0) (h0 : 0 ≤ s) (h1 : s < Dom.totL l) (h2 : 0 ≤ t) (h3 : t < Dom.totL l) (h : Agree l e s t) : Dom.partL l s e = Dom.partL l t e := by
  rw [part_eq e hM h0 h1, part_eq e hM h2 h3, pick_agree h]
theorem agree_of_part {e : Bool} {s t : Int} (hM : Dom.mayL l = 0) (h0 : 0 ≤ s) (h1 : s < Dom.totL l) (h2 : 0 ≤ t) (h3 : t < Dom.totL l) (h : Dom.partL l s e = Dom.partL l t e) : Agree l e s t := by
  apply agree_pick
  rw [← vals_part e hM h0 h1, ← vals_part e hM h2 h3, h]
theorem state_eq {s t : Int} (hM : Dom.mayL l = 0) (h0 : 0 ≤ s) (h1 : s < Dom.totL l) (h2 : 0 ≤ t) (h3 : t < Dom.totL l) (ha : Agree l true s t) (hb : Agree l false s t) : s = t := by
  refine vals_inj hM h0 h1 h2 h3 (List.ext_getElem? fun k => ?_)
  by_cases hk : k < l.length
  · have hv := List.getElem?_eq_getElem hk
    obtain ⟨x, hx⟩ := val_at (s := s) hv
    obtain ⟨y, hy⟩ := val_at (s := t) hv
    have : (Dom.valsL l s).getD k 0 = (Dom.valsL l t).getD k 0 := by
      cases he : (l[k]).env with
      | true => exact ha k _ hv he
      | false => exact hb k _ hv he
    simp [hx, hy] at this
    rw [hx, hy, this]
  · rw [List.getElem?_eq_none (by rw [Dom.valsL_length]; omega), List.getElem?_eq_none (by rw [Dom.valsL_length]; omega)]
theorem does_go {c : CT} {env : Bool} {st nx : Int} {ws zs : List Int} : ∀ (r : List Dom.V) (i : Nat), doesGo l c env st nx ws zs i r = true ↔ ∀ (k : Nat) (v : Dom.V), r[k]? = some v → doesAt l c env st nx ws zs (i + k) v = true
  | [], i => by simp [doesGo]
  | v :: r, i => by
    rw [doesGo, Bool.and_eq_true, does_go r (i + 1)]
    constructor
    · rintro ⟨h1, h2⟩ k u hu
      cases k with
      | zero => simp at hu; subst hu; exact h1
      | succ k =>
        have := h2 k u (by simpa using hu)
        rw [show i + (k + 1) = i + 1 + k by omega]; exact this
    · intro h
      refine ⟨h 0 v rfl, fun k u hu => ?_⟩
      have := h (k + 1) u (by simpa using hu)
      rw [show i + 1 + k = i + (k + 1) by omega]; exact this
theorem does_iff {c : CT} {env : Bool} {st nx to : Int} : doesB l c env st nx to = true ↔ trueE l c.guard st nx = true ∧ ∀ (k : Nat) (v : Dom.V), l[k]? = some v → v.env = env → atR (scanS l st nx (k : Int) c.sets ((Dom.valsL l st).getD k 0) false) ((Dom.valsL l to).getD k 0) = true := by
  unfold doesB
  rw [Bool.and_eq_true, does_go]
  constructor
  · rintro ⟨h1, h2⟩
    refine ⟨h1, fun k v hv he => ?_⟩
    have := h2 k v hv
    rw [Nat.zero_add] at this
    unfold doesAt at this
    rw [if_pos he] at this
    exact this
  · rintro ⟨h1, h2⟩
    refine ⟨h1, fun k v hv => ?_⟩
    rw [Nat.zero_add]
    unfold doesAt
    by_cases he : v.env = env
    · rw [if_pos he]; exact h2 k v hv he
    · rw [if_neg he]
/- a command that sets nothing keeps its side -/
theorem pick_iff {p : Int} (hM : Dom.mayL l = 0) (h0 : 0 ≤ p) (h1 : p < Dom.totL l) : pickB l p = true ↔ Dom.partL l p true = p := by
  unfold pickB
  simp [h0]
end
/- ChoiceGuards: a command that sets nothing -/
end Go.Proofs.YtbppdalfcldodaaGreat
namespace Go.Proofs.YtbppdalfcldodaaGreat
open Go.RowKit Ex
set_option linter.unusedSimpArgs false
set_option linter.unusedVariables false

def mixL : List Dom.V → List Int → List Int → List Int
  | v :: l, x :: xs, y :: ys => (if v.env = true then x else y) :: mixL l xs ys
  | _, _, _ => []
theorem mixL_length : ∀ (l : List Dom.V) (xs ys : List Int), xs.length = l.length → ys.length = l.length → (mixL l xs ys).length = l.length
  | [], xs, ys, h1, h2 => by simp [mixL]
  | v :: l, [], ys, h1, h2 => by simp at h1
  | v :: l, x :: xs, [], h1, h2 => by simp at h2
  | v :: l, x :: xs, y :: ys, h1, h2 => by simp [mixL, mixL_length l xs ys (by simpa using h1) (by simpa using h2)]
theorem mixL_at : ∀ (l : List Dom.V) (xs ys : List Int) (k : Nat) (v : Dom.V) (x y : Int), l[k]? = some v → xs[k]? = some x → ys[k]? = some y → (mixL l xs ys)[k]? = some (if v.env = true then x else y)
  | [], xs, ys, k, v, x, y, h, _, _ => by simp at h
  | u :: l, [], ys, k, v, x, y, _, h, _ => by simp at h
  | u :: l, a :: xs, [], k, v, x, y, _, _, h => by simp at h
  | u :: l, a :: xs, b :: ys, 0, v, x, y, h1, h2, h3 => by simp at h1 h2 h3; subst h1; subst h2; subst h3; simp [mixL]
  | u :: l, a :: xs, b :: ys, k + 1, v, x, y, h1, h2, h3 => by
    simp only [mixL, List.getElem?_cons_succ] at *
    exact mixL_at l xs ys k v x y h1 h2 h3
section
variable {l : List Dom.V}
theorem has_mix {s t : Int} (hM : Dom.mayL l = 0) : Dom.hasAll l (mixL l (Dom.valsL l s) (Dom.valsL l t)) = true := by
  refine Dom.hasAll_of l _ (fun k v x hv hx => ?_)
  obtain ⟨a, ha⟩ := val_at (s := s) hv
  obtain ⟨b, hb⟩ := val_at (s := t) hv
  rw [mixL_at l _ _ k v a b hv ha hb] at hx
  have hx := Option.some.inj hx
  subst hx
  split
  · exact Dom.hasAll_at l _ k v a (Dom.has_vals l s (Dom.mayL_all hM)) hv ha
  · exact Dom.hasAll_at l _ k v b (Dom.has_vals l t (Dom.mayL_all hM)) hv hb
/- the environment's values of one state, the system's of another one -/
end
theorem tot_nat {m : MT} {k : Nat} (hk : k < totN m) : 0 ≤ (k : Int) ∧ (k : Int) < Dom.totL m.vars := by
  have := (Dom.totL_bd m.vars).1
  unfold totN at hk
  omega
/- one command more -/
/- the beginnings -/
/- a command that fails at one variable leads nowhere -/
end Go.Proofs.YtbppdalfcldodaaGreat
