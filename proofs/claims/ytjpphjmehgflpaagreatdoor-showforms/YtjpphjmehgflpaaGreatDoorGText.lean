/- Texts of expressions, as data: two of one text are the same. Texts of commands and modules, as data: numbers and names are the words of which they are made. Texts of commands and modules, as data: two of one text are the same. -/
import Derived.Test.YtjpphjmehgflpaaGreatDoorGSort
import Derived.Test.YtjpphjmehgflpaaGreatDoorGReads
import Derived.Test.YtjpphjmehgflpaaGreatDoorMLaw
import Derived.Lib.ItoaLen
import Derived.WideShapes
namespace Go.Proofs.YtjpphjmehgflpaaGreatDoor
open Go.RowKit Ex
set_option linter.unusedSimpArgs false
set_option linter.unusedVariables false

mutual
theorem T.ind {P : T → Prop} (h : ∀ op n ks, (∀ u ∈ ks, P u) → P (.mk op n ks)) : ∀ t, P t
  | .mk op n ks => h op n ks (T.indK h ks)
theorem T.indK {P : T → Prop} (h : ∀ op n ks, (∀ u ∈ ks, P u) → P (.mk op n ks)) : ∀ ks : List T, ∀ u ∈ ks, P u
  | [], u, hu => absurd hu (by simp)
  | k :: r, u, hu => match List.mem_cons.1 hu with
    | .inl e => e ▸ T.ind h k
    | .inr hu => T.indK h r u hu
end
def stopC (c : UInt8) : Bool := c == 32 || c == 41 || c == 59 || c == 44
def Stop (s : List UInt8) : Prop := ∀ c r, s = c :: r → stopC c = true
def Run (u : List UInt8) : Prop := ∀ c ∈ u, stopC c = false
theorem stop_cons {c : UInt8} {r : List UInt8} (h : stopC c = true) : Stop (c :: r) := fun c2 r2 e => by injection e with e1 e2; subst e1; exact h
/- runs of letters are split off -/
theorem run_split : ∀ {u v s t : List UInt8}, Run u → Run v → Stop s → Stop t → u ++ s = v ++ t → u = v ∧ s = t
  | [], [], s, t, _, _, _, _, h => ⟨rfl, by simpa using h⟩
  | [], c :: v, s, t, _, hv, hs, _, h => by
    rw [List.nil_append, List.cons_append] at h
    have := hs c _ h
    rw [hv c (by simp)] at this; cases this
  | c :: u, [], s, t, hu, _, _, ht, h => by
    rw [List.nil_append, List.cons_append] at h
    have := ht c _ h.symm
    rw [hu c (by simp)] at this; cases this
  | c :: u, d :: v, s, t, hu, hv, hs, ht, h => by
    rw [List.cons_append, List.cons_append] at h
    injection h with h1 h2
    obtain ⟨h3, h4⟩ := run_split (fun x hx => hu x (by simp [hx])) (fun x hx => hv x (by simp [hx])) hs ht h2
    exact ⟨by rw [h1, h3], h4⟩
def wordT (op : Int) : List UInt8 :=
  if op = 6 then [97, 110, 100] else if op = 7 then [111, 114] else if op = 8 then [61, 62] else if op = 9 then [61] else if op = 10 then [60] else if op = 11 then [60, 61] else if op = 12 then [43] else if op = 13 then [45] else [42]
section
variable (dg : Int → List UInt8) (nm : List (List UInt8))
mutual
def txT : T → List UInt8
  | .mk op n ks => txN op n (txK ks)
def txK : List T → List (List UInt8)
  | [] => []
  | k :: r => txT k :: txK r
def txN (op n : Int) (ks : List (List UInt8)) : List UInt8 :=
  if op = 1 then dg n else if op = 2 then (if n = 1 then [116, 114, 117, 101] else [102, 97, 108, 115, 101])
  else if op = 3 then nm.getD n.toNat [] else if op = 4 then nm.getD n.toNat [] ++ [39]
  else if op = 5 then 40 :: ([110, 111, 116] ++ (32 :: (ks.getD 0 [] ++ [41])))
  else if op = 15 then 40 :: ([105, 102] ++ (32 :: (ks.getD 0 [] ++ (32 :: ([116, 104, 101, 110] ++ (32 :: (ks.getD 1 [] ++ (32 :: ([101, 108, 115, 101] ++ (32 :: (ks.getD 2 [] ++ [41])))))))))))
  else 40 :: (ks.getD 0 [] ++ (32 :: (wordT op ++ (32 :: (ks.getD 1 [] ++ [41])))))
end
/- what a tree must be, and what the words are -/
inductive GT (N : Nat) (R : Int → Prop) : T → Prop
  | num (n : Int) : R n → GT N R (.mk 1 n [])
  | boo (n : Int) : n = 0 ∨ n = 1 → GT N R (.mk 2 n [])
  | var (k : Nat) : k < N → GT N R (.mk 3 (k : Int) [])
  | nxt (k : Nat) : k < N → GT N R (.mk 4 (k : Int) [])
  | neg (a : T) : GT N R a → GT N R (.mk 5 0 [a])
  | bin (op : Int) (a b : T) : 6 ≤ op → op ≤ 14 → GT N R a → GT N R b → GT N R (.mk op 0 [a, b])
  | ite (a b c : T) : GT N R a → GT N R b → GT N R c → GT N R (.mk 15 0 [a, b, c])
structure Words (dg : Int → List UInt8) (nm : List (List UInt8)) (R : Int → Prop) : Prop where
  drun : ∀ n, R n → Run (dg n)
  dfst : ∀ n, R n → ∃ c r, dg n = c :: r ∧ (c = 45 ∨ (48 ≤ c ∧ c ≤ 57))
  dinj : ∀ n k, R n → R k → dg n = dg k → n = k
  nrun : ∀ s ∈ nm, Run s
  nfst : ∀ s ∈ nm, ∃ c r, s = c :: r ∧ 97 ≤ c ∧ c ≤ 122
  nquo : ∀ s ∈ nm, (39 : UInt8) ∉ s
  nkey : ∀ s ∈ nm, s ≠ [116, 114, 117, 101] ∧ s ≠ [102, 97, 108, 115, 101] ∧ s ≠ [110, 111, 116] ∧ s ≠ [105, 102]
  nnod : nm.Nodup
variable {dg nm}
variable {R : Int → Prop} (hw : Words dg nm R)
theorem nm_at {k : Nat} (hk : k < nm.length) : nm.getD (k : Int).toNat [] ∈ nm := by
  rw [Int.toNat_natCast, List.getD_eq_getElem?_getD, List.getElem?_eq_getElem hk]
  exact List.getElem_mem hk
theorem nm_inj (h : nm.Nodup) {k j : Nat} (hk : k < nm.length) (hj : j < nm.length) (e : nm.getD (k : Int).toNat [] = nm.getD (j : Int).toNat []) : k = j := by
  rw [Int.toNat_natCast, Int.toNat_natCast, List.getD_eq_getElem?_getD, List.getD_eq_getElem?_getD, List.getElem?_eq_getElem hk, List.getElem?_eq_getElem hj] at e
  exact (List.getElem_inj h).1 (by simpa using e)
/- a leaf's text is a run of letters that begins with no bracket; another one's begins with a bracket -/
def Leaf (t : T) : Prop := t.op = 1 ∨ t.op = 2 ∨ t.op = 3 ∨ t.op = 4
include hw in
theorem leaf_run {t : T} (h : GT nm.length R t) (hl : Leaf t) : Run (txT dg nm t) ∧ ∃ c r, txT dg nm t = c :: r ∧ c ≠ 40 := by
  cases h with
  | num n hn =>
    obtain ⟨c, r, e, hc⟩ := hw.dfst n hn
    refine ⟨hw.drun n hn, c, r, e, fun e2 => ?_⟩
    subst e2
    rcases hc with h | ⟨h, _⟩ <;> revert h <;> decide
  | boo n hn =>
    rcases hn with rfl | rfl
    · exact ⟨by show Run [102, 97, 108, 115, 101]; unfold Run; decide, _, _, rfl, by decide⟩
    · exact ⟨by show Run [116, 114, 117, 101]; unfold Run; decide, _, _, rfl, by decide⟩
  | var k hk =>
    have hm := nm_at (nm := nm) hk
    obtain ⟨c, r, e, h1, h2⟩ := hw.nfst _ hm
    refine ⟨hw.nrun _ hm, c, r, e, fun e2 => ?_⟩
    subst e2; revert h1; decide
  | nxt k hk =>
    have hm := nm_at (nm := nm) hk
    obtain ⟨c, r, e, h1, h2⟩ := hw.nfst _ hm
    refine ⟨fun x hx => ?_, c, r ++ [39], ?_, fun e2 => ?_⟩
    · have hx : x ∈ nm.getD (k : Int).toNat [] ++ [39] := hx
      rcases List.mem_append.1 hx with hx | hx
      · exact hw.nrun _ hm x hx
      · simp at hx; subst hx; decide
    · show nm.getD (k : Int).toNat [] ++ [39] = _
      rw [e]; rfl
    · subst e2; revert h1; decide
  | neg a _ => rcases hl with h | h | h | h <;> cases h
  | bin op a b h1 h2 _ _ => rcases hl with h | h | h | h <;> (simp only [T.op] at h; omega)
  | ite a b c _ _ _ => rcases hl with h | h | h | h <;> cases h
include hw in
theorem leaf_inj {a b : T} (ha : GT nm.length R a) (hb : GT nm.length R b) (la : Leaf a) (lb : Leaf b) (h : txT dg nm a = txT dg nm b) : a = b := by
  have nl : ∀ k : Nat, k < nm.length → ∀ n, R n → dg n = nm.getD (k : Int).toNat [] → False := fun k hk n hn e => by
    obtain ⟨c, r, e1, h1⟩ := hw.dfst n hn
    obtain ⟨c2, r2, e2, h2, h3⟩ := hw.nfst _ (nm_at (nm := nm) hk)
    rw [e1, e2] at e
    injection e with e _
    subst e
    rcases h1 with h1 | ⟨h1, h4⟩
    · subst h1; revert h2; decide
    · have := UInt8.le_trans h2 h4; revert this; decide
  have nl2 : ∀ k : Nat, k < nm.length → ∀ n, R n → dg n = nm.getD (k : Int).toNat [] ++ [39] → False := fun k hk n hn e => by
    obtain ⟨c, r, e1, h1⟩ := hw.dfst n hn
    obtain ⟨c2, r2, e2, h2, h3⟩ := hw.nfst _ (nm_at (nm := nm) hk)
    rw [e1, e2] at e
    injection e with e _
    subst e
    rcases h1 with h1 | ⟨h1, h4⟩
    · subst h1; revert h2; decide
    · have := UInt8.le_trans h2 h4; revert this; decide
  have nb : ∀ n, R n → ∀ k : Int, (k = 0 ∨ k = 1) → dg n = txT dg nm (.mk 2 k []) → False := fun n hn k hk e => by
    obtain ⟨c, r, e1, h1⟩ := hw.dfst n hn
    rcases hk with rfl | rfl
    · have e : dg n = [102, 97, 108, 115, 101] := e
      rw [e1] at e; injection e with e _; subst e
      revert h1; decide
    · have e : dg n = [116, 114, 117, 101] := e
      rw [e1] at e; injection e with e _; subst e
      revert h1; decide
  have bv : ∀ k : Int, (k = 0 ∨ k = 1) → ∀ j : Nat, j < nm.length → txT dg nm (.mk 2 k []) = nm.getD (j : Int).toNat [] → False := fun k hk j hj e => by
    have hkey := hw.nkey _ (nm_at (nm := nm) hj)
    rcases hk with rfl | rfl
    · exact hkey.2.1 e.symm
    · exact hkey.1 e.symm
  have bn : ∀ k : Int, (k = 0 ∨ k = 1) → ∀ j : Nat, txT dg nm (.mk 2 k []) = nm.getD (j : Int).toNat [] ++ [39] → False := fun k hk j e => by
    have hm : (39 : UInt8) ∈ txT dg nm (.mk 2 k []) := by rw [e]; simp
    rcases hk with rfl | rfl
    · have hm : (39 : UInt8) ∈ [102, 97, 108, 115, 101] := hm
      revert hm; decide
    · have hm : (39 : UInt8) ∈ [116, 114, 117, 101] := hm
      revert hm; decide
  have vn : ∀ k j : Nat, k < nm.length → nm.getD (k : Int).toNat [] = nm.getD (j : Int).toNat [] ++ [39] → False := fun k j hk e => by
    exact hw.nquo _ (nm_at (nm := nm) hk) (by rw [e]; simp)
  cases ha with
  | num n hn =>
    cases hb with
    | num k hk => rw [hw.dinj n k hn hk h]
    | boo k hk => exact (nb n hn k hk h).elim
    | var k hk => exact (nl k hk n hn h).elim
    | nxt k hk => exact (nl2 k hk n hn h).elim
    | neg a _ => rcases lb with h | h | h | h <;> cases h
    | bin op a b h1 h2 _ _ => rcases lb with h | h | h | h <;> (simp only [T.op] at h; omega)
    | ite a b c _ _ _ => rcases lb with h | h | h | h <;> cases h
  | boo n hn =>
    cases hb with
    | num k hk => exact (nb k hk n hn h.symm).elim
    | boo k hk =>
      rcases hn with rfl | rfl <;> rcases hk with rfl | rfl
      · rfl
      · have h : ([102, 97, 108, 115, 101] : List UInt8) = [116, 114, 117, 101] := h
        exact absurd h (by decide)
      · have h : ([116, 114, 117, 101] : List UInt8) = [102, 97, 108, 115, 101] := h
        exact absurd h (by decide)
      · rfl
    | var k hk => exact (bv n hn k hk h).elim
    | nxt k hk => exact (bn n hn k h).elim
    | neg a _ => rcases lb with h | h | h | h <;> cases h
    | bin op a b h1 h2 _ _ => rcases lb with h | h | h | h <;> (simp only [T.op] at h; omega)
    | ite a b c _ _ _ => rcases lb with h | h | h | h <;> cases h
  | var k hk =>
    cases hb with
    | num n hn => exact (nl k hk n hn h.symm).elim
    | boo n hn => exact (bv n hn k hk h.symm).elim
    | var j hj => rw [nm_inj hw.nnod hk hj h]
    | nxt j hj => exact (vn k j hk h).elim
    | neg a _ => rcases lb with h | h | h | h <;> cases h
    | bin op a b h1 h2 _ _ => rcases lb with h | h | h | h <;> (simp only [T.op] at h; omega)
    | ite a b c _ _ _ => rcases lb with h | h | h | h <;> cases h
  | nxt k hk =>
    cases hb with
    | num n hn => exact (nl2 k hk n hn h.symm).elim
    | boo n hn => exact (bn n hn k h.symm).elim
    | var j hj => exact (vn j k hj h.symm).elim
    | nxt j hj =>
      have h : nm.getD (k : Int).toNat [] ++ [39] = nm.getD (j : Int).toNat [] ++ [39] := h
      rw [nm_inj hw.nnod hk hj (List.append_cancel_right h)]
    | neg a _ => rcases lb with h | h | h | h <;> cases h
    | bin op a b h1 h2 _ _ => rcases lb with h | h | h | h <;> (simp only [T.op] at h; omega)
    | ite a b c _ _ _ => rcases lb with h | h | h | h <;> cases h
  | neg a _ => rcases la with h | h | h | h <;> cases h
  | bin op a b h1 h2 _ _ => rcases la with h | h | h | h <;> (simp only [T.op] at h; omega)
  | ite a b c _ _ _ => rcases la with h | h | h | h <;> cases h
theorem wordT_run {op : Int} (h1 : 6 ≤ op) (h2 : op ≤ 14) : Run (wordT op) := by
  have h : op = 6 ∨ op = 7 ∨ op = 8 ∨ op = 9 ∨ op = 10 ∨ op = 11 ∨ op = 12 ∨ op = 13 ∨ op = 14 := by omega
  rcases h with rfl | rfl | rfl | rfl | rfl | rfl | rfl | rfl | rfl <;> (unfold Run; decide)
theorem wordT_inj {o p : Int} (h1 : 6 ≤ o) (h2 : o ≤ 14) (h3 : 6 ≤ p) (h4 : p ≤ 14) (e : wordT o = wordT p) : o = p := by
  have h : o = 6 ∨ o = 7 ∨ o = 8 ∨ o = 9 ∨ o = 10 ∨ o = 11 ∨ o = 12 ∨ o = 13 ∨ o = 14 := by omega
  have h' : p = 6 ∨ p = 7 ∨ p = 8 ∨ p = 9 ∨ p = 10 ∨ p = 11 ∨ p = 12 ∨ p = 13 ∨ p = 14 := by omega
  rcases h with rfl | rfl | rfl | rfl | rfl | rfl | rfl | rfl | rfl <;> rcases h' with rfl | rfl | rfl | rfl | rfl | rfl | rfl | rfl | rfl <;> first | rfl | exact absurd e (by decide)
theorem bin_tx {op : Int} (a b : T) (h1 : 6 ≤ op) (h2 : op ≤ 14) : txT dg nm (.mk op 0 [a, b]) = 40 :: (txT dg nm a ++ (32 :: (wordT op ++ (32 :: (txT dg nm b ++ [41]))))) := by
  rw [txT, txN, if_neg (by omega), if_neg (by omega), if_neg (by omega), if_neg (by omega), if_neg (by omega), if_neg (by omega)]
  rfl
theorem neg_tx (a : T) : txT dg nm (.mk 5 0 [a]) = 40 :: ([110, 111, 116] ++ (32 :: (txT dg nm a ++ [41]))) := rfl
theorem ite_tx (a b c : T) : txT dg nm (.mk 15 0 [a, b, c]) = 40 :: ([105, 102] ++ (32 :: (txT dg nm a ++ (32 :: ([116, 104, 101, 110] ++ (32 :: (txT dg nm b ++ (32 :: ([101, 108, 115, 101] ++ (32 :: (txT dg nm c ++ [41]))))))))))) := rfl
theorem gt_leaf {N : Nat} {t : T} (h : GT N R t) : Leaf t ∨ ∃ r, txT dg nm t = 40 :: r := by
  cases h with
  | num n _ => exact .inl (.inl rfl)
  | boo n _ => exact .inl (.inr (.inl rfl))
  | var k _ => exact .inl (.inr (.inr (.inl rfl)))
  | nxt k _ => exact .inl (.inr (.inr (.inr rfl)))
  | neg a _ => exact .inr ⟨_, neg_tx a⟩
  | bin op a b h1 h2 _ _ => exact .inr ⟨_, bin_tx a b h1 h2⟩
  | ite a b c _ _ _ => exact .inr ⟨_, ite_tx a b c⟩
theorem stop32 (r : List UInt8) : Stop (32 :: r) := stop_cons (by decide)
theorem stop41 (r : List UInt8) : Stop (41 :: r) := stop_cons (by decide)
include hw in
/- no expression's text is one of the words 'not', 'if' -/
theorem no_key {t : T} {kw s r : List UInt8} (h : GT nm.length R t) (hk : kw = [110, 111, 116] ∨ kw = [105, 102]) (hs : Stop s) (hr : Stop r) (e : txT dg nm t ++ s = kw ++ r) : False := by
  have hrun : Run kw := by rcases hk with rfl | rfl <;> (unfold Run; decide)
  rcases gt_leaf (dg := dg) (nm := nm) h with hl | ⟨q, hq⟩
  · obtain ⟨h1, _⟩ := leaf_run hw h hl
    obtain ⟨e1, _⟩ := run_split h1 hrun hs hr e
    cases h with
    | num n hn =>
      obtain ⟨c, r2, e2, h2⟩ := hw.dfst n hn
      have e1 : dg n = kw := e1
      rw [e2] at e1
      rcases hk with rfl | rfl
      · injection e1 with e1 _; subst e1; revert h2; decide
      · injection e1 with e1 _; subst e1; revert h2; decide
    | boo n hn =>
      rcases hn with rfl | rfl
      · have e1 : ([102, 97, 108, 115, 101] : List UInt8) = kw := e1
        rcases hk with rfl | rfl <;> exact absurd e1 (by decide)
      · have e1 : ([116, 114, 117, 101] : List UInt8) = kw := e1
        rcases hk with rfl | rfl <;> exact absurd e1 (by decide)
    | var k hk2 =>
      have hkey := hw.nkey _ (nm_at (nm := nm) hk2)
      rcases hk with rfl | rfl
      · exact hkey.2.2.1 e1
      · exact hkey.2.2.2 e1
    | nxt k hk2 =>
      have hm : (39 : UInt8) ∈ kw := by rw [← e1]; show (39 : UInt8) ∈ nm.getD (k : Int).toNat [] ++ [39]; simp
      rcases hk with rfl | rfl <;> (revert hm; decide)
    | neg a _ => rcases hl with h | h | h | h <;> cases h
    | bin op a b h1 h2 _ _ => rcases hl with h | h | h | h <;> (simp only [T.op] at h; omega)
    | ite a b c _ _ _ => rcases hl with h | h | h | h <;> cases h
  · rw [hq] at e
    rcases hk with rfl | rfl <;> (injection e with e _; revert e; decide)
include hw in
/- two expressions' texts, whatever follows: the expressions are the same, and so is what follows -/
theorem text_pre {a : T} (ha : GT nm.length R a) : ∀ {b : T} {s t : List UInt8}, GT nm.length R b → Stop s → Stop t → txT dg nm a ++ s = txT dg nm b ++ t → a = b ∧ s = t := by
  have leafs : ∀ {a b : T} {s t : List UInt8}, GT nm.length R a → GT nm.length R b → Leaf a → Stop s → Stop t → txT dg nm a ++ s = txT dg nm b ++ t → a = b ∧ s = t := fun {a b s t} ha hb la hs ht e => by
    obtain ⟨ra, ca, qa, ea, na⟩ := leaf_run hw ha la
    rcases gt_leaf (dg := dg) (nm := nm) hb with lb | ⟨q, hq⟩
    · obtain ⟨rb, _⟩ := leaf_run hw hb lb
      obtain ⟨e1, e2⟩ := run_split ra rb hs ht e
      exact ⟨leaf_inj hw ha hb la lb e1, e2⟩
    · rw [ea, hq] at e
      injection e with e _
      exact absurd e na
  have kids : ∀ {r q : List UInt8} {b : T}, GT nm.length R b → Leaf b → ∀ {t : List UInt8}, (40 :: r : List UInt8) ++ q = txT dg nm b ++ t → False := fun {r q b} hb lb {t} e => by
    obtain ⟨_, cb, qb, eb, nb⟩ := leaf_run hw hb lb
    rw [eb] at e
    injection e with e _
    exact nb e.symm
  induction ha with
  | num n hn => intro b s t hb hs ht e; exact leafs (.num n hn) hb (.inl rfl) hs ht e
  | boo n hn => intro b s t hb hs ht e; exact leafs (.boo n hn) hb (.inr (.inl rfl)) hs ht e
  | var k hk => intro b s t hb hs ht e; exact leafs (.var k hk) hb (.inr (.inr (.inl rfl))) hs ht e
  | nxt k hk => intro b s t hb hs ht e; exact leafs (.nxt k hk) hb (.inr (.inr (.inr rfl))) hs ht e
  | neg a ha ih =>
    intro b s t hb hs ht e
    rw [neg_tx] at e
    cases hb with
    | num n hn => exact (kids (.num n hn) (.inl rfl) e).elim
    | boo n hn => exact (kids (.boo n hn) (.inr (.inl rfl)) e).elim
    | var k hk => exact (kids (.var k hk) (.inr (.inr (.inl rfl))) e).elim
    | nxt k hk => exact (kids (.nxt k hk) (.inr (.inr (.inr rfl))) e).elim
    | neg b hb =>
      rw [neg_tx] at e
      simp only [List.cons_append, List.append_assoc, List.nil_append, List.cons.injEq, true_and] at e
      obtain ⟨e1, e2⟩ := ih hb (stop41 _) (stop41 _) e
      injection e2 with _ e2
      exact ⟨by rw [e1], e2⟩
    | bin op b1 b2 h1 h2 hb1 hb2 =>
      rw [bin_tx b1 b2 h1 h2] at e
      simp only [List.cons_append, List.append_assoc, List.nil_append, List.cons.injEq, true_and] at e
      exact (no_key hw hb1 (kw := [110, 111, 116]) (.inl rfl) (stop32 _) (stop32 (txT dg nm a ++ 41 :: s)) e.symm).elim
    | ite b1 b2 b3 _ _ _ =>
      rw [ite_tx] at e
      simp only [List.cons_append, List.append_assoc, List.nil_append, List.cons.injEq, true_and] at e
      exact absurd e.1 (by decide)
  | bin op a1 a2 h1 h2 ha1 ha2 ih1 ih2 =>
    intro b s t hb hs ht e
    rw [bin_tx a1 a2 h1 h2] at e
    cases hb with
    | num n hn => exact (kids (.num n hn) (.inl rfl) e).elim
    | boo n hn => exact (kids (.boo n hn) (.inr (.inl rfl)) e).elim
    | var k hk => exact (kids (.var k hk) (.inr (.inr (.inl rfl))) e).elim
    | nxt k hk => exact (kids (.nxt k hk) (.inr (.inr (.inr rfl))) e).elim
    | neg b hb =>
      rw [neg_tx] at e
      simp only [List.cons_append, List.append_assoc, List.nil_append, List.cons.injEq, true_and] at e
      exact (no_key hw ha1 (kw := [110, 111, 116]) (.inl rfl) (stop32 _) (stop32 (txT dg nm b ++ 41 :: t)) e).elim
    | bin op2 b1 b2 h3 h4 hb1 hb2 =>
      rw [bin_tx b1 b2 h3 h4] at e
      simp only [List.cons_append, List.append_assoc, List.nil_append, List.cons.injEq, true_and] at e
      obtain ⟨e1, e2⟩ := ih1 hb1 (stop32 _) (stop32 _) e
      simp only [List.cons.injEq, true_and] at e2
      obtain ⟨e3, e4⟩ := run_split (wordT_run h1 h2) (wordT_run h3 h4) (stop32 _) (stop32 _) e2
      simp only [List.cons.injEq, true_and] at e4
      obtain ⟨e5, e6⟩ := ih2 hb2 (stop41 _) (stop41 _) e4
      simp at e6
      exact ⟨by rw [e1, e5, wordT_inj h1 h2 h3 h4 e3], e6⟩
    | ite b1 b2 b3 _ _ _ =>
      rw [ite_tx] at e
      simp only [List.cons_append, List.append_assoc, List.nil_append, List.cons.injEq, true_and] at e
      exact (no_key hw ha1 (kw := [105, 102]) (.inr rfl) (stop32 _) (stop32 _) e).elim
  | ite a1 a2 a3 ha1 ha2 ha3 ih1 ih2 ih3 =>
    intro b s t hb hs ht e
    rw [ite_tx] at e
    cases hb with
    | num n hn => exact (kids (.num n hn) (.inl rfl) e).elim
    | boo n hn => exact (kids (.boo n hn) (.inr (.inl rfl)) e).elim
    | var k hk => exact (kids (.var k hk) (.inr (.inr (.inl rfl))) e).elim
    | nxt k hk => exact (kids (.nxt k hk) (.inr (.inr (.inr rfl))) e).elim
    | neg b hb =>
      rw [neg_tx] at e
      simp only [List.cons_append, List.append_assoc, List.nil_append, List.cons.injEq, true_and] at e
      exact absurd e.1 (by decide)
    | bin op b1 b2 h1 h2 hb1 hb2 =>
      rw [bin_tx b1 b2 h1 h2] at e
      simp only [List.cons_append, List.append_assoc, List.nil_append, List.cons.injEq, true_and] at e
      exact (no_key hw hb1 (kw := [105, 102]) (.inr rfl) (stop32 _) (stop32 _) e.symm).elim
    | ite b1 b2 b3 hb1 hb2 hb3 =>
      rw [ite_tx] at e
      simp only [List.cons_append, List.append_assoc, List.nil_append, List.cons.injEq, true_and] at e
      obtain ⟨e1, e2⟩ := ih1 hb1 (stop32 _) (stop32 _) e
      simp only [List.cons.injEq, true_and] at e2
      obtain ⟨e3, e4⟩ := ih2 hb2 (stop32 _) (stop32 _) e2
      simp only [List.cons.injEq, true_and] at e4
      obtain ⟨e5, e6⟩ := ih3 hb3 (stop41 _) (stop41 _) e4
      injection e6 with _ e6
      exact ⟨by rw [e1, e3, e5], e6⟩
include hw in
theorem text_inj {a b : T} (ha : GT nm.length R a) (hb : GT nm.length R b) (h : txT dg nm a = txT dg nm b) : a = b :=
  (text_pre hw ha (s := []) (t := []) hb (fun c r e => by cases e) (fun c r e => by cases e) (by rw [h])).1
end
end Go.Proofs.YtjpphjmehgflpaaGreatDoor
namespace Go.Proofs.YtjpphjmehgflpaaGreatDoor
open Go.RowKit Ex
set_option linter.unusedSimpArgs false
set_option linter.unusedVariables false

/- numbers -/
theorem dig_fin : ∀ k : Fin 10, (48 : UInt8) ≤ UInt8.ofNat (48 + k.val) ∧ UInt8.ofNat (48 + k.val) ≤ 57 ∧ (UInt8.ofNat (48 + k.val)).toNat - 48 = k.val := by decide
theorem dig_ok {k : Nat} (h : k < 10) : (48 : UInt8) ≤ UInt8.ofNat (48 + k) ∧ UInt8.ofNat (48 + k) ≤ 57 ∧ (UInt8.ofNat (48 + k)).toNat - 48 = k := dig_fin ⟨k, h⟩
theorem dec_ok (u : Nat) : ∀ c ∈ Lib.decDigits u, (48 : UInt8) ≤ c ∧ c ≤ 57 := by
  induction u using Nat.strongRecOn with
  | _ u ih =>
    intro c hc
    rw [Lib.decDigits] at hc
    split at hc
    · rename_i h
      simp only [List.mem_singleton] at hc
      subst hc
      exact ⟨(dig_ok h).1, (dig_ok h).2.1⟩
    · rename_i h
      rcases List.mem_append.1 hc with hc | hc
      · exact ih (u / 10) (by omega) c hc
      · simp only [List.mem_singleton] at hc
        subst hc
        have := dig_ok (k := u % 10) (by omega)
        exact ⟨this.1, this.2.1⟩
def dval (l : List UInt8) : Nat := l.foldl (fun a c => a * 10 + (c.toNat - 48)) 0
theorem dval_dec (u : Nat) : dval (Lib.decDigits u) = u := by
  induction u using Nat.strongRecOn with
  | _ u ih =>
    rw [Lib.decDigits]
    split
    · rename_i h
      simp only [dval, List.foldl_cons, List.foldl_nil, (dig_ok h).2.2]; omega
    · rename_i h
      have hd := dig_ok (k := u % 10) (by omega)
      have := ih (u / 10) (by omega)
      simp only [dval] at this
      simp only [dval, List.foldl_append, List.foldl_cons, List.foldl_nil, this, hd.2.2]; omega
theorem dec_inj {u v : Nat} (h : Lib.decDigits u = Lib.decDigits v) : u = v := by
  rw [← dval_dec u, ← dval_dec v, h]
theorem dec_cons (u : Nat) : ∃ c r, Lib.decDigits u = c :: r ∧ (48 : UInt8) ≤ c ∧ c ≤ 57 := by
  have hl : 1 ≤ (Lib.decDigits u).length := by rw [Lib.decDigits_length]; exact Lib.nDigits_pos u
  have ho := dec_ok u
  generalize Lib.decDigits u = l at *
  cases l with
  | nil => simp at hl
  | cons c r => exact ⟨c, r, rfl, ho c (by simp)⟩
theorem itoa_mem (n : Int) : ∀ c ∈ Lib.itoa n, c = 45 ∨ ((48 : UInt8) ≤ c ∧ c ≤ 57) := by
  intro c hc
  unfold Lib.itoa at hc
  split at hc
  · simp only [List.mem_cons] at hc
    rcases hc with hc | hc
    · exact .inl hc
    · exact .inr (dec_ok _ c hc)
  · exact .inr (dec_ok _ c hc)
theorem itoa_fst (n : Int) : ∃ c r, Lib.itoa n = c :: r ∧ (c = 45 ∨ ((48 : UInt8) ≤ c ∧ c ≤ 57)) := by
  unfold Lib.itoa
  split
  · exact ⟨45, _, rfl, .inl rfl⟩
  · obtain ⟨c, r, e, h⟩ := dec_cons n.toNat
    exact ⟨c, r, e, .inr h⟩
theorem itoa_inj {n k : Int} (h : Lib.itoa n = Lib.itoa k) : n = k := by
  have no : ∀ u v : Nat, 45 :: Lib.decDigits u ≠ Lib.decDigits v := fun u v e => by
    have := dec_ok v 45 (by rw [← e]; simp)
    revert this; decide
  unfold Lib.itoa at h
  split at h <;> split at h
  · injection h with _ h; have := dec_inj h; omega
  · exact absurd h (no _ _)
  · exact absurd h.symm (no _ _)
  · have := dec_inj h; omega
theorem dig_stop {c : UInt8} (h : c = 45 ∨ ((48 : UInt8) ≤ c ∧ c ≤ 57)) : stopC c = false := by
  cases e : stopC c with
  | false => rfl
  | true =>
    exfalso
    simp only [stopC, Bool.or_eq_true, beq_iff_eq] at e
    rcases e with ((e | e) | e) | e <;> subst e <;> revert h <;> decide
/- names -/
def nmL (l : List Dom.V) : List (List UInt8) := l.map Dom.V.key
def RN (n : Int) : Prop := -1000 ≤ n ∧ n ≤ 1000
theorem ok_stop {c : UInt8} (h : Dom.okB c = true) : stopC c = false ∧ c ≠ 39 ∧ c ≠ 46 := by
  refine ⟨?_, fun e => ?_, fun e => ?_⟩
  · cases e : stopC c with
    | false => rfl
    | true =>
      exfalso
      simp only [stopC, Bool.or_eq_true, beq_iff_eq] at e
      rcases e with ((e | e) | e) | e <;> subst e <;> revert h <;> decide
  · subst e; revert h; decide
  · subst e; revert h; decide
structure NameOk (s : List UInt8) : Prop where
  run : Run s
  fst : ∃ c r, s = c :: r ∧ 97 ≤ c ∧ c ≤ 122
  quo : (39 : UInt8) ∉ s
  key : s ≠ [116, 114, 117, 101] ∧ s ≠ [102, 97, 108, 115, 101] ∧ s ≠ [110, 111, 116] ∧ s ≠ [105, 102]
  any : s ≠ [97, 110, 121]
  when : s ≠ [119, 104, 101, 110]
  len : s.length ≤ 16
theorem name_ok {s : ByteArray} (h : Dom.nameB s = true) : NameOk s.data.toList := by
  unfold Dom.nameB at h
  simp only [Bool.and_eq_true, decide_eq_true_eq, Bool.not_eq_true'] at h
  obtain ⟨⟨⟨⟨h1, h2⟩, h3⟩, h4⟩, h5⟩ := h
  rw [ByteArray.toList_eq] at h5
  have hs : s.data.toList.length = s.size := by simp
  rw [← hs] at h1 h2
  generalize s.data.toList = l at *
  rw [List.all_eq_true] at h4
  cases l with
  | nil => simp at h1
  | cons c r =>
    refine ⟨fun x hx => (ok_stop (h4 x hx)).1, ⟨c, r, rfl, ?_⟩, fun hx => (ok_stop (h4 39 hx)).2.1 rfl, ?_, ?_, ?_, h2⟩
    · simp only [List.getD_cons_zero, Dom.letterB, decide_eq_true_eq] at h3
      constructor
      · rw [UInt8.le_iff_toNat_le]; have : (97 : UInt8).toNat = 97 := rfl; omega
      · rw [UInt8.le_iff_toNat_le]; have : (122 : UInt8).toNat = 122 := rfl; omega
    · refine ⟨?_, ?_, ?_, ?_⟩ <;> (intro e; rw [e] at h5; revert h5; decide)
    · intro e; rw [e] at h5; revert h5; decide
    · intro e; rw [e] at h5; revert h5; decide
theorem names_ok {l : List Dom.V} (h : Dom.mayL l = 0) : (∀ v ∈ l, NameOk v.key ∧ v.may = 0) ∧ (nmL l).Nodup := by
  obtain ⟨h1, h2⟩ := (mayGo_iff l []).1 ((mayL_iff l).1 h).1
  exact ⟨fun v hv => ⟨name_ok (h1 v hv).1, (h1 v hv).2.1⟩, h2⟩
theorem words_of {l : List Dom.V} (h : Dom.mayL l = 0) : Words Lib.itoa (nmL l) RN := by
  obtain ⟨h1, h2⟩ := names_ok h
  have hn : ∀ s ∈ nmL l, NameOk s := fun s hs => by
    obtain ⟨v, hv, rfl⟩ := List.mem_map.1 hs
    exact (h1 v hv).1
  exact { drun := fun n _ c hc => dig_stop (itoa_mem n c hc), dfst := fun n _ => itoa_fst n, dinj := fun n k _ _ e => itoa_inj e, nrun := fun s hs => (hn s hs).run, nfst := fun s hs => (hn s hs).fst, nquo := fun s hs => (hn s hs).quo, nkey := fun s hs => (hn s hs).key, nnod := h2 }
theorem nm_len (l : List Dom.V) : (nmL l).length = l.length := by simp [nmL]

/- trees of a sort are such as texts ask for -/
theorem tyK_all {l : List Dom.V} : ∀ {ks : List T}, (tyK l ks).2 = 0 → ∀ k ∈ ks, (tyT l k).2 = 0
  | [], _, k, hk => by cases hk
  | a :: r, h, k, hk => by
    rw [tyK] at h
    split at h
    · rename_i h1
      rcases List.mem_cons.1 hk with rfl | hk
      · exact h1
      · exact tyK_all h k hk
    · rename_i h1; exact absurd h h1
theorem soundK_all : ∀ {ks : List T}, soundK ks = true → ∀ k ∈ ks, sound k = true
  | [], _, k, hk => by cases hk
  | a :: r, h, k, hk => by
    rw [soundK, Bool.and_eq_true] at h
    rcases List.mem_cons.1 hk with rfl | hk
    · exact h.1
    · exact soundK_all h.2 k hk
theorem gt_of {l : List Dom.V} : ∀ {t : T}, sound t = true → (tyT l t).2 = 0 → GT l.length RN t := by
  intro t
  induction t using T.ind with
  | _ op n ks ih =>
    intro hs ht
    rw [sound, Bool.and_eq_true] at hs
    rw [tyT] at ht
    split at ht
    · rename_i hk
      have ihk : ∀ k ∈ ks, GT l.length RN k := fun k hm => ih k hm (soundK_all hs.2 k hm) (tyK_all hk k hm)
      have hb := hs.1
      unfold nodeB at hb
      rw [Bool.and_eq_true, decide_eq_true_eq] at hb
      obtain ⟨⟨hb1, hb2⟩, hb3⟩ := hb
      unfold kidsOf at hb1 hb2
      by_cases o1 : op = 1
      · subst o1
        simp at hb2 hb3; subst hb2
        exact .num n hb3
      by_cases o2 : op = 2
      · subst o2
        simp at hb2 hb3; subst hb2
        exact .boo n hb3
      by_cases o3 : op = 3
      · subst o3
        simp at hb2 hb3; subst hb2
        obtain ⟨k, rfl⟩ : ∃ k : Nat, n = k := ⟨n.toNat, by omega⟩
        refine .var k ?_
        simp [tyN] at ht
        split at ht
        · cases ht
        · omega
      by_cases o4 : op = 4
      · subst o4
        simp at hb2 hb3; subst hb2
        obtain ⟨k, rfl⟩ : ∃ k : Nat, n = k := ⟨n.toNat, by omega⟩
        refine .nxt k ?_
        simp [tyN] at ht
        split at ht
        · cases ht
        · omega
      have hn0 : n = 0 := by simpa [o1, o2, o3, o4] using hb3
      subst hn0
      by_cases o5 : op = 5
      · subst o5
        match ks, hb2, ihk with
        | [a], _, ihk => exact .neg a (ihk a (by simp))
        | [], h, _ => simp at h
        | _ :: _ :: _, h, _ => simp at h; omega
      by_cases o15 : op = 15
      · subst o15
        match ks, hb2, ihk with
        | [a, b, c], _, ihk => exact .ite a b c (ihk a (by simp)) (ihk b (by simp)) (ihk c (by simp))
        | [], h, _ => simp at h
        | [_], h, _ => simp at h
        | [_, _], h, _ => simp at h
        | _ :: _ :: _ :: _ :: _, h, _ => simp at h; omega
      · rw [if_neg (by omega), if_neg o5] at hb1 hb2
        by_cases hr : 6 ≤ op ∧ op ≤ 14
        · rw [if_pos hr] at hb2
          match ks, hb2, ihk with
          | [a, b], _, ihk => exact .bin op a b hr.1 hr.2 (ihk a (by simp)) (ihk b (by simp))
          | [], h, _ => simp at h
          | [_], h, _ => simp at h
          | _ :: _ :: _ :: _, h, _ => simp at h; omega
        · rw [if_neg hr, if_neg o15] at hb1; omega
    · rename_i hk; exact absurd ht hk
end Go.Proofs.YtjpphjmehgflpaaGreatDoor
namespace Go.Proofs.YtjpphjmehgflpaaGreatDoor
open Go.RowKit Ex
set_option linter.unusedSimpArgs false
set_option linter.unusedVariables false

def exT (l : List Dom.V) (t : T) : List UInt8 := txT Lib.itoa (nmL l) t
def sideT (env : Bool) : List UInt8 := if env then [101, 110, 118] else [115, 121, 115]
def setT (l : List Dom.V) (s : ST) : List UInt8 := (nmL l).getD s.var.toNat [] ++ ([32, 58, 61, 32] ++ (if s.any = true then [97, 110, 121] else exT l s.e))
def setsT (l : List Dom.V) (pre : List UInt8) : List ST → List UInt8
  | [] => []
  | s :: r => pre ++ (setT l s ++ setsT l [44, 32] r)
def cmdT (l : List Dom.V) (env : Bool) (c : CT) : List UInt8 := sideT env ++ ([32, 119, 104, 101, 110, 32] ++ (exT l c.guard ++ (setsT l [32, 100, 111, 32] c.sets ++ [59])))
def rangeT (v : Dom.V) : List UInt8 := if v.srt = 1 then [98, 111, 111, 108] else Lib.itoa v.lo ++ ([46, 46] ++ Lib.itoa v.hi)
def varT (v : Dom.V) : List UInt8 := sideT v.env ++ ([32] ++ (v.key ++ ([32, 58, 32] ++ (rangeT v ++ [59, 10]))))
def ruleT (word : List UInt8) (l : List Dom.V) (t : T) : List UInt8 := word ++ ([32] ++ (exT l t ++ [59, 10]))
def linesT {α : Type} (f : α → List UInt8) : List α → List UInt8
  | [] => []
  | x :: r => f x ++ linesT f r
def cmdLn (l : List Dom.V) (env : Bool) (c : CT) : List UInt8 := cmdT l env c ++ [10]
def wIE : List UInt8 := [105, 110, 105, 116, 32, 101, 110, 118]
def wIS : List UInt8 := [105, 110, 105, 116, 32, 115, 121, 115]
def wAs : List UInt8 := [97, 115, 115, 117, 109, 101]
def wEn : List UInt8 := [101, 110, 115, 117, 114, 101]
def wPr : List UInt8 := [112, 114, 105, 111]
def modT (m : MT) : List UInt8 := linesT varT m.vars ++ (ruleT wIE m.vars m.ie ++ (ruleT wIS m.vars m.is ++ (linesT (cmdLn m.vars true) m.env ++ (linesT (cmdLn m.vars false) m.sys ++ (linesT (ruleT wAs m.vars) m.asm ++ (linesT (ruleT wEn m.vars) m.ens ++ linesT (ruleT wPr m.vars) m.prio))))))

/- what may be is such as texts ask for -/
theorem sort_gt {l : List Dom.V} {t : T} (h : (sortE l t).2 = 0) : Dom.mayL l = 0 ∧ mayE t = 0 ∧ GT (nmL l).length RN t := by
  unfold sortE at h
  split at h
  · rename_i h1
    split at h
    · rename_i h2
      refine ⟨h1, h2, ?_⟩
      rw [nm_len]
      exact gt_of ((may_iff t).1 h2).2 h
    · rename_i h2; exact absurd h h2
  · rename_i h1; exact absurd h h1
theorem need_sort {l : List Dom.V} {t : T} {want : Int} {now env sys : Bool} (h : needE l t want now env sys = 0) : (sortE l t).2 = 0 := by
  unfold needE at h
  split at h
  · assumption
  · rename_i h1; exact absurd h h1
structure SetOk (l : List Dom.V) (s : ST) : Prop where
  lo : 0 ≤ s.var
  hi : s.var < l.length
  any : s.any = true → s.e = .mk 0 0 []
  gt : s.any = false → (sortE l s.e).2 = 0
theorem zero_is {t : T} (h : zeroE t = true) : t = .mk 0 0 [] := by
  cases t with
  | mk op n ks =>
    simp only [zeroE, T.op, T.n, T.kids, Bool.and_eq_true, beq_iff_eq] at h
    obtain ⟨⟨rfl, rfl⟩, h⟩ := h
    cases ks with
    | nil => rfl
    | cons _ _ => simp at h
theorem sets_ok {l : List Dom.V} {env : Bool} : ∀ {ss : List ST} {seen : List Int}, setGo l env seen ss = 0 → ∀ s ∈ ss, SetOk l s
  | [], _, _, s, hs => by cases hs
  | x :: r, seen, h, s, hs => by
    rw [setGo] at h
    split at h
    · cases h
    · rename_i h1
      split at h
      · rename_i h2
        split at h
        · rename_i h3
          rcases List.mem_cons.1 hs with rfl | hs
          · exact ⟨by omega, by omega, fun _ => zero_is h3, fun e => by rw [h2] at e; cases e⟩
          · exact sets_ok h s hs
        · cases h
      · rename_i h2
        split at h
        · rename_i h3
          rcases List.mem_cons.1 hs with rfl | hs
          · exact ⟨by omega, by omega, fun e => absurd e h2, fun _ => need_sort h3⟩
          · exact sets_ok h s hs
        · rename_i h3; exact absurd h h3
structure CmdOk (l : List Dom.V) (c : CT) : Prop where
  guard : (sortE l c.guard).2 = 0
  six : c.sets.length ≤ 6
  sets : ∀ s ∈ c.sets, SetOk l s
theorem cmd_ok {l : List Dom.V} {env : Bool} {c : CT} (h : cmdE l c env = 0) : CmdOk l c := by
  obtain ⟨_, h2, h3, h4⟩ := cmdE_parts h
  exact ⟨need_sort h2, h3, sets_ok h4⟩
theorem goals_ok {l : List Dom.V} : ∀ {ts : List T}, goalsE l ts = 0 → ∀ t ∈ ts, (sortE l t).2 = 0
  | [], _, t, ht => by cases ht
  | x :: r, h, t, ht => by
    rw [goalsE] at h
    split at h
    · rename_i h1
      rcases List.mem_cons.1 ht with rfl | ht
      · exact need_sort h1
      · exact goals_ok h t ht
    · rename_i h1; exact absurd h h1
structure ModOk (m : MT) : Prop where
  vars : Dom.mayL m.vars = 0
  ie : (sortE m.vars m.ie).2 = 0
  is : (sortE m.vars m.is).2 = 0
  env : ∀ c ∈ m.env, CmdOk m.vars c
  sys : ∀ c ∈ m.sys, CmdOk m.vars c
  asm : ∀ t ∈ m.asm, (sortE m.vars t).2 = 0
  ens : ∀ t ∈ m.ens, (sortE m.vars t).2 = 0
  prio : ∀ t ∈ m.prio, (sortE m.vars t).2 = 0
  sz : m.env.length ≤ 12 ∧ m.sys.length ≤ 12 ∧ m.asm.length ≤ 4 ∧ m.ens.length ≤ 4 ∧ m.prio.length ≤ 6
theorem mod_ok {m : MT} (h : modE m = 0) : ModOk m := by
  obtain ⟨h1, h2, h3, h4, h5, h6, h7, h8, h9, h10⟩ := (modE_iff m).1 h
  exact ⟨h1, need_sort h2, need_sort h3, fun c hc => cmd_ok ((cmdsE_iff _ _ _).1 h5 c hc), fun c hc => cmd_ok ((cmdsE_iff _ _ _).1 h6 c hc), goals_ok h8, goals_ok h9, goals_ok h10, sizesE_zero h4⟩

/- a text is split at the first byte of a kind -/
theorem split_at (p : UInt8 → Bool) : ∀ {u v s t : List UInt8} {c d : UInt8}, (∀ x ∈ u, p x = false) → (∀ x ∈ v, p x = false) → p c = true → p d = true → u ++ c :: s = v ++ d :: t → u = v ∧ c :: s = d :: t
  | [], [], s, t, c, d, _, _, _, _, h => ⟨rfl, by simpa using h⟩
  | [], y :: v, s, t, c, d, _, hv, hc, _, h => by
    rw [List.nil_append, List.cons_append] at h
    injection h with h1 h2
    subst h1; rw [hv c (by simp)] at hc; cases hc
  | x :: u, [], s, t, c, d, hu, _, _, hd, h => by
    rw [List.nil_append, List.cons_append] at h
    injection h with h1 h2
    subst h1; rw [hu x (by simp)] at hd; cases hd
  | x :: u, y :: v, s, t, c, d, hu, hv, hc, hd, h => by
    rw [List.cons_append, List.cons_append] at h
    injection h with h1 h2
    obtain ⟨h3, h4⟩ := split_at p (fun z hz => hu z (by simp [hz])) (fun z hz => hv z (by simp [hz])) hc hd h2
    exact ⟨by rw [h1, h3], h4⟩
theorem ex_pre {l : List Dom.V} {a b : T} {s t : List UInt8} (ha : (sortE l a).2 = 0) (hb : (sortE l b).2 = 0) (hs : Stop s) (ht : Stop t) (e : exT l a ++ s = exT l b ++ t) : a = b ∧ s = t :=
  text_pre (words_of (sort_gt ha).1) (sort_gt ha).2.2 (sort_gt hb).2.2 hs ht e
theorem stop59 (r : List UInt8) : Stop (59 :: r) := stop_cons (by decide)
theorem stop44 (r : List UInt8) : Stop (44 :: r) := stop_cons (by decide)
theorem rule_pre {w : List UInt8} {l : List Dom.V} {a b : T} {s t : List UInt8} (ha : (sortE l a).2 = 0) (hb : (sortE l b).2 = 0) (e : ruleT w l a ++ s = ruleT w l b ++ t) : a = b ∧ s = t := by
  unfold ruleT at e
  simp only [List.append_assoc, List.cons_append, List.nil_append] at e
  have e := List.append_cancel_left e
  injection e with _ e
  obtain ⟨h1, h2⟩ := ex_pre ha hb (stop59 _) (stop59 _) e
  injection h2 with _ h2
  injection h2 with _ h2
  exact ⟨h1, h2⟩
/- 'any' is no expression's text -/
theorem no_any {l : List Dom.V} {t : T} {s r : List UInt8} (h : (sortE l t).2 = 0) (hs : Stop s) (hr : Stop r) (e : exT l t ++ s = [97, 110, 121] ++ r) : False := by
  have hg := (sort_gt h).2.2
  have hw := words_of (sort_gt h).1
  have hN := (names_ok (sort_gt h).1).1
  have hM : ∀ x ∈ nmL l, NameOk x := fun x hx => by
    obtain ⟨v, hv, rfl⟩ := List.mem_map.1 hx
    exact (hN v hv).1
  rcases gt_leaf (dg := Lib.itoa) (nm := nmL l) hg with hl | ⟨q, hq⟩
  · obtain ⟨h1, _⟩ := leaf_run hw hg hl
    obtain ⟨h2, _⟩ := run_split h1 (show Run [97, 110, 121] by unfold Run; decide) hs hr e
    cases hg with
    | num n hn =>
      obtain ⟨c, r2, e1, h3⟩ := itoa_fst n
      have h2 : Lib.itoa n = [97, 110, 121] := h2
      rw [e1] at h2; injection h2 with h2 _; subst h2; revert h3; decide
    | boo n hn =>
      rcases hn with rfl | rfl
      · have h2 : ([102, 97, 108, 115, 101] : List UInt8) = [97, 110, 121] := h2
        revert h2; decide
      · have h2 : ([116, 114, 117, 101] : List UInt8) = [97, 110, 121] := h2
        revert h2; decide
    | var k hk => exact (hM _ (nm_at (nm := nmL l) hk)).any h2
    | nxt k hk =>
      have h2 : (nmL l).getD (k : Int).toNat [] ++ [39] = [97, 110, 121] := h2
      have : (39 : UInt8) ∈ ([97, 110, 121] : List UInt8) := by rw [← h2]; simp
      revert this; decide
    | neg a _ => rcases hl with h | h | h | h <;> cases h
    | bin op a b h1 h2 _ _ => rcases hl with h | h | h | h <;> (simp only [T.op] at h; omega)
    | ite a b c _ _ _ => rcases hl with h | h | h | h <;> cases h
  · have hq : exT l t = 40 :: q := hq
    rw [hq] at e; injection e with e _; revert e; decide
theorem set_pre {l : List Dom.V} {a b : ST} {s t : List UInt8} (hm : Dom.mayL l = 0) (ha : SetOk l a) (hb : SetOk l b) (hs : Stop s) (ht : Stop t) (e : setT l a ++ s = setT l b ++ t) : a = b ∧ s = t := by
  unfold setT at e
  simp only [List.append_assoc, List.cons_append, List.nil_append] at e
  have hN : ∀ x ∈ nmL l, NameOk x := fun x hx => by
    obtain ⟨v, hv, rfl⟩ := List.mem_map.1 hx
    exact ((names_ok hm).1 v hv).1
  obtain ⟨av, aa, ae⟩ := a
  obtain ⟨bv, ba, be⟩ := b
  obtain ⟨i, rfl⟩ : ∃ i : Nat, av = i := ⟨av.toNat, by have := ha.lo; simp at this; omega⟩
  obtain ⟨j, rfl⟩ : ∃ j : Nat, bv = j := ⟨bv.toNat, by have := hb.lo; simp at this; omega⟩
  have hi : i < (nmL l).length := by rw [nm_len]; have := ha.hi; simp at this; omega
  have hj : j < (nmL l).length := by rw [nm_len]; have := hb.hi; simp at this; omega
  obtain ⟨h1, h2⟩ := run_split (hN _ (nm_at hi)).run (hN _ (nm_at hj)).run (stop32 _) (stop32 _) e
  have hij := nm_inj (names_ok hm).2 hi hj h1
  subst hij
  injection h2 with _ h2
  injection h2 with _ h2
  injection h2 with _ h2
  injection h2 with _ h2
  cases aa <;> cases ba
  · obtain ⟨h3, h4⟩ := ex_pre (ha.gt rfl) (hb.gt rfl) hs ht (by simpa using h2)
    have h3 : ae = be := h3
    subst h3
    exact ⟨rfl, h4⟩
  · exact (no_any (ha.gt rfl) hs ht (by simpa using h2)).elim
  · exact (no_any (hb.gt rfl) ht hs (by simpa using h2.symm)).elim
  · have h3 : ae = .mk 0 0 [] := ha.any rfl
    have h4 : be = .mk 0 0 [] := hb.any rfl
    subst h3 h4
    simp at h2
    exact ⟨rfl, h2⟩
theorem sets_stop {l : List Dom.V} {c : UInt8} {p s : List UInt8} (hc : stopC c = true) : ∀ ss : List ST, Stop (setsT l (c :: p) ss ++ 59 :: s)
  | [] => stop59 _
  | x :: r => by rw [setsT]; exact stop_cons hc
theorem sets_pre {l : List Dom.V} (hm : Dom.mayL l = 0) : ∀ {a b : List ST} {c : UInt8} {p s t : List UInt8}, (c = 32 ∨ c = 44) → (∀ x ∈ a, SetOk l x) → (∀ x ∈ b, SetOk l x) → setsT l (c :: p) a ++ 59 :: s = setsT l (c :: p) b ++ 59 :: t → a = b ∧ s = t
  | [], [], c, p, s, t, _, _, _, e => by
    injection e with _ e
    exact ⟨rfl, e⟩
  | [], y :: b, c, p, s, t, hc, _, _, e => by
    rw [setsT, setsT] at e
    simp only [List.nil_append, List.cons_append] at e
    injection e with e _
    rcases hc with rfl | rfl <;> exact absurd e (by decide)
  | x :: a, [], c, p, s, t, hc, _, _, e => by
    rw [setsT, setsT] at e
    simp only [List.nil_append, List.cons_append] at e
    injection e with e _
    rcases hc with rfl | rfl <;> exact absurd e (by decide)
  | x :: a, y :: b, c, p, s, t, hc, ha, hb, e => by
    rw [setsT, setsT] at e
    simp only [List.append_assoc] at e
    have e := List.append_cancel_left e
    obtain ⟨h1, h2⟩ := set_pre hm (ha x (by simp)) (hb y (by simp)) (sets_stop (by decide) a) (sets_stop (by decide) b) e
    obtain ⟨h3, h4⟩ := sets_pre hm (.inr rfl) (fun z hz => ha z (by simp [hz])) (fun z hz => hb z (by simp [hz])) h2
    exact ⟨by rw [h1, h3], h4⟩
theorem cmd_pre {l : List Dom.V} {env : Bool} {a b : CT} {s t : List UInt8} (ha : CmdOk l a) (hb : CmdOk l b) (e : cmdLn l env a ++ s = cmdLn l env b ++ t) : a = b ∧ s = t := by
  unfold cmdLn cmdT at e
  simp only [List.append_assoc] at e
  have e := List.append_cancel_left (List.append_cancel_left e)
  simp only [List.cons_append, List.nil_append] at e
  obtain ⟨h1, h2⟩ := ex_pre ha.guard hb.guard (sets_stop (by decide) _) (sets_stop (by decide) _) e
  obtain ⟨h3, h4⟩ := sets_pre (sort_gt ha.guard).1 (.inl rfl) ha.sets hb.sets h2
  injection h4 with _ h4
  cases a; cases b
  simp only at h1 h3
  subst h1 h3
  exact ⟨rfl, h4⟩
theorem bytes_eq {a b : ByteArray} (h : a.data.toList = b.data.toList) : a = b := by
  cases a; cases b
  exact congrArg ByteArray.mk (Array.toList_inj.1 h)
/- a variable's line -/
structure VarOk (v : Dom.V) : Prop where
  nm : NameOk v.key
  may : v.may = 0
theorem may_srt {v : Dom.V} (h : v.may = 0) : (v.srt = 1 ∧ v.lo = 0 ∧ v.hi = 0) ∨ v.srt = 2 := by
  unfold Dom.V.may Dom.mayOfV at h
  split at h
  · rename_i h1
    split at h
    · rename_i h2; exact .inl ⟨h1, h2⟩
    · cases h
  · split at h
    · rename_i h2; exact .inr h2
    · cases h
theorem itoa_dot (n : Int) : ∀ x ∈ Lib.itoa n, (x == 46 || x == 59) = false := fun x hx => by
  have := itoa_mem n x hx
  cases e : (x == 46 || x == 59) with
  | false => rfl
  | true =>
    exfalso
    simp only [Bool.or_eq_true, beq_iff_eq] at e
    rcases e with e | e <;> subst e <;> revert this <;> decide
theorem var_pre {a b : Dom.V} {s t : List UInt8} (ha : VarOk a) (hb : VarOk b) (e : varT a ++ s = varT b ++ t) : a = b ∧ s = t := by
  unfold varT at e
  simp only [List.append_assoc] at e
  have he : a.env = b.env ∧ (32 : UInt8) :: (a.key ++ ([32, 58, 32] ++ (rangeT a ++ ([59, 10] ++ s)))) = 32 :: (b.key ++ ([32, 58, 32] ++ (rangeT b ++ ([59, 10] ++ t)))) := by
    cases h1 : a.env <;> cases h2 : b.env <;> rw [h1, h2] at e
    · exact ⟨rfl, List.append_cancel_left e⟩
    · injection e with e _; exact absurd e (by decide)
    · injection e with e _; exact absurd e (by decide)
    · exact ⟨rfl, List.append_cancel_left e⟩
  obtain ⟨h1, e⟩ := he
  injection e with _ e
  obtain ⟨h2, e⟩ := run_split ha.nm.run hb.nm.run (stop32 _) (stop32 _) e
  have e : rangeT a ++ ([59, 10] ++ s) = rangeT b ++ ([59, 10] ++ t) := by injection e with _ e; injection e with _ e; injection e
  have hn : a.nm = b.nm := bytes_eq h2
  have hd : ∀ (n : Int) (x y : List UInt8), [98, 111, 111, 108] ++ x = Lib.itoa n ++ y → False := fun n x y e => by
    obtain ⟨c, r, e1, h3⟩ := itoa_fst n
    rw [e1] at e; injection e with e _; subst e; revert h3; decide
  obtain ⟨an, aenv, asr, alo, ahi⟩ := a
  obtain ⟨bn, benv, bsr, blo, bhi⟩ := b
  simp only at h1 hn
  subst h1 hn
  rcases may_srt ha.may with ⟨s1, l1, g1⟩ | s1 <;> rcases may_srt hb.may with ⟨s2, l2, g2⟩ | s2 <;> simp only at s1 s2
  · simp only at l1 g1 l2 g2
    subst s1 l1 g1 s2 l2 g2
    exact ⟨rfl, List.append_cancel_left (List.append_cancel_left e)⟩
  · subst s1 s2
    simp only [rangeT, if_pos, show ¬ ((2 : Int) = 1) by decide, if_false, List.append_assoc] at e
    exact (hd _ _ _ e).elim
  · subst s1 s2
    simp only [rangeT, if_pos, show ¬ ((2 : Int) = 1) by decide, if_false, List.append_assoc] at e
    exact (hd _ _ _ e.symm).elim
  · subst s1 s2
    simp only [rangeT, show ¬ ((2 : Int) = 1) by decide, if_false, List.append_assoc] at e
    obtain ⟨h3, e⟩ := split_at (fun x => x == 46 || x == 59) (itoa_dot alo) (itoa_dot blo) (by decide) (by decide) e
    injection e with _ e
    injection e with _ e
    obtain ⟨h4, e⟩ := split_at (fun x => x == 46 || x == 59) (itoa_dot ahi) (itoa_dot bhi) (by decide) (by decide) e
    injection e with _ e
    injection e with _ e
    have q3 := itoa_inj h3
    have q4 := itoa_inj h4
    subst q3 q4
    exact ⟨rfl, by assumption⟩
/- lines of a kind -/
theorem lines_inj {α : Type} {f : α → List UInt8} {ok : α → Prop} {Tg : List UInt8 → Bool} (hpre : ∀ {x y : α} {s t : List UInt8}, ok x → ok y → f x ++ s = f y ++ t → x = y ∧ s = t) (htag : ∀ x s, Tg (f x ++ s) = true) :
    ∀ {a b : List α} {s t : List UInt8}, (∀ x ∈ a, ok x) → (∀ x ∈ b, ok x) → Tg s = false → Tg t = false → linesT f a ++ s = linesT f b ++ t → a = b ∧ s = t
  | [], [], s, t, _, _, _, _, e => ⟨rfl, e⟩
  | [], y :: b, s, t, _, _, hs, _, e => by
    rw [linesT, linesT, List.nil_append, List.append_assoc] at e
    rw [e, htag] at hs; cases hs
  | x :: a, [], s, t, _, _, _, ht, e => by
    rw [linesT, linesT, List.nil_append, List.append_assoc] at e
    rw [← e, htag] at ht; cases ht
  | x :: a, y :: b, s, t, ha, hb, hs, ht, e => by
    rw [linesT, linesT, List.append_assoc, List.append_assoc] at e
    obtain ⟨h1, h2⟩ := hpre (ha x (by simp)) (hb y (by simp)) e
    obtain ⟨h3, h4⟩ := lines_inj hpre htag (fun z hz => ha z (by simp [hz])) (fun z hz => hb z (by simp [hz])) hs ht h2
    exact ⟨by rw [h1, h3], h4⟩
theorem lines_tag {α : Type} {f : α → List UInt8} {Tg : List UInt8 → Bool} (htag : ∀ x s, Tg (f x ++ s) = false) {s : List UInt8} (hs : Tg s = false) : ∀ l : List α, Tg (linesT f l ++ s) = false
  | [] => hs
  | x :: r => by rw [linesT, List.append_assoc]; exact htag x _
def T3 (w s : List UInt8) : Bool := s.take 3 == w
def TV (s : List UInt8) : Bool := s.take 3 == [101, 110, 118] || s.take 3 == [115, 121, 115]
theorem var_tag (v : Dom.V) (s : List UInt8) : TV (varT v ++ s) = true := by
  unfold varT
  cases v.env <;> rfl
theorem mod_inj {a b : MT} (ha : ModOk a) (hb : ModOk b) (e : modT a = modT b) : a = b := by
  obtain ⟨al, aie, ais, aen, asy, aas, aes, apr⟩ := a
  obtain ⟨bl, bie, bis, ben, bsy, bas, bes, bpr⟩ := b
  unfold modT at e
  simp only at e
  have hv : ∀ {l : List Dom.V}, Dom.mayL l = 0 → ∀ v ∈ l, VarOk v := fun h v hv => ⟨((names_ok h).1 v hv).1, ((names_ok h).1 v hv).2⟩
  obtain ⟨h1, e⟩ := lines_inj (ok := VarOk) (Tg := TV) var_pre var_tag (hv ha.vars) (hv hb.vars) rfl rfl e
  subst h1
  obtain ⟨h2, e⟩ := rule_pre ha.ie hb.ie e
  obtain ⟨h3, e⟩ := rule_pre ha.is hb.is e
  obtain ⟨h4, e⟩ := lines_inj (ok := CmdOk al) (Tg := T3 [101, 110, 118]) cmd_pre (fun _ _ => rfl) ha.env hb.env (lines_tag (fun _ _ => rfl) (lines_tag (fun _ _ => rfl) (lines_tag (fun _ _ => rfl) (by rw [← List.append_nil (linesT _ _)]; exact lines_tag (fun _ _ => rfl) rfl _) _) _) _) (lines_tag (fun _ _ => rfl) (lines_tag (fun _ _ => rfl) (lines_tag (fun _ _ => rfl) (by rw [← List.append_nil (linesT _ _)]; exact lines_tag (fun _ _ => rfl) rfl _) _) _) _) e
  obtain ⟨h5, e⟩ := lines_inj (ok := CmdOk al) (Tg := T3 [115, 121, 115]) cmd_pre (fun _ _ => rfl) ha.sys hb.sys (lines_tag (fun _ _ => rfl) (lines_tag (fun _ _ => rfl) (by rw [← List.append_nil (linesT _ _)]; exact lines_tag (fun _ _ => rfl) rfl _) _) _) (lines_tag (fun _ _ => rfl) (lines_tag (fun _ _ => rfl) (by rw [← List.append_nil (linesT _ _)]; exact lines_tag (fun _ _ => rfl) rfl _) _) _) e
  obtain ⟨h6, e⟩ := lines_inj (ok := fun t => (sortE al t).2 = 0) (Tg := T3 [97, 115, 115]) rule_pre (fun _ _ => rfl) ha.asm hb.asm (lines_tag (fun _ _ => rfl) (by rw [← List.append_nil (linesT _ _)]; exact lines_tag (fun _ _ => rfl) rfl _) _) (lines_tag (fun _ _ => rfl) (by rw [← List.append_nil (linesT _ _)]; exact lines_tag (fun _ _ => rfl) rfl _) _) e
  obtain ⟨h7, e⟩ := lines_inj (ok := fun t => (sortE al t).2 = 0) (Tg := T3 [101, 110, 115]) rule_pre (fun _ _ => rfl) ha.ens hb.ens (by rw [← List.append_nil (linesT _ _)]; exact lines_tag (fun _ _ => rfl) rfl _) (by rw [← List.append_nil (linesT _ _)]; exact lines_tag (fun _ _ => rfl) rfl _) e
  rw [← List.append_nil (linesT _ apr), ← List.append_nil (linesT _ bpr)] at e
  obtain ⟨h8, _⟩ := lines_inj (ok := fun t => (sortE al t).2 = 0) (Tg := T3 [112, 114, 105]) rule_pre (fun _ _ => rfl) ha.prio hb.prio rfl rfl e
  simp only at h2 h3
  subst h2 h3 h4 h5 h6 h7 h8
  rfl
theorem mod_ne (m : MT) : modT m ≠ [] := by
  unfold modT ruleT wIE
  simp
theorem ex_ne {l : List Dom.V} {t : T} (h : (sortE l t).2 = 0) : exT l t ≠ [] := by
  intro e
  have hg := (sort_gt h).2.2
  rcases gt_leaf (dg := Lib.itoa) (nm := nmL l) hg with hl | ⟨q, hq⟩
  · obtain ⟨_, c, r, h2, _⟩ := leaf_run (words_of (sort_gt h).1) hg hl
    have h2 : exT l t = c :: r := h2
    rw [e] at h2; cases h2
  · have hq : exT l t = 40 :: q := hq
    rw [e] at hq; cases hq
/- the same, as Same says it -/
theorem varsS_imp : ∀ {a b : List Dom.V}, varsS a b = true → a = b
  | [], [], _ => rfl
  | [], _ :: _, h => by rw [varsS] at h; cases h
  | _ :: _, [], h => by rw [varsS] at h; cases h
  | x :: a, y :: b, h => by
    rw [varsS] at h
    simp only [Bool.and_eq_true, beq_iff_eq] at h
    obtain ⟨⟨⟨⟨⟨h1, h2⟩, h3⟩, h4⟩, h5⟩, h6⟩ := h
    obtain ⟨xn, xe, xs, xl, xh⟩ := x
    obtain ⟨yn, ye, ys, yl, yh⟩ := y
    simp only at h1 h2 h3 h4 h5
    have hn : xn = yn := by cases xn; cases yn; simp only at h1; subst h1; rfl
    subst hn h2 h3 h4 h5
    rw [varsS_imp h6]
theorem rowS_imp : ∀ {a b : List T}, rowS a b = true → a = b
  | [], [], _ => rfl
  | [], _ :: _, h => by rw [rowS] at h; cases h
  | _ :: _, [], h => by rw [rowS] at h; cases h
  | x :: a, y :: b, h => by
    rw [rowS, Bool.and_eq_true] at h
    rw [sameE_imp h.1, rowS_imp h.2]
theorem setsS_imp : ∀ {a b : List ST}, setsS a b = true → a = b
  | [], [], _ => rfl
  | [], _ :: _, h => by rw [setsS] at h; cases h
  | _ :: _, [], h => by rw [setsS] at h; cases h
  | x :: a, y :: b, h => by
    rw [setsS] at h
    simp only [Bool.and_eq_true, beq_iff_eq] at h
    obtain ⟨⟨⟨h1, h2⟩, h3⟩, h4⟩ := h
    obtain ⟨xv, xa, xe⟩ := x
    obtain ⟨yv, ya, ye⟩ := y
    simp only at h1 h2
    have q3 : xe = ye := sameE_imp h3
    subst h1 h2 q3
    rw [setsS_imp h4]
theorem cmdsS_imp : ∀ {a b : List CT}, cmdsS a b = true → a = b
  | [], [], _ => rfl
  | [], _ :: _, h => by rw [cmdsS] at h; cases h
  | _ :: _, [], h => by rw [cmdsS] at h; cases h
  | x :: a, y :: b, h => by
    rw [cmdsS, Bool.and_eq_true, Bool.and_eq_true] at h
    obtain ⟨xg, xs⟩ := x
    obtain ⟨yg, ys⟩ := y
    have h1 : xg = yg := sameE_imp h.1.1
    have h2 : xs = ys := setsS_imp h.1.2
    subst h1 h2
    rw [cmdsS_imp h.2]
theorem modS_imp {a b : MT} (h : modS a b = true) : a = b := by
  unfold modS at h
  simp only [Bool.and_eq_true] at h
  obtain ⟨⟨⟨⟨⟨⟨⟨h1, h2⟩, h3⟩, h4⟩, h5⟩, h6⟩, h7⟩, h8⟩ := h
  obtain ⟨al, aie, ais, aen, asy, aas, aes, apr⟩ := a
  obtain ⟨bl, bie, bis, ben, bsy, bas, bes, bpr⟩ := b
  have q1 : al = bl := varsS_imp h1
  have q2 : aie = bie := sameE_imp h2
  have q3 : ais = bis := sameE_imp h3
  have q4 : aen = ben := cmdsS_imp h4
  have q5 : asy = bsy := cmdsS_imp h5
  have q6 : aas = bas := rowS_imp h6
  have q7 : aes = bes := rowS_imp h7
  have q8 : apr = bpr := rowS_imp h8
  clear h1 h2 h3 h4 h5 h6 h7 h8
  subst q1 q2 q3 q4 q5 q6 q7 q8
  rfl
theorem mod_same {a b : MT} (ha : modE a = 0) (hb : modE b = 0) : (modT a == modT b) = modS a b := by
  cases h : modS a b with
  | true => rw [modS_imp h]; simp
  | false =>
    cases e : modT a == modT b with
    | false => rfl
    | true =>
      have := mod_inj (mod_ok ha) (mod_ok hb) (by simpa using e)
      subst this
      rw [modS_refl (mod_fit ha)] at h
      cases h
theorem ex_same {l : List Dom.V} {a b : T} (ha : (sortE l a).2 = 0) (hb : (sortE l b).2 = 0) : (exT l a == exT l b) = sameE a b := by
  cases h : sameE a b with
  | true => rw [sameE_imp h]; simp
  | false =>
    cases e : exT l a == exT l b with
    | false => rfl
    | true =>
      have := text_inj (words_of (sort_gt ha).1) (sort_gt ha).2.2 (sort_gt hb).2.2 (by simpa using e : exT l a = exT l b)
      subst this
      rw [sameE_refl (sort_gt ha).2.1] at h
      cases h
end Go.Proofs.YtjpphjmehgflpaaGreatDoor
