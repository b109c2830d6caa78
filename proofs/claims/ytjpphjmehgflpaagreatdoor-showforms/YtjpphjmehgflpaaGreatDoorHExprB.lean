/- A page's expr: every expression's text is put onto the page. -/
import Derived.Test.YtjpphjmehgflpaaGreatDoorHName
namespace Go.Proofs.YtjpphjmehgflpaaGreatDoor
open Go.RowKit Ex
set_option linter.unusedSimpArgs false
set_option linter.unusedVariables false
section
variable (B b : Nat) (s : SL) (bs : List UInt8) (w : World) (len cap : Nat)
def bytesOf (l : List UInt8) : ByteArray := ⟨l.toArray⟩

set_option maxHeartbeats 1000000 in
theorem expr_neg (g off : Nat) (o1 n1 : Int) (A1 : Option Addr) (l1 c1 : Nat) (X : List UInt8) (hgB : g < B) (hlen1 : 0 < len) (hc : CellE w g off o1 n1 A1 l1 c1) (hB : B ≤ w.heap.size) (hP : Pg B b s bs w)
    (hE : Ex35 B b s (.agg #[.int .i64 o1, .int .i64 n1, .slice A1 l1 c1]) X w) (hlen : bs.length + ([40, 110, 111, 116, 32] ++ (X ++ [41])).length ≤ 140737488355328) :
    Calls Tryz.prog 16 #[.pointer (some ⟨b, 0, none⟩), .agg #[.int .i64 5, .int .i64 0, .slice (some ⟨g, off, none⟩) len cap]] w (Wr B b s (bs ++ ([40, 110, 111, 116, 32] ++ (X ++ [41]))) w) := by
  have hlt := hP.lt
  have HP := hide hP; clear hP
  have HE := hide hE; clear hE
  have Hlen := hide hlen; clear hlen
  have Hk1 : Hid (KP B b w (w.alloc (.cells #[.int .i64 5, .int .i64 0, .slice (some ⟨g, off, none⟩) len cap] 25))) := hide ((KP.refl _ _ _).alloc hB _)
  obtain ⟨c0, c1', c2⟩ := hc.keep (w' := w.alloc (.cells #[.int .i64 5, .int .i64 0, .slice (some ⟨g, off, none⟩) len cap] 25)) (fun p hp => World.cell?_of_block (Lib.alloc_old _ _ _ (by omega)))
  have hl0 : (0 : Int) < (len : Int) := by omega
  go_enter Tryz.func16, Tryz.ntmps16
  go_wp2_with fail
  refine (around_of B b s bs X (bytesOf [40, 110, 111, 116, 32]) (bytesOf [41]) o1 n1 A1 l1 c1 _ (by simp; omega) (HP.out.alloc _) (HE.out.on Hk1.out.1) Hlen.out).mono ?_
  rintro e w3 ⟨rfl, hp3, hk3⟩
  have Hk3 : Hid (KP B b w w3) := hide (Hk1.out.trans hk3)
  have Hp3 := hide hp3; clear hp3 hk3
  go_wp2_with fail
  go_end0
  exact ⟨rfl, Hp3.out, Hk3.out⟩

set_option maxHeartbeats 1000000 in
theorem expr_ite (g off : Nat) (o1 n1 : Int) (A1 : Option Addr) (l1 c1 : Nat) (X : List UInt8) (o2 n2 : Int) (A2 : Option Addr) (l2 c2 : Nat) (Y : List UInt8) (o3 n3 : Int) (A3 : Option Addr) (l3 c3 : Nat) (Z : List UInt8) (hgB : g < B) (hlen1 : 2 < len)
    (hc : CellE w g off o1 n1 A1 l1 c1) (hd : CellE w g (off + 3) o2 n2 A2 l2 c2) (he : CellE w g (off + 6) o3 n3 A3 l3 c3) (hB : B ≤ w.heap.size) (hP : Pg B b s bs w)
    (hE : Ex35 B b s (.agg #[.int .i64 o1, .int .i64 n1, .slice A1 l1 c1]) X w) (hE2 : Ex35 B b s (.agg #[.int .i64 o2, .int .i64 n2, .slice A2 l2 c2]) Y w) (hE3 : Ex35 B b s (.agg #[.int .i64 o3, .int .i64 n3, .slice A3 l3 c3]) Z w)
    (hlen : bs.length + ([40, 105, 102, 32] ++ (X ++ [32, 116, 104, 101, 110, 32]) ++ Y ++ ([32, 101, 108, 115, 101, 32] ++ (Z ++ [41]))).length ≤ 140737488355328) :
    Calls Tryz.prog 16 #[.pointer (some ⟨b, 0, none⟩), .agg #[.int .i64 15, .int .i64 0, .slice (some ⟨g, off, none⟩) len cap]] w (Wr B b s (bs ++ ([40, 105, 102, 32] ++ (X ++ [32, 116, 104, 101, 110, 32]) ++ Y ++ ([32, 101, 108, 115, 101, 32] ++ (Z ++ [41])))) w) := by
  have hlt := hP.lt
  have HP := hide hP; clear hP
  have HE := hide hE; clear hE
  have HE2 := hide hE2; clear hE2
  have HE3 := hide hE3; clear hE3
  simp only [List.length_append] at hlen
  have Hlen := hide hlen; clear hlen
  have Hk1 : Hid (KP B b w (w.alloc (.cells #[.int .i64 15, .int .i64 0, .slice (some ⟨g, off, none⟩) len cap] 25))) := hide ((KP.refl _ _ _).alloc hB _)
  have Hblk : Hid ((w.alloc (.cells #[.int .i64 15, .int .i64 0, .slice (some ⟨g, off, none⟩) len cap] 25)).heap[w.heap.size]? = some (.cells #[.int .i64 15, .int .i64 0, .slice (some ⟨g, off, none⟩) len cap] 25 (0, 0))) := hide (heap_alloc_new _ _)
  have keep : ∀ {w' : World} {o : Nat} {op n : Int} {A : Option Addr} {l c : Nat}, KP B b w w' → CellE w g o op n A l c → CellE w' g o op n A l c := fun hk h => h.keep (fun p hp => hk.1.cell (by omega))
  have Hc := hide hc; have Hd := hide hd; have He := hide he
  clear hc hd he
  obtain ⟨c0, c1', c2'⟩ := keep Hk1.out Hc.out
  have hl0 : (0 : Int) < (len : Int) := by omega
  have hl1 : (1 : Int) < (len : Int) := by omega
  have hl2 : (2 : Int) < (len : Int) := by omega
  go_enter Tryz.func16, Tryz.ntmps16
  go_wp2_with fail
  refine (around_of B b s bs X (bytesOf [40, 105, 102, 32]) (bytesOf [32, 116, 104, 101, 110, 32]) o1 n1 A1 l1 c1 _ (by simp; omega) (HP.out.alloc _) (HE.out.on Hk1.out.1) (by simp only [List.length_append]; have := Hlen.out; simp [bytesOf] at this ⊢; omega)).mono ?_
  rintro e w2 ⟨rfl, hp2, hk2⟩
  have Hk2 : Hid (KP B b w w2) := hide (Hk1.out.trans hk2)
  have Hp2 := hide hp2
  have Hx2 := hide (hk2.at_ Hblk.out (by decide) (by omega))
  obtain ⟨x0, x1, x2⟩ := box_of Hx2.out
  clear hp2 hk2 c0 c1' c2'
  obtain ⟨c0, c1', c2'⟩ := keep Hk2.out Hd.out
  have hz2 := Hk2.out.size
  go_wp2_with fail
  refine (HE2.out _ _ Hk2.out.1 Hp2.out (by have := Hlen.out; simp [bytesOf] at this ⊢; omega)).mono ?_
  rintro e w3 ⟨rfl, hp3, hk3⟩
  have Hk3 : Hid (KP B b w w3) := hide (Hk2.out.trans hk3)
  have Hp3 := hide hp3
  have Hx3 := hide (hk3.at_ Hx2.out (by decide) (by omega))
  clear hp3 hk3 c0 c1' c2' x0 x1 x2
  obtain ⟨x0, x1, x2⟩ := box_of Hx3.out
  obtain ⟨c0, c1', c2'⟩ := keep Hk3.out He.out
  have hz3 := Hk3.out.size
  go_wp2_with fail
  refine (around_of B b s _ Z (bytesOf [32, 101, 108, 115, 101, 32]) (bytesOf [41]) o3 n3 A3 l3 c3 _ (by omega) Hp3.out (HE3.out.on Hk3.out.1) (by have := Hlen.out; simp [bytesOf] at this ⊢; omega)).mono ?_
  rintro e w4 ⟨rfl, hp4, hk4⟩
  have Hk4 : Hid (KP B b w w4) := hide (Hk3.out.trans hk4)
  have Hp4 := hide hp4; clear hp4 hk4
  go_wp2_with fail
  go_end0
  refine ⟨rfl, ?_, Hk4.out⟩
  have := Hp4.out
  simp only [bytesOf, List.append_assoc] at this ⊢
  exact this

set_option maxHeartbeats 1000000 in
theorem expr_bin (op : Int) (hop1 : 6 ≤ op) (hop2 : op ≤ 14) (g off : Nat) (o1 n1 : Int) (A1 : Option Addr) (l1 c1 : Nat) (X : List UInt8) (o2 n2 : Int) (A2 : Option Addr) (l2 c2 : Nat) (Y : List UInt8) (hgB : g < B) (hlen1 : 1 < len)
    (hc : CellE w g off o1 n1 A1 l1 c1) (hd : CellE w g (off + 3) o2 n2 A2 l2 c2) (hB : B ≤ w.heap.size) (hP : Pg B b s bs w)
    (hE : Ex35 B b s (.agg #[.int .i64 o1, .int .i64 n1, .slice A1 l1 c1]) X w) (hE2 : Ex35 B b s (.agg #[.int .i64 o2, .int .i64 n2, .slice A2 l2 c2]) Y w)
    (hlen : bs.length + ([40] ++ (X ++ [32]) ++ wordT op ++ ([32] ++ (Y ++ [41]))).length ≤ 140737488355328) :
    Calls Tryz.prog 16 #[.pointer (some ⟨b, 0, none⟩), .agg #[.int .i64 op, .int .i64 0, .slice (some ⟨g, off, none⟩) len cap]] w (Wr B b s (bs ++ ([40] ++ (X ++ [32]) ++ wordT op ++ ([32] ++ (Y ++ [41])))) w) := by
  have hlt := hP.lt
  have HP := hide hP; clear hP
  have HE := hide hE; clear hE
  have HE2 := hide hE2; clear hE2
  simp only [List.length_append] at hlen
  have Hlen := hide hlen; clear hlen
  have Hk1 : Hid (KP B b w (w.alloc (.cells #[.int .i64 op, .int .i64 0, .slice (some ⟨g, off, none⟩) len cap] 25))) := hide ((KP.refl _ _ _).alloc hB _)
  have Hblk : Hid ((w.alloc (.cells #[.int .i64 op, .int .i64 0, .slice (some ⟨g, off, none⟩) len cap] 25)).heap[w.heap.size]? = some (.cells #[.int .i64 op, .int .i64 0, .slice (some ⟨g, off, none⟩) len cap] 25 (0, 0))) := hide (heap_alloc_new _ _)
  have keep : ∀ {w' : World} {o : Nat} {op n : Int} {A : Option Addr} {l c : Nat}, KP B b w w' → CellE w g o op n A l c → CellE w' g o op n A l c := fun hk h => h.keep (fun p hp => hk.1.cell (by omega))
  have Hc := hide hc; have Hd := hide hd
  clear hc hd
  obtain ⟨c0, c1', c2'⟩ := keep Hk1.out Hc.out
  have hl0 : (0 : Int) < (len : Int) := by omega
  have hl1 : (1 : Int) < (len : Int) := by omega
  have b1 : (op == 1) = false := by simp; omega
  have b2 : (op == 2) = false := by simp; omega
  have b3 : (op == 3) = false := by simp; omega
  have b4 : (op == 4) = false := by simp; omega
  have b5 : (op == 5) = false := by simp; omega
  have b15 : (op == 15) = false := by simp; omega
  go_enter Tryz.func16, Tryz.ntmps16
  go_wp2_with fail
  refine (around_of B b s bs X (bytesOf [40]) (bytesOf [32]) o1 n1 A1 l1 c1 _ (by simp; omega) (HP.out.alloc _) (HE.out.on Hk1.out.1) (by have := Hlen.out; simp [bytesOf] at this ⊢; omega)).mono ?_
  rintro e w2 ⟨rfl, hp2, hk2⟩
  have Hk2 : Hid (KP B b w w2) := hide (Hk1.out.trans hk2)
  have Hp2 := hide hp2
  have Hx2 := hide (hk2.at_ Hblk.out (by decide) (by omega))
  obtain ⟨x0, x1, x2⟩ := box_of Hx2.out
  clear hp2 hk2 c0 c1' c2'
  have hz2 := Hk2.out.size
  go_wp2_with fail
  refine (sign_any op _ hop1 hop2).mono ?_
  rintro e w2b ⟨rfl, rfl⟩
  go_wp2_with fail
  refine (put_any B b w2.heap.size s _ [bytesOf (wordT op)] 1 _ rfl (by decide) (heap_alloc_new _ _) (by omega) (Hp2.out.alloc _) (by rw [cat1]; have := Hlen.out; simp [bytesOf] at this ⊢; omega) (by simp; omega)).mono ?_
  rintro e w3 ⟨rfl, hp3, hk3⟩
  rw [cat1] at hp3
  have Hk3 : Hid (KP B b w w3) := hide ((Hk2.out.alloc (by omega) _).trans hk3)
  have Hp3 := hide hp3
  have Hx3 := hide (hk3.at_ ((Lib.alloc_old _ _ _ (Array.getElem?_eq_some_iff.1 Hx2.out).1).trans Hx2.out) (by decide) (by omega))
  clear hp3 hk3 x0 x1 x2
  obtain ⟨x0, x1, x2⟩ := box_of Hx3.out
  obtain ⟨c0, c1', c2'⟩ := keep Hk3.out Hd.out
  have hz3 := Hk3.out.size
  go_wp2_with fail
  refine (around_of B b s _ Y (bytesOf [32]) (bytesOf [41]) o2 n2 A2 l2 c2 _ (by omega) Hp3.out (HE2.out.on Hk3.out.1) (by have := Hlen.out; simp [bytesOf] at this ⊢; omega)).mono ?_
  rintro e w4 ⟨rfl, hp4, hk4⟩
  have Hk4 : Hid (KP B b w w4) := hide (Hk3.out.trans hk4)
  have Hp4 := hide hp4; clear hp4 hk4
  go_wp2_with fail
  go_end0
  refine ⟨rfl, ?_, Hk4.out⟩
  have := Hp4.out
  simp only [bytesOf, List.append_assoc] at this ⊢
  exact this
end
theorem kid_at {w : World} {B d k : Nat} {op n : Int} {A : Option Addr} {len cap : Nat} {t u : T} (h : RE w B (d + 1) op n A len cap t) (hu : t.kids[k]? = some u) : ∃ g off o1 n1 A1 l1 c1, A = some ⟨g, off, none⟩ ∧ g < B ∧ k < len ∧ CellE w g (off + k * 3) o1 n1 A1 l1 c1 ∧ RE w B d o1 n1 A1 l1 c1 u := by
  have hk : k < len := by have := h.2.2.1; have := (List.getElem?_eq_some_iff.1 hu).1; omega
  obtain ⟨g, off, u2, o1, n1, A1, l1, c1, e, hg, hu2, hc, hr⟩ := h.at_ hk
  obtain rfl : u = u2 := Option.some.inj (hu.symm.trans hu2)
  exact ⟨g, off, o1, n1, A1, l1, c1, e, hg, hk, hc, hr⟩
theorem expr_any (B b : Nat) (s : SL) (l : List Dom.V) (w0 : World) (hB : B ≤ w0.heap.size) (hV : Dom.RV w0 B s.A s.n l) (hT : TB B w0) : ∀ (d : Nat) (op n : Int) (A : Option Addr) (len cap : Nat) (t : T), RE w0 B d op n A len cap t → GT (nmL l).length RN t →
    Ex35 B b s (.agg #[.int .i64 op, .int .i64 n, .slice A len cap]) (exT l t) w0
  | 0, _, _, _, _, _, _, h, _ => h.elim
  | d + 1, op, n, A, len, cap, t, h, hg => by
    intro bs w hb hP hlen
    have hBw : B ≤ w.heap.size := Nat.le_trans hB hb.size
    have keep : ∀ {g o : Nat} {op n : Int} {A : Option Addr} {l c : Nat}, g < B → CellE w0 g o op n A l c → CellE w g o op n A l c := fun hgB h => h.keep (fun p hp => hb.cell (by omega))
    have ho : t.op = op := h.1
    have hn : t.n = n := h.2.1
    cases hg with
    | num m hm =>
      simp only [T.op, T.n] at ho hn
      subst ho hn
      rw [ex_num] at hlen ⊢
      exact expr_num B b s bs w m A len cap hBw hP (hT.on hb) hm.1 hm.2 hlen
    | boo m hm =>
      simp only [T.op, T.n] at ho hn
      subst ho hn
      exact expr_boo B b s l bs w m A len cap hBw hP hm hlen
    | var k hk =>
      simp only [T.op, T.n] at ho hn
      subst ho hn
      have hks : k < s.n := by rw [nm_len] at hk; have := hV.1; omega
      obtain ⟨vb, off, u, hA, hvb, hu, hc⟩ := hV.at_ hks
      rw [ex_var hu] at hlen ⊢
      exact expr_var B b s bs w A len cap k u vb off hks hA hvb ((hb.cell (by exact hvb)).trans hc.1) hBw hP hlen
    | nxt k hk =>
      simp only [T.op, T.n] at ho hn
      subst ho hn
      have hks : k < s.n := by rw [nm_len] at hk; have := hV.1; omega
      obtain ⟨vb, off, u, hA, hvb, hu, hc⟩ := hV.at_ hks
      rw [ex_nxt hu] at hlen ⊢
      exact expr_nxt B b s bs w A len cap k u vb off hks hA hvb ((hb.cell (by exact hvb)).trans hc.1) hBw hP hlen
    | neg a ha =>
      simp only [T.op, T.n] at ho hn
      subst ho hn
      obtain ⟨g, off, o1, n1, A1, l1, c1, rfl, hgB, hk, hc, hr⟩ := kid_at (k := 0) (u := a) h rfl
      rw [ex_neg] at hlen ⊢
      exact expr_neg B b s bs w len cap g off o1 n1 A1 l1 c1 (exT l a) hgB hk (keep hgB (by simpa using hc)) hBw hP ((expr_any B b s l w0 hB hV hT d o1 n1 A1 l1 c1 a hr ha).on hb) hlen
    | bin op2 a a2 h1 h2 ha ha2 =>
      simp only [T.op, T.n] at ho hn
      subst ho hn
      obtain ⟨g, off, o1, n1, A1, l1, c1, rfl, hgB, hk, hc, hr⟩ := kid_at (k := 0) (u := a) h rfl
      obtain ⟨g', off', o2, n2, A2, l2, c2, e, _, hk2, hc2, hr2⟩ := kid_at (k := 1) (u := a2) h rfl
      injection e with e; injection e with e1 e2; subst e1 e2
      rw [ex_bin l op2 a a2 h1 h2] at hlen ⊢
      exact expr_bin B b s bs w len cap op2 h1 h2 g off o1 n1 A1 l1 c1 (exT l a) o2 n2 A2 l2 c2 (exT l a2) hgB hk2 (keep hgB (by simpa using hc)) (keep hgB (by simpa using hc2)) hBw hP ((expr_any B b s l w0 hB hV hT d o1 n1 A1 l1 c1 a hr ha).on hb) ((expr_any B b s l w0 hB hV hT d o2 n2 A2 l2 c2 a2 hr2 ha2).on hb) hlen
    | ite a a2 a3 ha ha2 ha3 =>
      simp only [T.op, T.n] at ho hn
      subst ho hn
      obtain ⟨g, off, o1, n1, A1, l1, c1, rfl, hgB, hk, hc, hr⟩ := kid_at (k := 0) (u := a) h rfl
      obtain ⟨g', off', o2, n2, A2, l2, c2, e, _, hk2, hc2, hr2⟩ := kid_at (k := 1) (u := a2) h rfl
      obtain ⟨g'', off'', o3, n3, A3, l3, c3, e3, _, hk3, hc3, hr3⟩ := kid_at (k := 2) (u := a3) h rfl
      injection e with e; injection e with e1 e2; subst e1 e2
      injection e3 with e3; injection e3 with e1 e2; subst e1 e2
      rw [ex_ite] at hlen ⊢
      exact expr_ite B b s bs w len cap g off o1 n1 A1 l1 c1 (exT l a) o2 n2 A2 l2 c2 (exT l a2) o3 n3 A3 l3 c3 (exT l a3) hgB hk3 (keep hgB (by simpa using hc)) (keep hgB (by simpa using hc2)) (keep hgB (by simpa using hc3)) hBw hP ((expr_any B b s l w0 hB hV hT d o1 n1 A1 l1 c1 a hr ha).on hb) ((expr_any B b s l w0 hB hV hT d o2 n2 A2 l2 c2 a2 hr2 ha2).on hb) ((expr_any B b s l w0 hB hV hT d o3 n3 A3 l3 c3 a3 hr3 ha3).on hb) hlen
end Go.Proofs.YtjpphjmehgflpaaGreatDoor
