import PyProof.Rows.All
import Wide.All
import OpenK.AllK
import Wide.FinOn
import HandS.ForMost
import HandS.Wide
import HandS.Style
import HandS.Walk
import HandS.Flow
import HandS.FStr
import KE.KCallOwn
import HandS.OwnEq
import HandS.SlotsOwn
import HandS.NamedTupSort
import HandS.Ends
import KE.KOpsOwn
import PyProof.EqKinds
import PyProof.MeetsIn
import HandS.IsInst
import HandS.Text
import HandS.Star
import HandS.Defaults
import HandS.Exc
import HandS.ExcInit
import HandS.ExcField
import HandS.ExcIs
import HandS.WordsExc
import HandS.TryOnly
import KE.KExcIs
import HandS.ExcCtx
import HandS.ExcInitHot
import HandS.SuiteRaise
import HandS.RaiseFrom
import Flt.Len
import HandS.Property
import HandS.Conv
import PySem.Challenge.RW_partnotes_k24_maps_made_and_refused
set_option Elab.async false
set_option maxRecDepth 100000
set_option maxHeartbeats 4000000
namespace Pn
open PySem L2
/-! the text by places -/
def top (i : Nat) : Stmt := PySem.Challenge.pw_partnotes_k24_maps_made_and_refused.main.body.getD i (.Pass ⟨0, 0, 0, 0⟩)
/-- a def of the top: where it stands, what binds its arguments -/
structure At (K : PySem.W.Frag) (mg : Str → Option Value) (x : Str) (st : Stmt) (ps : List Str) : Type where
  f : Addr
  fd : FuncData
  F : Fun K x x st f fd
  b : Binds K fd ps []
  m : mg x = some (.ref f)
/-- all but what stands at b is as it was -/
def Kp (b : Addr) (H H' : Hp) : Prop := ∀ a o, H a = some o → a ≠ b → H' a = some o
theorem Kp.refl (b : Addr) (H : Hp) : Kp b H H := fun _ _ h _ => h
theorem Kp.trans {b : Addr} {H H1 H2 : Hp} (h : Kp b H H1) (g : Kp b H1 H2) : Kp b H H2 := fun a o e n => g a o (h a o e n) n
theorem Kp.new {b p : Addr} {H H1 : Hp} {o : HO} (h : Kp b H H1) (hp : H1 p = none) : Kp b H (upd H1 p o) := fun a u e n => by
  have z := h a u e n
  rw [upd_ne (ne_of_none z hp)]
  exact z
theorem Kp.box {b : Addr} {H H1 : Hp} {o : HO} (h : Kp b H H1) : Kp b H (upd H1 b o) := fun a u e n => by
  rw [upd_ne n]
  exact h a u e n
theorem Kp.sql {K : PySem.W.Frag} {b a : Addr} {xs : List V} {H H1 : Hp} (h : Kp b H H1) (n : a ≠ b) (s : SqL K H a xs) : SqL K H1 a xs := by
  rcases s with (s | ⟨o, s⟩) | s
  · exact .inl (.inl (h _ _ s n))
  · exact .inl (.inr ⟨o, h _ _ s n⟩)
  · exact .inr s
theorem Kp.sqt {K : PySem.W.Frag} {b a : Addr} {xs : List V} {H H1 : Hp} (h : Kp b H H1) (n : a ≠ b) (s : SqT K H a xs) : SqT K H1 a xs := by
  rcases s with (s | ⟨o, s⟩) | s
  · exact .inl (.inl (h _ _ s n))
  · exact .inl (.inr ⟨o, h _ _ s n⟩)
  · exact .inr s
theorem Kp.same {b : Addr} {H H1 : Hp} (h : Same H H1) : Kp b H H1 := fun a o e _ => h a o e
/-- the heap but for what stands at b -/
def hid (H : Hp) (b : Addr) : Hp := fun a => if a = b then none else H a
theorem hid_sub {H : Hp} {b : Addr} : Same (hid H b) H := fun a o e => by
  unfold hid at e
  by_cases h : a = b
  · rw [if_pos h] at e
    cases e
  · rw [if_neg h] at e
    exact e
theorem hid_kp {b : Addr} {H H1 : Hp} (h : Kp b H H1) : Same (hid H b) (hid H1 b) := fun a o e => by
  unfold hid at e ⊢
  by_cases n : a = b
  · rw [if_pos n] at e
    cases e
  · rw [if_neg n] at e ⊢
    exact h a o e n
theorem hid_get {b a : Addr} {H : Hp} {o : HO} (h : H a = some o) (n : a ≠ b) : hid H b a = some o := by
  unfold hid
  rw [if_neg n]
  exact h
theorem Same.sqt {K : PySem.W.Frag} {H H' : Hp} {a : Addr} {xs : List V} (e : Same H H') (h : SqT K H a xs) : SqT K H' a xs := by
  rcases h with (h | ⟨o, h⟩) | h
  · exact .inl (.inl (e _ _ h))
  · exact .inl (.inr ⟨o, e _ _ h⟩)
  · exact .inr h
theorem Same.new {H : Hp} {p : Addr} {o : HO} (h : H p = none) : Same H (upd H p o) := fun a u e => by
  rw [upd_ne (ne_of_none e h)]
  exact e
/-- what is new in H' -/
def dif (H H' : Hp) : Hp := fun a => match H a with
  | none => H' a
  | some _ => none
theorem dif_eq {H H' : Hp} {a : Addr} {o : HO} : dif H H' a = some o ↔ H a = none ∧ H' a = some o := by
  unfold dif
  cases h : H a with
  | none => exact ⟨fun e => ⟨rfl, e⟩, fun e => e.2⟩
  | some u => exact ⟨fun e => (nomatch (show (none : Option HO) = some o from e)), fun e => by cases e.1⟩
theorem dif_sub {H H' : Hp} : Same (dif H H') H' := fun _ _ e => (dif_eq.mp e).2
theorem dif_new {H H' : Hp} {a : Addr} {o : HO} (h : H a = none) (h' : H' a = some o) : dif H H' a = some o := dif_eq.mpr ⟨h, h'⟩
/-- what is tracked stays tracked -/
def Mo (H H' : Hp) : Prop := ∀ a, H' a = none → H a = none
theorem Mo.refl (H : Hp) : Mo H H := fun _ h => h
theorem Mo.trans {H H1 H2 : Hp} (h : Mo H H1) (g : Mo H1 H2) : Mo H H2 := fun a e => h a (g a e)
theorem Mo.upd {H : Hp} {p : Addr} {o : HO} : Mo H (upd H p o) := fun a e => by
  by_cases h : a = p
  · subst h
    rw [upd_same] at e
    cases e
  · rw [upd_ne h] at e
    exact e
theorem Kp.mo {b : Addr} {H H' : Hp} {o : HO} (h : Kp b H H') (hb : H' b = some o) : Mo H H' := fun a e => by
  cases q : H a with
  | none => rfl
  | some u =>
    have n : a ≠ b := fun z => by rw [z, hb] at e; cases e
    rw [h a u q n] at e
    cases e
/-- what was new stays: all of H1 but b, which stood in H -/
theorem dif_kp {b : Addr} {H H1 H2 : Hp} {o : HO} (hb : H b = some o) (k : Kp b H1 H2) : Same (dif H H1) (dif H H2) := fun a u e => by
  obtain ⟨e1, e2⟩ := dif_eq.mp e
  exact dif_new e1 (k a u e2 (fun z => by rw [z, hb] at e1; cases e1))
theorem dif_mo {H0 H H1 : Hp} (m : Mo H0 H) : Same (dif H H1) (dif H0 H1) := fun a u e => by
  obtain ⟨e1, e2⟩ := dif_eq.mp e
  exact dif_new (m a e1) e2
mutual
theorem dp_same {K : PySem.W.Frag} {H H' : Hp} (e : Same H H') : ∀ (d : PyData) (v : V), Dp K H v d → Dp K H' v d
  | .none, _, h => by cases h; exact .non
  | .bool _, _, h => by cases h; exact .bl _
  | .int _, _, h => by cases h; exact .int _
  | .str _, _, h => by cases h; exact .str _
  | .list ds, _, h => by
    cases h with
    | lst s a => exact .lst (e.seq s) (dpAll_same e ds _ a)
  | .tuple ds, _, h => by
    cases h with
    | tup s a => exact .tup (Same.sqt e s) (dpAll_same e ds _ a)
  | .dict _, _, h => by cases h
theorem dpAll_same {K : PySem.W.Frag} {H H' : Hp} (e : Same H H') : ∀ (ds : List PyData) (vs : List V), DpAll K H vs ds → DpAll K H' vs ds
  | [], _, h => by cases h; exact .nil
  | d :: ds, _, h => by
    cases h with
    | cons a b => exact .cons (dp_same e d _ a) (dpAll_same e ds _ b)
end
theorem dpAll_append {K : PySem.W.Frag} {H : Hp} : ∀ {vs : List V} {ds : List PyData} {ws : List V} {es : List PyData}, DpAll K H vs ds → DpAll K H ws es → DpAll K H (vs ++ ws) (ds ++ es)
  | _, _, _, _, .nil, g => g
  | _, _, _, _, .cons a b, g => .cons a (dpAll_append b g)
end Pn

namespace Pn
open PySem L2
/-! ### one statement, with what it comes to -/
theorem joinOn {t : TE} {σ : L2.St} {H : Hp} {Q : VK} (C : V → Hp → Prop) (h1 : ∀ Q' : VK, (∀ v H', C v H' → Q' v H') → t σ H Q') (h2 : ∀ v H', C v H' → Q v H') : t σ H Q := h1 Q h2
/-- x = e, where what e comes to is said by C -/
theorem stepSet {te : TE} {i : Nat} {B : TS} {D : Ends} {σ : L2.St} {H : Hp} (C : V → Hp → Prop) (h1 : ∀ Q' : VK, (∀ v H', C v H' → Q' v H') → te σ H Q') (h2 : ∀ v H', C v H' → B D (σ.set i (some v)) H') : tSeq (tAsg te (gName i)) B D σ H := h1 _ h2
theorem stepDrop {te : TE} {B : TS} {D : Ends} {σ : L2.St} {H : Hp} (C : Hp → Prop) (h1 : ∀ Q' : VK, (∀ v H', C H' → Q' v H') → te σ H Q') (h2 : ∀ H', C H' → B D σ H') : tSeq (tDrop te) B D σ H := h1 (fun _ H1 => B D σ H1) fun _ H' c => h2 H' c
theorem stepIfF {tt : TT} {A C : TS} {D : Ends} {σ : L2.St} {H : Hp} (h1 : ∀ Q : Bool → Hp → Prop, Q false H → tt σ H Q) (h2 : C D σ H) : tSeq (tIfS tt A tNext) C D σ H := h1 _ (by rw [if_neg Bool.false_ne_true]; exact h2)
theorem stepNo {tt : TT} {A C : TS} {D : Ends} {σ : L2.St} {H : Hp} (G : Hp → Prop) (h1 : ∀ Q : Bool → Hp → Prop, (∀ H', G H' → Q false H') → tt σ H Q) (h2 : ∀ H', G H' → C D σ H') : tSeq (tIfS tt A tNext) C D σ H := h1 _ fun H' g => by
  rw [if_neg Bool.false_ne_true]
  exact h2 H' g
theorem stepYes {tt : TT} {A B C : TS} {D : Ends} {σ : L2.St} {H : Hp} (G : Hp → Prop) (h1 : ∀ Q : Bool → Hp → Prop, (∀ H', G H' → Q true H') → tt σ H Q) (h2 : ∀ H', G H' → A { D with nx := C D } σ H') : tSeq (tIfS tt A B) C D σ H := h1 _ fun H' g => by
  rw [if_pos rfl]
  exact h2 H' g
theorem Same.mo {H H' : Hp} (s : Same H H') : Mo H H' := fun _ e => s.free e
end Pn

namespace Pn
open PySem L2
theorem iteTB {c : Bool} {A B : Prop} (hc : c = true) (h : A) : if c = true then A else B := by
  rw [if_pos hc]
  exact h
theorem iteFB {c : Bool} {A B : Prop} (hc : c = false) (h : B) : if c = true then A else B := by
  rw [hc, if_neg Bool.false_ne_true]
  exact h
theorem kF {A B : Hp → Prop} {H : Hp} (h : B H) : (fun (b : Bool) H1 => if b = true then A H1 else B H1) false H := by
  show if false = true then A H else B H
  rw [if_neg Bool.false_ne_true]
  exact h
abbrev sDeal : Stmt := top 19
abbrev sDraw : Stmt := top 20
abbrev sPick : Stmt := top 21
/-! ### draws out of a deal: a list of a list of great numbers and a number -/
/-- the heap but for a deal -/
def hh (H : Hp) (d g : Addr) : Hp := hid (hid H d) g
def DealAt (H : Hp) (d g : Addr) : Prop := d ≠ g ∧ ∃ (xs : List Int) (m : Int), H d = some (.lst [.ref g, .int m]) ∧ H g = some (.lst (xs.map V.int)) ∧ (∀ x ∈ xs, 0 ≤ x) ∧ 0 ≤ m ∧ m < 2147483647 ∧ xs.length ≤ 63
theorem hh_ne {H : Hp} {d g a : Addr} {o : HO} (h : hh H d g a = some o) : a ≠ d ∧ a ≠ g ∧ H a = some o := by
  unfold hh hid at h
  by_cases h1 : a = g
  · rw [if_pos h1] at h; cases h
  · rw [if_neg h1] at h
    by_cases h2 : a = d
    · rw [if_pos h2] at h; cases h
    · rw [if_neg h2] at h; exact ⟨h2, h1, h⟩
theorem hh_get {H : Hp} {d g a : Addr} {o : HO} (h : H a = some o) (n1 : a ≠ d) (n2 : a ≠ g) : hh H d g a = some o := hid_get (hid_get h n1) n2
theorem hh_sub {H : Hp} {d g : Addr} : Same (hh H d g) H := fun _ _ e => (hh_ne e).2.2
theorem hh_same {H H' : Hp} {d g : Addr} (s : Same H H') : Same (hh H d g) (hh H' d g) := fun _ _ e => by
  obtain ⟨n1, n2, e⟩ := hh_ne e
  exact hh_get (s _ _ e) n1 n2
theorem hh_d {H : Hp} {d g : Addr} {o : HO} : Same (hh H d g) (hh (upd H d o) d g) := fun _ _ e => by
  obtain ⟨n1, n2, e⟩ := hh_ne e
  exact hh_get (by rw [upd_ne n1]; exact e) n1 n2
theorem hh_g {H : Hp} {d g : Addr} {o : HO} : Same (hh H d g) (hh (upd H g o) d g) := fun _ _ e => by
  obtain ⟨n1, n2, e⟩ := hh_ne e
  exact hh_get (by rw [upd_ne n2]; exact e) n1 n2
theorem DealAt.there {H : Hp} {d g : Addr} (h : DealAt H d g) : H d ≠ none ∧ H g ≠ none := by
  obtain ⟨_, xs, m, e1, e2, _⟩ := h
  refine ⟨fun z => ?_, fun z => ?_⟩
  · rw [e1] at z; cases z
  · rw [e2] at z; cases z
theorem DealAt.new {H : Hp} {d g p : Addr} {o : HO} (h : DealAt H d g) (hp : H p = none) : DealAt (upd H p o) d g := by
  obtain ⟨n, xs, m, e1, e2, r⟩ := h
  exact ⟨n, xs, m, by rw [upd_ne (ne_of_none e1 hp)]; exact e1, by rw [upd_ne (ne_of_none e2 hp)]; exact e2, r⟩
theorem DealAt.same {H H' : Hp} {d g : Addr} (h : DealAt H d g) (s : Same H H') : DealAt H' d g := by
  obtain ⟨n, xs, m, e1, e2, r⟩ := h
  exact ⟨n, xs, m, s _ _ e1, s _ _ e2, r⟩
theorem DealAt.upd {H : Hp} {d g p : Addr} {o : HO} (h : DealAt H d g) (n1 : p ≠ d) (n2 : p ≠ g) : DealAt (upd H p o) d g := by
  obtain ⟨n, xs, m, e1, e2, r⟩ := h
  exact ⟨n, xs, m, by rw [upd_ne n1.symm]; exact e1, by rw [upd_ne n2.symm]; exact e2, r⟩
/-- what is new beside a deal -/
theorem DealAt.nd {H : Hp} {d g p : Addr} (h : DealAt H d g) (hp : H p = none) : p ≠ d ∧ p ≠ g := ⟨fun z => h.there.1 (z ▸ hp), fun z => h.there.2 (z ▸ hp)⟩
theorem hh_new {H : Hp} {d g p : Addr} {o : HO} (hp : H p = none) : Same (hh H d g) (hh (upd H p o) d g) := hh_same (Same.new hp)
theorem hh_at {H : Hp} {d g p : Addr} {o : HO} (h : DealAt H d g) (hp : H p = none) : hh (upd H p o) d g p = some o := hh_get upd_same (h.nd hp).1 (h.nd hp).2
theorem ints_at {xs : List Int} {i : Nat} {x : Int} (h : xs[i]? = some x) : (xs.map V.int)[i]? = some (.int x) := by rw [List.getElem?_map, h]; rfl
section
variable {P : Program} {w : World} {K : PySem.W.Frag} {mg : Str → Option Value} {base : Heap}
def spDraw : Sp := fun vs H Q _ => ∃ (d g : Addr) (m : Int), vs = [.ref d, .int m] ∧ DealAt H d g ∧ 0 < m ∧ m < 2147483648 ∧ ∀ (r : Int) (H' : Hp), 0 ≤ r → r < m → DealAt H' d g → Same (hh H d g) (hh H' d g) → Mo H H' → Q (.int r) H'
theorem scDraw : FnScope ["_law_deal_here", "_law_many", "_law_left"] ["_law_deal_here", "_law_many"] (defScope sDraw) := ⟨rfl, rfl, rfl, by decide +kernel, rfl, by decide +kernel, by decide +kernel⟩
theorem dp_intsL (K : PySem.W.Frag) (H : Hp) : ∀ xs : List Int, DpAll K H (xs.map V.int) (xs.map PyData.int)
  | [] => .nil
  | _ :: r => .cons (.int _) (dp_intsL K H r)
theorem intsL_sh (xs : List Int) : SeqAt.shaped (.list (xs.map PyData.int)) = true := by
  have a : ∀ l : List Int, PyData.canLayAll0 (l.map PyData.int) = true ∧ PyData.depthAll (l.map PyData.int) = 0 := by
    intro l
    induction l with
    | nil => exact ⟨by simp only [List.map_nil, PyData.canLayAll0], by simp only [List.map_nil, PyData.depthAll]⟩
    | cons x l ih => exact ⟨by simp only [List.map_cons, PyData.canLayAll0, PyData.canLay0, ih.1, Bool.and_self], by simp only [List.map_cons, PyData.depthAll, PyData.depth, ih.2, Nat.max_self]⟩
  unfold SeqAt.shaped
  simp only [PyData.canLay0, PyData.depth, (a xs).1, (a xs).2, Bool.true_and]
  decide
theorem intsL_nil (xs : List Int) : PyData.eqv (.list (xs.map PyData.int)) (.list []) = xs.isEmpty := by
  cases xs with
  | nil => decide +kernel
  | cons x l => simp [PyData.eqv, PyData.eqvAll]
/-- a deal and what it holds, beside what stood ahead -/
structure DL (H0 H : Hp) (d g : Addr) (xs : List Int) (mm : Int) : Prop where
  ne : d ≠ g
  hd : H d = some (.lst [.ref g, .int mm])
  hg : H g = some (.lst (xs.map V.int))
  pos : ∀ x ∈ xs, 0 ≤ x
  lo : 0 ≤ mm
  hi : mm < 2147483647
  len : xs.length ≤ 63
  s : Same (hh H0 d g) (hh H d g)
  m : Mo H0 H
theorem DL.new {H0 H : Hp} {d g p : Addr} {xs : List Int} {mm : Int} {o : HO} (D : DL H0 H d g xs mm) (hp : H p = none) : DL H0 (upd H p o) d g xs mm :=
  ⟨D.ne, by rw [upd_ne (ne_of_none D.hd hp)]; exact D.hd, by rw [upd_ne (ne_of_none D.hg hp)]; exact D.hg, D.pos, D.lo, D.hi, D.len, D.s.trans (hh_new hp), D.m.trans Mo.upd⟩
theorem DL.setG {H0 H : Hp} {d g : Addr} {xs ys : List Int} {mm : Int} (D : DL H0 H d g xs mm) (hp : ∀ y ∈ ys, 0 ≤ y) (hl : ys.length ≤ 63) : DL H0 (upd H g (.lst (ys.map V.int))) d g ys mm :=
  ⟨D.ne, by rw [upd_ne D.ne]; exact D.hd, upd_same, hp, D.lo, D.hi, hl, D.s.trans hh_g, D.m.trans Mo.upd⟩
theorem DL.setD {H0 H : Hp} {d g : Addr} {xs : List Int} {mm m2 : Int} (D : DL H0 H d g xs mm) (l : 0 ≤ m2) (h : m2 < 2147483647) : DL H0 (upd H d (.lst [.ref g, .int m2])) d g xs m2 :=
  ⟨D.ne, upd_same, by rw [upd_ne D.ne.symm]; exact D.hg, D.pos, l, h, D.len, D.s.trans hh_d, D.m.trans Mo.upd⟩
theorem DL.at {H0 H : Hp} {d g : Addr} {xs : List Int} {mm : Int} (D : DL H0 H d g xs mm) : DealAt H d g := ⟨D.ne, xs, mm, D.hd, D.hg, D.pos, D.lo, D.hi, D.len⟩
theorem ok_draw {f : Addr} {fd : FuncData} (F : Fun K "_law_draw" "_law_draw" sDraw f fd) (mI : mg "int" = none) : FnOk P w K mg base CX0 1 f fd ["_law_deal_here", "_law_many"] spDraw := by
  refine F.ok scDraw (fun vs H Q E h => ?_) (fun cdv A outer s H vs Q E hr h => ?_)
  · obtain ⟨d, g, m, rfl, _⟩ := h
    rfl
  · obtain ⟨d, g, m, rfl, hD, h0, h1, k⟩ := h
    refine ⟨_, pss_cons (ps_while PassesOwn.never (PW.pt (pw_and (pt_cmpR (op_neD hr.units) (pe_ix ix_list (pv 0) pe_int (fun _ _ => rfl)) (pe_lst pa_nil) (nomark _)) (pw_and1 (pt_cmpR op_eq (pe_ix ix_list (pe_ix ix_list (pv 0) pe_int (fun _ _ => rfl)) (pe_un un_neg pe_int) (fun _ _ => rfl)) pe_int (nomark _)))))
        (pss_one (ps_expr (pe_bm0 PySem.F.plainAttrs_list PySem.F.slot_list_pop PySem.F.type_list_pop mt_pop (pe_ix ix_list (pv 0) pe_int (fun _ _ => rfl))))))
      (pss_cons (ps_if (pt_cmpR (op_neD hr.units) (pe_ix ix_list (pv 0) pe_int (fun _ _ => rfl)) (pe_lst pa_nil) (nomark _))
        (pss_cons (ps_set (i := 2) scDraw.nd rfl (Or.inl rfl) (pe_bm0 PySem.F.plainAttrs_list PySem.F.slot_list_pop PySem.F.type_list_pop mt_pop (pe_ix ix_list (pv 0) pe_int (fun _ _ => rfl))))
        (pss_cons (ps_expr (pe_bm PySem.F.plainAttrs_list PySem.F.slot_list_append PySem.F.type_list_append mt_append (pe_ix ix_list (pv 0) pe_int (fun _ _ => rfl)) (pa_cons (pe_op op_fdivW (pv 2) (pv 1)) pa_nil)))
        (pss_one (ps_ret (pe_op op_mod (pe_callTy call_int1 (by rfl) mI (by decide +kernel) (pa_cons (pv 2) pa_nil)) (pv 1)))))) pss_nil)
      (pss_cons (ps_asg (pe_op op_mod (pe_callTy call_int1 (by rfl) mI (by decide +kernel) (pa_cons (pe_op op_add (pe_op op_mul (pe_ix ix_list (pv 0) pe_int (fun _ _ => rfl)) pe_int) pe_int) pa_nil)) pe_int) (pg_sub (pv 0) pe_int set_list))
      (pss_one (ps_ret (pe_op op_mod (pe_callTy call_int1 (by rfl) mI (by decide +kernel) (pa_cons (pe_op op_fdiv (pe_ix ix_list (pv 0) pe_int (fun _ _ => rfl)) pe_int) pa_nil)) (pv 1)))))), ?_⟩
    obtain ⟨ne, xs0, mm0, e1, e2, e3, e4, e5, e6⟩ := hD
    have rev2 : ∀ (l : List Int) (x : Int), ((l ++ [x]).map V.int).dropLast = l.map V.int := fun l x => by rw [List.map_append]; exact List.dropLast_concat
    have lst2 : ∀ (l : List Int) (x : Int), ((l ++ [x]).map V.int)[((l ++ [x]).map V.int).length - 1]? = some (.int x) := fun l x => by
      rw [List.map_append, List.length_append]
      show (l.map V.int ++ [V.int x])[(l.map V.int).length + 1 - 1]? = _
      rw [Nat.add_sub_cancel, List.getElem?_append_right (Nat.le_refl _), Nat.sub_self]
      rfl
    refine ⟨fun n σ Hc => ∃ (x2 : Option V) (xs : List Int), σ = [some (.ref d), some (.int m), x2] ∧ xs.length = n ∧ DL H Hc d g xs mm0, ⟨_, none, xs0, rfl, rfl, ne, e1, e2, e3, e4, e5, e6, Same.refl _, Mo.refl _⟩, fun n σ Hc hP => ?_⟩
    obtain ⟨x2, xs, rfl, hn, D⟩ := hP
    refine ⟨_, rfl, d, _, _, _, rfl, rfl, SqL.of D.hd, rfl, (by show 0 ≤ sizeLine; decide), fun p hp => ?_⟩
    have D1 := D.new (o := .lst []) hp
    refine ⟨.list (xs.map PyData.int), .list [], .lst (SqL.of D1.hg) (dp_intsL _ _ xs), .lst (SqL.of upd_same) .nil, intsL_sh xs, by decide +kernel, _, rfl, ?_⟩
    rw [intsL_nil]
    generalize upd Hc p (.lst []) = Hp1 at D1 ⊢
    have hx : ∀ (l : List Int) (x : Int), atI ((l ++ [x]).map V.int) (-1) = some (.int x) := fun l x => by rw [List.map_append]; exact atI_last _ _
    rcases List.eq_nil_or_concat xs with hxs | ⟨l, x, hxs⟩
    · subst hxs
      refine iteFB rfl ?_
      refine iteF ?_
      refine ⟨_, rfl, d, _, _, _, rfl, rfl, SqL.of D1.hd, rfl, (by show 0 ≤ sizeLine; decide), fun p2 hp2 => ?_⟩
      have D2 := D1.new (o := .lst []) hp2
      refine ⟨.list (([] : List Int).map PyData.int), .list [], .lst (SqL.of D2.hg) (dp_intsL _ _ []), .lst (SqL.of upd_same) .nil, intsL_sh [], by decide +kernel, _, rfl, ?_⟩
      rw [intsL_nil]
      generalize upd Hp1 p2 (.lst []) = Hp2 at D2 ⊢
      refine iteFB rfl ?_
      have a1 := D2.lo
      have a2 := D2.hi
      refine ⟨_, rfl, _, _, _, _, rfl, rfl, SqL.of D2.hd, rfl, _, _, rfl, rfl, .inl ⟨by omega, by omega⟩, _, _, rfl, rfl, .inl ⟨_, rfl, _, _, rfl, rfl, (by show (0 : Int) < 2147483647; decide), ?_⟩⟩
      refine ⟨_, rfl, _, _, _, _, rfl, rfl, D2.hd, rfl, ?_⟩
      have D3 := D2.setD (m2 := (mm0 * 48271 + 23) % 2147483647) (by omega) (by omega)
      refine ⟨_, rfl, _, _, _, _, rfl, rfl, SqL.of D3.hd, rfl, _, _, rfl, rfl, ⟨by decide, by decide⟩, .inl ⟨_, rfl, _, rfl, _, _, rfl, rfl, h0, ?_⟩⟩
      exact k _ _ (Int.emod_nonneg _ (by omega)) (Int.emod_lt_of_pos _ h0) D3.at D3.s D3.m
    · rw [List.concat_eq_append] at hxs
      subst hxs
      have hne : (!(l ++ [x]).isEmpty) = true := by cases l <;> rfl
      rw [hne]
      refine iteT ?_
      refine ⟨_, rfl, d, _, _, _, rfl, rfl, SqL.of D1.hd, rfl, 1, rfl, g, _, _, _, rfl, rfl, SqL.of D1.hg, hx l x, rfl, _, rfl, ?_⟩
      have px : 0 ≤ x := D.pos x (by simp)
      have pl : ∀ y ∈ l, 0 ≤ y := fun y hy => D.pos y (by simp [hy])
      have ll : l.length + 1 ≤ 63 := by have := D.len; rw [List.length_append] at this; exact this
      by_cases hz : x = 0
      · subst hz
        refine iteTB (by simp) ?_
        refine ⟨fun σ' H' => ∃ (x2 : Option V) (xs : List Int), σ' = [some (.ref d), some (.int m), x2] ∧ xs.length = l.length ∧ DL H H' d g xs mm0, fun σ' H' q => ⟨l.length, by rw [← hn, List.length_append]; exact Nat.lt_succ_self _, q⟩, ?_⟩
        refine ⟨_, rfl, d, _, _, _, rfl, rfl, SqL.of D1.hd, rfl, .inl ⟨rfl, _, SqL.of D1.hg⟩, g, _, _, rfl, rfl, D1.hg, lst2 l 0, ?_⟩
        rw [rev2]
        exact ⟨x2, l, rfl, rfl, D1.setG pl (by omega)⟩
      · refine iteFB (by simp [hz]) ?_
        refine ⟨_, rfl, d, _, _, _, rfl, rfl, SqL.of D1.hd, rfl, (by show 0 ≤ sizeLine; decide), fun p2 hp2 => ?_⟩
        have D2 := D1.new (o := .lst []) hp2
        refine ⟨.list ((l ++ [x]).map PyData.int), .list [], .lst (SqL.of D2.hg) (dp_intsL _ _ _), .lst (SqL.of upd_same) .nil, intsL_sh _, by decide +kernel, _, rfl, ?_⟩
        rw [intsL_nil, hne]
        generalize upd Hp1 p2 (.lst []) = Hp2 at D2 ⊢
        refine iteT ?_
        refine ⟨_, rfl, d, _, _, _, rfl, rfl, SqL.of D2.hd, rfl, .inl ⟨rfl, _, SqL.of D2.hg⟩, g, _, _, rfl, rfl, D2.hg, lst2 l x, ?_⟩
        rw [rev2]
        have D3 := D2.setG pl (by omega)
        refine ⟨_, rfl, d, _, _, _, rfl, rfl, SqL.of D3.hd, rfl, .inl ⟨rfl, _, SqL.of D3.hg⟩, _, rfl, _, rfl, _, _, rfl, rfl, wide_div (b := 40) h0 (by omega) (by decide) (by decide), g, _, _, rfl, rfl, D3.hg, small1000 (by rw [List.length_map]; omega), ?_⟩
        have D4 := D3.setG (ys := l ++ [x / m]) (fun y hy => by
          rcases List.mem_append.mp hy with hy | hy
          · exact pl y hy
          · rw [List.mem_singleton.mp hy]; exact Int.ediv_nonneg px (by omega)) (by rw [List.length_append]; exact ll)
        rw [List.map_append] at D4
        refine ⟨_, rfl, .inl ⟨_, rfl, _, rfl, _, _, rfl, rfl, h0, ?_⟩⟩
        exact k _ _ (Int.emod_nonneg _ (by omega)) (Int.emod_lt_of_pos _ h0) D4.at D4.s D4.m
def spPick (K : PySem.W.Frag) : Sp := fun vs H Q _ => ∃ (d g a : Addr) (xs : List V), vs = [.ref d, .ref a] ∧ DealAt H d g ∧ SqL K (hh H d g) a xs ∧ 0 < xs.length ∧ xs.length < 1000000 ∧ ∀ (v : V) (H' : Hp), v ∈ xs → DealAt H' d g → Same (hh H d g) (hh H' d g) → Mo H H' → Q v H'
theorem scPick : FnScope ["_law_deal_here", "_law_some"] ["_law_deal_here", "_law_some"] (defScope sPick) := ⟨rfl, rfl, rfl, by decide +kernel, rfl, by decide +kernel, by decide +kernel⟩
theorem ok_pick {f : Addr} {fd : FuncData} (F : Fun K "_law_pick" "_law_pick" sPick f fd) (mL : mg "len" = none) (D : At K mg "_law_draw" sDraw ["_law_deal_here", "_law_many"]) (mI : mg "int" = none) : FnOk P w K mg base CX0 2 f fd ["_law_deal_here", "_law_some"] (spPick K) := by
  refine F.ok scPick (fun vs H Q E h => ?_) (fun cdv A outer s H vs Q E hr h => ?_)
  · obtain ⟨d, g, a, xs, rfl, _⟩ := h
    rfl
  · obtain ⟨d, g, a, xs, rfl, hD, hS, h0, h1, q⟩ := h
    refine ⟨_, pss_one (ps_ret (pe_ix ix_list (pv 1) (pe_call (ok_draw D.F mI) hr rfl D.m D.F.kp D.b .nil pass0 (pa_cons (pv 0) (pa_cons (pe_callB call_len_seq (by rfl) mL PySem.boot_len (pa_cons (pv 1) pa_nil)) pa_nil))) (fun _ _ => rfl))), ?_⟩
    refine ⟨_, rfl, _, rfl, _, rfl, _, _, rfl, .inl (hh_sub.seq hS), ?_⟩
    refine ⟨d, g, _, rfl, hD, by omega, by omega, fun r H' r0 r1 hD' hs hm => ?_⟩
    obtain ⟨i, rfl⟩ : ∃ i : Nat, r = (i : Int) := ⟨r.toNat, by omega⟩
    have hi : i < xs.length := by omega
    exact ⟨_, _, _, _, rfl, rfl, hh_sub.seq (hs.seq hS), atI_nat (List.getElem?_eq_getElem hi), q _ _ (List.getElem_mem hi) hD' hs hm⟩
def absI (x : Int) : Int := if x < 0 then -x else x
theorem cut_ints (ns : List Int) (lo hi : Option Int) : ∃ us : List Int, cutV (ns.map V.int) lo hi = us.map V.int ∧ us.length ≤ ns.length := by
  refine ⟨(ns.drop (HT.sIx (ns.map V.int).length 0 lo)).take (HT.sIx (ns.map V.int).length (ns.map V.int).length hi - HT.sIx (ns.map V.int).length 0 lo), ?_, ?_⟩
  · unfold cutV
    rw [List.map_take, List.map_drop]
  · rw [List.length_take, List.length_drop]
    omega
def spDeal (K : PySem.W.Frag) : Sp := fun vs H Q _ => ∃ (a : Addr) (ns : List Int), vs = [.ref a] ∧ SqL K H a (ns.map V.int) ∧ ns.length ≤ 63 ∧ ∀ (d g : Addr) (H' : Hp), DealAt H' d g → Same H (hh H' d g) → Q (.ref d) H'
theorem scDeal : FnScope ["_law_script", "_law_cell", "_law_cells", "_law_mixed"] ["_law_script"] (defScope sDeal) := ⟨rfl, rfl, rfl, by decide +kernel, rfl, by decide +kernel, by decide +kernel⟩
theorem ok_deal {f : Addr} {fd : FuncData} (F : Fun K "_law_deal" "_law_deal" sDeal f fd) (mI : mg "int" = none) (mA : mg "abs" = none) : FnOk P w K mg base CX0 1 f fd ["_law_script"] (spDeal K) := by
  refine F.ok scDeal (fun vs H Q E h => ?_) (fun cdv A outer s H vs Q E hr h => ?_)
  · obtain ⟨a, ns, rfl, _⟩ := h
    rfl
  · obtain ⟨a, ns, rfl, hS, hl, q⟩ := h
    refine ⟨_, pss_cons (ps_par (i := 2) (j := 3) (by rfl) scDeal.nd rfl rfl (by decide) rfl rfl (pa_cons (pe_lc (own := [("_law_cell", 1)]) (g := gName 1) (tt := tYes) (by rfl) scDeal.nd (pi_list (pe_slice sl_list (pv 0) po_none (po_some pe_int)))
          (blkOk_by (N := ["_law_script", "_law_cell", "_law_cells", "_law_mixed"]) (sc := defScope sDeal) (by decide +kernel)) (fun _ _ _ _ _ => pg_name (i := 1) scDeal.nd rfl (Or.inl rfl)) (fun _ _ _ _ _ => pts_nil)
          (fun _ _ _ _ _ => pe_callB call_abs (by rfl) mA (by decide +kernel) (pa_cons (pv 1) pa_nil))) (pa_cons pe_int pa_nil)) (by rfl))
      (pss_cons (ps_for PassesOwn.never rfl (pi_list (pv 2)) (pg_name (i := 1) scDeal.nd rfl (Or.inl rfl))
        (pss_one (ps_set (i := 3) scDeal.nd rfl (Or.inl rfl) (pe_op op_mod (pe_callTy call_int1 (by rfl) mI (by decide +kernel) (pa_cons (pe_op op_add (pe_op op_mul (pv 3) pe_int) (pe_op op_mod (pe_callTy call_int1 (by rfl) mI (by decide +kernel) (pa_cons (pv 1) pa_nil)) pe_int)) pa_nil)) pe_int))))
      (pss_one (ps_ret (pe_lst (pa_cons (pe_revL (pe_lc (own := [("_law_cell", 1)]) (g := gName 1) (by rfl) scDeal.nd (pi_list (pv 2))
          (blkOk_by (N := ["_law_script", "_law_cell", "_law_cells", "_law_mixed"]) (sc := defScope sDeal) (by decide +kernel)) (fun _ _ _ _ _ => pg_name (i := 1) scDeal.nd rfl (Or.inl rfl)) (fun _ _ _ _ _ => pts_one (pt_cmpR op_ge (pv 1) (pe_op op_pow pe_int pe_int) (nomark _)))
          (fun _ _ _ _ _ => pv 1))) (pa_cons (pv 3) pa_nil)))))), ?_⟩
    obtain ⟨us, hu, hul⟩ := cut_ints ns none (some 60)
    refine ⟨_, rfl, 60, rfl, a, _, rfl, hS, fun p hp => ?_⟩
    rw [hu]
    have s1 : Same H (upd H p (.lst (us.map V.int))) := Same.new hp
    have hp1 : upd H p (.lst (us.map V.int)) p = some (.lst (us.map V.int)) := upd_same
    generalize upd H p (.lst (us.map V.int)) = H1 at s1 hp1 ⊢
    refine ⟨p, rfl, ⟨_, SqL.of hp1⟩, fun D hD => lc_it (walk_list (xs := us.map V.int)) (fun i Hi => Hi D = some (.lst (((us.take i).map absI).map V.int)) ∧ Same H1 Hi) ⟨upd_same, Same.new hD⟩ (fun i Hi _ hP => SqL.of (hP.2 _ _ hp1)) (fun i x Hi Hj hi hP hY => ?turn1) (fun Hi hP => ?done1)⟩
    case turn1 =>
      obtain ⟨rfl, hx⟩ := hY
      obtain ⟨hDi, hs⟩ := hP
      rw [List.getElem?_map] at hx
      cases hxi : us[i]? with
      | none => rw [hxi] at hx; cases hx
      | some u =>
      rw [hxi] at hx
      cases hx
      have hi2 : i < us.length := by rw [List.length_map] at hi; exact hi
      refine ⟨rfl, _, rfl, _, rfl, _, hDi, small1000 (by rw [List.length_map, List.length_map]; have := List.length_take_le i us; omega), ?_, fun b o e => ?_⟩
      · rw [upd_same, List.take_add_one, hxi, List.map_append, List.map_append]
        rfl
      · rw [upd_ne (ne_of_none e hD)]
        exact hs _ _ e
    case done1 =>
      obtain ⟨hD1, hs⟩ := hP
      rw [List.length_map, List.take_length] at hD1
      have hpos : ∀ x ∈ us.map absI, 0 ≤ x := fun x hx => by
        obtain ⟨y, _, rfl⟩ := List.mem_map.mp hx
        unfold absI
        split <;> omega
      have hcl : (us.map absI).length ≤ 63 := by rw [List.length_map]; omega
      generalize us.map absI = cs at hD1 hpos hcl
      have s2 := s1.trans hs
      refine ⟨_, _, rfl, ?_⟩
      refine ⟨_, rfl, D, rfl, ⟨_, SqL.of hD1⟩, for_list (xs := cs.map V.int) (fun i σ Hc => ∃ (x1 : Option V) (m : Int), σ = [some (.ref a), x1, some (.ref D), some (.int m)] ∧ 0 ≤ m ∧ m < 2147483647 ∧ Hc = Hi) ⟨_, _, rfl, by decide, by decide, rfl⟩ (fun i σ Hc _ hP => by obtain ⟨_, _, _, _, _, rfl⟩ := hP; exact SqL.of hD1) (fun i x σ Hc hx hP => ?turn2) (fun σ Hc hP => ?done2)⟩
      case turn2 =>
        obtain ⟨x1, m, rfl, m0, m1, rfl⟩ := hP
        rw [List.getElem?_map] at hx
        cases hxi : cs[i]? with
        | none => rw [hxi] at hx; cases hx
        | some c =>
        rw [hxi] at hx
        cases hx
        refine ⟨_, rfl, _, _, rfl, rfl, .inl ⟨by omega, by omega⟩, _, rfl, .inl ⟨_, rfl, _, _, rfl, rfl, (by show (0 : Int) < 2147483629; decide), _, _, rfl, rfl, .inl ⟨_, rfl, _, _, rfl, rfl, (by show (0 : Int) < 2147483647; decide), ?_⟩⟩⟩
        exact ⟨_, _, rfl, by omega, by omega, rfl⟩
      case done2 =>
        obtain ⟨x1, m, rfl, m0, m1, rfl⟩ := hP
        refine ⟨_, rfl, D, rfl, ⟨_, SqL.of hD1⟩, fun D2 hD2 => lc_it (walk_list (xs := cs.map V.int)) (fun i Hi2 => ∃ l : List Int, l.length ≤ i ∧ (∀ x ∈ l, 0 ≤ x) ∧ Hi2 D2 = some (.lst (l.map V.int)) ∧ Same Hc Hi2) ⟨[], Nat.le_refl _, (fun x hx => by cases hx), upd_same, Same.new hD2⟩ (fun i Hi2 _ hP => by obtain ⟨_, _, _, _, h⟩ := hP; exact SqL.of (h _ _ hD1)) (fun i x Hi2 Hj hi hP hY => ?turn3) (fun Hi2 hP => ?done3)⟩
        case turn3 =>
          obtain ⟨rfl, hx⟩ := hY
          obtain ⟨l, l1, l2, l3, l4⟩ := hP
          rw [List.getElem?_map] at hx
          cases hxi : cs[i]? with
          | none => rw [hxi] at hx; cases hx
          | some c =>
          rw [hxi] at hx
          cases hx
          have hi2 : i < cs.length := by rw [List.length_map] at hi; exact hi
          refine ⟨rfl, _, rfl, _, _, rfl, rfl, ⟨by decide, by decide, by decide⟩, _, _, rfl, rfl, _, rfl, ?_⟩
          refine ite2 (fun _ => ?_) (fun _ => ?_)
          · refine ⟨_, rfl, _, l3, small1000 (by rw [List.length_map]; omega), l ++ [c], by rw [List.length_append]; exact Nat.add_le_add_right l1 1, fun x hx => ?_, by rw [upd_same, List.map_append]; rfl, fun b o e => ?_⟩
            · rcases List.mem_append.mp hx with hx | hx
              · exact l2 x hx
              · rw [List.mem_singleton.mp hx]; exact hpos c (List.mem_of_getElem? hxi)
            · rw [upd_ne (ne_of_none e hD2)]
              exact l4 _ _ e
          · exact ⟨l, by omega, l2, l3, l4⟩
        case done3 =>
          obtain ⟨l, l1, l2, l3, l4⟩ := hP
          refine ⟨D2, _, rfl, SqL.of l3, fun g hg => ?_⟩
          refine ⟨_, rfl, (by show 2 ≤ sizeLine; decide), fun d hd => ?_⟩
          have s3 : Same H Hi2 := s2.trans l4
          have hg0 := s3.free hg
          have hgd : g ≠ d := fun z => by rw [← z, upd_same] at hd; cases hd
          have hd0 : H d = none := s3.free ((Same.new hg).free hd)
          refine q d g _ ⟨hgd.symm, l.reverse, m, upd_same, ?_, fun x hx => l2 x (List.mem_reverse.mp hx), m0, m1, ?_⟩ fun b o e => hh_get ?_ (ne_of_none e hd0) (ne_of_none e hg0)
          · rw [upd_ne hgd, upd_same, List.map_reverse]
          · rw [List.length_reverse]
            rw [List.length_map] at l1
            omega
          · rw [upd_ne (ne_of_none e hd0), upd_ne (ne_of_none e hg0)]
            exact s3 _ _ e
end
end Pn

namespace Pn
open PySem L2
section
variable {X : Cx} {CX : CXT} {k : Nat} {f C : Addr} {fd : FuncData} {ps : List Str} {sp : Sp} {E : XK}
/-- the run of a def within a deeper around -/
theorem run_fnA {A' : Around} {pins : List (Addr × Obj)} {σ : L2.St} {H : Hp} {s : Shared} {Q : VK} {us : List Value} {vs : List V} (F : FnOk X.prog X.w X.K X.mg X.base CX k f fd ps sp) (hr : Room k A') (e0 : Env0 X.prog X.w X.K X.mg X.base A' X.stack s H) (hb : Binds X.K fd ps []) (hx : Passes CX X E)
    (I : Inv X pins σ H s) (r : Vals vs us) (h : sp vs H Q E) : wpAny (model X.prog X.w) A' (call (.ref f) us) (EP X pins σ Q) X.xe s := by
  have hl : (us ++ []).length = ps.length := by rw [List.append_nil, ← r.length]; exact F.len _ _ _ _ h
  have hbb := hb s us I.kIn hl
  rw [List.append_nil] at hbb
  refine wpAny_call (codeAny_mono (F.run A' X.stack s H ⟨us, []⟩ us vs Q E hr e0 hbb r h) fun x s' hq => ?_)
  cases x with
  | error e => exact hx pins σ H s e s' I hq
  | ok fl =>
    cases fl with
    | ret u => exact I.after hq
    | next => exact hq.elim
    | brk => exact hq.elim
    | cont => exact hq.elim
/-- str(x), x an instance whose class has a __str__ of its own -/
def rStrIns (K : PySem.W.Frag) (f : Addr) (sp : Sp) (E : XK) : List V → Hp → VK → Prop := fun xs H Q => ∃ (a C dx : Addr) (fs : List (Str × V)), xs = [.ref a] ∧ H a = some (.ins C dx fs) ∧ PySem.W.findIn K (.ref C) "__str__" = some (some (.ref f)) ∧ sp [.ref a] H (fun v H' => ∃ z, v = .str z ∧ Q (.str z) H') E
theorem call_strIns (F : FnOk X.prog X.w X.K X.mg X.base CX k f fd ps sp) (hf : PySem.W.isFn X.K (.ref f) = true) (hr : Room (k + 2) X.A) (hb : Binds X.K fd ps []) (hx : Passes CX X E) : CallR X (.type "str") (rStrIns X.K f sp E) := by
  intro pins s σ H xs us Q I r h
  obtain ⟨a, C, dx, fs, rfl, ha, hs, q⟩ := h
  obtain ⟨u, rfl, ru⟩ := r.one
  obtain rfl : u = Value.ref a := ru
  obtain ⟨mA, O, _⟩ := ins_get I.hok ha
  obtain ⟨od, J, _⟩ := O.look
  have hr2 : Room k X.A.in1.in1 := (show Room (k + 1) X.A.in1 from Room.in1 hr).in1
  refine PySem.W.kso_call (by have := hr2.un; omega) I.kIn J hs hf (wpAny_mono (run_fnA F hr2 I.env0.in1.in1 hb hx I (.cons (show RelV (.ref a) (Value.ref a) from rfl) .nil) q) (fun v s' z => ?_) fun _ _ x => x)
  obtain ⟨z', H', I', rz, t, ez, qz⟩ := z
  subst ez
  obtain ⟨tk, e⟩ := (show ∃ tk, v = Value.str t tk from rz)
  cases e
  exact ⟨.str t, H', I', ⟨tk, rfl⟩, qz⟩
end
end Pn

namespace Pn
open PySem L2
/-! ### == of an own instance whose class has an __eq__ of its own -/
section
variable {X : Cx} {CX : CXT} {k : Nat} {f C : Addr} {fd : FuncData} {ps : List Str} {sp : Sp} {E : XK}
/-- what stands to the right: a text, or an instance whose class is not first asked -/
def Right (K : PySem.W.Frag) (C : Addr) (H : Hp) (y : V) : Prop := (∃ z : Str, y = .str z ∧ PySem.W.notFirst K C (.type "str") = true) ∨ ∃ (b D dy : Addr) (gs : List (Str × V)), y = .ref b ∧ H b = some (.ins D dy gs) ∧ PySem.W.notFirst K C (.ref D) = true
def rOpIns (K : PySem.W.Frag) (nm : Str) (f : Addr) (sp : Sp) (E : XK) : R2 := fun x y H Q => ∃ (a C dx : Addr) (fs : List (Str × V)), x = .ref a ∧ H a = some (.ins C dx fs) ∧ PySem.W.findIn K (.ref C) nm = some (some (.ref f)) ∧ Right K C H y ∧ sp [x, y] H Q E
theorem op_eqIns (F : FnOk X.prog X.w X.K X.mg X.base CX k f fd ps sp) (hf : PySem.W.isFn X.K (.ref f) = true) (hr : Room k X.A) (hb : Binds X.K fd ps []) (hx : Passes CX X E) : OpR X (compareOp .Eq) (rOpIns X.K "__eq__" f sp E) := by
  intro pins s σ H x y v u Q I rx ry h
  obtain ⟨a, C, dx, fs, rfl, ha, hs, hy, q⟩ := h
  cases rx
  obtain ⟨mA, O, _⟩ := ins_get I.hok ha
  obtain ⟨od, J, _⟩ := O.look
  obtain ⟨m, hF⟩ := I.fr
  show wpAny (model X.prog X.w) X.A (richCompare .Eq (.ref a) u) (EP X pins σ Q) X.xe s
  have go : ∀ tb, PySem.W.Looks (model X.prog X.w) s.heap (typeOf u) tb → PySem.W.notFirst X.K C tb = true → wpAny (model X.prog X.w) X.A (richCompare .Eq (.ref a) u) (EP X pins σ Q) X.xe s := fun tb hl hn => by
    refine PySem.W.cmp_K (op := .Eq) (tb := tb) hr.units0 hF I.ok.mod.kin J hl hn hs hf ?_
    refine wpAny_mono (run_fnA F hr I.env0 hb hx I (.cons (show RelV (.ref a) (Value.ref a) from rfl) (.cons ry .nil)) q) (fun w s' z => ?_) fun _ _ x => x
    obtain ⟨z', H', I', rz, qz⟩ := z
    exact SlX.cmpback rz ⟨z', H', I', rz, qz⟩
  rcases hy with ⟨z, rfl, hn⟩ | ⟨b, D, dy, gs, rfl, hb2, hn⟩
  · obtain ⟨t, rfl⟩ := ry
    exact go _ (PySem.W.Looks.of_pure rfl) hn
  · cases ry
    obtain ⟨mB, O2, _⟩ := ins_get I.hok hb2
    obtain ⟨od2, J2, _⟩ := O2.look
    exact go _ J2.type hn
end
end Pn
namespace Pn
open PySem PySem.W PyProof.Rows
section
variable {prog : Program} {w : World} {A : Around} {E : Value → Shared → Prop} {s : Shared} {K : Frag} {x C L f : Addr} {h₀ : Heap} {m : Str → Option Value} {ox : Obj} {od : Option Obj} {b tb : Value}
/-- object.__ne__ asks __eq__ and turns its answer round -/
theorem obj_ne {Q : Fin → Shared → Prop} (hu : A.units < cLine) (X : K.In s.heap) (I : InstAt s.heap x ox C od) (hs : findIn K (.ref C) "__eq__" = some (some (.ref f))) (hf : isFn K (.ref f) = true)
    (h : wpAny (model prog w) A (call (.ref f) [.ref x, b]) (fun v s' => ∃ c, v = .bool c ∧ Q (.done (.ret (.bool (!c)))) s') E s) : wpAny (model prog w) A (Builtin.«object.__ne__» ⟨[.ref x, b], []⟩) Q E s := by
  unfold Builtin.«object.__ne__»
  repeat (first
    | with_reducible refine wpAny_cRoomFor hu ?_
    | (refine wpAny_bind (m := callSpecialIfBound? (.ref x) (Str.ofString "__eq__") [b])
        (ifBound_K X I hs hf (wpAny_mono h (fun v s' hv => by
          obtain ⟨c, rfl, hq⟩ := hv
          repeat (first | exact hq | exact wpAny_pure hq | exact wpAny_truthy_bool hq | (refine wpAny_bind (m := truthy (.bool _)) (wpAny_truthy_bool ?_)) | wp_step)) fun _ _ e => e)))
    | wp_step)
theorem rich_ne {Q : Value → Shared → Prop} (hu : A.units + 1 < cLine) (F : Fr h₀ L s.heap m) (X₀ : K.In h₀) (I : InstAt s.heap x ox C od) (hb : Looks (model prog w) s.heap (typeOf b) tb) (hn : notFirst K C tb = true)
    (hne : findIn K (.ref C) "__ne__" = some (some (.builtin "object.__ne__"))) (ho : mroIn K C (.type "object") = some true) (hs : findIn K (.ref C) "__eq__" = some (some (.ref f))) (hf : isFn K (.ref f) = true)
    (h : wpAny (model prog w) A.in1 (call (.ref f) [.ref x, b]) (fun v s' => ∃ c, v = .bool c ∧ Q (.bool (!c)) s') E s) : wpAny (model prog w) A (richCompare .NotEq (.ref x) b) Q E s := by
  have X := X₀.keeps F.keep
  have one : wpAny (model prog w) A (tryCompare (.ref x) (cmpInfo .NotEq).2.1 b) (fun r s' => ∃ v, r = some v ∧ Q v s') E s := by
    unfold tryCompare
    refine wpAny_bind (NtL.csib (I.type.andThen (looks_findIn X hne)) (PySem.F.slot_object_ne.bind _) (wpAny_call (codeAny_call_builtin PySem.F.slot_object_ne.plain PySem.F.entry_object_ne
      (check_slot (i := "object.__ne__") (owner := "object") (n := "__ne__") (by decide +kernel) (by decide +kernel) (I.type.andThen (looks_mroIn X ho)) (PySem.F.args_object_ne_2 _ _)
        (obj_ne (A := A.in1) hu X I hs hf (wpAny_mono h (fun v s' hv => ?_) fun _ _ e => e))))))
    obtain ⟨c, rfl, hq⟩ := hv
    first | exact ⟨c, rfl, wpAny_pure ⟨_, rfl, hq⟩⟩ | exact ⟨c, rfl, _, rfl, hq⟩ | exact ⟨c, rfl, wpAny_pure (wpAny_pure ⟨_, rfl, hq⟩)⟩
  unfold richCompare
  simp only [oneThing_ref]
  refine wpAny_holding (wpAny_bind (wpAny_cRoomFor (Nat.lt_of_succ_lt hu) ?_))
  refine wpAny_bind (I.type.here (wpAny_bind (hb.here ?_)))
  have last : ∀ {t : Option Value → Sem Value}, (∀ v, t (some v) = pure v) → wpAny (model prog w) A (tryCompare (.ref x) (cmpInfo .NotEq).2.1 b >>= t) Q E s := fun ht => wpAny_bind (wpAny_mono one (fun r s' ⟨v, hr, hq⟩ => by
    subst hr
    rw [ht]
    exact wpAny_pure hq) fun _ _ e => e)
  by_cases hq : tb = .ref C
  · subst hq
    rw [if_neg (by simp)]
    exact wpAny_bind (wpAny_pure (by simp only [Bool.false_eq_true, if_false]; exact last fun v => rfl))
  · have e : subIn K tb (.ref C) = some false := (Bool.or_eq_true_iff.mp hn).elim (fun e => absurd (beq_iff_eq.mp e) hq) beq_iff_eq.mp
    rw [if_pos (by simpa using fun z => hq z.symm)]
    exact wpAny_bind ((looks_subIn X e).here (by simp only [Bool.false_eq_true, if_false]; exact last fun v => rfl))
end
end Pn
namespace Pn
open PySem L2
section
variable {X : Cx} {CX : CXT} {k : Nat} {f C : Addr} {fd : FuncData} {ps : List Str} {sp : Sp} {E : XK}
/-- != of an own instance with an __eq__ of its own and object's __ne__ -/
def rNeIns (K : PySem.W.Frag) (f : Addr) (sp : Sp) (E : XK) : R2 := fun x y H Q => ∃ (a C dx : Addr) (fs : List (Str × V)), x = .ref a ∧ H a = some (.ins C dx fs) ∧ PySem.W.findIn K (.ref C) "__eq__" = some (some (.ref f)) ∧
  PySem.W.findIn K (.ref C) "__ne__" = some (some (.builtin "object.__ne__")) ∧ PySem.W.mroIn K C (.type "object") = some true ∧ Right K C H y ∧ sp [x, y] H (fun v H' => ∃ c, v = .bl c ∧ Q (.bl (!c)) H') E
theorem op_neIns (F : FnOk X.prog X.w X.K X.mg X.base CX k f fd ps sp) (hf : PySem.W.isFn X.K (.ref f) = true) (hr : Room (k + 1) X.A) (hb : Binds X.K fd ps []) (hx : Passes CX X E) : OpR X (compareOp .NotEq) (rNeIns X.K f sp E) := by
  intro pins s σ H x y v u Q I rx ry h
  obtain ⟨a, C, dx, fs, rfl, ha, hs, hne, ho, hy, q⟩ := h
  cases rx
  obtain ⟨mA, O, _⟩ := ins_get I.hok ha
  obtain ⟨od, J, _⟩ := O.look
  obtain ⟨m, hF⟩ := I.fr
  show wpAny (model X.prog X.w) X.A (richCompare .NotEq (.ref a) u) (EP X pins σ Q) X.xe s
  have hr1 : Room k X.A.in1 := Room.in1 hr
  have go : ∀ tb, PySem.W.Looks (model X.prog X.w) s.heap (typeOf u) tb → PySem.W.notFirst X.K C tb = true → wpAny (model X.prog X.w) X.A (richCompare .NotEq (.ref a) u) (EP X pins σ Q) X.xe s := fun tb hl hn => by
    refine rich_ne (hu_of hr) hF I.ok.mod.kin J hl hn hne ho hs hf ?_
    refine wpAny_mono (run_fnA F hr1 I.env0.in1 hb hx I (.cons (show RelV (.ref a) (Value.ref a) from rfl) (.cons ry .nil)) q) (fun w s' z => ?_) fun _ _ x => x
    obtain ⟨z', H', I', rz, c, ez, qz⟩ := z
    subst ez
    cases (show w = Value.bool c from rz)
    exact ⟨c, rfl, .bl (!c), H', I', rfl, qz⟩
  rcases hy with ⟨z, rfl, hn⟩ | ⟨b, D, dy, gs, rfl, hb2, hn⟩
  · obtain ⟨t, rfl⟩ := ry
    exact go _ (PySem.W.Looks.of_pure rfl) hn
  · cases ry
    obtain ⟨mB, O2, _⟩ := ins_get I.hok hb2
    obtain ⟨od2, J2, _⟩ := O2.look
    exact go _ J2.type hn
end
end Pn

namespace Pn
open PySem PySem.Spec PyProof.Rows L2
/-! ### the law's def at the surrounding that the judge calls it from: there no repr is under way -/
section
variable {P : Program} {w : World} {K : PySem.W.Frag} {mg mb : Str → Option Value} {s₁ : Shared} {a : Addr} {vs : List Value} {ns : List Int}
/-- a tracking of the script alone -/
theorem law_track (KX : K.In s₁.heap) (ha : s₁.heap.get? a = some { cls := .type "list", data := .seq vs.toArray }) (hi : IntsAre vs ns) (hl : ns.length ≤ sizeLine) :
    ∃ H : Hp, Only H ∧ SqL K H a (ns.map V.int) ∧ HOk P w H s₁.heap ∧ ∀ b, H b ≠ none → b = a ∧ K.lookup a = none := by
  have rv := vals_ints hi
  cases hk : K.lookup a with
  | some o =>
    have e := (KX a o hk).symm.trans ha
    cases e
    exact ⟨fun _ => none, fun _ => .inl rfl, .inr ⟨_, vs.toArray, _, hk, rfl, rfl, rfl, by rw [List.size_toArray, hi.length]; exact hl, by simpa using rv⟩, fun b u z => (nomatch (show (none : Option HO) = some u from z)), fun b z => absurd rfl z⟩
  | none =>
    let o : HO := .frz { cls := .type "list", data := .seq vs.toArray } (.lst (ns.map V.int))
    have at_ : upd (fun _ => none) a o a = some o := upd_same
    refine ⟨upd (fun _ => none) a o, fun b => ?_, .inl (.inr ⟨_, at_⟩), fun b u z => ?_, fun b z => ⟨?_, rfl⟩⟩
    · by_cases h : b = a
      · exact .inr ⟨_, _, by rw [h]; exact at_⟩
      · exact .inl (by rw [upd_ne h])
    · by_cases h : b = a
      · rw [h, at_] at z
        cases z
        rw [h]
        exact ⟨ha, by rw [List.length_map]; exact hl, vs, _, rv, ha⟩
      · rw [upd_ne h] at z
        cases z
    · by_cases h : b = a
      · exact h
      · rw [upd_ne h] at z
        exact absurd rfl z
/-- what stands behind it is the module's -/
theorem law_env (KX : K.In s₁.heap) (hns : s₁.heap.Ns mainGlobals mg) (hb : s₁.heap.Ns builtinsNs mb) (hbb : ∀ x : Str, x ≠ "__name__" → mb x = bootBuiltins x) (hlim : s₁.heap.NoLimit) (hg : s₁.gens = #[])
    (ha : s₁.heap.get? a = some { cls := .type "list", data := .seq vs.toArray }) {H : Hp} (hok : HOk P w H s₁.heap) (hA : ∀ b, H b ≠ none → b = a ∧ K.lookup a = none) :
    K.In (hidT s₁.heap H) ∧ (hidT s₁.heap H).Ns mainGlobals mg ∧ Env0 P w K mg (hidT s₁.heap H) callerA [] s₁ H := by
  have free : ∀ {b : Addr}, (b = a → K.lookup a = none → False) → H b = none := fun {b} h => by
    cases q : H b with
    | none => rfl
    | some u =>
      obtain ⟨e1, e2⟩ := hA b (by rw [q]; simp)
      exact (h e1 e2).elim
  have ns_ : ∀ {b : Addr} {m : Str → Option Value}, s₁.heap.Ns b m → (hidT s₁.heap H).Ns b m := fun {b m} ⟨o, es, ep, e, d, r⟩ => ⟨o, es, ep, hidT_get e (free fun z _ => by
    rw [z, ha] at e
    cases e
    exact Data.noConfusion d), d, r⟩
  have kin : K.In (hidT s₁.heap H) := fun b o e => hidT_get (KX b o e) (free fun z n => by
    rw [z, n] at e
    cases e)
  obtain ⟨mc, l1, l2⟩ := hlim
  exact ⟨kin, ns_ hns, rfl, ⟨kin, ns_ hns, ⟨mb, ns_ hb, hbb⟩, ⟨mc, ns_ l1, l2⟩⟩, fun b o e => of_hidT e, Nat.le_of_eq (hidT_size _ _), trivial, fun b h => (by cases (show b ∈ ([] : List Addr) from h)), hok, .of_eq hg⟩
end
end Pn
namespace Pn
open PySem PySem.Spec PyProof.Rows L2
section
variable {P : Program} {w : World} {K : PySem.W.Frag} {mg : Str → Option Value} {base : Heap} {A : Around}
/-- a def's promise at one surrounding, with no frame below -/
def RunAt (P : Program) (w : World) (K : PySem.W.Frag) (mg : Str → Option Value) (base : Heap) (A : Around) (f : Addr) (fd : FuncData) (ps : List Str) (sp : Sp) : Prop :=
  ∀ (s : Shared) (H : Hp) (us : List Value) (vs : List V) (Q : VK) (E : XK), Env0 P w K mg base A [] s H → BindsTo s fd ⟨us, []⟩ (ps.zip us) → Vals vs us → sp vs H Q E → codeAny (model P w) A (.call (.ref f) ⟨us, []⟩) (CR CX0 [] P w H s Q E) s
theorem fun_at {x qual : Str} {st : Stmt} {f : Addr} {fd : FuncData} {N ps : List Str} {k : Nat} {sp : Sp} (F : Fun K x qual st f fd) (S : FnScope N ps (defScope st)) (hr : Room (k + 1) A) (len : ∀ vs H Q E, sp vs H Q E → vs.length = ps.length)
    (hbody : ∀ (cdv : Value) (s : Shared) (H : Hp) (vs : List V) (Q : VK) (E : XK), Room k (A.deeper (envOfC qual (defScope st) s.heap.objs.size f cdv)) → sp vs H Q E →
      ∃ t, PSs (cxOf CX0 P w K mg base N qual (defScope st) f cdv A [] s H E).nox (defBody st) t ∧ t { nx := fun _ H' => Q .non H', rt := Q } (L2.start N vs) H) : RunAt P w K mg base A f fd ps sp := by
  obtain ⟨oc, od, kV, doc, pm, an, cdv, ct, osl, rfl, lk, hcd⟩ := F.ex
  intro s H us vs Q E e0 hb r hsp
  have keep : ∀ b o, base.get? b = some o → s.heap.get? b = some o := fun b o e => (e0.bs b o e).1
  have kin := e0.mod.kin.keeps keep
  have par : ∀ y ∈ ps.zip us, (defScope st).names.lookup y.1 = some .local ∨ ((defScope st).names.lookup y.1 = some .cell ∧ ((cellsFrom (s.heap.objs.size + 1) (defScope st).names []).lookup y.1).isSome = true) := fun y hy =>
    (S.par y.1 (List.of_mem_zip (a := y.1) (b := y.2) hy).1).imp id fun q => ⟨q, PySem.W.cellsFrom_some _ _ _ (.inl q)⟩
  refine codeAny_call_function hr.depth (kin _ _ lk) rfl S.co S.gen rfl (PySem.W.codeRec_of kin hcd) (hb _ _ _ _ (wpAny_newFunctionEnv_cells S.kind par fun env he s1 x => ?_))
  subst he
  obtain ⟨t, ht, hq⟩ := hbody cdv s H vs Q E (hr.deeper _) hsp
  refine ⟨(e0.mod.nolimit.keeps keep).keeps x.toInCall.keep, codeAny_func (wpAny_mono (ht.nox.run [] s1 (L2.start N vs) H _ (inv_start S hr.hd e0 (len _ _ _ _ hsp) r x) hq) (fun fl s' hs => ?_) fun e s' hs => hs)⟩
  cases fl with
  | ret u =>
    obtain ⟨v, σ', H', J, rv, q⟩ := hs
    exact ⟨v, H', J.os, J.bare, J.base, J.hok, rv, q⟩
  | next =>
    obtain ⟨σ', H', J, q⟩ := hs
    exact ⟨V.non, H', J.os, J.bare, J.base, J.hok, rfl, q⟩
  | brk =>
    obtain ⟨_, _, _, q⟩ := hs
    exact False.elim q
  | cont =>
    obtain ⟨_, _, _, q⟩ := hs
    exact False.elim q
end
/-- the goal that k_head leaves, from the law's promise at callerA -/
theorem walk_g {l : PySem.W.OpenLaw} {n : Nat} {q : Program} {loose : List Str} {XP : (Str → Option Value) → Heap → Prop} {YP : World → Heap → Prop} {d : DefRec} {K : Params → PySem.W.Frag} {sp : PySem.W.Frag → Sp} {x : Str}
    (hn : l.most = some n) (hn2 : n ≤ sizeLine) (hdf : d.params.defaults = []) (hY : ∀ (w : World) (h : Heap), YP w h → (K w.params).In h)
    (F : ∀ (w : World) (mg : Str → Option Value) (fa : Addr) (h : Heap), (K w.params).In h → h.Ns mainGlobals mg → mg d.name = some (.ref fa) →
      ∃ fd : FuncData, (∀ (s : Shared) (u : Value), BindsTo s fd ⟨[u], []⟩ [(x, u)]) ∧
        ∀ base : Heap, (K w.params).In base → base.Ns mainGlobals mg → RunAt l.prog w (K w.params) mg base callerA fa fd [x] (sp (K w.params)))
    (hsp : ∀ (K : PySem.W.Frag) (H : Hp) (a : Addr) (ns : List Int), ns.length ≤ n → SqL K H a (ns.map V.int) → sp K [.ref a] H (fun v _ => v = .bl true) fun _ _ _ => False) :
    PySem.W.WalkO q loose XP YP l.row.toRowW d [] (fun f vs => PySem.call f vs) := by
  refine Att.attach_call hn hdf fun w s₀ s₁ mg mb fa o pm cd doc a vs ns G Y ho hd hcd hmg hobj hints hlen hg => ?_
  have KX := hY w _ Y
  obtain ⟨fd, hb, hF⟩ := F w mg fa _ KX G.T.g hmg
  obtain ⟨H, hO, hS, hok, hA⟩ := law_track (P := l.prog) (w := w) KX hobj hints (Nat.le_trans hlen hn2)
  obtain ⟨kin, hns, e0⟩ := law_env KX G.T.g G.T.b G.T.builtins G.T.nolimit hg hobj hok hA
  refine codeAny_mono (hF _ kin hns s₁ H [.ref a] [.ref a] (fun v _ => v = .bl true) (fun _ _ _ => False) e0 (hb s₁ (.ref a)) (.cons rfl .nil) (hsp _ H a ns hlen hS)) fun r s' h => ?_
  cases r with
  | error e => exact False.elim h
  | ok fl =>
    cases fl with
    | next => exact False.elim h
    | brk => exact False.elim h
    | cont => exact False.elim h
    | ret u =>
      obtain ⟨v, H', os, bare, un, hok', rv, hv⟩ := h
      cases (show v = V.bl true from hv)
      cases (show u = Value.bool true from rv)
      refine ⟨rfl, OldK.of_keep fun b o e => ?_, os, bare⟩
      rcases hO b with z | ⟨ob, xs, z⟩
      · exact un.keep b o e z (by intro z; cases (show b ∈ ([] : List Addr) from z)) (by simp)
      · obtain ⟨e1, _⟩ := hok b _ z
        obtain ⟨e2, _⟩ := hok' b _ (un.frzs b ob _ z)
        cases e.symm.trans e1
        exact e2
end Pn

namespace Pn
open PySem PySem.Spec PyProof.Rows L2
/-! ### repr of a tuple of texts and integers, where no repr is under way -/
/-- plain items as data -/
inductive Fl : List V → List PyData → Prop where
  | nil : Fl [] []
  | str {vs ds} (z : Str) (r : Fl vs ds) : Fl (.str z :: vs) (.str z :: ds)
  | int {vs ds} (i : Int) (r : Fl vs ds) : Fl (.int i :: vs) (.int i :: ds)
theorem Fl.reads {h : Heap} : ∀ {vs : List V} {ds : List PyData} {us : List Value}, Fl vs ds → Vals vs us → ReadsAll h us ds []
  | _, _, _, .nil, r => by
    cases r
    exact .nil
  | _, _, _, .str z f, r => by
    cases r with
    | cons r1 r2 =>
      obtain ⟨t, rfl⟩ := r1
      exact .cons (.str z t) (f.reads r2)
  | _, _, _, .int i f, r => by
    cases r with
    | cons r1 r2 =>
      obtain ⟨t, rfl⟩ := r1
      exact .cons (.int i t) (f.reads r2)
section
variable {X : Cx}
def rReprT (K : PySem.W.Frag) : List V → Hp → VK → Prop := fun xs H Q => ∃ (a : Addr) (vs : List V) (ds : List PyData), xs = [.ref a] ∧ SqT K H a vs ∧ Fl vs ds ∧ PyData.showable (.tuple ds) = true ∧ PyData.hasDict (.tuple ds) = false ∧ PyData.depth (.tuple ds) ≤ 10 ∧ (PyData.shown (.tuple ds)).length ≤ sizeLine ∧ Q (.str (PyData.shown (.tuple ds))) H
theorem call_reprT (hg : X.A.guards = some []) {k : Nat} (hr : Room k X.A) : CallR X (.builtin "repr") (rReprT X.K) := by
  intro pins s σ H xs us Q I r h
  obtain ⟨a, vs, ds, rfl, ht, hf, h1, h2, h3, h4, q⟩ := h
  obtain ⟨u, rfl, ru⟩ := r.one
  cases (show u = Value.ref a from ru)
  obtain ⟨its, rv, ⟨o, ho, hcl, n, hd⟩, _⟩ := I.tuple ht
  have hu := hr.units
  refine repr_of_reads' (h₀ := s.heap) (d := .tuple ds) (as := []) (.tuple ho hcl hd (hf.reads rv)) h1 (fun e => by rw [h2] at e; cases e) hg (by omega) (fun _ _ e => e) (fun h' u tk hk => ?_) h4
  exact ⟨.str _, H, I.kept hk, ⟨u, rfl⟩, q⟩
end
end Pn

namespace Pn
open PySem PySem.W PyProof.Rows
/-! ### an operator of an own class, both sides of this class; in place by the same method -/
section
variable {M : Model} {prog : Program} {w : World} {A : Around} {E : Value → Shared → Prop} {s : Shared} {K : Frag} {x C L f : Addr} {h₀ : Heap} {m : Str → Option Value} {ox : Obj} {od : Option Obj} {nm : String}
theorem fillsI_no {h : Heap} {cd : ClassData} {add : Bool} (X : K.In h) (hc : clsIn K C = some cd) (hm : cd.mro = [.ref C, .type "object"]) (h1 : findIn K (.ref C) (dunderI nm) = some none) (h2 : findIn K (.type "object") (dunderI nm) = some none) : Looks M h (fillsInplaceSlot (.ref C) nm add) false := by
  intro A Q E s k q
  have Lm : Looks M h (mroOf (.ref C)) cd.mro := (looks_clsIn X hc).andThen (f := fun cd => pure cd.mro) .now
  have Lm' := Lm.keeps k
  obtain ⟨hh, g, d, tt, os⟩ := s
  have X' : K.In hh := X.keeps k
  have L1 : Looks M hh (typeLookup (.ref C) (dunderI nm)) none := looks_findIn X' h1
  have L2 : Looks M hh (typeLookup (.type "object") (dunderI nm)) none := looks_findIn X' h2
  unfold fillsInplaceSlot
  refine wpAny_bind (Lm'.at ?_)
  rw [hm, List.anyM_cons]
  refine wpAny_bind ?_
  refine wpAny_bind (L1.at ?_)
  refine wpAny_pure ?_
  rw [List.anyM_cons]
  refine wpAny_bind ?_
  refine wpAny_bind (L2.at ?_)
  refine wpAny_pure ?_
  exact wpAny_pure q
theorem bin1_K {b : Value} {Q : Value → Shared → Prop} (F : Fr h₀ L s.heap m) (X₀ : K.In h₀) (I : InstAt s.heap x ox C od) (hb : Looks (model prog w) s.heap (typeOf b) (.ref C)) (hc : selfFirst K C = true)
    (hs : findIn K (.ref C) (PySem.dunder nm) = some (some (.ref f))) (hf : isFn K (.ref f) = true)
    (h : wpAny (model prog w) A (call (.ref f) [.ref x, b]) (W.CmpBack Q) E s) : wpAny (model prog w) A (binaryOp1 nm (.ref x) b) (fun r s' => ∃ v, r = some v ∧ Q v s') E s := by
  have X := X₀.keeps F.keep
  obtain ⟨cd, rest, hcd, hm⟩ := ksp_first hc
  unfold binaryOp1
  refine wpAny_bind (I.type.here (wpAny_bind (hb.here (wpAny_bind ((fills_K X hcd hm hs).here ?_)))))
  simp only [beq_self_eq_true, if_true]
  refine wpAny_bind (wpAny_pure ?_)
  simp only [Bool.and_false, Bool.false_eq_true, if_false, Bool.false_and]
  refine wpAny_bind (wpAny_pure ?_)
  simp only [Bool.false_eq_true, if_false]
  refine wpAny_bind (m := tryMethod (.ref x) _ b) ?_
  unfold tryMethod
  refine wpAny_bind (special_fn X I hs (beq_iff_eq.mp hf) (wpAny_mono h (fun v s' hv => ?_) fun _ _ e => e))
  cases v <;> first | exact hv.elim | exact wpAny_pure (wpAny_pure ⟨_, rfl, hv⟩)
theorem inplace_K {op : Operator} {cd : ClassData} {b : Value} {Q : Value → Shared → Prop} (F : Fr h₀ L s.heap m) (X₀ : K.In h₀) (I : InstAt s.heap x ox C od) (hb : Looks (model prog w) s.heap (typeOf b) (.ref C)) (hc : selfFirst K C = true)
    (hcl : clsIn K C = some cd) (hm : cd.mro = [.ref C, .type "object"]) (h1 : findIn K (.ref C) (dunderI op.info.2) = some none) (h2 : findIn K (.type "object") (dunderI op.info.2) = some none)
    (hs : findIn K (.ref C) (PySem.dunder op.info.2) = some (some (.ref f))) (hf : isFn K (.ref f) = true)
    (h : wpAny (model prog w) A (call (.ref f) [.ref x, b]) (W.CmpBack Q) E s) : wpAny (model prog w) A (inplaceOp op (.ref x) b) Q E s := by
  have X := X₀.keeps F.keep
  have one := bin1_K F X₀ I hb hc hs hf h
  unfold inplaceOp
  refine wpAny_holding ?_
  refine wpAny_bind (I.type.here ?_)
  refine wpAny_bind ((fillsI_no X hcl hm h1 h2).here ?_)
  simp only [Bool.false_eq_true, if_false]
  refine wpAny_bind (wpAny_mono one (fun r s' hr' => ?_) fun _ _ e => e)
  obtain ⟨v, rfl, hq⟩ := hr'
  exact wpAny_pure hq
end
end Pn
namespace Pn
open PySem L2
section
variable {X : Cx} {CX : CXT} {k : Nat} {f C : Addr} {fd : FuncData} {ps : List Str} {sp : Sp} {E : XK}
def rBinIns (K : PySem.W.Frag) (nm : Str) (f : Addr) (sp : Sp) (E : XK) : R2 := fun x y H Q => ∃ (a b C dx dy : Addr) (fs gs : List (Str × V)), x = .ref a ∧ y = .ref b ∧ H a = some (.ins C dx fs) ∧ H b = some (.ins C dy gs) ∧
  PySem.W.selfFirst K C = true ∧ PySem.W.findIn K (.ref C) nm = some (some (.ref f)) ∧ sp [x, y] H Q E
/-- a op b of two instances of an own class with this operator -/
theorem op_binIns {op : Operator} (F : FnOk X.prog X.w X.K X.mg X.base CX k f fd ps sp) (hf : PySem.W.isFn X.K (.ref f) = true) (hr : Room k X.A) (hb : Binds X.K fd ps []) (hx : Passes CX X E) : OpR X (binaryOp op) (rBinIns X.K (PySem.dunder op.info.2) f sp E) := by
  intro pins s σ H x y v u Q I rx ry h
  obtain ⟨a, b, C, dx, dy, fs, gs, rfl, rfl, ha, hb2, hc, hs, q⟩ := h
  cases rx
  cases ry
  obtain ⟨mA, O, _⟩ := ins_get I.hok ha
  obtain ⟨od, J, _⟩ := O.look
  obtain ⟨mB, O2, _⟩ := ins_get I.hok hb2
  obtain ⟨od2, J2, _⟩ := O2.look
  obtain ⟨m, hF⟩ := I.fr
  refine PySem.W.binop_K hF I.ok.mod.kin J J2.type hc hs hf ?_
  refine wpAny_mono (run_fnA F hr I.env0 hb hx I (.cons (show RelV (.ref a) (Value.ref a) from rfl) (.cons (show RelV (.ref b) (Value.ref b) from rfl) .nil)) q) (fun w s' z => ?_) fun _ _ x => x
  obtain ⟨z', H', I', rz, qz⟩ := z
  exact SlX.cmpback rz ⟨z', H', I', rz, qz⟩
def rIopIns (K : PySem.W.Frag) (op : Operator) (f : Addr) (sp : Sp) (E : XK) : R2 := fun x y H Q => ∃ (a b C dx dy : Addr) (fs gs : List (Str × V)) (cd : ClassData), x = .ref a ∧ y = .ref b ∧ H a = some (.ins C dx fs) ∧ H b = some (.ins C dy gs) ∧
  PySem.W.selfFirst K C = true ∧ PySem.W.clsIn K C = some cd ∧ cd.mro = [.ref C, .type "object"] ∧ PySem.W.findIn K (.ref C) (dunderI op.info.2) = some none ∧ PySem.W.findIn K (.type "object") (dunderI op.info.2) = some none ∧
  PySem.W.findIn K (.ref C) (PySem.dunder op.info.2) = some (some (.ref f)) ∧ sp [x, y] H Q E
/-- a op= b by the same method, where the class has none of its own for it -/
theorem iop_binIns {op : Operator} (F : FnOk X.prog X.w X.K X.mg X.base CX k f fd ps sp) (hf : PySem.W.isFn X.K (.ref f) = true) (hr : Room k X.A) (hb : Binds X.K fd ps []) (hx : Passes CX X E) : OpR X (inplaceOp op) (rIopIns X.K op f sp E) := by
  intro pins s σ H x y v u Q I rx ry h
  obtain ⟨a, b, C, dx, dy, fs, gs, cd, rfl, rfl, ha, hb2, hc, hcl, hm, h1, h2, hs, q⟩ := h
  cases rx
  cases ry
  obtain ⟨mA, O, _⟩ := ins_get I.hok ha
  obtain ⟨od, J, _⟩ := O.look
  obtain ⟨mB, O2, _⟩ := ins_get I.hok hb2
  obtain ⟨od2, J2, _⟩ := O2.look
  obtain ⟨m, hF⟩ := I.fr
  refine inplace_K hF I.ok.mod.kin J J2.type hc hcl hm h1 h2 hs hf ?_
  refine wpAny_mono (run_fnA F hr I.env0 hb hx I (.cons (show RelV (.ref a) (Value.ref a) from rfl) (.cons (show RelV (.ref b) (Value.ref b) from rfl) .nil)) q) (fun w s' z => ?_) fun _ _ x => x
  obtain ⟨z', H', I', rz, qz⟩ := z
  exact SlX.cmpback rz ⟨z', H', I', rz, qz⟩
end
end Pn

namespace Pn
open PySem PySem.W PyProof.Rows
/-! ### an own instance in a tuple of other things -/
section
variable {prog : Program} {w : World} {A : Around} {E : Value → Shared → Prop} {s : Shared} {K : Frag} {x C L f : Addr} {h₀ : Heap} {m : Str → Option Value} {ox : Obj} {od : Option Obj}
theorem rc_eq_own {y : Value} {T id : String} {Q : Value → Shared → Prop} (hT : s.TypeIs y T) (F : Fr h₀ L s.heap m) (X₀ : K.In h₀) (I : InstAt s.heap x ox C od) (hsub : subIn K (.ref C) (.type T) = some false) (slot : Slot T "__eq__" id)
    (hc1 : ∀ Q' : Value → Shared → Prop, Q' .notImplemented s → wpAny (model prog w) A (call (.builtin id) [y, .ref x]) Q' E s) (hs : findIn K (.ref C) "__eq__" = some (some (.ref f))) (hf : isFn K (.ref f) = true) (hu : A.units < cLine)
    (h : wpAny (model prog w) A (call (.ref f) [.ref x, y]) (W.CmpBack Q) E s) : wpAny (model prog w) A (richCompare .Eq y (.ref x)) Q E s := by
  have X := X₀.keeps F.keep
  have one : wpAny (model prog w) A (tryCompare (.ref x) (cmpInfo .Eq).2.2 y) (fun r s' => ∃ v, r = some v ∧ Q v s') E s := by
    unfold tryCompare
    refine wpAny_bind (ifBound_K X I hs hf (wpAny_mono h (fun v s' hv => ?_) fun _ _ e => e))
    cases v <;> first | exact hv.elim | exact wpAny_pure ⟨_, rfl, hv⟩
  unfold richCompare
  simp only [hT.oneThing_none]
  refine wpAny_holding ?_
  refine wpAny_bind (wpAny_cRoomFor hu ?_)
  refine wpAny_bind (wpAny_typeOf hT (wpAny_bind (I.type.here ?_)))
  rw [if_pos (show (Value.type T != Value.ref C) = true by rfl)]
  refine wpAny_bind ((looks_subIn X hsub).here ?_)
  simp only [Bool.false_eq_true, if_false]
  refine wpAny_bind (m := tryCompare y _ (.ref x)) (wpAny_tryCompare_declines hT slot (hc1 _ ⟨rfl, ?_⟩))
  simp only [Bool.not_false, if_true]
  refine wpAny_bind (wpAny_mono one (fun r s' z => ?_) fun _ _ e => e)
  obtain ⟨v, rfl, hq⟩ := z
  exact wpAny_pure hq
theorem eqb_own {y : Value} {T id : String} {Q : Bool → Shared → Prop} (hne : (y == Value.ref x) = false) (hT : s.TypeIs y T) (F : Fr h₀ L s.heap m) (X₀ : K.In h₀) (I : InstAt s.heap x ox C od) (hsub : subIn K (.ref C) (.type T) = some false) (slot : Slot T "__eq__" id)
    (hc1 : ∀ Q' : Value → Shared → Prop, Q' .notImplemented s → wpAny (model prog w) A (call (.builtin id) [y, .ref x]) Q' E s) (hs : findIn K (.ref C) "__eq__" = some (some (.ref f))) (hf : isFn K (.ref f) = true) (hu : A.units < cLine)
    (h : wpAny (model prog w) A (call (.ref f) [.ref x, y]) (fun v s' => ∃ b, v = .bool b ∧ Q b s') E s) : wpAny (model prog w) A (eqBool y (.ref x)) Q E s := by
  unfold eqBool
  refine wpAny_holding ?_
  rw [if_neg (by rw [hne]; exact Bool.false_ne_true)]
  have go : wpAny (model prog w) A (richCompare .Eq y (.ref x) >>= truthOfDropped) Q E s := by
    refine wpAny_bind (rc_eq_own hT F X₀ I hsub slot hc1 hs hf hu (wpAny_mono h (fun v s' z => ?_) fun _ _ e => e))
    obtain ⟨b, rfl, hq⟩ := z
    exact wpAny_truthy_bool hq
  show wpAny _ _ (match (y, Value.ref x) with
    | (Value.float bits tok, Value.float bits_1 tok_1) => (do
      if ← isSame y (Value.ref x) then return true
      truthOfDropped (← richCompare CmpOp.Eq y (Value.ref x)))
    | x_1 => (do truthOfDropped (← richCompare CmpOp.Eq y (Value.ref x)))) _ _ _
  split
  · rename_i e
    injection e with e1 e2
    cases e2
  · exact go
/-- a text, a tuple, None decline an own instance -/
theorem str_declines {z : Str} {t : Tok} {o : Obj} (ho : s.heap.get? x = some o) (hd : o.data = .plain) (hsub : Looks (model prog w) s.heap (isInstance (.ref x) (.type "str")) false) {Q' : Value → Shared → Prop} (h : Q' .notImplemented s) :
    wpAny (model prog w) A (call (.builtin "str.__eq__") [.str z t, .ref x]) Q' E s := by
  refine call_meets PySem.F.slot_str_eq (by exact rfl) PySem.F.entry_str_eq (PySem.F.args_str_eq_2 _ _) (S := fun _ R s => s.heap.get? x = some o ∧ R (.ok (.ret .notImplemented)) s) ?_ ⟨ho, h⟩
  exact .of_wp fun prog w A R s h => by
    obtain ⟨hp, g, d, tk, os⟩ := s
    obtain ⟨hl, h⟩ := h
    obtain ⟨oc, od, odt, osl⟩ := o
    simp only at hd
    subst hd
    wp_walk using wpAny_loadPart' hl, wpAny_load hl
    exact ⟨_, rfl, h⟩
theorem none_declines {Q' : Value → Shared → Prop} (h : Q' .notImplemented s) : wpAny (model prog w) A (call (.builtin "NoneType.__eq__") [.none, .ref x]) Q' E s :=
  call_gives PySem.F.slot_NoneType_eq (by exact rfl) PySem.F.entry_NoneType_eq (PySem.F.args_NoneType_eq_2 _ _) (SeqAt.NoneType___eq___none_ref_0 x) h
theorem tup_declines {l : Addr} {items : Array Value} {n : Nat} {dd : Option Addr} {sl : Array (Option Value)} (hl : s.heap.get? l = some { cls := .type "tuple", dict := dd, data := .seq items n, slots := sl })
    (X : K.In s.heap) (I : InstAt s.heap x ox C od) (hsub : subIn K (.ref C) (.type "tuple") = some false) {Q' : Value → Shared → Prop} (h : Q' .notImplemented s) :
    wpAny (model prog w) A (call (.builtin "tuple.__eq__") [.ref l, .ref x]) Q' E s := by
  refine call_meetsIn PySem.F.slot_tuple_eq ⟨_, hl, rfl⟩ PySem.F.entry_tuple_eq (PySem.F.args_tuple_eq_2 _ _) (S := fun _ R s' => s' = s ∧ R (.ok (.ret .notImplemented)) s) ?_ ⟨rfl, h⟩
  refine MeetsIn.of_wp fun A R s' h => ?_
  obtain ⟨rfl, h⟩ := h
  show wpAny _ _ (isInstance (.ref x) (.type "tuple") >>= _) _ _ _
  refine wpAny_bind (wpAny_bind (I.type.here ((looks_subIn X hsub).here ?_)))
  simp only [Bool.not_false, if_true]
  exact wpAny_pure ⟨_, rfl, h⟩
/-- x in t, where each item is equal to x or not by what J keeps -/
theorem tuple_containsJ (l : Addr) (items : Array Value) (n : Nat) (dd : Option Addr) (sl : Array (Option Value)) (x : Value) (J : Shared → Prop) :
    MeetsIn prog w (Builtin.«tuple.__contains__» ⟨[.ref l, x], []⟩) (fun A R s => s.heap.get? l = some { cls := .type "tuple", dict := dd, data := .seq items n, slots := sl } ∧ J s ∧
      (∀ y, y ∈ items → ∀ (s' : Shared) (E : Value → Shared → Prop) (Q : Bool → Shared → Prop), J s' → (∀ s'', J s'' → Q false s'') → (∀ e s'', R (.error e) s'' → E e s'') → wpAny (model prog w) A.in1 (eqBool y x) Q E s') ∧ ∀ s', J s' → R (.ok (.ret (.bool false))) s') :=
  .of_wp fun A R s h => by
    obtain ⟨hl, hJ, he, h⟩ := h
    have ht : IsTup s.heap l items := ⟨_, hl, rfl, n, rfl⟩
    show wpAny _ _ (Builtin.Tuple.tupleItemsOf (.ref l) >>= _) _ _ s
    refine wpAny_bind (tupleItemsOf_ ht ?_)
    refine wpAny_bind (forIn_array_ _ (fun rest b s' => b.1 = none ∧ J s' ∧ ∀ y, y ∈ rest → y ∈ items) _ ?_ ?_ items _ ⟨rfl, hJ, fun y hy => by simpa using hy⟩)
    · rintro y rest b s' ⟨hb, hJ', hm⟩
      refine wpAny_bind (he y (hm y List.mem_cons_self) s' _ _ hJ' (fun s'' hJ2 => ?_) fun e s'' z => z)
      refine wpAny_bind (wpAny_pure (wpAny_pure ?_))
      exact ⟨rfl, hJ2, fun z hz => hm z (List.mem_cons_of_mem _ hz)⟩
    · rintro ⟨b1, b2⟩ s' ⟨hb, hJ', _⟩
      simp only at hb
      subst hb
      exact wpAny_pure ⟨_, rfl, h s' hJ'⟩
end
end Pn
namespace Pn
open PySem L2
section
variable {X : Cx} {CX : CXT} {k : Nat} {f : Addr} {fd : FuncData} {ps : List Str} {sp : Sp} {E : XK}
/-- what an own instance may be looked for among: texts, None, tuples -/
def Other (K : PySem.W.Frag) (C : Addr) (H : Hp) (y : V) : Prop := (∃ z : Str, y = .str z ∧ PySem.W.subIn K (.ref C) (.type "str") = some false) ∨ (y = .non ∧ PySem.W.subIn K (.ref C) (.type "NoneType") = some false) ∨
  ∃ (b : Addr) (xs : List V), y = .ref b ∧ H b = some (.tup xs) ∧ PySem.W.subIn K (.ref C) (.type "tuple") = some false
/-- x in (..) of an own instance that is equal to none of them -/
def rInOwn (K : PySem.W.Frag) (f : Addr) (sp : Sp) (E : XK) : R2 := fun x t H Q => ∃ (a C dx l : Addr) (fs : List (Str × V)) (ys : List V), x = .ref a ∧ t = .ref l ∧ H a = some (.ins C dx fs) ∧ SqT K H l ys ∧ PySem.W.findIn K (.ref C) "__eq__" = some (some (.ref f)) ∧
  (∀ y ∈ ys, Other K C H y ∧ sp [.ref a, y] H (fun v H' => v = .bl false ∧ H' = H) E) ∧ Q (.bl false) H
theorem vals_mem : ∀ {xs : List V} {us : List Value} {u : Value}, Vals xs us → u ∈ us → ∃ x ∈ xs, RelV x u
  | _, _, _, .nil, h => by cases h
  | _, _, u, .cons a b, h => by
    rcases List.mem_cons.mp h with rfl | h
    · exact ⟨_, List.mem_cons_self, a⟩
    · obtain ⟨x, hx, r⟩ := vals_mem b h
      exact ⟨x, List.mem_cons_of_mem _ hx, r⟩
theorem op_inOwn (F : FnOk X.prog X.w X.K X.mg X.base CX k f fd ps sp) (hf : PySem.W.isFn X.K (.ref f) = true) (hr : Room (k + 1) X.A) (hb : Binds X.K fd ps []) (hx : Passes CX X E) : OpR X (compareOp .In) (rInOwn X.K f sp E) := by
  intro pins s σ H x t v u Q I rx rt h
  obtain ⟨a, C, dx, l, fs, ys, rfl, rfl, ha, hl, hs, hy, q⟩ := h
  cases rx
  cases rt
  have hr1 : Room k X.A.in1 := Room.in1 hr
  obtain ⟨its, rv, ⟨⟨oc, od, odt, osl⟩, ho, hc, n, hd⟩, _⟩ := I.tuple hl
  simp only at hc hd
  subst hc hd
  show wpAny (model X.prog X.w) X.A (do return .bool (← contains (.ref l) (.ref a))) (EP X pins σ Q) X.xe s
  refine wpAny_bind (wpAny_contains_slot ⟨_, ho, rfl⟩ PySem.F.slot_tuple_contains (wpAny_mono (PySem.call_meetsIn PySem.F.slot_tuple_contains ⟨_, ho, rfl⟩ PySem.F.entry_tuple_contains (PySem.F.args_tuple_contains_2 _ _)
    (tuple_containsJ l its.toArray n od osl (.ref a) (fun s' => Inv X pins σ H s')) (E := X.xe) (Q := fun v s' => v = .bool false ∧ Inv X pins σ H s') ⟨ho, I, fun y hyi s' E' Q' I' hQ' hE' => ?_, fun s' I' => ⟨rfl, I'⟩⟩) (fun v s' hv => ?_) fun _ _ e => e))
  · have hyl : y ∈ its := by simpa using hyi
    obtain ⟨yv, hyv, ry⟩ := vals_mem rv hyl
    obtain ⟨ho2, hsp⟩ := hy yv hyv
    obtain ⟨mA, O, _⟩ := ins_get I'.hok ha
    obtain ⟨od2, J, _⟩ := O.look
    obtain ⟨m, hF⟩ := I'.fr
    have run : wpAny (model X.prog X.w) X.A.in1 (call (.ref f) [.ref a, y]) (fun v s'' => ∃ b, v = .bool b ∧ Q' b s'') E' s' := by
      refine wpAny_mono (run_fnA F hr1 I'.env0.in1 hb hx I' (.cons (show RelV (.ref a) (Value.ref a) from rfl) (.cons ry .nil)) hsp) (fun w s'' z => ?_) (fun e s'' z => hE' e s'' z)
      obtain ⟨z', H', I2, rz, rfl, rfl⟩ := z
      cases (show w = Value.bool false from rz)
      exact ⟨false, rfl, hQ' _ I2⟩
    rcases ho2 with ⟨z, rfl, hsub⟩ | ⟨rfl, hsub⟩ | ⟨b, xs, rfl, hb2, hsub⟩
    · obtain ⟨tk, rfl⟩ := ry
      exact eqb_own (by rfl) (by exact rfl) hF I'.ok.mod.kin J hsub PySem.F.slot_str_eq (fun Q2 h2 => str_declines J.1 (by rfl) ((J.type.andThen (PySem.W.looks_subIn (I'.ok.mod.kin.keeps hF.keep) hsub))) h2) hs hf hr1.units0 run
    · cases ry
      exact eqb_own (by rfl) (by exact rfl) hF I'.ok.mod.kin J hsub PySem.F.slot_NoneType_eq (fun Q2 h2 => none_declines h2) hs hf hr1.units0 run
    · cases ry
      obtain ⟨its2, _, ⟨⟨oc2, od3, odt2, osl2⟩, ho3, hc3, n3, hd3⟩, _⟩ := I'.tuple (SqT.of hb2)
      simp only at hc3 hd3
      subst hc3 hd3
      refine eqb_own (by
        have ne : b ≠ a := fun z => by rw [z, ha] at hb2; cases hb2
        exact beq_eq_false_iff_ne.mpr fun z => ne (by injection z)) ⟨_, ho3, rfl⟩ hF I'.ok.mod.kin J hsub PySem.F.slot_tuple_eq (fun Q2 h2 => tup_declines ho3 (I'.ok.mod.kin.keeps hF.keep) J hsub h2) hs hf hr1.units0 run
  · obtain ⟨rfl, I'⟩ := hv
    exact wpAny_truthy_bool (wpAny_pure ⟨.bl false, H, I', rfl, q⟩)
end
end Pn

namespace Pn
open PySem L2
abbrev sIsInteger : Stmt := top 2
abbrev sIsNumber : Stmt := top 3
abbrev sIsPair : Stmt := top 4
/-! ### integers, numbers and pairs among data -/
def intD : PyData → Bool
  | .int _ => true
  | _ => false
def numD : PyData → Bool
  | .int i => decide (0 ≤ i)
  | _ => false
def pairD : PyData → Bool
  | .tuple ds => decide (ds.length = 2)
  | _ => false
/-- the type of data -/
def tyD : PyData → String
  | .none => "NoneType"
  | .bool _ => "bool"
  | .int _ => "int"
  | .str _ => "str"
  | .list _ => "list"
  | .tuple _ => "tuple"
  | .dict _ => "dict"
theorem dp_ty {K : PySem.W.Frag} {H : Hp} {v : V} {d : PyData} (h : Dp K H v d) : TyX K H v (.type (tyD d)) := by
  cases h with
  | non => exact .base .non
  | bl b => exact .base (.bl b)
  | int i => exact .base (.int i)
  | str x => exact .base (.str x)
  | lst s _ =>
    rcases s with (s | ⟨o, s⟩) | ⟨o, _, _, e, c, _⟩
    · exact .base (.lst s)
    · exact .base (.frz s)
    · exact .kList e c
  | tup s _ =>
    rcases s with (s | ⟨o, s⟩) | ⟨o, _, _, e, c, _⟩
    · exact .base (.tup s)
    · exact .fTuple s
    · exact .kTuple e c
def strT : PyData → Bool
  | .str _ => true
  | _ => false
def intT : PyData → Bool
  | .bool _ => true
  | .int _ => true
  | _ => false
def boolT : PyData → Bool
  | .bool _ => true
  | _ => false
def tupT : PyData → Bool
  | .tuple _ => true
  | _ => false
theorem kit_str : ∀ d : PyData, kitB (tyD d) "str" = some (strT d)
  | .none => (by decide +kernel : kitB "NoneType" "str" = some false)
  | .bool _ => (by decide +kernel : kitB "bool" "str" = some false)
  | .int _ => (by decide +kernel : kitB "int" "str" = some false)
  | .str _ => (by decide +kernel : kitB "str" "str" = some true)
  | .list _ => (by decide +kernel : kitB "list" "str" = some false)
  | .tuple _ => (by decide +kernel : kitB "tuple" "str" = some false)
  | .dict _ => (by decide +kernel : kitB "dict" "str" = some false)
theorem kit_int : ∀ d : PyData, kitB (tyD d) "int" = some (intT d)
  | .none => (by decide +kernel : kitB "NoneType" "int" = some false)
  | .bool _ => (by decide +kernel : kitB "bool" "int" = some true)
  | .int _ => (by decide +kernel : kitB "int" "int" = some true)
  | .str _ => (by decide +kernel : kitB "str" "int" = some false)
  | .list _ => (by decide +kernel : kitB "list" "int" = some false)
  | .tuple _ => (by decide +kernel : kitB "tuple" "int" = some false)
  | .dict _ => (by decide +kernel : kitB "dict" "int" = some false)
theorem kit_bool : ∀ d : PyData, kitB (tyD d) "bool" = some (boolT d)
  | .none => (by decide +kernel : kitB "NoneType" "bool" = some false)
  | .bool _ => (by decide +kernel : kitB "bool" "bool" = some true)
  | .int _ => (by decide +kernel : kitB "int" "bool" = some false)
  | .str _ => (by decide +kernel : kitB "str" "bool" = some false)
  | .list _ => (by decide +kernel : kitB "list" "bool" = some false)
  | .tuple _ => (by decide +kernel : kitB "tuple" "bool" = some false)
  | .dict _ => (by decide +kernel : kitB "dict" "bool" = some false)
theorem kit_tup : ∀ d : PyData, kitB (tyD d) "tuple" = some (tupT d)
  | .none => (by decide +kernel : kitB "NoneType" "tuple" = some false)
  | .bool _ => (by decide +kernel : kitB "bool" "tuple" = some false)
  | .int _ => (by decide +kernel : kitB "int" "tuple" = some false)
  | .str _ => (by decide +kernel : kitB "str" "tuple" = some false)
  | .list _ => (by decide +kernel : kitB "list" "tuple" = some false)
  | .tuple _ => (by decide +kernel : kitB "tuple" "tuple" = some true)
  | .dict _ => (by decide +kernel : kitB "dict" "tuple" = some false)
theorem dpAll_len {K : PySem.W.Frag} {H : Hp} : ∀ {vs : List V} {ds : List PyData}, DpAll K H vs ds → vs.length = ds.length
  | _, _, .nil => rfl
  | _, _, .cons _ b => congrArg (· + 1) (dpAll_len b)
/-- x in t, t a tuple, by data -/
def rInT (K : PySem.W.Frag) : R2 := fun x y H Q => ∃ d ds, Dp K H x d ∧ Dp K H y (.tuple ds) ∧ SeqAt.shaped d = true ∧ SeqAt.shaped (.tuple ds) = true ∧ Q (.bl (ds.any fun z => PyData.eqv z d)) H
theorem op_inT {X : Cx} (hu : X.A.units + 65 < cLine) : OpR X (compareOp .In) (rInT X.K) := by
  intro pins s σ H x y v u Q I rx ry h
  obtain ⟨d, ds, hd, he, sd, se, q⟩ := h
  obtain ⟨as, r1⟩ := Dp.reads I d x v hd rx
  obtain ⟨bs, r2⟩ := Dp.reads I (.tuple ds) y u he ry
  have z := SeqAt.depth_of_shaped sd
  exact SeqAt.in_tuple_reads r2 r1 (SeqAt.canLay_of_shaped se) (SeqAt.canLay_of_shaped sd) (by have := Nat.min_le_right (PyData.depthAll ds) d.depth; omega) ⟨.bl _, H, I, rfl, q⟩
theorem room65 {k : Nat} {A : Around} (r : Room k A) : A.units + 65 < cLine := by have := r.un; omega
theorem shaped_head {d : PyData} {ds : List PyData} (h : SeqAt.shaped (.tuple (d :: ds)) = true) : SeqAt.shaped d = true ∧ SeqAt.shaped (.tuple ds) = true := by
  have h1 := SeqAt.canLay_of_shaped h
  have h2 := SeqAt.depth_of_shaped h
  simp only [PyData.canLay0, PyData.canLayAll0, Bool.and_eq_true] at h1
  simp only [PyData.depth, PyData.depthAll] at h2
  unfold SeqAt.shaped
  refine ⟨?_, ?_⟩
  · rw [h1.1, decide_eq_true (show d.depth ≤ 64 by omega)]; rfl
  · have e1 : PyData.canLay0 (.tuple ds) = true := by simp only [PyData.canLay0]; exact h1.2
    have e2 : PyData.depth (.tuple ds) ≤ 64 := by simp only [PyData.depth]; omega
    rw [e1, decide_eq_true e2]; rfl
section
variable {P : Program} {w : World} {K : PySem.W.Frag} {mg : Str → Option Value} {base : Heap}
structure TKit (K : PySem.W.Frag) (mg : Str → Option Value) : Type where
  mInt : mg "int" = none
  mBool : mg "bool" = none
  mTup : mg "tuple" = none
  mIsi : mg "isinstance" = none
  mLen : mg "len" = none
  isInteger : At K mg "is_integer" sIsInteger ["value"]
  isNumber : At K mg "is_number" sIsNumber ["value"]
  isPair : At K mg "is_pair" sIsPair ["value"]
def spIsInteger (K : PySem.W.Frag) : Sp := fun vs H Q _ => ∃ (v : V) (d : PyData), vs = [v] ∧ Dp K H v d ∧ Q (.bl (intD d)) H
theorem scIsInteger : FnScope ["value"] ["value"] (defScope sIsInteger) := ⟨rfl, rfl, rfl, by decide +kernel, rfl, by decide +kernel, by decide +kernel⟩
theorem TKit.okInteger (T : TKit K mg) : FnOk P w K mg base CX0 1 T.isInteger.f T.isInteger.fd ["value"] (spIsInteger K) := by
  refine T.isInteger.F.ok scIsInteger (fun vs H Q E h => ?_) (fun cdv A outer s H vs Q E hr h => ?_)
  · obtain ⟨v, d, rfl, _⟩ := h
    rfl
  · obtain ⟨v, d, rfl, hd, q⟩ := h
    refine ⟨_, pss_one (ps_ret (pe_and (pe_callB call_isi (by rfl) T.mIsi (by decide +kernel) (pa_cons (pv 0) (pa_cons (pe_bltn (v := .ty "int") (by rfl) T.mInt (by decide +kernel) rfl) pa_nil)))
      (pe_one (pe_not (pe_callB call_isi (by rfl) T.mIsi (by decide +kernel) (pa_cons (pv 0) (pa_cons (pe_bltn (v := .ty "bool") (by rfl) T.mBool (by decide +kernel) rfl) pa_nil))))))), ?_⟩
    refine ⟨_, rfl, v, _, _, _, _, rfl, .ty _, dp_ty hd, kit_ty (kit_int d), _, rfl, ?_⟩
    cases d with
    | none => exact q
    | str z => exact q
    | list ds => exact q
    | tuple ds => exact q
    | dict ds => exact q
    | int i => exact ⟨_, rfl, v, _, _, _, _, rfl, .ty _, dp_ty hd, kit_ty (kit_bool _), _, rfl, q⟩
    | bool i => exact ⟨_, rfl, v, _, _, _, _, rfl, .ty _, dp_ty hd, kit_ty (kit_bool _), _, rfl, q⟩
def spIsNumber (K : PySem.W.Frag) : Sp := fun vs H Q _ => ∃ (v : V) (d : PyData), vs = [v] ∧ Dp K H v d ∧ Q (.bl (numD d)) H
theorem scIsNumber : FnScope ["value"] ["value"] (defScope sIsNumber) := ⟨rfl, rfl, rfl, by decide +kernel, rfl, by decide +kernel, by decide +kernel⟩
theorem TKit.okNumber (T : TKit K mg) : FnOk P w K mg base CX0 2 T.isNumber.f T.isNumber.fd ["value"] (spIsNumber K) := by
  refine T.isNumber.F.ok scIsNumber (fun vs H Q E h => ?_) (fun cdv A outer s H vs Q E hr h => ?_)
  · obtain ⟨v, d, rfl, _⟩ := h
    rfl
  · obtain ⟨v, d, rfl, hd, q⟩ := h
    refine ⟨_, pss_one (ps_ret (pe_and (pe_call T.okInteger hr rfl T.isInteger.m T.isInteger.F.kp T.isInteger.b .nil pass0 (pa_cons (pv 0) pa_nil)) (pe_one (pe_cmpR op_ge (pv 0) pe_int (nomark _))))), ?_⟩
    refine ⟨_, rfl, v, d, rfl, hd, _, rfl, ?_⟩
    cases d with
    | none => exact q
    | str z => exact q
    | list ds => exact q
    | tuple ds => exact q
    | dict ds => exact q
    | bool i => exact q
    | int i =>
      cases hd
      exact ⟨_, rfl, _, _, rfl, rfl, q⟩
def spIsPair (K : PySem.W.Frag) : Sp := fun vs H Q _ => ∃ (v : V) (d : PyData), vs = [v] ∧ Dp K H v d ∧ Q (.bl (pairD d)) H
theorem scIsPair : FnScope ["value"] ["value"] (defScope sIsPair) := ⟨rfl, rfl, rfl, by decide +kernel, rfl, by decide +kernel, by decide +kernel⟩
theorem TKit.okPair (T : TKit K mg) : FnOk P w K mg base CX0 1 T.isPair.f T.isPair.fd ["value"] (spIsPair K) := by
  refine T.isPair.F.ok scIsPair (fun vs H Q E h => ?_) (fun cdv A outer s H vs Q E hr h => ?_)
  · obtain ⟨v, d, rfl, _⟩ := h
    rfl
  · obtain ⟨v, d, rfl, hd, q⟩ := h
    refine ⟨_, pss_one (ps_ret (pe_and (pe_callB call_isi (by rfl) T.mIsi (by decide +kernel) (pa_cons (pv 0) (pa_cons (pe_bltn (v := .ty "tuple") (by rfl) T.mTup (by decide +kernel) rfl) pa_nil)))
      (pe_one (pe_cmpR op_eq (pe_callB call_len_seq (by rfl) T.mLen PySem.boot_len (pa_cons (pv 0) pa_nil)) pe_int (nomark _))))), ?_⟩
    refine ⟨_, rfl, v, _, _, _, _, rfl, .ty _, dp_ty hd, kit_ty (kit_tup d), _, rfl, ?_⟩
    cases d with
    | none => exact q
    | str z => exact q
    | list ds => exact q
    | dict ds => exact q
    | int i => exact q
    | bool i => exact q
    | tuple ds =>
      cases hd with
      | tup s a =>
        have e := dpAll_len a
        refine ⟨_, rfl, _, _, rfl, .inr s, rfl, ?_⟩
        rw [e]
        have e2 : decide (V.int (ds.length : Int) = V.int 2) = pairD (.tuple ds) := by
          show _ = decide (ds.length = 2)
          by_cases z : ds.length = 2
          · rw [z]; rfl
          · rw [decide_eq_false z, decide_eq_false]
            intro y
            injection y with y
            omega
        rw [e2]
        exact q
end
end Pn

namespace Pn
open PySem L2
abbrev sReck : Stmt := top 11
abbrev sTraced : Stmt := top 12
abbrev sJoined : Stmt := top 13
abbrev sIsTerm : Stmt := top 15
abbrev sTermText : Stmt := top 16
abbrev sIMInit : Stmt := inClass (top 8) 0
abbrev sMapInit : Stmt := inClass (top 17) 0
abbrev sMapCall : Stmt := inClass (top 17) 1
abbrev sMapShift : Stmt := inClass (top 17) 2
abbrev sMapStr : Stmt := inClass (top 17) 4
abbrev sMapEq : Stmt := inClass (top 17) 5
/-! ### terms and steps -/
inductive W3 where
  | now | box | at_
deriving DecidableEq
def W3.s : W3 → Str
  | .now => "now"
  | .box => "box"
  | .at_ => "at"
theorem W3.inj : ∀ {a b : W3}, a.s = b.s → a = b
  | .now, .now, _ => rfl
  | .box, .box, _ => rfl
  | .at_, .at_, _ => rfl
  | .now, .box, h => absurd h (by decide +kernel)
  | .now, .at_, h => absurd h (by decide +kernel)
  | .box, .now, h => absurd h (by decide +kernel)
  | .box, .at_, h => absurd h (by decide +kernel)
  | .at_, .now, h => absurd h (by decide +kernel)
  | .at_, .box, h => absurd h (by decide +kernel)
theorem wd (a b : W3) : decide (V.str a.s = V.str b.s) = decide (a = b) := by cases a <;> cases b <;> decide +kernel
abbrev Tm := W3 × Nat
abbrev Stp := Tm × Tm
def tv (t : Tm) : List V := [.str t.1.s, .int (t.2 : Int)]
def tD (t : Tm) : PyData := .tuple [.str t.1.s, .int (t.2 : Int)]
def reck : Tm → Int → Int → Int
  | (.now, m), n, _ => n + m
  | (.box, m), _, k => k + m
  | (.at_, m), _, _ => m
def trace : Tm → Stp → Tm
  | (.at_, m), _ => (.at_, m)
  | (.now, m), s => (s.1.1, s.1.2 + m)
  | (.box, m), s => (s.2.1, s.2.2 + m)
def join (s t : Stp) : Stp := (trace t.1 s, trace t.2 s)
def wordsD : List PyData := [.str "now", .str "box", .str "at"]
def termD : PyData → Bool
  | .tuple [a, b] => wordsD.any (fun z => PyData.eqv z a) && numD b
  | _ => false
theorem tD_term (t : Tm) : termD (tD t) = true := by
  obtain ⟨w, n⟩ := t
  show (wordsD.any (fun z => PyData.eqv z (.str w.s)) && decide (0 ≤ (n : Int))) = true
  rw [decide_eq_true (Int.natCast_nonneg n), Bool.and_true]
  cases w <;> decide +kernel
theorem tD_sh (t : Tm) : SeqAt.shaped (tD t) = true := by
  obtain ⟨w, n⟩ := t
  unfold SeqAt.shaped tD
  cases w <;> simp [PyData.canLay0, PyData.canLayAll0, PyData.depth, PyData.depthAll, W3.s] <;> decide +kernel
/-- a tuple that is a term, as data -/
theorem term_of {d : PyData} (h : termD d = true) : ∃ t : Tm, d = tD t := by
  match d, h with
  | .tuple [a, b], h =>
    obtain ⟨h1, h2⟩ := Bool.and_eq_true_iff.mp (show (wordsD.any (fun z => PyData.eqv z a) && numD b) = true from h)
    have hb : ∃ n : Nat, b = .int (n : Int) := by
      cases b with
      | int i => exact ⟨i.toNat, by rw [Int.toNat_of_nonneg (of_decide_eq_true (show decide (0 ≤ i) = true from h2))]⟩
      | none => cases h2
      | bool _ => cases h2
      | str _ => cases h2
      | list _ => cases h2
      | tuple _ => cases h2
      | dict _ => cases h2
    obtain ⟨n, rfl⟩ := hb
    have ha : ∃ w : W3, a = .str w.s := by
      cases a with
      | str z =>
        simp only [wordsD, List.any_cons, List.any_nil, PyData.eqv, Bool.or_false, Bool.or_eq_true, beq_iff_eq] at h1
        rcases h1 with h1 | h1 | h1
        · exact ⟨.now, by rw [← h1]; rfl⟩
        · exact ⟨.box, by rw [← h1]; rfl⟩
        · exact ⟨.at_, by rw [← h1]; rfl⟩
      | none => simp [wordsD, PyData.eqv] at h1
      | bool _ => simp [wordsD, PyData.eqv] at h1
      | int _ => simp [wordsD, PyData.eqv] at h1
      | list _ => simp [wordsD, PyData.eqv] at h1
      | tuple _ => simp [wordsD, PyData.eqv] at h1
      | dict _ => simp [wordsD, PyData.eqv] at h1
    obtain ⟨w, rfl⟩ := ha
    exact ⟨(w, n), rfl⟩
  | .tuple [], h => cases h
  | .tuple [_], h => cases h
  | .tuple (_ :: _ :: _ :: _), h => cases h
  | .none, h => cases h
  | .bool _, h => cases h
  | .int _, h => cases h
  | .str _, h => cases h
  | .list _, h => cases h
  | .dict _, h => cases h
theorem tm_dp {K : PySem.W.Frag} {H : Hp} {a : Addr} {t : Tm} (h : SqT K H a (tv t)) : Dp K H (.ref a) (tD t) := .tup h (.cons (.str _) (.cons (.int _) .nil))
theorem tD_eqv (t u : Tm) : PyData.eqv (tD t) (tD u) = decide (t = u) := by
  obtain ⟨w, n⟩ := t
  obtain ⟨x, m⟩ := u
  by_cases h : (w, n) = (x, m)
  · rw [decide_eq_true h]
    injection h with h1 h2
    subst h1
    subst h2
    exact SeqAt.eqv_refl _ (SeqAt.canLay_of_shaped (tD_sh _))
  · rw [decide_eq_false h]
    by_cases h1 : w = x
    · subst h1
      have h2 : ¬ (n : Int) = (m : Int) := fun z => h (by rw [Int.ofNat.inj z])
      simp [tD, PyData.eqv, PyData.eqvAll, h2]
    · have h2 : ¬ w.s = x.s := fun z => h1 (W3.inj z)
      simp [tD, PyData.eqv, PyData.eqvAll, h2]
def StepAt (K : PySem.W.Frag) (H : Hp) (p : Addr) (s : Stp) : Prop := ∃ a b : Addr, SqT K H p [.ref a, .ref b] ∧ SqT K H a (tv s.1) ∧ SqT K H b (tv s.2)
theorem StepAt.same {K : PySem.W.Frag} {H H' : Hp} {p : Addr} {s : Stp} (h : StepAt K H p s) (e : Same H H') : StepAt K H' p s := by
  obtain ⟨a, b, h1, h2, h3⟩ := h
  exact ⟨a, b, Same.sqt e h1, Same.sqt e h2, Same.sqt e h3⟩
section
variable {P : Program} {w : World} {K : PySem.W.Frag} {mg : Str → Option Value} {base : Heap}
structure TSteps (K : PySem.W.Frag) (mg : Str → Option Value) : Type extends TKit K mg where
  words : Addr
  mWords : mg "TERM_WORDS" = some (.ref words)
  hWords : ∀ H, SqT K H words [.str "now", .str "box", .str "at"]
  reck : At K mg "reckoned" sReck ["term", "number", "kept"]
  traced : At K mg "traced" sTraced ["term", "earlier"]
  joined : At K mg "joined" sJoined ["first", "second"]
  isTerm : At K mg "is_term" sIsTerm ["value"]
  termText : At K mg "term_text" sTermText ["term"]
def spReck (K : PySem.W.Frag) : Sp := fun vs H Q _ => ∃ (a : Addr) (t : Tm) (n k : Int), vs = [.ref a, .int n, .int k] ∧ SqT K H a (tv t) ∧ Q (.int (reck t n k)) H
theorem scReck : FnScope ["term", "number", "kept", "word", "more"] ["term", "number", "kept"] (defScope sReck) := ⟨rfl, rfl, rfl, by decide +kernel, rfl, by decide +kernel, by decide +kernel⟩
theorem TSteps.okReck (T : TSteps K mg) : FnOk P w K mg base CX0 1 T.reck.f T.reck.fd ["term", "number", "kept"] (spReck K) := by
  refine T.reck.F.ok scReck (fun vs H Q E h => ?_) (fun cdv A outer s H vs Q E hr h => ?_)
  · obtain ⟨a, t, n, k, rfl, _⟩ := h
    rfl
  · obtain ⟨a, t, n, k, rfl, ht, q⟩ := h
    refine ⟨_, pss_cons (ps_asg (pv 0) (pg_tup (by rfl) (pgs_cons (pg_name (i := 3) scReck.nd rfl (Or.inl rfl)) (pgs_cons (pg_name (i := 4) scReck.nd rfl (Or.inl rfl)) pgs_nil))))
      (pss_cons (ps_if (pt_cmpR op_eq (pv 3) pe_str (nomark _)) (pss_one (ps_ret (pe_op op_add (pv 1) (pv 4)))) pss_nil)
      (pss_cons (ps_if (pt_cmpR op_eq (pv 3) pe_str (nomark _)) (pss_one (ps_ret (pe_op op_add (pv 2) (pv 4)))) pss_nil)
      (pss_one (ps_ret (pv 4))))), ?_⟩
    obtain ⟨w, m⟩ := t
    refine ⟨_, rfl, a, _, rfl, ht, rfl, _, _, rfl, _, _, rfl, rfl, ?_⟩
    cases w with
    | now => exact ⟨_, rfl, rfl, _, rfl, iteTB (wd .now .now) ⟨_, rfl, _, rfl, _, _, rfl, rfl, q⟩⟩
    | box => exact ⟨_, rfl, rfl, _, rfl, iteFB (wd .box .now) ⟨_, rfl, rfl, _, rfl, iteTB (wd .box .box) ⟨_, rfl, _, rfl, _, _, rfl, rfl, q⟩⟩⟩
    | at_ => exact ⟨_, rfl, rfl, _, rfl, iteFB (wd .at_ .now) ⟨_, rfl, rfl, _, rfl, iteFB (wd .at_ .box) ⟨_, rfl, q⟩⟩⟩
def spTraced (K : PySem.W.Frag) : Sp := fun vs H Q _ => ∃ (a p : Addr) (t : Tm) (s : Stp), vs = [.ref a, .ref p] ∧ SqT K H a (tv t) ∧ StepAt K H p s ∧ ∀ r H', Same H H' → SqT K H' r (tv (trace t s)) → Q (.ref r) H'
theorem scTraced : FnScope ["term", "earlier", "word", "more", "now", "box"] ["term", "earlier"] (defScope sTraced) := ⟨rfl, rfl, rfl, by decide +kernel, rfl, by decide +kernel, by decide +kernel⟩
theorem TSteps.okTraced (T : TSteps K mg) : FnOk P w K mg base CX0 1 T.traced.f T.traced.fd ["term", "earlier"] (spTraced K) := by
  refine T.traced.F.ok scTraced (fun vs H Q E h => ?_) (fun cdv A outer s H vs Q E hr h => ?_)
  · obtain ⟨a, p, t, s, rfl, _⟩ := h
    rfl
  · obtain ⟨a, p, t, s, rfl, ht, ⟨b1, b2, hp, h1, h2⟩, q⟩ := h
    refine ⟨_, pss_cons (ps_asg (pv 0) (pg_tup (by rfl) (pgs_cons (pg_name (i := 2) scTraced.nd rfl (Or.inl rfl)) (pgs_cons (pg_name (i := 3) scTraced.nd rfl (Or.inl rfl)) pgs_nil))))
      (pss_cons (ps_if (pt_cmpR op_eq (pv 2) pe_str (nomark _)) (pss_one (ps_ret (pv 0))) pss_nil)
      (pss_cons (ps_asg (pv 1) (pg_tup (by rfl) (pgs_cons (pg_name (i := 4) scTraced.nd rfl (Or.inl rfl)) (pgs_cons (pg_name (i := 5) scTraced.nd rfl (Or.inl rfl)) pgs_nil))))
      (pss_cons (ps_if (pt_cmpR op_eq (pv 2) pe_str (nomark _)) (pss_one (ps_ret (pe_tup (pa_cons (pe_ix ix_tup (pv 4) pe_int (fun _ _ => rfl)) (pa_cons (pe_op op_add (pe_ix ix_tup (pv 4) pe_int (fun _ _ => rfl)) (pv 3)) pa_nil))))) pss_nil)
      (pss_one (ps_ret (pe_tup (pa_cons (pe_ix ix_tup (pv 5) pe_int (fun _ _ => rfl)) (pa_cons (pe_op op_add (pe_ix ix_tup (pv 5) pe_int (fun _ _ => rfl)) (pv 3)) pa_nil)))))))), ?_⟩
    obtain ⟨w, m⟩ := t
    obtain ⟨⟨w1, m1⟩, ⟨w2, m2⟩⟩ := s
    refine ⟨_, rfl, a, _, rfl, ht, rfl, _, _, rfl, _, _, rfl, rfl, ?_⟩
    cases w with
    | at_ => exact ⟨_, rfl, rfl, _, rfl, iteTB (wd .at_ .at_) ⟨_, rfl, q a _ (Same.refl _) ht⟩⟩
    | now =>
      refine ⟨_, rfl, rfl, _, rfl, iteFB (wd .now .at_) ?_⟩
      refine ⟨_, rfl, p, _, rfl, hp, rfl, _, _, rfl, _, _, rfl, rfl, ?_⟩
      refine ⟨_, rfl, rfl, _, rfl, iteTB (wd .now .now) ?_⟩
      exact ⟨_, rfl, b1, _, _, _, rfl, rfl, h1, atI_nat (j := 0) rfl, _, rfl, b1, _, _, _, rfl, rfl, h1, atI_nat (j := 1) rfl, _, rfl, _, _, rfl, rfl, (by show 2 ≤ sizeLine; decide), fun r hr => q r _ (Same.new hr) (SqT.of upd_same)⟩
    | box =>
      refine ⟨_, rfl, rfl, _, rfl, iteFB (wd .box .at_) ?_⟩
      refine ⟨_, rfl, p, _, rfl, hp, rfl, _, _, rfl, _, _, rfl, rfl, ?_⟩
      refine ⟨_, rfl, rfl, _, rfl, iteFB (wd .box .now) ?_⟩
      exact ⟨_, rfl, b2, _, _, _, rfl, rfl, h2, atI_nat (j := 0) rfl, _, rfl, b2, _, _, _, rfl, rfl, h2, atI_nat (j := 1) rfl, _, rfl, _, _, rfl, rfl, (by show 2 ≤ sizeLine; decide), fun r hr => q r _ (Same.new hr) (SqT.of upd_same)⟩
def spJoined (K : PySem.W.Frag) : Sp := fun vs H Q _ => ∃ (p q : Addr) (s t : Stp), vs = [.ref p, .ref q] ∧ StepAt K H p s ∧ StepAt K H q t ∧ ∀ r H', Same H H' → StepAt K H' r (join s t) → Q (.ref r) H'
theorem scJoined : FnScope ["first", "second"] ["first", "second"] (defScope sJoined) := ⟨rfl, rfl, rfl, by decide +kernel, rfl, by decide +kernel, by decide +kernel⟩
theorem TSteps.okJoined (T : TSteps K mg) : FnOk P w K mg base CX0 2 T.joined.f T.joined.fd ["first", "second"] (spJoined K) := by
  refine T.joined.F.ok scJoined (fun vs H Q E h => ?_) (fun cdv A outer s H vs Q E hr h => ?_)
  · obtain ⟨p, q, s, t, rfl, _⟩ := h
    rfl
  · obtain ⟨p, q, s, t, rfl, hp, hq, k⟩ := h
    refine ⟨_, pss_one (ps_ret (pe_tup (pa_cons (pe_call T.okTraced hr rfl T.traced.m T.traced.F.kp T.traced.b .nil pass0 (pa_cons (pe_ix ix_tup (pv 1) pe_int (fun _ _ => rfl)) (pa_cons (pv 0) pa_nil)))
      (pa_cons (pe_call T.okTraced hr rfl T.traced.m T.traced.F.kp T.traced.b .nil pass0 (pa_cons (pe_ix ix_tup (pv 1) pe_int (fun _ _ => rfl)) (pa_cons (pv 0) pa_nil))) pa_nil)))), ?_⟩
    obtain ⟨a, b, h0, h1, h2⟩ := id hq
    refine ⟨_, rfl, q, _, _, _, rfl, rfl, h0, atI_nat (j := 0) rfl, _, rfl, a, p, t.1, s, rfl, h1, hp, fun r1 H1 s1 hr1 => ?_⟩
    refine ⟨_, rfl, q, _, _, _, rfl, rfl, Same.sqt s1 h0, atI_nat (j := 1) rfl, _, rfl, b, p, t.2, s, rfl, Same.sqt s1 h2, hp.same s1, fun r2 H2 s2 hr2 => ?_⟩
    refine ⟨(by show 2 ≤ sizeLine; decide), fun r hr => k r _ (s1.trans (s2.trans (Same.new hr))) ?_⟩
    exact ⟨r1, r2, SqT.of upd_same, Same.sqt (s2.trans (Same.new hr)) hr1, Same.sqt (Same.new hr) hr2⟩
def spIsTerm (K : PySem.W.Frag) : Sp := fun vs H Q _ => ∃ (v : V) (d : PyData), vs = [v] ∧ Dp K H v d ∧ SeqAt.shaped d = true ∧ Q (.bl (termD d)) H
theorem scIsTerm : FnScope ["value"] ["value"] (defScope sIsTerm) := ⟨rfl, rfl, rfl, by decide +kernel, rfl, by decide +kernel, by decide +kernel⟩
theorem TSteps.okIsTerm (T : TSteps K mg) : FnOk P w K mg base CX0 3 T.isTerm.f T.isTerm.fd ["value"] (spIsTerm K) := by
  refine T.isTerm.F.ok scIsTerm (fun vs H Q E h => ?_) (fun cdv A outer s H vs Q E hr h => ?_)
  · obtain ⟨v, d, rfl, _⟩ := h
    rfl
  · obtain ⟨v, d, rfl, hd, hsh, q⟩ := h
    refine ⟨_, pss_one (ps_ret (pe_and (pe_call T.okPair (hr.mono (by decide)) rfl T.isPair.m T.isPair.F.kp T.isPair.b .nil pass0 (pa_cons (pv 0) pa_nil)) (pe_and (pe_cmpR (op_inT (room65 hr)) (pe_ix ix_tup (pv 0) pe_int (fun _ _ => rfl)) (pe_glob (v := .ref T.words) (by rfl) T.mWords rfl) rfl)
      (pe_one (pe_call T.okNumber (hr.mono (by decide)) rfl T.isNumber.m T.isNumber.F.kp T.isNumber.b .nil pass0 (pa_cons (pe_ix ix_tup (pv 0) pe_int (fun _ _ => rfl)) pa_nil)))))), ?_⟩
    refine ⟨_, rfl, v, d, rfl, hd, _, rfl, ?_⟩
    match d, hd, hsh, q with
    | .tuple [a, b], hd, hsh, q =>
      cases hd with
      | tup s al =>
        cases al with
        | cons ha al =>
          cases al with
          | cons hb al =>
            cases al
            rename_i va vb
            refine iteTB rfl ?_
            refine ⟨_, rfl, _, _, _, _, rfl, rfl, s, atI_nat (j := 0) rfl, a, wordsD, ha, .tup (T.hWords H) (.cons (.str _) (.cons (.str _) (.cons (.str _) .nil))), (shaped_head hsh).1, by decide +kernel, _, rfl, ?_⟩
            have e2 : termD (.tuple [a, b]) = (wordsD.any (fun z => PyData.eqv z a) && numD b) := rfl
            rw [e2] at q
            cases hw : wordsD.any (fun z => PyData.eqv z a) with
            | false =>
              rw [hw] at q
              exact iteF q
            | true =>
              rw [hw] at q
              exact iteT ⟨_, rfl, _, _, _, _, rfl, rfl, s, atI_nat (j := 1) rfl, vb, b, rfl, hb, q⟩
    | .tuple [], _, _, q => exact iteFB rfl q
    | .tuple [_], _, _, q => exact iteFB rfl q
    | .tuple (x :: y :: z :: r), _, _, q => exact iteFB (show decide ((x :: y :: z :: r).length = 2) = false from decide_eq_false (by simp only [List.length_cons]; omega)) q
    | .none, _, _, q => exact iteF q
    | .bool _, _, _, q => exact iteF q
    | .int _, _, _, q => exact iteF q
    | .str _, _, _, q => exact iteF q
    | .list _, _, _, q => exact iteF q
    | .dict _, _, _, q => exact iteF q
end
end Pn

namespace Pn
open PySem L2
theorem iteTD {c : Bool} {A B : Prop} (hc : c = true) (h : A) : if c = true then A else B := by
  rw [if_pos hc]
  exact h
theorem iteFD {c : Bool} {A B : Prop} (hc : c = false) (h : B) : if c = true then A else B := by
  rw [hc, if_neg Bool.false_ne_true]
  exact h
/-! ### own exceptions that keep one thing -/
theorem same_made {H1 : Hp} {a d : Addr} {y : V} {f : Str} {o1 o2 o3 : HO} (ha : H1 a = none) (hd : H1 d = none) : Same H1 (upd (del (upd (upd (upd H1 a o1) d o2) a o3) a) d (.xd [(f, y)])) := fun b o e => by
  have n1 : b ≠ a := ne_of_none e ha
  have n2 : b ≠ d := ne_of_none e hd
  rw [upd_ne n2, del_ne n1, upd_ne n1, upd_ne n2, upd_ne n1]
  exact e
/-- an own exception class of the text whose __init__ keeps one thing under the name fld -/
structure TExc (K : PySem.W.Frag) (mg : Str → Option Value) (x : Str) (qual fld : Str) (st : Stmt) : Type where
  C : Addr
  fI : Addr
  fd : FuncData
  F : Fun K "__init__" qual st fI fd
  b : Binds K fd ["self", fld] []
  m : mg x = some (.ref C)
  O : OexC K C
  iC : PySem.W.findIn K (.ref C) "__init__" = some (some (.ref fI))
  tI : PySem.W.typeIn K (.ref fI) = some (.type "function")
  noF : PySem.W.findIn K (.ref C) fld = some none
  E : ExcC K C
  isC : PySem.W.isClsIn K C = true
  te : PySem.W.exmOne K (.ref C) (.ref C) = some true
  xf : XfC K C
def spXInit (K : PySem.W.Frag) (fld : Str) : Sp := fun vs H Q _ => ∃ (a C : Addr) (v : V), vs = [.ref a, v] ∧ H a = some (exo a C none) ∧ OexC K C ∧ PySem.W.findIn K (.ref C) fld = some none ∧
  ∀ dx, H dx = none → dx ≠ a → Q .non (upd (upd H dx (exd dx [(fld, v)])) a (exo a C (some dx)))
/-- isinstance of the exception that a suite holds -/
def rIsX (K : PySem.W.Frag) (D a : Addr) (cls : Value) (d : Option Addr) : List V → Hp → VK → Prop := fun xs H Q => ∃ (c : V) (cv : Value) (b : Bool) (dd : Addr) (fs : List (Str × V)), xs = [.ref a, c] ∧ cls = .ref D ∧ ClsV c cv ∧ PySem.W.kitOne K (.ref D) cv = some b ∧ d = some dd ∧ H dd = some (.xd fs) ∧ Q (.bl b) H
theorem call_isX {X : Cx} {a D : Addr} {cls : Value} {d : Option Addr} {oe : Obj} {pn : List (Addr × Obj)} (C : ExcC X.K D) (hz : Zc cls d oe) (hf : ∃ vs, oe.data = .fields vs) : CallR (X.suite a ((a, oe) :: pn)) (.builtin "isinstance") (rIsX X.K D a cls d) := by
  intro pins s σ H xs us Q I r h
  obtain ⟨c, cv, b, dd, fs, rfl, rfl, hcv, e, rfl, hdd, q⟩ := h
  obtain ⟨u1, u2, rfl, r1, r2⟩ := vals2 r
  obtain rfl : u1 = Value.ref a := r1
  obtain rfl : u2 = cv := hcv.eq r2
  obtain ⟨hget, _⟩ := I.pin (a, oe) (List.mem_append.mpr (.inl List.mem_cons_self))
  obtain ⟨mA, hns, _⟩ : ObjOk X.prog X.w H s.heap dd (.xd fs) := I.hok dd _ hdd
  obtain ⟨od, ho, _⟩ := lookIn_ns hns
  obtain ⟨vs, hv⟩ := hf
  have J : PySem.W.InstAt s.heap a oe D (some od) := ⟨hget, hz.1, by unfold PySem.W.notCls; rw [hv] <;> rfl, by rw [hz.2]; exact ho⟩
  have hcl : (PySem.W.clsIn X.K D).isSome = true := by
    have q := C.hd
    unfold PySem.W.hasDictIn at q
    cases z : PySem.W.clsIn X.K D with
    | some cd => rfl
    | none => rw [z] at q; cases q
  exact PySem.W.kia_one (PySem.W.kitx_exc hcl C.hg C.hk C.hs C.ha C.hn C.ht C.hm) I.kIn J e (fun z => nomatch z) fun tk => ⟨.bl b, H, I.tok tk, rfl, q⟩
end Pn

namespace Pn
open PySem PySem.Spec PyProof.Rows L2
/-! ### the same exceptions, with what is known of their context -/
section
variable {X : Cx} {CX : CXT} {C fI : Addr} {k : Nat} {fd : FuncData} {ps : List Str} {sp : Sp} {ta : TA}
theorem pmk_oexN {x : Str} {e : Expr} {es : List Expr} {p pos : Pos} (T : OexC X.K C) (iC : PySem.W.findIn X.K (.ref C) "__init__" = some (some (.ref fI))) (tI : PySem.W.typeIn X.K (.ref fI) = some (.type "function"))
    (F1 : FnOk X.prog X.w X.K X.mg X.base CX k fI fd ps sp) (room : Room (k + 1) X.A) (bnd : Binds X.K fd ps []) (noE : Passes CX X (fun _ _ _ => False))
    (gl : Gl X x) (at_ : X.mg x = some (.ref C)) (ha : PA X (e :: es) ta) (hdb : (x == ("__debug__" : Str)) = false := by decide)
    (he : starEach (e :: es) X.env = (false, eval e X.env) :: starEach es X.env := by rfl) (hpl : (backTo pos (starEach es X.env)).any (·.1) = false := by rfl) :
    L2N.PMk X (.Call (.Name x p) (e :: es) [] pos) (tMkO C sp [] ta) := by
  intro pins s σ H Q I want
  rcases T.cls with ⟨c1, c2, c3, c4, mro, c5, c6, c7, c8, c9, d0, d1, d2, d3, d5, look, vet⟩
  apply wpAny_Call_Name_kw
  refine ld_glob I gl at_ ?_ hdb
  refine PySem.W.callWith_K (h₀ := X.base) I.ok.mod.kin T.kC ?_ he hpl
  refine thn (ha.run pos pins s σ H _ I want) ?_
  rintro us ⟨hp, gs, dr, tk, os⟩ ⟨vs, H1, J, rel, few, made⟩
  refine ⟨J.kIn, ?_⟩
  let a := hp.objs.size + 1
  let hp2 := (hp.push (PySem.W.kdv_tup us)).push (PySem.HandSPX.excO C hp.objs.size)
  have old : ∀ b o, hp.get? b = some o → hp2.get? b = some o := fun b o z => Heap.get?_push_of_some _ (Heap.get?_push_of_some _ z)
  have fresh : H1 a = none := J.hok.fresh (Nat.le_succ _)
  have there : hp2.get? a = some (PySem.HandSPX.excO C hp.objs.size) := by
    show ((hp.push (PySem.W.kdv_tup us)).push (PySem.HandSPX.excO C hp.objs.size)).get? (hp.objs.size + 1) = _
    heap_get
  have J2 : Inv X pins σ (upd H1 a (exo a C none)) ⟨hp2, gs, dr, tk, os⟩ := J.laid (t' := tk) (a := a) (o := exo a C none) (h' := hp2) old (Nat.le_succ _) (exo_ok there)
  have go := made a fresh
  rw [List.append_nil] at go
  have rel2 : Vals (V.ref a :: vs) (Value.ref a :: us) := .cons (show RelV (.ref a) (Value.ref a) from rfl) rel
  have cnt : (Value.ref a :: us ++ []).length = ps.length := by
    rw [List.append_nil, ← rel2.length]
    exact F1.len _ _ _ _ go
  have bd := bnd ⟨hp2, gs, dr, tk, os⟩ (Value.ref a :: us) J2.kIn cnt
  rw [List.append_nil] at bd
  have lim : us.length ≤ sizeLine := by
    rw [← Paired.length rel, sizeLine_eq]
    omega
  show wpAny _ _ (call (.ref C) us) _ _ _
  refine wpAny_call (PySem.HandSPX.call_own F.excBase_ValueError (fun Y => PySem.HandSPX.refsVE_contains Y mro vet) (J.kIn _ _ look) (PySem.W.looks_findIn J.kIn iC)
    (fun self => PySem.W.bind_fn J.kIn self tI) lim ?_)
  have ran := F1.run _ X.stack _ _ ⟨Value.ref a :: us, []⟩ (Value.ref a :: us) _ _ (fun _ _ _ => False) (room.make C us []) (J2.env0.make C us []) bd rel2 go
  refine codeAny_mono ran ?_
  intro r s' out
  match r, out with
  | .error er, out => exact noE pins σ _ _ er s' J2 out
  | .ok .next, out => exact False.elim out
  | .ok .brk, out => exact False.elim out
  | .ok .cont, out => exact False.elim out
  | .ok (.ret u), out =>
    obtain ⟨v, H2, osame, bare, un, ok2, rv, rfl, d, fs, ea, ed, dn, fin⟩ := out
    obtain ⟨h2, g2, dr2, t2, os2⟩ := s'
    obtain ⟨t0, G, J3, sub, gone, obj, untr⟩ := mk_end0 (d2 := dr2) (t2 := t2) J (Nat.le_succ _) old un ok2 osame bare ea ed dn
    exact ⟨rv, a, _, _, ⟨G, g2, dr2, t2, os2⟩, _, .ref C, some d, rfl, J3, sub, gone, obj, ⟨rfl, rfl, fun ws z => by cases z; rfl⟩, rfl, rfl, untr, rfl, bare, raises_own T.exC T.tyC, fin⟩
end
section
variable {P : Program} {w : World} {K : PySem.W.Frag} {mg : Str → Option Value} {base : Heap}
theorem funD {x qual : Str} {st : Stmt} {f : Addr} {fd : FuncData} (F : Fun K x qual st f fd) : FunD K x qual (defArgs st) (defBody st) (defScope st) [] [] f fd := by
  obtain ⟨oc, od, kV, doc, pm, an, cdv, ct, osl, e, l, c⟩ := F.ex
  exact ⟨⟨oc, od, _, kV, doc, pm, an, cdv, ct, osl, e, l, c, .inl ⟨rfl, rfl⟩, .inl rfl⟩, F.kp⟩
end
end Pn

namespace Pn
open PySem L2 TL
def numStr (n : Nat) : Str := Str.ofString (toString ((n : Nat) : Int))
theorem numStr_len {n : Nat} (h : n < 10 ^ 20) : (numStr n).length ≤ 20 := by
  rw [len_tl]
  show (tl (Str.ofString (toString ((n : Nat) : Int)))).length ≤ 20
  rw [tl_num]
  exact numL_len (by decide) h
theorem log_small {n : Nat} (h : n < 10 ^ 20) : (n : Int).natAbs.log2 < 1920 := by
  show n.log2 < 1920
  have : n < 2 ^ 1919 := Nat.lt_trans h (by decide +kernel)
  exact Nat.lt_of_lt_of_le (PySem.Flt.log2_lt_of (k := 1919) (by decide) this) (by decide)
theorem len3 {a b c : Str} (ha : a.length ≤ 200) (hb : b.length ≤ 200) (hc : c.length ≤ 200) : (((Str.empty ++ a) ++ b) ++ c).length ≤ sizeLine := by
  rw [strLen_append, strLen_append, strLen_append]
  exact Nat.le_trans (show _ ≤ 600 by have : (Str.empty : Str).length = 0 := rfl; omega) (by decide)
theorem len2 {a b : Str} (ha : a.length ≤ 200) (hb : b.length ≤ 200) : ((Str.empty ++ a) ++ b).length ≤ sizeLine := by
  rw [strLen_append, strLen_append]
  exact Nat.le_trans (show _ ≤ 400 by have : (Str.empty : Str).length = 0 := rfl; omega) (by decide)
theorem len1 {a : Str} (ha : a.length ≤ 200) : (Str.empty ++ a).length ≤ sizeLine := by
  rw [strLen_append]
  exact Nat.le_trans (show _ ≤ 200 by have : (Str.empty : Str).length = 0 := rfl; omega) (by decide)
end Pn

namespace Pn
open PySem L2
section
variable {P : Program} {w : World} {K : PySem.W.Frag} {mg : Str → Option Value} {base : Heap}
theorem scIMInit : FnScope ["self", "word"] ["self", "word"] (defScope sIMInit) := ⟨rfl, rfl, rfl, by decide +kernel, rfl, by decide +kernel, by decide +kernel⟩
abbrev TIM (K : PySem.W.Frag) (mg : Str → Option Value) := TExc K mg "InvalidMap" "InvalidMap.__init__" "word" sIMInit
theorem okIMInit (T : TIM K mg) : FnOk P w K mg base CX0 1 T.fI T.fd ["self", "word"] (spXInit K "word") := by
  refine T.F.ok scIMInit (fun vs H Q E h => ?_) (fun cdv A outer s H vs Q E hr h => ?_)
  · obtain ⟨a, C, v, rfl, _⟩ := h
    rfl
  · obtain ⟨a, C, v, rfl, ha, O, no, q⟩ := h
    refine ⟨_, pss_one (ps_ost (pv 0) (pv 1)), ?_⟩
    exact ⟨_, rfl, _, rfl, a, C, rfl, O, no, .inl ⟨ha, fun dx h1 h2 => q dx h1 h2⟩⟩
/-- an own exception that keeps a word leaves the def -/
def RaiseW (C : Addr) (H : Hp) (E : XK) (wd : V) : Prop := ∀ (e : Addr) (H' : Hp), Same H H' → Mo H H' → H e = none → H' e = some (.xd [("word", wd)]) → E (.ref C) (some e) H'
theorem RaiseW.back {C : Addr} {H H1 : Hp} {E : XK} {wd : V} (h : RaiseW C H E wd) (s : Same H H1) (m : Mo H H1) : RaiseW C H1 E wd := fun e H' h1 h2 h3 h4 => h e H' (s.trans h1) (m.trans h2) (m e h3) h4
theorem iw_made {C : Addr} {H H1 : Hp} {E : XK} {wd : V} (s : Same H H1) (m : Mo H H1) (h : RaiseW C H E wd) {a : Addr} (ha : H1 a = none) (dx : Addr) (h1 : (upd H1 a (exo a C none)) dx = none) (h2 : dx ≠ a) :
    E (.ref C) (some dx) (upd (del (upd (upd (upd H1 a (exo a C none)) dx (exd dx [("word", wd)])) a (exo a C (some dx))) a) dx (.xd [("word", wd)])) := by
  have hd : H1 dx = none := by rw [upd_ne h2] at h1; exact h1
  refine h dx _ (s.trans (same_made ha hd)) (m.trans fun b e => ?_) (m dx hd) upd_same
  by_cases n2 : b = dx
  · rw [n2]; exact hd
  · by_cases n1 : b = a
    · rw [n1]; exact ha
    · rw [upd_ne n2, del_ne n1, upd_ne n1, upd_ne n2, upd_ne n1] at e
      exact e
/-- all but the new instance is as it was -/
def KpI (x : Addr) (H H' : Hp) : Prop := ∀ b o, H b = some o → b ≠ x → H' b = some o
theorem kpi_same2 {H H1 : Hp} {x dx : Addr} {o o2 : HO} (hx : H x = none) (hdx : H dx = none) (k : KpI x (upd (upd H dx o) x o2) H1) : Same H H1 := fun b u e => by
  have n1 : b ≠ x := ne_of_none e hx
  have n2 : b ≠ dx := ne_of_none e hdx
  exact k b u (by rw [upd_ne n1, upd_ne n2]; exact e) n1
/-- a method of an own class -/
structure TMeth (K : PySem.W.Frag) (C : Addr) (nm qual : Str) (st : Stmt) (ps : List Str) : Type where
  f : Addr
  fd : FuncData
  F : Fun K nm qual st f fd
  b : Binds K fd ps []
  hs : PySem.W.findIn K (.ref C) nm = some (some (.ref f))
  hf : PySem.W.isFn K (.ref f) = true
def insMap (C dx : Addr) (v u : V) : HO := .ins C dx (putF "box" u (putF "now" v []))
theorem map_now {v u : V} : (putF "box" u (putF "now" v ([] : List (Str × V)))).lookup ("now" : Str) = some v := by
  rw [lookup_putF, if_neg (by decide +kernel), lookup_putF, if_pos rfl]
theorem map_box {v u : V} : (putF "box" u (putF "now" v ([] : List (Str × V)))).lookup ("box" : Str) = some u := by
  rw [lookup_putF, if_pos rfl]
/-- the class of maps -/
structure TMap (K : PySem.W.Frag) (mg : Str → Option Value) : Type extends TSteps K mg where
  IM : TIM K mg
  C : Addr
  mC : mg "Map" = some (.ref C)
  fI : Addr
  fdI : FuncData
  dNow : Addr
  dBox : Addr
  hNow : ∀ H, SqT K H dNow (tv (.now, 0))
  hBox : ∀ H, SqT K H dBox (tv (.box, 0))
  FI : FunD K "__init__" "Map.__init__" (defArgs sMapInit) (defBody sMapInit) (defScope sMapInit) [.ref dNow, .ref dBox] [] fI fdI
  bI : Binds K fdI ["self", "now", "box"] []
  ds0 : List Value
  v0 : Vals [V.ref dNow, V.ref dBox] ds0
  b0 : Binds K fdI ["self", "now", "box"] ds0
  ds1 : List Value
  v1 : Vals [V.ref dBox] ds1
  b1 : Binds K fdI ["self", "now", "box"] ds1
  M : Mk K C fI
  cl : Cls K C
  noN : NoAttr K C "now"
  noB : NoAttr K C "box"
  sf : PySem.W.selfFirst K C = true
  kC : PySem.W.kitOne K (.ref C) (.ref C) = some true
  nC : PySem.W.notFirst K C (.ref C) = true
  cA : PySem.W.findIn K (.ref C) "__class__" = some (some (.builtin "object.__class__"))
  cN : PySem.W.specialIn K (.builtin "object.__class__") "__get__" = some (some (.builtin "getset_descriptor.__get__"))
  cT : PySem.W.takesIn K (.builtin "object.__class__") = some true
  cM : PySem.W.mroIn K C (.type "object") = some true
  ne : PySem.W.findIn K (.ref C) "__ne__" = some (some (.builtin "object.__ne__"))
  call : TMeth K C "__call__" "Map.__call__" sMapCall ["self", "number", "kept"]
  callC : StX.CallO K C call.f
  shift : TMeth K C "__rshift__" "Map.__rshift__" sMapShift ["self", "other"]
  str : TMeth K C "__str__" "Map.__str__" sMapStr ["self"]
  eq : TMeth K C "__eq__" "Map.__eq__" sMapEq ["self", "other"]
def MapAt (T : TMap K mg) (H : Hp) (x : Addr) (s : Stp) : Prop := ∃ dx a b, H x = some (insMap T.C dx (.ref a) (.ref b)) ∧ SqT K H a (tv s.1) ∧ SqT K H b (tv s.2)
theorem MapAt.same {T : TMap K mg} {H H' : Hp} {x : Addr} {s : Stp} (h : MapAt T H x s) (e : Same H H') : MapAt T H' x s := by
  obtain ⟨dx, a, b, h1, h2, h3⟩ := h
  exact ⟨dx, a, b, e _ _ h1, Same.sqt e h2, Same.sqt e h3⟩
def spMapInit (K : PySem.W.Frag) (C CR : Addr) : Sp := fun vs H Q E => ∃ (x dx : Addr) (v u : V) (d e : PyData), vs = [.ref x, v, u] ∧ H x = some (.ins C dx []) ∧ Dp K H v d ∧ SeqAt.shaped d = true ∧ Dp K H u e ∧ SeqAt.shaped e = true ∧
  (termD d = true → termD e = true → ∀ H', KpI x H H' → Mo H H' → H' x = some (insMap C dx v u) → Q .non H') ∧ (termD d = false → RaiseW CR H E (.str "now")) ∧ (termD d = true → termD e = false → RaiseW CR H E (.str "box"))
theorem scMapInit : FnScope ["self", "now", "box"] ["self", "now", "box"] (defScope sMapInit) := ⟨rfl, rfl, rfl, by decide +kernel, rfl, by decide +kernel, by decide +kernel⟩
theorem okMapInit (T : TMap K mg) : FnOk P w K mg base (L2N.CX P w) 5 T.fI T.fdI ["self", "now", "box"] (spMapInit K T.C T.IM.C) := by
  refine T.FI.ok scMapInit (fun vs H Q E h => ?_) (fun cdv A outer s H vs Q E hr h => ?_)
  · obtain ⟨x, dx, v, u, d, e, rfl, _⟩ := h
    rfl
  · obtain ⟨x, dx, v, u, d, e, rfl, hx, hd, sd, he, se, q1, q2, q3⟩ := h
    refine ⟨_, pss_cons (ps_if (pt_not (pt_val (pe_call T.okIsTerm (hr.mono (by decide)) rfl T.isTerm.m T.isTerm.F.kp T.isTerm.b .nil pass0 (pa_cons (pv 1) pa_nil))))
        (pss_one (L2N.ps_raise rfl (L2N.takes_of rfl rfl rfl rfl) (pmk_oexN T.IM.O T.IM.iC T.IM.tI (okIMInit T.IM) (hr.mono (by decide)) T.IM.b pass0 rfl T.IM.m (pa_cons pe_str pa_nil)))) pss_nil)
      (pss_cons (ps_if (pt_not (pt_val (pe_call T.okIsTerm (hr.mono (by decide)) rfl T.isTerm.m T.isTerm.F.kp T.isTerm.b .nil pass0 (pa_cons (pv 2) pa_nil))))
        (pss_one (L2N.ps_raise rfl (L2N.takes_of rfl rfl rfl rfl) (pmk_oexN T.IM.O T.IM.iC T.IM.tI (okIMInit T.IM) (hr.mono (by decide)) T.IM.b pass0 rfl T.IM.m (pa_cons pe_str pa_nil)))) pss_nil)
      (pss_cons (ps_fld (pv 0) (pv 1) rfl) (pss_one (ps_fld (pv 0) (pv 2) rfl)))), ?_⟩
    refine ⟨_, rfl, v, d, rfl, hd, sd, ?_⟩
    cases h1 : termD d with
    | false =>
      refine ⟨false, rfl, iteT ?_⟩
      exact ⟨(by show 1 ≤ 1000; decide), fun a ha => ⟨a, T.IM.C, _, rfl, upd_same, T.IM.O, T.IM.noF, fun dx g1 g2 => ⟨rfl, dx, _, upd_same, by rw [upd_ne g2, upd_same], by rw [upd_ne g2] at g1; exact g1, iw_made (Same.refl H) (Mo.refl H) (q2 h1) ha dx g1 g2⟩⟩⟩
    | true =>
      refine ⟨true, rfl, iteF ?_⟩
      refine ⟨_, rfl, u, e, rfl, he, se, ?_⟩
      cases h2 : termD e with
      | false =>
        refine ⟨false, rfl, iteT ?_⟩
        exact ⟨(by show 1 ≤ 1000; decide), fun a ha => ⟨a, T.IM.C, _, rfl, upd_same, T.IM.O, T.IM.noF, fun dx g1 g2 => ⟨rfl, dx, _, upd_same, by rw [upd_ne g2, upd_same], by rw [upd_ne g2] at g1; exact g1, iw_made (Same.refl H) (Mo.refl H) (q3 h1 h2) ha dx g1 g2⟩⟩⟩
      | true =>
        refine ⟨true, rfl, iteF ?_⟩
        refine ⟨_, rfl, _, rfl, x, T.C, dx, [], rfl, hx, T.cl, T.noN, (by show 0 < 1000; decide), _, rfl, _, rfl, x, T.C, dx, _, rfl, upd_same, T.cl, T.noB, (by show 1 < 1000; decide), ?_⟩
        refine q1 h1 h2 _ (fun b o e n => ?_) (Mo.upd.trans Mo.upd) upd_same
        rw [upd_ne n, upd_ne n]
        exact e
def spMapCall (T : TMap K mg) : Sp := fun vs H Q _ => ∃ (x : Addr) (s : Stp) (n k : Int), vs = [.ref x, .int n, .int k] ∧ MapAt T H x s ∧ ∀ r H', Same H H' → SqT K H' r [.int (reck s.1 n k), .int (reck s.2 n k)] → Q (.ref r) H'
theorem scMapCall : FnScope ["self", "number", "kept"] ["self", "number", "kept"] (defScope sMapCall) := ⟨rfl, rfl, rfl, by decide +kernel, rfl, by decide +kernel, by decide +kernel⟩
theorem okMapCall (T : TMap K mg) : FnOk P w K mg base CX0 2 T.call.f T.call.fd ["self", "number", "kept"] (spMapCall T) := by
  refine T.call.F.ok scMapCall (fun vs H Q E h => ?_) (fun cdv A outer s H vs Q E hr h => ?_)
  · obtain ⟨x, s, n, k, rfl, _⟩ := h
    rfl
  · obtain ⟨x, s, n, k, rfl, ⟨dx, a, b, hx, ha, hb⟩, q⟩ := h
    refine ⟨_, pss_one (ps_ret (pe_tup (pa_cons (pe_call T.okReck hr rfl T.reck.m T.reck.F.kp T.reck.b .nil pass0 (pa_cons (pe_fld (pv 0) rfl) (pa_cons (pv 1) (pa_cons (pv 2) pa_nil))))
      (pa_cons (pe_call T.okReck hr rfl T.reck.m T.reck.F.kp T.reck.b .nil pass0 (pa_cons (pe_fld (pv 0) rfl) (pa_cons (pv 1) (pa_cons (pv 2) pa_nil)))) pa_nil)))), ?_⟩
    refine ⟨_, rfl, x, T.C, dx, _, .ref a, rfl, hx, T.cl, T.noN, map_now, _, rfl, _, rfl, a, s.1, n, k, rfl, ha, ?_⟩
    refine ⟨_, rfl, x, T.C, dx, _, .ref b, rfl, hx, T.cl, T.noB, map_box, _, rfl, _, rfl, b, s.2, n, k, rfl, hb, ?_⟩
    exact ⟨(by show 2 ≤ sizeLine; decide), fun r hr2 => q r _ (Same.new hr2) (SqT.of upd_same)⟩
def spMapShift (T : TMap K mg) : Sp := fun vs H Q _ => ∃ (x y : Addr) (s t : Stp), vs = [.ref x, .ref y] ∧ MapAt T H x s ∧ MapAt T H y t ∧ ∀ r H', Same H H' → MapAt T H' r (join s t) → Q (.ref r) H'
theorem scMapShift : FnScope ["self", "other", "now", "box"] ["self", "other"] (defScope sMapShift) := ⟨rfl, rfl, rfl, by decide +kernel, rfl, by decide +kernel, by decide +kernel⟩
theorem map_cls (T : TMap K mg) {H : Hp} {x dx : Addr} {v u : V} (h : H x = some (insMap T.C dx v u)) : TyX K H (.ref x) (.ref T.C) := .base (.ins h T.cl T.cA T.cN T.cT T.cM)
/-- a new map of terms that stand -/
theorem map_made (T : TMap K mg) {H : Hp} {R : Addr → Hp → Prop} {a b : Addr} {s : Stp} (ha : SqT K H a (tv s.1)) (hb : SqT K H b (tv s.2)) (k : ∀ r H', Same H H' → MapAt T H' r s → R r H') :
    ∀ x dx, H x = none → H dx = none → dx ≠ x → spMapInit K T.C T.IM.C [.ref x, .ref a, .ref b] (upd (upd H dx (.own x)) x (.ins T.C dx [])) (fun v H2 => v = .non ∧ R x H2) E0 := fun x dx hx hdx ne => by
  have s1 : Same H (upd (upd H dx (.own x)) x (.ins T.C dx [])) := fun c o e => by rw [upd_ne (ne_of_none e hx), upd_ne (ne_of_none e hdx)]; exact e
  refine ⟨x, dx, _, _, tD s.1, tD s.2, rfl, upd_same, tm_dp (Same.sqt s1 ha), tD_sh _, tm_dp (Same.sqt s1 hb), tD_sh _, fun _ _ H1 kp m hi => ⟨rfl, k x H1 (kpi_same2 hx hdx kp) ?_⟩, fun z => absurd (tD_term s.1) (by rw [z]; decide), fun _ z => absurd (tD_term s.2) (by rw [z]; decide)⟩
  have s2 := kpi_same2 hx hdx kp
  exact ⟨dx, a, b, hi, Same.sqt s2 ha, Same.sqt s2 hb⟩
theorem passN0 {P : Program} {w : World} {X : Cx} : Passes (L2N.CX P w) X E0 := fun _ _ _ _ _ _ _ ⟨_, _, _, _, _, _, _, _, _, _, _, _, h⟩ => h.elim
theorem okMapShift (T : TMap K mg) : FnOk P w K mg base CX0 7 T.shift.f T.shift.fd ["self", "other"] (spMapShift T) := by
  refine T.shift.F.ok scMapShift (fun vs H Q E h => ?_) (fun cdv A outer s H vs Q E hr h => ?_)
  · obtain ⟨x, y, s, t, rfl, _⟩ := h
    rfl
  · obtain ⟨x, y, s, t, rfl, ⟨dx, a, b, hx, ha, hb⟩, ⟨dy, a', b', hy, ha', hb'⟩, q⟩ := h
    refine ⟨_, pss_cons (ps_if (pt_not (pt_val (pe_callB call_isi (by rfl) T.mIsi (by decide +kernel) (pa_cons (pv 1) (pa_cons (pe_glob (v := .ref T.C) (by rfl) T.mC rfl) pa_nil))))) pss_never pss_nil)
      (pss_cons (ps_asg (pe_call T.okJoined (hr.mono (by decide)) rfl T.joined.m T.joined.F.kp T.joined.b .nil pass0 (pa_cons (pe_tup (pa_cons (pe_fld (pv 0) rfl) (pa_cons (pe_fld (pv 0) rfl) pa_nil))) (pa_cons (pe_tup (pa_cons (pe_fld (pv 1) rfl) (pa_cons (pe_fld (pv 1) rfl) pa_nil))) pa_nil))) (pg_tup (by rfl) (pgs_cons (pg_name (i := 2) scMapShift.nd rfl (Or.inl rfl)) (pgs_cons (pg_name (i := 3) scMapShift.nd rfl (Or.inl rfl)) pgs_nil))))
      (pss_one (ps_ret (pe_make T.M (okMapInit T) hr rfl T.mC T.bI .nil passN0 (pa_cons (pv 2) (pa_cons (pv 3) pa_nil)))))), ?_⟩
    refine ⟨_, rfl, .ref y, .ref T.C, _, _, true, rfl, .own _, map_cls T hy, T.kC, true, rfl, iteF ?_⟩
    refine ⟨_, rfl, x, T.C, dx, _, .ref a, rfl, hx, T.cl, T.noN, map_now, _, rfl, x, T.C, dx, _, .ref b, rfl, hx, T.cl, T.noB, map_box, (by show 2 ≤ sizeLine; decide), fun p hp => ?_⟩
    have s1 := Same.new (o := .tup [.ref a, .ref b]) hp
    have hp1 : upd H p (.tup [.ref a, .ref b]) p = some (.tup [.ref a, .ref b]) := upd_same
    generalize upd H p (.tup [V.ref a, V.ref b]) = H1 at s1 hp1 ⊢
    refine ⟨_, rfl, y, T.C, dy, _, .ref a', rfl, s1 _ _ hy, T.cl, T.noN, map_now, _, rfl, y, T.C, dy, _, .ref b', rfl, s1 _ _ hy, T.cl, T.noB, map_box, (by show 2 ≤ sizeLine; decide), fun p2 hp2 => ?_⟩
    have s2 := s1.trans (Same.new (o := .tup [.ref a', .ref b']) hp2)
    have hp3 := (Same.new (o := .tup [.ref a', .ref b']) hp2) _ _ hp1
    have hp4 : upd H1 p2 (.tup [.ref a', .ref b']) p2 = some (.tup [.ref a', .ref b']) := upd_same
    generalize upd H1 p2 (.tup [V.ref a', V.ref b']) = H2 at s2 hp3 hp4 ⊢
    refine ⟨p, p2, s, t, rfl, ⟨a, b, SqT.of hp3, Same.sqt s2 ha, Same.sqt s2 hb⟩, ⟨a', b', SqT.of hp4, Same.sqt s2 ha', Same.sqt s2 hb'⟩, fun r H3 s3 hr3 => ?_⟩
    obtain ⟨c1, c2, k1, k2, k3⟩ := hr3
    refine ⟨r, _, rfl, k1, rfl, _, _, rfl, _, _, rfl, rfl, ?_⟩
    refine ⟨_, rfl, _, rfl, ?_⟩
    exact map_made T k2 k3 fun r' H' s' h' => q r' H' (s2.trans (s3.trans s')) h'
end
end Pn

namespace Pn
open PySem L2
/-! ### texts of maps, == and >> of maps, as rules -/
def tmText : Tm → Str
  | (.at_, m) => (Str.empty ++ ("at " : Str)) ++ numStr m
  | (.now, m) => ((Str.empty ++ ("now" : Str)) ++ ("+" : Str)) ++ numStr m
  | (.box, m) => ((Str.empty ++ ("box" : Str)) ++ ("+" : Str)) ++ numStr m
def mapText (s : Stp) : Str := ((Str.empty ++ tmText s.1) ++ (" " : Str)) ++ tmText s.2
theorem tmText_len {t : Tm} (h : t.2 < 10 ^ 20) : (tmText t).length ≤ 100 := by
  obtain ⟨w, m⟩ := t
  have hn : (numStr m).length ≤ 20 := numStr_len h
  have e0 : (Str.empty : Str).length = 0 := rfl
  have e1 : ("at " : Str).length = 3 := by decide +kernel
  have e2 : ("now" : Str).length = 3 := by decide +kernel
  have e3 : ("box" : Str).length = 3 := by decide +kernel
  have e4 : ("+" : Str).length = 1 := by decide +kernel
  cases w with
  | at_ => show ((Str.empty ++ ("at " : Str)) ++ numStr m).length ≤ 100; rw [strLen_append, strLen_append]; omega
  | now => show (((Str.empty ++ ("now" : Str)) ++ ("+" : Str)) ++ numStr m).length ≤ 100; rw [strLen_append, strLen_append, strLen_append]; omega
  | box => show (((Str.empty ++ ("box" : Str)) ++ ("+" : Str)) ++ numStr m).length ≤ 100; rw [strLen_append, strLen_append, strLen_append]; omega
theorem wl (w : W3) : w.s.length ≤ 200 := by cases w <;> decide +kernel
theorem wl2 (w : W3) : w.s.length ≤ sizeLine := Nat.le_trans (wl w) (by decide)
def smallS (s : Stp) : Prop := s.1.2 < 10 ^ 20 ∧ s.2.2 < 10 ^ 20
section
variable {P : Program} {w : World} {K : PySem.W.Frag} {mg : Str → Option Value} {base : Heap}
def spTermText (K : PySem.W.Frag) : Sp := fun vs H Q _ => ∃ (a : Addr) (t : Tm), vs = [.ref a] ∧ SqT K H a (tv t) ∧ t.2 < 10 ^ 20 ∧ Q (.str (tmText t)) H
theorem scTermText : FnScope ["term", "word", "more"] ["term"] (defScope sTermText) := ⟨rfl, rfl, rfl, by decide +kernel, rfl, by decide +kernel, by decide +kernel⟩
theorem okTermText (T : TSteps K mg) : FnOk P w K mg base CX0 1 T.termText.f T.termText.fd ["term"] (spTermText K) := by
  refine T.termText.F.ok scTermText (fun vs H Q E h => ?_) (fun cdv A outer s H vs Q E hr h => ?_)
  · obtain ⟨a, t, rfl, _⟩ := h
    rfl
  · obtain ⟨a, t, rfl, ht, hn, q⟩ := h
    refine ⟨_, pss_cons (ps_asg (pv 0) (pg_tup (by rfl) (pgs_cons (pg_name (i := 1) scTermText.nd rfl (Or.inl rfl)) (pgs_cons (pg_name (i := 2) scTermText.nd rfl (Or.inl rfl)) pgs_nil))))
      (pss_cons (ps_if (pt_cmpR op_eq (pv 1) pe_str (nomark _)) (pss_one (ps_ret (pe_joined (.cons pe_str (.cons (pe_fmt (pv 2)) .nil))))) pss_nil)
      (pss_one (ps_ret (pe_joined (.cons (pe_fmt (pv 1)) (.cons pe_str (.cons (pe_fmt (pv 2)) .nil))))))), ?_⟩
    obtain ⟨w, m⟩ := t
    have hn' : m < 10 ^ 20 := hn
    have sn := numStr_len hn'
    have s1 : ("at " : Str).length ≤ 200 := by decide +kernel
    have s2 : ("+" : Str).length ≤ 200 := by decide +kernel
    refine ⟨_, rfl, a, _, rfl, ht, rfl, _, _, rfl, _, _, rfl, rfl, ?_⟩
    cases w with
    | at_ => exact ⟨_, rfl, rfl, _, rfl, iteTB (wd .at_ .at_) ⟨_, rfl, len1 s1, _, rfl, .inr ⟨(m : Int), rfl, log_small hn', numStr m, rfl, len2 s1 (by omega), q⟩⟩⟩
    | now => exact ⟨_, rfl, rfl, _, rfl, iteFB (wd .now .at_) ⟨_, rfl, .inl ⟨_, rfl, (wl2 .now), _, rfl, len1 (wl .now), _, rfl, len2 (wl .now) s2, _, rfl, .inr ⟨(m : Int), rfl, log_small hn', numStr m, rfl, len3 (wl .now) s2 (by omega), q⟩⟩⟩⟩
    | box => exact ⟨_, rfl, rfl, _, rfl, iteFB (wd .box .at_) ⟨_, rfl, .inl ⟨_, rfl, (wl2 .box), _, rfl, len1 (wl .box), _, rfl, len2 (wl .box) s2, _, rfl, .inr ⟨(m : Int), rfl, log_small hn', numStr m, rfl, len3 (wl .box) s2 (by omega), q⟩⟩⟩⟩
def spMapStr (T : TMap K mg) : Sp := fun vs H Q _ => ∃ (x : Addr) (s : Stp), vs = [.ref x] ∧ MapAt T H x s ∧ smallS s ∧ ∃ z, z = mapText s ∧ Q (.str z) H
theorem scMapStr : FnScope ["self"] ["self"] (defScope sMapStr) := ⟨rfl, rfl, rfl, by decide +kernel, rfl, by decide +kernel, by decide +kernel⟩
theorem okMapStr (T : TMap K mg) : FnOk P w K mg base CX0 2 T.str.f T.str.fd ["self"] (spMapStr T) := by
  refine T.str.F.ok scMapStr (fun vs H Q E h => ?_) (fun cdv A outer s H vs Q E hr h => ?_)
  · obtain ⟨x, s, rfl, _⟩ := h
    rfl
  · obtain ⟨x, s, rfl, ⟨dx, a, b, hx, ha, hb⟩, ⟨h1, h2⟩, z, rfl, q⟩ := h
    refine ⟨_, pss_one (ps_ret (pe_joined (.cons (pe_fmt (pe_call (okTermText T.toTSteps) hr rfl T.termText.m T.termText.F.kp T.termText.b .nil pass0 (pa_cons (pe_fld (pv 0) rfl) pa_nil))) (.cons pe_str (.cons (pe_fmt (pe_call (okTermText T.toTSteps) hr rfl T.termText.m T.termText.F.kp T.termText.b .nil pass0 (pa_cons (pe_fld (pv 0) rfl) pa_nil))) .nil))))), ?_⟩
    have l1 := tmText_len h1
    have l2 := tmText_len h2
    have s2 : (" " : Str).length ≤ 200 := by decide +kernel
    refine ⟨_, rfl, x, T.C, dx, _, .ref a, rfl, hx, T.cl, T.noN, map_now, a, s.1, rfl, ha, h1, .inl ⟨_, rfl, Nat.le_trans l1 (by decide), _, rfl, len1 (by omega), _, rfl, len2 (by omega) s2, ?_⟩⟩
    exact ⟨_, rfl, x, T.C, dx, _, .ref b, rfl, hx, T.cl, T.noB, map_box, b, s.2, rfl, hb, h2, .inl ⟨_, rfl, Nat.le_trans l2 (by decide), _, rfl, len3 (by omega) s2 (by omega), q⟩⟩
def spMapEq (T : TMap K mg) : Sp := fun vs H Q _ => ∃ (x : Addr) (y : V) (s : Stp), vs = [.ref x, y] ∧ MapAt T H x s ∧ ((∃ z t, y = .ref z ∧ MapAt T H z t ∧ Q (.bl (decide (s = t))) H) ∨ ∃ ty, TyX K H y ty ∧ PySem.W.kitOne K ty (.ref T.C) = some false ∧ Q (.bl false) H)
theorem scMapEq : FnScope ["self", "other"] ["self", "other"] (defScope sMapEq) := ⟨rfl, rfl, rfl, by decide +kernel, rfl, by decide +kernel, by decide +kernel⟩
theorem okMapEq (T : TMap K mg) : FnOk P w K mg base CX0 1 T.eq.f T.eq.fd ["self", "other"] (spMapEq T) := by
  refine T.eq.F.ok scMapEq (fun vs H Q E h => ?_) (fun cdv A outer s H vs Q E hr h => ?_)
  · obtain ⟨x, y, s, rfl, _⟩ := h
    rfl
  · obtain ⟨x, y, s, rfl, ⟨dx, a, b, hx, ha, hb⟩, q⟩ := h
    refine ⟨_, pss_one (ps_ret (pe_and (pe_callB call_isi (by rfl) T.mIsi (by decide +kernel) (pa_cons (pv 1) (pa_cons (pe_glob (v := .ref T.C) (by rfl) T.mC rfl) pa_nil)))
      (pe_and (pe_cmpR (op_eqD hr.units) (pe_fld (pv 0) rfl) (pe_fld (pv 1) rfl) (nomark _)) (pe_one (pe_cmpR (op_eqD hr.units) (pe_fld (pv 0) rfl) (pe_fld (pv 1) rfl) (nomark _)))))), ?_⟩
    rcases q with ⟨z, t, rfl, ⟨dy, a', b', hy, ha', hb'⟩, q⟩ | ⟨ty, h1, h2, q⟩
    · refine ⟨_, rfl, .ref z, .ref T.C, _, _, true, rfl, .own _, map_cls T hy, T.kC, true, rfl, iteT ?_⟩
      refine ⟨_, rfl, x, T.C, dx, _, .ref a, rfl, hx, T.cl, T.noN, map_now, _, rfl, z, T.C, dy, _, .ref a', rfl, hy, T.cl, T.noN, map_now, tD s.1, tD t.1, tm_dp ha, tm_dp ha', tD_sh _, tD_sh _, ?_⟩
      rw [tD_eqv]
      refine ⟨_, rfl, ?_⟩
      by_cases e : s.1 = t.1
      · refine iteTB (decide_eq_true e) ?_
        refine ⟨_, rfl, x, T.C, dx, _, .ref b, rfl, hx, T.cl, T.noB, map_box, _, rfl, z, T.C, dy, _, .ref b', rfl, hy, T.cl, T.noB, map_box, tD s.2, tD t.2, tm_dp hb, tm_dp hb', tD_sh _, tD_sh _, ?_⟩
        rw [tD_eqv]
        have e2 : decide (s = t) = decide (s.2 = t.2) := by
          by_cases e3 : s.2 = t.2
          · rw [decide_eq_true e3, decide_eq_true (Prod.ext e e3)]
          · rw [decide_eq_false e3, decide_eq_false (fun z => e3 (by rw [z]))]
        rw [e2] at q
        exact q
      · refine iteFB (decide_eq_false e) ?_
        rw [decide_eq_false (fun z : s = t => e (by rw [z]))] at q
        exact q
    · exact ⟨_, rfl, y, .ref T.C, _, _, false, rfl, .own _, h1, h2, false, rfl, iteF q⟩
end
section
variable {X : Cx}
/-- == of two maps -/
def rEqMap {K : PySem.W.Frag} {mg : Str → Option Value} (T : TMap K mg) : R2 := fun x y H Q => ∃ (a b : Addr) (s t : Stp), x = .ref a ∧ y = .ref b ∧ MapAt T H a s ∧ MapAt T H b t ∧ Q (.bl (decide (s = t))) H
def rNeMap {K : PySem.W.Frag} {mg : Str → Option Value} (T : TMap K mg) : R2 := fun x y H Q => ∃ (a b : Addr) (s t : Stp), x = .ref a ∧ y = .ref b ∧ MapAt T H a s ∧ MapAt T H b t ∧ Q (.bl (!decide (s = t))) H
def rShMap {K : PySem.W.Frag} {mg : Str → Option Value} (T : TMap K mg) : R2 := fun x y H Q => ∃ (a b : Addr) (s t : Stp), x = .ref a ∧ y = .ref b ∧ MapAt T H a s ∧ MapAt T H b t ∧ ∀ r H', Same H H' → MapAt T H' r (join s t) → Q (.ref r) H'
def rStrMap {K : PySem.W.Frag} {mg : Str → Option Value} (T : TMap K mg) : List V → Hp → VK → Prop := fun xs H Q => ∃ (a : Addr) (s : Stp), xs = [.ref a] ∧ MapAt T H a s ∧ smallS s ∧ Q (.str (mapText s)) H
theorem op_eqMap (T : TMap X.K X.mg) (hr : Room 1 X.A) : OpR X (compareOp .Eq) (rEqMap T) := by
  intro pins s σ H x y v u Q I rx ry h
  obtain ⟨a, b, sa, sb, rfl, rfl, ha, hb, q⟩ := h
  obtain ⟨dx, _, _, hx, _⟩ := id ha
  obtain ⟨dy, _, _, hy, _⟩ := id hb
  exact op_eqIns (okMapEq T) T.eq.hf hr T.eq.b pass0 pins s σ H _ _ v u Q I rx ry ⟨a, _, dx, _, rfl, hx, T.eq.hs, .inr ⟨b, _, dy, _, rfl, hy, T.nC⟩, a, _, sa, rfl, ha, .inl ⟨b, sb, rfl, hb, q⟩⟩
theorem op_neMap (T : TMap X.K X.mg) (hr : Room 2 X.A) : OpR X (compareOp .NotEq) (rNeMap T) := by
  intro pins s σ H x y v u Q I rx ry h
  obtain ⟨a, b, sa, sb, rfl, rfl, ha, hb, q⟩ := h
  obtain ⟨dx, _, _, hx, _⟩ := id ha
  obtain ⟨dy, _, _, hy, _⟩ := id hb
  exact op_neIns (okMapEq T) T.eq.hf hr T.eq.b pass0 pins s σ H _ _ v u Q I rx ry ⟨a, _, dx, _, rfl, hx, T.eq.hs, T.ne, T.cM, .inr ⟨b, _, dy, _, rfl, hy, T.nC⟩, a, _, sa, rfl, ha, .inl ⟨b, sb, rfl, hb, _, rfl, q⟩⟩
theorem op_shMap (T : TMap X.K X.mg) (hr : Room 7 X.A) : OpR X (binaryOp .RShift) (rShMap T) := by
  intro pins s σ H x y v u Q I rx ry h
  obtain ⟨a, b, sa, sb, rfl, rfl, ha, hb, q⟩ := h
  obtain ⟨dx, _, _, hx, _⟩ := id ha
  obtain ⟨dy, _, _, hy, _⟩ := id hb
  exact op_binIns (okMapShift T) T.shift.hf hr T.shift.b pass0 pins s σ H _ _ v u Q I rx ry ⟨a, b, _, dx, dy, _, _, rfl, rfl, hx, hy, T.sf, T.shift.hs, a, b, sa, sb, rfl, ha, hb, q⟩
theorem call_strMap (T : TMap X.K X.mg) (hr : Room 4 X.A) : CallR X (.type "str") (rStrMap T) := by
  intro pins s σ H xs us Q I r h
  obtain ⟨a, sa, rfl, ha, hs, q⟩ := h
  obtain ⟨dx, _, _, hx, _⟩ := id ha
  exact call_strIns (okMapStr T) T.str.hf hr T.str.b pass0 pins s σ H _ us Q I r ⟨a, _, dx, _, rfl, hx, T.str.hs, a, sa, rfl, ha, hs, _, rfl, _, rfl, q⟩
end
end Pn

namespace Pn
open PySem L2
theorem paired_mono {α β : Type} {R S : α → β → Prop} (h : ∀ a b, R a b → S a b) : ∀ {l : List α} {m : List β}, Paired R l m → Paired S l m
  | _, _, .nil => .nil
  | _, _, .cons a b => .cons (h _ _ a) (paired_mono h b)
theorem paired_snoc {α β : Type} {R : α → β → Prop} {x : α} {y : β} (h : R x y) : ∀ {l : List α} {m : List β}, Paired R l m → Paired R (l ++ [x]) (m ++ [y])
  | _, _, .nil => .cons h .nil
  | _, _, .cons a b => .cons a (paired_snoc h b)
theorem paired_at {α β : Type} {R : α → β → Prop} : ∀ {l : List α} {m : List β} {i : Nat} {x : α}, Paired R l m → l[i]? = some x → ∃ y, m[i]? = some y ∧ R x y
  | _, _, _, _, .nil, h => by simp at h
  | _, _, 0, _, .cons a _, h => by
    have e := Option.some.inj h
    subst e
    exact ⟨_, rfl, a⟩
  | _, _, i + 1, _, .cons _ b, h => paired_at (i := i) b h
theorem paired_len {α β : Type} {R : α → β → Prop} : ∀ {l : List α} {m : List β}, Paired R l m → l.length = m.length
  | _, _, .nil => rfl
  | _, _, .cons _ b => by rw [List.length_cons, List.length_cons, paired_len b]
end Pn

namespace Pn
open PySem PySem.Spec PyProof.Rows L2
/-! ### a new instance, where what its making raises is wished for at the slots -/
section
variable {X : Cx} {CX : CXT} {k : Nat} {f C : Addr} {fd : FuncData} {ps : List Str} {sp : Sp} {dvs : List V} {ds : List Value} {E : L2.St → XK} {x : Str} {p pos : Pos} {e : Expr} {es : List Expr} {t : TA}
def tMakeS (C : Addr) (sp : Sp) (dvs : List V) (E : L2.St → XK) (t : TA) : TE := fun σ H Q => t σ H fun vs H1 => ∀ x dx, H1 x = none → H1 dx = none → dx ≠ x →
  sp (.ref x :: (vs ++ dvs)) (upd (upd H1 dx (.own x)) x (.ins C dx [])) (fun v H2 => v = .non ∧ Q (.ref x) H2) (E σ)
theorem run_makeS {pins : List (Addr × Obj)} {σ : L2.St} {H : Hp} {s : Shared} {Q : VK} {us : List Value} {vs : List V} (M : Mk X.K C f) (F : FnOk X.prog X.w X.K X.mg X.base CX k f fd ps sp) (hr : Room (k + 1) X.A) (hb : Binds X.K fd ps ds) (hd : Vals dvs ds)
    (hx : PassesAt CX X σ (E σ)) (I : Inv X pins σ H s) (r : Vals vs us)
    (h : ∀ x dx, H x = none → H dx = none → dx ≠ x → sp (.ref x :: (vs ++ dvs)) (upd (upd H dx (.own x)) x (.ins C dx [])) (fun v H2 => v = .non ∧ Q (.ref x) H2) (E σ)) :
    wpAny (model X.prog X.w) X.A (call (.ref C) us) (EP X pins σ Q) X.xe s := by
  have hq := h (s.heap.objs.size + 1) s.heap.objs.size (I.hok.fresh (Nat.le_succ _)) (I.hok.fresh (Nat.le_refl _)) (Nat.ne_of_lt (Nat.lt_succ_self _))
  have I2 := Inv.made (C := C) I
  have r2 : Vals (V.ref (s.heap.objs.size + 1) :: (vs ++ dvs)) (Value.ref (s.heap.objs.size + 1) :: (us ++ ds)) := .cons rfl (r.append hd)
  have hl : (Value.ref (s.heap.objs.size + 1) :: us ++ ds).length = ps.length := by
    have e := r2.length
    rw [F.len _ _ _ _ hq] at e
    exact e.symm
  refine wpAny_call (make_map (f := f) I.kIn M.makes M.init (beq_iff_eq.mp M.fn) (codeAny_mono (F.run _ X.stack _ _ ⟨Value.ref (s.heap.objs.size + 1) :: us, []⟩ (Value.ref (s.heap.objs.size + 1) :: (us ++ ds)) _ _ (E σ) (hr.make C us [])
    (I2.env0.make C us []) (hb _ (Value.ref (s.heap.objs.size + 1) :: us) I2.kIn hl) r2 hq) fun r s' hq' => ?_))
  cases r with
  | error e => exact hx pins _ _ e s' I2 hq'
  | ok fl =>
    cases fl with
    | ret u =>
      obtain ⟨v, H', I3, rv, ev, q3⟩ := I2.after hq'
      subst ev
      exact ⟨rv, ⟨V.ref (s.heap.objs.size + 1), H', I3, rfl, q3⟩⟩
    | next => exact False.elim hq'
    | brk => exact False.elim hq'
    | cont => exact False.elim hq'
theorem pe_makeS (M : Mk X.K C f) (F : FnOk X.prog X.w X.K X.mg X.base CX k f fd ps sp) (hr : Room (k + 1) X.A) (hg : Gl X x) (hm : X.mg x = some (.ref C)) (hb : Binds X.K fd ps ds) (hd : Vals dvs ds) (hx : ∀ σ, PassesAt CX X σ (E σ))
    (ha : PA X (e :: es) t) (hdb : (x == ("__debug__" : Str)) = false := by decide) (he : starEach (e :: es) X.env = (false, eval e X.env) :: starEach es X.env := by rfl) (hpl : (backTo pos (starEach es X.env)).any (·.1) = false := by rfl) :
    PE X (.Call (.Name x p) (e :: es) [] pos) (tMakeS C sp dvs E t) := by
  refine ⟨fun pins s σ H Q I h => ?_⟩
  refine wpAny_Call_Name_kw (ld_glob I hg hm ?_ hdb)
  refine PySem.W.callWith_K (h₀ := X.base) I.ok.mod.kin M.kp (thn (ha.run pos pins s σ H _ I h) fun us s1 ⟨vs, H1, I1, r, q⟩ => ⟨I1.kIn, ?_⟩) he hpl
  exact run_makeS M F hr hb hd (hx σ) I1 r q
end
/-! ### repr of data, where no repr is under way -/
section
variable {X : Cx}
def rReprD (K : PySem.W.Frag) : List V → Hp → VK → Prop := fun xs H Q => ∃ (a : Addr) (d : PyData), xs = [.ref a] ∧ Dp K H (.ref a) d ∧ PyData.showable d = true ∧ PyData.hasDict d = false ∧ PyData.depth d ≤ 10 ∧ (PyData.shown d).length ≤ sizeLine ∧ Q (.str (PyData.shown d)) H
theorem call_reprD (hg : X.A.guards = some []) {k : Nat} (hr : Room k X.A) : CallR X (.builtin "repr") (rReprD X.K) := by
  intro pins s σ H xs us Q I r h
  obtain ⟨a, d, rfl, hd, h1, h2, h3, h4, q⟩ := h
  obtain ⟨u, rfl, ru⟩ := r.one
  cases (show u = Value.ref a from ru)
  obtain ⟨as, rd⟩ := Dp.reads I d _ _ hd (show RelV (.ref a) (Value.ref a) from rfl)
  have hu := hr.units
  refine repr_of_reads' (h₀ := s.heap) (d := d) (as := as) rd h1 (fun e => by rw [h2] at e; cases e) hg (by omega) (fun _ _ e => e) (fun h' u tk hk => ?_) h4
  exact ⟨.str _, H, I.kept hk, ⟨u, rfl⟩, q⟩
end
end Pn

namespace Pn
open PySem L2
abbrev sAny24 : Stmt := top 22
abbrev sIsTold : Stmt := top 23
abbrev sWord24 : Stmt := top 24
abbrev sSide24 : Stmt := top 25
/-! ### drawn values: what they are as data -/
def pd : V → Option PyData
  | .non => some .none
  | .bl b => some (.bool b)
  | .int i => some (.int i)
  | .str x => some (.str x)
  | _ => none
theorem pd_dp {K : PySem.W.Frag} {H : Hp} : ∀ {v : V} {d : PyData}, pd v = some d → Dp K H v d
  | .non, _, h => by cases h; exact .non
  | .bl _, _, h => by cases h; exact .bl _
  | .int _, _, h => by cases h; exact .int _
  | .str _, _, h => by cases h; exact .str _
  | .ref _, _, h => by cases h
  | .byt _, _, h => by cases h
  | .flt _, _, h => by cases h
  | .ty _, _, h => by cases h
/-- data of texts of good signs, at most n deep -/
def Good (n : Nat) (d : PyData) : Prop := PyData.canLay0 d = true ∧ PyData.depth d ≤ n
theorem Good.sh {n : Nat} {d : PyData} (h : Good n d) (hn : n ≤ 64) : SeqAt.shaped d = true := by
  unfold SeqAt.shaped
  rw [h.1, decide_eq_true (Nat.le_trans h.2 hn)]
  rfl
theorem good_all {n : Nat} : ∀ {ds : List PyData}, (∀ d ∈ ds, Good n d) → PyData.canLayAll0 ds = true ∧ PyData.depthAll ds ≤ n
  | [], _ => ⟨by simp only [PyData.canLayAll0], by simp only [PyData.depthAll]; exact Nat.zero_le _⟩
  | d :: ds, h => by
    obtain ⟨a1, a2⟩ := h d List.mem_cons_self
    obtain ⟨b1, b2⟩ := good_all fun x hx => h x (List.mem_cons_of_mem _ hx)
    exact ⟨by simp only [PyData.canLayAll0, a1, b1, Bool.and_self], by simp only [PyData.depthAll]; omega⟩
theorem good_list {n : Nat} {ds : List PyData} (h : ∀ d ∈ ds, Good n d) : Good (n + 1) (.list ds) ∧ Good (n + 1) (.tuple ds) := by
  obtain ⟨a, b⟩ := good_all h
  exact ⟨⟨by simp only [PyData.canLay0, a], by simp only [PyData.depth]; omega⟩, ⟨by simp only [PyData.canLay0, a], by simp only [PyData.depth]; omega⟩⟩
def leafN : List V := [.int 0, .int 1, .int (-1), .int 3, .int 1000000000, .bl true, .bl false, .non]
def leafS : List V := [.str "", .str "f", .str "x", .str "note", .str "now", .str "at", .str "On", .str " ", .str "fiver", .str "any"]
theorem leaf_good {l : List V} (hl : l.all (fun v => (pd v).any fun d => PyData.canLay0 d && decide (PyData.depth d = 0)) = true) : ∀ v ∈ l, ∃ d, pd v = some d ∧ Good 0 d := fun v hv => by
  have h := List.all_eq_true.mp hl v hv
  cases e : pd v with
  | none => rw [e] at h; cases h
  | some d =>
    rw [e] at h
    have h2 : (PyData.canLay0 d && decide (PyData.depth d = 0)) = true := h
    rw [Bool.and_eq_true] at h2
    exact ⟨d, rfl, h2.1, Nat.le_of_eq (of_decide_eq_true h2.2)⟩
theorem Good.up {n m : Nat} {d : PyData} (h : Good n d) (l : n ≤ m) : Good m d := ⟨h.1, Nat.le_trans h.2 l⟩
structure TDealT (K : PySem.W.Frag) (mg : Str → Option Value) : Type where
  mI : mg "int" = none
  mA : mg "abs" = none
  mL : mg "len" = none
  deal : At K mg "_law_deal" sDeal ["_law_script"]
  draw : At K mg "_law_draw" sDraw ["_law_deal_here", "_law_many"]
  pick : At K mg "_law_pick" sPick ["_law_deal_here", "_law_some"]
section
variable {P : Program} {w : World} {K : PySem.W.Frag} {mg : Str → Option Value} {base : Heap}
theorem TDealT.okDraw (T : TDealT K mg) : FnOk P w K mg base CX0 1 T.draw.f T.draw.fd ["_law_deal_here", "_law_many"] spDraw := ok_draw T.draw.F T.mI
theorem TDealT.okPick (T : TDealT K mg) : FnOk P w K mg base CX0 2 T.pick.f T.pick.fd ["_law_deal_here", "_law_some"] (spPick K) := ok_pick T.pick.F T.mL T.draw T.mI
theorem TDealT.okDeal (T : TDealT K mg) : FnOk P w K mg base CX0 1 T.deal.f T.deal.fd ["_law_script"] (spDeal K) := ok_deal T.deal.F T.mI T.mA
structure TAny24 (K : PySem.W.Frag) (mg : Str → Option Value) : Type extends TDealT K mg where
  mR : mg "range" = none
  mT : mg "tuple" = none
  any : At K mg "_law_any" sAny24 ["_law_deal_here", "_law_deep"]
def spAny24 (K : PySem.W.Frag) (n : Nat) : Sp := fun vs H Q _ => ∃ (d g : Addr) (k : Int), vs = [.ref d, .int k] ∧ 0 ≤ k ∧ k ≤ (n : Int) ∧ DealAt H d g ∧
  ∀ (v : V) (dd : PyData) (H' : Hp), DealAt H' d g → Same (hh H d g) (hh H' d g) → Mo H H' → Dp K (dif H H') v dd → Good n dd → Q v H'
theorem scAny24 : FnScope ["_law_deal_here", "_law_deep", "_law_form", "_law_some", "_law_k"] ["_law_deal_here", "_law_deep"] (defScope sAny24) := ⟨rfl, rfl, rfl, by decide +kernel, rfl, by decide +kernel, by decide +kernel⟩
/-- the list that a comprehension has made so far, over what stood ahead of it -/
def Made24 (K : PySem.W.Frag) (d g D : Addr) (H0 : Hp) (n i : Nat) (H : Hp) : Prop := (∀ a o, H0 a = some o → a ≠ d → a ≠ g → a ≠ D → H a = some o) ∧ DealAt H d g ∧ Mo H0 H ∧
  ∃ (acc : List V) (ds : List PyData), H D = some (.lst acc) ∧ acc.length = i ∧ ds.length = i ∧ DpAll K (dif H0 H) acc ds ∧ ∀ e ∈ ds, Good n e
theorem made24_turn {d g D : Addr} {H0 H H1 : Hp} {n i : Nat} {v : V} {dd : PyData} {od og oD : HO} (hd : H0 d = some od) (hg : H0 g = some og) (hD : H0 D = some oD) (n1 : D ≠ d) (n2 : D ≠ g) (h : Made24 K d g D H0 n i H) (hA1 : DealAt H1 d g) (hs : Same (hh H d g) (hh H1 d g)) (hm : Mo H H1)
    (hv : Dp K (dif H H1) v dd) (hgd : Good n dd) : ∃ acc, H1 D = some (.lst acc) ∧ acc.length = i ∧ Made24 K d g D H0 n (i + 1) (upd H1 D (.lst (acc ++ [v]))) := by
  obtain ⟨h1, hA, mo, acc, ds, e, l1, l2, hall, hgood⟩ := h
  have hD1 : H1 D = some (.lst acc) := hh_sub _ _ (hs _ _ (hh_get e n1 n2))
  have toN : ∀ {a : Addr} {u : HO}, H0 a = none → H1 a = some u → dif H0 (upd H1 D (.lst (acc ++ [v]))) a = some u := fun {a u} e0 e1 => by
    refine dif_new e0 ?_
    rw [upd_ne (fun y => by rw [y, hD] at e0; cases e0)]
    exact e1
  refine ⟨acc, hD1, l1, fun a u q m1 m2 m3 => by rw [upd_ne m3]; exact hh_sub _ _ (hs _ _ (hh_get (h1 a u q m1 m2 m3) m1 m2)), hA1.upd n1 n2, mo.trans (hm.trans Mo.upd), acc ++ [v], ds ++ [dd], upd_same, by rw [List.length_append, l1]; rfl, by rw [List.length_append, l2]; rfl, ?_, ?_⟩
  · refine dpAll_append (dpAll_same (fun a u q => ?_) _ _ hall) (.cons (dp_same (fun a u q => ?_) _ _ hv) .nil)
    · obtain ⟨e0, e1⟩ := dif_eq.mp q
      exact toN e0 (hh_sub _ _ (hs _ _ (hh_get e1 (fun y => by rw [y, hd] at e0; cases e0) (fun y => by rw [y, hg] at e0; cases e0))))
    · obtain ⟨e0, e1⟩ := dif_eq.mp q
      exact toN (mo a e0) e1
  · intro e' he
    rcases List.mem_append.mp he with q | q
    · exact hgood e' q
    · rw [List.mem_singleton.mp q]
      exact hgd
theorem ok_any24 (T : TAny24 K mg) : ∀ n : Nat, FnOk P w K mg base CX0 (n + 3) T.any.f T.any.fd ["_law_deal_here", "_law_deep"] (spAny24 K n) := by
  intro n
  have leafGo : ∀ {m : Nat} {l : List V} {d g p : Addr} {H H1 : Hp} {Q : VK}, l.all (fun v => (pd v).any fun d => PyData.canLay0 d && decide (PyData.depth d = 0)) = true → (∀ (v : V) (dd : PyData) (H' : Hp), DealAt H' d g → Same (hh H d g) (hh H' d g) → Mo H H' → Dp K (dif H H') v dd → Good m dd → Q v H') →
      DealAt H1 d g → Same (hh H d g) (hh H1 d g) → Mo H H1 → H1 p = none → ∀ (v : V) (H' : Hp), v ∈ l → DealAt H' d g → Same (hh (upd H1 p (.lst l)) d g) (hh H' d g) → Mo (upd H1 p (.lst l)) H' → Q v H' := fun hl q hD1 hs1 hm1 hp v H' hv hD' hs' hm' => by
    obtain ⟨dd, e1, e2⟩ := leaf_good hl v hv
    exact q v dd H' hD' (hs1.trans ((hh_new hp).trans hs')) (hm1.trans (Mo.upd.trans hm')) (pd_dp e1) (e2.up (Nat.zero_le _))
  induction n with
  | zero =>
    refine T.any.F.ok scAny24 (fun vs H Q E h => ?_) (fun cdv A outer s H vs Q E hr h => ?_)
    · obtain ⟨d, g, k, rfl, _⟩ := h
      rfl
    · obtain ⟨d, g, k, rfl, k0, k1, hD, q⟩ := h
      obtain rfl : k = 0 := by omega
      refine ⟨_, pss_cons (ps_set (i := 2) scAny24.nd rfl (Or.inl rfl) (pe_call T.okDraw (hr.mono (by omega)) rfl T.draw.m T.draw.F.kp T.draw.b .nil pass0 (pa_cons (pv 0) (pa_cons pe_int pa_nil))))
        (pss_cons (ps_if (PW.pt (pw_and (pt_cmpR op_gt (pv 1) pe_int (nomark _)) (pw_and1 (pt_cmpR op_lt (pv 2) pe_int (nomark _))))) pss_never pss_nil)
        (pss_cons (ps_if (pt_cmpR op_lt (pv 2) pe_int (nomark _)) (pss_one (ps_ret (pe_call T.okPick (hr.mono (by omega)) rfl T.pick.m T.pick.F.kp T.pick.b .nil pass0 (pa_cons (pv 0) (pa_cons (pe_lst (pa_cons pe_int (pa_cons pe_int (pa_cons (pe_un un_neg pe_int) (pa_cons pe_int (pa_cons (pe_op op_pow pe_int pe_int) (pa_cons pe_bl (pa_cons pe_bl (pa_cons pe_non pa_nil))))))))) pa_nil))))) pss_nil)
        (pss_one (ps_ret (pe_call T.okPick (hr.mono (by omega)) rfl T.pick.m T.pick.F.kp T.pick.b .nil pass0 (pa_cons (pv 0) (pa_cons (pe_lst (pa_cons pe_str (pa_cons pe_str (pa_cons pe_str (pa_cons pe_str (pa_cons pe_str (pa_cons pe_str (pa_cons pe_str (pa_cons pe_str (pa_cons pe_str (pa_cons pe_str pa_nil))))))))))) pa_nil))))))), ?_⟩
      refine ⟨_, rfl, d, g, 11, rfl, hD, by decide, by decide, fun r H1 r0 r1 hD1 hs1 hm1 => ?_⟩
      refine ⟨_, rfl, _, _, rfl, rfl, _, rfl, ?_⟩
      refine iteF ?_
      refine iteF ?_
      refine ⟨_, rfl, _, _, rfl, rfl, _, rfl, ?_⟩
      refine ite2 (fun _ => ?_) (fun _ => ?_)
      · refine ⟨_, rfl, 1, rfl, _, _, rfl, rfl, ⟨by decide, by decide, by decide⟩, (by show 8 ≤ sizeLine; decide), fun p hp => ?_⟩
        exact ⟨d, g, p, leafN, rfl, hD1.new hp, SqL.of (hh_at hD1 hp), (by show 0 < 8; decide), (by show 8 < 1000000; decide), leafGo (by decide +kernel) q hD1 hs1 hm1 hp⟩
      · refine ⟨_, rfl, (by show 10 ≤ sizeLine; decide), fun p hp => ?_⟩
        exact ⟨d, g, p, leafS, rfl, hD1.new hp, SqL.of (hh_at hD1 hp), (by show 0 < 10; decide), (by show 10 < 1000000; decide), leafGo (by decide +kernel) q hD1 hs1 hm1 hp⟩
  | succ n ih =>
    refine T.any.F.ok scAny24 (fun vs H Q E h => ?_) (fun cdv A outer s H vs Q E hr h => ?_)
    · obtain ⟨d, g, k, rfl, _⟩ := h
      rfl
    · obtain ⟨d, g, k, rfl, k0, k1, hD, q⟩ := h
      refine ⟨_, pss_cons (ps_set (i := 2) scAny24.nd rfl (Or.inl rfl) (pe_call T.okDraw (hr.mono (by omega)) rfl T.draw.m T.draw.F.kp T.draw.b .nil pass0 (pa_cons (pv 0) (pa_cons pe_int pa_nil))))
        (pss_cons (ps_if (PW.pt (pw_and (pt_cmpR op_gt (pv 1) pe_int (nomark _)) (pw_and1 (pt_cmpR op_lt (pv 2) pe_int (nomark _)))))
          (pss_cons (ps_setLc (i := 3) (own := [("_law_k", 4)]) (g := gName 4) (tt := tYes) (by rfl) scAny24.nd rfl rfl (sw_true rfl rfl rfl (by decide +kernel)) (pi_range1 rfl T.mR (pa_cons (pe_call T.okDraw (hr.mono (by omega)) rfl T.draw.m T.draw.F.kp T.draw.b .nil pass0 (pa_cons (pv 0) (pa_cons pe_int pa_nil))) pa_nil))
              (blkOk_by (N := ["_law_deal_here", "_law_deep", "_law_form", "_law_some", "_law_k"]) (sc := defScope sAny24) (by decide +kernel)) (fun _ _ _ _ _ => pg_name (i := 4) scAny24.nd rfl (Or.inl rfl)) (fun _ _ _ _ _ => pts_nil)
              (fun _ _ _ _ _ => pe_call ih hr rfl T.any.m T.any.F.kp T.any.b .nil pass0 (pa_cons (pv 0) (pa_cons (pe_op op_sub (pv 1) pe_int) pa_nil))))
          (pss_one (ps_ret (pe_ifExp (pt_cmpR op_lt (pv 2) pe_int (nomark _)) (pe_tupleOf rfl T.mT (pv 3)) (pv 3))))) pss_nil)
        (pss_cons (ps_if (pt_cmpR op_lt (pv 2) pe_int (nomark _)) (pss_one (ps_ret (pe_call T.okPick (hr.mono (by omega)) rfl T.pick.m T.pick.F.kp T.pick.b .nil pass0 (pa_cons (pv 0) (pa_cons (pe_lst (pa_cons pe_int (pa_cons pe_int (pa_cons (pe_un un_neg pe_int) (pa_cons pe_int (pa_cons (pe_op op_pow pe_int pe_int) (pa_cons pe_bl (pa_cons pe_bl (pa_cons pe_non pa_nil))))))))) pa_nil))))) pss_nil)
        (pss_one (ps_ret (pe_call T.okPick (hr.mono (by omega)) rfl T.pick.m T.pick.F.kp T.pick.b .nil pass0 (pa_cons (pv 0) (pa_cons (pe_lst (pa_cons pe_str (pa_cons pe_str (pa_cons pe_str (pa_cons pe_str (pa_cons pe_str (pa_cons pe_str (pa_cons pe_str (pa_cons pe_str (pa_cons pe_str (pa_cons pe_str pa_nil))))))))))) pa_nil))))))), ?_⟩
      refine ⟨_, rfl, d, g, 11, rfl, hD, by decide, by decide, fun r H1 r0 r1 hD1 hs1 hm1 => ?_⟩
      refine ⟨_, rfl, _, _, rfl, rfl, _, rfl, ?_⟩
      refine ite2 (fun hc => ?_) (fun hc => ?_)
      · refine ⟨_, rfl, _, _, rfl, rfl, _, rfl, ?_⟩
        refine ite2 (fun hc2 => ?_) (fun hc2 => ?_)
        · refine ⟨_, rfl, d, g, 4, rfl, hD1, by decide, by decide, fun m H2 m0 m1 hD2 hs2 hm2 => ?_⟩
          refine ⟨_, rfl, by omega, by omega, fun D hDn => lc_range (lo := 0) (n := m.toNat) (fun i Hi => Made24 K d g D (upd H2 D (.lst [])) n i Hi) ?_ (fun i Hi hi hM => ?_) (fun Hi hM => ?_)⟩
          · exact ⟨fun a o e _ _ _ => e, hD2.new hDn, Mo.refl _, [], [], upd_same, rfl, rfl, .nil, fun _ z => absurd z List.not_mem_nil⟩
          · obtain ⟨n1, n2⟩ := hD2.nd hDn
            obtain ⟨_, zs, mm, e1, e2, _⟩ := hD2.new (o := .lst []) hDn
            refine ⟨rfl, _, rfl, _, rfl, _, _, rfl, rfl, d, g, k - 1, rfl, by have := of_decide_eq_true hc; omega, by omega, hM.2.1, fun v dd H' hD' hs' hm' hv hgd => ?_⟩
            obtain ⟨acc, e1, e2, e3⟩ := made24_turn e1 e2 upd_same n1 n2 hM hD' hs' hm' hv hgd
            exact ⟨acc, e1, small1000 (by omega), e3⟩
          · obtain ⟨n1, n2⟩ := hD2.nd hDn
            obtain ⟨h1, hA, mo, acc, ds, e, l1, l2, hall, hgood⟩ := hM
            have mo2 : Mo H (upd H2 D (.lst [])) := hm1.trans (hm2.trans Mo.upd)
            have hDH : H D = none := hm1 D (hm2 D hDn)
            have sAll : Same (hh H d g) (hh Hi d g) := fun b o z => by
              obtain ⟨m1', m2', z2⟩ := hh_ne (hs2 _ _ (hs1 _ _ z))
              exact hh_get (h1 b o (by rw [upd_ne (ne_of_none z2 hDn)]; exact z2) m1' m2' (ne_of_none z2 hDn)) m1' m2'
            have hA2 : DpAll K (dif H Hi) acc ds := dpAll_same (dif_mo mo2) _ _ hall
            refine ⟨_, rfl, _, _, rfl, rfl, _, rfl, ?_⟩
            refine ite2 (fun hz => ?_) (fun hz => ?_)
            · refine ⟨_, rfl, .inl ⟨D, acc, rfl, SqL.of e, fun t ht => ?_⟩⟩
              have hto : H t = none := mo2 t (mo t ht)
              have hA3 : DpAll K (dif H (upd Hi t (.tup acc))) acc ds := dpAll_same (fun a u z => dif_new (dif_eq.mp z).1 (Same.new ht a u (dif_eq.mp z).2)) _ _ hA2
              exact q _ (.tuple ds) _ (hA.new ht) (sAll.trans (hh_new ht)) ((mo2.trans mo).trans Mo.upd) (.tup (SqT.of (dif_new hto upd_same)) hA3) (good_list hgood).2
            · refine ⟨_, rfl, ?_⟩
              exact q _ (.list ds) _ hA sAll (mo2.trans mo) (.lst (SqL.of (dif_new hDH e)) hA2) (good_list hgood).1
        · skip
          refine ⟨_, rfl, _, _, rfl, rfl, _, rfl, ?_⟩
          refine ite2 (fun _ => ?_) (fun _ => ?_)
          · refine ⟨_, rfl, 1, rfl, _, _, rfl, rfl, ⟨by decide, by decide, by decide⟩, (by show 8 ≤ sizeLine; decide), fun p hp => ?_⟩
            exact ⟨d, g, p, leafN, rfl, hD1.new hp, SqL.of (hh_at hD1 hp), (by show 0 < 8; decide), (by show 8 < 1000000; decide), leafGo (by decide +kernel) q hD1 hs1 hm1 hp⟩
          · refine ⟨_, rfl, (by show 10 ≤ sizeLine; decide), fun p hp => ?_⟩
            exact ⟨d, g, p, leafS, rfl, hD1.new hp, SqL.of (hh_at hD1 hp), (by show 0 < 10; decide), (by show 10 < 1000000; decide), leafGo (by decide +kernel) q hD1 hs1 hm1 hp⟩
      · skip
        refine iteF ?_
        refine ⟨_, rfl, _, _, rfl, rfl, _, rfl, ?_⟩
        refine ite2 (fun _ => ?_) (fun _ => ?_)
        · refine ⟨_, rfl, 1, rfl, _, _, rfl, rfl, ⟨by decide, by decide, by decide⟩, (by show 8 ≤ sizeLine; decide), fun p hp => ?_⟩
          exact ⟨d, g, p, leafN, rfl, hD1.new hp, SqL.of (hh_at hD1 hp), (by show 0 < 8; decide), (by show 8 < 1000000; decide), leafGo (by decide +kernel) q hD1 hs1 hm1 hp⟩
        · refine ⟨_, rfl, (by show 10 ≤ sizeLine; decide), fun p hp => ?_⟩
          exact ⟨d, g, p, leafS, rfl, hD1.new hp, SqL.of (hh_at hD1 hp), (by show 0 < 10; decide), (by show 10 < 1000000; decide), leafGo (by decide +kernel) q hD1 hs1 hm1 hp⟩
/-! ### what the law calls told, and the word that it hears -/
structure TK24a (K : PySem.W.Frag) (mg : Str → Option Value) : Type where
  M : TMap K mg
  A : TAny24 K mg
  mStr : mg "str" = none
  told : At K mg "_law_is_told" sIsTold ["_law_one"]
  CN : Addr
  mCN : mg "NoteError" = some (.ref CN)
  CP : Addr
  mCP : mg "InvalidRow" = some (.ref CP)
  kCN : PySem.W.kitOne K (.ref M.IM.C) (.ref CN) = some true
  kCP : PySem.W.kitOne K (.ref M.IM.C) (.ref CP) = some false
  word : At K mg "_law_word" sWord24 ["_law_now", "_law_kept"]
  side : At K mg "_law_side" sSide24 ["_law_told"]
def spIsTold (K : PySem.W.Frag) : Sp := fun vs H Q _ => ∃ (v : V) (d : PyData), vs = [v] ∧ Dp K H v d ∧ SeqAt.shaped d = true ∧ ∀ H', Same H H' → Q (.bl (termD d)) H'
theorem scIsTold : FnScope ["_law_one"] ["_law_one"] (defScope sIsTold) := ⟨rfl, rfl, rfl, by decide +kernel, rfl, by decide +kernel, by decide +kernel⟩
theorem ok_istold (T : TK24a K mg) : FnOk P w K mg base CX0 1 T.told.f T.told.fd ["_law_one"] (spIsTold K) := by
  refine T.told.F.ok scIsTold (fun vs H Q E h => ?_) (fun cdv A outer s H vs Q E hr h => ?_)
  · obtain ⟨v, d, rfl, _⟩ := h
    rfl
  · obtain ⟨v, d, rfl, hd, hsh, q⟩ := h
    refine ⟨_, pss_cons (ps_if (PW.pt (pw_or (pt_not (pt_val (pe_callB call_isi (by rfl) T.M.mIsi (by decide +kernel) (pa_cons (pv 0) (pa_cons (pe_bltn (v := .ty "tuple") (by rfl) T.M.mTup (by decide +kernel) rfl) pa_nil)))))
        (pw_or (pt_cmpR op_ne (pe_callB call_len_seq (by rfl) T.M.mLen PySem.boot_len (pa_cons (pv 0) pa_nil)) pe_int (nomark _))
        (pw_or1 (pt_not (pt_val (pe_callB call_isi (by rfl) T.M.mIsi (by decide +kernel) (pa_cons (pe_ix ix_tup (pv 0) pe_int (fun _ _ => rfl)) (pa_cons (pe_bltn (v := .ty "str") (by rfl) T.mStr (by decide +kernel) rfl) pa_nil))))))))) (pss_one (ps_ret pe_bl)) pss_nil)
      (pss_one (ps_ret (pe_and (pe_cmpR (op_inT (room65 hr)) (pe_ix ix_tup (pv 0) pe_int (fun _ _ => rfl)) (pe_tup (pa_cons pe_str (pa_cons pe_str (pa_cons pe_str pa_nil)))) rfl)
        (pe_and (pe_callB call_isi (by rfl) T.M.mIsi (by decide +kernel) (pa_cons (pe_ix ix_tup (pv 0) pe_int (fun _ _ => rfl)) (pa_cons (pe_bltn (v := .ty "int") (by rfl) T.M.mInt (by decide +kernel) rfl) pa_nil)))
        (pe_and (pe_not (pe_callB call_isi (by rfl) T.M.mIsi (by decide +kernel) (pa_cons (pe_ix ix_tup (pv 0) pe_int (fun _ _ => rfl)) (pa_cons (pe_bltn (v := .ty "bool") (by rfl) T.M.mBool (by decide +kernel) rfl) pa_nil))))
        (pe_one (pe_cmpR op_ge (pe_ix ix_tup (pv 0) pe_int (fun _ _ => rfl)) pe_int (nomark _)))))))), ?_⟩
    refine ⟨_, rfl, v, _, _, _, _, rfl, .ty _, dp_ty hd, kit_ty (kit_tup d), _, rfl, ?_⟩
    match d, hd, hsh, q with
    | .none, _, _, q => exact iteT (q H (Same.refl H))
    | .bool _, _, _, q => exact iteT (q H (Same.refl H))
    | .int _, _, _, q => exact iteT (q H (Same.refl H))
    | .str _, _, _, q => exact iteT (q H (Same.refl H))
    | .list _, _, _, q => exact iteT (q H (Same.refl H))
    | .dict _, _, _, q => exact iteT (q H (Same.refl H))
    | .tuple ds, hd, hsh, q =>
      refine iteF ?_
      cases hd with
      | tup s al =>
        have hlen := dpAll_len al
        refine ⟨_, rfl, _, _, rfl, .inr s, rfl, _, rfl, ?_⟩
        rw [hlen]
        match ds, al, hsh, q, hlen with
        | [], _, _, q, _ => exact iteTB (by decide) (q H (Same.refl H))
        | [_], _, _, q, _ => exact iteTB rfl (q H (Same.refl H))
        | x :: y :: z :: r, _, _, q, _ =>
          refine iteTB ?_ (q H (Same.refl H))
          have : ¬ V.int (((x :: y :: z :: r).length : Nat) : Int) = V.int 2 := fun e => by
            injection e with e
            simp only [List.length_cons] at e
            omega
          rw [decide_eq_false this]
          rfl
        | [a, b], al, hsh, q, _ =>
          refine iteFB rfl ?_
          cases al with
          | cons ha al =>
          cases al with
          | cons hb al =>
          cases al
          refine ⟨_, rfl, _, _, _, _, rfl, rfl, s, atI_nat (j := 0) rfl, _, _, _, _, _, rfl, .ty _, dp_ty ha, kit_ty (kit_str a), _, rfl, ?_⟩
          have no : strT a = false → termD (.tuple [a, b]) = false := fun h => by
            show (wordsD.any (fun z => PyData.eqv z a) && numD b) = false
            cases a with
            | str _ => cases h
            | none => simp [wordsD, PyData.eqv]
            | bool _ => simp [wordsD, PyData.eqv]
            | int _ => simp [wordsD, PyData.eqv]
            | list _ => simp [wordsD, PyData.eqv]
            | tuple _ => simp [wordsD, PyData.eqv]
            | dict _ => simp [wordsD, PyData.eqv]
          cases hst : strT a with
          | false =>
            rw [no hst] at q
            exact iteT (q H (Same.refl H))
          | true =>
            refine iteF ?_
            refine ⟨_, rfl, _, _, _, _, rfl, rfl, s, atI_nat (j := 0) rfl, (by show 3 ≤ sizeLine; decide), fun p hp => ?_⟩
            have s1 := Same.new (o := .tup [.str "now", .str "box", .str "at"]) hp
            have s' := Same.sqt s1 s
            refine ⟨a, wordsD, dp_same s1 _ _ ha, .tup (SqT.of upd_same) (.cons (.str _) (.cons (.str _) (.cons (.str _) .nil))), (shaped_head hsh).1, by decide +kernel, _, rfl, ?_⟩
            have hb' := dp_same s1 _ _ hb
            generalize upd H p (.tup [.str "now", .str "box", .str "at"]) = H1 at s1 s' hb' ⊢
            have e2 : termD (.tuple [a, b]) = (wordsD.any (fun z => PyData.eqv z a) && numD b) := rfl
            rw [e2] at q
            cases hw : wordsD.any (fun z => PyData.eqv z a) with
            | false =>
              rw [hw] at q
              exact iteF (q H1 s1)
            | true =>
              rw [hw] at q
              refine iteT ?_
              refine ⟨_, rfl, _, _, _, _, rfl, rfl, s', atI_nat (j := 1) rfl, _, _, _, _, _, rfl, .ty _, dp_ty hb', kit_ty (kit_int b), _, rfl, ?_⟩
              cases b with
              | none => exact iteF (q H1 s1)
              | str _ => exact iteF (q H1 s1)
              | list _ => exact iteF (q H1 s1)
              | tuple _ => exact iteF (q H1 s1)
              | dict _ => exact iteF (q H1 s1)
              | bool c => exact iteT ⟨_, rfl, _, _, _, _, rfl, rfl, s', atI_nat (j := 1) rfl, _, _, _, _, _, rfl, .ty _, dp_ty hb', kit_ty (kit_bool _), _, rfl, _, rfl, iteF (q H1 s1)⟩
              | int c =>
                cases hb'
                exact iteT ⟨_, rfl, _, _, _, _, rfl, rfl, s', atI_nat (j := 1) rfl, .int c, _, _, _, _, rfl, .ty _, dp_ty (.int c), kit_ty (kit_bool (.int c)), _, rfl, _, rfl, iteT ⟨_, rfl, _, _, _, _, rfl, rfl, s', atI_nat (j := 1) rfl, _, _, rfl, rfl, q H1 s1⟩⟩
theorem okMapInitX (T : TMap K mg) : FnOk P w K mg base (L2.CX P w) 5 T.fI T.fdI ["self", "now", "box"] (spMapInit K T.C T.IM.C) := by
  refine T.FI.ok scMapInit (fun vs H Q E h => ?_) (fun cdv A outer s H vs Q E hr h => ?_)
  · obtain ⟨x, dx, v, u, d, e, rfl, _⟩ := h
    rfl
  · obtain ⟨x, dx, v, u, d, e, rfl, hx, hd, sd, he, se, q1, q2, q3⟩ := h
    refine ⟨_, pss_cons (ps_if (pt_not (pt_val (pe_call T.okIsTerm (hr.mono (by decide)) rfl T.isTerm.m T.isTerm.F.kp T.isTerm.b .nil pass0 (pa_cons (pv 1) pa_nil))))
        (pss_one (ps_raise rfl (takes_of rfl rfl rfl rfl) (pmk_oex T.IM.O T.IM.iC T.IM.tI (okIMInit T.IM) (hr.mono (by decide)) T.IM.b .nil pass0 rfl T.IM.m (pa_cons pe_str pa_nil)))) pss_nil)
      (pss_cons (ps_if (pt_not (pt_val (pe_call T.okIsTerm (hr.mono (by decide)) rfl T.isTerm.m T.isTerm.F.kp T.isTerm.b .nil pass0 (pa_cons (pv 2) pa_nil))))
        (pss_one (ps_raise rfl (takes_of rfl rfl rfl rfl) (pmk_oex T.IM.O T.IM.iC T.IM.tI (okIMInit T.IM) (hr.mono (by decide)) T.IM.b .nil pass0 rfl T.IM.m (pa_cons pe_str pa_nil)))) pss_nil)
      (pss_cons (ps_fld (pv 0) (pv 1) rfl) (pss_one (ps_fld (pv 0) (pv 2) rfl)))), ?_⟩
    refine ⟨_, rfl, v, d, rfl, hd, sd, ?_⟩
    cases h1 : termD d with
    | false =>
      refine ⟨false, rfl, iteT ?_⟩
      exact ⟨(by show 1 ≤ 1000; decide), fun a ha => ⟨a, T.IM.C, _, rfl, upd_same, T.IM.O, T.IM.noF, fun dx g1 g2 => ⟨rfl, dx, _, upd_same, by rw [upd_ne g2, upd_same], by rw [upd_ne g2] at g1; exact g1, iw_made (Same.refl H) (Mo.refl H) (q2 h1) ha dx g1 g2⟩⟩⟩
    | true =>
      refine ⟨true, rfl, iteF ?_⟩
      refine ⟨_, rfl, u, e, rfl, he, se, ?_⟩
      cases h2 : termD e with
      | false =>
        refine ⟨false, rfl, iteT ?_⟩
        exact ⟨(by show 1 ≤ 1000; decide), fun a ha => ⟨a, T.IM.C, _, rfl, upd_same, T.IM.O, T.IM.noF, fun dx g1 g2 => ⟨rfl, dx, _, upd_same, by rw [upd_ne g2, upd_same], by rw [upd_ne g2] at g1; exact g1, iw_made (Same.refl H) (Mo.refl H) (q3 h1 h2) ha dx g1 g2⟩⟩⟩
      | true =>
        refine ⟨true, rfl, iteF ?_⟩
        refine ⟨_, rfl, _, rfl, x, T.C, dx, [], rfl, hx, T.cl, T.noN, (by show 0 < 1000; decide), _, rfl, _, rfl, x, T.C, dx, _, rfl, upd_same, T.cl, T.noB, (by show 1 < 1000; decide), ?_⟩
        refine q1 h1 h2 _ (fun b o e n => ?_) (Mo.upd.trans Mo.upd) upd_same
        rw [upd_ne n, upd_ne n]
        exact e
/-- the word that the law is due -/
def dueM (d e : PyData) : V := if termD d = true then (if termD e = true then .non else .str "box") else .str "now"
def spWord24 (K : PySem.W.Frag) : Sp := fun vs H Q _ => ∃ (v u : V) (d e : PyData), vs = [v, u] ∧ Dp K H v d ∧ SeqAt.shaped d = true ∧ Dp K H u e ∧ SeqAt.shaped e = true ∧ ∀ H', Same H H' → Q (dueM d e) H'
theorem scWord24 : FnScope ["_law_now", "_law_kept", "_law_found", "e"] ["_law_now", "_law_kept"] (defScope sWord24) := ⟨rfl, rfl, rfl, by decide +kernel, rfl, by decide +kernel, by decide +kernel⟩
theorem ok_word24 (T : TK24a K mg) : FnOk P w K mg base CX0 7 T.word.f T.word.fd ["_law_now", "_law_kept"] (spWord24 K) := by
  refine T.word.F.ok scWord24 (fun vs H Q E h => ?_) (fun cdv A outer s H vs Q E hr h => ?_)
  · obtain ⟨v, u, d, e, rfl, _⟩ := h
    rfl
  · obtain ⟨v, u, d, e, rfl, hd, sd, he, se, q⟩ := h
    refine ⟨_, pss_cons (ps_set (i := 2) scWord24.nd rfl (Or.inl rfl) pe_non)
      (pss_cons (ps_try_as (i := 3) rfl rfl scWord24.nd rfl rfl ⟨rfl, by decide, .inl T.M.IM.m⟩ takes0
        (fun W pn xe tk _ => pss_one (ps_expr (pe_makeS T.M.M (okMapInitX T.M) hr rfl T.M.mC T.M.bI .nil (fun σ => passAt tk σ) (pa_cons (pv 0) (pa_cons (pv 1) pa_nil)))))
        (fun a oe cls d pn hz hf => pss_one (ps_set (i := 2) scWord24.nd rfl (Or.inl rfl) (pe_ifExp (PW.pt (pw_and (pt_val (pe_callB (call_isX T.M.IM.E hz hf) (by rfl) T.M.mIsi (by decide +kernel) (pa_cons (pv 3) (pa_cons (pe_glob (v := .ref T.CN) (by rfl) T.mCN rfl) pa_nil))))
          (pw_and1 (pt_not (pt_val (pe_callB (call_isX T.M.IM.E hz hf) (by rfl) T.M.mIsi (by decide +kernel) (pa_cons (pv 3) (pa_cons (pe_glob (v := .ref T.CP) (by rfl) T.mCP rfl) pa_nil))))))))
          (pe_xf T.M.IM.xf T.M.IM.noF hz hf (pv 3)) pe_str))))
      (pss_one (ps_ret (pv 2)))), ?_⟩
    refine ⟨_, rfl, _, rfl, fun x dx hx hdx ne => ?_⟩
    have s1 : Same H (upd (upd H dx (.own x)) x (.ins T.M.C dx [])) := fun c o e => by rw [upd_ne (ne_of_none e hx), upd_ne (ne_of_none e hdx)]; exact e
    have due1 : termD d = false → dueM d e = .str "now" := fun h => by unfold dueM; rw [h]; rfl
    have due2 : termD d = true → termD e = false → dueM d e = .str "box" := fun h h2 => by unfold dueM; rw [h, h2]; rfl
    have due3 : termD d = true → termD e = true → dueM d e = .non := fun h h2 => by unfold dueM; rw [h, h2]; rfl
    refine ⟨x, dx, v, u, d, e, rfl, upd_same, dp_same s1 _ _ hd, sd, dp_same s1 _ _ he, se, fun h1 h2 H1 kp m hi => ⟨rfl, _, rfl, ?_⟩, fun h1 y H1 hs hm hy1 hy2 => ?_, fun h1 h2 y H1 hs hm hy1 hy2 => ?_⟩
    · rw [due3 h1 h2] at q
      exact q H1 (kpi_same2 hx hdx kp)
    · refine ⟨true, T.M.IM.te, fun _ a ha => ?_, fun z => nomatch z⟩
      refine ⟨_, rfl, .ref T.CN, _, true, y, _, rfl, rfl, .own _, T.kCN, rfl, hy2, _, rfl, iteT ?_⟩
      refine ⟨_, rfl, .ref T.CP, _, false, y, _, rfl, rfl, .own _, T.kCP, rfl, hy2, _, rfl, iteT ?_⟩
      refine ⟨_, rfl, rfl, rfl, y, _, .str "now", rfl, hy2, rfl, _, rfl, ?_⟩
      rw [due1 h1] at q
      exact q H1 (s1.trans hs)
    · refine ⟨true, T.M.IM.te, fun _ a ha => ?_, fun z => nomatch z⟩
      refine ⟨_, rfl, .ref T.CN, _, true, y, _, rfl, rfl, .own _, T.kCN, rfl, hy2, _, rfl, iteT ?_⟩
      refine ⟨_, rfl, .ref T.CP, _, false, y, _, rfl, rfl, .own _, T.kCP, rfl, hy2, _, rfl, iteT ?_⟩
      refine ⟨_, rfl, rfl, rfl, y, _, .str "box", rfl, hy2, rfl, _, rfl, ?_⟩
      rw [due2 h1 h2] at q
      exact q H1 (s1.trans hs)
def spSide24 (K : PySem.W.Frag) : Sp := fun vs H Q _ => ∃ (a : Addr) (t : Tm), vs = [.ref a] ∧ SqT K H a (tv t) ∧ t.2 < 10 ^ 20 ∧ Q (.str (tmText t)) H
theorem scSide24 : FnScope ["_law_told"] ["_law_told"] (defScope sSide24) := ⟨rfl, rfl, rfl, by decide +kernel, rfl, by decide +kernel, by decide +kernel⟩
theorem ok_side24 (T : TK24a K mg) : FnOk P w K mg base CX0 1 T.side.f T.side.fd ["_law_told"] (spSide24 K) := by
  refine T.side.F.ok scSide24 (fun vs H Q E h => ?_) (fun cdv A outer s H vs Q E hr h => ?_)
  · obtain ⟨a, t, rfl, _⟩ := h
    rfl
  · obtain ⟨a, t, rfl, ht, hn, q⟩ := h
    refine ⟨_, pss_one (ps_ret (pe_ifExp (pt_cmpR op_eq (pe_ix ix_tup (pv 0) pe_int (fun _ _ => rfl)) pe_str (nomark _))
      (pe_op op_add_str pe_str (pe_callTy call_str_int (by rfl) T.mStr (by decide +kernel) (pa_cons (pe_ix ix_tup (pv 0) pe_int (fun _ _ => rfl)) pa_nil)))
      (pe_op op_add_str (pe_op op_add_str (pe_ix ix_tup (pv 0) pe_int (fun _ _ => rfl)) pe_str) (pe_callTy call_str_int (by rfl) T.mStr (by decide +kernel) (pa_cons (pe_ix ix_tup (pv 0) pe_int (fun _ _ => rfl)) pa_nil))))), ?_⟩
    obtain ⟨w, m⟩ := t
    have hn' : m < 10 ^ 20 := hn
    have sn : (numStr m).length ≤ 20 := numStr_len hn'
    have e0 : ∀ z : Str, Str.empty ++ z = z := fun z => PySem.Str.empty_append z
    refine ⟨_, rfl, a, _, _, _, rfl, rfl, ht, atI_nat (j := 0) rfl, rfl, _, rfl, ?_⟩
    cases w with
    | at_ =>
      refine iteTB (wd .at_ .at_) ?_
      refine ⟨_, rfl, a, _, _, _, rfl, rfl, ht, atI_nat (j := 1) rfl, _, rfl, log_small hn', _, numStr m, rfl, rfl, ?_, ?_⟩
      · exact Nat.le_trans (Nat.add_le_add (show ("at " : Str).length ≤ 20 by decide +kernel) sn) (by decide)
      · have e : tmText (.at_, m) = ("at " : Str) ++ numStr m := by show (Str.empty ++ ("at " : Str)) ++ numStr m = _; rw [e0]
        rw [e] at q
        exact q
    | now =>
      refine iteFB (wd .now .at_) ?_
      refine ⟨_, rfl, a, _, _, _, rfl, rfl, ht, atI_nat (j := 0) rfl, W3.s .now, _, rfl, rfl, (by decide +kernel), ?_⟩
      refine ⟨_, rfl, a, _, _, _, rfl, rfl, ht, atI_nat (j := 1) rfl, _, rfl, log_small hn', _, numStr m, rfl, rfl, ?_, ?_⟩
      · exact Nat.le_trans (Nat.add_le_add (show ((W3.s .now) ++ ("+" : Str)).length ≤ 20 by decide +kernel) sn) (by decide)
      · have e : tmText (.now, m) = (W3.s .now ++ ("+" : Str)) ++ numStr m := by show ((Str.empty ++ ("now" : Str)) ++ ("+" : Str)) ++ numStr m = _; rw [e0]; rfl
        rw [e] at q
        exact q
    | box =>
      refine iteFB (wd .box .at_) ?_
      refine ⟨_, rfl, a, _, _, _, rfl, rfl, ht, atI_nat (j := 0) rfl, W3.s .box, _, rfl, rfl, (by decide +kernel), ?_⟩
      refine ⟨_, rfl, a, _, _, _, rfl, rfl, ht, atI_nat (j := 1) rfl, _, rfl, log_small hn', _, numStr m, rfl, rfl, ?_, ?_⟩
      · exact Nat.le_trans (Nat.add_le_add (show ((W3.s .box) ++ ("+" : Str)).length ≤ 20 by decide +kernel) sn) (by decide)
      · have e : tmText (.box, m) = (W3.s .box ++ ("+" : Str)) ++ numStr m := by show ((Str.empty ++ ("box" : Str)) ++ ("+" : Str)) ++ numStr m = _; rw [e0]; rfl
        rw [e] at q
        exact q
end
end Pn

namespace Pn
open PySem L2
abbrev sLaw24 : Stmt := top 26
theorem stepAsg {te : TE} {g : TG} {D : Ends} {σ : L2.St} {H : Hp} (C : V → Hp → Prop) (h1 : ∀ Q' : VK, (∀ v H', C v H' → Q' v H') → te σ H Q') (h2 : ∀ v H', C v H' → g v σ H' D.nx) : tAsg te g D σ H := h1 _ h2
theorem good_of_all {n : Nat} {ds : List PyData} (h : ds.all (fun e => PyData.canLay0 e && decide (PyData.depth e ≤ n)) = true) : ∀ e ∈ ds, Good n e := fun e he => by
  have q := List.all_eq_true.mp h e he
  rw [Bool.and_eq_true] at q
  exact ⟨q.1, of_decide_eq_true q.2⟩
theorem dif_grow {H0 H : Hp} {p : Addr} {o : HO} (hp : H p = none) : Same (dif H0 H) (dif H0 (upd H p o)) := fun a u e => by
  obtain ⟨e0, e1⟩ := dif_eq.mp e
  exact dif_new e0 (by rw [upd_ne (ne_of_none e1 hp)]; exact e1)
theorem dif_hh {H0 H : Hp} {d g : Addr} (hD : DealAt H0 d g) : Same (dif H0 H) (hh H d g) := fun a u e => by
  obtain ⟨e0, e1⟩ := dif_eq.mp e
  exact hh_get e1 (fun z => hD.there.1 (z ▸ e0)) (fun z => hD.there.2 (z ▸ e0))
theorem sqt_hid {K : PySem.W.Frag} {H : Hp} {l a : Addr} {xs ys : List V} (hl : H l = some (.lst ys)) (h : SqT K H a xs) : SqT K (hid H l) a xs := by
  rcases h with (h | ⟨o, h⟩) | h
  · exact .inl (.inl (hid_get h (fun z => by rw [z, hl] at h; cases h)))
  · exact .inl (.inr ⟨o, hid_get h (fun z => by rw [z, hl] at h; cases h)⟩)
  · exact .inr h
theorem sqt_hh {K : PySem.W.Frag} {H : Hp} {d g a : Addr} {xs : List V} (hD : DealAt H d g) (h : SqT K H a xs) : SqT K (hh H d g) a xs := by
  obtain ⟨_, zs, m, e1, e2, _⟩ := hD
  rcases h with (h | ⟨o, h⟩) | h
  · exact .inl (.inl (hh_get h (fun z => by rw [z, e1] at h; cases h) (fun z => by rw [z, e2] at h; cases h)))
  · exact .inl (.inr ⟨o, hh_get h (fun z => by rw [z, e1] at h; cases h) (fun z => by rw [z, e2] at h; cases h)⟩)
  · exact .inr h
theorem sqt_lst {K : PySem.W.Frag} {H : Hp} {D a : Addr} {xs ys zs : List V} (hD : H D = some (.lst ys)) (h : SqT K H a xs) : SqT K (upd H D (.lst zs)) a xs := by
  rcases h with (h | ⟨o, h⟩) | h
  · exact .inl (.inl (by rw [upd_ne (fun z => by rw [z, hD] at h; cases h)]; exact h))
  · exact .inl (.inr ⟨o, by rw [upd_ne (fun z => by rw [z, hD] at h; cases h)]; exact h⟩)
  · exact .inr h
theorem mo_hh {H H' : Hp} {d g : Addr} (hD : DealAt H' d g) (s : Same (hh H d g) (hh H' d g)) : Mo H H' := fun a e => by
  cases h : H a with
  | none => rfl
  | some o =>
    by_cases n1 : a = d
    · exact absurd (n1 ▸ e) hD.there.1
    by_cases n2 : a = g
    · exact absurd (n2 ▸ e) hD.there.2
    have := hh_sub _ _ (s _ _ (hh_get h n1 n2))
    rw [e] at this
    cases this
theorem hh_up {H0 H : Hp} {d g p : Addr} {o : HO} (s : Same (hh H0 d g) (hh H d g)) (hp : H0 p = none) : Same (hh H0 d g) (hh (upd H p o) d g) := fun b u e => by
  obtain ⟨n1, n2, e0⟩ := hh_ne e
  obtain ⟨_, _, e2⟩ := hh_ne (s _ _ e)
  exact hh_get (by rw [upd_ne (ne_of_none e0 hp)]; exact e2) n1 n2
theorem w3_mem {v : V} (h : v ∈ [V.str "now", V.str "box", V.str "at"]) : ∃ w : W3, v = .str w.s := by
  rcases List.mem_cons.mp h with rfl | h
  · exact ⟨.now, rfl⟩
  rcases List.mem_cons.mp h with rfl | h
  · exact ⟨.box, rfl⟩
  rcases List.mem_cons.mp h with rfl | h
  · exact ⟨.at_, rfl⟩
  cases h
theorem dpAll_mem {K : PySem.W.Frag} {H : Hp} : ∀ {vs : List V} {ds : List PyData} {v : V}, DpAll K H vs ds → v ∈ vs → ∃ d ∈ ds, Dp K H v d
  | _, _, _, .nil, h => by cases h
  | _, _, v, .cons a b, h => by
    rcases List.mem_cons.mp h with rfl | h
    · exact ⟨_, List.mem_cons_self, a⟩
    · obtain ⟨d, hd, r⟩ := dpAll_mem b h
      exact ⟨d, List.mem_cons_of_mem _ hd, r⟩
/-! ### texts and reprs of terms -/
theorem pair_repr {t u : Tm} (ht : t.2 < 10 ^ 20) (hu : u.2 < 10 ^ 20) : PyData.showable (.tuple [tD t, tD u]) = true ∧ PyData.hasDict (.tuple [tD t, tD u]) = false ∧ PyData.depth (.tuple [tD t, tD u]) ≤ 10 ∧ (PyData.shown (.tuple [tD t, tD u])).length ≤ sizeLine := by
  have one : ∀ {t : Tm}, t.2 < 10 ^ 20 → PyData.showable (tD t) = true ∧ PyData.hasDict (tD t) = false ∧ PyData.depth (tD t) = 1 ∧ (PyData.shown (tD t)).length ≤ 100 := fun {t} ht => by
    obtain ⟨w, n⟩ := t
    have hn : n < 10 ^ 20 := ht
    have ln := log_small hn
    have sw : (PyData.shown (.str w.s)).length ≤ 60 := by cases w <;> decide +kernel
    have sn : (PyData.shown (.int (n : Int))).length ≤ 20 := by rw [PyData.shown_int]; exact numStr_len hn
    refine ⟨?_, by simp only [tD, PyData.hasDict, PyData.hasDictAll, Bool.or_self], by simp only [tD, PyData.depth, PyData.depthAll, Nat.max_self], ?_⟩
    · simp only [tD, PyData.showable, PyData.showableAll, Bool.and_true, Bool.true_and, decide_eq_true_eq]
      exact ln
    · simp only [tD, PyData.shown]
      have q := tupleText_len_le (PyData.shownAll [.str w.s, .int (n : Int)])
      rw [PyData.shownAll_length] at q
      simp only [PyData.shownAll, List.map_cons, List.map_nil, List.sum_cons, List.sum_nil, List.length_cons, List.length_nil] at q ⊢
      omega
  obtain ⟨a1, a2, a3, a4⟩ := one ht
  obtain ⟨b1, b2, b3, b4⟩ := one hu
  refine ⟨by simp only [PyData.showable, PyData.showableAll, a1, b1, Bool.and_self], by simp only [PyData.hasDict, PyData.hasDictAll, a2, b2, Bool.or_self], by simp only [PyData.depth, PyData.depthAll, a3, b3]; decide, ?_⟩
  simp only [PyData.shown]
  have q := tupleText_len_le (PyData.shownAll [tD t, tD u])
  rw [PyData.shownAll_length] at q
  simp only [PyData.shownAll, List.map_cons, List.map_nil, List.sum_cons, List.sum_nil, List.length_cons, List.length_nil] at q ⊢
  have e : (1000 : Nat) ≤ sizeLine := by decide
  omega
theorem num_inj {n m : Nat} (h : numStr n = numStr m) : n = m := by
  have e : TL.tl (numStr n) = TL.tl (numStr m) := by rw [h]
  rw [show TL.tl (numStr n) = TL.numL n from TL.tl_num n, show TL.tl (numStr m) = TL.numL m from TL.tl_num m] at e
  rw [← TL.numL_val n, ← TL.numL_val m, e]
theorem append_inj {a b c : Str} (h : a ++ b = a ++ c) : b = c := by
  have e : TL.tl (a ++ b) = TL.tl (a ++ c) := by rw [h]
  rw [TL.tl_append, TL.tl_append] at e
  exact TL.ext_tl (List.append_cancel_left e)
theorem near_text (t0 : Tm) (w : W3) (m : Nat) : mapText (t0, (w, m + 1)) ≠ mapText (t0, (w, m)) := fun h => by
  have h1 := append_inj (show (((Str.empty ++ tmText t0) ++ (" " : Str)) ++ tmText (w, m + 1)) = ((Str.empty ++ tmText t0) ++ (" " : Str)) ++ tmText (w, m) from h)
  cases w with
  | at_ => exact absurd (num_inj (append_inj (show (Str.empty ++ ("at " : Str)) ++ numStr (m + 1) = (Str.empty ++ ("at " : Str)) ++ numStr m from h1))) (by omega)
  | now => exact absurd (num_inj (append_inj (show ((Str.empty ++ ("now" : Str)) ++ ("+" : Str)) ++ numStr (m + 1) = ((Str.empty ++ ("now" : Str)) ++ ("+" : Str)) ++ numStr m from h1))) (by omega)
  | box => exact absurd (num_inj (append_inj (show ((Str.empty ++ ("box" : Str)) ++ ("+" : Str)) ++ numStr (m + 1) = ((Str.empty ++ ("box" : Str)) ++ ("+" : Str)) ++ numStr m from h1))) (by omega)
theorem hid_none {H : Hp} {d g l : Addr} (h : H l = none) : hh H d g l = none := by
  cases e : hh H d g l with
  | none => rfl
  | some o =>
    have := hh_sub _ _ e
    rw [h] at this
    cases this
theorem same_hid {H H' : Hp} {l : Addr} (s : Same H H') (h : H l = none) : Same H (hid H' l) := fun b o e => hid_get (s _ _ e) (ne_of_none e h)
theorem hid_hh {H H' : Hp} {d g l : Addr} (s : Same (hh H d g) (hh H' d g)) : Same (hid (hh H d g) l) (hid (hh H' d g) l) := hid_kp (Kp.same s)
theorem hid_put {H : Hp} {d g l : Addr} {o : HO} : Same (hid (hh H d g) l) (hid (hh (upd H l o) d g) l) := hid_kp fun b u e n => by
  obtain ⟨n1, n2, e0⟩ := hh_ne e
  exact hh_get (by rw [upd_ne n]; exact e0) n1 n2
theorem dif_hid {H H' : Hp} {d g l : Addr} (hD : DealAt H d g) (hl : H l ≠ none) : Same (dif H H') (hid (hh H' d g) l) := fun b o e => by
  obtain ⟨e0, e1⟩ := dif_eq.mp e
  exact hid_get (hh_get e1 (fun z => hD.there.1 (z ▸ e0)) (fun z => hD.there.2 (z ▸ e0))) (fun z => hl (z ▸ e0))
theorem tD_good (t : Tm) : Good 3 (tD t) := by
  refine ⟨?_, by simp only [tD, PyData.depth, PyData.depthAll, Nat.max_self]; omega⟩
  have h := tD_sh t
  unfold SeqAt.shaped at h
  rw [Bool.and_eq_true] at h
  exact h.1
theorem near_eq (t0 t1 t : Tm) (h : t = t1 ∨ t = (t1.1, t1.2 + 1)) : decide ((t0, t) = (t0, t1)) = decide (V.str (mapText (t0, t)) = V.str (mapText (t0, t1))) := by
  obtain ⟨w, m⟩ := t1
  rcases h with rfl | rfl
  · simp
  · have e1 : ¬ ((t0, (w, m + 1)) = (t0, (w, m))) := fun z => by
      have := congrArg (fun x : Tm × Tm => x.2.2) z
      exact absurd this (by show ¬ m + 1 = m; omega)
    have e2 : ¬ (V.str (mapText (t0, (w, m + 1))) = V.str (mapText (t0, (w, m)))) := fun z => near_text t0 w m (V.str.inj z)
    rw [decide_eq_false e1, decide_eq_false e2]
theorem due_scal (d e : PyData) : L2.scal (dueM d e) (dueM d e) = true := by
  unfold dueM
  cases termD d <;> cases termD e <;> rfl
section
variable {P : Program} {w : World} {K : PySem.W.Frag} {mg : Str → Option Value} {base : Heap}
theorem map_hh {T : TMap K mg} {H : Hp} {d g x : Addr} {s : Stp} (hD : DealAt H d g) (h : MapAt T H x s) : MapAt T (hh H d g) x s := by
  obtain ⟨dx, a, b, h1, h2, h3⟩ := h
  obtain ⟨_, zs, m, e1, e2, _⟩ := id hD
  exact ⟨dx, a, b, hh_get h1 (fun z => by rw [z, e1] at h1; cases h1) (fun z => by rw [z, e2] at h1; cases h1), sqt_hh hD h2, sqt_hh hD h3⟩
structure TK24 (K : PySem.W.Frag) (mg : Str → Option Value) : Type extends TK24a K mg where
  mRange : mg "range" = none
  mRepr : mg "repr" = none
  sStr : PySem.W.subIn K (.ref M.C) (.type "str") = some false
  sNon : PySem.W.subIn K (.ref M.C) (.type "NoneType") = some false
  sTup : PySem.W.subIn K (.ref M.C) (.type "tuple") = some false
  kStr : PySem.W.kitOne K (.type "str") (.ref M.C) = some false
  kNon : PySem.W.kitOne K (.type "NoneType") (.ref M.C) = some false
  kTup : PySem.W.kitOne K (.type "tuple") (.ref M.C) = some false
/-- made in (a text, a tuple, None) -/
def rInMap (T : TK24 K mg) : R2 := fun x t H Q => ∃ (a l : Addr) (s : Stp) (ys : List V), x = .ref a ∧ t = .ref l ∧ MapAt T.M H a s ∧ SqT K H l ys ∧ (∀ y ∈ ys, (∃ z : Str, y = .str z) ∨ y = .non ∨ ∃ b xs, y = .ref b ∧ H b = some (.tup xs)) ∧ Q (.bl false) H
theorem op_inMap {X : Cx} (T : TK24 X.K X.mg) (hr : Room 2 X.A) : OpR X (compareOp .In) (rInMap T) := by
  intro pins s σ H x t v u Q I rx rt h
  obtain ⟨a, l, st, ys, rfl, rfl, ha, hl, hy, q⟩ := h
  obtain ⟨dx, _, _, hx, _⟩ := id ha
  refine op_inOwn (okMapEq T.M) T.M.eq.hf hr T.M.eq.b pass0 pins s σ H _ _ v u Q I rx rt ⟨a, _, dx, l, _, ys, rfl, rfl, hx, hl, T.M.eq.hs, fun y hyy => ?_, q⟩
  rcases hy y hyy with ⟨z, rfl⟩ | rfl | ⟨b, xs, rfl, hb⟩
  · exact ⟨.inl ⟨z, rfl, T.sStr⟩, a, _, st, rfl, ha, .inr ⟨_, .base (.str z), T.kStr, rfl, rfl⟩⟩
  · exact ⟨.inr (.inl ⟨rfl, T.sNon⟩), a, _, st, rfl, ha, .inr ⟨_, .base .non, T.kNon, rfl, rfl⟩⟩
  · exact ⟨.inr (.inr ⟨b, xs, rfl, hb, T.sTup⟩), a, _, st, rfl, ha, .inr ⟨_, .base (.tup hb), T.kTup, rfl, rfl⟩⟩
theorem op_inMapK {X : Cx} (hK : X.K = K) (hm : X.mg = mg) (T : TK24 K mg) (hr : Room 2 X.A) : OpR X (compareOp .In) (rInMap T) := by
  subst hK
  subst hm
  exact op_inMap T hr
def spLaw24 (K : PySem.W.Frag) : Sp := fun vs H Q _ => ∃ (a : Addr) (ns : List Int), vs = [.ref a] ∧ SqL K H a (ns.map V.int) ∧ ns.length ≤ 63 ∧ ∀ H', Q (.bl true) H'
end
end Pn

namespace Pn
open PySem L2
section
variable {P : Program} {w : World} {K : PySem.W.Frag} {mg : Str → Option Value} {base : Heap}
theorem call_strMapK {X : Cx} (hK : X.K = K) (hm : X.mg = mg) (T : TMap K mg) (hr : Room 4 X.A) : CallR X (.type "str") (rStrMap T) := by
  subst hK
  subst hm
  exact call_strMap T hr
theorem op_eqMapK {X : Cx} (hK : X.K = K) (hm : X.mg = mg) (T : TMap K mg) (hr : Room 1 X.A) : OpR X (compareOp .Eq) (rEqMap T) := by
  subst hK
  subst hm
  exact op_eqMap T hr
theorem scLaw24 : FnScope ["_law_script", "_law_deal_here", "_law_odd", "_law_turn", "_law_some", "_law_made", "_law_near", "_law_at", "_law_due", "_law_k"] ["_law_script"] (defScope sLaw24) := ⟨rfl, rfl, rfl, by decide +kernel, rfl, by decide +kernel, by decide +kernel⟩
theorem ok_law24 (T : TK24 K mg) {f : Addr} {fd : FuncData} (F : Fun K "law" "law" sLaw24 f fd) {A : Around} (hrA : Room 13 A) (hgA : A.guards = some []) : RunAt P w K mg base A f fd ["_law_script"] (spLaw24 K) := by
  refine fun_at (k := 12) F scLaw24 hrA (fun vs H Q E h => ?_) (fun cdv s H vs Q E hr h => ?_)
  · obtain ⟨a, ns, rfl, _⟩ := h
    rfl
  · obtain ⟨a, ns, rfl, hS, hl, q⟩ := h
    have hgd : (A.deeper (PyProof.Rows.envOfC "law" (defScope sLaw24) s.heap.objs.size f cdv)).guards = some [] := hgA
    refine ⟨_, pss_cons (ps_set (i := 1) scLaw24.nd rfl (Or.inr rfl) (pe_call T.A.okDeal (hr.mono (by decide)) rfl T.A.deal.m T.A.deal.F.kp T.A.deal.b .nil pass0 (pa_cons (pv 0) pa_nil)))
      (pss_cons (ps_set (i := 2) scLaw24.nd rfl (Or.inl rfl) (pe_lst (pa_cons pe_non (pa_cons pe_str (pa_cons (pe_tup (pa_cons pe_str pa_nil)) (pa_cons (pe_lst (pa_cons pe_str (pa_cons pe_int pa_nil))) (pa_cons (pe_tup (pa_cons pe_str (pa_cons (pe_un un_neg pe_int) pa_nil))) (pa_cons (pe_tup (pa_cons pe_str (pa_cons pe_bl pa_nil))) (pa_cons (pe_tup (pa_cons pe_str (pa_cons pe_int pa_nil))) (pa_cons (pe_tup (pa_cons pe_str (pa_cons pe_str pa_nil))) (pa_cons (pe_tup (pa_cons pe_str (pa_cons pe_int (pa_cons pe_int pa_nil)))) pa_nil)))))))))))
      (pss_cons (ps_set (i := 2) scLaw24.nd rfl (Or.inl rfl) (pe_op op_cat (pv 2) (pe_lst (pa_cons (pe_tup (pa_cons pe_int (pa_cons pe_str pa_nil))) (pa_cons (pe_tup (pa_cons pe_non (pa_cons pe_int pa_nil))) (pa_cons (pe_tup (pa_cons pe_str (pa_cons pe_non pa_nil))) (pa_cons (pe_tup (pa_cons (pe_lst (pa_cons pe_str pa_nil)) (pa_cons pe_int pa_nil))) (pa_cons (pe_tup (pa_cons pe_str (pa_cons pe_int pa_nil))) pa_nil))))))))
      (pss_cons (ps_for PassesOwn.never rfl (pi_range1 rfl T.mRange (pa_cons pe_int pa_nil)) (pg_name (i := 3) scLaw24.nd rfl (Or.inl rfl))
        (pss_cons (ps_setLc (i := 4) (own := [("_law_k", 9)]) (g := gName 9) (tt := tYes) (by rfl) scLaw24.nd rfl rfl (sw_true rfl rfl rfl (by decide +kernel)) (pi_range1 rfl T.mRange (pa_cons pe_int pa_nil)) (blkOk_by (N := ["_law_script", "_law_deal_here", "_law_odd", "_law_turn", "_law_some", "_law_made", "_law_near", "_law_at", "_law_due", "_law_k"]) (sc := defScope sLaw24) (by decide +kernel)) (fun _ _ _ _ _ => pg_name (i := 9) scLaw24.nd rfl (Or.inl rfl)) (fun _ _ _ _ _ => pts_nil) (fun _ _ _ _ _ => pe_tup (pa_cons (pe_call T.A.okPick (hr.mono (by decide)) rfl T.A.pick.m T.A.pick.F.kp T.A.pick.b .nil pass0 (pa_cons (pv 1) (pa_cons (pe_lst (pa_cons pe_str (pa_cons pe_str (pa_cons pe_str pa_nil)))) pa_nil))) (pa_cons (pe_op op_mul (pe_call T.A.okDraw (hr.mono (by decide)) rfl T.A.draw.m T.A.draw.F.kp T.A.draw.b .nil pass0 (pa_cons (pv 1) (pa_cons pe_int pa_nil))) (pe_op op_pow pe_int pe_int)) pa_nil))))
          (pss_cons (ps_set (i := 5) scLaw24.nd rfl (Or.inl rfl) (pe_make T.M.M (okMapInit T.M) (hr.mono (by decide)) rfl T.M.mC T.M.bI .nil passN0 (pa_cons (pe_ix ix_list (pv 4) pe_int (fun _ _ => rfl)) (pa_cons (pe_ix ix_list (pv 4) pe_int (fun _ _ => rfl)) pa_nil))))
          (pss_cons (ps_if (pt_cmpR op_ne (pe_callB (call_reprD hgd hr) (by rfl) T.mRepr (by decide +kernel) (pa_cons (pe_tup (pa_cons (pe_fld (pv 5) rfl) (pa_cons (pe_fld (pv 5) rfl) pa_nil))) pa_nil)) (pe_callB (call_reprD hgd hr) (by rfl) T.mRepr (by decide +kernel) (pa_cons (pe_tupleOf rfl T.A.mT (pv 4)) pa_nil)) (nomark _)) (pss_one (ps_ret pe_bl)) pss_nil)
          (pss_cons (ps_if (pt_cmpR op_ne (pe_callTy (call_strMapK (K := K) (mg := mg) rfl rfl T.M (hr.mono (show 4 ≤ 12 by decide))) (by rfl) T.mStr (by decide +kernel) (pa_cons (pv 5) pa_nil)) (pe_op op_add_str (pe_op op_add_str (pe_call (ok_side24 T.toTK24a) (hr.mono (by decide)) rfl T.side.m T.side.F.kp T.side.b .nil pass0 (pa_cons (pe_ix ix_list (pv 4) pe_int (fun _ _ => rfl)) pa_nil)) pe_str) (pe_call (ok_side24 T.toTK24a) (hr.mono (by decide)) rfl T.side.m T.side.F.kp T.side.b .nil pass0 (pa_cons (pe_ix ix_list (pv 4) pe_int (fun _ _ => rfl)) pa_nil))) (nomark _)) (pss_one (ps_ret pe_bl)) pss_nil)
          (pss_cons (ps_set (i := 6) scLaw24.nd rfl (Or.inl rfl) (pe_make T.M.M (okMapInit T.M) (hr.mono (by decide)) rfl T.M.mC T.M.bI .nil passN0 (pa_cons (pe_ix ix_list (pv 4) pe_int (fun _ _ => rfl)) (pa_cons (pe_tup (pa_cons (pe_ix ix_tup (pe_ix ix_list (pv 4) pe_int (fun _ _ => rfl)) pe_int (fun _ _ => rfl)) (pa_cons (pe_op op_add (pe_ix ix_tup (pe_ix ix_list (pv 4) pe_int (fun _ _ => rfl)) pe_int (fun _ _ => rfl)) (pe_call T.A.okDraw (hr.mono (by decide)) rfl T.A.draw.m T.A.draw.F.kp T.A.draw.b .nil pass0 (pa_cons (pv 1) (pa_cons pe_int pa_nil)))) pa_nil))) pa_nil))))
          (pss_cons (ps_if (PW.pt (pw_or (pt_cmpR op_ne (pe_cmpR (op_eqMapK (K := K) (mg := mg) rfl rfl T.M (hr.mono (show 1 ≤ 12 by decide))) (pv 6) (pv 5) (nomark _)) (pe_cmpR op_eq (pe_callTy (call_strMapK (K := K) (mg := mg) rfl rfl T.M (hr.mono (show 4 ≤ 12 by decide))) (by rfl) T.mStr (by decide +kernel) (pa_cons (pv 6) pa_nil)) (pe_callTy (call_strMapK (K := K) (mg := mg) rfl rfl T.M (hr.mono (show 4 ≤ 12 by decide))) (by rfl) T.mStr (by decide +kernel) (pa_cons (pv 5) pa_nil)) (nomark _)) (nomark _)) (pw_or1 (pt_cmpR (op_inMapK (K := K) (mg := mg) rfl rfl T (hr.mono (show 2 ≤ 12 by decide))) (pv 5) (pe_tup (pa_cons (pe_callTy (call_strMapK (K := K) (mg := mg) rfl rfl T.M (hr.mono (show 4 ≤ 12 by decide))) (by rfl) T.mStr (by decide +kernel) (pa_cons (pv 5) pa_nil)) (pa_cons (pe_tupleOf rfl T.A.mT (pv 4)) (pa_cons pe_non pa_nil)))) rfl)))) (pss_one (ps_ret pe_bl)) pss_nil)
          (pss_cons (ps_for PassesOwn.never rfl (pi_range1 rfl T.mRange (pa_cons pe_int pa_nil)) (pg_name (i := 7) scLaw24.nd rfl (Or.inl rfl)) (pss_one (ps_if (pt_cmpR op_eq (pe_call T.A.okDraw (hr.mono (by decide)) rfl T.A.draw.m T.A.draw.F.kp T.A.draw.b .nil pass0 (pa_cons (pv 1) (pa_cons pe_int pa_nil))) pe_int (nomark _)) (pss_one (ps_asg (pe_ifExp (pt_cmpR op_gt (pe_call T.A.okDraw (hr.mono (by decide)) rfl T.A.draw.m T.A.draw.F.kp T.A.draw.b .nil pass0 (pa_cons (pv 1) (pa_cons pe_int pa_nil))) pe_int (nomark _)) (pe_call T.A.okPick (hr.mono (by decide)) rfl T.A.pick.m T.A.pick.F.kp T.A.pick.b .nil pass0 (pa_cons (pv 1) (pa_cons (pv 2) pa_nil))) (pe_call (ok_any24 T.A 3) (hr.mono (by decide)) rfl T.A.any.m T.A.any.F.kp T.A.any.b .nil pass0 (pa_cons (pv 1) (pa_cons pe_int pa_nil)))) (pg_sub (pv 4) (pv 7) set_list))) pss_nil)))
          (pss_cons (ps_set (i := 8) scLaw24.nd rfl (Or.inl rfl) (pe_ifExp (pt_not (pt_val (pe_call (ok_istold T.toTK24a) (hr.mono (by decide)) rfl T.told.m T.told.F.kp T.told.b .nil pass0 (pa_cons (pe_ix ix_list (pv 4) pe_int (fun _ _ => rfl)) pa_nil)))) pe_str (pe_ifExp (pt_val (pe_call (ok_istold T.toTK24a) (hr.mono (by decide)) rfl T.told.m T.told.F.kp T.told.b .nil pass0 (pa_cons (pe_ix ix_list (pv 4) pe_int (fun _ _ => rfl)) pa_nil))) pe_non pe_str)))
          (pss_one (ps_if (pt_cmpR op_ne (pe_call (ok_word24 T.toTK24a) (hr.mono (by decide)) rfl T.word.m T.word.F.kp T.word.b .nil pass0 (pa_cons (pe_ix ix_list (pv 4) pe_int (fun _ _ => rfl)) (pa_cons (pe_ix ix_list (pv 4) pe_int (fun _ _ => rfl)) pa_nil))) (pv 8) (nomark _)) (pss_one (ps_ret pe_bl)) pss_nil)))))))))))
      (pss_one (ps_ret (pe_and (pe_cmpR (op_eqMapK (K := K) (mg := mg) rfl rfl T.M (hr.mono (show 1 ≤ 12 by decide))) (pe_make0 T.M.M (okMapInit T.M) (hr.mono (by decide)) rfl T.M.mC T.M.b0 T.M.v0 passN0) (pe_make T.M.M (okMapInit T.M) (hr.mono (by decide)) rfl T.M.mC T.M.bI .nil passN0 (pa_cons (pe_tup (pa_cons pe_str (pa_cons pe_int pa_nil))) (pa_cons (pe_tup (pa_cons pe_str (pa_cons pe_int pa_nil))) pa_nil))) (nomark _)) (pe_one (pe_cmpR op_eq (pe_callTy (call_strMapK (K := K) (mg := mg) rfl rfl T.M (hr.mono (show 4 ≤ 12 by decide))) (by rfl) T.mStr (by decide +kernel) (pa_cons (pe_make0 T.M.M (okMapInit T.M) (hr.mono (by decide)) rfl T.M.mC T.M.b0 T.M.v0 passN0) pa_nil)) pe_str (nomark _))))))))), ?_⟩
    try dsimp only
    refine ⟨_, rfl, a, ns, rfl, hS, hl, fun d g H0 hD0 hs0 => ?_⟩
    try dsimp only
    refine stepSet (fun v H' => ∃ l vs ds, v = .ref l ∧ dif H0 H' l = some (.lst vs) ∧ DpAll K (dif H0 H') vs ds ∧ (∀ e ∈ ds, Good 3 e) ∧ Same H0 H' ∧ vs.length = 9) (fun Q' hQ => ?odd1) (fun v H1 hC => ?rest1)
    case odd1 =>
      have oA0 : DpAll K (dif H0 H0) [] [] := .nil
      have oS0 : Same H0 H0 := Same.refl _
      have oA1 := dpAll_append oA0 (.cons (.non (K := K)) .nil)
      have oA2 := dpAll_append oA1 (.cons (.str (K := K) (H := dif H0 H0) "now") .nil)
      refine ⟨(by show 1 ≤ sizeLine; decide), fun op3 hp => ?_⟩
      have hpn := oS0.free hp
      have oA3 := dpAll_append (dpAll_same (dif_grow (H0 := H0) (o := .tup [.str "now"]) hp) _ _ oA2) (.cons (.tup (SqT.of (dif_new hpn upd_same)) (.cons (.str _) .nil)) .nil)
      have oS3 := oS0.trans (Same.new (o := .tup [.str "now"]) hp)
      generalize upd H0 op3 (HO.tup [V.str (Str.ofString "now")]) = oH3 at oA3 oS3 ⊢
      refine ⟨(by show 2 ≤ sizeLine; decide), fun op4 hp => ?_⟩
      have hpn := oS3.free hp
      have oA4 := dpAll_append (dpAll_same (dif_grow (H0 := H0) (o := .lst [.str "now", .int 0]) hp) _ _ oA3) (.cons (.lst (SqL.of (dif_new hpn upd_same)) (.cons (.str _) (.cons (.int _) .nil))) .nil)
      have oS4 := oS3.trans (Same.new (o := .lst [.str "now", .int 0]) hp)
      generalize upd oH3 op4 (HO.lst [V.str (Str.ofString "now"), V.int 0]) = oH4 at oA4 oS4 ⊢
      refine ⟨1, rfl, (by show 2 ≤ sizeLine; decide), fun op5 hp => ?_⟩
      have hpn := oS4.free hp
      have oA5 := dpAll_append (dpAll_same (dif_grow (H0 := H0) (o := .tup [.str "now", .int (-1)]) hp) _ _ oA4) (.cons (.tup (SqT.of (dif_new hpn upd_same)) (.cons (.str _) (.cons (.int _) .nil))) .nil)
      have oS5 := oS4.trans (Same.new (o := .tup [.str "now", .int (-1)]) hp)
      generalize upd oH4 op5 (HO.tup [V.str (Str.ofString "now"), V.int (-1)]) = oH5 at oA5 oS5 ⊢
      refine ⟨(by show 2 ≤ sizeLine; decide), fun op6 hp => ?_⟩
      have hpn := oS5.free hp
      have oA6 := dpAll_append (dpAll_same (dif_grow (H0 := H0) (o := .tup [.str "now", .bl true]) hp) _ _ oA5) (.cons (.tup (SqT.of (dif_new hpn upd_same)) (.cons (.str _) (.cons (.bl _) .nil))) .nil)
      have oS6 := oS5.trans (Same.new (o := .tup [.str "now", .bl true]) hp)
      generalize upd oH5 op6 (HO.tup [V.str (Str.ofString "now"), V.bl true]) = oH6 at oA6 oS6 ⊢
      refine ⟨(by show 2 ≤ sizeLine; decide), fun op7 hp => ?_⟩
      have hpn := oS6.free hp
      have oA7 := dpAll_append (dpAll_same (dif_grow (H0 := H0) (o := .tup [.str "Now", .int 0]) hp) _ _ oA6) (.cons (.tup (SqT.of (dif_new hpn upd_same)) (.cons (.str _) (.cons (.int _) .nil))) .nil)
      have oS7 := oS6.trans (Same.new (o := .tup [.str "Now", .int 0]) hp)
      generalize upd oH6 op7 (HO.tup [V.str (Str.ofString "Now"), V.int 0]) = oH7 at oA7 oS7 ⊢
      refine ⟨(by show 2 ≤ sizeLine; decide), fun op8 hp => ?_⟩
      have hpn := oS7.free hp
      have oA8 := dpAll_append (dpAll_same (dif_grow (H0 := H0) (o := .tup [.str "now", .str "0"]) hp) _ _ oA7) (.cons (.tup (SqT.of (dif_new hpn upd_same)) (.cons (.str _) (.cons (.str _) .nil))) .nil)
      have oS8 := oS7.trans (Same.new (o := .tup [.str "now", .str "0"]) hp)
      generalize upd oH7 op8 (HO.tup [V.str (Str.ofString "now"), V.str (Str.ofString "0")]) = oH8 at oA8 oS8 ⊢
      refine ⟨(by show 3 ≤ sizeLine; decide), fun op9 hp => ?_⟩
      have hpn := oS8.free hp
      have oA9 := dpAll_append (dpAll_same (dif_grow (H0 := H0) (o := .tup [.str "now", .int 0, .int 0]) hp) _ _ oA8) (.cons (.tup (SqT.of (dif_new hpn upd_same)) (.cons (.str _) (.cons (.int _) (.cons (.int _) .nil)))) .nil)
      have oS9 := oS8.trans (Same.new (o := .tup [.str "now", .int 0, .int 0]) hp)
      generalize upd oH8 op9 (HO.tup [V.str (Str.ofString "now"), V.int 0, V.int 0]) = oH9 at oA9 oS9 ⊢
      refine ⟨(by show 9 ≤ sizeLine; decide), fun l hlp => ?_⟩
      exact hQ _ _ ⟨l, _, _, rfl, dif_new (oS9.free hlp) upd_same, dpAll_same (dif_grow hlp) _ _ oA9, good_of_all (by decide +kernel), oS9.trans (Same.new hlp), rfl⟩
    case rest1 =>
    obtain ⟨l1, vs1, ds1, rfl, hl1, hA1, hg1, hs1, hn1⟩ := hC
    try dsimp only
    refine stepSet (fun v H' => ∃ l vs ds, v = .ref l ∧ dif H0 H' l = some (.lst vs) ∧ DpAll K (dif H0 H') vs ds ∧ (∀ e ∈ ds, Good 3 e) ∧ Same H0 H' ∧ vs.length = 14) (fun Q' hQ => ?odd2) (fun v H2 hC => ?rest2)
    case odd2 =>
      refine ⟨_, rfl, ?_⟩
      have uinit := hs1
      have lift : ∀ {Hx : Hp}, Same H1 Hx → Same (dif H0 H1) (dif H0 Hx) := fun {Hx} sx b o e => by
        obtain ⟨e0, e1⟩ := dif_eq.mp e
        exact dif_new e0 (sx _ _ e1)
      have uA0 : DpAll K (dif H1 H1) [] [] := .nil
      have uS0 : Same H1 H1 := Same.refl _
      refine ⟨(by show 2 ≤ sizeLine; decide), fun up1 hp => ?_⟩
      have hpn := uS0.free hp
      have uA1 := dpAll_append (dpAll_same (dif_grow (H0 := H1) (o := .tup [.int 0, .str "now"]) hp) _ _ uA0) (.cons (.tup (SqT.of (dif_new hpn upd_same)) (.cons (.int _) (.cons (.str _) .nil))) .nil)
      have uS1 := uS0.trans (Same.new (o := .tup [.int 0, .str "now"]) hp)
      generalize upd H1 up1 (HO.tup [V.int 0, V.str (Str.ofString "now")]) = uH1 at uA1 uS1 ⊢
      refine ⟨(by show 2 ≤ sizeLine; decide), fun up2 hp => ?_⟩
      have hpn := uS1.free hp
      have uA2 := dpAll_append (dpAll_same (dif_grow (H0 := H1) (o := .tup [.non, .int 0]) hp) _ _ uA1) (.cons (.tup (SqT.of (dif_new hpn upd_same)) (.cons .non (.cons (.int _) .nil))) .nil)
      have uS2 := uS1.trans (Same.new (o := .tup [.non, .int 0]) hp)
      generalize upd uH1 up2 (HO.tup [V.non, V.int 0]) = uH2 at uA2 uS2 ⊢
      refine ⟨(by show 2 ≤ sizeLine; decide), fun up3 hp => ?_⟩
      have hpn := uS2.free hp
      have uA3 := dpAll_append (dpAll_same (dif_grow (H0 := H1) (o := .tup [.str "at", .non]) hp) _ _ uA2) (.cons (.tup (SqT.of (dif_new hpn upd_same)) (.cons (.str _) (.cons .non .nil))) .nil)
      have uS3 := uS2.trans (Same.new (o := .tup [.str "at", .non]) hp)
      generalize upd uH2 up3 (HO.tup [V.str (Str.ofString "at"), V.non]) = uH3 at uA3 uS3 ⊢
      refine ⟨(by show 1 ≤ sizeLine; decide), fun up4q hq => ?_⟩
      have hqn := uS3.free hq
      have uA4x := dpAll_same (dif_grow (H0 := H1) (o := .lst [.str "at"]) hq) _ _ uA3
      have uS4x := uS3.trans (Same.new (o := .lst [.str "at"]) hq)
      have hqq : dif H1 (upd uH3 up4q (.lst [.str "at"])) up4q = some (.lst [.str "at"]) := dif_new hqn upd_same
      generalize upd uH3 up4q (.lst [V.str (Str.ofString "at")]) = uH4x at uA4x uS4x hqq ⊢
      refine ⟨(by show 2 ≤ sizeLine; decide), fun up4 hp => ?_⟩
      have hpn := uS4x.free hp
      have uA4 := dpAll_append (dpAll_same (dif_grow (H0 := H1) (o := .tup [.ref up4q, .int 1]) hp) _ _ uA4x) (.cons (.tup (SqT.of (dif_new hpn upd_same)) (.cons (.lst (SqL.of (dif_grow (H0 := H1) (o := .tup [.ref up4q, .int 1]) hp _ _ hqq)) (.cons (.str "at") .nil)) (.cons (.int 1) .nil))) .nil)
      have uS4 := uS4x.trans (Same.new (o := .tup [.ref up4q, .int 1]) hp)
      generalize upd uH4x up4 (HO.tup [V.ref up4q, V.int 1]) = uH4 at uA4 uS4 ⊢
      refine ⟨(by show 2 ≤ sizeLine; decide), fun up5 hp => ?_⟩
      have hpn := uS4.free hp
      have uA5 := dpAll_append (dpAll_same (dif_grow (H0 := H1) (o := .tup [.str "here", .int 2]) hp) _ _ uA4) (.cons (.tup (SqT.of (dif_new hpn upd_same)) (.cons (.str _) (.cons (.int _) .nil))) .nil)
      have uS5 := uS4.trans (Same.new (o := .tup [.str "here", .int 2]) hp)
      generalize upd uH4 up5 (HO.tup [V.str (Str.ofString "here"), V.int 2]) = uH5 at uA5 uS5 ⊢
      refine ⟨(by show 5 ≤ sizeLine; decide), fun l2 hl2 => ?_⟩
      have s12 := uS5.trans (Same.new hl2 (o := .lst [.ref up1, .ref up2, .ref up3, .ref up4, .ref up5]))
      have hl1' := s12 _ _ (dif_sub _ _ hl1)
      refine ⟨l1, l2, vs1, _, rfl, rfl, hl1', upd_same, (by rw [hn1]; show 14 ≤ sizeLine; decide), fun p hp => ?_⟩
      have sAll := s12.trans (Same.new hp (o := .lst (vs1 ++ [.ref up1, .ref up2, .ref up3, .ref up4, .ref up5])))
      refine hQ _ _ ⟨p, _, _, rfl, dif_new (hs1.free (s12.free hp)) upd_same, dpAll_append (dpAll_same (lift sAll) _ _ hA1) (dpAll_same (fun b o e => ?_) _ _ uA5), fun e he => ?_, hs1.trans sAll, by rw [List.length_append, hn1]; rfl⟩
      · obtain ⟨e0, e1⟩ := dif_eq.mp e
        exact dif_new (hs1.free e0) (((Same.new hl2).trans (Same.new hp)) _ _ e1)
      · rcases List.mem_append.mp he with he | he
        · exact hg1 e he
        · exact good_of_all (by decide +kernel) e he
    case rest2 =>
    obtain ⟨l2, vs2, ds2, rfl, hl2, hA2, hg2, hs2, hn2⟩ := hC
    have hD2 : DealAt H2 d g := hD0.same hs2
    have dh : Same (dif H0 H2) (hh H2 d g) := dif_hh hD0
    have hl2h := dh _ _ hl2
    have hA2h := dpAll_same dh _ _ hA2
    have hS2 : Same H (hh H2 d g) := hs0.trans (hh_same hs2)
    clear hA2 hl2 dh
    try dsimp only
    refine ⟨12, rfl, by decide, by decide, for_range (lo := 0) (n := 12) (fun i σ Hc => ∃ x3 x4 x5 x6 x7 x8 x9, σ = [some (.ref a), some (.ref d), some (.ref l2), x3, x4, x5, x6, x7, x8, x9] ∧ DealAt Hc d g ∧ Same (hh H2 d g) (hh Hc d g))
      ⟨_, _, _, _, _, _, _, rfl, hD2, Same.refl _⟩ (fun i σ Hc hi hP => ?turn) (fun σ Hc hP => ?fin)⟩
    case fin =>
      obtain ⟨x3, x4, x5, x6, x7, x8, x9, rfl, hDc, hsc⟩ := hP
      try dsimp only
      refine map_made T.M (s := ((.now, 0), (.box, 0))) (T.M.hNow _) (T.M.hBox _) fun x Ha sa hx => ⟨(by show 2 ≤ sizeLine; decide), fun p hp => ⟨(by show 2 ≤ sizeLine; decide), fun p2 hp2 => ?_⟩⟩
      refine map_made T.M (s := ((.now, 0), (.box, 0))) (SqT.of (Same.new hp2 _ _ upd_same)) (SqT.of upd_same) fun y Hb sb hy => ?_
      refine ⟨x, y, _, _, rfl, rfl, ((hx.same (Same.new hp)).same (Same.new hp2)).same sb, hy, ?_⟩
      refine ⟨_, rfl, iteTB (by decide) (map_made T.M (s := ((.now, 0), (.box, 0))) (T.M.hNow _) (T.M.hBox _) fun z Hz sz hz => ⟨z, _, rfl, hz, ⟨by decide, by decide⟩, rfl, ?_⟩)⟩
      rw [show (decide (V.str (mapText ((.now, 0), (.box, 0))) = V.str (Str.ofString "now+0 box+0"))) = true from by decide +kernel]
      exact q _
    case turn =>
      obtain ⟨x3, x4, x5, x6, x7, x8, x9, rfl, hDc, hsc⟩ := hP
      try dsimp only
      refine stepSet (fun v H' => ∃ sp a0 a1 t0 t1, v = .ref sp ∧ Hc sp = none ∧ DealAt H' d g ∧ H' sp = some (.lst [.ref a0, .ref a1]) ∧ SqT K H' a0 (tv t0) ∧ SqT K H' a1 (tv t1) ∧ t0.2 < 10 ^ 9 ∧ t1.2 < 10 ^ 9 ∧ Same (hh Hc d g) (hh H' d g)) (fun Q' hQ => ?some_) (fun v H3 hC => ?rest3)
      case some_ =>
        refine ⟨2, rfl, by decide, by decide, fun D hD => lc_range (lo := 0) (n := 2) (fun j Hj => ∃ (ps : List Addr) (ts : List Tm), Hj D = some (.lst (ps.map V.ref)) ∧ ps.length = j ∧ Paired (fun p t => SqT K Hj p (tv t)) ps ts ∧ (∀ t ∈ ts, t.2 < 10 ^ 9) ∧ DealAt Hj d g ∧ Same (hh Hc d g) (hh Hj d g)) ⟨[], [], upd_same, rfl, .nil, (fun s hs => by cases hs), hDc.new hD, hh_new hD⟩ (fun j Hj hj hM => ?turn1) (fun Hj hM => ?done1)⟩
        case turn1 =>
          obtain ⟨ps, ts, hDj, hlen, hpp, hlim, hdj, hsj⟩ := hM
          have hjr : j < 2 := hj
          refine ⟨rfl, _, rfl, (by show 3 ≤ sizeLine; decide), fun p hp => ?_⟩
          refine ⟨d, g, p, _, rfl, hdj.new hp, SqL.of (hh_at hdj hp), (by show 0 < 3; decide), (by show 3 < 1000000; decide), fun v Ha hv hDa sa ma => ?_⟩
          obtain ⟨w3, rfl⟩ := w3_mem hv
          refine ⟨_, rfl, d, g, 4, rfl, hDa, by decide, by decide, fun r Hb r0 r1 hDb sb mb => ?_⟩
          refine ⟨_, _, rfl, rfl, ⟨by decide, by decide, by decide⟩, _, _, rfl, rfl, .inr ⟨by decide, by decide⟩, (by show 2 ≤ sizeLine; decide), fun q hq => ?_⟩
          obtain ⟨R, rfl⟩ : ∃ R : Nat, r = (R : Int) := ⟨r.toNat, by omega⟩
          have hq0 : (HO.tup [V.str w3.s, (fun (i j : Int) => V.int (i * j)) (R : Int) (10 ^ Int.toNat 8)]) = .tup (tv (w3, R * 100000000)) := by
            show HO.tup [.str w3.s, .int ((R : Int) * 100000000)] = HO.tup [.str w3.s, .int ((R * 100000000 : Nat) : Int)]
            rw [Int.natCast_mul]
            rfl
          rw [hq0]
          obtain ⟨nd1, nd2⟩ := hDc.nd hD
          have sall : Same (hh Hj d g) (hh (upd Hb q (.tup (tv (w3, R * 100000000)))) d g) := (hh_new hp).trans (sa.trans (sb.trans (hh_new hq)))
          have hDD : upd Hb q (.tup (tv (w3, R * 100000000))) D = some (.lst (ps.map V.ref)) := hh_sub _ _ (sall _ _ (hh_get hDj nd1 nd2))
          refine ⟨_, hDD, small1000 (by rw [List.length_map]; omega), ps ++ [q], ts ++ [(w3, R * 100000000)], by rw [upd_same, List.map_append]; rfl, by rw [List.length_append, hlen]; rfl, paired_snoc (R := fun p (t : Tm) => SqT K _ p (tv t)) (sqt_lst hDD (SqT.of upd_same)) (paired_mono (R := fun p (t : Tm) => SqT K Hj p (tv t)) (S := fun p (t : Tm) => SqT K _ p (tv t)) (fun _ _ z => sqt_lst hDD (Same.sqt hh_sub (Same.sqt sall (sqt_hh hdj z)))) hpp), fun t ht => ?_, (hDb.new hq).upd nd1 nd2, hh_up (hsj.trans sall) hD⟩
          rcases List.mem_append.mp ht with ht | ht
          · exact hlim t ht
          · rw [List.mem_singleton.mp ht]
            show R * 100000000 < 10 ^ 9
            omega
        case done1 =>
          obtain ⟨ps, ts, hDj, hlen, hpp, hlim, hdj, hsj⟩ := hM
          match ps, ts, hpp, hlen, hDj, hlim with
          | [a0, a1], [t0, t1], .cons h0 (.cons h1 .nil), _, hDj, hlim => exact hQ _ _ ⟨D, a0, a1, t0, t1, rfl, hD, hdj, hDj, h0, h1, hlim _ List.mem_cons_self, hlim _ (List.mem_cons_of_mem _ List.mem_cons_self), hsj⟩
      case rest3 =>
      obtain ⟨sp, a0, a1, t0, t1, rfl, hspn, hD3, hsp, h0, h1, lt0, lt1, s3⟩ := hC
      have hspH2 : H2 sp = none := mo_hh hDc hsc _ hspn
      have b0 : t0.2 < 10 ^ 20 := by omega
      have b1 : t1.2 < 10 ^ 20 := by omega
      try dsimp only
      refine stepSet (fun v H' => ∃ m, v = .ref m ∧ MapAt T.M H' m (t0, t1) ∧ Same H3 H') (fun Q' hQ => ⟨_, rfl, sp, _, _, _, rfl, rfl, SqL.of hsp, atI_nat (j := 0) rfl, _, rfl, sp, _, _, _, rfl, rfl, SqL.of hsp, atI_nat (j := 1) rfl, map_made T.M (s := (t0, t1)) h0 h1 fun x Ha sa hx => hQ _ _ ⟨x, rfl, hx, sa⟩⟩) (fun v H4 hC => ?rest4)
      case rest4 =>
      obtain ⟨m, rfl, hm, s4⟩ := hC
      have hsp4 := s4 _ _ hsp
      have h04 := Same.sqt s4 h0
      have h14 := Same.sqt s4 h1
      try dsimp only
      refine stepNo (fun H' => Same H4 H') (fun Q' hQ => ?c5) (fun H5 s5 => ?rest5)
      case c5 =>
        obtain ⟨dx, b0', b1', hi', hb0, hb1⟩ := id hm
        obtain ⟨q1, q2, q3, q4⟩ := pair_repr (t := t0) (u := t1) b0 b1
        refine ⟨_, rfl, m, T.M.C, dx, _, .ref b0', rfl, hi', T.M.cl, T.M.noN, map_now, _, rfl, m, T.M.C, dx, _, .ref b1', rfl, hi', T.M.cl, T.M.noB, map_box, (by show 2 ≤ sizeLine; decide), fun p hp => ?_⟩
        have n1 := Same.new (o := .tup [.ref b0', .ref b1']) hp
        refine ⟨p, _, rfl, .tup (SqT.of upd_same) (.cons (tm_dp (Same.sqt n1 hb0)) (.cons (tm_dp (Same.sqt n1 hb1)) .nil)), q1, q2, q3, q4, ?_⟩
        refine ⟨_, rfl, .inl ⟨sp, _, rfl, SqL.of (n1 _ _ hsp4), fun p2 hp2 => ?_⟩⟩
        have n2 := Same.new (o := .tup [.ref a0, .ref a1]) hp2
        refine ⟨p2, _, rfl, .tup (SqT.of upd_same) (.cons (tm_dp (Same.sqt n2 (Same.sqt n1 h04))) (.cons (tm_dp (Same.sqt n2 (Same.sqt n1 h14))) .nil)), q1, q2, q3, q4, rfl, _, rfl, ?_⟩
        rw [show ∀ z : Str, (!decide (V.str z = V.str z)) = false from fun z => by simp]
        exact hQ _ (n1.trans n2)
      case rest5 =>
      have hm5 := hm.same s5
      have hsp5 := s5 _ _ hsp4
      have h05 := Same.sqt s5 h04
      have h15 := Same.sqt s5 h14
      have tl0 := tmText_len b0
      have tl1 := tmText_len b1
      have ts1 : (" " : Str).length = 1 := by decide +kernel
      try dsimp only
      refine stepNo (fun H' => H' = H5) (fun Q' hQ => ?c6) (fun H6 e6 => ?rest6)
      case c6 =>
        refine ⟨_, rfl, m, _, rfl, hm5, ⟨b0, b1⟩, _, rfl, sp, _, _, _, rfl, rfl, SqL.of hsp5, atI_nat (j := 0) rfl, a0, t0, rfl, h05, b0, _, _, rfl, rfl, ?l1, ?g1⟩
        case l1 => exact Nat.le_trans (show _ ≤ 200 by rw [ts1]; omega) (by decide)
        refine ⟨_, rfl, sp, _, _, _, rfl, rfl, SqL.of hsp5, atI_nat (j := 1) rfl, a1, t1, rfl, h15, b1, _, _, rfl, rfl, ?l2, rfl, _, rfl, ?g2⟩
        case l2 => exact Nat.le_trans (show _ ≤ 300 by rw [strLen_append, ts1]; omega) (by decide)
        rw [show V.str (mapText (t0, t1)) = V.str ((tmText t0 ++ (" " : Str)) ++ tmText t1) from by show V.str (((Str.empty ++ tmText t0) ++ (" " : Str)) ++ tmText t1) = _; rw [PySem.Str.empty_append], show ∀ z : Str, (!decide (V.str z = V.str z)) = false from fun z => by simp]
        exact hQ _ rfl
      case rest6 =>
      subst e6
      have hD6 : DealAt H6 d g := hD3.same (s4.trans s5)
      have s36 : Same (hh Hc d g) (hh H6 d g) := s3.trans (hh_same (s4.trans s5))
      obtain ⟨nd1, nd2⟩ := hDc.nd hspn
      try dsimp only
      refine stepSet (fun v H' => ∃ n t, v = .ref n ∧ MapAt T.M H' n (t0, t) ∧ (t = t1 ∨ t = (t1.1, t1.2 + 1)) ∧ DealAt H' d g ∧ Same (hh H6 d g) (hh H' d g)) (fun Q' hQ => ?c7) (fun v H7 hC => ?rest7)
      case c7 =>
        refine ⟨_, rfl, sp, _, _, _, rfl, rfl, SqL.of hsp5, atI_nat (j := 0) rfl, _, rfl, sp, _, _, _, rfl, rfl, SqL.of hsp5, atI_nat (j := 1) rfl, a1, _, _, _, rfl, rfl, h15, atI_nat (j := 0) rfl, _, rfl, sp, _, _, _, rfl, rfl, SqL.of hsp5, atI_nat (j := 1) rfl, a1, _, _, _, rfl, rfl, h15, atI_nat (j := 1) rfl, _, rfl, d, g, 2, rfl, hD6, by decide, by decide, fun r Hr r0 r1 hDr sr mr => ⟨_, _, rfl, rfl, (by show 2 ≤ sizeLine; decide), fun p hp => ?_⟩⟩
        obtain ⟨R, rfl⟩ : ∃ R : Nat, r = (R : Int) := ⟨r.toNat, by omega⟩
        have n1 : Same (hh H6 d g) (upd Hr p (.tup (tv (t1.1, t1.2 + R)))) := sr.trans (hh_sub.trans (Same.new hp))
        refine map_made T.M (s := (t0, (t1.1, t1.2 + R))) (Same.sqt n1 (sqt_hh hD6 h05)) (SqT.of upd_same) fun x Ha sa hx => hQ _ _ ⟨x, _, rfl, hx, ?_, (hDr.new hp).same sa, sr.trans ((hh_new hp).trans (hh_same sa))⟩
        rcases (by omega : R = 0 ∨ R = 1) with rfl | rfl
        · exact .inl rfl
        · exact .inr rfl
      case rest7 =>
      obtain ⟨n, t, rfl, hn, ht, hD7, s7⟩ := hC
      have bt : t.2 < 10 ^ 20 := by
        rcases ht with rfl | rfl
        · exact b1
        · show t1.2 + 1 < 10 ^ 20
          omega
      have hm7 : MapAt T.M H7 m (t0, t1) := (map_hh hD6 hm5).same (s7.trans hh_sub)
      have hsp7 : H7 sp = some (.lst [.ref a0, .ref a1]) := hh_sub _ _ (s7 _ _ (hh_get hsp5 nd1 nd2))
      have h07 : SqT K H7 a0 (tv t0) := Same.sqt (s7.trans hh_sub) (sqt_hh hD6 h05)
      have h17 : SqT K H7 a1 (tv t1) := Same.sqt (s7.trans hh_sub) (sqt_hh hD6 h15)
      try dsimp only
      refine stepNo (fun H' => Same H7 H') (fun Q' hQ => ?c8) (fun H8 s8 => ?rest8)
      case c8 =>
        refine ⟨_, rfl, _, rfl, n, m, _, _, rfl, rfl, hn, hm7, _, rfl, n, _, rfl, hn, ⟨b0, bt⟩, _, rfl, m, _, rfl, hm7, ⟨b0, b1⟩, rfl, rfl, _, rfl, iteFB ?_ ?_⟩
        · rw [near_eq t0 t1 t ht]
          simp
        refine ⟨_, rfl, _, rfl, m, _, rfl, hm7, ⟨b0, b1⟩, _, rfl, .inl ⟨sp, _, rfl, SqL.of hsp7, fun p hp => ⟨(by show 3 ≤ sizeLine; decide), fun p2 hp2 => ?_⟩⟩⟩
        have n1 := Same.new (o := .tup [.ref a0, .ref a1]) hp
        have n2 := Same.new (o := .tup [.str (mapText (t0, t1)), .ref p, .non]) hp2
        refine ⟨m, p2, (t0, t1), _, rfl, rfl, (hm7.same n1).same n2, SqT.of upd_same, fun y hy => ?_, _, rfl, hQ _ (n1.trans n2)⟩
        rcases List.mem_cons.mp hy with rfl | hy
        · exact .inl ⟨_, rfl⟩
        rcases List.mem_cons.mp hy with rfl | hy
        · exact .inr (.inr ⟨p, _, rfl, n2 _ _ upd_same⟩)
        · exact .inr (.inl (List.mem_singleton.mp hy))
      case rest8 =>
      have hD8 := hD7.same s8
      have hsp8 := s8 _ _ hsp7
      have s28 : Same (hh H2 d g) (hh H8 d g) := hsc.trans (s36.trans (s7.trans (hh_same s8)))
      have hl8 : hh H8 d g sp = some (.lst [.ref a0, .ref a1]) := hh_get hsp8 nd1 nd2
      try dsimp only
      refine ⟨2, rfl, by decide, by decide, for_range (lo := 0) (n := 2) (fun j σ Hz => ∃ x7 v0 v1 d0 d1, σ = [some (.ref a), some (.ref d), some (.ref l2), some (.int (0 + (i : Int))), some (.ref sp), some (.ref m), some (.ref n), x7, x8, x9] ∧ DealAt Hz d g ∧ Same (hh H2 d g) (hh Hz d g) ∧ Hz sp = some (.lst [v0, v1]) ∧ Dp K (hid (hh Hz d g) sp) v0 d0 ∧ Dp K (hid (hh Hz d g) sp) v1 d1 ∧ Good 3 d0 ∧ Good 3 d1)
        ⟨x7, .ref a0, .ref a1, tD t0, tD t1, rfl, hD8, s28, hsp8, tm_dp (sqt_hid hl8 (sqt_hh hD8 (Same.sqt s8 h07))), tm_dp (sqt_hid hl8 (sqt_hh hD8 (Same.sqt s8 h17))), tD_good _, tD_good _⟩ (fun j σ Hz hj hP => ?turn9) (fun σ Hz hP => ?done9)⟩
      case turn9 =>
        obtain ⟨y7, v0, v1, d0, d1, rfl, hDz, s2z, hspz, hv0, hv1, hg0, hg1⟩ := hP
        refine ⟨_, rfl, d, g, 2, rfl, hDz, by decide, by decide, fun r Hr r0 r1 hDr sr mr => ⟨rfl, _, rfl, ite2 (fun hc => ?yes9) (fun hc => ?no9)⟩⟩
        case no9 => exact ⟨_, v0, v1, d0, d1, rfl, hDr, s2z.trans sr, hh_sub _ _ (sr _ _ (hh_get hspz nd1 nd2)), dp_same (hid_hh sr) _ _ hv0, dp_same (hid_hh sr) _ _ hv1, hg0, hg1⟩
        case yes9 =>
        refine stepAsg (fun v H' => DealAt H' d g ∧ Same (hh Hr d g) (hh H' d g) ∧ ∃ dd, Dp K (hid (hh H' d g) sp) v dd ∧ Good 3 dd) (fun Q' hQ => ?val9) (fun v H' hC => ?put9)
        case val9 =>
          refine ⟨_, rfl, d, g, 3, rfl, hDr, by decide, by decide, fun r2 Hs q0 q1 hDs ss ms => ⟨_, _, rfl, rfl, _, rfl, ite2 (fun hc2 => ?yes10) (fun hc2 => ?no10)⟩⟩
          case yes10 =>
            have s2s : Same (hh H2 d g) (hh Hs d g) := s2z.trans (sr.trans ss)
            refine ⟨_, rfl, _, rfl, d, g, l2, vs2, rfl, hDs, SqL.of (s2s _ _ hl2h), (by rw [hn2]; decide), (by rw [hn2]; decide), fun v H' hv hD' hs' hm' => ?_⟩
            obtain ⟨dd, hdd, hdp⟩ := dpAll_mem hA2h hv
            exact hQ v H' ⟨hD', ss.trans hs', dd, dp_same (same_hid (s2s.trans hs') (hid_none hspH2)) _ _ hdp, hg2 dd hdd⟩
          case no10 =>
            refine ⟨_, rfl, d, g, 3, rfl, by decide, by decide, hDs, fun v dd H' hD' hs' hm' hv hgd => ?_⟩
            exact hQ v H' ⟨hD', ss.trans hs', dd, dp_same (dif_hid hDs (by rw [hh_sub _ _ (ss _ _ (hh_get (hh_sub _ _ (sr _ _ (hh_get hspz nd1 nd2))) nd1 nd2))]; exact fun z => by cases z)) _ _ hv, hgd⟩
        case put9 =>
        obtain ⟨hD', s', dd, hdd, hgd⟩ := hC
        have hspp : H' sp = some (.lst [v0, v1]) := hh_sub _ _ (s' _ _ (sr _ _ (hh_get hspz nd1 nd2)))
        have hj01 : j = 0 ∨ j = 1 := by omega
        have hix : ixN [v0, v1].length (0 + (j : Int)) = some j := by rcases hj01 with rfl | rfl <;> rfl
        refine ⟨_, rfl, _, rfl, sp, _, _, j, rfl, rfl, hspp, hix, ?_⟩
        have w0 := dp_same ((hid_hh (sr.trans s')).trans (hid_put (o := .lst ([v0, v1].set j v)))) _ _ hv0
        have w1 := dp_same ((hid_hh (sr.trans s')).trans (hid_put (o := .lst ([v0, v1].set j v)))) _ _ hv1
        have wd := dp_same (hid_put (o := .lst ([v0, v1].set j v))) _ _ hdd
        have hDu := hD'.upd (o := .lst ([v0, v1].set j v)) nd1 nd2
        have s2u := hh_up (o := .lst ([v0, v1].set j v)) (s2z.trans (sr.trans s')) hspH2
        rcases hj01 with rfl | rfl
        · exact ⟨_, v, v1, dd, d1, rfl, hDu, s2u, upd_same, wd, w1, hgd, hg1⟩
        · exact ⟨_, v0, v, d0, dd, rfl, hDu, s2u, upd_same, w0, wd, hg0, hgd⟩
      case done9 =>
      obtain ⟨y7, v0, v1, d0, d1, rfl, hDz, s2z, hspz, hv0, hv1, hg0, hg1⟩ := hP
      have dv0 := dp_same (hid_sub.trans hh_sub) _ _ hv0
      have dv1 := dp_same (hid_sub.trans hh_sub) _ _ hv1
      try dsimp only
      refine stepSet (fun v H' => v = dueM d0 d1 ∧ Same Hz H') (fun Q' hQ => ?due9) (fun v H9 hC => ?last9)
      case due9 =>
        refine ⟨_, rfl, sp, _, _, _, rfl, rfl, SqL.of hspz, atI_nat (j := 0) rfl, v0, d0, rfl, dv0, hg0.sh (by decide), fun Ha sa => ⟨_, rfl, ite2 (fun hc => ?_) (fun hc => ?_)⟩⟩
        · refine hQ _ _ ⟨?_, sa⟩
          unfold dueM
          cases e : termD d0
          · rfl
          · rw [e] at hc; cases hc
        · have e0 : termD d0 = true := by
            cases e : termD d0
            · exact absurd (by rw [e]; rfl) hc
            · rfl
          refine ⟨_, rfl, sp, _, _, _, rfl, rfl, SqL.of (sa _ _ hspz), atI_nat (j := 1) rfl, v1, d1, rfl, dp_same sa _ _ dv1, hg1.sh (by decide), fun Hb sb => ⟨_, rfl, ite2 (fun hc2 => ?_) (fun hc2 => ?_)⟩⟩
          · refine hQ _ _ ⟨?_, sa.trans sb⟩
            unfold dueM
            rw [e0, hc2]
            rfl
          · refine hQ _ _ ⟨?_, sa.trans sb⟩
            unfold dueM
            cases e : termD d1
            · rw [e0]; rfl
            · exact absurd e hc2
      case last9 =>
      obtain ⟨rfl, s9⟩ := hC
      refine ⟨_, rfl, sp, _, _, _, rfl, rfl, SqL.of (s9 _ _ hspz), atI_nat (j := 0) rfl, _, rfl, sp, _, _, _, rfl, rfl, SqL.of (s9 _ _ hspz), atI_nat (j := 1) rfl, v0, v1, d0, d1, rfl, dp_same s9 _ _ dv0, hg0.sh (by decide), dp_same s9 _ _ dv1, hg1.sh (by decide), fun Hb sb => ⟨_, rfl, due_scal d0 d1, _, rfl, ?_⟩⟩
      rw [show ∀ z : V, (!decide (z = z)) = false from fun z => by simp]
      refine iteF ?_
      exact ⟨_, _, _, _, _, _, _, rfl, hDz.same (s9.trans sb), s2z.trans (hh_same (s9.trans sb))⟩
end
end Pn

namespace Pn
open PySem L2
theorem refs_one (a : Addr) : PySem.HandSPX.refsVE [.ref a, .type "ValueError", .type "Exception", .type "BaseException", .type "object"] = true := by
  show PySem.HandSPX.refsVE [.type "ValueError", .type "Exception", .type "BaseException", .type "object"] = true
  decide +kernel
theorem all_mk {P : Program} {w : World} {K : PySem.W.Frag} {h : Heap} {mg : Str → Option Value} {fa : Addr} (X : K.In h) (G : h.Ns mainGlobals mg) (hfa : mg "law" = some (.ref fa))
    {wTERMWORDS : Addr} {ddTERMWORDS : Option Addr} {nTERMWORDS : Nat} {slTERMWORDS : Array (Option Value)} {uTERMWORDS0 uTERMWORDS1 uTERMWORDS2 : Tok}
    {fisinteger : Addr}
    {odisinteger anisinteger : Option Addr} {slisinteger : Array (Option Value)} {ocisinteger kVisinteger dcisinteger pmisinteger cdisinteger ctisinteger : Value}
    {fisnumber : Addr}
    {odisnumber anisnumber : Option Addr} {slisnumber : Array (Option Value)} {ocisnumber kVisnumber dcisnumber pmisnumber cdisnumber ctisnumber : Value}
    {fispair : Addr}
    {odispair anispair : Option Addr} {slispair : Array (Option Value)} {ocispair kVispair dcispair pmispair cdispair ctispair : Value}
    {CNoteError : Addr}
    {CInvalidMap fInvalidMap : Addr} {nmInvalidMap qInvalidMap : Str} {NInvalidMap : Addr} {bsInvalidMap : List Value} {snInvalidMap : List Str} {subInvalidMap : List Value} {abInvalidMap : Bool} {colInvalidMap : Option Bool} {ddcInvalidMap : Option Addr} {maInvalidMap mbInvalidMap mcInvalidMap mdInvalidMap meInvalidMap : Option Value}
    {odInvalidMap anInvalidMap : Option Addr} {slInvalidMap : Array (Option Value)} {ocInvalidMap kVInvalidMap dcInvalidMap pmInvalidMap cdInvalidMap ctInvalidMap : Value}
    {freckoned : Addr}
    {odreckoned anreckoned : Option Addr} {slreckoned : Array (Option Value)} {ocreckoned kVreckoned dcreckoned pmreckoned cdreckoned ctreckoned : Value}
    {ftraced : Addr}
    {odtraced antraced : Option Addr} {sltraced : Array (Option Value)} {octraced kVtraced dctraced pmtraced cdtraced cttraced : Value}
    {fjoined : Addr}
    {odjoined anjoined : Option Addr} {sljoined : Array (Option Value)} {ocjoined kVjoined dcjoined pmjoined cdjoined ctjoined : Value}
    {fisterm : Addr}
    {odisterm anisterm : Option Addr} {slisterm : Array (Option Value)} {ocisterm kVisterm dcisterm pmisterm cdisterm ctisterm : Value}
    {ftermtext : Addr}
    {odtermtext antermtext : Option Addr} {sltermtext : Array (Option Value)} {octermtext kVtermtext dctermtext pmtermtext cdtermtext cttermtext : Value}
    {CMap fMap : Addr}
    {TdMap : Addr} {cTMap : Value} {oTMap : Option Addr} {nTMap : Nat} {sTMap : Array (Option Value)}
    {DMap0 DMap1 : Addr}
    {odMap anMap : Option Addr} {slMap : Array (Option Value)} {ocMap kVMap dcMap pmMap cdMap ctMap : Value}
    {oDMap0 : Option Addr} {nDMap0 : Nat} {sDMap0 : Array (Option Value)} {uDMap0 vDMap0 : Tok}
    {oDMap1 : Option Addr} {nDMap1 : Nat} {sDMap1 : Array (Option Value)} {uDMap1 vDMap1 : Tok}
    {fcallMap : Addr}
    {odcallMap ancallMap : Option Addr} {slcallMap : Array (Option Value)} {occallMap kVcallMap dccallMap pmcallMap cdcallMap ctcallMap : Value}
    {frshiftMap : Addr}
    {odrshiftMap anrshiftMap : Option Addr} {slrshiftMap : Array (Option Value)} {ocrshiftMap kVrshiftMap dcrshiftMap pmrshiftMap cdrshiftMap ctrshiftMap : Value}
    {fstrMap : Addr}
    {odstrMap anstrMap : Option Addr} {slstrMap : Array (Option Value)} {ocstrMap kVstrMap dcstrMap pmstrMap cdstrMap ctstrMap : Value}
    {feqMap : Addr}
    {odeqMap aneqMap : Option Addr} {sleqMap : Array (Option Value)} {oceqMap kVeqMap dceqMap pmeqMap cdeqMap cteqMap : Value}
    {CInvalidRow : Addr}
    {flawdeal : Addr}
    {odlawdeal anlawdeal : Option Addr} {sllawdeal : Array (Option Value)} {oclawdeal kVlawdeal dclawdeal pmlawdeal cdlawdeal ctlawdeal : Value}
    {flawdraw : Addr}
    {odlawdraw anlawdraw : Option Addr} {sllawdraw : Array (Option Value)} {oclawdraw kVlawdraw dclawdraw pmlawdraw cdlawdraw ctlawdraw : Value}
    {flawpick : Addr}
    {odlawpick anlawpick : Option Addr} {sllawpick : Array (Option Value)} {oclawpick kVlawpick dclawpick pmlawpick cdlawpick ctlawpick : Value}
    {flawany : Addr}
    {odlawany anlawany : Option Addr} {sllawany : Array (Option Value)} {oclawany kVlawany dclawany pmlawany cdlawany ctlawany : Value}
    {flawistold : Addr}
    {odlawistold anlawistold : Option Addr} {sllawistold : Array (Option Value)} {oclawistold kVlawistold dclawistold pmlawistold cdlawistold ctlawistold : Value}
    {flawword : Addr}
    {odlawword anlawword : Option Addr} {sllawword : Array (Option Value)} {oclawword kVlawword dclawword pmlawword cdlawword ctlawword : Value}
    {flawside : Addr}
    {odlawside anlawside : Option Addr} {sllawside : Array (Option Value)} {oclawside kVlawside dclawside pmlawside cdlawside ctlawside : Value}
    {flaw : Addr}
    {odlaw anlaw : Option Addr} {sllaw : Array (Option Value)} {oclaw kVlaw dclaw pmlaw cdlaw ctlaw : Value}
    (zint : PySem.W.nsIn K mainGlobals "int" = some none)
    (zbool : PySem.W.nsIn K mainGlobals "bool" = some none)
    (zstr : PySem.W.nsIn K mainGlobals "str" = some none)
    (ztuple : PySem.W.nsIn K mainGlobals "tuple" = some none)
    (zisinstance : PySem.W.nsIn K mainGlobals "isinstance" = some none)
    (zlen : PySem.W.nsIn K mainGlobals "len" = some none)
    (zabs : PySem.W.nsIn K mainGlobals "abs" = some none)
    (zrange : PySem.W.nsIn K mainGlobals "range" = some none)
    (zrepr : PySem.W.nsIn K mainGlobals "repr" = some none)
    (aTERMWORDS : PySem.W.nsIn K mainGlobals "TERM_WORDS" = some (some (.ref wTERMWORDS)))
    (lTERMWORDS : K.lookup wTERMWORDS = some ⟨.type "tuple", ddTERMWORDS, .seq #[.str "now" uTERMWORDS0, .str "box" uTERMWORDS1, .str "at" uTERMWORDS2] nTERMWORDS, slTERMWORDS⟩)
    (aisinteger : PySem.W.nsIn K mainGlobals "is_integer" = some (some (.ref fisinteger)))
    (lisinteger : K.lookup fisinteger = some ⟨ocisinteger, odisinteger, .func (PySem.W.fnOf "is_integer" "is_integer" (defArgs sIsInteger) (defBody sIsInteger) (defScope sIsInteger) .none kVisinteger dcisinteger pmisinteger anisinteger cdisinteger ctisinteger), slisinteger⟩)
    (cisinteger : PySem.W.codeIn K cdisinteger "is_integer" = true)
    (kisinteger : PySem.W.keepIn K (.ref fisinteger) = true)
    (aisnumber : PySem.W.nsIn K mainGlobals "is_number" = some (some (.ref fisnumber)))
    (lisnumber : K.lookup fisnumber = some ⟨ocisnumber, odisnumber, .func (PySem.W.fnOf "is_number" "is_number" (defArgs sIsNumber) (defBody sIsNumber) (defScope sIsNumber) .none kVisnumber dcisnumber pmisnumber anisnumber cdisnumber ctisnumber), slisnumber⟩)
    (cisnumber : PySem.W.codeIn K cdisnumber "is_number" = true)
    (kisnumber : PySem.W.keepIn K (.ref fisnumber) = true)
    (aispair : PySem.W.nsIn K mainGlobals "is_pair" = some (some (.ref fispair)))
    (lispair : K.lookup fispair = some ⟨ocispair, odispair, .func (PySem.W.fnOf "is_pair" "is_pair" (defArgs sIsPair) (defBody sIsPair) (defScope sIsPair) .none kVispair dcispair pmispair anispair cdispair ctispair), slispair⟩)
    (cispair : PySem.W.codeIn K cdispair "is_pair" = true)
    (kispair : PySem.W.keepIn K (.ref fispair) = true)
    (aNoteError : PySem.W.nsIn K mainGlobals "NoteError" = some (some (.ref CNoteError)))
    (aInvalidMap : PySem.W.nsIn K mainGlobals "InvalidMap" = some (some (.ref CInvalidMap)))
    (xInvalidMap : K.lookup CInvalidMap = some (excClassObj nmInvalidMap qInvalidMap CInvalidMap NInvalidMap bsInvalidMap [.ref CNoteError, .type "ValueError", .type "Exception", .type "BaseException", .type "object"] true snInvalidMap subInvalidMap abInvalidMap colInvalidMap ddcInvalidMap maInvalidMap mbInvalidMap mcInvalidMap mdInvalidMap meInvalidMap "ValueError.__new__"))
    (saInvalidMap : PySem.W.findIn K (.ref CInvalidMap) "__setattr__" = some (some (.builtin "object.__setattr__")))
    (gaInvalidMap : PySem.W.findIn K (.ref CInvalidMap) "__getattribute__" = some (some (.builtin "BaseException.__getattribute__")))
    (ggInvalidMap : PySem.W.findIn K (.ref CInvalidMap) "__getattr__" = some (none))
    (nfInvalidMap : PySem.W.findIn K (.ref CInvalidMap) "word" = some (none))
    (inInvalidMap : PySem.W.findIn K (.ref CInvalidMap) "__init__" = some (some (.ref fInvalidMap)))
    (haInvalidMap : PySem.W.findIn K (.ref CInvalidMap) "__class__" = some (some (.builtin "object.__class__")))
    (tiInvalidMap : PySem.W.typeIn K (.ref fInvalidMap) = some (.type "function"))
    (lInvalidMap : K.lookup fInvalidMap = some ⟨ocInvalidMap, odInvalidMap, .func (PySem.W.fnOf "__init__" "InvalidMap.__init__" (defArgs sIMInit) (defBody sIMInit) (defScope sIMInit) .none kVInvalidMap dcInvalidMap pmInvalidMap anInvalidMap cdInvalidMap ctInvalidMap), slInvalidMap⟩)
    (cInvalidMap : PySem.W.codeIn K cdInvalidMap "InvalidMap.__init__" = true)
    (kInvalidMap : PySem.W.keepIn K (.ref fInvalidMap) = true)
    (kcInvalidMap : PySem.W.keepIn K (.ref CInvalidMap) = true)
    (eCInvalidMap : PySem.W.subIn K (.ref CInvalidMap) (.type "BaseException") = some true)
    (tCInvalidMap : PySem.W.typeIn K (.ref CInvalidMap) = some (.type "type"))
    (hCInvalidMap : PySem.W.hasDictIn K CInvalidMap = true)
    (iCInvalidMap : PySem.W.isClsIn K CInvalidMap = true)
    (sCInvalidMap : PySem.W.subIn K (.ref CInvalidMap) (.ref CInvalidMap) = some true)
    (hmInvalidMap : PySem.W.mroIn K CInvalidMap (.type "object") = some true)
    (areckoned : PySem.W.nsIn K mainGlobals "reckoned" = some (some (.ref freckoned)))
    (lreckoned : K.lookup freckoned = some ⟨ocreckoned, odreckoned, .func (PySem.W.fnOf "reckoned" "reckoned" (defArgs sReck) (defBody sReck) (defScope sReck) .none kVreckoned dcreckoned pmreckoned anreckoned cdreckoned ctreckoned), slreckoned⟩)
    (creckoned : PySem.W.codeIn K cdreckoned "reckoned" = true)
    (kreckoned : PySem.W.keepIn K (.ref freckoned) = true)
    (atraced : PySem.W.nsIn K mainGlobals "traced" = some (some (.ref ftraced)))
    (ltraced : K.lookup ftraced = some ⟨octraced, odtraced, .func (PySem.W.fnOf "traced" "traced" (defArgs sTraced) (defBody sTraced) (defScope sTraced) .none kVtraced dctraced pmtraced antraced cdtraced cttraced), sltraced⟩)
    (ctraced : PySem.W.codeIn K cdtraced "traced" = true)
    (ktraced : PySem.W.keepIn K (.ref ftraced) = true)
    (ajoined : PySem.W.nsIn K mainGlobals "joined" = some (some (.ref fjoined)))
    (ljoined : K.lookup fjoined = some ⟨ocjoined, odjoined, .func (PySem.W.fnOf "joined" "joined" (defArgs sJoined) (defBody sJoined) (defScope sJoined) .none kVjoined dcjoined pmjoined anjoined cdjoined ctjoined), sljoined⟩)
    (cjoined : PySem.W.codeIn K cdjoined "joined" = true)
    (kjoined : PySem.W.keepIn K (.ref fjoined) = true)
    (aisterm : PySem.W.nsIn K mainGlobals "is_term" = some (some (.ref fisterm)))
    (listerm : K.lookup fisterm = some ⟨ocisterm, odisterm, .func (PySem.W.fnOf "is_term" "is_term" (defArgs sIsTerm) (defBody sIsTerm) (defScope sIsTerm) .none kVisterm dcisterm pmisterm anisterm cdisterm ctisterm), slisterm⟩)
    (cisterm : PySem.W.codeIn K cdisterm "is_term" = true)
    (kisterm : PySem.W.keepIn K (.ref fisterm) = true)
    (atermtext : PySem.W.nsIn K mainGlobals "term_text" = some (some (.ref ftermtext)))
    (ltermtext : K.lookup ftermtext = some ⟨octermtext, odtermtext, .func (PySem.W.fnOf "term_text" "term_text" (defArgs sTermText) (defBody sTermText) (defScope sTermText) .none kVtermtext dctermtext pmtermtext antermtext cdtermtext cttermtext), sltermtext⟩)
    (ctermtext : PySem.W.codeIn K cdtermtext "term_text" = true)
    (ktermtext : PySem.W.keepIn K (.ref ftermtext) = true)
    (aMap : PySem.W.nsIn K mainGlobals "Map" = some (some (.ref CMap)))
    (inMap : PySem.W.findIn K (.ref CMap) "__init__" = some (some (.ref fMap)))
    (iMap : PySem.W.isFn K (.ref fMap) = true)
    (lMap : K.lookup fMap = some ⟨ocMap, odMap, .func (PySem.W.fnOf "__init__" "Map.__init__" (defArgs sMapInit) (defBody sMapInit) (defScope sMapInit) (.ref TdMap) kVMap dcMap pmMap anMap cdMap ctMap), slMap⟩)
    (cMap : PySem.W.codeIn K cdMap "Map.__init__" = true)
    (kMap : PySem.W.keepIn K (.ref fMap) = true)
    (lTMap : K.lookup TdMap = some ⟨cTMap, oTMap, .seq #[.ref DMap0, .ref DMap1] nTMap, sTMap⟩)
    (lDMap0 : K.lookup DMap0 = some ⟨.type "tuple", oDMap0, .seq #[.str "now" uDMap0, .int 0 vDMap0] nDMap0, sDMap0⟩)
    (lDMap1 : K.lookup DMap1 = some ⟨.type "tuple", oDMap1, .seq #[.str "box" uDMap1, .int 0 vDMap1] nDMap1, sDMap1⟩)
    (pgMap : PySem.W.plainGet K CMap Str.empty = true)
    (hdMap : PySem.W.hasDictIn K CMap = true)
    (poMap : PySem.W.plainOver K CMap = true)
    (saMap : PySem.W.findIn K (.ref CMap) "__setattr__" = some (some (.builtin "object.__setattr__")))
    (mkMap : PySem.W.makesIn K CMap = true)
    (kcMap : PySem.W.keepIn K (.ref CMap) = true)
    (nMap0 : PySem.W.findIn K (.ref CMap) "now" = some none)
    (nMap1 : PySem.W.findIn K (.ref CMap) "box" = some none)
    (incallMap : PySem.W.findIn K (.ref CMap) "__call__" = some (some (.ref fcallMap)))
    (icallMap : PySem.W.isFn K (.ref fcallMap) = true)
    (lcallMap : K.lookup fcallMap = some ⟨occallMap, odcallMap, .func (PySem.W.fnOf "__call__" "Map.__call__" (defArgs sMapCall) (defBody sMapCall) (defScope sMapCall) .none kVcallMap dccallMap pmcallMap ancallMap cdcallMap ctcallMap), slcallMap⟩)
    (ccallMap : PySem.W.codeIn K cdcallMap "Map.__call__" = true)
    (kcallMap : PySem.W.keepIn K (.ref fcallMap) = true)
    (inrshiftMap : PySem.W.findIn K (.ref CMap) "__rshift__" = some (some (.ref frshiftMap)))
    (irshiftMap : PySem.W.isFn K (.ref frshiftMap) = true)
    (lrshiftMap : K.lookup frshiftMap = some ⟨ocrshiftMap, odrshiftMap, .func (PySem.W.fnOf "__rshift__" "Map.__rshift__" (defArgs sMapShift) (defBody sMapShift) (defScope sMapShift) .none kVrshiftMap dcrshiftMap pmrshiftMap anrshiftMap cdrshiftMap ctrshiftMap), slrshiftMap⟩)
    (crshiftMap : PySem.W.codeIn K cdrshiftMap "Map.__rshift__" = true)
    (krshiftMap : PySem.W.keepIn K (.ref frshiftMap) = true)
    (instrMap : PySem.W.findIn K (.ref CMap) "__str__" = some (some (.ref fstrMap)))
    (istrMap : PySem.W.isFn K (.ref fstrMap) = true)
    (lstrMap : K.lookup fstrMap = some ⟨ocstrMap, odstrMap, .func (PySem.W.fnOf "__str__" "Map.__str__" (defArgs sMapStr) (defBody sMapStr) (defScope sMapStr) .none kVstrMap dcstrMap pmstrMap anstrMap cdstrMap ctstrMap), slstrMap⟩)
    (cstrMap : PySem.W.codeIn K cdstrMap "Map.__str__" = true)
    (kstrMap : PySem.W.keepIn K (.ref fstrMap) = true)
    (ineqMap : PySem.W.findIn K (.ref CMap) "__eq__" = some (some (.ref feqMap)))
    (ieqMap : PySem.W.isFn K (.ref feqMap) = true)
    (leqMap : K.lookup feqMap = some ⟨oceqMap, odeqMap, .func (PySem.W.fnOf "__eq__" "Map.__eq__" (defArgs sMapEq) (defBody sMapEq) (defScope sMapEq) .none kVeqMap dceqMap pmeqMap aneqMap cdeqMap cteqMap), sleqMap⟩)
    (ceqMap : PySem.W.codeIn K cdeqMap "Map.__eq__" = true)
    (keqMap : PySem.W.keepIn K (.ref feqMap) = true)
    (aInvalidRow : PySem.W.nsIn K mainGlobals "InvalidRow" = some (some (.ref CInvalidRow)))
    (alawdeal : PySem.W.nsIn K mainGlobals "_law_deal" = some (some (.ref flawdeal)))
    (llawdeal : K.lookup flawdeal = some ⟨oclawdeal, odlawdeal, .func (PySem.W.fnOf "_law_deal" "_law_deal" (defArgs sDeal) (defBody sDeal) (defScope sDeal) .none kVlawdeal dclawdeal pmlawdeal anlawdeal cdlawdeal ctlawdeal), sllawdeal⟩)
    (clawdeal : PySem.W.codeIn K cdlawdeal "_law_deal" = true)
    (klawdeal : PySem.W.keepIn K (.ref flawdeal) = true)
    (alawdraw : PySem.W.nsIn K mainGlobals "_law_draw" = some (some (.ref flawdraw)))
    (llawdraw : K.lookup flawdraw = some ⟨oclawdraw, odlawdraw, .func (PySem.W.fnOf "_law_draw" "_law_draw" (defArgs sDraw) (defBody sDraw) (defScope sDraw) .none kVlawdraw dclawdraw pmlawdraw anlawdraw cdlawdraw ctlawdraw), sllawdraw⟩)
    (clawdraw : PySem.W.codeIn K cdlawdraw "_law_draw" = true)
    (klawdraw : PySem.W.keepIn K (.ref flawdraw) = true)
    (alawpick : PySem.W.nsIn K mainGlobals "_law_pick" = some (some (.ref flawpick)))
    (llawpick : K.lookup flawpick = some ⟨oclawpick, odlawpick, .func (PySem.W.fnOf "_law_pick" "_law_pick" (defArgs sPick) (defBody sPick) (defScope sPick) .none kVlawpick dclawpick pmlawpick anlawpick cdlawpick ctlawpick), sllawpick⟩)
    (clawpick : PySem.W.codeIn K cdlawpick "_law_pick" = true)
    (klawpick : PySem.W.keepIn K (.ref flawpick) = true)
    (alawany : PySem.W.nsIn K mainGlobals "_law_any" = some (some (.ref flawany)))
    (llawany : K.lookup flawany = some ⟨oclawany, odlawany, .func (PySem.W.fnOf "_law_any" "_law_any" (defArgs sAny24) (defBody sAny24) (defScope sAny24) .none kVlawany dclawany pmlawany anlawany cdlawany ctlawany), sllawany⟩)
    (clawany : PySem.W.codeIn K cdlawany "_law_any" = true)
    (klawany : PySem.W.keepIn K (.ref flawany) = true)
    (alawistold : PySem.W.nsIn K mainGlobals "_law_is_told" = some (some (.ref flawistold)))
    (llawistold : K.lookup flawistold = some ⟨oclawistold, odlawistold, .func (PySem.W.fnOf "_law_is_told" "_law_is_told" (defArgs sIsTold) (defBody sIsTold) (defScope sIsTold) .none kVlawistold dclawistold pmlawistold anlawistold cdlawistold ctlawistold), sllawistold⟩)
    (clawistold : PySem.W.codeIn K cdlawistold "_law_is_told" = true)
    (klawistold : PySem.W.keepIn K (.ref flawistold) = true)
    (alawword : PySem.W.nsIn K mainGlobals "_law_word" = some (some (.ref flawword)))
    (llawword : K.lookup flawword = some ⟨oclawword, odlawword, .func (PySem.W.fnOf "_law_word" "_law_word" (defArgs sWord24) (defBody sWord24) (defScope sWord24) .none kVlawword dclawword pmlawword anlawword cdlawword ctlawword), sllawword⟩)
    (clawword : PySem.W.codeIn K cdlawword "_law_word" = true)
    (klawword : PySem.W.keepIn K (.ref flawword) = true)
    (alawside : PySem.W.nsIn K mainGlobals "_law_side" = some (some (.ref flawside)))
    (llawside : K.lookup flawside = some ⟨oclawside, odlawside, .func (PySem.W.fnOf "_law_side" "_law_side" (defArgs sSide24) (defBody sSide24) (defScope sSide24) .none kVlawside dclawside pmlawside anlawside cdlawside ctlawside), sllawside⟩)
    (clawside : PySem.W.codeIn K cdlawside "_law_side" = true)
    (klawside : PySem.W.keepIn K (.ref flawside) = true)
    (alaw : PySem.W.nsIn K mainGlobals "law" = some (some (.ref flaw)))
    (llaw : K.lookup flaw = some ⟨oclaw, odlaw, .func (PySem.W.fnOf "law" "law" (defArgs sLaw24) (defBody sLaw24) (defScope sLaw24) .none kVlaw dclaw pmlaw anlaw cdlaw ctlaw), sllaw⟩)
    (claw : PySem.W.codeIn K cdlaw "law" = true)
    (klaw : PySem.W.keepIn K (.ref flaw) = true)
    (sfMap : PySem.W.selfFirst K CMap = true)
    (kCMap : PySem.W.kitOne K (.ref CMap) (.ref CMap) = some true)
    (nCMap : PySem.W.notFirst K CMap (.ref CMap) = true)
    (cAMap : PySem.W.findIn K (.ref CMap) "__class__" = some (some (.builtin "object.__class__")))
    (cMMap : PySem.W.mroIn K CMap (.type "object") = some true)
    (neMap : PySem.W.findIn K (.ref CMap) "__ne__" = some (some (.builtin "object.__ne__")))
    (fiMap : PySem.W.fnIn K fcallMap = true)
    (kCN : PySem.W.kitOne K (.ref CInvalidMap) (.ref CNoteError) = some true)
    (kCP : PySem.W.kitOne K (.ref CInvalidMap) (.ref CInvalidRow) = some false)
    (sStr : PySem.W.subIn K (.ref CMap) (.type "str") = some false)
    (kStr : PySem.W.kitOne K (.type "str") (.ref CMap) = some false)
    (sNon : PySem.W.subIn K (.ref CMap) (.type "NoneType") = some false)
    (kNon : PySem.W.kitOne K (.type "NoneType") (.ref CMap) = some false)
    (sTup : PySem.W.subIn K (.ref CMap) (.type "tuple") = some false)
    (kTup : PySem.W.kitOne K (.type "tuple") (.ref CMap) = some false)
    (hnGet : PySem.W.specialIn K (.builtin "object.__class__") "__get__" = some (some (.builtin "getset_descriptor.__get__")))
    (htGet : PySem.W.takesIn K (.builtin "object.__class__") = some true)
    : ∃ fd : FuncData, (∀ (s : Shared) (v : Value), BindsTo s fd ⟨[v], []⟩ [("_law_script", v)]) ∧ ∀ base : Heap, K.In base → base.Ns mainGlobals mg → RunAt P w K mg base callerA fa fd ["_law_script"] (spLaw24 K) := by
  have e := hfa.symm.trans (PySem.W.mg_of X G alaw)
  cases e
  have Mint : mg "int" = none := PySem.W.mg_none_of X G zint
  have Mbool : mg "bool" = none := PySem.W.mg_none_of X G zbool
  have Mstr : mg "str" = none := PySem.W.mg_none_of X G zstr
  have Mtuple : mg "tuple" = none := PySem.W.mg_none_of X G ztuple
  have Misinstance : mg "isinstance" = none := PySem.W.mg_none_of X G zisinstance
  have Mlen : mg "len" = none := PySem.W.mg_none_of X G zlen
  have Mabs : mg "abs" = none := PySem.W.mg_none_of X G zabs
  have Mrange : mg "range" = none := PySem.W.mg_none_of X G zrange
  have Mrepr : mg "repr" = none := PySem.W.mg_none_of X G zrepr
  have STERMWORDS : ∀ H : Hp, SqT K H wTERMWORDS [.str "now", .str "box", .str "at"] := fun H => .inr ⟨_, _, _, lTERMWORDS, rfl, rfl, (by show 3 ≤ sizeLine; decide), (.cons ⟨_, rfl⟩ (.cons ⟨_, rfl⟩ (.cons ⟨_, rfl⟩ .nil)))⟩
  let Disinteger : At K mg "is_integer" sIsInteger ["value"] := ⟨fisinteger, _, fun_mk (st := sIsInteger) lisinteger cisinteger kisinteger, (fun_mk (st := sIsInteger) lisinteger cisinteger kisinteger).binds (ps := ["value"]) fun _ _ _ _ _ _ us hl => match us, hl with | [_], _ => rfl, PySem.W.mg_of X G aisinteger⟩
  let Disnumber : At K mg "is_number" sIsNumber ["value"] := ⟨fisnumber, _, fun_mk (st := sIsNumber) lisnumber cisnumber kisnumber, (fun_mk (st := sIsNumber) lisnumber cisnumber kisnumber).binds (ps := ["value"]) fun _ _ _ _ _ _ us hl => match us, hl with | [_], _ => rfl, PySem.W.mg_of X G aisnumber⟩
  let Dispair : At K mg "is_pair" sIsPair ["value"] := ⟨fispair, _, fun_mk (st := sIsPair) lispair cispair kispair, (fun_mk (st := sIsPair) lispair cispair kispair).binds (ps := ["value"]) fun _ _ _ _ _ _ us hl => match us, hl with | [_], _ => rfl, PySem.W.mg_of X G aispair⟩
  have OInvalidMap : OexC K CInvalidMap := ⟨⟨nmInvalidMap, qInvalidMap, NInvalidMap, bsInvalidMap, _, snInvalidMap, subInvalidMap, abInvalidMap, colInvalidMap, ddcInvalidMap, maInvalidMap, mbInvalidMap, mcInvalidMap, mdInvalidMap, meInvalidMap, xInvalidMap, refs_one _⟩, saInvalidMap, eCInvalidMap, tCInvalidMap, kcInvalidMap⟩
  let EInvalidMap : TExc K mg "InvalidMap" "InvalidMap.__init__" "word" sIMInit := { C := CInvalidMap, fI := fInvalidMap, fd := _, F := fun_mk (st := sIMInit) lInvalidMap cInvalidMap kInvalidMap, b := (fun_mk (st := sIMInit) lInvalidMap cInvalidMap kInvalidMap).binds (ps := ["self", "word"]) fun _ _ _ _ _ _ us hl => match us, hl with | [_, _], _ => rfl, m := PySem.W.mg_of X G aInvalidMap, O := OInvalidMap, iC := inInvalidMap, tI := tiInvalidMap, noF := nfInvalidMap, E := ⟨gaInvalidMap, ggInvalidMap, eCInvalidMap, hCInvalidMap, haInvalidMap, hnGet, htGet, hmInvalidMap⟩, isC := iCInvalidMap, te := PySem.W.exm_ref eCInvalidMap hCInvalidMap tCInvalidMap sCInvalidMap, xf := ⟨gaInvalidMap, ggInvalidMap, eCInvalidMap, hCInvalidMap⟩ }
  let Dreckoned : At K mg "reckoned" sReck ["term", "number", "kept"] := ⟨freckoned, _, fun_mk (st := sReck) lreckoned creckoned kreckoned, (fun_mk (st := sReck) lreckoned creckoned kreckoned).binds (ps := ["term", "number", "kept"]) fun _ _ _ _ _ _ us hl => match us, hl with | [_, _, _], _ => rfl, PySem.W.mg_of X G areckoned⟩
  let Dtraced : At K mg "traced" sTraced ["term", "earlier"] := ⟨ftraced, _, fun_mk (st := sTraced) ltraced ctraced ktraced, (fun_mk (st := sTraced) ltraced ctraced ktraced).binds (ps := ["term", "earlier"]) fun _ _ _ _ _ _ us hl => match us, hl with | [_, _], _ => rfl, PySem.W.mg_of X G atraced⟩
  let Djoined : At K mg "joined" sJoined ["first", "second"] := ⟨fjoined, _, fun_mk (st := sJoined) ljoined cjoined kjoined, (fun_mk (st := sJoined) ljoined cjoined kjoined).binds (ps := ["first", "second"]) fun _ _ _ _ _ _ us hl => match us, hl with | [_, _], _ => rfl, PySem.W.mg_of X G ajoined⟩
  let Disterm : At K mg "is_term" sIsTerm ["value"] := ⟨fisterm, _, fun_mk (st := sIsTerm) listerm cisterm kisterm, (fun_mk (st := sIsTerm) listerm cisterm kisterm).binds (ps := ["value"]) fun _ _ _ _ _ _ us hl => match us, hl with | [_], _ => rfl, PySem.W.mg_of X G aisterm⟩
  let Dtermtext : At K mg "term_text" sTermText ["term"] := ⟨ftermtext, _, fun_mk (st := sTermText) ltermtext ctermtext ktermtext, (fun_mk (st := sTermText) ltermtext ctermtext ktermtext).binds (ps := ["term"]) fun _ _ _ _ _ _ us hl => match us, hl with | [_], _ => rfl, PySem.W.mg_of X G atermtext⟩
  have SDMap0 : ∀ H : Hp, SqT K H DMap0 [.str "now", .int 0] := fun H => .inr ⟨_, _, _, lDMap0, rfl, rfl, (by show 2 ≤ sizeLine; decide), .cons ⟨_, rfl⟩ (.cons ⟨_, rfl⟩ .nil)⟩
  have SDMap1 : ∀ H : Hp, SqT K H DMap1 [.str "box", .int 0] := fun H => .inr ⟨_, _, _, lDMap1, rfl, rfl, (by show 2 ≤ sizeLine; decide), .cons ⟨_, rfl⟩ (.cons ⟨_, rfl⟩ .nil)⟩
  have FMap : FunD K "__init__" "Map.__init__" (defArgs sMapInit) (defBody sMapInit) (defScope sMapInit) [.ref DMap0, .ref DMap1] [] fMap _ := ⟨⟨_, _, _, _, _, _, _, _, _, _, rfl, lMap, cMap, .inr ⟨by simp, TdMap, _, [.ref DMap0, .ref DMap1], _, rfl, lTMap, rfl, (.cons rfl (.cons rfl .nil))⟩, .inl rfl⟩, kMap⟩
  obtain ⟨dsMap0, vMap0, bMap0⟩ := FMap.binds1 (ps := ["self", "now", "box"]) 1 0 (by simp) rfl fun _ _ _ _ _ _ _ us its hl hi => match us, its, hl, hi with | [_], [_, _], _, _ => ⟨_, rfl, rfl⟩
  obtain ⟨dsMap1, vMap1, bMap1⟩ := FMap.binds1 (ps := ["self", "now", "box"]) 2 1 (by simp) rfl fun _ _ _ _ _ _ _ us its hl hi => match us, its, hl, hi with | [_, _], [_, _], _, _ => ⟨_, rfl, rfl⟩
  obtain ⟨dsMap2, vMap2, bMap2⟩ := FMap.binds1 (ps := ["self", "now", "box"]) 3 2 (by simp) rfl fun _ _ _ _ _ _ _ us its hl hi => match us, its, hl, hi with | [_, _, _], [_, _], _, _ => ⟨_, rfl, rfl⟩
  have eMap : dsMap2 = [] := by cases vMap2; rfl
  subst eMap
  let McallMap : TMeth K CMap "__call__" "Map.__call__" sMapCall ["self", "number", "kept"] := ⟨fcallMap, _, fun_mk (st := sMapCall) lcallMap ccallMap kcallMap, (fun_mk (st := sMapCall) lcallMap ccallMap kcallMap).binds (ps := ["self", "number", "kept"]) fun _ _ _ _ _ _ us hl => match us, hl with | [_, _, _], _ => rfl, incallMap, icallMap⟩
  let MrshiftMap : TMeth K CMap "__rshift__" "Map.__rshift__" sMapShift ["self", "other"] := ⟨frshiftMap, _, fun_mk (st := sMapShift) lrshiftMap crshiftMap krshiftMap, (fun_mk (st := sMapShift) lrshiftMap crshiftMap krshiftMap).binds (ps := ["self", "other"]) fun _ _ _ _ _ _ us hl => match us, hl with | [_, _], _ => rfl, inrshiftMap, irshiftMap⟩
  let MstrMap : TMeth K CMap "__str__" "Map.__str__" sMapStr ["self"] := ⟨fstrMap, _, fun_mk (st := sMapStr) lstrMap cstrMap kstrMap, (fun_mk (st := sMapStr) lstrMap cstrMap kstrMap).binds (ps := ["self"]) fun _ _ _ _ _ _ us hl => match us, hl with | [_], _ => rfl, instrMap, istrMap⟩
  let MeqMap : TMeth K CMap "__eq__" "Map.__eq__" sMapEq ["self", "other"] := ⟨feqMap, _, fun_mk (st := sMapEq) leqMap ceqMap keqMap, (fun_mk (st := sMapEq) leqMap ceqMap keqMap).binds (ps := ["self", "other"]) fun _ _ _ _ _ _ us hl => match us, hl with | [_, _], _ => rfl, ineqMap, ieqMap⟩
  let Dlawdeal : At K mg "_law_deal" sDeal ["_law_script"] := ⟨flawdeal, _, fun_mk (st := sDeal) llawdeal clawdeal klawdeal, (fun_mk (st := sDeal) llawdeal clawdeal klawdeal).binds (ps := ["_law_script"]) fun _ _ _ _ _ _ us hl => match us, hl with | [_], _ => rfl, PySem.W.mg_of X G alawdeal⟩
  let Dlawdraw : At K mg "_law_draw" sDraw ["_law_deal_here", "_law_many"] := ⟨flawdraw, _, fun_mk (st := sDraw) llawdraw clawdraw klawdraw, (fun_mk (st := sDraw) llawdraw clawdraw klawdraw).binds (ps := ["_law_deal_here", "_law_many"]) fun _ _ _ _ _ _ us hl => match us, hl with | [_, _], _ => rfl, PySem.W.mg_of X G alawdraw⟩
  let Dlawpick : At K mg "_law_pick" sPick ["_law_deal_here", "_law_some"] := ⟨flawpick, _, fun_mk (st := sPick) llawpick clawpick klawpick, (fun_mk (st := sPick) llawpick clawpick klawpick).binds (ps := ["_law_deal_here", "_law_some"]) fun _ _ _ _ _ _ us hl => match us, hl with | [_, _], _ => rfl, PySem.W.mg_of X G alawpick⟩
  let Dlawany : At K mg "_law_any" sAny24 ["_law_deal_here", "_law_deep"] := ⟨flawany, _, fun_mk (st := sAny24) llawany clawany klawany, (fun_mk (st := sAny24) llawany clawany klawany).binds (ps := ["_law_deal_here", "_law_deep"]) fun _ _ _ _ _ _ us hl => match us, hl with | [_, _], _ => rfl, PySem.W.mg_of X G alawany⟩
  let Dlawistold : At K mg "_law_is_told" sIsTold ["_law_one"] := ⟨flawistold, _, fun_mk (st := sIsTold) llawistold clawistold klawistold, (fun_mk (st := sIsTold) llawistold clawistold klawistold).binds (ps := ["_law_one"]) fun _ _ _ _ _ _ us hl => match us, hl with | [_], _ => rfl, PySem.W.mg_of X G alawistold⟩
  let Dlawword : At K mg "_law_word" sWord24 ["_law_now", "_law_kept"] := ⟨flawword, _, fun_mk (st := sWord24) llawword clawword klawword, (fun_mk (st := sWord24) llawword clawword klawword).binds (ps := ["_law_now", "_law_kept"]) fun _ _ _ _ _ _ us hl => match us, hl with | [_, _], _ => rfl, PySem.W.mg_of X G alawword⟩
  let Dlawside : At K mg "_law_side" sSide24 ["_law_told"] := ⟨flawside, _, fun_mk (st := sSide24) llawside clawside klawside, (fun_mk (st := sSide24) llawside clawside klawside).binds (ps := ["_law_told"]) fun _ _ _ _ _ _ us hl => match us, hl with | [_], _ => rfl, PySem.W.mg_of X G alawside⟩
  let MM : TMap K mg := { mInt := Mint, mBool := Mbool, mTup := Mtuple, mIsi := Misinstance, mLen := Mlen, isInteger := Disinteger, isNumber := Disnumber, isPair := Dispair, words := wTERMWORDS, mWords := PySem.W.mg_of X G aTERMWORDS, hWords := STERMWORDS, reck := Dreckoned, traced := Dtraced, joined := Djoined, isTerm := Disterm, termText := Dtermtext, IM := EInvalidMap, C := CMap, mC := PySem.W.mg_of X G aMap, fI := fMap, fdI := _, dNow := DMap0, dBox := DMap1, hNow := SDMap0, hBox := SDMap1, FI := FMap, bI := bMap2, ds0 := dsMap0, v0 := vMap0, b0 := bMap0, ds1 := dsMap1, v1 := vMap1, b1 := bMap1, M := ⟨mkMap, inMap, iMap, kcMap⟩, cl := ⟨pgMap, hdMap, poMap, saMap⟩, noN := nMap0, noB := nMap1, sf := sfMap, kC := kCMap, nC := nCMap, cA := cAMap, cN := hnGet, cT := htGet, cM := cMMap, ne := neMap, call := McallMap, callC := ⟨incallMap, icallMap, fiMap⟩, shift := MrshiftMap, str := MstrMap, eq := MeqMap }
  let DD : TDealT K mg := { mI := Mint, mA := Mabs, mL := Mlen, deal := Dlawdeal, draw := Dlawdraw, pick := Dlawpick }
  let AA : TAny24 K mg := { toTDealT := DD, mR := Mrange, mT := Mtuple, any := Dlawany }
  let TA : TK24a K mg := { M := MM, A := AA, mStr := Mstr, told := Dlawistold, CN := CNoteError, mCN := PySem.W.mg_of X G aNoteError, CP := CInvalidRow, mCP := PySem.W.mg_of X G aInvalidRow, kCN := kCN, kCP := kCP, word := Dlawword, side := Dlawside }
  let T : TK24 K mg := { toTK24a := TA, mRange := Mrange, mRepr := Mrepr, sStr := sStr, sNon := sNon, sTup := sTup, kStr := kStr, kNon := kNon, kTup := kTup }
  exact ⟨_, fun s v => .of_eq rfl, fun base _ _ => ok_law24 T (fun_mk (st := sLaw24) llaw claw klaw) ⟨rfl, by decide, by decide⟩ rfl⟩
theorem walk {l : PySem.W.OpenLaw} {q : Program} {loose : List Str} {XP : (Str → Option Value) → Heap → Prop} {YP : World → Heap → Prop} {d : DefRec} {K : Params → PySem.W.Frag} (hn : l.most = some 63) (hdf : d.params.defaults = [])
    (hY : ∀ (w : World) (h : Heap), YP w h → (K w.params).In h)
    (F : ∀ (w : World) (mg : Str → Option Value) (fa : Addr) (h : Heap), (K w.params).In h → h.Ns mainGlobals mg → mg d.name = some (.ref fa) →
      ∃ fd : FuncData, (∀ (s : Shared) (u : Value), BindsTo s fd ⟨[u], []⟩ [("_law_script", u)]) ∧ ∀ base : Heap, (K w.params).In base → base.Ns mainGlobals mg → RunAt l.prog w (K w.params) mg base callerA fa fd ["_law_script"] (spLaw24 (K w.params))) :
    PySem.W.WalkO q loose XP YP l.row.toRowW d [] (fun f vs => PySem.call f vs) :=
  walk_g (n := 63) (x := "_law_script") (sp := spLaw24) hn (by decide) hdf hY F (fun _ _ a ns hl hS => ⟨a, ns, rfl, hS, hl, fun _ => rfl⟩)
end Pn

open PySem PySem.W PyProof.Rows
set_option maxRecDepth 100000 in
set_option maxHeartbeats 0 in
theorem PySem.Challenge.cw_partnotes_k24_maps_made_and_refused_holds : PySem.Challenge.rw_partnotes_k24_maps_made_and_refused.Holds := by
  w_on; o_law; k_head; (case hw => w_witness2)
  k_fill
  refine Pn.walk (l := PySem.Challenge.rw_partnotes_k24_maps_made_and_refused) rfl rfl (fun w h Y => PySem.W.kIn_of Y) ?F
  case F =>
    intro w mg fa h KX G hmg
    refine' Pn.all_mk KX G hmg ?zint ?zbool ?zstr ?ztuple ?zisinstance ?zlen ?zabs ?zrange ?zrepr ?aTERMWORDS ?lTERMWORDS ?aisinteger ?lisinteger ?cisinteger ?kisinteger ?aisnumber ?lisnumber ?cisnumber ?kisnumber ?aispair ?lispair ?cispair ?kispair ?aNoteError ?aInvalidMap ?xInvalidMap ?saInvalidMap ?gaInvalidMap ?ggInvalidMap ?nfInvalidMap ?inInvalidMap ?haInvalidMap ?tiInvalidMap ?lInvalidMap ?cInvalidMap ?kInvalidMap ?kcInvalidMap ?eCInvalidMap ?tCInvalidMap ?hCInvalidMap ?iCInvalidMap ?sCInvalidMap ?hmInvalidMap ?areckoned ?lreckoned ?creckoned ?kreckoned ?atraced ?ltraced ?ctraced ?ktraced ?ajoined ?ljoined ?cjoined ?kjoined ?aisterm ?listerm ?cisterm ?kisterm ?atermtext ?ltermtext ?ctermtext ?ktermtext ?aMap ?inMap ?iMap ?lMap ?cMap ?kMap ?lTMap ?lDMap0 ?lDMap1 ?pgMap ?hdMap ?poMap ?saMap ?mkMap ?kcMap ?nMap0 ?nMap1 ?incallMap ?icallMap ?lcallMap ?ccallMap ?kcallMap ?inrshiftMap ?irshiftMap ?lrshiftMap ?crshiftMap ?krshiftMap ?instrMap ?istrMap ?lstrMap ?cstrMap ?kstrMap ?ineqMap ?ieqMap ?leqMap ?ceqMap ?keqMap ?aInvalidRow ?alawdeal ?llawdeal ?clawdeal ?klawdeal ?alawdraw ?llawdraw ?clawdraw ?klawdraw ?alawpick ?llawpick ?clawpick ?klawpick ?alawany ?llawany ?clawany ?klawany ?alawistold ?llawistold ?clawistold ?klawistold ?alawword ?llawword ?clawword ?klawword ?alawside ?llawside ?clawside ?klawside ?alaw ?llaw ?claw ?klaw ?sfMap ?kCMap ?nCMap ?cAMap ?cMMap ?neMap ?fiMap ?kCN ?kCP ?sStr ?kStr ?sNon ?kNon ?sTup ?kTup ?hnGet ?htGet
    (case zint => first | k_is | rfl)
    (case zbool => first | k_is | rfl)
    (case zstr => first | k_is | rfl)
    (case ztuple => first | k_is | rfl)
    (case zisinstance => first | k_is | rfl)
    (case zlen => first | k_is | rfl)
    (case zabs => first | k_is | rfl)
    (case zrange => first | k_is | rfl)
    (case zrepr => first | k_is | rfl)
    (case aTERMWORDS => first | k_is | rfl)
    (case lTERMWORDS => first | k_is | rfl)
    (case aisinteger => first | k_is | rfl)
    (case lisinteger => first | k_is | rfl)
    (case cisinteger => first | k_is | rfl)
    (case kisinteger => first | k_is | rfl)
    (case aisnumber => first | k_is | rfl)
    (case lisnumber => first | k_is | rfl)
    (case cisnumber => first | k_is | rfl)
    (case kisnumber => first | k_is | rfl)
    (case aispair => first | k_is | rfl)
    (case lispair => first | k_is | rfl)
    (case cispair => first | k_is | rfl)
    (case kispair => first | k_is | rfl)
    (case aNoteError => first | k_is | rfl)
    (case aInvalidMap => first | k_is | rfl)
    (case xInvalidMap => first | k_is | rfl)
    (case saInvalidMap => first | k_is | rfl)
    (case gaInvalidMap => first | k_is | rfl)
    (case ggInvalidMap => first | k_is | rfl)
    (case nfInvalidMap => first | k_is | rfl)
    (case inInvalidMap => first | k_is | rfl)
    (case haInvalidMap => first | k_is | rfl)
    (case tiInvalidMap => first | k_is | rfl)
    (case lInvalidMap => first | k_is | rfl)
    (case cInvalidMap => first | k_is | rfl)
    (case kInvalidMap => first | k_is | rfl)
    (case kcInvalidMap => first | k_is | rfl)
    (case eCInvalidMap => first | k_is | rfl)
    (case tCInvalidMap => first | k_is | rfl)
    (case hCInvalidMap => first | k_is | rfl)
    (case iCInvalidMap => first | k_is | rfl)
    (case sCInvalidMap => first | k_is | rfl)
    (case hmInvalidMap => first | k_is | rfl)
    (case areckoned => first | k_is | rfl)
    (case lreckoned => first | k_is | rfl)
    (case creckoned => first | k_is | rfl)
    (case kreckoned => first | k_is | rfl)
    (case atraced => first | k_is | rfl)
    (case ltraced => first | k_is | rfl)
    (case ctraced => first | k_is | rfl)
    (case ktraced => first | k_is | rfl)
    (case ajoined => first | k_is | rfl)
    (case ljoined => first | k_is | rfl)
    (case cjoined => first | k_is | rfl)
    (case kjoined => first | k_is | rfl)
    (case aisterm => first | k_is | rfl)
    (case listerm => first | k_is | rfl)
    (case cisterm => first | k_is | rfl)
    (case kisterm => first | k_is | rfl)
    (case atermtext => first | k_is | rfl)
    (case ltermtext => first | k_is | rfl)
    (case ctermtext => first | k_is | rfl)
    (case ktermtext => first | k_is | rfl)
    (case aMap => first | k_is | rfl)
    (case inMap => first | k_is | rfl)
    (case iMap => first | k_is | rfl)
    (case lMap => first | k_is | rfl)
    (case cMap => first | k_is | rfl)
    (case kMap => first | k_is | rfl)
    (case lTMap => first | k_is | rfl)
    (case lDMap0 => first | k_is | rfl)
    (case lDMap1 => first | k_is | rfl)
    (case pgMap => first | k_is | rfl)
    (case hdMap => first | k_is | rfl)
    (case poMap => first | k_is | rfl)
    (case saMap => first | k_is | rfl)
    (case mkMap => first | k_is | rfl)
    (case kcMap => first | k_is | rfl)
    (case nMap0 => first | k_is | rfl)
    (case nMap1 => first | k_is | rfl)
    (case incallMap => first | k_is | rfl)
    (case icallMap => first | k_is | rfl)
    (case lcallMap => first | k_is | rfl)
    (case ccallMap => first | k_is | rfl)
    (case kcallMap => first | k_is | rfl)
    (case inrshiftMap => first | k_is | rfl)
    (case irshiftMap => first | k_is | rfl)
    (case lrshiftMap => first | k_is | rfl)
    (case crshiftMap => first | k_is | rfl)
    (case krshiftMap => first | k_is | rfl)
    (case instrMap => first | k_is | rfl)
    (case istrMap => first | k_is | rfl)
    (case lstrMap => first | k_is | rfl)
    (case cstrMap => first | k_is | rfl)
    (case kstrMap => first | k_is | rfl)
    (case ineqMap => first | k_is | rfl)
    (case ieqMap => first | k_is | rfl)
    (case leqMap => first | k_is | rfl)
    (case ceqMap => first | k_is | rfl)
    (case keqMap => first | k_is | rfl)
    (case aInvalidRow => first | k_is | rfl)
    (case alawdeal => first | k_is | rfl)
    (case llawdeal => first | k_is | rfl)
    (case clawdeal => first | k_is | rfl)
    (case klawdeal => first | k_is | rfl)
    (case alawdraw => first | k_is | rfl)
    (case llawdraw => first | k_is | rfl)
    (case clawdraw => first | k_is | rfl)
    (case klawdraw => first | k_is | rfl)
    (case alawpick => first | k_is | rfl)
    (case llawpick => first | k_is | rfl)
    (case clawpick => first | k_is | rfl)
    (case klawpick => first | k_is | rfl)
    (case alawany => first | k_is | rfl)
    (case llawany => first | k_is | rfl)
    (case clawany => first | k_is | rfl)
    (case klawany => first | k_is | rfl)
    (case alawistold => first | k_is | rfl)
    (case llawistold => first | k_is | rfl)
    (case clawistold => first | k_is | rfl)
    (case klawistold => first | k_is | rfl)
    (case alawword => first | k_is | rfl)
    (case llawword => first | k_is | rfl)
    (case clawword => first | k_is | rfl)
    (case klawword => first | k_is | rfl)
    (case alawside => first | k_is | rfl)
    (case llawside => first | k_is | rfl)
    (case clawside => first | k_is | rfl)
    (case klawside => first | k_is | rfl)
    (case alaw => first | k_is | rfl)
    (case llaw => first | k_is | rfl)
    (case claw => first | k_is | rfl)
    (case klaw => first | k_is | rfl)
    (case sfMap => first | k_is | rfl)
    (case kCMap => first | k_is | rfl)
    (case nCMap => first | k_is | rfl)
    (case cAMap => first | k_is | rfl)
    (case cMMap => first | k_is | rfl)
    (case neMap => first | k_is | rfl)
    (case fiMap => first | k_is | rfl)
    (case kCN => first | k_is | rfl)
    (case kCP => first | k_is | rfl)
    (case sStr => first | k_is | rfl)
    (case kStr => first | k_is | rfl)
    (case sNon => first | k_is | rfl)
    (case kNon => first | k_is | rfl)
    (case sTup => first | k_is | rfl)
    (case kTup => first | k_is | rfl)
    (case hnGet => first | k_is | rfl)
    (case htGet => first | k_is | rfl)
