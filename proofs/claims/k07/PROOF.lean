import PyProof.Rows.All
import Wide.All
import OpenK.AllK
import Wide.FinOn
import HandS.ForMost
import HandS.Wide
import HandS.Conv
import HandS.IsInst
import HandS.Walk
import HandS.Text
import HandS.Exc
import HandS.ExcInit
import HandS.ExcField
import HandS.ExcIs
import HandS.WordsExc
import HandS.TryOnly
import KE.KExcIs
import HandS.ExcCtx
import HandS.ExcInitHot
import HandS.SuiteRaise
import HandS.RaiseFrom
import HandS.Defaults
import HandS.FStr
import KE.KCallOwn
import Flt.Len
import KE.IntTextLaws
import KE.IntTextText
import HandS.HotCalls
import HandS.TupLe
import HandS.RaiseMore
import HandS.OwnEq
import HandS.SlotsOwn
import HandS.NamedTupSort
import HandS.Ends
import HandS.Dict
import HandS.WordsDict
import HandS.Star
import HandS.SetTxt0
import HandS.SetFor
import PyProof.Rows.SortStr
import HandS.SetKeys
import HandS.Strs
import HandS.Comp
import HandS.Rev
import KE.KDictPairs
import HandS.Style
import HandS.Property
import KE.KStateDown
import HandS.Head0
import HandS.Head1
import HandS.Head2
import HandS.HeadEnd
import HandS.HeadHook1
import HandS.HeadHook2
import PySem.Challenge.RW_partnotes_k07_books_refused
set_option Elab.async false
set_option maxRecDepth 100000
set_option maxHeartbeats 4000000
namespace Pn
open PySem L2
/-! the text by places -/
def top (i : Nat) : Stmt := PySem.Challenge.pw_partnotes_k07_books_refused.main.body.getD i (.Pass ⟨0, 0, 0, 0⟩)
/-- a def of the top: where it stands, what binds its arguments -/
structure At (K : PySem.W.Frag) (mg : Str → Option Value) (x : Str) (st : Stmt) (ps : List Str) : Type where
  f : Addr
  fd : FuncData
  F : Fun K x x st f fd
  b : Binds K fd ps []
  m : mg x = some (.ref f)
/-- all but what stands at b is as it was -/
def Kp (b : Addr) (H H' : Hp) : Prop := ∀ a o, H a = some o → a ≠ b → H' a = some o
theorem Kp.refl (b : Addr) (H : Hp) : Kp b H H := fun _ _ h _ => h
theorem Kp.trans {b : Addr} {H H1 H2 : Hp} (h : Kp b H H1) (g : Kp b H1 H2) : Kp b H H2 := fun a o e n => g a o (h a o e n) n
theorem Kp.new {b p : Addr} {H H1 : Hp} {o : HO} (h : Kp b H H1) (hp : H1 p = none) : Kp b H (upd H1 p o) := fun a u e n => by
  have z := h a u e n
  rw [upd_ne (ne_of_none z hp)]
  exact z
theorem Kp.box {b : Addr} {H H1 : Hp} {o : HO} (h : Kp b H H1) : Kp b H (upd H1 b o) := fun a u e n => by
  rw [upd_ne n]
  exact h a u e n
theorem Kp.sql {K : PySem.W.Frag} {b a : Addr} {xs : List V} {H H1 : Hp} (h : Kp b H H1) (n : a ≠ b) (s : SqL K H a xs) : SqL K H1 a xs := by
  rcases s with (s | ⟨o, s⟩) | s
  · exact .inl (.inl (h _ _ s n))
  · exact .inl (.inr ⟨o, h _ _ s n⟩)
  · exact .inr s
theorem Kp.sqt {K : PySem.W.Frag} {b a : Addr} {xs : List V} {H H1 : Hp} (h : Kp b H H1) (n : a ≠ b) (s : SqT K H a xs) : SqT K H1 a xs := by
  rcases s with (s | ⟨o, s⟩) | s
  · exact .inl (.inl (h _ _ s n))
  · exact .inl (.inr ⟨o, h _ _ s n⟩)
  · exact .inr s
theorem Kp.same {b : Addr} {H H1 : Hp} (h : Same H H1) : Kp b H H1 := fun a o e _ => h a o e
/-- the heap but for what stands at b -/
def hid (H : Hp) (b : Addr) : Hp := fun a => if a = b then none else H a
theorem hid_sub {H : Hp} {b : Addr} : Same (hid H b) H := fun a o e => by
  unfold hid at e
  by_cases h : a = b
  · rw [if_pos h] at e
    cases e
  · rw [if_neg h] at e
    exact e
theorem hid_kp {b : Addr} {H H1 : Hp} (h : Kp b H H1) : Same (hid H b) (hid H1 b) := fun a o e => by
  unfold hid at e ⊢
  by_cases n : a = b
  · rw [if_pos n] at e
    cases e
  · rw [if_neg n] at e ⊢
    exact h a o e n
theorem hid_get {b a : Addr} {H : Hp} {o : HO} (h : H a = some o) (n : a ≠ b) : hid H b a = some o := by
  unfold hid
  rw [if_neg n]
  exact h
theorem Same.sqt {K : PySem.W.Frag} {H H' : Hp} {a : Addr} {xs : List V} (e : Same H H') (h : SqT K H a xs) : SqT K H' a xs := by
  rcases h with (h | ⟨o, h⟩) | h
  · exact .inl (.inl (e _ _ h))
  · exact .inl (.inr ⟨o, e _ _ h⟩)
  · exact .inr h
theorem Same.new {H : Hp} {p : Addr} {o : HO} (h : H p = none) : Same H (upd H p o) := fun a u e => by
  rw [upd_ne (ne_of_none e h)]
  exact e
/-- what is new in H' -/
def dif (H H' : Hp) : Hp := fun a => match H a with
  | none => H' a
  | some _ => none
theorem dif_eq {H H' : Hp} {a : Addr} {o : HO} : dif H H' a = some o ↔ H a = none ∧ H' a = some o := by
  unfold dif
  cases h : H a with
  | none => exact ⟨fun e => ⟨rfl, e⟩, fun e => e.2⟩
  | some u => exact ⟨fun e => (nomatch (show (none : Option HO) = some o from e)), fun e => by cases e.1⟩
theorem dif_sub {H H' : Hp} : Same (dif H H') H' := fun _ _ e => (dif_eq.mp e).2
theorem dif_new {H H' : Hp} {a : Addr} {o : HO} (h : H a = none) (h' : H' a = some o) : dif H H' a = some o := dif_eq.mpr ⟨h, h'⟩
/-- what is tracked stays tracked -/
def Mo (H H' : Hp) : Prop := ∀ a, H' a = none → H a = none
theorem Mo.refl (H : Hp) : Mo H H := fun _ h => h
theorem Mo.trans {H H1 H2 : Hp} (h : Mo H H1) (g : Mo H1 H2) : Mo H H2 := fun a e => h a (g a e)
theorem Mo.upd {H : Hp} {p : Addr} {o : HO} : Mo H (upd H p o) := fun a e => by
  by_cases h : a = p
  · subst h
    rw [upd_same] at e
    cases e
  · rw [upd_ne h] at e
    exact e
theorem Kp.mo {b : Addr} {H H' : Hp} {o : HO} (h : Kp b H H') (hb : H' b = some o) : Mo H H' := fun a e => by
  cases q : H a with
  | none => rfl
  | some u =>
    have n : a ≠ b := fun z => by rw [z, hb] at e; cases e
    rw [h a u q n] at e
    cases e
/-- what was new stays: all of H1 but b, which stood in H -/
theorem dif_kp {b : Addr} {H H1 H2 : Hp} {o : HO} (hb : H b = some o) (k : Kp b H1 H2) : Same (dif H H1) (dif H H2) := fun a u e => by
  obtain ⟨e1, e2⟩ := dif_eq.mp e
  exact dif_new e1 (k a u e2 (fun z => by rw [z, hb] at e1; cases e1))
theorem dif_mo {H0 H H1 : Hp} (m : Mo H0 H) : Same (dif H H1) (dif H0 H1) := fun a u e => by
  obtain ⟨e1, e2⟩ := dif_eq.mp e
  exact dif_new (m a e1) e2
mutual
theorem dp_same {K : PySem.W.Frag} {H H' : Hp} (e : Same H H') : ∀ (d : PyData) (v : V), Dp K H v d → Dp K H' v d
  | .none, _, h => by cases h; exact .non
  | .bool _, _, h => by cases h; exact .bl _
  | .int _, _, h => by cases h; exact .int _
  | .str _, _, h => by cases h; exact .str _
  | .list ds, _, h => by
    cases h with
    | lst s a => exact .lst (e.seq s) (dpAll_same e ds _ a)
  | .tuple ds, _, h => by
    cases h with
    | tup s a => exact .tup (Same.sqt e s) (dpAll_same e ds _ a)
  | .dict _, _, h => by cases h
theorem dpAll_same {K : PySem.W.Frag} {H H' : Hp} (e : Same H H') : ∀ (ds : List PyData) (vs : List V), DpAll K H vs ds → DpAll K H' vs ds
  | [], _, h => by cases h; exact .nil
  | d :: ds, _, h => by
    cases h with
    | cons a b => exact .cons (dp_same e d _ a) (dpAll_same e ds _ b)
end
theorem dpAll_append {K : PySem.W.Frag} {H : Hp} : ∀ {vs : List V} {ds : List PyData} {ws : List V} {es : List PyData}, DpAll K H vs ds → DpAll K H ws es → DpAll K H (vs ++ ws) (ds ++ es)
  | _, _, _, _, .nil, g => g
  | _, _, _, _, .cons a b, g => .cons a (dpAll_append b g)
end Pn

namespace Pn
open PySem L2
/-! ### one statement, with what it comes to -/
theorem joinOn {t : TE} {σ : L2.St} {H : Hp} {Q : VK} (C : V → Hp → Prop) (h1 : ∀ Q' : VK, (∀ v H', C v H' → Q' v H') → t σ H Q') (h2 : ∀ v H', C v H' → Q v H') : t σ H Q := h1 Q h2
/-- x = e, where what e comes to is said by C -/
theorem stepSet {te : TE} {i : Nat} {B : TS} {D : Ends} {σ : L2.St} {H : Hp} (C : V → Hp → Prop) (h1 : ∀ Q' : VK, (∀ v H', C v H' → Q' v H') → te σ H Q') (h2 : ∀ v H', C v H' → B D (σ.set i (some v)) H') : tSeq (tAsg te (gName i)) B D σ H := h1 _ h2
theorem stepDrop {te : TE} {B : TS} {D : Ends} {σ : L2.St} {H : Hp} (C : Hp → Prop) (h1 : ∀ Q' : VK, (∀ v H', C H' → Q' v H') → te σ H Q') (h2 : ∀ H', C H' → B D σ H') : tSeq (tDrop te) B D σ H := h1 (fun _ H1 => B D σ H1) fun _ H' c => h2 H' c
theorem stepIfF {tt : TT} {A C : TS} {D : Ends} {σ : L2.St} {H : Hp} (h1 : ∀ Q : Bool → Hp → Prop, Q false H → tt σ H Q) (h2 : C D σ H) : tSeq (tIfS tt A tNext) C D σ H := h1 _ (by rw [if_neg Bool.false_ne_true]; exact h2)
theorem stepNo {tt : TT} {A C : TS} {D : Ends} {σ : L2.St} {H : Hp} (G : Hp → Prop) (h1 : ∀ Q : Bool → Hp → Prop, (∀ H', G H' → Q false H') → tt σ H Q) (h2 : ∀ H', G H' → C D σ H') : tSeq (tIfS tt A tNext) C D σ H := h1 _ fun H' g => by
  rw [if_neg Bool.false_ne_true]
  exact h2 H' g
theorem stepYes {tt : TT} {A B C : TS} {D : Ends} {σ : L2.St} {H : Hp} (G : Hp → Prop) (h1 : ∀ Q : Bool → Hp → Prop, (∀ H', G H' → Q true H') → tt σ H Q) (h2 : ∀ H', G H' → A { D with nx := C D } σ H') : tSeq (tIfS tt A B) C D σ H := h1 _ fun H' g => by
  rw [if_pos rfl]
  exact h2 H' g
theorem Same.mo {H H' : Hp} (s : Same H H') : Mo H H' := fun _ e => s.free e
end Pn

namespace Pn
open PySem L2
abbrev sSeed : Stmt := top 52
abbrev sChoose : Stmt := top 53
abbrev sOne : Stmt := top 54

/-- the two ints of a box of draws -/
def Bx (x y : Int) : Prop := 0 ≤ x ∧ 1 ≤ y ∧ y ≤ 2147483629
def spChoose : Sp := fun vs H Q _ => ∃ (b : Addr) (x y m : Int), vs = [.ref b, .int m] ∧ H b = some (.lst [.int x, .int y]) ∧ Bx x y ∧ 0 < m ∧ m < 1000000 ∧
  ∀ r x' y', 0 ≤ r → r < m → Bx x' y' → Q (.int r) (upd H b (.lst [.int x', .int y']))
section
variable {P : Program} {w : World} {K : PySem.W.Frag} {mg : Str → Option Value} {base : Heap}
theorem scChoose : FnScope ["_law_box", "_law_many", "_law_digit", "_law_raw"] ["_law_box", "_law_many"] (defScope sChoose) := ⟨rfl, rfl, rfl, by decide +kernel, rfl, by decide +kernel, by decide +kernel⟩
theorem ok_choose {f : Addr} {fd : FuncData} (F : Fun K "_law_choose" "_law_choose" sChoose f fd) (mI : mg "int" = none) : FnOk P w K mg base CX0 1 f fd ["_law_box", "_law_many"] spChoose := by
  refine F.ok scChoose (fun vs H Q E h => ?_) (fun cdv A outer s H vs Q E hr h => ?_)
  · obtain ⟨b, x, y, m, rfl, _⟩ := h
    rfl
  · obtain ⟨b, x, y, m, rfl, hb, ⟨hx, hy, hz⟩, h0, h1, k⟩ := h
    refine ⟨_, pss_cons (ps_if (pt_cmpR op_gt (pe_ix ix_list (pv 0) pe_int (fun _ _ => rfl)) pe_int (nomark _))
        (pss_cons (ps_set (i := 2) scChoose.nd rfl (Or.inl rfl) (pe_op op_mod (pe_callTy call_int1 (by rfl) mI (by decide +kernel) (pa_cons (pe_ix ix_list (pv 0) pe_int (fun _ _ => rfl)) pa_nil)) (pv 1)))
        (pss_cons (ps_asg (pe_op op_fdivW (pe_ix ix_list (pv 0) pe_int (fun _ _ => rfl)) (pv 1)) (pg_sub (pv 0) pe_int set_list))
        (pss_one (ps_ret (pv 2))))) pss_nil)
      (pss_cons (ps_set (i := 3) scChoose.nd rfl (Or.inl rfl) (pe_op op_mod (pe_callTy call_int1 (by rfl) mI (by decide +kernel) (pa_cons (pe_op op_add (pe_op op_mul (pe_ix ix_list (pv 0) pe_int (fun _ _ => rfl)) pe_int) pe_int) pa_nil)) pe_int))
      (pss_cons (ps_asg (pe_op op_add (pe_op op_mod (pe_callTy call_int1 (by rfl) mI (by decide +kernel) (pa_cons (pe_op op_add (pe_op op_mul (pv 3) pe_int) pe_int) pa_nil)) pe_int) pe_int) (pg_sub (pv 0) pe_int set_list))
      (pss_one (ps_ret (pe_op op_mod (pe_callTy call_int1 (by rfl) mI (by decide +kernel) (pa_cons (pe_op op_fdiv (pe_op op_add (pe_op op_mul (pv 3) pe_int) (pe_ix ix_list (pv 0) pe_int (fun _ _ => rfl))) pe_int) pa_nil)) (pv 1)))))), ?_⟩
    refine ⟨_, rfl, _, _, _, _, rfl, rfl, SqL.of hb, rfl, _, _, rfl, rfl, _, rfl, ?_⟩
    refine ite2 (fun hc => ?_) (fun hc => ?_)
    · refine ⟨_, rfl, _, _, _, _, rfl, rfl, SqL.of hb, rfl, .inl ⟨_, rfl, _, rfl, _, _, rfl, rfl, h0, ?_⟩⟩
      refine ⟨_, rfl, _, _, _, _, rfl, rfl, SqL.of hb, rfl, _, rfl, _, _, rfl, rfl, wide_div (b := 20) h0 (by omega) (by decide) (by decide), ?_⟩
      refine ⟨_, rfl, _, _, _, _, rfl, rfl, hb, rfl, ?_⟩
      refine ⟨_, rfl, ?_⟩
      exact k _ _ _ (Int.emod_nonneg _ (by omega)) (Int.emod_lt_of_pos _ h0) ⟨Int.ediv_nonneg hx (by omega), hy, hz⟩
    · refine ⟨_, rfl, _, _, _, _, rfl, rfl, SqL.of hb, rfl, _, _, rfl, rfl, .inl ⟨by omega, by omega⟩, _, _, rfl, rfl, .inl ⟨_, rfl, _, _, rfl, rfl, (by show (0 : Int) < 2147483563; decide), ?_⟩⟩
      have hr1 : 0 ≤ (y * 40014 + 61) % 2147483563 ∧ (y * 40014 + 61) % 2147483563 < 2147483563 := ⟨by omega, by omega⟩
      refine ⟨_, rfl, _, _, rfl, rfl, .inl ⟨by show _ < (y * 40014 + 61) % 2147483563; omega, by show (y * 40014 + 61) % 2147483563 < _; omega⟩, _, _, rfl, rfl, .inl ⟨_, rfl, _, _, rfl, rfl, (by show (0 : Int) < 2147483629; decide), _, _, rfl, rfl, ?_⟩⟩
      refine ⟨_, rfl, _, _, _, _, rfl, rfl, hb, rfl, ?_⟩
      have hr2 : 0 ≤ ((y * 40014 + 61) % 2147483563 * 40692 + 4409) % 2147483629 ∧ ((y * 40014 + 61) % 2147483563 * 40692 + 4409) % 2147483629 < 2147483629 := ⟨by omega, by omega⟩
      refine ⟨_, rfl, _, _, rfl, rfl, .inl ⟨by show _ < (y * 40014 + 61) % 2147483563; omega, by show (y * 40014 + 61) % 2147483563 < _; omega⟩, _, rfl, _, _, _, _, rfl, rfl, SqL.of upd_same, rfl, _, _, rfl, rfl, _, _, rfl, rfl, ⟨by decide, by decide⟩, .inl ⟨_, rfl, _, rfl, _, _, rfl, rfl, h0, ?_⟩⟩
      exact k _ _ _ (Int.emod_nonneg _ (by omega)) (Int.emod_lt_of_pos _ h0) ⟨hx, by omega, by omega⟩
/-- the box for a round -/
def spSeed (K : PySem.W.Frag) : Sp := fun vs H Q _ => ∃ (a : Addr) (ns : List Int) (k : Nat), vs = [.ref a, .int k] ∧ SqL K H a (ns.map V.int) ∧ k ≤ 100 ∧
  ∀ (p : Addr) (x y : Int), H p = none → Bx x y → Q (.ref p) (upd H p (.lst [.int x, .int y]))
theorem scSeed : FnScope ["_law_script", "_law_k", "_law_cell"] ["_law_script", "_law_k"] (defScope sSeed) := ⟨rfl, rfl, rfl, by decide +kernel, rfl, by decide +kernel, by decide +kernel⟩
theorem ok_seed {f : Addr} {fd : FuncData} (F : Fun K "_law_seed" "_law_seed" sSeed f fd) (mI : mg "int" = none) (mL : mg "len" = none) (mA : mg "abs" = none) : FnOk P w K mg base CX0 1 f fd ["_law_script", "_law_k"] (spSeed K) := by
  refine F.ok scSeed (fun vs H Q E h => ?_) (fun cdv A outer s H vs Q E hr h => ?_)
  · obtain ⟨a, ns, k, rfl, _⟩ := h
    rfl
  · obtain ⟨a, ns, k, rfl, hS, hk, q⟩ := h
    refine ⟨_, pss_cons (ps_set (i := 2) scSeed.nd rfl (Or.inl rfl) (pe_op op_add (pe_op op_mul pe_int (pv 1)) pe_int))
      (pss_cons (ps_if (pt_cmpR op_lt (pv 1) (pe_callB call_len_seq (by rfl) mL PySem.boot_len (pa_cons (pv 0) pa_nil)) (nomark _))
          (pss_one (ps_set (i := 2) scSeed.nd rfl (Or.inl rfl) (pe_callB call_abs (by rfl) mA (by decide +kernel) (pa_cons (pe_ix ix_list (pv 0) (pv 1) (fun _ _ => rfl)) pa_nil))))
          (pss_one (ps_if (pt_cmpR op_gt (pe_callB call_len_seq (by rfl) mL PySem.boot_len (pa_cons (pv 0) pa_nil)) pe_int (nomark _))
            (pss_one (ps_set (i := 2) scSeed.nd rfl (Or.inl rfl) (pe_op op_add (pv 2) (pe_op op_mul (pe_op op_mod (pe_callTy call_int1 (by rfl) mI (by decide +kernel) (pa_cons (pe_callB call_abs (by rfl) mA (by decide +kernel) (pa_cons (pe_ix ix_list (pv 0) (pe_op op_mod (pe_callTy call_int1 (by rfl) mI (by decide +kernel) (pa_cons (pv 1) pa_nil)) (pe_callB call_len_seq (by rfl) mL PySem.boot_len (pa_cons (pv 0) pa_nil))) (fun _ _ => rfl)) pa_nil)) pa_nil)) pe_int) pe_int))))
            pss_nil)))
      (pss_one (ps_ret (pe_lst (pa_cons (pe_ifExp (pt_cmpR op_ge (pv 2) (pe_op op_pow pe_int pe_int) (nomark _)) (pv 2) pe_int)
        (pa_cons (pe_op op_add (pe_op op_mod (pe_callTy call_int1 (by rfl) mI (by decide +kernel) (pa_cons (pe_op op_add (pe_op op_mul (pe_op op_mod (pe_callTy call_int1 (by rfl) mI (by decide +kernel) (pa_cons (pv 2) pa_nil)) pe_int) pe_int) (pe_op op_mul pe_int (pv 1))) pa_nil)) pe_int) pe_int) pa_nil)))))), ?_⟩
    have hlen : ((ns.map V.int).length : Int) = (ns.length : Int) := by rw [List.length_map]
    have hz : ∀ z : Int, 1 ≤ z % 2147483629 + 1 ∧ z % 2147483629 + 1 ≤ 2147483629 := fun z => ⟨by omega, by omega⟩
    have at_ : ∀ j : Nat, (hj : j < ns.length) → (ns.map V.int)[j]? = some (.int ns[j]) := fun j hj => by
      rw [List.getElem?_map, List.getElem?_eq_getElem hj]
      rfl
    refine ⟨_, rfl, _, _, rfl, rfl, .inl ⟨by decide, by decide⟩, _, _, rfl, rfl, ?_⟩
    refine ⟨_, rfl, _, rfl, _, _, rfl, .inl hS, _, _, rfl, rfl, _, rfl, ?_⟩
    refine ite2 (fun hc => ?_) (fun hc => ?_)
    · have hc1 := of_decide_eq_true hc
      rw [hlen] at hc1
      have hk2 : k < ns.length := by omega
      refine ⟨_, rfl, _, rfl, _, _, _, _, rfl, rfl, hS, atI_nat (at_ k hk2), _, rfl, ?_⟩
      have c0 : 0 ≤ (if ns[k] < 0 then -ns[k] else ns[k]) := by split <;> omega
      generalize (if ns[k] < 0 then -ns[k] else ns[k]) = c at c0 ⊢
      refine ⟨_, rfl, _, _, rfl, rfl, ⟨by decide, by decide, by decide⟩, _, _, rfl, rfl, _, rfl, ?_⟩
      refine ite2 (fun hg => ?_) (fun hg => ?_)
      · refine ⟨_, rfl, ?_⟩
        refine ⟨_, rfl, .inl ⟨_, rfl, _, _, rfl, rfl, (by show (0 : Int) < 2147483629; decide), _, _, rfl, rfl, .inr ⟨by decide, by decide⟩, _, rfl, _, _, rfl, rfl, .inl ⟨by decide, by decide⟩, _, _, rfl, rfl, .inl ⟨_, rfl, _, _, rfl, rfl, (by show (0 : Int) < 2147483629; decide), _, _, rfl, rfl, (by show 2 ≤ sizeLine; decide), fun l hl => ?_⟩⟩⟩
        exact q l _ _ hl ⟨c0, (hz _).1, (hz _).2⟩
      · refine ⟨_, rfl, .inl ⟨_, rfl, _, _, rfl, rfl, (by show (0 : Int) < 2147483629; decide), _, _, rfl, rfl, .inr ⟨by decide, by decide⟩, _, rfl, _, _, rfl, rfl, .inl ⟨by decide, by decide⟩, _, _, rfl, rfl, .inl ⟨_, rfl, _, _, rfl, rfl, (by show (0 : Int) < 2147483629; decide), _, _, rfl, rfl, (by show 2 ≤ sizeLine; decide), fun l hl => ?_⟩⟩⟩
        exact q l _ _ hl ⟨by decide, (hz _).1, (hz _).2⟩
    · refine ⟨_, rfl, _, _, rfl, .inl hS, _, _, rfl, rfl, _, rfl, ?_⟩
      refine ite2 (fun hc2 => ?_) (fun hc2 => ?_)
      · have hc3 := of_decide_eq_true hc2
        rw [hlen] at hc3
        have hm : (k : Int) % ((ns.map V.int).length : Int) = ((k % ns.length : Nat) : Int) := by rw [hlen]; rfl
        have hk3 : k % ns.length < ns.length := Nat.mod_lt _ (by omega)
        refine ⟨_, rfl, _, rfl, _, rfl, .inl ⟨_, rfl, _, rfl, _, _, rfl, .inl hS, _, _, rfl, rfl, (by rw [hlen]; exact hc3), _, _, _, _, rfl, rfl, hS, (by show atI _ ((k : Int) % ((ns.map V.int).length : Int)) = _; rw [hm]; exact atI_nat (at_ _ hk3)), _, rfl, .inl ⟨_, rfl, _, _, rfl, rfl, (by show (0 : Int) < 2147483629; decide), _, _, rfl, rfl, .inr ⟨by decide, by decide⟩, _, _, rfl, rfl, ?_⟩⟩⟩
        have c0 : 0 ≤ 7177 * (k : Int) + 89 + (if ns[k % ns.length] < 0 then -ns[k % ns.length] else ns[k % ns.length]) % 2147483629 * 40093 := by omega
        refine ⟨_, rfl, _, _, rfl, rfl, ⟨by decide, by decide, by decide⟩, _, _, rfl, rfl, _, rfl, ?_⟩
        refine ite2 (fun hg => ?_) (fun hg => ?_)
        · refine ⟨_, rfl, ?_⟩
          refine ⟨_, rfl, .inl ⟨_, rfl, _, _, rfl, rfl, (by show (0 : Int) < 2147483629; decide), _, _, rfl, rfl, .inr ⟨by decide, by decide⟩, _, rfl, _, _, rfl, rfl, .inl ⟨by decide, by decide⟩, _, _, rfl, rfl, .inl ⟨_, rfl, _, _, rfl, rfl, (by show (0 : Int) < 2147483629; decide), _, _, rfl, rfl, (by show 2 ≤ sizeLine; decide), fun l hl => ?_⟩⟩⟩
          exact q l _ _ hl ⟨c0, (hz _).1, (hz _).2⟩
        · refine ⟨_, rfl, .inl ⟨_, rfl, _, _, rfl, rfl, (by show (0 : Int) < 2147483629; decide), _, _, rfl, rfl, .inr ⟨by decide, by decide⟩, _, rfl, _, _, rfl, rfl, .inl ⟨by decide, by decide⟩, _, _, rfl, rfl, .inl ⟨_, rfl, _, _, rfl, rfl, (by show (0 : Int) < 2147483629; decide), _, _, rfl, rfl, (by show 2 ≤ sizeLine; decide), fun l hl => ?_⟩⟩⟩
          exact q l _ _ hl ⟨by decide, (hz _).1, (hz _).2⟩
      · have c0 : 0 ≤ 7177 * (k : Int) + 89 := by omega
        refine ⟨_, rfl, _, _, rfl, rfl, ⟨by decide, by decide, by decide⟩, _, _, rfl, rfl, _, rfl, ?_⟩
        refine ite2 (fun hg => ?_) (fun hg => ?_)
        · refine ⟨_, rfl, ?_⟩
          refine ⟨_, rfl, .inl ⟨_, rfl, _, _, rfl, rfl, (by show (0 : Int) < 2147483629; decide), _, _, rfl, rfl, .inr ⟨by decide, by decide⟩, _, rfl, _, _, rfl, rfl, .inl ⟨by decide, by decide⟩, _, _, rfl, rfl, .inl ⟨_, rfl, _, _, rfl, rfl, (by show (0 : Int) < 2147483629; decide), _, _, rfl, rfl, (by show 2 ≤ sizeLine; decide), fun l hl => ?_⟩⟩⟩
          exact q l _ _ hl ⟨c0, (hz _).1, (hz _).2⟩
        · refine ⟨_, rfl, .inl ⟨_, rfl, _, _, rfl, rfl, (by show (0 : Int) < 2147483629; decide), _, _, rfl, rfl, .inr ⟨by decide, by decide⟩, _, rfl, _, _, rfl, rfl, .inl ⟨by decide, by decide⟩, _, _, rfl, rfl, .inl ⟨_, rfl, _, _, rfl, rfl, (by show (0 : Int) < 2147483629; decide), _, _, rfl, rfl, (by show 2 ≤ sizeLine; decide), fun l hl => ?_⟩⟩⟩
          exact q l _ _ hl ⟨by decide, (hz _).1, (hz _).2⟩
/-- what a box is, by its place -/
def BoxAt (H : Hp) (b : Addr) : Prop := ∃ x y : Int, Bx x y ∧ H b = some (.lst [.int x, .int y])
theorem sql_upd {H : Hp} {a b : Addr} {o : HO} {xs : List V} (h : SqL K H a xs) (hne : a ≠ b) : SqL K (upd H b o) a xs := by
  rcases h with (h | ⟨u, h⟩) | h
  · exact .inl (.inl (by rw [upd_ne hne]; exact h))
  · exact .inl (.inr ⟨u, by rw [upd_ne hne]; exact h⟩)
  · exact .inr h
theorem sqt_upd {H : Hp} {a b : Addr} {o : HO} {xs : List V} (h : SqT K H a xs) (hne : a ≠ b) : SqT K (upd H b o) a xs := by
  rcases h with (h | ⟨u, h⟩) | h
  · exact .inl (.inl (by rw [upd_ne hne]; exact h))
  · exact .inl (.inr ⟨u, by rw [upd_ne hne]; exact h⟩)
  · exact .inr h
/-- one of several things -/
def spOne (K : PySem.W.Frag) : Sp := fun vs H Q _ => ∃ (b a : Addr) (x y : Int) (xs : List V), vs = [.ref b, .ref a] ∧ H b = some (.lst [.int x, .int y]) ∧ Bx x y ∧ SqL K H a xs ∧ a ≠ b ∧ 0 < xs.length ∧ xs.length < 1000000 ∧
  ∀ (i : Nat) (x' y' : Int) (hi : i < xs.length), Bx x' y' → Q xs[i] (upd H b (.lst [.int x', .int y']))
theorem scOne : FnScope ["_law_box", "_law_some"] ["_law_box", "_law_some"] (defScope sOne) := ⟨rfl, rfl, rfl, by decide +kernel, rfl, by decide +kernel, by decide +kernel⟩
theorem ok_one {f fC : Addr} {fd fdC : FuncData} (F : Fun K "_law_one_of" "_law_one_of" sOne f fd) (mL : mg "len" = none) (mC : mg "_law_choose" = some (.ref fC)) (FC : Fun K "_law_choose" "_law_choose" sChoose fC fdC) (bC : Binds K fdC ["_law_box", "_law_many"] [])
    (mI : mg "int" = none) : FnOk P w K mg base CX0 2 f fd ["_law_box", "_law_some"] (spOne K) := by
  refine F.ok scOne (fun vs H Q E h => ?_) (fun cdv A outer s H vs Q E hr h => ?_)
  · obtain ⟨b, a, x, y, xs, rfl, _⟩ := h
    rfl
  · obtain ⟨b, a, x, y, xs, rfl, hb, hB, hS, hne, h0, h1, q⟩ := h
    refine ⟨_, pss_one (ps_ret (pe_ix ix_list (pv 1) (pe_call (ok_choose FC mI) hr rfl mC FC.kp bC .nil pass0 (pa_cons (pv 0) (pa_cons (pe_callB call_len_seq (by rfl) mL PySem.boot_len (pa_cons (pv 1) pa_nil)) pa_nil))) (fun _ _ => rfl))), ?_⟩
    refine ⟨_, rfl, _, rfl, _, rfl, _, _, rfl, .inl hS, ?_⟩
    refine ⟨b, x, y, _, rfl, hb, hB, by omega, by omega, fun r x' y' r0 r1 hB' => ?_⟩
    obtain ⟨i, rfl⟩ : ∃ i : Nat, r = (i : Int) := ⟨r.toNat, by omega⟩
    have hi : i < xs.length := by omega
    exact ⟨_, _, _, _, rfl, rfl, sql_upd hS hne, atI_nat (List.getElem?_eq_getElem hi), q i x' y' hi hB'⟩
/-- the facts of the draws' defs -/
structure TDraw (K : PySem.W.Frag) (mg : Str → Option Value) : Type where
  mI : mg "int" = none
  mL : mg "len" = none
  mA : mg "abs" = none
  seed : At K mg "_law_seed" sSeed ["_law_script", "_law_k"]
  choose : At K mg "_law_choose" sChoose ["_law_box", "_law_many"]
  one : At K mg "_law_one_of" sOne ["_law_box", "_law_some"]
theorem TDraw.okSeed (T : TDraw K mg) : FnOk P w K mg base CX0 1 T.seed.f T.seed.fd ["_law_script", "_law_k"] (spSeed K) := ok_seed T.seed.F T.mI T.mL T.mA
/-- the same, of a box by its place -/
def spChooseB : Sp := fun vs H Q _ => ∃ (b : Addr) (m : Int), vs = [.ref b, .int m] ∧ BoxAt H b ∧ 0 < m ∧ m < 1000000 ∧ ∀ (r : Int) (H' : Hp), 0 ≤ r → r < m → BoxAt H' b → Kp b H H' → (∀ a, H a = none → H' a = none) → Q (.int r) H'
theorem TDraw.okChoose (T : TDraw K mg) : FnOk P w K mg base CX0 1 T.choose.f T.choose.fd ["_law_box", "_law_many"] spChooseB :=
  (ok_choose T.choose.F T.mI).imp fun vs H Q E h => by
    obtain ⟨b, m, rfl, ⟨x, y, hB, hb⟩, h0, h1, k⟩ := h
    refine ⟨b, x, y, m, rfl, hb, hB, h0, h1, fun r x' y' r0 r1 hB' => k r _ r0 r1 ⟨x', y', hB', upd_same⟩ (Kp.refl b H).box fun a ha => ?_⟩
    rw [upd_ne (fun z => by rw [z, hb] at ha; cases ha)]
    exact ha
def spOneB (K : PySem.W.Frag) : Sp := fun vs H Q _ => ∃ (b a : Addr) (xs : List V), vs = [.ref b, .ref a] ∧ BoxAt H b ∧ SqL K H a xs ∧ a ≠ b ∧ 0 < xs.length ∧ xs.length < 1000000 ∧
  ∀ (v : V) (H' : Hp), v ∈ xs → BoxAt H' b → Kp b H H' → (∀ a, H a = none → H' a = none) → Q v H'
theorem TDraw.okOne (T : TDraw K mg) : FnOk P w K mg base CX0 2 T.one.f T.one.fd ["_law_box", "_law_some"] (spOneB K) :=
  (ok_one T.one.F T.mL T.choose.m T.choose.F T.choose.b T.mI).imp fun vs H Q E h => by
    obtain ⟨b, a, xs, rfl, ⟨x, y, hB, hb⟩, hS, ne, h0, h1, k⟩ := h
    refine ⟨b, a, x, y, xs, rfl, hb, hB, hS, ne, h0, h1, fun i x' y' hi hB' => k _ _ (List.getElem_mem hi) ⟨x', y', hB', upd_same⟩ (Kp.refl b H).box fun a ha => ?_⟩
    rw [upd_ne (fun z => by rw [z, hb] at ha; cases ha)]
    exact ha
end
end Pn

namespace Pn
open PySem L2
abbrev sLeaf : Stmt := top 61
abbrev sAny : Stmt := top 62
/-! ### drawn values: what they are as data -/
/-- the data of a value that is no object -/
def pd : V → Option PyData
  | .non => some .none
  | .bl b => some (.bool b)
  | .int i => some (.int i)
  | .str x => some (.str x)
  | _ => none
theorem pd_dp {K : PySem.W.Frag} {H : Hp} : ∀ {v : V} {d : PyData}, pd v = some d → Dp K H v d
  | .non, _, h => by cases h; exact .non
  | .bl _, _, h => by cases h; exact .bl _
  | .int _, _, h => by cases h; exact .int _
  | .str _, _, h => by cases h; exact .str _
  | .ref _, _, h => by cases h
  | .byt _, _, h => by cases h
  | .flt _, _, h => by cases h
  | .ty _, _, h => by cases h
/-- the values that are no sequences -/
def leafV : List V := [.non, .bl true, .bl false, .int 0, .int 1, .int (-1), .int 5, .int 1000000000000, .str "", .str "a", .str "note", .str "set", .str "part", .str "cat", .str "abcd", .str "abcde", .str "A", .str "a b", .str "a1", .str " a", .str "one", .str "under"]
def leafD : List PyData := leafV.filterMap pd
theorem leaf_pd : ∀ v ∈ leafV, ∃ d, pd v = some d ∧ d ∈ leafD := fun v hv => by
  have h : ∀ u ∈ leafV, (pd u).isSome = true := List.all_eq_true.mp (by decide +kernel)
  obtain ⟨d, e⟩ := Option.isSome_iff_exists.mp (h v hv)
  exact ⟨d, e, List.mem_filterMap.mpr ⟨v, hv, e⟩⟩
/-- data nested at most n deep over these -/
def Dt : Nat → PyData → Prop
  | 0, d => d ∈ leafD
  | n + 1, d => d ∈ leafD ∨ ∃ ds : List PyData, ds.length ≤ 2 ∧ (∀ e ∈ ds, Dt n e) ∧ (d = .list ds ∨ d = .tuple ds)
theorem Dt.leaf {n : Nat} {d : PyData} (h : d ∈ leafD) : Dt n d := by
  cases n with
  | zero => exact h
  | succ n => exact .inl h
theorem Dt.up {d : PyData} : ∀ {n m : Nat}, n ≤ m → Dt n d → Dt m d
  | 0, _, _, h => Dt.leaf h
  | n + 1, 0, l, _ => absurd l (by omega)
  | n + 1, m + 1, l, h => by
    rcases h with h | ⟨ds, h1, h2, h3⟩
    · exact .inl h
    · exact .inr ⟨ds, h1, fun e he => Dt.up (Nat.le_of_succ_le_succ l) (h2 e he), h3⟩
section
variable {P : Program} {w : World} {K : PySem.W.Frag} {mg : Str → Option Value} {base : Heap}
def spLeaf : Sp := fun vs H Q _ => ∃ b : Addr, vs = [.ref b] ∧ BoxAt H b ∧ ∀ (v : V) (d : PyData) (H' : Hp), pd v = some d → d ∈ leafD → BoxAt H' b → Kp b H H' → Q v H'
theorem scLeaf : FnScope ["_law_box", "_law_some"] ["_law_box"] (defScope sLeaf) := ⟨rfl, rfl, rfl, by decide +kernel, rfl, by decide +kernel, by decide +kernel⟩
theorem ok_leaf {f : Addr} {fd : FuncData} (F : Fun K "_law_leaf" "_law_leaf" sLeaf f fd) (T : TDraw K mg) : FnOk P w K mg base CX0 3 f fd ["_law_box"] spLeaf := by
  refine F.ok scLeaf (fun vs H Q E h => ?_) (fun cdv A outer s H vs Q E hr h => ?_)
  · obtain ⟨b, rfl, _⟩ := h
    rfl
  · obtain ⟨b, rfl, ⟨x, y, hB, hb⟩, k⟩ := h
    refine ⟨_, pss_cons (ps_set (i := 1) scLeaf.nd rfl (Or.inl rfl) (pe_lst (pa_cons pe_non (pa_cons pe_bl (pa_cons pe_bl (pa_cons pe_int (pa_cons pe_int (pa_cons (pe_op op_sub pe_int pe_int) (pa_cons pe_int (pa_cons (pe_op op_pow pe_int pe_int)
        (pa_cons pe_str (pa_cons pe_str (pa_cons pe_str (pa_cons pe_str (pa_cons pe_str (pa_cons pe_str (pa_cons pe_str (pa_cons pe_str (pa_cons pe_str pa_nil)))))))))))))))))))
      (pss_one (ps_ret (pe_call T.okOne hr rfl T.one.m T.one.F.kp T.one.b .nil pass0 (pa_cons (pv 0) (pa_cons (pe_op op_cat (pv 1) (pe_lst (pa_cons pe_str (pa_cons pe_str (pa_cons pe_str (pa_cons pe_str (pa_cons pe_str pa_nil))))))) pa_nil))))), ?_⟩
    refine ⟨_, _, rfl, rfl, _, _, rfl, rfl, ⟨by decide, by decide, by decide⟩, (by show 17 ≤ sizeLine; decide), fun l hl => ?_⟩
    refine ⟨_, rfl, _, rfl, (by show 5 ≤ sizeLine; decide), fun m hm => ?_⟩
    refine ⟨l, m, _, _, rfl, rfl, Same.new hm l _ upd_same, upd_same, (by show 22 ≤ sizeLine; decide), fun p hp => ?_⟩
    have hb2 := fun o => Same.new (o := o) hm b _ (Same.new hl b _ hb)
    have hbp : b ≠ p := ne_of_none (hb2 _) hp
    refine ⟨b, p, _, rfl, ⟨x, y, hB, Same.new hp b _ (hb2 _)⟩, SqL.of upd_same, hbp.symm, (by show 0 < 22; decide), (by show 22 < 1000000; decide), fun v H' hv hB' hk _ => ?_⟩
    obtain ⟨d, hd, hd2⟩ := leaf_pd v hv
    exact k v d H' hd hd2 hB' ((((Kp.refl b H).new hl).new hm).new hp |>.trans hk)
/-! ### a drawn value -/
def spAny (K : PySem.W.Frag) (n : Nat) : Sp := fun vs H Q _ => ∃ (b : Addr) (k : Int), vs = [.ref b, .int k] ∧ 0 ≤ k ∧ k ≤ (n : Int) ∧ BoxAt H b ∧
  ∀ (v : V) (d : PyData) (H' : Hp), Kp b H H' → BoxAt H' b → Dp K (dif H H') v d → Dt n d → Q v H'
theorem scAny : FnScope ["_law_box", "_law_deep", "_law_form", "_law_found", "_law_turn"] ["_law_box", "_law_deep"] (defScope sAny) := ⟨rfl, rfl, rfl, by decide +kernel, rfl, by decide +kernel, by decide +kernel⟩
structure TAny (K : PySem.W.Frag) (mg : Str → Option Value) : Type extends TDraw K mg where
  mR : mg "range" = none
  mT : mg "tuple" = none
  leaf : At K mg "_law_leaf" sLeaf ["_law_box"]
  any : At K mg "_law_any" sAny ["_law_box", "_law_deep"]
/-- the list that a comprehension has made so far, over what stood ahead of it -/
def Made (K : PySem.W.Frag) (b D : Addr) (H0 : Hp) (n i : Nat) (H : Hp) : Prop := (∀ a o, H0 a = some o → a ≠ b → a ≠ D → H a = some o) ∧ BoxAt H b ∧
  ∃ (acc : List V) (ds : List PyData), H D = some (.lst acc) ∧ acc.length = i ∧ ds.length = i ∧ DpAll K (dif H0 H) acc ds ∧ ∀ e ∈ ds, Dt n e
theorem made_turn {b D : Addr} {H0 H H1 : Hp} {n i : Nat} {v : V} {d : PyData} {o0 o1 : HO} (hb : H0 b = some o0) (hD : H0 D = some o1) (ne : D ≠ b) (h : Made K b D H0 n i H) (k : Kp b H H1) (hB : BoxAt H1 b) (hv : Dp K (dif H H1) v d) (hd : Dt n d) :
    ∃ acc, H1 D = some (.lst acc) ∧ acc.length = i ∧ Made K b D H0 n (i + 1) (upd H1 D (.lst (acc ++ [v]))) := by
  obtain ⟨h1, hb1, acc, ds, e, l1, l2, hA, hT⟩ := h
  have mo : Mo H0 H := fun a z => by
    cases q : H0 a with
    | none => rfl
    | some u =>
      have n1 : a ≠ b := fun y => by
        obtain ⟨_, _, _, g⟩ := hb1
        rw [y, g] at z
        cases z
      have n2 : a ≠ D := fun y => by rw [y, e] at z; cases z
      rw [h1 a u q n1 n2] at z
      cases z
  have toN : ∀ {a : Addr} {u : HO}, H0 a = none → H1 a = some u → dif H0 (upd H1 D (.lst (acc ++ [v]))) a = some u := fun {a u} e0 e1 => by
    refine dif_new e0 ?_
    rw [upd_ne (fun y => by rw [y, hD] at e0; cases e0)]
    exact e1
  refine ⟨acc, k D _ e ne, l1, ⟨fun a u q n1 n2 => by rw [upd_ne n2]; exact k a u (h1 a u q n1 n2) n1, ?_, acc ++ [v], ds ++ [d], upd_same, by rw [List.length_append, l1]; rfl, by rw [List.length_append, l2]; rfl, ?_, ?_⟩⟩
  · obtain ⟨x, y, hB, g⟩ := hB
    exact ⟨x, y, hB, by rw [upd_ne ne.symm]; exact g⟩
  · refine dpAll_append (dpAll_same (fun a u q => ?_) _ _ hA) (.cons (dp_same (fun a u q => ?_) _ _ hv) .nil)
    · obtain ⟨e0, e1⟩ := dif_eq.mp q
      exact toN e0 (k a u e1 (fun y => by rw [y, hb] at e0; cases e0))
    · obtain ⟨e0, e1⟩ := dif_eq.mp q
      exact toN (mo a e0) e1
  · intro e' he
    rcases List.mem_append.mp he with q | q
    · exact hT e' q
    · rw [List.mem_singleton.mp q]
      exact hd
theorem ok_any (T : TAny K mg) : ∀ n : Nat, FnOk P w K mg base CX0 (n + 4) T.any.f T.any.fd ["_law_box", "_law_deep"] (spAny K n) := by
  intro n
  induction n with
  | zero =>
    refine T.any.F.ok scAny (fun vs H Q E h => ?_) (fun cdv A outer s H vs Q E hr h => ?_)
    · obtain ⟨b, k, rfl, _⟩ := h
      rfl
    · obtain ⟨b, k, rfl, k0, k1, hB, q⟩ := h
      obtain rfl : k = 0 := by omega
      refine ⟨_, pss_cons (ps_set (i := 2) scAny.nd rfl (Or.inl rfl) (pe_ifExp (pt_cmpR op_gt (pv 1) pe_int (nomark _)) (pe_call T.okChoose (hr.mono (by omega)) rfl T.choose.m T.choose.F.kp T.choose.b .nil pass0 (pa_cons (pv 0) (pa_cons pe_int pa_nil))) pe_int))
        (pss_cons (ps_if (pt_cmpR op_gt (pv 2) pe_int (nomark _)) (pss_one (ps_ret (pe_call (ok_leaf T.leaf.F T.toTDraw) (hr.mono (by omega)) rfl T.leaf.m T.leaf.F.kp T.leaf.b .nil pass0 (pa_cons (pv 0) pa_nil)))) pss_nil)
        pss_never), ?_⟩
      refine ⟨_, rfl, _, _, rfl, rfl, _, rfl, ?_⟩
      refine iteF ?_
      refine ⟨_, rfl, _, _, rfl, rfl, _, rfl, ?_⟩
      refine iteT ?_
      refine ⟨_, rfl, b, rfl, hB, fun v d H' hp hd hB' hk => ?_⟩
      exact q v d H' hk hB' (pd_dp hp) (Dt.leaf hd)
  | succ n ih =>
    refine T.any.F.ok scAny (fun vs H Q E h => ?_) (fun cdv A outer s H vs Q E hr h => ?_)
    · obtain ⟨b, k, rfl, _⟩ := h
      rfl
    · obtain ⟨b, k, rfl, k0, k1, hB, q⟩ := h
      refine ⟨_, pss_cons (ps_set (i := 2) scAny.nd rfl (Or.inl rfl) (pe_ifExp (pt_cmpR op_gt (pv 1) pe_int (nomark _)) (pe_call T.okChoose (hr.mono (by omega)) rfl T.choose.m T.choose.F.kp T.choose.b .nil pass0 (pa_cons (pv 0) (pa_cons pe_int pa_nil))) pe_int))
        (pss_cons (ps_if (pt_cmpR op_gt (pv 2) pe_int (nomark _)) (pss_one (ps_ret (pe_call (ok_leaf T.leaf.F T.toTDraw) (hr.mono (by omega)) rfl T.leaf.m T.leaf.F.kp T.leaf.b .nil pass0 (pa_cons (pv 0) pa_nil)))) pss_nil)
        (pss_cons (ps_setLc (i := 3) (own := [("_law_turn", 4)]) (g := gName 4) (tt := tYes) (by rfl) scAny.nd rfl rfl (sw_true rfl rfl rfl (by decide +kernel)) (pi_range1 rfl T.mR (pa_cons (pe_call T.okChoose (hr.mono (by omega)) rfl T.choose.m T.choose.F.kp T.choose.b .nil pass0 (pa_cons (pv 0) (pa_cons pe_int pa_nil))) pa_nil))
            (blkOk_by (N := ["_law_box", "_law_deep", "_law_form", "_law_found", "_law_turn"]) (sc := defScope sAny) (by decide +kernel)) (fun _ _ _ _ _ => pg_name (i := 4) scAny.nd rfl (Or.inl rfl)) (fun _ _ _ _ _ => pts_nil)
            (fun _ _ _ _ _ => pe_call ih hr rfl T.any.m T.any.F.kp T.any.b .nil pass0 (pa_cons (pv 0) (pa_cons (pe_op op_sub (pv 1) pe_int) pa_nil))))
        (pss_one (ps_ret (pe_ifExp (pt_cmpR op_eq (pv 2) pe_int (nomark _)) (pe_tupleOf rfl T.mT (pv 3)) (pv 3)))))), ?_⟩
      refine ⟨_, rfl, _, _, rfl, rfl, _, rfl, ?_⟩
      refine ite2 (fun hc => ?_) (fun hc => ?_)
      · refine ⟨_, rfl, b, 6, rfl, hB, by decide, by decide, fun r H1 r0 r1 hB1 hk1 _ => ?_⟩
        refine ⟨_, rfl, _, _, rfl, rfl, _, rfl, ?_⟩
        refine ite2 (fun hc2 => ?_) (fun hc2 => ?_)
        · refine ⟨_, rfl, b, rfl, hB1, fun v d H' hp hd hB' hk => ?_⟩
          exact q v d H' (hk1.trans hk) hB' (pd_dp hp) (Dt.leaf hd)
        · refine ⟨_, rfl, b, 3, rfl, hB1, by decide, by decide, fun m H2 m0 m1 hB2 hk2 _ => ?_⟩
          have mo1 : Mo H H1 := by
            obtain ⟨_, _, _, g⟩ := hB1
            exact hk1.mo g
          have mo2 : Mo H H2 := by
            obtain ⟨_, _, _, g⟩ := hB2
            exact (hk1.trans hk2).mo g
          obtain ⟨x2, y2, hx2, g2⟩ := id hB2
          refine ⟨_, rfl, by omega, by omega, fun D hD => lc_range (lo := 0) (n := m.toNat) (fun i Hi => Made K b D (upd H2 D (.lst [])) n i Hi) ?_ (fun i Hi hi hM => ?_) (fun Hi hM => ?_)⟩
          · exact ⟨fun a o e _ _ => e, ⟨x2, y2, hx2, Same.new hD b _ g2⟩, [], [], upd_same, rfl, rfl, .nil, fun _ z => absurd z List.not_mem_nil⟩
          · have hDb : D ≠ b := (ne_of_none g2 hD).symm
            refine ⟨rfl, _, rfl, _, rfl, _, _, rfl, rfl, b, k - 1, rfl, by have := of_decide_eq_true hc; omega, by omega, hM.2.1, fun v d H' hk hB' hv hd => ?_⟩
            obtain ⟨acc, e1, e2, e3⟩ := made_turn (Same.new hD b _ g2) upd_same hDb hM hk hB' hv hd
            exact ⟨acc, e1, small1000 (by omega), e3⟩
          · have hDb : D ≠ b := (ne_of_none g2 hD).symm
            obtain ⟨hk3, hB3, acc, ds, e, l1, l2, hA, hT⟩ := hM
            have kp3 : Kp b H Hi := fun a o z nb => hk3 a o (Same.new hD a _ ((hk1.trans hk2) a o z nb)) nb (fun y => by
              have z2 := (hk1.trans hk2) a o z nb
              rw [y, hD] at z2
              cases z2)
            have hA2 : DpAll K (dif H Hi) acc ds := dpAll_same (dif_mo (mo2.trans Mo.upd)) _ _ hA
            have hDH : H D = none := mo2 D hD
            refine ⟨_, rfl, rfl, _, rfl, ?_⟩
            refine ite2 (fun hz => ?_) (fun hz => ?_)
            · refine ⟨_, rfl, .inl ⟨D, acc, rfl, SqL.of e, fun t ht => ?_⟩⟩
              have hto : H t = none := by
                obtain ⟨_, _, _, g⟩ := hB3
                exact kp3.mo g t ht
              have hA3 : DpAll K (dif H (upd Hi t (.tup acc))) acc ds := dpAll_same (fun a u z => dif_new (dif_eq.mp z).1 (Same.new ht a u (dif_eq.mp z).2)) _ _ hA2
              refine q _ (.tuple ds) _ (kp3.new ht) ?_ (.tup (SqT.of (dif_new hto upd_same)) hA3) (.inr ⟨ds, by omega, hT, .inr rfl⟩)
              obtain ⟨x3, y3, h3, g3⟩ := hB3
              exact ⟨x3, y3, h3, Same.new ht b _ g3⟩
            · refine ⟨_, rfl, ?_⟩
              exact q _ (.list ds) _ kp3 hB3 (.lst (SqL.of (dif_new hDH e)) hA2) (.inr ⟨ds, by omega, hT, .inl rfl⟩)
      · refine ⟨_, rfl, _, _, rfl, rfl, _, rfl, ?_⟩
        refine iteT ?_
        refine ⟨_, rfl, b, rfl, hB, fun v d H' hp hd hB' hk => ?_⟩
        exact q v d H' hk hB' (pd_dp hp) (Dt.leaf hd)
end
end Pn

namespace Pn
open PySem L2
abbrev sIsInteger : Stmt := top 4
abbrev sIsNumber : Stmt := top 5
abbrev sIsName : Stmt := top 6
/-! ### what these checks tell of data -/
def rowV : List V := [.str "note", .str "skip", .str "set", .str "keep", .str "back", .str "ref", .str "put", .str "open", .str "part"]
/-- a letter of a name -/
def lok (c : Nat) : Bool := decide (97 ≤ c) && decide (c ≤ 122)
def nameS (z : Str) : Bool := !inV (.str z) rowV && (decide (1 ≤ (z.length : Int)) && decide ((z.length : Int) ≤ 4)) && z.cps.toList.all lok
def nameD : PyData → Bool
  | .str z => nameS z
  | _ => false
def intD : PyData → Bool
  | .int _ => true
  | _ => false
def numD : PyData → Bool
  | .int i => decide (0 ≤ i)
  | _ => false
/-- the type of data -/
def tyD : PyData → String
  | .none => "NoneType"
  | .bool _ => "bool"
  | .int _ => "int"
  | .str _ => "str"
  | .list _ => "list"
  | .tuple _ => "tuple"
  | .dict _ => "dict"
theorem dp_ty {K : PySem.W.Frag} {H : Hp} {v : V} {d : PyData} (h : Dp K H v d) : TyX K H v (.type (tyD d)) := by
  cases h with
  | non => exact .base .non
  | bl b => exact .base (.bl b)
  | int i => exact .base (.int i)
  | str x => exact .base (.str x)
  | lst s _ =>
    rcases s with (s | ⟨o, s⟩) | ⟨o, _, _, e, c, _⟩
    · exact .base (.lst s)
    · exact .base (.frz s)
    · exact .kList e c
  | tup s _ =>
    rcases s with (s | ⟨o, s⟩) | ⟨o, _, _, e, c, _⟩
    · exact .base (.tup s)
    · exact .fTuple s
    · exact .kTuple e c
def strT : PyData → Bool
  | .str _ => true
  | _ => false
def intT : PyData → Bool
  | .bool _ => true
  | .int _ => true
  | _ => false
def boolT : PyData → Bool
  | .bool _ => true
  | _ => false
theorem kit_str : ∀ d : PyData, kitB (tyD d) "str" = some (strT d)
  | .none => (by decide +kernel : kitB "NoneType" "str" = some false)
  | .bool _ => (by decide +kernel : kitB "bool" "str" = some false)
  | .int _ => (by decide +kernel : kitB "int" "str" = some false)
  | .str _ => (by decide +kernel : kitB "str" "str" = some true)
  | .list _ => (by decide +kernel : kitB "list" "str" = some false)
  | .tuple _ => (by decide +kernel : kitB "tuple" "str" = some false)
  | .dict _ => (by decide +kernel : kitB "dict" "str" = some false)
theorem kit_int : ∀ d : PyData, kitB (tyD d) "int" = some (intT d)
  | .none => (by decide +kernel : kitB "NoneType" "int" = some false)
  | .bool _ => (by decide +kernel : kitB "bool" "int" = some true)
  | .int _ => (by decide +kernel : kitB "int" "int" = some true)
  | .str _ => (by decide +kernel : kitB "str" "int" = some false)
  | .list _ => (by decide +kernel : kitB "list" "int" = some false)
  | .tuple _ => (by decide +kernel : kitB "tuple" "int" = some false)
  | .dict _ => (by decide +kernel : kitB "dict" "int" = some false)
theorem kit_bool : ∀ d : PyData, kitB (tyD d) "bool" = some (boolT d)
  | .none => (by decide +kernel : kitB "NoneType" "bool" = some false)
  | .bool _ => (by decide +kernel : kitB "bool" "bool" = some true)
  | .int _ => (by decide +kernel : kitB "int" "bool" = some false)
  | .str _ => (by decide +kernel : kitB "str" "bool" = some false)
  | .list _ => (by decide +kernel : kitB "list" "bool" = some false)
  | .tuple _ => (by decide +kernel : kitB "tuple" "bool" = some false)
  | .dict _ => (by decide +kernel : kitB "dict" "bool" = some false)
/-! ### a comprehension whose items are told by their places -/
theorem lc_step {H1 : Hp} {D : Addr} {f : Nat → V} {i : Nat} (hi : i < 1000) : ∃ acc, (upd H1 D (.lst ((List.range i).map f))) D = some (.lst acc) ∧ acc.length < sizeLine ∧
    upd (upd H1 D (.lst ((List.range i).map f))) D (.lst (acc ++ [f i])) = upd H1 D (.lst ((List.range (i + 1)).map f)) := by
  refine ⟨_, upd_same, by rw [List.length_map, List.length_range]; exact small1000 (by omega), ?_⟩
  rw [List.range_succ, List.map_append]
  funext b
  by_cases e : b = D
  · rw [e, upd_same, upd_same]
    rfl
  · rw [upd_ne e, upd_ne e, upd_ne e]
theorem range_getD {f : Nat → Bool} : ∀ l : List Nat, (((List.range l.length).map fun i => f (l.getD i 0)).all id) = l.all f := by
  intro l
  have e : (List.range l.length).map (fun i => f (l.getD i 0)) = l.map f := by
    apply List.ext_getElem
    · simp
    · intro i h1 h2
      have h3 : i < l.length := by simpa using h2
      simp [List.getD_eq_getElem?_getD, List.getElem?_eq_getElem h3]
  rw [e]
  simp
theorem lt_one {a b : Nat} : decide ([a] < [b]) = decide (a < b) := by
  by_cases h : a < b
  · rw [decide_eq_true h, decide_eq_true]
    exact List.Lex.rel h
  · rw [decide_eq_false h, decide_eq_false]
    intro z
    cases z with
    | rel r => exact h r
    | cons r => cases r
theorem lok_eq (c : Nat) : (if (!decide ([c] < [97])) = true then (!decide ([122] < [c])) else false) = lok c := by
  rw [lt_one, lt_one]
  unfold lok
  by_cases h1 : c < 97
  · rw [decide_eq_true h1, decide_eq_false (show ¬ 97 ≤ c by omega)]
    rfl
  · rw [decide_eq_false h1, decide_eq_true (show 97 ≤ c by omega)]
    by_cases h2 : 122 < c
    · rw [decide_eq_true h2, decide_eq_false (show ¬ c ≤ 122 by omega)]
      rfl
    · rw [decide_eq_false h2, decide_eq_true (show c ≤ 122 by omega)]
      rfl
section
variable {P : Program} {w : World} {K : PySem.W.Frag} {mg : Str → Option Value} {base : Heap}
structure TChk (K : PySem.W.Frag) (mg : Str → Option Value) : Type where
  mInt : mg "int" = none
  mBool : mg "bool" = none
  mStr : mg "str" = none
  mIsi : mg "isinstance" = none
  mLen : mg "len" = none
  mAll : mg "all" = none
  words : Addr
  mWords : mg "ROW_WORDS" = some (.ref words)
  hWords : ∀ H, SqT K H words rowV
  tok : Tok
  mLong : mg "LONGEST_NAME" = some (.int 4 tok)
  isInteger : At K mg "is_integer" sIsInteger ["value"]
  isNumber : At K mg "is_number" sIsNumber ["value"]
  isName : At K mg "is_name" sIsName ["value"]
def spIsInteger (K : PySem.W.Frag) : Sp := fun vs H Q _ => ∃ (v : V) (d : PyData), vs = [v] ∧ Dp K H v d ∧ Q (.bl (intD d)) H
theorem scIsInteger : FnScope ["value"] ["value"] (defScope sIsInteger) := ⟨rfl, rfl, rfl, by decide +kernel, rfl, by decide +kernel, by decide +kernel⟩
theorem TChk.okInteger (T : TChk K mg) : FnOk P w K mg base CX0 1 T.isInteger.f T.isInteger.fd ["value"] (spIsInteger K) := by
  refine T.isInteger.F.ok scIsInteger (fun vs H Q E h => ?_) (fun cdv A outer s H vs Q E hr h => ?_)
  · obtain ⟨v, d, rfl, _⟩ := h
    rfl
  · obtain ⟨v, d, rfl, hd, q⟩ := h
    refine ⟨_, pss_one (ps_ret (pe_and (pe_callB call_isi (by rfl) T.mIsi (by decide +kernel) (pa_cons (pv 0) (pa_cons (pe_bltn (v := .ty "int") (by rfl) T.mInt (by decide +kernel) rfl) pa_nil)))
      (pe_one (pe_not (pe_callB call_isi (by rfl) T.mIsi (by decide +kernel) (pa_cons (pv 0) (pa_cons (pe_bltn (v := .ty "bool") (by rfl) T.mBool (by decide +kernel) rfl) pa_nil))))))), ?_⟩
    refine ⟨_, rfl, v, _, _, _, _, rfl, .ty _, dp_ty hd, kit_ty (kit_int d), _, rfl, ?_⟩
    cases d with
    | none => exact q
    | str z => exact q
    | list ds => exact q
    | tuple ds => exact q
    | dict ds => exact q
    | int i => exact ⟨_, rfl, v, _, _, _, _, rfl, .ty _, dp_ty hd, kit_ty (kit_bool _), _, rfl, q⟩
    | bool i => exact ⟨_, rfl, v, _, _, _, _, rfl, .ty _, dp_ty hd, kit_ty (kit_bool _), _, rfl, q⟩
def spIsNumber (K : PySem.W.Frag) : Sp := fun vs H Q _ => ∃ (v : V) (d : PyData), vs = [v] ∧ Dp K H v d ∧ Q (.bl (numD d)) H
theorem scIsNumber : FnScope ["value"] ["value"] (defScope sIsNumber) := ⟨rfl, rfl, rfl, by decide +kernel, rfl, by decide +kernel, by decide +kernel⟩
theorem TChk.okNumber (T : TChk K mg) : FnOk P w K mg base CX0 2 T.isNumber.f T.isNumber.fd ["value"] (spIsNumber K) := by
  refine T.isNumber.F.ok scIsNumber (fun vs H Q E h => ?_) (fun cdv A outer s H vs Q E hr h => ?_)
  · obtain ⟨v, d, rfl, _⟩ := h
    rfl
  · obtain ⟨v, d, rfl, hd, q⟩ := h
    refine ⟨_, pss_one (ps_ret (pe_and (pe_call T.okInteger hr rfl T.isInteger.m T.isInteger.F.kp T.isInteger.b .nil pass0 (pa_cons (pv 0) pa_nil)) (pe_one (pe_cmpR op_ge (pv 0) pe_int (nomark _))))), ?_⟩
    refine ⟨_, rfl, v, d, rfl, hd, _, rfl, ?_⟩
    cases d with
    | none => exact q
    | str z => exact q
    | list ds => exact q
    | tuple ds => exact q
    | dict ds => exact q
    | bool i => exact q
    | int i =>
      cases hd
      exact ⟨_, rfl, _, _, rfl, rfl, q⟩
def dlen : PyData → Prop
  | .str z => z.length ≤ 900
  | _ => True
def spIsName (K : PySem.W.Frag) : Sp := fun vs H Q _ => ∃ (v : V) (d : PyData), vs = [v] ∧ Dp K H v d ∧ dlen d ∧ ∀ H', Same H H' → Mo H H' → Q (.bl (nameD d)) H'
theorem scIsName : FnScope ["value", "letter"] ["value"] (defScope sIsName) := ⟨rfl, rfl, rfl, by decide +kernel, rfl, by decide +kernel, by decide +kernel⟩
theorem TChk.okName (T : TChk K mg) : FnOk P w K mg base CX0 1 T.isName.f T.isName.fd ["value"] (spIsName K) := by
  refine T.isName.F.ok scIsName (fun vs H Q E h => ?_) (fun cdv A outer s H vs Q E hr h => ?_)
  · obtain ⟨v, d, rfl, _⟩ := h
    rfl
  · obtain ⟨v, d, rfl, hd, hl, q⟩ := h
    refine ⟨_, pss_cons (ps_if (PW.pt (pw_or (pt_not (pt_val (pe_callB call_isi (by rfl) T.mIsi (by decide +kernel) (pa_cons (pv 0) (pa_cons (pe_bltn (v := .ty "str") (by rfl) T.mStr (by decide +kernel) rfl) pa_nil)))))
        (pw_or1 (pt_cmpR op_in_seq (pv 0) (pe_glob (v := .ref T.words) (by rfl) T.mWords rfl) rfl)))) (pss_one (ps_ret pe_bl)) pss_nil)
      (pss_one (ps_ret (pe_and (pe_chain op_le op_le pe_int (pe_callB call_len_str (by rfl) T.mLen PySem.boot_len (pa_cons (pv 0) pa_nil)) (pe_glob (v := .int 4) (by rfl) T.mLong ⟨_, rfl⟩))
        (pe_one (pe_callB (cr_all rfl) (by rfl) T.mAll (by decide +kernel) (pa_cons (pe_lc (own := [("letter", 1)]) (g := gName 1) (tt := tYes) (by rfl) scIsName.nd (pi_str (pv 0))
          (blkOk_by (N := ["value", "letter"]) (sc := defScope sIsName) (by decide +kernel)) (fun _ _ _ _ _ => pg_name (i := 1) scIsName.nd rfl (Or.inl rfl)) (fun _ _ _ _ _ => pts_nil)
          (fun _ _ _ _ _ => pe_chain op_le_str op_le_str pe_str (pv 1) pe_str)) pa_nil)))))), ?_⟩
    refine ⟨_, rfl, v, _, _, _, _, rfl, .ty _, dp_ty hd, kit_ty (kit_str d), _, rfl, ?_⟩
    cases d with
    | str z =>
      cases hd
      refine ⟨_, rfl, T.words, rowV, rfl, .inr (T.hWords H), rfl, rfl, _, rfl, ?_⟩
      have hl' : z.length ≤ 900 := hl
      cases e : inV (.str z) rowV with
      | true =>
        have e2 : nameD (.str z) = false := by show nameS z = false; unfold nameS; rw [e]; rfl
        rw [e2] at q
        refine iteT ?_
        exact q H (Same.refl H) (Mo.refl H)
      | false =>
        refine iteF ?_
        refine ⟨_, rfl, z, rfl, Nat.le_trans hl' (by decide), _, _, rfl, rfl, _, rfl, ?_⟩
        have e2 : nameD (.str z) = ((decide (1 ≤ (z.length : Int)) && decide ((z.length : Int) ≤ 4)) && z.cps.toList.all lok) := by show nameS z = _; unfold nameS; rw [e]; rfl
        rw [e2] at q
        cases h1 : decide (1 ≤ (z.length : Int)) with
        | false =>
          rw [h1] at q
          refine iteF ?_
          exact ⟨false, rfl, iteF (q H (Same.refl H) (Mo.refl H))⟩
        | true =>
          rw [h1] at q
          refine iteT ?_
          refine ⟨_, _, rfl, rfl, _, rfl, ?_⟩
          cases h2 : decide ((z.length : Int) ≤ 4) with
          | false =>
            rw [h2] at q
            exact iteF (q H (Same.refl H) (Mo.refl H))
          | true =>
            rw [h2] at q
            refine iteT ?_
            refine ⟨_, rfl, z, rfl, fun D hD => lc_it walk_str (fun i Hi => Hi = upd H D (.lst ((List.range i).map fun j => .bl (lok (z.cps.toList.getD j 0))))) rfl (fun _ _ _ _ => trivial) (fun i x Hi Hj hi hP hY => ?_) (fun Hi hP => ?_)⟩
            · obtain ⟨rfl, c, hc, rfl⟩ := hY
              subst hP
              have hi2 : i < 1000 := by
                have : z.cps.size = z.length := rfl
                omega
              have hg : z.cps.toList.getD i 0 = c := by
                rw [List.getD_eq_getElem?_getD, Array.getElem?_toList, hc]
                rfl
              have fin := lc_step (H1 := H) (D := D) (f := fun j => .bl (lok (z.cps.toList.getD j 0))) (i := i) hi2
              rw [hg, ← lok_eq] at fin
              refine ⟨rfl, _, rfl, _, _, rfl, rfl, _, rfl, ?_⟩
              cases h3 : (!decide ([c] < [97])) with
              | false =>
                have h4 : (!decide (({ cps := #[c] } : Str).cps.toList < (Str.ofString "a").cps.toList)) = false := h3
                rw [h3] at fin
                rw [h4]
                exact fin
              | true =>
                have h4 : (!decide (({ cps := #[c] } : Str).cps.toList < (Str.ofString "a").cps.toList)) = true := h3
                rw [h3] at fin
                rw [h4]
                exact ⟨_, _, rfl, rfl, fin⟩
            · subst hP
              refine ⟨D, (List.range z.cps.size).map fun j => lok (z.cps.toList.getD j 0), rfl, ?_, ?_⟩
              · refine SqL.of ?_
                rw [upd_same, List.map_map]
                rfl
              · have e3 := range_getD (f := lok) z.cps.toList
                rw [Array.length_toList] at e3
                rw [e3]
                exact q _ (Same.new hD) Mo.upd
    | none => exact q H (Same.refl H) (Mo.refl H)
    | list ds => exact q H (Same.refl H) (Mo.refl H)
    | tuple ds => exact q H (Same.refl H) (Mo.refl H)
    | dict ds => exact q H (Same.refl H) (Mo.refl H)
    | int i => exact q H (Same.refl H) (Mo.refl H)
    | bool i => exact q H (Same.refl H) (Mo.refl H)
end
end Pn

namespace Pn
open PySem L2
theorem iteTD {c : Bool} {A B : Prop} (hc : c = true) (h : A) : if c = true then A else B := by
  rw [if_pos hc]
  exact h
theorem iteFD {c : Bool} {A B : Prop} (hc : c = false) (h : B) : if c = true then A else B := by
  rw [hc, if_neg Bool.false_ne_true]
  exact h
/-! ### own exceptions that keep one thing -/
theorem same_made {H1 : Hp} {a d : Addr} {y : V} {f : Str} {o1 o2 o3 : HO} (ha : H1 a = none) (hd : H1 d = none) : Same H1 (upd (del (upd (upd (upd H1 a o1) d o2) a o3) a) d (.xd [(f, y)])) := fun b o e => by
  have n1 : b ≠ a := ne_of_none e ha
  have n2 : b ≠ d := ne_of_none e hd
  rw [upd_ne n2, del_ne n1, upd_ne n1, upd_ne n2, upd_ne n1]
  exact e
/-- an own exception class of the text whose __init__ keeps one thing under the name fld -/
structure TExc (K : PySem.W.Frag) (mg : Str → Option Value) (x : Str) (qual fld : Str) (st : Stmt) : Type where
  C : Addr
  fI : Addr
  fd : FuncData
  F : Fun K "__init__" qual st fI fd
  b : Binds K fd ["self", fld] []
  m : mg x = some (.ref C)
  O : OexC K C
  iC : PySem.W.findIn K (.ref C) "__init__" = some (some (.ref fI))
  tI : PySem.W.typeIn K (.ref fI) = some (.type "function")
  noF : PySem.W.findIn K (.ref C) fld = some none
  E : ExcC K C
  isC : PySem.W.isClsIn K C = true
  te : PySem.W.exmOne K (.ref C) (.ref C) = some true
  xf : XfC K C
def spXInit (K : PySem.W.Frag) (fld : Str) : Sp := fun vs H Q _ => ∃ (a C : Addr) (v : V), vs = [.ref a, v] ∧ H a = some (exo a C none) ∧ OexC K C ∧ PySem.W.findIn K (.ref C) fld = some none ∧
  ∀ dx, H dx = none → dx ≠ a → Q .non (upd (upd H dx (exd dx [(fld, v)])) a (exo a C (some dx)))
/-- isinstance of the exception that a suite holds -/
def rIsX (K : PySem.W.Frag) (D a : Addr) (cls : Value) (d : Option Addr) : List V → Hp → VK → Prop := fun xs H Q => ∃ (c : V) (cv : Value) (b : Bool) (dd : Addr) (fs : List (Str × V)), xs = [.ref a, c] ∧ cls = .ref D ∧ ClsV c cv ∧ PySem.W.kitOne K (.ref D) cv = some b ∧ d = some dd ∧ H dd = some (.xd fs) ∧ Q (.bl b) H
theorem call_isX {X : Cx} {a D : Addr} {cls : Value} {d : Option Addr} {oe : Obj} {pn : List (Addr × Obj)} (C : ExcC X.K D) (hz : Zc cls d oe) (hf : ∃ vs, oe.data = .fields vs) : CallR (X.suite a ((a, oe) :: pn)) (.builtin "isinstance") (rIsX X.K D a cls d) := by
  intro pins s σ H xs us Q I r h
  obtain ⟨c, cv, b, dd, fs, rfl, rfl, hcv, e, rfl, hdd, q⟩ := h
  obtain ⟨u1, u2, rfl, r1, r2⟩ := vals2 r
  obtain rfl : u1 = Value.ref a := r1
  obtain rfl : u2 = cv := hcv.eq r2
  obtain ⟨hget, _⟩ := I.pin (a, oe) (List.mem_append.mpr (.inl List.mem_cons_self))
  obtain ⟨mA, hns, _⟩ : ObjOk X.prog X.w H s.heap dd (.xd fs) := I.hok dd _ hdd
  obtain ⟨od, ho, _⟩ := lookIn_ns hns
  obtain ⟨vs, hv⟩ := hf
  have J : PySem.W.InstAt s.heap a oe D (some od) := ⟨hget, hz.1, by unfold PySem.W.notCls; rw [hv] <;> rfl, by rw [hz.2]; exact ho⟩
  have hcl : (PySem.W.clsIn X.K D).isSome = true := by
    have q := C.hd
    unfold PySem.W.hasDictIn at q
    cases z : PySem.W.clsIn X.K D with
    | some cd => rfl
    | none => rw [z] at q; cases q
  exact PySem.W.kia_one (PySem.W.kitx_exc hcl C.hg C.hk C.hs C.ha C.hn C.ht C.hm) I.kIn J e (fun z => nomatch z) fun tk => ⟨.bl b, H, I.tok tk, rfl, q⟩
end Pn

namespace Pn
open PySem PySem.Spec PyProof.Rows L2
/-! ### the same exceptions, with what is known of their context -/
section
variable {X : Cx} {CX : CXT} {C fI : Addr} {k : Nat} {fd : FuncData} {ps : List Str} {sp : Sp} {ta : TA}
theorem pmk_oexN {x : Str} {e : Expr} {es : List Expr} {p pos : Pos} (T : OexC X.K C) (iC : PySem.W.findIn X.K (.ref C) "__init__" = some (some (.ref fI))) (tI : PySem.W.typeIn X.K (.ref fI) = some (.type "function"))
    (F1 : FnOk X.prog X.w X.K X.mg X.base CX k fI fd ps sp) (room : Room (k + 1) X.A) (bnd : Binds X.K fd ps []) (noE : Passes CX X (fun _ _ _ => False))
    (gl : Gl X x) (at_ : X.mg x = some (.ref C)) (ha : PA X (e :: es) ta) (hdb : (x == ("__debug__" : Str)) = false := by decide)
    (he : starEach (e :: es) X.env = (false, eval e X.env) :: starEach es X.env := by rfl) (hpl : (backTo pos (starEach es X.env)).any (·.1) = false := by rfl) :
    L2N.PMk X (.Call (.Name x p) (e :: es) [] pos) (tMkO C sp [] ta) := by
  intro pins s σ H Q I want
  rcases T.cls with ⟨c1, c2, c3, c4, mro, c5, c6, c7, c8, c9, d0, d1, d2, d3, d5, look, vet⟩
  apply wpAny_Call_Name_kw
  refine ld_glob I gl at_ ?_ hdb
  refine PySem.W.callWith_K (h₀ := X.base) I.ok.mod.kin T.kC ?_ he hpl
  refine thn (ha.run pos pins s σ H _ I want) ?_
  rintro us ⟨hp, gs, dr, tk, os⟩ ⟨vs, H1, J, rel, few, made⟩
  refine ⟨J.kIn, ?_⟩
  let a := hp.objs.size + 1
  let hp2 := (hp.push (PySem.W.kdv_tup us)).push (PySem.HandSPX.excO C hp.objs.size)
  have old : ∀ b o, hp.get? b = some o → hp2.get? b = some o := fun b o z => Heap.get?_push_of_some _ (Heap.get?_push_of_some _ z)
  have fresh : H1 a = none := J.hok.fresh (Nat.le_succ _)
  have there : hp2.get? a = some (PySem.HandSPX.excO C hp.objs.size) := by
    show ((hp.push (PySem.W.kdv_tup us)).push (PySem.HandSPX.excO C hp.objs.size)).get? (hp.objs.size + 1) = _
    heap_get
  have J2 : Inv X pins σ (upd H1 a (exo a C none)) ⟨hp2, gs, dr, tk, os⟩ := J.laid (t' := tk) (a := a) (o := exo a C none) (h' := hp2) old (Nat.le_succ _) (exo_ok there)
  have go := made a fresh
  rw [List.append_nil] at go
  have rel2 : Vals (V.ref a :: vs) (Value.ref a :: us) := .cons (show RelV (.ref a) (Value.ref a) from rfl) rel
  have cnt : (Value.ref a :: us ++ []).length = ps.length := by
    rw [List.append_nil, ← rel2.length]
    exact F1.len _ _ _ _ go
  have bd := bnd ⟨hp2, gs, dr, tk, os⟩ (Value.ref a :: us) J2.kIn cnt
  rw [List.append_nil] at bd
  have lim : us.length ≤ sizeLine := by
    rw [← Paired.length rel, sizeLine_eq]
    omega
  show wpAny _ _ (call (.ref C) us) _ _ _
  refine wpAny_call (PySem.HandSPX.call_own F.excBase_ValueError (fun Y => PySem.HandSPX.refsVE_contains Y mro vet) (J.kIn _ _ look) (PySem.W.looks_findIn J.kIn iC)
    (fun self => PySem.W.bind_fn J.kIn self tI) lim ?_)
  have ran := F1.run _ X.stack _ _ ⟨Value.ref a :: us, []⟩ (Value.ref a :: us) _ _ (fun _ _ _ => False) (room.make C us []) (J2.env0.make C us []) bd rel2 go
  refine codeAny_mono ran ?_
  intro r s' out
  match r, out with
  | .error er, out => exact noE pins σ _ _ er s' J2 out
  | .ok .next, out => exact False.elim out
  | .ok .brk, out => exact False.elim out
  | .ok .cont, out => exact False.elim out
  | .ok (.ret u), out =>
    obtain ⟨v, H2, osame, bare, un, ok2, rv, rfl, d, fs, ea, ed, dn, fin⟩ := out
    obtain ⟨h2, g2, dr2, t2, os2⟩ := s'
    obtain ⟨t0, G, J3, sub, gone, obj, untr⟩ := mk_end0 (d2 := dr2) (t2 := t2) J (Nat.le_succ _) old un ok2 osame bare ea ed dn
    exact ⟨rv, a, _, _, ⟨G, g2, dr2, t2, os2⟩, _, .ref C, some d, rfl, J3, sub, gone, obj, ⟨rfl, rfl, fun ws z => by cases z; rfl⟩, rfl, rfl, untr, rfl, bare, raises_own T.exC T.tyC, fin⟩
end
section
variable {P : Program} {w : World} {K : PySem.W.Frag} {mg : Str → Option Value} {base : Heap}
theorem funD {x qual : Str} {st : Stmt} {f : Addr} {fd : FuncData} (F : Fun K x qual st f fd) : FunD K x qual (defArgs st) (defBody st) (defScope st) [] [] f fd := by
  obtain ⟨oc, od, kV, doc, pm, an, cdv, ct, osl, e, l, c⟩ := F.ex
  exact ⟨⟨oc, od, _, kV, doc, pm, an, cdv, ct, osl, e, l, c, .inl ⟨rfl, rfl⟩, .inl rfl⟩, F.kp⟩
end
end Pn

namespace Pn
open PySem L2
abbrev sNeedName : Stmt := top 19
abbrev sIRInit : Stmt := inClass (top 11) 0
section
variable {P : Program} {w : World} {K : PySem.W.Frag} {mg : Str → Option Value} {base : Heap}
theorem scIRInit : FnScope ["self", "word"] ["self", "word"] (defScope sIRInit) := ⟨rfl, rfl, rfl, by decide +kernel, rfl, by decide +kernel, by decide +kernel⟩
abbrev TIR (K : PySem.W.Frag) (mg : Str → Option Value) := TExc K mg "InvalidRow" "InvalidRow.__init__" "word" sIRInit
theorem okIRInit (T : TIR K mg) : FnOk P w K mg base CX0 1 T.fI T.fd ["self", "word"] (spXInit K "word") := by
  refine T.F.ok scIRInit (fun vs H Q E h => ?_) (fun cdv A outer s H vs Q E hr h => ?_)
  · obtain ⟨a, C, v, rfl, _⟩ := h
    rfl
  · obtain ⟨a, C, v, rfl, ha, O, no, q⟩ := h
    refine ⟨_, pss_one (ps_ost (pv 0) (pv 1)), ?_⟩
    exact ⟨_, rfl, _, rfl, a, C, rfl, O, no, .inl ⟨ha, fun dx h1 h2 => q dx h1 h2⟩⟩
/-- InvalidRow(wd) leaves the def -/
def RaiseW (C : Addr) (H : Hp) (E : XK) (wd : V) : Prop := ∀ (e : Addr) (H' : Hp), Same H H' → Mo H H' → H e = none → H' e = some (.xd [("word", wd)]) → E (.ref C) (some e) H'
theorem RaiseW.back {C : Addr} {H H1 : Hp} {E : XK} {wd : V} (h : RaiseW C H E wd) (s : Same H H1) (m : Mo H H1) : RaiseW C H1 E wd := fun e H' h1 h2 h3 h4 => h e H' (s.trans h1) (m.trans h2) (m e h3) h4
def spNeed (K : PySem.W.Frag) (C : Addr) : Sp := fun vs H Q E => ∃ (v wd : V) (d : PyData), vs = [v, wd] ∧ Dp K H v d ∧ dlen d ∧ (nameD d = true → ∀ H', Same H H' → Mo H H' → Q .non H') ∧ (nameD d = false → RaiseW C H E wd)
structure TNeed (K : PySem.W.Frag) (mg : Str → Option Value) : Type extends TChk K mg where
  IR : TIR K mg
  need : At K mg "need_name" sNeedName ["value", "word"]
theorem scNeed : FnScope ["value", "word"] ["value", "word"] (defScope sNeedName) := ⟨rfl, rfl, rfl, by decide +kernel, rfl, by decide +kernel, by decide +kernel⟩
/-- a new exception of InvalidRow, as its making leaves it -/
theorem ir_made {C : Addr} {H H1 : Hp} {E : XK} {wd : V} (s : Same H H1) (m : Mo H H1) (h : RaiseW C H E wd) {a : Addr} (ha : H1 a = none) (dx : Addr) (h1 : (upd H1 a (exo a C none)) dx = none) (h2 : dx ≠ a) :
    E (.ref C) (some dx) (upd (del (upd (upd (upd H1 a (exo a C none)) dx (exd dx [("word", wd)])) a (exo a C (some dx))) a) dx (.xd [("word", wd)])) := by
  have hd : H1 dx = none := by rw [upd_ne h2] at h1; exact h1
  refine h dx _ (s.trans (same_made ha hd)) (m.trans fun b e => ?_) (m dx hd) upd_same
  by_cases n2 : b = dx
  · rw [n2]; exact hd
  · by_cases n1 : b = a
    · rw [n1]; exact ha
    · rw [upd_ne n2, del_ne n1, upd_ne n1, upd_ne n2, upd_ne n1] at e
      exact e
theorem okNeed (T : TNeed K mg) : FnOk P w K mg base (L2N.CX P w) 3 T.need.f T.need.fd ["value", "word"] (spNeed K T.IR.C) := by
  refine (funD T.need.F).ok scNeed (fun vs H Q E h => ?_) (fun cdv A outer s H vs Q E hr h => ?_)
  · obtain ⟨v, wd, d, rfl, _⟩ := h
    rfl
  · obtain ⟨v, wd, d, rfl, hd, hl, q1, q2⟩ := h
    refine ⟨_, pss_one (ps_if (pt_not (pt_val (pe_call (T.okName) (hr.mono (by decide)) rfl T.isName.m T.isName.F.kp T.isName.b .nil pass0 (pa_cons (pv 0) pa_nil))))
      (pss_one (L2N.ps_raise rfl (L2N.takes_of rfl rfl rfl rfl) (pmk_oexN T.IR.O T.IR.iC T.IR.tI (okIRInit T.IR) (hr.mono (by decide)) T.IR.b pass0 rfl T.IR.m (pa_cons (pv 1) pa_nil)))) pss_nil), ?_⟩
    refine ⟨_, rfl, v, d, rfl, hd, hl, fun H1 hs hm => ?_⟩
    cases hn : nameD d with
    | true => exact ⟨true, rfl, iteF (q1 hn H1 hs hm)⟩
    | false =>
      refine ⟨false, rfl, iteT ?_⟩
      refine ⟨_, rfl, (by show 1 ≤ 1000; decide), fun a ha => ⟨a, T.IR.C, wd, rfl, upd_same, T.IR.O, T.IR.noF, fun dx h1 h2 => ?_⟩⟩
      have hd1 : H1 dx = none := by rw [upd_ne h2] at h1; exact h1
      exact ⟨rfl, dx, _, upd_same, by rw [upd_ne h2, upd_same], hd1, ir_made hs hm (q2 hn) ha dx h1 h2⟩
/-- an own class with an __init__ -/
structure TCls (K : PySem.W.Frag) (mg : Str → Option Value) (x qual : Str) (st : Stmt) (ps : List Str) : Type where
  C : Addr
  fI : Addr
  fd : FuncData
  F : Fun K "__init__" qual st fI fd
  b : Binds K fd ps []
  m : mg x = some (.ref C)
  M : Mk K C fI
  cl : Cls K C
  noW : NoAttr K C "word"
theorem small2 {f g : Str} {v u : V} : (putF g u (putF f v ([] : List (Str × V)))).length < 1000 := by
  unfold putF putF
  simp only
  split
  · show 1 < 1000
    decide
  · show 2 < 1000
    decide
/-- all but the new instance is as it was -/
def KpI (x : Addr) (H H' : Hp) : Prop := ∀ b o, H b = some o → b ≠ x → H' b = some o
/-! ### Keep -/
abbrev sKeepInit : Stmt := inClass (top 23) 0
theorem scKeepInit : FnScope ["self", "counter"] ["self", "counter"] (defScope sKeepInit) := ⟨rfl, rfl, rfl, by decide +kernel, rfl, by decide +kernel, by decide +kernel⟩
structure TKeep (K : PySem.W.Frag) (mg : Str → Option Value) : Type extends TCls K mg "Keep" "Keep.__init__" sKeepInit ["self", "counter"] where
  noF : NoAttr K C "counter"
def insKeep (C dx : Addr) (v : V) : HO := .ins C dx (putF "counter" v (putF "word" (.str "keep") []))
def spKeepInit (K : PySem.W.Frag) (C CR : Addr) : Sp := fun vs H Q E => ∃ (x dx : Addr) (v : V) (d : PyData), vs = [.ref x, v] ∧ H x = some (.ins C dx []) ∧ Dp K H v d ∧ dlen d ∧
  (nameD d = true → ∀ H', KpI x H H' → Mo H H' → H' x = some (insKeep C dx v) → Q .non H') ∧ (nameD d = false → RaiseW CR H E (.str "counter"))
theorem okKeepInit (T : TKeep K mg) (N : TNeed K mg) : FnOk P w K mg base (L2N.CX P w) 4 T.fI T.fd ["self", "counter"] (spKeepInit K T.C N.IR.C) := by
  refine (funD T.F).ok scKeepInit (fun vs H Q E h => ?_) (fun cdv A outer s H vs Q E hr h => ?_)
  · obtain ⟨x, dx, v, d, rfl, _⟩ := h
    rfl
  · obtain ⟨x, dx, v, d, rfl, hx, hd, hl, q1, q2⟩ := h
    refine ⟨_, pss_cons (ps_expr (pe_callS (okNeed N) hr rfl N.need.m N.need.F.kp N.need.b (fun σ => L2N.passAt (L2N.takes_of rfl rfl rfl rfl) σ) (pa_cons (pv 1) (pa_cons pe_str pa_nil))))
      (pss_cons (ps_fld (pv 0) pe_str rfl) (pss_one (ps_fld (pv 0) (pv 1) rfl))), ?_⟩
    refine ⟨_, rfl, v, _, d, rfl, hd, hl, fun hn H1 hs hm => ?_, fun hn => q2 hn⟩
    refine ⟨_, rfl, x, T.C, dx, [], rfl, hs x _ hx, T.cl, T.noW, (by show 0 < 1000; decide), _, rfl, _, rfl, x, T.C, dx, _, rfl, upd_same, T.cl, T.noF, (by show 1 < 1000; decide), ?_⟩
    refine q1 hn _ (fun b o e n => ?_) (hm.trans (Mo.upd.trans Mo.upd)) upd_same
    rw [upd_ne n, upd_ne n]
    exact hs b o e
/-! ### Back -/
abbrev sBackInit : Stmt := inClass (top 24) 0
theorem scBackInit : FnScope ["self", "counter"] ["self", "counter"] (defScope sBackInit) := ⟨rfl, rfl, rfl, by decide +kernel, rfl, by decide +kernel, by decide +kernel⟩
structure TBack (K : PySem.W.Frag) (mg : Str → Option Value) : Type extends TCls K mg "Back" "Back.__init__" sBackInit ["self", "counter"] where
  noF : NoAttr K C "counter"
def insBack (C dx : Addr) (v : V) : HO := .ins C dx (putF "counter" v (putF "word" (.str "back") []))
def spBackInit (K : PySem.W.Frag) (C CR : Addr) : Sp := fun vs H Q E => ∃ (x dx : Addr) (v : V) (d : PyData), vs = [.ref x, v] ∧ H x = some (.ins C dx []) ∧ Dp K H v d ∧ dlen d ∧
  (nameD d = true → ∀ H', KpI x H H' → Mo H H' → H' x = some (insBack C dx v) → Q .non H') ∧ (nameD d = false → RaiseW CR H E (.str "counter"))
theorem okBackInit (T : TBack K mg) (N : TNeed K mg) : FnOk P w K mg base (L2N.CX P w) 4 T.fI T.fd ["self", "counter"] (spBackInit K T.C N.IR.C) := by
  refine (funD T.F).ok scBackInit (fun vs H Q E h => ?_) (fun cdv A outer s H vs Q E hr h => ?_)
  · obtain ⟨x, dx, v, d, rfl, _⟩ := h
    rfl
  · obtain ⟨x, dx, v, d, rfl, hx, hd, hl, q1, q2⟩ := h
    refine ⟨_, pss_cons (ps_expr (pe_callS (okNeed N) hr rfl N.need.m N.need.F.kp N.need.b (fun σ => L2N.passAt (L2N.takes_of rfl rfl rfl rfl) σ) (pa_cons (pv 1) (pa_cons pe_str pa_nil))))
      (pss_cons (ps_fld (pv 0) pe_str rfl) (pss_one (ps_fld (pv 0) (pv 1) rfl))), ?_⟩
    refine ⟨_, rfl, v, _, d, rfl, hd, hl, fun hn H1 hs hm => ?_, fun hn => q2 hn⟩
    refine ⟨_, rfl, x, T.C, dx, [], rfl, hs x _ hx, T.cl, T.noW, (by show 0 < 1000; decide), _, rfl, _, rfl, x, T.C, dx, _, rfl, upd_same, T.cl, T.noF, (by show 1 < 1000; decide), ?_⟩
    refine q1 hn _ (fun b o e n => ?_) (hm.trans (Mo.upd.trans Mo.upd)) upd_same
    rw [upd_ne n, upd_ne n]
    exact hs b o e
/-! ### Ref -/
abbrev sRefInit : Stmt := inClass (top 25) 0
theorem scRefInit : FnScope ["self", "label"] ["self", "label"] (defScope sRefInit) := ⟨rfl, rfl, rfl, by decide +kernel, rfl, by decide +kernel, by decide +kernel⟩
structure TRef (K : PySem.W.Frag) (mg : Str → Option Value) : Type extends TCls K mg "Ref" "Ref.__init__" sRefInit ["self", "label"] where
  noF : NoAttr K C "label"
def insRef (C dx : Addr) (v : V) : HO := .ins C dx (putF "label" v (putF "word" (.str "ref") []))
def spRefInit (K : PySem.W.Frag) (C CR : Addr) : Sp := fun vs H Q E => ∃ (x dx : Addr) (v : V) (d : PyData), vs = [.ref x, v] ∧ H x = some (.ins C dx []) ∧ Dp K H v d ∧ dlen d ∧
  (nameD d = true → ∀ H', KpI x H H' → Mo H H' → H' x = some (insRef C dx v) → Q .non H') ∧ (nameD d = false → RaiseW CR H E (.str "label"))
theorem okRefInit (T : TRef K mg) (N : TNeed K mg) : FnOk P w K mg base (L2N.CX P w) 4 T.fI T.fd ["self", "label"] (spRefInit K T.C N.IR.C) := by
  refine (funD T.F).ok scRefInit (fun vs H Q E h => ?_) (fun cdv A outer s H vs Q E hr h => ?_)
  · obtain ⟨x, dx, v, d, rfl, _⟩ := h
    rfl
  · obtain ⟨x, dx, v, d, rfl, hx, hd, hl, q1, q2⟩ := h
    refine ⟨_, pss_cons (ps_expr (pe_callS (okNeed N) hr rfl N.need.m N.need.F.kp N.need.b (fun σ => L2N.passAt (L2N.takes_of rfl rfl rfl rfl) σ) (pa_cons (pv 1) (pa_cons pe_str pa_nil))))
      (pss_cons (ps_fld (pv 0) pe_str rfl) (pss_one (ps_fld (pv 0) (pv 1) rfl))), ?_⟩
    refine ⟨_, rfl, v, _, d, rfl, hd, hl, fun hn H1 hs hm => ?_, fun hn => q2 hn⟩
    refine ⟨_, rfl, x, T.C, dx, [], rfl, hs x _ hx, T.cl, T.noW, (by show 0 < 1000; decide), _, rfl, _, rfl, x, T.C, dx, _, rfl, upd_same, T.cl, T.noF, (by show 1 < 1000; decide), ?_⟩
    refine q1 hn _ (fun b o e n => ?_) (hm.trans (Mo.upd.trans Mo.upd)) upd_same
    rw [upd_ne n, upd_ne n]
    exact hs b o e
/-! ### Put -/
abbrev sPutInit : Stmt := inClass (top 26) 0
theorem scPutInit : FnScope ["self", "part"] ["self", "part"] (defScope sPutInit) := ⟨rfl, rfl, rfl, by decide +kernel, rfl, by decide +kernel, by decide +kernel⟩
structure TPut (K : PySem.W.Frag) (mg : Str → Option Value) : Type extends TCls K mg "Put" "Put.__init__" sPutInit ["self", "part"] where
  noF : NoAttr K C "part"
def insPut (C dx : Addr) (v : V) : HO := .ins C dx (putF "part" v (putF "word" (.str "put") []))
def spPutInit (K : PySem.W.Frag) (C CR : Addr) : Sp := fun vs H Q E => ∃ (x dx : Addr) (v : V) (d : PyData), vs = [.ref x, v] ∧ H x = some (.ins C dx []) ∧ Dp K H v d ∧ dlen d ∧
  (nameD d = true → ∀ H', KpI x H H' → Mo H H' → H' x = some (insPut C dx v) → Q .non H') ∧ (nameD d = false → RaiseW CR H E (.str "part"))
theorem okPutInit (T : TPut K mg) (N : TNeed K mg) : FnOk P w K mg base (L2N.CX P w) 4 T.fI T.fd ["self", "part"] (spPutInit K T.C N.IR.C) := by
  refine (funD T.F).ok scPutInit (fun vs H Q E h => ?_) (fun cdv A outer s H vs Q E hr h => ?_)
  · obtain ⟨x, dx, v, d, rfl, _⟩ := h
    rfl
  · obtain ⟨x, dx, v, d, rfl, hx, hd, hl, q1, q2⟩ := h
    refine ⟨_, pss_cons (ps_expr (pe_callS (okNeed N) hr rfl N.need.m N.need.F.kp N.need.b (fun σ => L2N.passAt (L2N.takes_of rfl rfl rfl rfl) σ) (pa_cons (pv 1) (pa_cons pe_str pa_nil))))
      (pss_cons (ps_fld (pv 0) pe_str rfl) (pss_one (ps_fld (pv 0) (pv 1) rfl))), ?_⟩
    refine ⟨_, rfl, v, _, d, rfl, hd, hl, fun hn H1 hs hm => ?_, fun hn => q2 hn⟩
    refine ⟨_, rfl, x, T.C, dx, [], rfl, hs x _ hx, T.cl, T.noW, (by show 0 < 1000; decide), _, rfl, _, rfl, x, T.C, dx, _, rfl, upd_same, T.cl, T.noF, (by show 1 < 1000; decide), ?_⟩
    refine q1 hn _ (fun b o e n => ?_) (hm.trans (Mo.upd.trans Mo.upd)) upd_same
    rw [upd_ne n, upd_ne n]
    exact hs b o e
/-! ### Open -/
abbrev sOpenInit : Stmt := inClass (top 27) 0
theorem scOpenInit : FnScope ["self", "name"] ["self", "name"] (defScope sOpenInit) := ⟨rfl, rfl, rfl, by decide +kernel, rfl, by decide +kernel, by decide +kernel⟩
structure TOpen (K : PySem.W.Frag) (mg : Str → Option Value) : Type extends TCls K mg "Open" "Open.__init__" sOpenInit ["self", "name"] where
  noF : NoAttr K C "name"
def insOpen (C dx : Addr) (v : V) : HO := .ins C dx (putF "name" v (putF "word" (.str "open") []))
def spOpenInit (K : PySem.W.Frag) (C CR : Addr) : Sp := fun vs H Q E => ∃ (x dx : Addr) (v : V) (d : PyData), vs = [.ref x, v] ∧ H x = some (.ins C dx []) ∧ Dp K H v d ∧ dlen d ∧
  (nameD d = true → ∀ H', KpI x H H' → Mo H H' → H' x = some (insOpen C dx v) → Q .non H') ∧ (nameD d = false → RaiseW CR H E (.str "name"))
theorem okOpenInit (T : TOpen K mg) (N : TNeed K mg) : FnOk P w K mg base (L2N.CX P w) 4 T.fI T.fd ["self", "name"] (spOpenInit K T.C N.IR.C) := by
  refine (funD T.F).ok scOpenInit (fun vs H Q E h => ?_) (fun cdv A outer s H vs Q E hr h => ?_)
  · obtain ⟨x, dx, v, d, rfl, _⟩ := h
    rfl
  · obtain ⟨x, dx, v, d, rfl, hx, hd, hl, q1, q2⟩ := h
    refine ⟨_, pss_cons (ps_expr (pe_callS (okNeed N) hr rfl N.need.m N.need.F.kp N.need.b (fun σ => L2N.passAt (L2N.takes_of rfl rfl rfl rfl) σ) (pa_cons (pv 1) (pa_cons pe_str pa_nil))))
      (pss_cons (ps_fld (pv 0) pe_str rfl) (pss_one (ps_fld (pv 0) (pv 1) rfl))), ?_⟩
    refine ⟨_, rfl, v, _, d, rfl, hd, hl, fun hn H1 hs hm => ?_, fun hn => q2 hn⟩
    refine ⟨_, rfl, x, T.C, dx, [], rfl, hs x _ hx, T.cl, T.noW, (by show 0 < 1000; decide), _, rfl, _, rfl, x, T.C, dx, _, rfl, upd_same, T.cl, T.noF, (by show 1 < 1000; decide), ?_⟩
    refine q1 hn _ (fun b o e n => ?_) (hm.trans (Mo.upd.trans Mo.upd)) upd_same
    rw [upd_ne n, upd_ne n]
    exact hs b o e
/-! ### Note, Skip, Set -/
abbrev sNoteInit : Stmt := inClass (top 20) 0
theorem scNoteInit : FnScope ["self", "counter", "label"] ["self", "counter", "label"] (defScope sNoteInit) := ⟨rfl, rfl, rfl, by decide +kernel, rfl, by decide +kernel, by decide +kernel⟩
structure TNote (K : PySem.W.Frag) (mg : Str → Option Value) : Type where
  C : Addr
  fI : Addr
  fd : FuncData
  F : FunD K "__init__" "Note.__init__" (defArgs sNoteInit) (defBody sNoteInit) (defScope sNoteInit) [.str ""] [] fI fd
  b : Binds K fd ["self", "counter", "label"] []
  m : mg "Note" = some (.ref C)
  M : Mk K C fI
  cl : Cls K C
  noW : NoAttr K C "word"
  noC : NoAttr K C "counter"
  noL : NoAttr K C "label"
def insNote (C dx : Addr) (v u : V) : HO := .ins C dx (putF "label" u (putF "counter" v (putF "word" (.str "note") [])))
/-- the label of a note -/
def labD (d : PyData) : Bool := PyData.eqv d (.str "") || nameD d
def spNoteInit (K : PySem.W.Frag) (C CR : Addr) : Sp := fun vs H Q E => ∃ (x dx : Addr) (v u : V) (d e : PyData), vs = [.ref x, v, u] ∧ H x = some (.ins C dx []) ∧ Dp K H v d ∧ dlen d ∧ Dp K H u e ∧ dlen e ∧ SeqAt.shaped e = true ∧
  (nameD d = true → labD e = true → ∀ H', KpI x H H' → Mo H H' → H' x = some (insNote C dx v u) → Q .non H') ∧ (nameD d = false → RaiseW CR H E (.str "counter")) ∧ (nameD d = true → labD e = false → RaiseW CR H E (.str "label"))
theorem okNoteInit (T : TNote K mg) (N : TNeed K mg) : FnOk P w K mg base (L2N.CX P w) 4 T.fI T.fd ["self", "counter", "label"] (spNoteInit K T.C N.IR.C) := by
  refine T.F.ok scNoteInit (fun vs H Q E h => ?_) (fun cdv A outer s H vs Q E hr h => ?_)
  · obtain ⟨x, dx, v, u, d, e, rfl, _⟩ := h
    rfl
  · obtain ⟨x, dx, v, u, d, e, rfl, hx, hd, hl, he, hl2, hsh, q1, q2, q3⟩ := h
    refine ⟨_, pss_cons (ps_expr (pe_callS (okNeed N) hr rfl N.need.m N.need.F.kp N.need.b (fun σ => L2N.passAt (L2N.takes_of rfl rfl rfl rfl) σ) (pa_cons (pv 1) (pa_cons pe_str pa_nil))))
      (pss_cons (ps_if (pt_cmpR (op_neD hr.units) (pv 2) pe_str (nomark _)) (pss_one (ps_expr (pe_callS (okNeed N) hr rfl N.need.m N.need.F.kp N.need.b (fun σ => L2N.passAt (L2N.takes_of rfl rfl rfl rfl) σ) (pa_cons (pv 2) (pa_cons pe_str pa_nil))))) pss_nil)
      (pss_cons (ps_fld (pv 0) pe_str rfl) (pss_cons (ps_fld (pv 0) (pv 1) rfl) (pss_one (ps_fld (pv 0) (pv 2) rfl))))), ?_⟩
    refine ⟨_, rfl, v, _, d, rfl, hd, hl, fun hn H1 hs hm => ?_, fun hn => q2 hn⟩
    refine ⟨_, rfl, e, .str "", dp_same hs e u he, .str "", hsh, (by decide +kernel), _, rfl, ?_⟩
    have fin : ∀ (H2 : Hp) (o1 o2 : HO), labD e = true → Same H H2 → Mo H H2 → Q .non (upd (upd (upd H2 x o1) x o2) x (insNote T.C dx v u)) := fun H2 o1 o2 hlab hs2 hm2 => q1 hn hlab _ (fun b o eb n => by
      rw [upd_ne n, upd_ne n, upd_ne n]
      exact hs2 b o eb) (hm2.trans (Mo.upd.trans (Mo.upd.trans Mo.upd))) upd_same
    cases h1 : PyData.eqv e (.str "") with
    | true =>
      refine iteF ?_
      have hlab : labD e = true := by unfold labD; rw [h1]; rfl
      refine ⟨_, rfl, x, T.C, dx, [], rfl, hs x _ hx, T.cl, T.noW, (by show 0 < 1000; decide), _, rfl, _, rfl, x, T.C, dx, _, rfl, upd_same, T.cl, T.noC, (by show 1 < 1000; decide), _, rfl, _, rfl, x, T.C, dx, _, rfl, upd_same, T.cl, T.noL, ?_, ?_⟩
      · exact small2
      · exact fin H1 _ _ hlab hs hm
    | false =>
      refine iteT ?_
      refine ⟨_, rfl, u, _, e, rfl, dp_same hs e u he, hl2, fun hn2 H2 hs2 hm2 => ?_, fun hn2 => ?_⟩
      · have hlab : labD e = true := by unfold labD; rw [hn2, Bool.or_true]
        refine ⟨_, rfl, x, T.C, dx, [], rfl, hs2 x _ (hs x _ hx), T.cl, T.noW, (by show 0 < 1000; decide), _, rfl, _, rfl, x, T.C, dx, _, rfl, upd_same, T.cl, T.noC, (by show 1 < 1000; decide), _, rfl, _, rfl, x, T.C, dx, _, rfl, upd_same, T.cl, T.noL, ?_, ?_⟩
        · exact small2
        · exact fin H2 _ _ hlab (hs.trans hs2) (hm.trans hm2)
      · have hlab : labD e = false := by unfold labD; rw [h1, hn2]; rfl
        exact (q3 hn hlab).back hs hm
abbrev sSkipInit : Stmt := inClass (top 21) 0
theorem scSkipInit : FnScope ["self", "counter", "by"] ["self", "counter", "by"] (defScope sSkipInit) := ⟨rfl, rfl, rfl, by decide +kernel, rfl, by decide +kernel, by decide +kernel⟩
structure TSkip (K : PySem.W.Frag) (mg : Str → Option Value) : Type extends TCls K mg "Skip" "Skip.__init__" sSkipInit ["self", "counter", "by"] where
  noC : NoAttr K C "counter"
  noF : NoAttr K C "by"
def insSkip (C dx : Addr) (v u : V) : HO := .ins C dx (putF "by" u (putF "counter" v (putF "word" (.str "skip") [])))
def skipD (d : PyData) : Bool := numD d && (match d with | .int i => decide (i ≠ 0) | _ => false)
def spSkipInit (K : PySem.W.Frag) (C CR : Addr) : Sp := fun vs H Q E => ∃ (x dx : Addr) (v u : V) (d e : PyData), vs = [.ref x, v, u] ∧ H x = some (.ins C dx []) ∧ Dp K H v d ∧ dlen d ∧ Dp K H u e ∧
  (nameD d = true → skipD e = true → ∀ H', KpI x H H' → Mo H H' → H' x = some (insSkip C dx v u) → Q .non H') ∧ (nameD d = false → RaiseW CR H E (.str "counter")) ∧ (nameD d = true → skipD e = false → RaiseW CR H E (.str "by"))
theorem okSkipInit (T : TSkip K mg) (N : TNeed K mg) : FnOk P w K mg base (L2N.CX P w) 4 T.fI T.fd ["self", "counter", "by"] (spSkipInit K T.C N.IR.C) := by
  refine (funD T.F).ok scSkipInit (fun vs H Q E h => ?_) (fun cdv A outer s H vs Q E hr h => ?_)
  · obtain ⟨x, dx, v, u, d, e, rfl, _⟩ := h
    rfl
  · obtain ⟨x, dx, v, u, d, e, rfl, hx, hd, hl, he, q1, q2, q3⟩ := h
    refine ⟨_, pss_cons (ps_expr (pe_callS (okNeed N) hr rfl N.need.m N.need.F.kp N.need.b (fun σ => L2N.passAt (L2N.takes_of rfl rfl rfl rfl) σ) (pa_cons (pv 1) (pa_cons pe_str pa_nil))))
      (pss_cons (ps_if (PW.pt (pw_or (pt_not (pt_val (pe_call N.okNumber (hr.mono (by decide)) rfl N.isNumber.m N.isNumber.F.kp N.isNumber.b .nil pass0 (pa_cons (pv 2) pa_nil)))) (pw_or1 (pt_cmpR op_eq (pv 2) pe_int (nomark _)))))
        (pss_one (L2N.ps_raise rfl (L2N.takes_of rfl rfl rfl rfl) (pmk_oexN N.IR.O N.IR.iC N.IR.tI (okIRInit N.IR) (hr.mono (by decide)) N.IR.b pass0 rfl N.IR.m (pa_cons pe_str pa_nil)))) pss_nil)
      (pss_cons (ps_fld (pv 0) pe_str rfl) (pss_cons (ps_fld (pv 0) (pv 1) rfl) (pss_one (ps_fld (pv 0) (pv 2) rfl))))), ?_⟩
    refine ⟨_, rfl, v, _, d, rfl, hd, hl, fun hn H1 hs hm => ?_, fun hn => q2 hn⟩
    have he1 := dp_same hs e u he
    have raises : skipD e = false → ∀ a, H1 a = none → ∀ dx2, (upd H1 a (exo a N.IR.C none)) dx2 = none → dx2 ≠ a → _ := fun hf a ha dx2 h1 h2 => ir_made hs hm (q3 hn hf) ha dx2 h1 h2
    refine ⟨_, rfl, u, e, rfl, he1, ?_⟩
    cases h1 : numD e with
    | false =>
      have hg : skipD e = false := by unfold skipD; rw [h1]; rfl
      refine ⟨_, rfl, ?_⟩
      refine iteT ?_
      refine iteT ?_
      refine ⟨(by show 1 ≤ 1000; decide), fun a ha => ⟨a, N.IR.C, _, rfl, upd_same, N.IR.O, N.IR.noF, fun dx2 h1 h2 => ?_⟩⟩
      have hd1 : H1 dx2 = none := by rw [upd_ne h2] at h1; exact h1
      exact ⟨rfl, dx2, _, upd_same, by rw [upd_ne h2, upd_same], hd1, raises hg a ha dx2 h1 h2⟩
    | true =>
      refine ⟨_, rfl, ?_⟩
      refine iteF ?_
      obtain ⟨i, rfl⟩ : ∃ i : Int, e = .int i := by
        cases e <;> first | exact ⟨_, rfl⟩ | (exact absurd h1 (by decide)) | cases h1
      cases he1
      refine ⟨_, rfl, rfl, _, rfl, ?_⟩
      refine ite2 (fun hz => ?_) (fun hz => ?_)
      · have hz2 : V.int i = V.int 0 := of_decide_eq_true hz
        have hg : skipD (.int i) = false := by
          cases hz2
          rfl
        refine ⟨(by show 1 ≤ 1000; decide), fun a ha => ⟨a, N.IR.C, _, rfl, upd_same, N.IR.O, N.IR.noF, fun dx2 h1 h2 => ?_⟩⟩
        have hd1 : H1 dx2 = none := by rw [upd_ne h2] at h1; exact h1
        exact ⟨rfl, dx2, _, upd_same, by rw [upd_ne h2, upd_same], hd1, raises hg a ha dx2 h1 h2⟩
      · have hz2 : ¬ V.int i = V.int 0 := fun z => hz (decide_eq_true z)
        have hg : skipD (.int i) = true := by
          unfold skipD
          rw [h1]
          exact decide_eq_true (fun z => hz2 (by cases z; rfl))
        refine ⟨_, rfl, x, T.C, dx, [], rfl, hs x _ hx, T.cl, T.noW, (by show 0 < 1000; decide), _, rfl, _, rfl, x, T.C, dx, _, rfl, upd_same, T.cl, T.noC, (by show 1 < 1000; decide), _, rfl, _, rfl, x, T.C, dx, _, rfl, upd_same, T.cl, T.noF, small2, ?_⟩
        refine q1 hn hg _ (fun b o eb n => ?_) (hm.trans (Mo.upd.trans (Mo.upd.trans Mo.upd))) upd_same
        rw [upd_ne n, upd_ne n, upd_ne n]
        exact hs b o eb
abbrev sSetInit : Stmt := inClass (top 22) 0
theorem scSetInit : FnScope ["self", "counter", "to"] ["self", "counter", "to"] (defScope sSetInit) := ⟨rfl, rfl, rfl, by decide +kernel, rfl, by decide +kernel, by decide +kernel⟩
structure TSet (K : PySem.W.Frag) (mg : Str → Option Value) : Type extends TCls K mg "Set" "Set.__init__" sSetInit ["self", "counter", "to"] where
  noC : NoAttr K C "counter"
  noF : NoAttr K C "to"
def insSet (C dx : Addr) (v u : V) : HO := .ins C dx (putF "to" u (putF "counter" v (putF "word" (.str "set") [])))
def setD (d : PyData) : Bool := numD d
def spSetInit (K : PySem.W.Frag) (C CR : Addr) : Sp := fun vs H Q E => ∃ (x dx : Addr) (v u : V) (d e : PyData), vs = [.ref x, v, u] ∧ H x = some (.ins C dx []) ∧ Dp K H v d ∧ dlen d ∧ Dp K H u e ∧
  (nameD d = true → setD e = true → ∀ H', KpI x H H' → Mo H H' → H' x = some (insSet C dx v u) → Q .non H') ∧ (nameD d = false → RaiseW CR H E (.str "counter")) ∧ (nameD d = true → setD e = false → RaiseW CR H E (.str "to"))
theorem okSetInit (T : TSet K mg) (N : TNeed K mg) : FnOk P w K mg base (L2N.CX P w) 4 T.fI T.fd ["self", "counter", "to"] (spSetInit K T.C N.IR.C) := by
  refine (funD T.F).ok scSetInit (fun vs H Q E h => ?_) (fun cdv A outer s H vs Q E hr h => ?_)
  · obtain ⟨x, dx, v, u, d, e, rfl, _⟩ := h
    rfl
  · obtain ⟨x, dx, v, u, d, e, rfl, hx, hd, hl, he, q1, q2, q3⟩ := h
    refine ⟨_, pss_cons (ps_expr (pe_callS (okNeed N) hr rfl N.need.m N.need.F.kp N.need.b (fun σ => L2N.passAt (L2N.takes_of rfl rfl rfl rfl) σ) (pa_cons (pv 1) (pa_cons pe_str pa_nil))))
      (pss_cons (ps_if ((pt_not (pt_val (pe_call N.okNumber (hr.mono (by decide)) rfl N.isNumber.m N.isNumber.F.kp N.isNumber.b .nil pass0 (pa_cons (pv 2) pa_nil)))))
        (pss_one (L2N.ps_raise rfl (L2N.takes_of rfl rfl rfl rfl) (pmk_oexN N.IR.O N.IR.iC N.IR.tI (okIRInit N.IR) (hr.mono (by decide)) N.IR.b pass0 rfl N.IR.m (pa_cons pe_str pa_nil)))) pss_nil)
      (pss_cons (ps_fld (pv 0) pe_str rfl) (pss_cons (ps_fld (pv 0) (pv 1) rfl) (pss_one (ps_fld (pv 0) (pv 2) rfl))))), ?_⟩
    refine ⟨_, rfl, v, _, d, rfl, hd, hl, fun hn H1 hs hm => ?_, fun hn => q2 hn⟩
    have he1 := dp_same hs e u he
    have raises : setD e = false → ∀ a, H1 a = none → ∀ dx2, (upd H1 a (exo a N.IR.C none)) dx2 = none → dx2 ≠ a → _ := fun hf a ha dx2 h1 h2 => ir_made hs hm (q3 hn hf) ha dx2 h1 h2
    refine ⟨_, rfl, u, e, rfl, he1, ?_⟩
    cases hg : setD e with
    | true =>
      have hg2 : numD e = true := hg
      refine ⟨_, by rw [hg2], ?_⟩
      refine iteF ?_
      refine ⟨_, rfl, x, T.C, dx, [], rfl, hs x _ hx, T.cl, T.noW, (by show 0 < 1000; decide), _, rfl, _, rfl, x, T.C, dx, _, rfl, upd_same, T.cl, T.noC, (by show 1 < 1000; decide), _, rfl, _, rfl, x, T.C, dx, _, rfl, upd_same, T.cl, T.noF, small2, ?_⟩
      refine q1 hn hg _ (fun b o eb n => ?_) (hm.trans (Mo.upd.trans (Mo.upd.trans Mo.upd))) upd_same
      rw [upd_ne n, upd_ne n, upd_ne n]
      exact hs b o eb
    | false =>
      have hg2 : numD e = false := hg
      refine ⟨_, by rw [hg2], ?_⟩
      refine iteT ?_
      refine ⟨(by show 1 ≤ 1000; decide), fun a ha => ⟨a, N.IR.C, _, rfl, upd_same, N.IR.O, N.IR.noF, fun dx2 h1 h2 => ?_⟩⟩
      have hd1 : H1 dx2 = none := by rw [upd_ne h2] at h1; exact h1
      exact ⟨rfl, dx2, _, upd_same, by rw [upd_ne h2, upd_same], hd1, raises hg a ha dx2 h1 h2⟩
end
end Pn

namespace Pn
open PySem L2
section
variable {X : Cx} {CX : CXT} {k : Nat} {f C : Addr} {fd : FuncData} {ps : List Str} {sp : Sp} {E : XK}
/-- the run of a def within a deeper around -/
theorem run_fnA {A' : Around} {pins : List (Addr × Obj)} {σ : L2.St} {H : Hp} {s : Shared} {Q : VK} {us : List Value} {vs : List V} (F : FnOk X.prog X.w X.K X.mg X.base CX k f fd ps sp) (hr : Room k A') (e0 : Env0 X.prog X.w X.K X.mg X.base A' X.stack s H) (hb : Binds X.K fd ps []) (hx : Passes CX X E)
    (I : Inv X pins σ H s) (r : Vals vs us) (h : sp vs H Q E) : wpAny (model X.prog X.w) A' (call (.ref f) us) (EP X pins σ Q) X.xe s := by
  have hl : (us ++ []).length = ps.length := by rw [List.append_nil, ← r.length]; exact F.len _ _ _ _ h
  have hbb := hb s us I.kIn hl
  rw [List.append_nil] at hbb
  refine wpAny_call (codeAny_mono (F.run A' X.stack s H ⟨us, []⟩ us vs Q E hr e0 hbb r h) fun x s' hq => ?_)
  cases x with
  | error e => exact hx pins σ H s e s' I hq
  | ok fl =>
    cases fl with
    | ret u => exact I.after hq
    | next => exact hq.elim
    | brk => exact hq.elim
    | cont => exact hq.elim
/-- str(x), x an instance whose class has a __str__ of its own -/
def rStrIns (K : PySem.W.Frag) (f : Addr) (sp : Sp) (E : XK) : List V → Hp → VK → Prop := fun xs H Q => ∃ (a C dx : Addr) (fs : List (Str × V)), xs = [.ref a] ∧ H a = some (.ins C dx fs) ∧ PySem.W.findIn K (.ref C) "__str__" = some (some (.ref f)) ∧ sp [.ref a] H (fun v H' => ∃ z, v = .str z ∧ Q (.str z) H') E
theorem call_strIns (F : FnOk X.prog X.w X.K X.mg X.base CX k f fd ps sp) (hf : PySem.W.isFn X.K (.ref f) = true) (hr : Room (k + 2) X.A) (hb : Binds X.K fd ps []) (hx : Passes CX X E) : CallR X (.type "str") (rStrIns X.K f sp E) := by
  intro pins s σ H xs us Q I r h
  obtain ⟨a, C, dx, fs, rfl, ha, hs, q⟩ := h
  obtain ⟨u, rfl, ru⟩ := r.one
  obtain rfl : u = Value.ref a := ru
  obtain ⟨mA, O, _⟩ := ins_get I.hok ha
  obtain ⟨od, J, _⟩ := O.look
  have hr2 : Room k X.A.in1.in1 := (show Room (k + 1) X.A.in1 from Room.in1 hr).in1
  refine PySem.W.kso_call (by have := hr2.un; omega) I.kIn J hs hf (wpAny_mono (run_fnA F hr2 I.env0.in1.in1 hb hx I (.cons (show RelV (.ref a) (Value.ref a) from rfl) .nil) q) (fun v s' z => ?_) fun _ _ x => x)
  obtain ⟨z', H', I', rz, t, ez, qz⟩ := z
  subst ez
  obtain ⟨tk, e⟩ := (show ∃ tk, v = Value.str t tk from rz)
  cases e
  exact ⟨.str t, H', I', ⟨tk, rfl⟩, qz⟩
end
end Pn

namespace Pn
open PySem L2 TL
/-! ### rows as data -/
inductive RowD where
  | note (c l : Str) | skip (c : Str) (n : Nat) | set (c : Str) (n : Nat) | keep (c : Str) | back (c : Str) | ref (l : Str) | put (p : Str) | opn (x : Str)
structure TRows (K : PySem.W.Frag) (mg : Str → Option Value) : Type where
  N : TNeed K mg
  note : TNote K mg
  skip : TSkip K mg
  set : TSet K mg
  keep : TKeep K mg
  back : TBack K mg
  ref : TRef K mg
  put : TPut K mg
  open_ : TOpen K mg
def numStr (n : Nat) : Str := Str.ofString (toString ((n : Nat) : Int))
/-- the words of a row's text -/
def rowWords : RowD → List Str
  | .note c l => if l = "" then ["note", c] else ["note", c, l]
  | .skip c n => ["skip", c, numStr n]
  | .set c n => ["set", c, numStr n]
  | .keep c => ["keep", c]
  | .back c => ["back", c]
  | .ref l => ["ref", l]
  | .put p => ["put", p]
  | .opn x => ["open", x]
def rowText (r : RowD) : Str := Txt.join " " (rowWords r)
/-- how large the texts and numbers of a row are -/
def rowSmall : RowD → Prop
  | .note c l => c.length ≤ 100 ∧ l.length ≤ 100
  | .skip c n => c.length ≤ 100 ∧ n < 10 ^ 20
  | .set c n => c.length ≤ 100 ∧ n < 10 ^ 20
  | .keep c => c.length ≤ 100
  | .back c => c.length ≤ 100
  | .ref c => c.length ≤ 100
  | .put c => c.length ≤ 100
  | .opn c => c.length ≤ 100
theorem join2 (a b : Str) {ab : Str} (h : tl ab = tl a ++ [32]) : Str.empty ++ ab ++ b = Txt.join " " [a, b] := by
  rw [join_eq]
  apply ext_tl
  rw [tl_join]
  show tl (Str.empty ++ ab ++ b) = tl a ++ (tl (" " : Str) ++ tl b)
  rw [tl_append, tl_append, h]
  show [] ++ (tl a ++ [32]) ++ tl b = tl a ++ ([32] ++ tl b)
  simp
theorem join3 (a b c : Str) {ab s : Str} (h : tl ab = tl a ++ [32]) (hs : s = " ") : Str.empty ++ ab ++ b ++ s ++ c = Txt.join " " [a, b, c] := by
  subst hs
  rw [join_eq]
  apply ext_tl
  rw [tl_join]
  show tl (Str.empty ++ ab ++ b ++ (" " : Str) ++ c) = tl a ++ (tl (" " : Str) ++ (tl b ++ (tl (" " : Str) ++ tl c)))
  rw [tl_append, tl_append, tl_append, tl_append, h]
  show [] ++ (tl a ++ [32]) ++ tl b ++ [32] ++ tl c = tl a ++ ([32] ++ (tl b ++ ([32] ++ tl c)))
  simp
section
variable {P : Program} {w : World} {K : PySem.W.Frag} {mg : Str → Option Value} {base : Heap}
/-- a row's instance -/
def insRow (T : TRows K mg) (dx : Addr) : RowD → HO
  | .note c l => insNote T.note.C dx (.str c) (.str l)
  | .skip c n => insSkip T.skip.C dx (.str c) (.int (n : Int))
  | .set c n => insSet T.set.C dx (.str c) (.int (n : Int))
  | .keep c => insKeep T.keep.C dx (.str c)
  | .back c => insBack T.back.C dx (.str c)
  | .ref c => insRef T.ref.C dx (.str c)
  | .put c => insPut T.put.C dx (.str c)
  | .opn c => insOpen T.open_.C dx (.str c)
def RowAt (T : TRows K mg) (H : Hp) (a : Addr) (r : RowD) : Prop := ∃ dx, H a = some (insRow T dx r)
/-- a method of one argument of an own class -/
structure TStr (K : PySem.W.Frag) (C : Addr) (qual : Str) (st : Stmt) : Type where
  f : Addr
  fd : FuncData
  F : Fun K "__str__" qual st f fd
  b : Binds K fd ["self"] []
  hs : PySem.W.findIn K (.ref C) "__str__" = some (some (.ref f))
  hf : PySem.W.isFn K (.ref f) = true
abbrev sNoteStr : Stmt := inClass (top 20) 1
theorem scNoteStr : FnScope ["self"] ["self"] (defScope sNoteStr) := ⟨rfl, rfl, rfl, by decide +kernel, rfl, by decide +kernel, by decide +kernel⟩
abbrev sSkipStr : Stmt := inClass (top 21) 1
theorem scSkipStr : FnScope ["self"] ["self"] (defScope sSkipStr) := ⟨rfl, rfl, rfl, by decide +kernel, rfl, by decide +kernel, by decide +kernel⟩
abbrev sSetStr : Stmt := inClass (top 22) 1
theorem scSetStr : FnScope ["self"] ["self"] (defScope sSetStr) := ⟨rfl, rfl, rfl, by decide +kernel, rfl, by decide +kernel, by decide +kernel⟩
abbrev sKeepStr : Stmt := inClass (top 23) 1
theorem scKeepStr : FnScope ["self"] ["self"] (defScope sKeepStr) := ⟨rfl, rfl, rfl, by decide +kernel, rfl, by decide +kernel, by decide +kernel⟩
theorem fld_keep {v : V} : (putF "counter" v (putF "word" (.str "keep") [])).lookup ("counter" : Str) = some v := by
  rw [lookup_putF, if_pos rfl]
def spKeepStr (T : TRows K mg) : Sp := fun vs H Q _ => ∃ (a : Addr) (c : Str), vs = [.ref a] ∧ RowAt T H a (.keep c) ∧ c.length ≤ 100 ∧ Q (.str (rowText (.keep c))) H
theorem okKeepStr (T : TRows K mg) (S : TStr K T.keep.C "Keep.__str__" sKeepStr) : FnOk P w K mg base CX0 1 S.f S.fd ["self"] (spKeepStr T) := by
  refine S.F.ok scKeepStr (fun vs H Q E h => ?_) (fun cdv A outer s H vs Q E hr h => ?_)
  · obtain ⟨a, c, rfl, _⟩ := h
    rfl
  · obtain ⟨a, c, rfl, ⟨dx, ha⟩, hl, q⟩ := h
    refine ⟨_, pss_one (ps_ret (pe_joined (.cons pe_str (.cons (pe_fmt (pe_fld (pv 0) rfl)) .nil)))), ?_⟩
    refine ⟨_, rfl, (by decide +kernel), _, rfl, a, T.keep.C, dx, _, .str c, rfl, ha, T.keep.cl, T.keep.noF, fld_keep, .inl ⟨c, rfl, Nat.le_trans hl (by decide), c, rfl, ?_, ?_⟩⟩
    · rw [strLen_append]
      exact Nat.le_trans (Nat.add_le_add_left hl _) (by decide +kernel)
    · rw [join2 "keep" c (by decide +kernel)]
      exact q
abbrev sBackStr : Stmt := inClass (top 24) 1
theorem scBackStr : FnScope ["self"] ["self"] (defScope sBackStr) := ⟨rfl, rfl, rfl, by decide +kernel, rfl, by decide +kernel, by decide +kernel⟩
theorem fld_back {v : V} : (putF "counter" v (putF "word" (.str "back") [])).lookup ("counter" : Str) = some v := by
  rw [lookup_putF, if_pos rfl]
def spBackStr (T : TRows K mg) : Sp := fun vs H Q _ => ∃ (a : Addr) (c : Str), vs = [.ref a] ∧ RowAt T H a (.back c) ∧ c.length ≤ 100 ∧ Q (.str (rowText (.back c))) H
theorem okBackStr (T : TRows K mg) (S : TStr K T.back.C "Back.__str__" sBackStr) : FnOk P w K mg base CX0 1 S.f S.fd ["self"] (spBackStr T) := by
  refine S.F.ok scBackStr (fun vs H Q E h => ?_) (fun cdv A outer s H vs Q E hr h => ?_)
  · obtain ⟨a, c, rfl, _⟩ := h
    rfl
  · obtain ⟨a, c, rfl, ⟨dx, ha⟩, hl, q⟩ := h
    refine ⟨_, pss_one (ps_ret (pe_joined (.cons pe_str (.cons (pe_fmt (pe_fld (pv 0) rfl)) .nil)))), ?_⟩
    refine ⟨_, rfl, (by decide +kernel), _, rfl, a, T.back.C, dx, _, .str c, rfl, ha, T.back.cl, T.back.noF, fld_back, .inl ⟨c, rfl, Nat.le_trans hl (by decide), c, rfl, ?_, ?_⟩⟩
    · rw [strLen_append]
      exact Nat.le_trans (Nat.add_le_add_left hl _) (by decide +kernel)
    · rw [join2 "back" c (by decide +kernel)]
      exact q
abbrev sRefStr : Stmt := inClass (top 25) 1
theorem scRefStr : FnScope ["self"] ["self"] (defScope sRefStr) := ⟨rfl, rfl, rfl, by decide +kernel, rfl, by decide +kernel, by decide +kernel⟩
theorem fld_ref {v : V} : (putF "label" v (putF "word" (.str "ref") [])).lookup ("label" : Str) = some v := by
  rw [lookup_putF, if_pos rfl]
def spRefStr (T : TRows K mg) : Sp := fun vs H Q _ => ∃ (a : Addr) (c : Str), vs = [.ref a] ∧ RowAt T H a (.ref c) ∧ c.length ≤ 100 ∧ Q (.str (rowText (.ref c))) H
theorem okRefStr (T : TRows K mg) (S : TStr K T.ref.C "Ref.__str__" sRefStr) : FnOk P w K mg base CX0 1 S.f S.fd ["self"] (spRefStr T) := by
  refine S.F.ok scRefStr (fun vs H Q E h => ?_) (fun cdv A outer s H vs Q E hr h => ?_)
  · obtain ⟨a, c, rfl, _⟩ := h
    rfl
  · obtain ⟨a, c, rfl, ⟨dx, ha⟩, hl, q⟩ := h
    refine ⟨_, pss_one (ps_ret (pe_joined (.cons pe_str (.cons (pe_fmt (pe_fld (pv 0) rfl)) .nil)))), ?_⟩
    refine ⟨_, rfl, (by decide +kernel), _, rfl, a, T.ref.C, dx, _, .str c, rfl, ha, T.ref.cl, T.ref.noF, fld_ref, .inl ⟨c, rfl, Nat.le_trans hl (by decide), c, rfl, ?_, ?_⟩⟩
    · rw [strLen_append]
      exact Nat.le_trans (Nat.add_le_add_left hl _) (by decide +kernel)
    · rw [join2 "ref" c (by decide +kernel)]
      exact q
abbrev sPutStr : Stmt := inClass (top 26) 1
theorem scPutStr : FnScope ["self"] ["self"] (defScope sPutStr) := ⟨rfl, rfl, rfl, by decide +kernel, rfl, by decide +kernel, by decide +kernel⟩
theorem fld_put {v : V} : (putF "part" v (putF "word" (.str "put") [])).lookup ("part" : Str) = some v := by
  rw [lookup_putF, if_pos rfl]
def spPutStr (T : TRows K mg) : Sp := fun vs H Q _ => ∃ (a : Addr) (c : Str), vs = [.ref a] ∧ RowAt T H a (.put c) ∧ c.length ≤ 100 ∧ Q (.str (rowText (.put c))) H
theorem okPutStr (T : TRows K mg) (S : TStr K T.put.C "Put.__str__" sPutStr) : FnOk P w K mg base CX0 1 S.f S.fd ["self"] (spPutStr T) := by
  refine S.F.ok scPutStr (fun vs H Q E h => ?_) (fun cdv A outer s H vs Q E hr h => ?_)
  · obtain ⟨a, c, rfl, _⟩ := h
    rfl
  · obtain ⟨a, c, rfl, ⟨dx, ha⟩, hl, q⟩ := h
    refine ⟨_, pss_one (ps_ret (pe_joined (.cons pe_str (.cons (pe_fmt (pe_fld (pv 0) rfl)) .nil)))), ?_⟩
    refine ⟨_, rfl, (by decide +kernel), _, rfl, a, T.put.C, dx, _, .str c, rfl, ha, T.put.cl, T.put.noF, fld_put, .inl ⟨c, rfl, Nat.le_trans hl (by decide), c, rfl, ?_, ?_⟩⟩
    · rw [strLen_append]
      exact Nat.le_trans (Nat.add_le_add_left hl _) (by decide +kernel)
    · rw [join2 "put" c (by decide +kernel)]
      exact q
abbrev sOpenStr : Stmt := inClass (top 27) 1
theorem scOpenStr : FnScope ["self"] ["self"] (defScope sOpenStr) := ⟨rfl, rfl, rfl, by decide +kernel, rfl, by decide +kernel, by decide +kernel⟩
theorem fld_open {v : V} : (putF "name" v (putF "word" (.str "open") [])).lookup ("name" : Str) = some v := by
  rw [lookup_putF, if_pos rfl]
def spOpenStr (T : TRows K mg) : Sp := fun vs H Q _ => ∃ (a : Addr) (c : Str), vs = [.ref a] ∧ RowAt T H a (.opn c) ∧ c.length ≤ 100 ∧ Q (.str (rowText (.opn c))) H
theorem okOpenStr (T : TRows K mg) (S : TStr K T.open_.C "Open.__str__" sOpenStr) : FnOk P w K mg base CX0 1 S.f S.fd ["self"] (spOpenStr T) := by
  refine S.F.ok scOpenStr (fun vs H Q E h => ?_) (fun cdv A outer s H vs Q E hr h => ?_)
  · obtain ⟨a, c, rfl, _⟩ := h
    rfl
  · obtain ⟨a, c, rfl, ⟨dx, ha⟩, hl, q⟩ := h
    refine ⟨_, pss_one (ps_ret (pe_joined (.cons pe_str (.cons (pe_fmt (pe_fld (pv 0) rfl)) .nil)))), ?_⟩
    refine ⟨_, rfl, (by decide +kernel), _, rfl, a, T.open_.C, dx, _, .str c, rfl, ha, T.open_.cl, T.open_.noF, fld_open, .inl ⟨c, rfl, Nat.le_trans hl (by decide), c, rfl, ?_, ?_⟩⟩
    · rw [strLen_append]
      exact Nat.le_trans (Nat.add_le_add_left hl _) (by decide +kernel)
    · rw [join2 "open" c (by decide +kernel)]
      exact q
theorem numStr_len {n : Nat} (h : n < 10 ^ 20) : (numStr n).length ≤ 20 := by
  rw [len_tl]
  show (tl (Str.ofString (toString ((n : Nat) : Int)))).length ≤ 20
  rw [tl_num]
  exact numL_len (by decide) h
theorem log_small {n : Nat} (h : n < 10 ^ 20) : (n : Int).natAbs.log2 < 1920 := by
  show n.log2 < 1920
  have : n < 2 ^ 1919 := Nat.lt_trans h (by decide +kernel)
  exact Nat.lt_of_lt_of_le (PySem.Flt.log2_lt_of (k := 1919) (by decide) this) (by decide)
def spNoteStr (T : TRows K mg) : Sp := fun vs H Q _ => ∃ (a : Addr) (c l : Str), vs = [.ref a] ∧ RowAt T H a (.note c l) ∧ c.length ≤ 100 ∧ l.length ≤ 100 ∧ Q (.str (rowText (.note c l))) H
theorem note_counter {c l : V} : (putF "label" l (putF "counter" c (putF "word" (.str "note") []))).lookup ("counter" : Str) = some c := by
  rw [lookup_putF, if_neg (by decide +kernel), lookup_putF, if_pos rfl]
theorem note_label {c l : V} : (putF "label" l (putF "counter" c (putF "word" (.str "note") []))).lookup ("label" : Str) = some l := by
  rw [lookup_putF, if_pos rfl]
theorem len3 {a b c : Str} (ha : a.length ≤ 200) (hb : b.length ≤ 200) (hc : c.length ≤ 200) : (((Str.empty ++ a) ++ b) ++ c).length ≤ sizeLine := by
  rw [strLen_append, strLen_append, strLen_append]
  exact Nat.le_trans (show _ ≤ 600 by have : (Str.empty : Str).length = 0 := rfl; omega) (by decide)
theorem len4 {a b c d : Str} (ha : a.length ≤ 200) (hb : b.length ≤ 200) (hc : c.length ≤ 200) (hd : d.length ≤ 200) : ((((Str.empty ++ a) ++ b) ++ c) ++ d).length ≤ sizeLine := by
  rw [strLen_append, strLen_append, strLen_append, strLen_append]
  exact Nat.le_trans (show _ ≤ 800 by have : (Str.empty : Str).length = 0 := rfl; omega) (by decide)
theorem len2 {a b : Str} (ha : a.length ≤ 200) (hb : b.length ≤ 200) : ((Str.empty ++ a) ++ b).length ≤ sizeLine := by
  rw [strLen_append, strLen_append]
  exact Nat.le_trans (show _ ≤ 400 by have : (Str.empty : Str).length = 0 := rfl; omega) (by decide)
theorem okNoteStr (T : TRows K mg) (S : TStr K T.note.C "Note.__str__" sNoteStr) : FnOk P w K mg base CX0 1 S.f S.fd ["self"] (spNoteStr T) := by
  refine S.F.ok scNoteStr (fun vs H Q E h => ?_) (fun cdv A outer s H vs Q E hr h => ?_)
  · obtain ⟨a, c, l, rfl, _⟩ := h
    rfl
  · obtain ⟨a, c, l, rfl, ⟨dx, ha⟩, hc, hl, q⟩ := h
    refine ⟨_, pss_cons (ps_if (pt_cmpR op_eq (pe_fld (pv 0) rfl) pe_str (nomark _)) (pss_one (ps_ret (pe_joined (.cons pe_str (.cons (pe_fmt (pe_fld (pv 0) rfl)) .nil))))) pss_nil)
      (pss_one (ps_ret (pe_joined (.cons pe_str (.cons (pe_fmt (pe_fld (pv 0) rfl)) (.cons pe_str (.cons (pe_fmt (pe_fld (pv 0) rfl)) .nil))))))), ?_⟩
    refine ⟨_, rfl, a, T.note.C, dx, _, .str l, rfl, ha, T.note.cl, T.note.noL, note_label, rfl, _, rfl, ?_⟩
    have s5 : ("note " : Str).length ≤ 200 := by decide +kernel
    have s1 : (" " : Str).length ≤ 200 := by decide +kernel
    refine ite2 (fun hz => ?_) (fun hz => ?_)
    · have hz2 : l = "" := by
        have := of_decide_eq_true hz
        cases this
        rfl
      have hw : rowText (.note c l) = Txt.join " " ["note", c] := by
        show Txt.join " " (if l = "" then ["note", c] else ["note", c, l]) = _
        rw [if_pos hz2]
      rw [hw] at q
      refine ⟨_, rfl, (by decide +kernel), _, rfl, a, T.note.C, dx, _, .str c, rfl, ha, T.note.cl, T.note.noC, note_counter, .inl ⟨c, rfl, Nat.le_trans hc (by decide), c, rfl, len2 s5 (by omega), ?_⟩⟩
      rw [join2 "note" c (by decide +kernel)]
      exact q
    · have hz2 : ¬ l = "" := fun z => hz (decide_eq_true (by rw [z]))
      have hw : rowText (.note c l) = Txt.join " " ["note", c, l] := by
        show Txt.join " " (if l = "" then ["note", c] else ["note", c, l]) = _
        rw [if_neg hz2]
      rw [hw] at q
      refine ⟨_, rfl, (by decide +kernel), _, rfl, a, T.note.C, dx, _, .str c, rfl, ha, T.note.cl, T.note.noC, note_counter, .inl ⟨c, rfl, Nat.le_trans hc (by decide), c, rfl, len2 s5 (by omega), _, rfl, len3 s5 (by omega) s1, _, rfl, a, T.note.C, dx, _, .str l, rfl, ha, T.note.cl, T.note.noL, note_label, .inl ⟨l, rfl, Nat.le_trans hl (by decide), l, rfl, len4 s5 (by omega) s1 (by omega), ?_⟩⟩⟩
      rw [join3 "note" c l (by decide +kernel) rfl]
      exact q
theorem skip_counter {c l : V} : (putF "by" l (putF "counter" c (putF "word" (.str "skip") []))).lookup ("counter" : Str) = some c := by
  rw [lookup_putF, if_neg (by decide +kernel), lookup_putF, if_pos rfl]
theorem skip_num {c l : V} : (putF "by" l (putF "counter" c (putF "word" (.str "skip") []))).lookup ("by" : Str) = some l := by
  rw [lookup_putF, if_pos rfl]
def spSkipStr (T : TRows K mg) : Sp := fun vs H Q _ => ∃ (a : Addr) (c : Str) (n : Nat), vs = [.ref a] ∧ RowAt T H a (.skip c n) ∧ c.length ≤ 100 ∧ n < 10 ^ 20 ∧ Q (.str (rowText (.skip c n))) H
theorem okSkipStr (T : TRows K mg) (S : TStr K T.skip.C "Skip.__str__" sSkipStr) : FnOk P w K mg base CX0 1 S.f S.fd ["self"] (spSkipStr T) := by
  refine S.F.ok scSkipStr (fun vs H Q E h => ?_) (fun cdv A outer s H vs Q E hr h => ?_)
  · obtain ⟨a, c, n, rfl, _⟩ := h
    rfl
  · obtain ⟨a, c, n, rfl, ⟨dx, ha⟩, hc, hn, q⟩ := h
    refine ⟨_, pss_one (ps_ret (pe_joined (.cons pe_str (.cons (pe_fmt (pe_fld (pv 0) rfl)) (.cons pe_str (.cons (pe_fmt (pe_fld (pv 0) rfl)) .nil)))))), ?_⟩
    have s5 : ("skip " : Str).length ≤ 200 := by decide +kernel
    have s1 : (" " : Str).length ≤ 200 := by decide +kernel
    have sn := numStr_len hn
    refine ⟨_, rfl, (by decide +kernel), _, rfl, a, T.skip.C, dx, _, .str c, rfl, ha, T.skip.cl, T.skip.noC, skip_counter, .inl ⟨c, rfl, Nat.le_trans hc (by decide), c, rfl, len2 s5 (by omega), _, rfl, len3 s5 (by omega) s1, _, rfl, a, T.skip.C, dx, _, .int (n : Int), rfl, ha, T.skip.cl, T.skip.noF, skip_num, .inr ⟨(n : Int), rfl, log_small hn, numStr n, rfl, len4 s5 (by omega) s1 (by omega), ?_⟩⟩⟩
    rw [join3 "skip" c (numStr n) (by decide +kernel) rfl]
    exact q
theorem set_counter {c l : V} : (putF "to" l (putF "counter" c (putF "word" (.str "set") []))).lookup ("counter" : Str) = some c := by
  rw [lookup_putF, if_neg (by decide +kernel), lookup_putF, if_pos rfl]
theorem set_num {c l : V} : (putF "to" l (putF "counter" c (putF "word" (.str "set") []))).lookup ("to" : Str) = some l := by
  rw [lookup_putF, if_pos rfl]
def spSetStr (T : TRows K mg) : Sp := fun vs H Q _ => ∃ (a : Addr) (c : Str) (n : Nat), vs = [.ref a] ∧ RowAt T H a (.set c n) ∧ c.length ≤ 100 ∧ n < 10 ^ 20 ∧ Q (.str (rowText (.set c n))) H
theorem okSetStr (T : TRows K mg) (S : TStr K T.set.C "Set.__str__" sSetStr) : FnOk P w K mg base CX0 1 S.f S.fd ["self"] (spSetStr T) := by
  refine S.F.ok scSetStr (fun vs H Q E h => ?_) (fun cdv A outer s H vs Q E hr h => ?_)
  · obtain ⟨a, c, n, rfl, _⟩ := h
    rfl
  · obtain ⟨a, c, n, rfl, ⟨dx, ha⟩, hc, hn, q⟩ := h
    refine ⟨_, pss_one (ps_ret (pe_joined (.cons pe_str (.cons (pe_fmt (pe_fld (pv 0) rfl)) (.cons pe_str (.cons (pe_fmt (pe_fld (pv 0) rfl)) .nil)))))), ?_⟩
    have s5 : ("set " : Str).length ≤ 200 := by decide +kernel
    have s1 : (" " : Str).length ≤ 200 := by decide +kernel
    have sn := numStr_len hn
    refine ⟨_, rfl, (by decide +kernel), _, rfl, a, T.set.C, dx, _, .str c, rfl, ha, T.set.cl, T.set.noC, set_counter, .inl ⟨c, rfl, Nat.le_trans hc (by decide), c, rfl, len2 s5 (by omega), _, rfl, len3 s5 (by omega) s1, _, rfl, a, T.set.C, dx, _, .int (n : Int), rfl, ha, T.set.cl, T.set.noF, set_num, .inr ⟨(n : Int), rfl, log_small hn, numStr n, rfl, len4 s5 (by omega) s1 (by omega), ?_⟩⟩⟩
    rw [join3 "set" c (numStr n) (by decide +kernel) rfl]
    exact q
end
end Pn

namespace Pn
open PySem L2 TL
/-! ### read_row -/
theorem split_len {z : Str} {ws : List Str} (h : Txt.split z " " = ws) : ∀ x ∈ ws, x.length ≤ z.length ∧ ∀ c ∈ tl x, c ∈ tl z := by
  have e := PySem.StrLaws.join_split z " "
  rw [h] at e
  have key : ∀ (l : List Str) (x : Str), x ∈ l → (tl x).length ≤ (joinL (tl " ") (l.map tl)).length ∧ ∀ c ∈ tl x, c ∈ joinL (tl " ") (l.map tl) := by
    intro l
    induction l with
    | nil => intro x hx; cases hx
    | cons a r ih =>
      intro x hx
      cases r with
      | nil =>
        rw [List.mem_singleton.mp hx]
        exact ⟨Nat.le_refl _, fun c hc => hc⟩
      | cons b r =>
        rcases List.mem_cons.mp hx with rfl | hx
        · exact ⟨by show _ ≤ (tl x ++ (tl " " ++ joinL (tl " ") ((b :: r).map tl))).length; rw [List.length_append]; omega, fun c hc => List.mem_append_left _ hc⟩
        · have q := ih x hx
          refine ⟨?_, fun c hc => List.mem_append_right _ (List.mem_append_right _ (q.2 c hc))⟩
          show _ ≤ (tl a ++ (tl " " ++ joinL (tl " ") ((b :: r).map tl))).length
          rw [List.length_append, List.length_append]
          have := q.1
          omega
  intro x hx
  have q := key ws x hx
  rw [← tl_join, e] at q
  exact ⟨by rw [len_tl, len_tl]; exact q.1, q.2⟩
theorem strOk_tl {z : Str} : PyData.strOk z = true ↔ ∀ c ∈ tl z, c < 0x110000 := by
  unfold PyData.strOk
  simp only [Array.all_eq_true']
  constructor
  · intro h c hc
    exact of_decide_eq_true (h c (by simpa using hc))
  · intro h c hc
    exact decide_eq_true (h c (by simpa using hc))
theorem str_shaped {z : Str} (h : PyData.strOk z = true) : SeqAt.shaped (.str z) = true := by
  show (PyData.strOk z && decide (PyData.depth (.str z) ≤ 64)) = true
  rw [h]
  rfl
/-- len of a list or tuple, the written part by its name -/
def rLenK (K : PySem.W.Frag) : List V → Hp → VK → Prop := fun xs H Q => ∃ p ys, xs = [V.ref p] ∧ (SqL K H p ys ∨ SqT K H p ys) ∧ Q (.int ys.length) H
theorem kpi_same2 {H H1 : Hp} {x dx : Addr} {o o2 : HO} (hx : H x = none) (hdx : H dx = none) (k : KpI x (upd (upd H dx o) x o2) H1) : Same H H1 := fun b u e => by
  have n1 : b ≠ x := ne_of_none e hx
  have n2 : b ≠ dx := ne_of_none e hdx
  exact k b u (by rw [upd_ne n1, upd_ne n2]; exact e) n1
theorem ins_same2 {H : Hp} {x dx : Addr} {o o2 : HO} (hx : H x = none) (hdx : H dx = none) : Same H (upd (upd H dx o) x o2) := fun b u e => by
  rw [upd_ne (ne_of_none e hx), upd_ne (ne_of_none e hdx)]
  exact e
theorem skip_pos {n : Nat} (h : skipD (.int (n : Int)) = true) : n ≠ 0 := fun z => by
  subst z
  exact absurd h (by decide)
theorem skip_of {n : Nat} (h : n ≠ 0) : skipD (.int (n : Int)) = true := by
  show (decide ((0 : Int) ≤ (n : Int)) && decide ((n : Int) ≠ 0)) = true
  rw [decide_eq_true (show (0 : Int) ≤ (n : Int) by omega), decide_eq_true (show (n : Int) ≠ 0 by omega)]
  rfl
theorem set_of {n : Nat} : setD (.int (n : Int)) = true := decide_eq_true (show (0 : Int) ≤ (n : Int) by omega)
end Pn

namespace Pn
open PySem L2
abbrev sPools : Stmt := top 55
/-- a pool of names: counters, parts, open places, labels -/
structure Pool where
  c : List Str
  p : List Str
  x : List Str
  l : List Str
def poolsD : List Pool := [⟨["c", "f", "r"], ["p", "pic", "fig", "text"], ["x", "y"], ["cat", "dog"]⟩, ⟨["a", "ab", "abc"], ["a", "aa", "ab", "b"], ["b", "bb"], ["a", "z"]⟩, ⟨["n", "nn", "m"], ["z", "y", "x", "w"], ["n", "o"], ["x", "n"]⟩]
structure Pool.Fine (d : Pool) : Prop where
  cl : d.c.length = 3
  pl : d.p.length = 4
  xl : d.x.length = 2
  ll : d.l.length = 2
  cn : d.c.Nodup
  pn : d.p.Nodup
  names : ∀ y ∈ d.c ++ d.p ++ d.x ++ d.l, nameS y = true
theorem pool_fine : ∀ d ∈ poolsD, d.Fine := fun d hd => by
  have h : ∀ d ∈ poolsD, ((decide (d.c.length = 3) && decide (d.p.length = 4) && decide (d.x.length = 2) && decide (d.l.length = 2)) && (decide d.c.Nodup && decide d.p.Nodup)) && (d.c ++ d.p ++ d.x ++ d.l).all nameS = true := List.all_eq_true.mp (by decide +kernel)
  have q := h d hd
  simp only [Bool.and_eq_true, decide_eq_true_eq] at q
  obtain ⟨⟨⟨⟨⟨q1, q2⟩, q3⟩, q4⟩, q5, q6⟩, q7⟩ := q
  exact ⟨q1, q2, q3, q4, q5, q6, List.all_eq_true.mp q7⟩
/-- a pool as it stands -/
def PoolAt (H : Hp) (a : Addr) (d : Pool) : Prop := ∃ a0 a1 a2 a3 : Addr, H a = some (.lst [.ref a0, .ref a1, .ref a2, .ref a3]) ∧ H a0 = some (.lst (d.c.map V.str)) ∧ H a1 = some (.lst (d.p.map V.str)) ∧ H a2 = some (.lst (d.x.map V.str)) ∧ H a3 = some (.lst (d.l.map V.str))
section
variable {P : Program} {w : World} {K : PySem.W.Frag} {mg : Str → Option Value} {base : Heap}
def spPools : Sp := fun vs H Q _ => ∃ b : Addr, vs = [.ref b] ∧ BoxAt H b ∧ ∀ (a : Addr) (d : Pool) (H' : Hp), d ∈ poolsD → BoxAt H' b → Kp b H H' → PoolAt (dif H H') a d → Q (.ref a) H'
theorem scPools : FnScope ["_law_box", "_law_first", "_law_second", "_law_third"] ["_law_box"] (defScope sPools) := ⟨rfl, rfl, rfl, by decide +kernel, rfl, by decide +kernel, by decide +kernel⟩
theorem ok_pools {f : Addr} {fd : FuncData} (F : Fun K "_law_pools" "_law_pools" sPools f fd) (T : TDraw K mg) : FnOk P w K mg base CX0 3 f fd ["_law_box"] spPools := by
  refine F.ok scPools (fun vs H Q E h => ?_) (fun cdv A outer s H vs Q E hr h => ?_)
  · obtain ⟨b, rfl, _⟩ := h
    rfl
  · obtain ⟨b, rfl, ⟨x, y, hB, hb⟩, k⟩ := h
    refine ⟨_, pss_cons (ps_set (i := 1) scPools.nd rfl (Or.inl rfl) (pe_lst (pa_cons (pe_lst (pa_cons pe_str (pa_cons pe_str (pa_cons pe_str pa_nil)))) (pa_cons (pe_lst (pa_cons pe_str (pa_cons pe_str (pa_cons pe_str (pa_cons pe_str pa_nil))))) (pa_cons (pe_lst (pa_cons pe_str (pa_cons pe_str pa_nil))) (pa_cons (pe_lst (pa_cons pe_str (pa_cons pe_str pa_nil))) pa_nil))))))
      (pss_cons (ps_set (i := 2) scPools.nd rfl (Or.inl rfl) (pe_lst (pa_cons (pe_lst (pa_cons pe_str (pa_cons pe_str (pa_cons pe_str pa_nil)))) (pa_cons (pe_lst (pa_cons pe_str (pa_cons pe_str (pa_cons pe_str (pa_cons pe_str pa_nil))))) (pa_cons (pe_lst (pa_cons pe_str (pa_cons pe_str pa_nil))) (pa_cons (pe_lst (pa_cons pe_str (pa_cons pe_str pa_nil))) pa_nil))))))
      (pss_cons (ps_set (i := 3) scPools.nd rfl (Or.inl rfl) (pe_lst (pa_cons (pe_lst (pa_cons pe_str (pa_cons pe_str (pa_cons pe_str pa_nil)))) (pa_cons (pe_lst (pa_cons pe_str (pa_cons pe_str (pa_cons pe_str (pa_cons pe_str pa_nil))))) (pa_cons (pe_lst (pa_cons pe_str (pa_cons pe_str pa_nil))) (pa_cons (pe_lst (pa_cons pe_str (pa_cons pe_str pa_nil))) pa_nil))))))
      (pss_one (ps_ret (pe_call T.okOne hr rfl T.one.m T.one.F.kp T.one.b .nil pass0 (pa_cons (pv 0) (pa_cons (pe_lst (pa_cons (pv 1) (pa_cons (pv 2) (pa_cons (pv 3) pa_nil)))) pa_nil))))))), ?_⟩
    refine ⟨(by show 3 ≤ sizeLine; decide), fun a00 h1 => ?_⟩
    refine ⟨(by show 4 ≤ sizeLine; decide), fun a01 h2 => ?_⟩
    refine ⟨(by show 2 ≤ sizeLine; decide), fun a02 h3 => ?_⟩
    refine ⟨(by show 2 ≤ sizeLine; decide), fun a03 h4 => ?_⟩
    refine ⟨(by show 4 ≤ sizeLine; decide), fun p0 h5 => ?_⟩
    refine ⟨(by show 3 ≤ sizeLine; decide), fun a10 h6 => ?_⟩
    refine ⟨(by show 4 ≤ sizeLine; decide), fun a11 h7 => ?_⟩
    refine ⟨(by show 2 ≤ sizeLine; decide), fun a12 h8 => ?_⟩
    refine ⟨(by show 2 ≤ sizeLine; decide), fun a13 h9 => ?_⟩
    refine ⟨(by show 4 ≤ sizeLine; decide), fun p1 h10 => ?_⟩
    refine ⟨(by show 3 ≤ sizeLine; decide), fun a20 h11 => ?_⟩
    refine ⟨(by show 4 ≤ sizeLine; decide), fun a21 h12 => ?_⟩
    refine ⟨(by show 2 ≤ sizeLine; decide), fun a22 h13 => ?_⟩
    refine ⟨(by show 2 ≤ sizeLine; decide), fun a23 h14 => ?_⟩
    refine ⟨(by show 4 ≤ sizeLine; decide), fun p2 h15 => ?_⟩
    refine ⟨_, rfl, _, rfl, _, rfl, _, rfl, (by show 3 ≤ sizeLine; decide), fun q h16 => ?_⟩
    have hbq := fun o => Same.new (o := o) h16 b _ (Same.new h15 b _ (Same.new h14 b _ (Same.new h13 b _ (Same.new h12 b _ (Same.new h11 b _ (Same.new h10 b _ (Same.new h9 b _ (Same.new h8 b _ (Same.new h7 b _ (Same.new h6 b _ (Same.new h5 b _ (Same.new h4 b _ (Same.new h3 b _ (Same.new h2 b _ (Same.new h1 b _ hb)))))))))))))))
    have kq : ∀ o, Kp b H _ := fun o => ((((((((((((((((Kp.refl b H).new h1).new h2).new h3).new h4).new h5).new h6).new h7).new h8).new h9).new h10).new h11).new h12).new h13).new h14).new h15).new (o := o) h16
    have f_a00 : H a00 = none := h1
    have f_a01 : H a01 = none := Same.free (Same.new h1) h2
    have f_a02 : H a02 = none := Same.free ((Same.new h1).trans (Same.new h2)) h3
    have f_a03 : H a03 = none := Same.free (((Same.new h1).trans (Same.new h2)).trans (Same.new h3)) h4
    have f_p0 : H p0 = none := Same.free ((((Same.new h1).trans (Same.new h2)).trans (Same.new h3)).trans (Same.new h4)) h5
    have f_a10 : H a10 = none := Same.free (((((Same.new h1).trans (Same.new h2)).trans (Same.new h3)).trans (Same.new h4)).trans (Same.new h5)) h6
    have f_a11 : H a11 = none := Same.free ((((((Same.new h1).trans (Same.new h2)).trans (Same.new h3)).trans (Same.new h4)).trans (Same.new h5)).trans (Same.new h6)) h7
    have f_a12 : H a12 = none := Same.free (((((((Same.new h1).trans (Same.new h2)).trans (Same.new h3)).trans (Same.new h4)).trans (Same.new h5)).trans (Same.new h6)).trans (Same.new h7)) h8
    have f_a13 : H a13 = none := Same.free ((((((((Same.new h1).trans (Same.new h2)).trans (Same.new h3)).trans (Same.new h4)).trans (Same.new h5)).trans (Same.new h6)).trans (Same.new h7)).trans (Same.new h8)) h9
    have f_p1 : H p1 = none := Same.free (((((((((Same.new h1).trans (Same.new h2)).trans (Same.new h3)).trans (Same.new h4)).trans (Same.new h5)).trans (Same.new h6)).trans (Same.new h7)).trans (Same.new h8)).trans (Same.new h9)) h10
    have f_a20 : H a20 = none := Same.free ((((((((((Same.new h1).trans (Same.new h2)).trans (Same.new h3)).trans (Same.new h4)).trans (Same.new h5)).trans (Same.new h6)).trans (Same.new h7)).trans (Same.new h8)).trans (Same.new h9)).trans (Same.new h10)) h11
    have f_a21 : H a21 = none := Same.free (((((((((((Same.new h1).trans (Same.new h2)).trans (Same.new h3)).trans (Same.new h4)).trans (Same.new h5)).trans (Same.new h6)).trans (Same.new h7)).trans (Same.new h8)).trans (Same.new h9)).trans (Same.new h10)).trans (Same.new h11)) h12
    have f_a22 : H a22 = none := Same.free ((((((((((((Same.new h1).trans (Same.new h2)).trans (Same.new h3)).trans (Same.new h4)).trans (Same.new h5)).trans (Same.new h6)).trans (Same.new h7)).trans (Same.new h8)).trans (Same.new h9)).trans (Same.new h10)).trans (Same.new h11)).trans (Same.new h12)) h13
    have f_a23 : H a23 = none := Same.free (((((((((((((Same.new h1).trans (Same.new h2)).trans (Same.new h3)).trans (Same.new h4)).trans (Same.new h5)).trans (Same.new h6)).trans (Same.new h7)).trans (Same.new h8)).trans (Same.new h9)).trans (Same.new h10)).trans (Same.new h11)).trans (Same.new h12)).trans (Same.new h13)) h14
    have f_p2 : H p2 = none := Same.free ((((((((((((((Same.new h1).trans (Same.new h2)).trans (Same.new h3)).trans (Same.new h4)).trans (Same.new h5)).trans (Same.new h6)).trans (Same.new h7)).trans (Same.new h8)).trans (Same.new h9)).trans (Same.new h10)).trans (Same.new h11)).trans (Same.new h12)).trans (Same.new h13)).trans (Same.new h14)) h15
    refine ⟨b, q, _, rfl, ⟨x, y, hB, hbq _⟩, SqL.of upd_same, (ne_of_none ((Same.new h15 b _ (Same.new h14 b _ (Same.new h13 b _ (Same.new h12 b _ (Same.new h11 b _ (Same.new h10 b _ (Same.new h9 b _ (Same.new h8 b _ (Same.new h7 b _ (Same.new h6 b _ (Same.new h5 b _ (Same.new h4 b _ (Same.new h3 b _ (Same.new h2 b _ (Same.new h1 b _ hb)))))))))))))))) h16).symm, (by show 0 < 3; decide), (by show 3 < 1000000; decide), fun v H' hv hB' hk _ => ?_⟩
    have g_a00 := hk a00 _ (Same.new h16 a00 _ (Same.new h15 a00 _ (Same.new h14 a00 _ (Same.new h13 a00 _ (Same.new h12 a00 _ (Same.new h11 a00 _ (Same.new h10 a00 _ (Same.new h9 a00 _ (Same.new h8 a00 _ (Same.new h7 a00 _ (Same.new h6 a00 _ (Same.new h5 a00 _ (Same.new h4 a00 _ (Same.new h3 a00 _ (Same.new h2 a00 _ upd_same))))))))))))))) (fun z => by rw [z, hb] at f_a00; cases f_a00)
    have g_a01 := hk a01 _ (Same.new h16 a01 _ (Same.new h15 a01 _ (Same.new h14 a01 _ (Same.new h13 a01 _ (Same.new h12 a01 _ (Same.new h11 a01 _ (Same.new h10 a01 _ (Same.new h9 a01 _ (Same.new h8 a01 _ (Same.new h7 a01 _ (Same.new h6 a01 _ (Same.new h5 a01 _ (Same.new h4 a01 _ (Same.new h3 a01 _ upd_same)))))))))))))) (fun z => by rw [z, hb] at f_a01; cases f_a01)
    have g_a02 := hk a02 _ (Same.new h16 a02 _ (Same.new h15 a02 _ (Same.new h14 a02 _ (Same.new h13 a02 _ (Same.new h12 a02 _ (Same.new h11 a02 _ (Same.new h10 a02 _ (Same.new h9 a02 _ (Same.new h8 a02 _ (Same.new h7 a02 _ (Same.new h6 a02 _ (Same.new h5 a02 _ (Same.new h4 a02 _ upd_same))))))))))))) (fun z => by rw [z, hb] at f_a02; cases f_a02)
    have g_a03 := hk a03 _ (Same.new h16 a03 _ (Same.new h15 a03 _ (Same.new h14 a03 _ (Same.new h13 a03 _ (Same.new h12 a03 _ (Same.new h11 a03 _ (Same.new h10 a03 _ (Same.new h9 a03 _ (Same.new h8 a03 _ (Same.new h7 a03 _ (Same.new h6 a03 _ (Same.new h5 a03 _ upd_same)))))))))))) (fun z => by rw [z, hb] at f_a03; cases f_a03)
    have g_p0 := hk p0 _ (Same.new h16 p0 _ (Same.new h15 p0 _ (Same.new h14 p0 _ (Same.new h13 p0 _ (Same.new h12 p0 _ (Same.new h11 p0 _ (Same.new h10 p0 _ (Same.new h9 p0 _ (Same.new h8 p0 _ (Same.new h7 p0 _ (Same.new h6 p0 _ upd_same))))))))))) (fun z => by rw [z, hb] at f_p0; cases f_p0)
    have g_a10 := hk a10 _ (Same.new h16 a10 _ (Same.new h15 a10 _ (Same.new h14 a10 _ (Same.new h13 a10 _ (Same.new h12 a10 _ (Same.new h11 a10 _ (Same.new h10 a10 _ (Same.new h9 a10 _ (Same.new h8 a10 _ (Same.new h7 a10 _ upd_same)))))))))) (fun z => by rw [z, hb] at f_a10; cases f_a10)
    have g_a11 := hk a11 _ (Same.new h16 a11 _ (Same.new h15 a11 _ (Same.new h14 a11 _ (Same.new h13 a11 _ (Same.new h12 a11 _ (Same.new h11 a11 _ (Same.new h10 a11 _ (Same.new h9 a11 _ (Same.new h8 a11 _ upd_same))))))))) (fun z => by rw [z, hb] at f_a11; cases f_a11)
    have g_a12 := hk a12 _ (Same.new h16 a12 _ (Same.new h15 a12 _ (Same.new h14 a12 _ (Same.new h13 a12 _ (Same.new h12 a12 _ (Same.new h11 a12 _ (Same.new h10 a12 _ (Same.new h9 a12 _ upd_same)))))))) (fun z => by rw [z, hb] at f_a12; cases f_a12)
    have g_a13 := hk a13 _ (Same.new h16 a13 _ (Same.new h15 a13 _ (Same.new h14 a13 _ (Same.new h13 a13 _ (Same.new h12 a13 _ (Same.new h11 a13 _ (Same.new h10 a13 _ upd_same))))))) (fun z => by rw [z, hb] at f_a13; cases f_a13)
    have g_p1 := hk p1 _ (Same.new h16 p1 _ (Same.new h15 p1 _ (Same.new h14 p1 _ (Same.new h13 p1 _ (Same.new h12 p1 _ (Same.new h11 p1 _ upd_same)))))) (fun z => by rw [z, hb] at f_p1; cases f_p1)
    have g_a20 := hk a20 _ (Same.new h16 a20 _ (Same.new h15 a20 _ (Same.new h14 a20 _ (Same.new h13 a20 _ (Same.new h12 a20 _ upd_same))))) (fun z => by rw [z, hb] at f_a20; cases f_a20)
    have g_a21 := hk a21 _ (Same.new h16 a21 _ (Same.new h15 a21 _ (Same.new h14 a21 _ (Same.new h13 a21 _ upd_same)))) (fun z => by rw [z, hb] at f_a21; cases f_a21)
    have g_a22 := hk a22 _ (Same.new h16 a22 _ (Same.new h15 a22 _ (Same.new h14 a22 _ upd_same))) (fun z => by rw [z, hb] at f_a22; cases f_a22)
    have g_a23 := hk a23 _ (Same.new h16 a23 _ (Same.new h15 a23 _ upd_same)) (fun z => by rw [z, hb] at f_a23; cases f_a23)
    have g_p2 := hk p2 _ (Same.new h16 p2 _ upd_same) (fun z => by rw [z, hb] at f_p2; cases f_p2)
    have kp := (kq _).trans hk
    clear hk hbq kq h1 h2 h3 h4 h5 h6 h7 h8 h9 h10 h11 h12 h13 h14 h15 h16
    simp only [List.mem_cons, List.not_mem_nil, or_false] at hv
    rcases hv with rfl | rfl | rfl
    · exact k _ ⟨["c", "f", "r"], ["p", "pic", "fig", "text"], ["x", "y"], ["cat", "dog"]⟩ H' (List.mem_cons_self) hB' kp ⟨a00, a01, a02, a03, dif_new f_p0 g_p0, dif_new f_a00 g_a00, dif_new f_a01 g_a01, dif_new f_a02 g_a02, dif_new f_a03 g_a03⟩
    · exact k _ ⟨["a", "ab", "abc"], ["a", "aa", "ab", "b"], ["b", "bb"], ["a", "z"]⟩ H' (List.mem_cons_of_mem _ List.mem_cons_self) hB' kp ⟨a10, a11, a12, a13, dif_new f_p1 g_p1, dif_new f_a10 g_a10, dif_new f_a11 g_a11, dif_new f_a12 g_a12, dif_new f_a13 g_a13⟩
    · exact k _ ⟨["n", "nn", "m"], ["z", "y", "x", "w"], ["n", "o"], ["x", "n"]⟩ H' (List.mem_cons_of_mem _ (List.mem_cons_of_mem _ List.mem_cons_self)) hB' kp ⟨a20, a21, a22, a23, dif_new f_p2 g_p2, dif_new f_a20 g_a20, dif_new f_a21 g_a21, dif_new f_a22 g_a22, dif_new f_a23 g_a23⟩
end
end Pn

namespace Pn
open PySem L2
abbrev sCounters : Stmt := top 56
/-- counters as they stand: a list of pairs -/
def CsAt (H : Hp) (c : Addr) (cs : List (Str × Str)) : Prop := ∃ ts : List Addr, H c = some (.lst (ts.map V.ref)) ∧ Paired (fun t p => H t = some (.tup [.str p.1, .str p.2])) ts cs
/-- each upper one stands ahead -/
def TreeOk (cs : List (Str × Str)) : Prop := ∀ (i : Nat) (p : Str × Str), cs[i]? = some p → p.2 = "" ∨ p.2 ∈ (cs.take i).map (·.1)
theorem tree_snoc {cs : List (Str × Str)} {p : Str × Str} (h : TreeOk cs) (hp : p.2 = "" ∨ p.2 ∈ cs.map (·.1)) : TreeOk (cs ++ [p]) := fun i q hq => by
  by_cases hi : i < cs.length
  · rw [List.getElem?_append_left hi] at hq
    rcases h i q hq with e | e
    · exact .inl e
    · refine .inr ?_
      rw [List.take_append_of_le_length (by omega)]
      exact e
  · rw [List.getElem?_append_right (by omega)] at hq
    have h0 : i - cs.length = 0 := by
      cases h1 : i - cs.length with
      | zero => rfl
      | succ n => rw [h1] at hq; simp at hq
    rw [h0] at hq
    have e : p = q := by simpa using hq
    subst e
    rcases hp with e | e
    · exact .inl e
    · refine .inr ?_
      rw [show i = cs.length by omega, List.take_left']
      · exact e
      · rfl
theorem paired_mono {α β : Type} {R S : α → β → Prop} (h : ∀ a b, R a b → S a b) : ∀ {l : List α} {m : List β}, Paired R l m → Paired S l m
  | _, _, .nil => .nil
  | _, _, .cons a b => .cons (h _ _ a) (paired_mono h b)
theorem paired_snoc {α β : Type} {R : α → β → Prop} {x : α} {y : β} (h : R x y) : ∀ {l : List α} {m : List β}, Paired R l m → Paired R (l ++ [x]) (m ++ [y])
  | _, _, .nil => .cons h .nil
  | _, _, .cons a b => .cons a (paired_snoc h b)
theorem paired_at {α β : Type} {R : α → β → Prop} : ∀ {l : List α} {m : List β} {i : Nat} {x : α}, Paired R l m → l[i]? = some x → ∃ y, m[i]? = some y ∧ R x y
  | _, _, _, _, .nil, h => by simp at h
  | _, _, 0, _, .cons a _, h => by
    have e := Option.some.inj h
    subst e
    exact ⟨_, rfl, a⟩
  | _, _, i + 1, _, .cons _ b, h => paired_at (i := i) b h
theorem paired_len {α β : Type} {R : α → β → Prop} : ∀ {l : List α} {m : List β}, Paired R l m → l.length = m.length
  | _, _, .nil => rfl
  | _, _, .cons _ b => by rw [List.length_cons, List.length_cons, paired_len b]
section
variable {P : Program} {w : World} {K : PySem.W.Frag} {mg : Str → Option Value} {base : Heap}
structure TCnt (K : PySem.W.Frag) (mg : Str → Option Value) : Type extends TDraw K mg where
  mR : mg "range" = none
  counters : At K mg "_law_counters" sCounters ["_law_box", "_law_pool", "_law_many"]
def spCounters (K : PySem.W.Frag) : Sp := fun vs H Q _ => ∃ (b p : Addr) (m : Nat) (l : List Str), vs = [.ref b, .ref p, .int (m : Int)] ∧ BoxAt H b ∧ SqL K H p (l.map V.str) ∧ p ≠ b ∧ 0 < m ∧ m ≤ l.length ∧ l.length ≤ 100 ∧
  ∀ (c : Addr) (cs : List (Str × Str)) (H' : Hp), Kp b H H' → BoxAt H' b → CsAt (dif H H') c cs → 0 < cs.length → cs.length ≤ m → cs.map (·.1) = l.take cs.length → TreeOk cs → Q (.ref c) H'
theorem scCounters : FnScope ["_law_box", "_law_pool", "_law_many", "_law_found", "_law_at", "_law_uppers", "_law_name", "_law_upper"] ["_law_box", "_law_pool", "_law_many"] (defScope sCounters) := ⟨rfl, rfl, rfl, by decide +kernel, rfl, by decide +kernel, by decide +kernel⟩
theorem ok_counters (T : TCnt K mg) : FnOk P w K mg base CX0 3 T.counters.f T.counters.fd ["_law_box", "_law_pool", "_law_many"] (spCounters K) := by
  refine T.counters.F.ok scCounters (fun vs H Q E h => ?_) (fun cdv A outer s H vs Q E hr h => ?_)
  · obtain ⟨b, p, m, l, rfl, _⟩ := h
    rfl
  · obtain ⟨b, p, m, l, rfl, hB, hp, npb, m0, m1, hl, q⟩ := h
    refine ⟨_, pss_cons (ps_set (i := 3) scCounters.nd rfl (Or.inl rfl) (pe_lst pa_nil))
      (pss_cons (ps_for PassesOwn.never rfl (pi_range1 rfl T.mR (pa_cons (pe_op op_add pe_int (pe_call T.okChoose (hr.mono (by decide)) rfl T.choose.m T.choose.F.kp T.choose.b .nil pass0 (pa_cons (pv 0) (pa_cons (pv 2) pa_nil)))) pa_nil)) (pg_name (i := 4) scCounters.nd rfl (Or.inl rfl))
        (pss_cons (ps_set (i := 5) scCounters.nd rfl (Or.inl rfl) (pe_op op_cat (pe_lst (pa_cons pe_str pa_nil)) (pe_lc (own := [("_law_name", 6), ("_law_upper", 7)]) (g := gTup K 2 (gCons (gName 6) (gCons (gName 7) gNil))) (tt := tYes) (by rfl) scCounters.nd (pi_list (pv 3))
            (blkOk_by (N := ["_law_box", "_law_pool", "_law_many", "_law_found", "_law_at", "_law_uppers", "_law_name", "_law_upper"]) (sc := defScope sCounters) (by decide +kernel))
            (fun _ _ _ _ _ => pg_tup (by rfl) (pgs_cons (pg_name (i := 6) scCounters.nd rfl (Or.inl rfl)) (pgs_cons (pg_name (i := 7) scCounters.nd rfl (Or.inl rfl)) pgs_nil))) (fun _ _ _ _ _ => pts_nil) (fun _ _ _ _ _ => pv 6))))
        (pss_one (ps_expr (pe_bm PySem.F.plainAttrs_list PySem.F.slot_list_append PySem.F.type_list_append mt_append (pv 3) (pa_cons (pe_tup (pa_cons (pe_ix ix_list (pv 1) (pv 4) (fun _ _ => rfl)) (pa_cons (pe_call T.okOne (hr.mono (by decide)) rfl T.one.m T.one.F.kp T.one.b .nil pass0 (pa_cons (pv 0) (pa_cons (pe_op op_cat (pv 5) (pe_slice sl_list (pv 5) (po_some pe_int) po_none)) pa_nil))) pa_nil))) pa_nil))))))
      (pss_one (ps_ret (pv 3)))), ?_⟩
    refine ⟨Nat.zero_le _, fun F hF => ?_⟩
    obtain ⟨xb, yb, hxy, hb⟩ := id hB
    have hFb : F ≠ b := (ne_of_none hb hF).symm
    refine ⟨_, rfl, _, rfl, b, (m : Int), rfl, ⟨xb, yb, hxy, Same.new hF b _ hb⟩, by omega, by omega, fun r H2 r0 r1 hB2 kp2 _ => ?_⟩
    have kpH2 : Kp b H H2 := ((Kp.refl b H).new hF).trans kp2
    have hF2 : H2 F = some (.lst []) := kp2 F _ upd_same hFb
    refine ⟨_, _, rfl, rfl, _, rfl, by omega, by omega, for_range (lo := 0) (fun i σ Hi => ∃ x4 x5 x6 x7 cs ts, σ = [some (.ref b), some (.ref p), some (.int (m : Int)), some (.ref F), x4, x5, x6, x7] ∧ Kp b H Hi ∧ BoxAt Hi b ∧ Hi F = some (.lst ((ts : List Addr).map V.ref)) ∧
      Paired (fun t p => dif H Hi t = some (.tup [.str p.1, .str p.2])) ts cs ∧ cs.length = i ∧ cs.map (·.1) = l.take i ∧ TreeOk cs) ⟨_, _, _, _, [], [], rfl, kpH2, hB2, hF2, .nil, rfl, rfl, fun i p h => by simp at h⟩ (fun i σ Hi hi hP => ?turn) (fun σ Hi hP => ?fin)⟩
    case fin =>
      obtain ⟨x4, x5, x6, x7, cs, ts, rfl, kp, hBi, hFi, hpd, hlen, htk, hT⟩ := hP
      refine ⟨_, rfl, ?_⟩
      have hn : cs.length = (1 + r).toNat := hlen
      exact q F cs Hi kp hBi ⟨ts, dif_new hF hFi, hpd⟩ (by omega) (by omega) (by rw [hn]; exact htk) hT
    case turn =>
      obtain ⟨x4, x5, x6, x7, cs, ts, rfl, kp, ⟨xi, yi, hxyi, hbi⟩, hFi, hpd, hlen, htk, hT⟩ := hP
      have hi2 : i < m := by omega
      have hil : i < l.length := by omega
      have hts : ts.length = i := by rw [paired_len hpd, hlen]
      have hpi : SqL K Hi p (l.map V.str) := kp.sql npb hp
      refine ⟨(by show 1 ≤ sizeLine; decide), fun u0 hu0 => ?_⟩
      have hF3 := fun o => Same.new (o := o) hu0 F _ hFi
      refine ⟨_, rfl, F, rfl, ⟨_, SqL.of (hF3 _)⟩, fun D hD => lc_list (K := K) (a := F) (xs := ts.map V.ref) (fun j Hj => Hj = upd (upd Hi u0 (.lst [.str ""])) D (.lst ((List.range j).map fun j => .str ((cs.map (·.1)).getD j "")))) rfl (fun j Hj _ hP => ?stays) (fun j x Hj hj hP => ?cturn) (fun Hj hP => ?cend)⟩
      case stays =>
        subst hP
        exact SqL.of (Same.new hD F _ (hF3 _))
      case cturn =>
        subst hP
        obtain ⟨t, ht, rfl⟩ : ∃ t, ts[j]? = some t ∧ x = V.ref t := by
          rw [List.getElem?_map] at hj
          cases hk : ts[j]? with
          | none => rw [hk] at hj; cases hj
          | some t => rw [hk] at hj; exact ⟨t, rfl, (Option.some.inj hj).symm⟩
        obtain ⟨pr, hpr, htt⟩ := paired_at hpd ht
        have htH := (dif_eq.mp htt).2
        have htD := Same.new (o := .lst ((List.range j).map fun j => .str ((cs.map (·.1)).getD j ""))) hD t _ (Same.new hu0 t _ htH)
        have hjl : j < ts.length := (List.getElem?_eq_some_iff.mp ht).1
        have fin := lc_step (H1 := upd Hi u0 (.lst [.str ""])) (D := D) (f := fun j => .str ((cs.map (·.1)).getD j "")) (i := j) (by omega)
        have hg : (cs.map (·.1)).getD j ("" : Str) = pr.1 := by
          rw [List.getD_eq_getElem?_getD, List.getElem?_map, hpr]
          rfl
        rw [hg] at fin
        exact ⟨t, _, rfl, SqT.of htD, rfl, _, _, rfl, _, _, rfl, rfl, rfl, _, rfl, fin⟩
      case cend =>
        subst hP
        have hnames : ((List.range (ts.map V.ref).length).map fun j => V.str ((cs.map (·.1)).getD j "")) = (cs.map (·.1)).map V.str := by
          apply List.ext_getElem
          · simp [hts, hlen]
          · intro k h1 h2
            have h3 : k < cs.length := by simpa using h2
            simp [List.getD_eq_getElem?_getD, List.getElem?_eq_getElem h3]
        rw [hnames]
        generalize hG : upd (upd Hi u0 (.lst [.str ""])) D (.lst ((cs.map (·.1)).map V.str)) = G
        have sG : Same Hi G := by rw [← hG]; exact (Same.new hu0).trans (Same.new hD)
        have gu : G u0 = some (.lst [.str ""]) := by rw [← hG]; exact Same.new hD u0 _ upd_same
        have gD : G D = some (.lst ((cs.map (·.1)).map V.str)) := by rw [← hG]; exact upd_same
        clear hG
        have hln : ((cs.map (·.1)).map V.str).length = i := by rw [List.length_map, List.length_map, hlen]
        refine ⟨u0, D, _, _, rfl, rfl, gu, gD, Nat.le_trans (show _ ≤ 101 by rw [hln]; simp; omega) (by decide), fun U hU => ?_⟩
        -- found.append((pool[at], one_of(box, uppers + uppers[1:])))
        have hul : ([.str ""] ++ (cs.map (·.1)).map V.str : List V).length = i + 1 := by rw [List.length_append, hln]; simp; omega
        have hp5 : ∀ o, SqL K (upd G U o) p (l.map V.str) := fun o => (Same.new hU).seq (sG.seq hpi)
        have hF5 : ∀ o, (upd G U o) F = some (.lst (ts.map V.ref)) := fun o => Same.new hU F _ (sG F _ hFi)
        have hb5 : ∀ o, (upd G U o) b = some (.lst [.int xi, .int yi]) := fun o => Same.new hU b _ (sG b _ hbi)
        refine ⟨_, rfl, .inl ⟨rfl, _, SqL.of (hF5 _)⟩, _, rfl, _, rfl, p, _, _, .str l[i], rfl, rfl, hp5 _, ?at_, _, rfl, _, rfl, _, rfl, 1, rfl, U, _, rfl, SqL.of upd_same, fun S hS => ?_⟩
        case at_ =>
          rw [Int.zero_add]
          exact atI_nat (by rw [List.getElem?_map, List.getElem?_eq_getElem hil]; rfl)
        have hcl := cutV_length ([.str ""] ++ (cs.map (·.1)).map V.str) (some 1) none
        refine ⟨U, S, _, _, rfl, rfl, Same.new hS U _ upd_same, upd_same, Nat.le_trans (show _ ≤ 202 by rw [hul] at hcl ⊢; omega) (by decide), fun W hW => ?_⟩
        have hb6 := fun o => Same.new (o := o) hW b _ (Same.new hS b _ (hb5 _))
        refine ⟨b, W, _, rfl, ⟨xi, yi, hxyi, hb6 _⟩, SqL.of upd_same, (ne_of_none (Same.new hS b _ (hb5 _)) hW).symm, by rw [List.length_append, hul]; omega, by rw [List.length_append, hul]; rw [hul] at hcl; omega, fun v H' hv hB' hk' _ => ?_⟩
        have hv2 : v ∈ ([.str ""] ++ (cs.map (·.1)).map V.str : List V) := by
          rcases List.mem_append.mp hv with h | h
          · exact h
          · unfold cutV at h
            exact List.mem_of_mem_drop (List.mem_of_mem_take h)
        obtain ⟨uu, rfl, huu⟩ : ∃ uu : Str, v = .str uu ∧ (uu = "" ∨ uu ∈ cs.map (·.1)) := by
          rcases List.mem_append.mp hv2 with h | h
          · exact ⟨"", List.mem_singleton.mp h, .inl rfl⟩
          · obtain ⟨uu, h1, h2⟩ := List.mem_map.mp h
            exact ⟨uu, h2.symm, .inr h1⟩
        refine ⟨(by show 2 ≤ sizeLine; decide), fun t ht => ?_⟩
        -- all that stood in Hi but the box stands
        have kk : Kp b Hi H' := (((Kp.same sG).new hU).new hS |>.new hW).trans hk'
        obtain ⟨xe, ye, hxye, hbe⟩ := id hB'
        have kkt : Kp b Hi (upd H' t (.tup [.str l[i], .str uu])) := kk.new ht
        have hFt : upd H' t (.tup [.str l[i], .str uu]) F = some (.lst (ts.map V.ref)) := kkt F _ hFi hFb
        have htH : H t = none := (kp.trans kk).mo hbe t ht
        have hFne : F ≠ t := fun z => by
          have z2 := kk F _ hFi hFb
          rw [z, ht] at z2
          cases z2
        refine ⟨F, ts.map V.ref, .ref t, rfl, rfl, hFt, small1000 (by rw [List.length_map]; omega), ?_⟩
        refine ⟨_, _, _, _, cs ++ [(l[i], uu)], ts ++ [t], rfl, fun a o ea na => ?_, ⟨xe, ye, hxye, ?_⟩, ?_, ?_, ?_, ?_, tree_snoc hT huu⟩
        · rw [upd_ne (fun z => by rw [z, hF] at ea; cases ea)]
          exact (kp.trans kkt) a o ea na
        · rw [upd_ne hFb.symm]
          exact Same.new ht b _ hbe
        · rw [upd_same, List.map_append]
          rfl
        · refine paired_snoc ?_ (paired_mono (fun a pr e => ?_) hpd)
          · refine dif_new htH ?_
            rw [upd_ne hFne.symm]
            exact upd_same
          · obtain ⟨e0, e1⟩ := dif_eq.mp e
            have nab : a ≠ b := fun z => by rw [z, hb] at e0; cases e0
            refine dif_new e0 ?_
            have naF : a ≠ F := fun z => by
              rw [z, hFi] at e1
              cases e1
            rw [upd_ne naF]
            exact kkt a _ e1 nab
        · rw [List.length_append, hlen]
          rfl
        · rw [List.map_append, htk, List.take_add_one, List.getElem?_eq_getElem hil]
          rfl
end
end Pn

namespace Pn
open PySem L2
abbrev sLRow : Stmt := top 57
/-- a row as the tuple that the law draws -/
def rowTup : RowD → List V
  | .note c l => [.str "note", .str c, .str l]
  | .skip c n => [.str "skip", .str c, .int (n : Int)]
  | .set c n => [.str "set", .str c, .int (n : Int)]
  | .keep c => [.str "keep", .str c]
  | .back c => [.str "back", .str c]
  | .ref c => [.str "ref", .str c]
  | .put c => [.str "put", .str c]
  | .opn c => [.str "open", .str c]
def rowFine (d : Pool) (cs : List (Str × Str)) (parts : List Str) : RowD → Prop
  | .note c l => c ∈ cs.map (·.1) ∧ (l = "" ∨ l ∈ d.l)
  | .skip c n => c ∈ cs.map (·.1) ∧ 1 ≤ n ∧ n ≤ 3
  | .set c n => c ∈ cs.map (·.1) ∧ n ≤ 3
  | .keep c => c ∈ cs.map (·.1)
  | .back c => c ∈ cs.map (·.1)
  | .ref _ => False
  | .put p => p ∈ parts
  | .opn x => x ∈ d.x
theorem PoolAt.mono {H H' : Hp} {a : Addr} {d : Pool} (s : Same H H') (h : PoolAt H a d) : PoolAt H' a d := by
  obtain ⟨a0, a1, a2, a3, e, e0, e1, e2, e3⟩ := h
  exact ⟨a0, a1, a2, a3, s _ _ e, s _ _ e0, s _ _ e1, s _ _ e2, s _ _ e3⟩
theorem CsAt.mono {H H' : Hp} {a : Addr} {cs : List (Str × Str)} (s : Same H H') (h : CsAt H a cs) : CsAt H' a cs := by
  obtain ⟨ts, e, p⟩ := h
  exact ⟨ts, s _ _ e, paired_mono (fun _ _ z => s _ _ z) p⟩
theorem dif_hid {b : Addr} {H H' : Hp} {o : HO} (hb : H b = some o) : Same (dif H H') (hid H' b) := fun a u e => by
  obtain ⟨e0, e1⟩ := dif_eq.mp e
  exact hid_get e1 (fun z => by rw [z, hb] at e0; cases e0)
theorem hid_ne {H : Hp} {b a : Addr} {o : HO} (h : hid H b a = some o) : a ≠ b := fun z => by
  unfold hid at h
  rw [if_pos z] at h
  cases h
theorem newAt {b t : Addr} {H Hx : Hp} {o : HO} (k : Kp b H Hx) (hx : BoxAt Hx b) (ht : Hx t = none) : dif H (upd Hx t o) t = some o := by
  obtain ⟨_, _, _, g⟩ := hx
  exact dif_new (k.mo g t ht) upd_same
theorem BoxAt.new {b t : Addr} {H : Hp} {o : HO} (h : BoxAt H b) (ht : H t = none) : BoxAt (upd H t o) b := by
  obtain ⟨x, y, e, g⟩ := h
  exact ⟨x, y, e, Same.new ht b _ g⟩
theorem BoxAt.ne {b t : Addr} {H : Hp} (h : BoxAt H b) (ht : H t = none) : t ≠ b := fun z => by
  obtain ⟨x, y, e, g⟩ := h
  rw [z, g] at ht
  cases ht
theorem strsL_nil (l : List Str) : PyData.eqv (.list (l.map PyData.str)) (.list []) = l.isEmpty := by
  cases l <;> simp [PyData.eqv, PyData.eqvAll]
theorem dp_strL {K : PySem.W.Frag} {H : Hp} : ∀ l : List Str, DpAll K H (l.map V.str) (l.map PyData.str)
  | [] => .nil
  | x :: l => .cons (.str x) (dp_strL l)
theorem strL_sh {l : List Str} (h : ∀ x ∈ l, PyData.strOk x = true) : SeqAt.shaped (.list (l.map PyData.str)) = true := by
  have q : ∀ m : List Str, (∀ x ∈ m, PyData.strOk x = true) → PyData.canLayAll0 (m.map PyData.str) = true ∧ PyData.depthAll (m.map PyData.str) = 0 := by
    intro m
    induction m with
    | nil => intro _; exact ⟨by simp [PyData.canLayAll0], by simp [PyData.depthAll]⟩
    | cons x m ih =>
      intro h
      have q := ih fun y hy => h y (List.mem_cons_of_mem _ hy)
      refine ⟨?_, by simp [PyData.depthAll, PyData.depth, q.2]⟩
      show (PyData.strOk x && PyData.canLayAll0 (m.map PyData.str)) = true
      rw [h x List.mem_cons_self, q.1]
      rfl
  have q := q l h
  show (PyData.canLay0 (.list (l.map PyData.str)) && decide (PyData.depth (.list (l.map PyData.str)) ≤ 64)) = true
  rw [Bool.and_eq_true]
  refine ⟨by simp only [PyData.canLay0]; exact q.1, decide_eq_true ?_⟩
  simp only [PyData.depth, q.2]
  decide
theorem name_ok {z : Str} (h : nameS z = true) : PyData.strOk z = true ∧ z.length ≤ 4 := by
  unfold nameS at h
  rw [Bool.and_eq_true, Bool.and_eq_true, Bool.and_eq_true] at h
  obtain ⟨⟨_, h2, h3⟩, h4⟩ := h
  refine ⟨strOk_tl.mpr fun c hc => ?_, by have := of_decide_eq_true h3; omega⟩
  have q := List.all_eq_true.mp h4 c hc
  unfold lok at q
  rw [Bool.and_eq_true] at q
  have := of_decide_eq_true q.2
  omega
section
variable {P : Program} {w : World} {K : PySem.W.Frag} {mg : Str → Option Value} {base : Heap}
structure TDRow (K : PySem.W.Frag) (mg : Str → Option Value) : Type extends TCnt K mg where
  pools : At K mg "_law_pools" sPools ["_law_box"]
  row : At K mg "_law_row" sLRow ["_law_box", "_law_pools_here", "_law_counters_here", "_law_parts"]
def spDRow (K : PySem.W.Frag) : Sp := fun vs H Q _ => ∃ (b pp cc ps : Addr) (d : Pool) (cs : List (Str × Str)) (parts : List Str), vs = [.ref b, .ref pp, .ref cc, .ref ps] ∧ BoxAt H b ∧ PoolAt (hid H b) pp d ∧ d ∈ poolsD ∧ CsAt (hid H b) cc cs ∧ 0 < cs.length ∧ cs.length ≤ 100 ∧
  SqL K H ps (parts.map V.str) ∧ ps ≠ b ∧ parts.length ≤ 100 ∧ (∀ x ∈ parts, nameS x = true) ∧
  ∀ (t : Addr) (r : RowD) (H' : Hp), Kp b H H' → BoxAt H' b → dif H H' t = some (.tup (rowTup r)) → rowFine d cs parts r → Q (.ref t) H'
theorem scLRow : FnScope ["_law_box", "_law_pools_here", "_law_counters_here", "_law_parts", "_law_counter", "_law_form", "_law_label"] ["_law_box", "_law_pools_here", "_law_counters_here", "_law_parts"] (defScope sLRow) := ⟨rfl, rfl, rfl, by decide +kernel, rfl, by decide +kernel, by decide +kernel⟩
theorem ok_drow (T : TDRow K mg) : FnOk P w K mg base CX0 3 T.row.f T.row.fd ["_law_box", "_law_pools_here", "_law_counters_here", "_law_parts"] (spDRow K) := by
  refine T.row.F.ok scLRow (fun vs H Q E h => ?_) (fun cdv A outer s H vs Q E hr h => ?_)
  · obtain ⟨b, pp, cc, ps, d, cs, parts, rfl, _⟩ := h
    rfl
  · obtain ⟨b, pp, cc, ps, d, cs, parts, rfl, hB, hP, hd, hC, c0, c1, hS, npb, pl, pn, q⟩ := h
    refine ⟨_, pss_cons (ps_par (i := 4) (j := 5) (by rfl) scLRow.nd rfl rfl (by decide) rfl rfl (pa_cons (pe_ix ix_tup (pe_call T.okOne (hr.mono (by decide)) rfl T.one.m T.one.F.kp T.one.b .nil pass0 (pa_cons (pv 0) (pa_cons (pv 2) pa_nil))) pe_int (fun _ _ => rfl)) (pa_cons (pe_call T.okChoose (hr.mono (by decide)) rfl T.choose.m T.choose.F.kp T.choose.b .nil pass0 (pa_cons (pv 0) (pa_cons pe_int pa_nil))) pa_nil)) (by rfl))
      (pss_cons (ps_if (pt_cmpR op_lt (pv 5) pe_int (nomark _))
        (pss_cons (ps_set (i := 6) scLRow.nd rfl (Or.inl rfl) (pe_ifExp (pt_cmpR op_eq (pe_call T.okChoose (hr.mono (by decide)) rfl T.choose.m T.choose.F.kp T.choose.b .nil pass0 (pa_cons (pv 0) (pa_cons pe_int pa_nil))) pe_int (nomark _)) (pe_call T.okOne (hr.mono (by decide)) rfl T.one.m T.one.F.kp T.one.b .nil pass0 (pa_cons (pv 0) (pa_cons (pe_ix ix_list (pv 1) pe_int (fun _ _ => rfl)) pa_nil))) pe_str))
        (pss_one (ps_ret (pe_tup (pa_cons pe_str (pa_cons (pv 4) (pa_cons (pv 6) pa_nil))))))) pss_nil)
      (pss_cons (ps_if (pt_cmpR op_lt (pv 5) pe_int (nomark _))
        (pss_one (ps_ret (pe_call T.okOne (hr.mono (by decide)) rfl T.one.m T.one.F.kp T.one.b .nil pass0 (pa_cons (pv 0) (pa_cons (pe_lst (pa_cons (pe_tup (pa_cons pe_str (pa_cons (pv 4) (pa_cons (pe_op op_add pe_int (pe_call T.okChoose (hr.mono (by decide)) rfl T.choose.m T.choose.F.kp T.choose.b .nil pass0 (pa_cons (pv 0) (pa_cons pe_int pa_nil)))) pa_nil))))
          (pa_cons (pe_tup (pa_cons pe_str (pa_cons (pv 4) (pa_cons (pe_call T.okChoose (hr.mono (by decide)) rfl T.choose.m T.choose.F.kp T.choose.b .nil pass0 (pa_cons (pv 0) (pa_cons pe_int pa_nil))) pa_nil)))) pa_nil))) pa_nil))))) pss_nil)
      (pss_cons (ps_if (pt_cmpR op_lt (pv 5) pe_int (nomark _))
        (pss_one (ps_ret (pe_call T.okOne (hr.mono (by decide)) rfl T.one.m T.one.F.kp T.one.b .nil pass0 (pa_cons (pv 0) (pa_cons (pe_lst (pa_cons (pe_tup (pa_cons pe_str (pa_cons (pv 4) pa_nil))) (pa_cons (pe_tup (pa_cons pe_str (pa_cons (pv 4) pa_nil))) (pa_cons (pe_tup (pa_cons pe_str (pa_cons (pv 4) pa_nil))) pa_nil)))) pa_nil))))) pss_nil)
      (pss_cons (ps_if (PW.pt (pw_or (pt_cmpR op_eq (pv 5) pe_int (nomark _)) (pw_or1 (pt_cmpR (op_eqD hr.units) (pv 3) (pe_lst pa_nil) (nomark _)))))
        (pss_one (ps_ret (pe_tup (pa_cons pe_str (pa_cons (pe_call T.okOne (hr.mono (by decide)) rfl T.one.m T.one.F.kp T.one.b .nil pass0 (pa_cons (pv 0) (pa_cons (pe_ix ix_list (pv 1) pe_int (fun _ _ => rfl)) pa_nil))) pa_nil))))) pss_nil)
      (pss_one (ps_ret (pe_tup (pa_cons pe_str (pa_cons (pe_call T.okOne (hr.mono (by decide)) rfl T.one.m T.one.F.kp T.one.b .nil pass0 (pa_cons (pv 0) (pa_cons (pv 3) pa_nil))) pa_nil))))))))), ?_⟩
    obtain ⟨ts, hcl, hpd⟩ := hC
    have fl := pool_fine d hd
    have htl : ts.length = cs.length := paired_len hpd
    refine ⟨_, rfl, _, rfl, b, cc, ts.map V.ref, rfl, hB, SqL.of (hid_sub _ _ hcl), hid_ne hcl, by rw [List.length_map]; omega, by rw [List.length_map]; omega, fun v H1 hv hB1 k1 _ => ?_⟩
    obtain ⟨t, htm, rfl⟩ := List.mem_map.mp hv
    obtain ⟨it, hit⟩ := List.getElem?_of_mem htm
    obtain ⟨pr, hpr, htt⟩ := paired_at hpd hit
    have hc : pr.1 ∈ cs.map (·.1) := List.mem_map.mpr ⟨pr, List.mem_of_getElem? hpr, rfl⟩
    have ht1 := k1 t _ (hid_sub _ _ htt) (hid_ne htt)
    refine ⟨t, _, _, _, rfl, rfl, SqT.of ht1, rfl, ?_⟩
    refine ⟨_, rfl, b, 12, rfl, hB1, by decide, by decide, fun f H2 f0 f1 hB2 k2 _ => ⟨_, _, rfl, ?_⟩⟩
    have kp := k1.trans k2
    have hP2 := hP.mono (hid_kp kp)
    clear ht1 k1 k2 hB1
    obtain ⟨a0, a1, a2, a3, ep, e0, e1, e2, e3⟩ := id hP2
    generalize pr.1 = c at hc ⊢
    refine ⟨_, rfl, _, _, rfl, rfl, _, rfl, ite2 (fun h5 => ?_) (fun h5 => ?_)⟩
    · try dsimp only
      refine stepSet (fun v' Hx => ∃ l, v' = .str l ∧ (l = "" ∨ l ∈ d.l) ∧ Kp b H Hx ∧ BoxAt Hx b) (fun Q' hQ => ?lab) (fun v Hx hC => ?ret)
      case lab =>
        refine ⟨_, rfl, b, 3, rfl, hB2, by decide, by decide, fun r H3 r0 r1 hB3 k3 _ => ⟨rfl, _, rfl, ite2 (fun hz => ?_) (fun hz => ?_)⟩⟩
        · obtain ⟨b0, b1, b2, b3, dp, d0, d1, d2, d3⟩ := hP2.mono (hid_kp k3)
          refine ⟨_, rfl, _, rfl, pp, _, _, .ref b3, rfl, rfl, SqL.of (hid_sub _ _ dp), rfl, b, b3, _, rfl, hB3, SqL.of (hid_sub _ _ d3), hid_ne d3, by rw [List.length_map, fl.ll]; decide, by rw [List.length_map, fl.ll]; decide, fun v H4 hv hB4 k4 _ => ?_⟩
          obtain ⟨l, hl, rfl⟩ := List.mem_map.mp hv
          exact hQ _ _ ⟨l, rfl, .inr hl, (kp.trans k3).trans k4, hB4⟩
        · exact hQ _ _ ⟨"", rfl, .inl rfl, kp.trans k3, hB3⟩
      case ret =>
        obtain ⟨l, rfl, hl, kx, hBx⟩ := hC
        refine ⟨_, rfl, _, rfl, (by show 3 ≤ sizeLine; decide), fun t ht => ?_⟩
        exact q t (.note c l) _ (kx.new ht) (hBx.new ht) (newAt kx hBx ht) ⟨hc, hl⟩
    refine ⟨_, rfl, _, _, rfl, rfl, _, rfl, ite2 (fun h7 => ?_) (fun h7 => ?_)⟩
    · refine ⟨_, rfl, _, rfl, _, rfl, b, 3, rfl, hB2, by decide, by decide, fun n H3 n0 n1 hB3 k3 _ => ⟨_, _, rfl, rfl, (by show 3 ≤ sizeLine; decide), fun t1 ht1 => ?_⟩⟩
      have k3' := kp.trans k3
      refine ⟨_, rfl, _, rfl, b, 4, rfl, hB3.new ht1, by decide, by decide, fun m H4 m0 m1 hB4 k4 _ => ⟨(by show 3 ≤ sizeLine; decide), fun t2 ht2 => ⟨(by show 2 ≤ sizeLine; decide), fun L hL => ?_⟩⟩⟩
      have g1 := fun o => Same.new (o := o) hL t1 _ (Same.new ht2 t1 _ (k4 t1 _ upd_same (hB3.ne ht1)))
      have g2 := fun o => Same.new (o := o) hL t2 _ upd_same
      have kL := fun o => (((k3'.new ht1).trans k4).new ht2).new (o := o) hL
      have hBL := fun o => (hB4.new ht2).new (o := o) hL
      have f1 : H t1 = none := by
        obtain ⟨_, _, _, g⟩ := hB3
        exact k3'.mo g t1 ht1
      have f2 : H t2 = none := by
        obtain ⟨_, _, _, g⟩ := hB4
        exact ((k3'.new ht1).trans k4).mo g t2 ht2
      have n1b := hB3.ne ht1
      have n2b := hB4.ne ht2
      refine ⟨b, L, _, rfl, hBL _, SqL.of upd_same, (hB4.new ht2).ne hL, by show 0 < 2; decide, by show 2 < 1000000; decide, fun v H' hv hB' k' _ => ?_⟩
      obtain ⟨n', rfl⟩ : ∃ n' : Nat, n = (n' : Int) := ⟨n.toNat, by omega⟩
      obtain ⟨m', rfl⟩ : ∃ m' : Nat, m = (m' : Int) := ⟨m.toNat, by omega⟩
      simp only [List.mem_cons, List.not_mem_nil, or_false] at hv
      rcases hv with rfl | rfl
      · refine q t1 (.skip c (1 + n')) _ ((kL _).trans k') hB' (dif_new f1 ?_) ⟨hc, by omega, by omega⟩
        have e := k' t1 _ (g1 _) n1b
        rw [e]
        show some (HO.tup [.str "skip", .str c, .int (1 + (n' : Int))]) = some (HO.tup [.str "skip", .str c, .int ((1 + n' : Nat) : Int)])
        rw [show ((1 + n' : Nat) : Int) = 1 + (n' : Int) by omega]
      · exact q t2 (.set c m') _ ((kL _).trans k') hB' (dif_new f2 (k' t2 _ (g2 _) n2b)) ⟨hc, by omega⟩
    refine ⟨_, rfl, _, _, rfl, rfl, _, rfl, ite2 (fun h9 => ?_) (fun h9 => ?_)⟩
    · refine ⟨_, rfl, _, rfl, (by show 2 ≤ sizeLine; decide), fun t1 ht1 => ⟨_, rfl, (by show 2 ≤ sizeLine; decide), fun t2 ht2 => ⟨_, rfl, (by show 2 ≤ sizeLine; decide), fun t3 ht3 => ⟨(by show 3 ≤ sizeLine; decide), fun L hL => ?_⟩⟩⟩⟩
      have g1 := fun o => Same.new (o := o) hL t1 _ (Same.new ht3 t1 _ (Same.new ht2 t1 _ upd_same))
      have g2 := fun o => Same.new (o := o) hL t2 _ (Same.new ht3 t2 _ upd_same)
      have g3 := fun o => Same.new (o := o) hL t3 _ upd_same
      have kL := fun o => (((kp.new ht1).new ht2).new ht3).new (o := o) hL
      have hBL := fun o => (((hB2.new ht1).new ht2).new ht3).new (o := o) hL
      obtain ⟨_, _, _, gb⟩ := id hB2
      have f1 : H t1 = none := kp.mo gb t1 ht1
      have f2 : H t2 = none := (kp.new ht1).mo (Same.new ht1 b _ gb) t2 ht2
      have f3 : H t3 = none := ((kp.new ht1).new ht2).mo (Same.new ht2 b _ (Same.new ht1 b _ gb)) t3 ht3
      refine ⟨b, L, _, rfl, hBL _, SqL.of upd_same, (((hB2.new ht1).new ht2).new ht3).ne hL, by show 0 < 3; decide, by show 3 < 1000000; decide, fun v H' hv hB' k' _ => ?_⟩
      simp only [List.mem_cons, List.not_mem_nil, or_false] at hv
      rcases hv with rfl | rfl | rfl
      · exact q t1 (.keep c) _ ((kL _).trans k') hB' (dif_new f1 (k' t1 _ (g1 _) (hB2.ne ht1))) hc
      · exact q t2 (.back c) _ ((kL _).trans k') hB' (dif_new f2 (k' t2 _ (g2 _) ((hB2.new ht1).ne ht2))) hc
      · exact q t3 (.keep c) _ ((kL _).trans k') hB' (dif_new f3 (k' t3 _ (g3 _) (((hB2.new ht1).new ht2).ne ht3))) hc
    unfold tNext
    try dsimp only
    by_cases ho : f = 9 ∨ parts = []
    · refine stepYes (fun Hx => Kp b H2 Hx ∧ BoxAt Hx b) (fun Q' hQ => ?ts) (fun Hx hx => ?op)
      case ts =>
        refine ⟨_, rfl, rfl, _, rfl, ?_⟩
        by_cases h : f = 9
        · exact iteTD (decide_eq_true (by rw [h])) (hQ _ ⟨Kp.refl b H2, hB2⟩)
        · have hp : parts = [] := ho.resolve_left h
          refine iteFD (decide_eq_false fun z => h (V.int.inj z)) ?_
          subst hp
          refine ⟨_, rfl, (by show 0 ≤ sizeLine; decide), fun e he => ?_⟩
          have hS2 : SqL K H2 ps (([] : List Str).map V.str) := kp.sql npb hS
          refine ⟨.list [], .list [], .lst ((Same.new he).seq hS2) .nil, .lst (SqL.of upd_same) .nil, by decide +kernel, by decide +kernel, _, rfl, ?_⟩
          exact hQ _ ⟨(Kp.refl b H2).new he, hB2.new he⟩
      case op =>
        obtain ⟨kx, hBx⟩ := hx
        obtain ⟨b0, b1, b2, b3, dp, d0, d1, d2, d3⟩ := hP2.mono (hid_kp kx)
        refine ⟨_, rfl, _, rfl, pp, _, _, .ref b2, rfl, rfl, SqL.of (hid_sub _ _ dp), rfl, b, b2, _, rfl, hBx, SqL.of (hid_sub _ _ d2), hid_ne d2, by rw [List.length_map, fl.xl]; decide, by rw [List.length_map, fl.xl]; decide, fun v H4 hv hB4 k4 _ => ?_⟩
        obtain ⟨xn, hxn, rfl⟩ := List.mem_map.mp hv
        refine ⟨(by show 2 ≤ sizeLine; decide), fun t ht => ?_⟩
        have k5 := (kp.trans kx).trans k4
        exact q t (.opn xn) _ (k5.new ht) (hB4.new ht) (newAt k5 hB4 ht) hxn
    · have h : ¬ f = 9 := fun z => ho (.inl z)
      have hp : ¬ parts = [] := fun z => ho (.inr z)
      refine stepNo (fun Hx => Kp b H2 Hx ∧ BoxAt Hx b) (fun Q' hQ => ?ts2) (fun Hx hx => ?put)
      case ts2 =>
        refine ⟨_, rfl, rfl, _, rfl, ?_⟩
        refine iteFD (decide_eq_false fun z => h (V.int.inj z)) ?_
        refine ⟨_, rfl, (by show 0 ≤ sizeLine; decide), fun e he => ?_⟩
        have hS2 := kp.sql npb hS
        refine ⟨.list (parts.map PyData.str), .list [], .lst ((Same.new he).seq hS2) (dp_strL _), .lst (SqL.of upd_same) .nil, strL_sh (fun x hx => (name_ok (pn x hx)).1), by decide +kernel, _, rfl, ?_⟩
        rw [strsL_nil]
        have : parts.isEmpty = false := by
          cases parts with
          | nil => exact absurd rfl hp
          | cons a l => rfl
        rw [this]
        exact hQ _ ⟨(Kp.refl b H2).new he, hB2.new he⟩
      case put =>
        obtain ⟨kx, hBx⟩ := hx
        have k3 := kp.trans kx
        have hl0 : 0 < parts.length := List.length_pos_iff.mpr hp
        refine ⟨_, rfl, _, rfl, b, ps, _, rfl, hBx, k3.sql npb hS, npb, by rw [List.length_map]; exact hl0, by rw [List.length_map]; omega, fun v H4 hv hB4 k4 _ => ?_⟩
        obtain ⟨xn, hxn, rfl⟩ := List.mem_map.mp hv
        refine ⟨(by show 2 ≤ sizeLine; decide), fun t ht => ?_⟩
        have k5 := k3.trans k4
        exact q t (.put xn) _ (k5.new ht) (hB4.new ht) (newAt k5 hB4 ht) hxn
end
end Pn

namespace Pn
open PySem L2 TL
def rowValid : RowD → Prop
  | .note c l => nameS c = true ∧ (l = "" ∨ nameS l = true)
  | .skip c n => nameS c = true ∧ 1 ≤ n ∧ n < 10 ^ 10
  | .set c n => nameS c = true ∧ n < 10 ^ 10
  | .keep c => nameS c = true
  | .back c => nameS c = true
  | .ref c => nameS c = true
  | .put c => nameS c = true
  | .opn c => nameS c = true
theorem fine_valid {d : Pool} {cs : List (Str × Str)} {parts : List Str} (hd : d.Fine) (hc : ∀ x ∈ cs.map (·.1), nameS x = true) (hp : ∀ x ∈ parts, nameS x = true) : ∀ {r : RowD}, rowFine d cs parts r → rowValid r
  | .note _ _, h => ⟨hc _ h.1, h.2.imp id fun z => hd.names _ (List.mem_append_right _ z)⟩
  | .skip _ _, h => ⟨hc _ h.1, h.2.1, Nat.lt_of_le_of_lt h.2.2 (by decide)⟩
  | .set _ _, h => ⟨hc _ h.1, Nat.lt_of_le_of_lt h.2 (by decide)⟩
  | .keep _, h => hc _ h
  | .back _, h => hc _ h
  | .put _, h => hp _ h
  | .opn _, h => hd.names _ (List.mem_append_left _ (List.mem_append_right _ h))
/-- what a word of a drawn row says in its text -/
def wOf : V → Option Str
  | .str z => if z = "" then none else some z
  | .int i => some (Str.ofString (toString i))
  | _ => none
theorem name_ne {z : Str} (h : nameS z = true) : z ≠ "" := fun e => by
  subst e
  exact absurd h (by decide +kernel)
theorem words_of : ∀ {r : RowD}, rowValid r → (rowTup r).filterMap wOf = rowWords r
  | .note c l, h => by
    have h0 := name_ne h.1
    have k : wOf (.str "note") = some "note" := by decide +kernel
    have kc : wOf (.str c) = some c := if_neg h0
    by_cases hl : l = ""
    · have kl : wOf (.str l) = none := if_pos hl
      show List.filterMap wOf [.str "note", .str c, .str l] = (if l = "" then (["note", c] : List Str) else ["note", c, l])
      rw [if_pos hl]
      simp [k, kc, kl]
    · have kl : wOf (.str l) = some l := if_neg hl
      show List.filterMap wOf [.str "note", .str c, .str l] = (if l = "" then (["note", c] : List Str) else ["note", c, l])
      rw [if_neg hl]
      simp [k, kc, kl]
  | .skip c n, h => by
    have k : wOf (.str "skip") = some "skip" := by decide +kernel
    have kc : wOf (.str c) = some c := if_neg (name_ne h.1)
    show List.filterMap wOf [.str "skip", .str c, .int (n : Int)] = (["skip", c, numStr n] : List Str)
    simp [List.filterMap_cons, k, kc]
    rfl
  | .set c n, h => by
    have k : wOf (.str "set") = some "set" := by decide +kernel
    have kc : wOf (.str c) = some c := if_neg (name_ne h.1)
    show List.filterMap wOf [.str "set", .str c, .int (n : Int)] = (["set", c, numStr n] : List Str)
    simp [List.filterMap_cons, k, kc]
    rfl
  | .keep c, h => by
    have k : wOf (.str "keep") = some "keep" := by decide +kernel
    have kc : wOf (.str c) = some c := if_neg (name_ne h)
    show List.filterMap wOf [.str "keep", .str c] = (["keep", c] : List Str)
    simp [List.filterMap_cons, k, kc]
  | .back c, h => by
    have k : wOf (.str "back") = some "back" := by decide +kernel
    have kc : wOf (.str c) = some c := if_neg (name_ne h)
    show List.filterMap wOf [.str "back", .str c] = (["back", c] : List Str)
    simp [List.filterMap_cons, k, kc]
  | .ref c, h => by
    have k : wOf (.str "ref") = some "ref" := by decide +kernel
    have kc : wOf (.str c) = some c := if_neg (name_ne h)
    show List.filterMap wOf [.str "ref", .str c] = (["ref", c] : List Str)
    simp [List.filterMap_cons, k, kc]
  | .put c, h => by
    have k : wOf (.str "put") = some "put" := by decide +kernel
    have kc : wOf (.str c) = some c := if_neg (name_ne h)
    show List.filterMap wOf [.str "put", .str c] = (["put", c] : List Str)
    simp [List.filterMap_cons, k, kc]
  | .opn c, h => by
    have k : wOf (.str "open") = some "open" := by decide +kernel
    have kc : wOf (.str c) = some c := if_neg (name_ne h)
    show List.filterMap wOf [.str "open", .str c] = (["open", c] : List Str)
    simp [List.filterMap_cons, k, kc]
theorem numStr_small {n : Nat} (h : n < 10 ^ 10) : (numStr n).length ≤ 20 ∧ PyData.strOk (numStr n) = true := by
  refine ⟨numStr_len (Nat.lt_trans h (by decide)), strOk_tl.mpr fun c hc => ?_⟩
  have e : tl (numStr n) = numL n := tl_num n
  rw [e] at hc
  have q := numL_digits n c hc
  omega
/-- the words of a row that stands: few, short, of ordinary signs -/
theorem words_small {r : RowD} (h : rowValid r) : (rowWords r).length ≤ 3 ∧ 2 ≤ (rowWords r).length ∧ ∀ x ∈ rowWords r, x.length ≤ 20 ∧ PyData.strOk x = true := by
  have nm : ∀ {z : Str}, nameS z = true → z.length ≤ 20 ∧ PyData.strOk z = true := fun h => ⟨Nat.le_trans (name_ok h).2 (by decide), (name_ok h).1⟩
  have lit : ∀ z ∈ (["note", "skip", "set", "keep", "back", "ref", "put", "open"] : List Str), z.length ≤ 20 ∧ PyData.strOk z = true := fun z hz => by
    have q : (["note", "skip", "set", "keep", "back", "ref", "put", "open"] : List Str).all (fun z => decide (z.length ≤ 20) && PyData.strOk z) = true := by decide +kernel
    have := List.all_eq_true.mp q z hz
    rw [Bool.and_eq_true] at this
    exact ⟨of_decide_eq_true this.1, this.2⟩
  have two : ∀ {a c : Str}, a ∈ (["note", "skip", "set", "keep", "back", "ref", "put", "open"] : List Str) → nameS c = true → ([a, c] : List Str).length ≤ 3 ∧ 2 ≤ ([a, c] : List Str).length ∧ ∀ x ∈ ([a, c] : List Str), x.length ≤ 20 ∧ PyData.strOk x = true := fun {a c} ha hc =>
    ⟨by show 2 ≤ 3; decide, by show 2 ≤ 2; decide, fun x hx => by
      rcases List.mem_cons.mp hx with rfl | hx
      · exact lit _ ha
      · rw [List.mem_singleton.mp hx]; exact nm hc⟩
  have three : ∀ {a c l : Str}, a ∈ (["note", "skip", "set", "keep", "back", "ref", "put", "open"] : List Str) → nameS c = true → (l.length ≤ 20 ∧ PyData.strOk l = true) → ([a, c, l] : List Str).length ≤ 3 ∧ 2 ≤ ([a, c, l] : List Str).length ∧ ∀ x ∈ ([a, c, l] : List Str), x.length ≤ 20 ∧ PyData.strOk x = true := fun {a c l} ha hc hl =>
    ⟨by show 3 ≤ 3; decide, by show 2 ≤ 3; decide, fun x hx => by
      rcases List.mem_cons.mp hx with rfl | hx
      · exact lit _ ha
      · rcases List.mem_cons.mp hx with rfl | hx
        · exact nm hc
        · rw [List.mem_singleton.mp hx]; exact hl⟩
  cases r with
  | note c l =>
    show (if l = "" then (["note", c] : List Str) else ["note", c, l]).length ≤ 3 ∧ 2 ≤ (if l = "" then (["note", c] : List Str) else ["note", c, l]).length ∧ ∀ x ∈ (if l = "" then (["note", c] : List Str) else ["note", c, l]), _
    by_cases hl : l = ""
    · rw [if_pos hl]
      exact two (by decide +kernel) h.1
    · rw [if_neg hl]
      exact three (by decide +kernel) h.1 (nm (h.2.resolve_left hl))
  | skip c n => exact three (by decide +kernel) h.1 (numStr_small h.2.2)
  | set c n => exact three (by decide +kernel) h.1 (numStr_small h.2)
  | keep c => exact two (by decide +kernel) h
  | back c => exact two (by decide +kernel) h
  | ref c => exact two (by decide +kernel) h
  | put c => exact two (by decide +kernel) h
  | opn c => exact two (by decide +kernel) h
section
variable {P : Program} {w : World} {K : PySem.W.Frag} {mg : Str → Option Value} {base : Heap}
def rStrF : List V → Hp → VK → Prop := fun xs H Q => (∃ a, xs = [.str a] ∧ Q (.str a) H) ∨ ∃ i : Int, xs = [.int i] ∧ i.natAbs.log2 < 1920 ∧ Q (.str (Str.ofString (toString i))) H
theorem call_strF {X : Cx} : CallR X (.type "str") rStrF := fun pins s σ H xs us Q I r h => h.elim (fun h => SkE.call_str_str pins s σ H xs us Q I r h) fun h => call_str_int pins s σ H xs us Q I r h
theorem tup_items {r : RowD} (h : rowValid r) : (rowTup r).length ≤ 3 ∧ ∀ v ∈ rowTup r, (∃ z : Str, v = .str z ∧ PyData.strOk z = true) ∨ ∃ n : Nat, v = .int (n : Int) ∧ n < 10 ^ 10 := by
  have nm : ∀ {z : Str}, nameS z = true → PyData.strOk z = true := fun h => (name_ok h).1
  have l8 : ∀ z ∈ (["note", "skip", "set", "keep", "back", "ref", "put", "open"] : List Str), PyData.strOk z = true := List.all_eq_true.mp (by decide +kernel)
  have two : ∀ {a c : Str}, a ∈ (["note", "skip", "set", "keep", "back", "ref", "put", "open"] : List Str) → nameS c = true → ([.str a, .str c] : List V).length ≤ 3 ∧ ∀ v ∈ ([.str a, .str c] : List V), (∃ z : Str, v = .str z ∧ PyData.strOk z = true) ∨ ∃ n : Nat, v = .int (n : Int) ∧ n < 10 ^ 10 := fun {a c} ha hc =>
    ⟨by show 2 ≤ 3; decide, fun v hv => by
      rcases List.mem_cons.mp hv with rfl | hv
      · exact .inl ⟨a, rfl, l8 a ha⟩
      · rw [List.mem_singleton.mp hv]; exact .inl ⟨c, rfl, nm hc⟩⟩
  have three : ∀ {a c : Str} {u : V}, a ∈ (["note", "skip", "set", "keep", "back", "ref", "put", "open"] : List Str) → nameS c = true → ((∃ z : Str, u = .str z ∧ PyData.strOk z = true) ∨ ∃ n : Nat, u = .int (n : Int) ∧ n < 10 ^ 10) →
      ([.str a, .str c, u] : List V).length ≤ 3 ∧ ∀ v ∈ ([.str a, .str c, u] : List V), (∃ z : Str, v = .str z ∧ PyData.strOk z = true) ∨ ∃ n : Nat, v = .int (n : Int) ∧ n < 10 ^ 10 := fun {a c u} ha hc hu =>
    ⟨by show 3 ≤ 3; decide, fun v hv => by
      rcases List.mem_cons.mp hv with rfl | hv
      · exact .inl ⟨a, rfl, l8 a ha⟩
      · rcases List.mem_cons.mp hv with rfl | hv
        · exact .inl ⟨c, rfl, nm hc⟩
        · rw [List.mem_singleton.mp hv]; exact hu⟩
  cases r with
  | note c l => exact three (by decide +kernel) h.1 (.inl ⟨l, rfl, h.2.elim (fun z => by rw [z]; decide +kernel) nm⟩)
  | skip c n => exact three (by decide +kernel) h.1 (.inr ⟨n, rfl, h.2.2⟩)
  | set c n => exact three (by decide +kernel) h.1 (.inr ⟨n, rfl, h.2⟩)
  | keep c => exact two (by decide +kernel) h
  | back c => exact two (by decide +kernel) h
  | ref c => exact two (by decide +kernel) h
  | put c => exact two (by decide +kernel) h
  | opn c => exact two (by decide +kernel) h
end
end Pn

namespace Pn
open PySem L2 TL
structure TStrs {K : PySem.W.Frag} {mg : Str → Option Value} (T : TRows K mg) : Type where
  note : TStr K T.note.C "Note.__str__" sNoteStr
  skip : TStr K T.skip.C "Skip.__str__" sSkipStr
  set : TStr K T.set.C "Set.__str__" sSetStr
  keep : TStr K T.keep.C "Keep.__str__" sKeepStr
  back : TStr K T.back.C "Back.__str__" sBackStr
  ref : TStr K T.ref.C "Ref.__str__" sRefStr
  put : TStr K T.put.C "Put.__str__" sPutStr
  open_ : TStr K T.open_.C "Open.__str__" sOpenStr
def rStrRow {K : PySem.W.Frag} {mg : Str → Option Value} (T : TRows K mg) : List V → Hp → VK → Prop := fun xs H Q => ∃ (a : Addr) (r : RowD), xs = [.ref a] ∧ RowAt T H a r ∧ rowSmall r ∧ Q (.str (rowText r)) H
theorem call_strRow {X : Cx} (T : TRows X.K X.mg) (S : TStrs T) (hr : Room 3 X.A) : CallR X (.type "str") (rStrRow T) := by
  intro pins s σ H xs us Q I rv h
  obtain ⟨a, r, rfl, ⟨dx, ha⟩, hs, q⟩ := h
  cases r with
  | note c l => exact call_strIns (okNoteStr T S.note) S.note.hf hr S.note.b pass0 pins s σ H _ us Q I rv ⟨a, _, dx, _, rfl, ha, S.note.hs, a, c, l, rfl, ⟨dx, ha⟩, hs.1, hs.2, _, rfl, q⟩
  | skip c n => exact call_strIns (okSkipStr T S.skip) S.skip.hf hr S.skip.b pass0 pins s σ H _ us Q I rv ⟨a, _, dx, _, rfl, ha, S.skip.hs, a, c, n, rfl, ⟨dx, ha⟩, hs.1, hs.2, _, rfl, q⟩
  | set c n => exact call_strIns (okSetStr T S.set) S.set.hf hr S.set.b pass0 pins s σ H _ us Q I rv ⟨a, _, dx, _, rfl, ha, S.set.hs, a, c, n, rfl, ⟨dx, ha⟩, hs.1, hs.2, _, rfl, q⟩
  | keep c => exact call_strIns (okKeepStr T S.keep) S.keep.hf hr S.keep.b pass0 pins s σ H _ us Q I rv ⟨a, _, dx, _, rfl, ha, S.keep.hs, a, c, rfl, ⟨dx, ha⟩, hs, _, rfl, q⟩
  | back c => exact call_strIns (okBackStr T S.back) S.back.hf hr S.back.b pass0 pins s σ H _ us Q I rv ⟨a, _, dx, _, rfl, ha, S.back.hs, a, c, rfl, ⟨dx, ha⟩, hs, _, rfl, q⟩
  | ref c => exact call_strIns (okRefStr T S.ref) S.ref.hf hr S.ref.b pass0 pins s σ H _ us Q I rv ⟨a, _, dx, _, rfl, ha, S.ref.hs, a, c, rfl, ⟨dx, ha⟩, hs, _, rfl, q⟩
  | put c => exact call_strIns (okPutStr T S.put) S.put.hf hr S.put.b pass0 pins s σ H _ us Q I rv ⟨a, _, dx, _, rfl, ha, S.put.hs, a, c, rfl, ⟨dx, ha⟩, hs, _, rfl, q⟩
  | opn c => exact call_strIns (okOpenStr T S.open_) S.open_.hf hr S.open_.b pass0 pins s σ H _ us Q I rv ⟨a, _, dx, _, rfl, ha, S.open_.hs, a, c, rfl, ⟨dx, ha⟩, hs, _, rfl, q⟩
theorem call_strRowK {X : Cx} {K : PySem.W.Frag} {mg : Str → Option Value} (hK : X.K = K) (hm : X.mg = mg) (T : TRows K mg) (S : TStrs T) (hr : Room 3 X.A) : CallR X (.type "str") (rStrRow T) := by
  subst hK
  subst hm
  exact call_strRow T S hr
theorem name_small {z : Str} (h : nameS z = true) : z.length ≤ 100 := Nat.le_trans (name_ok h).2 (by decide)
theorem lab_small {l : Str} (h : labD (.str l) = true) : l = "" ∨ nameS l = true := by
  unfold labD at h
  rw [Bool.or_eq_true] at h
  rcases h with h | h
  · left
    simp only [PyData.eqv] at h
    exact eq_of_beq h
  · exact .inr h
end Pn

namespace Pn
open PySem L2 TL
abbrev sMadeRow : Stmt := top 60
theorem passN0 {P : Program} {w : World} {X : Cx} : Passes (L2N.CX P w) X E0 := fun _ _ _ _ _ _ _ ⟨_, _, _, _, _, _, _, _, _, _, _, _, h⟩ => h.elim
section
variable {P : Program} {w : World} {K : PySem.W.Frag} {mg : Str → Option Value} {base : Heap}
def spMade (R : TRows K mg) : Sp := fun vs H Q _ => ∃ (t : Addr) (r : RowD), vs = [.ref t] ∧ SqT K H t (rowTup r) ∧ rowValid r ∧ ∀ a H', Same H H' → RowAt R H' a r → Q (.ref a) H'
theorem scMadeRow : FnScope ["_law_row_here"] ["_law_row_here"] (defScope sMadeRow) := ⟨rfl, rfl, rfl, by decide +kernel, rfl, by decide +kernel, by decide +kernel⟩
theorem lab_of {l : Str} (h : l = "" ∨ nameS l = true) : labD (.str l) = true := by
  rcases h with rfl | h
  · decide +kernel
  · show (PyData.eqv (.str l) (.str "") || nameS l) = true
    rw [h, Bool.or_true]
theorem ok_made (R : TRows K mg) {f : Addr} {fd : FuncData} (F : Fun K "_law_made_row" "_law_made_row" sMadeRow f fd) : FnOk P w K mg base CX0 6 f fd ["_law_row_here"] (spMade R) := by
  refine F.ok scMadeRow (fun vs H Q E h => ?_) (fun cdv A outer s H vs Q E hr h => ?_)
  · obtain ⟨t, r, rfl, _⟩ := h
    rfl
  · obtain ⟨t, r, rfl, ht, hv, q⟩ := h
    refine ⟨_, pss_cons (ps_if (pt_cmpR op_eq (pe_ix ix_tup (pv 0) pe_int (fun _ _ => rfl)) pe_str (nomark _)) (pss_one (ps_ret (pe_make R.note.M (okNoteInit R.note R.N) (hr.mono (by decide)) rfl R.note.m R.note.b .nil passN0 (pa_cons (pe_ix ix_tup (pv 0) pe_int (fun _ _ => rfl)) (pa_cons (pe_ix ix_tup (pv 0) pe_int (fun _ _ => rfl)) pa_nil))))) pss_nil)
      (pss_cons (ps_if (pt_cmpR op_in_seq (pe_ix ix_tup (pv 0) pe_int (fun _ _ => rfl)) (pe_tup (pa_cons pe_str (pa_cons pe_str pa_nil))) rfl) (pss_one (ps_ret (pe_ifExp (pt_cmpR op_eq (pe_ix ix_tup (pv 0) pe_int (fun _ _ => rfl)) pe_str (nomark _)) (pe_make R.skip.M (okSkipInit R.skip R.N) (hr.mono (by decide)) rfl R.skip.m R.skip.b .nil passN0 (pa_cons (pe_ix ix_tup (pv 0) pe_int (fun _ _ => rfl)) (pa_cons (pe_ix ix_tup (pv 0) pe_int (fun _ _ => rfl)) pa_nil))) (pe_make R.set.M (okSetInit R.set R.N) (hr.mono (by decide)) rfl R.set.m R.set.b .nil passN0 (pa_cons (pe_ix ix_tup (pv 0) pe_int (fun _ _ => rfl)) (pa_cons (pe_ix ix_tup (pv 0) pe_int (fun _ _ => rfl)) pa_nil)))))) pss_nil)
      (pss_cons (ps_if (pt_cmpR op_in_seq (pe_ix ix_tup (pv 0) pe_int (fun _ _ => rfl)) (pe_tup (pa_cons pe_str (pa_cons pe_str pa_nil))) rfl) (pss_one (ps_ret (pe_ifExp (pt_cmpR op_eq (pe_ix ix_tup (pv 0) pe_int (fun _ _ => rfl)) pe_str (nomark _)) (pe_make R.keep.M (okKeepInit R.keep R.N) (hr.mono (by decide)) rfl R.keep.m R.keep.b .nil passN0 (pa_cons (pe_ix ix_tup (pv 0) pe_int (fun _ _ => rfl)) pa_nil)) (pe_make R.back.M (okBackInit R.back R.N) (hr.mono (by decide)) rfl R.back.m R.back.b .nil passN0 (pa_cons (pe_ix ix_tup (pv 0) pe_int (fun _ _ => rfl)) pa_nil))))) pss_nil)
      (pss_cons (ps_if (pt_cmpR op_eq (pe_ix ix_tup (pv 0) pe_int (fun _ _ => rfl)) pe_str (nomark _)) (pss_one (ps_ret (pe_make R.ref.M (okRefInit R.ref R.N) (hr.mono (by decide)) rfl R.ref.m R.ref.b .nil passN0 (pa_cons (pe_ix ix_tup (pv 0) pe_int (fun _ _ => rfl)) pa_nil)))) pss_nil)
      (pss_one (ps_ret (pe_ifExp (pt_cmpR op_eq (pe_ix ix_tup (pv 0) pe_int (fun _ _ => rfl)) pe_str (nomark _)) (pe_make R.put.M (okPutInit R.put R.N) (hr.mono (by decide)) rfl R.put.m R.put.b .nil passN0 (pa_cons (pe_ix ix_tup (pv 0) pe_int (fun _ _ => rfl)) pa_nil)) (pe_make R.open_.M (okOpenInit R.open_ R.N) (hr.mono (by decide)) rfl R.open_.m R.open_.b .nil passN0 (pa_cons (pe_ix ix_tup (pv 0) pe_int (fun _ _ => rfl)) pa_nil)))))))), ?_⟩
    have nl : ∀ {z : Str}, nameS z = true → dlen (.str z) := fun h => Nat.le_trans (name_ok h).2 (by show 4 ≤ 900; decide)
    cases r with
    | note c l =>
      refine ⟨_, rfl, t, _, _, _, rfl, rfl, ht, atI_nat (j := 0) rfl, rfl, _, rfl, iteTD (by decide +kernel) ?_⟩
      refine ⟨_, rfl, t, _, _, _, rfl, rfl, ht, atI_nat (j := 1) rfl, _, rfl, t, _, _, _, rfl, rfl, ht, atI_nat (j := 2) rfl, fun x dx hx hdx ne => ?_⟩
      exact ⟨x, dx, .str c, .str l, .str c, .str l, rfl, upd_same, .str c, nl hv.1, .str l, (by rcases hv.2 with rfl | z; exact (by decide +kernel : ("" : Str).length ≤ 900); exact nl z), str_shaped (by rcases hv.2 with rfl | z; decide +kernel; exact (name_ok z).1), fun hn hg H1 kp m hi => ⟨rfl, q x H1 (kpi_same2 hx hdx kp) ⟨dx, hi⟩⟩, fun hn => absurd hv.1 (by rw [show nameS c = false from hn]; decide), fun _ hg => absurd (lab_of hv.2) (by rw [hg]; decide)⟩
    | skip c n =>
      refine ⟨_, rfl, t, _, _, _, rfl, rfl, ht, atI_nat (j := 0) rfl, rfl, _, rfl, iteFD (by decide +kernel) ?_⟩
      refine ⟨_, rfl, t, _, _, _, rfl, rfl, ht, atI_nat (j := 0) rfl, (by show 2 ≤ sizeLine; decide), fun t1 h1 => ?_⟩
      refine ⟨t1, _, rfl, .inr (SqT.of upd_same), rfl, rfl, _, rfl, iteTD (by decide +kernel) ?_⟩
      have s1 := (Same.new (o := .tup [.str "skip", .str "set"]) h1)
      generalize upd _ t1 (.tup [.str "skip", .str "set"]) = H1 at s1 ⊢
      have ht1 := Same.sqt s1 ht
      refine ⟨_, rfl, t, _, _, _, rfl, rfl, ht1, atI_nat (j := 0) rfl, rfl, _, rfl, iteTD (by decide +kernel) ?_⟩
      refine ⟨_, rfl, t, _, _, _, rfl, rfl, ht1, atI_nat (j := 1) rfl, _, rfl, t, _, _, _, rfl, rfl, ht1, atI_nat (j := 2) rfl, fun x dx hx hdx ne => ?_⟩
      exact ⟨x, dx, .str c, .int (n : Int), .str c, .int (n : Int), rfl, upd_same, .str c, nl hv.1, .int _, fun hn hg H1 kp m hi => ⟨rfl, q x H1 (s1.trans (kpi_same2 hx hdx kp)) ⟨dx, hi⟩⟩, fun hn => absurd hv.1 (by rw [show nameS c = false from hn]; decide), fun _ hg => absurd (skip_of (n := n) (by have := hv.2.1; omega)) (by rw [hg]; decide)⟩
    | set c n =>
      refine ⟨_, rfl, t, _, _, _, rfl, rfl, ht, atI_nat (j := 0) rfl, rfl, _, rfl, iteFD (by decide +kernel) ?_⟩
      refine ⟨_, rfl, t, _, _, _, rfl, rfl, ht, atI_nat (j := 0) rfl, (by show 2 ≤ sizeLine; decide), fun t1 h1 => ?_⟩
      refine ⟨t1, _, rfl, .inr (SqT.of upd_same), rfl, rfl, _, rfl, iteTD (by decide +kernel) ?_⟩
      have s1 := (Same.new (o := .tup [.str "skip", .str "set"]) h1)
      generalize upd _ t1 (.tup [.str "skip", .str "set"]) = H1 at s1 ⊢
      have ht1 := Same.sqt s1 ht
      refine ⟨_, rfl, t, _, _, _, rfl, rfl, ht1, atI_nat (j := 0) rfl, rfl, _, rfl, iteFD (by decide +kernel) ?_⟩
      refine ⟨_, rfl, t, _, _, _, rfl, rfl, ht1, atI_nat (j := 1) rfl, _, rfl, t, _, _, _, rfl, rfl, ht1, atI_nat (j := 2) rfl, fun x dx hx hdx ne => ?_⟩
      exact ⟨x, dx, .str c, .int (n : Int), .str c, .int (n : Int), rfl, upd_same, .str c, nl hv.1, .int _, fun hn hg H1 kp m hi => ⟨rfl, q x H1 (s1.trans (kpi_same2 hx hdx kp)) ⟨dx, hi⟩⟩, fun hn => absurd hv.1 (by rw [show nameS c = false from hn]; decide), fun _ hg => absurd (set_of (n := n)) (by rw [hg]; decide)⟩
    | keep c =>
      refine ⟨_, rfl, t, _, _, _, rfl, rfl, ht, atI_nat (j := 0) rfl, rfl, _, rfl, iteFD (by decide +kernel) ?_⟩
      refine ⟨_, rfl, t, _, _, _, rfl, rfl, ht, atI_nat (j := 0) rfl, (by show 2 ≤ sizeLine; decide), fun t1 h1 => ?_⟩
      refine ⟨t1, _, rfl, .inr (SqT.of upd_same), rfl, rfl, _, rfl, iteFD (by decide +kernel) ?_⟩
      have s1 := (Same.new (o := .tup [.str "skip", .str "set"]) h1)
      generalize upd _ t1 (.tup [.str "skip", .str "set"]) = H1 at s1 ⊢
      have ht1 := Same.sqt s1 ht
      refine ⟨_, rfl, t, _, _, _, rfl, rfl, ht1, atI_nat (j := 0) rfl, (by show 2 ≤ sizeLine; decide), fun t2 h2 => ?_⟩
      refine ⟨t2, _, rfl, .inr (SqT.of upd_same), rfl, rfl, _, rfl, iteTD (by decide +kernel) ?_⟩
      have s2 := s1.trans (Same.new (o := .tup [.str "keep", .str "back"]) h2)
      generalize upd _ t2 (.tup [.str "keep", .str "back"]) = H2 at s2 ⊢
      have ht2 := Same.sqt s2 ht
      refine ⟨_, rfl, t, _, _, _, rfl, rfl, ht2, atI_nat (j := 0) rfl, rfl, _, rfl, iteTD (by decide +kernel) ?_⟩
      refine ⟨_, rfl, t, _, _, _, rfl, rfl, ht2, atI_nat (j := 1) rfl, fun x dx hx hdx ne => ?_⟩
      exact ⟨x, dx, .str c, .str c, rfl, upd_same, .str c, nl hv, fun hn H1 kp m hi => ⟨rfl, q x H1 (s2.trans (kpi_same2 hx hdx kp)) ⟨dx, hi⟩⟩, fun hn => absurd (show nameS c = true from hv) (by rw [show nameS c = false from hn]; decide)⟩
    | back c =>
      refine ⟨_, rfl, t, _, _, _, rfl, rfl, ht, atI_nat (j := 0) rfl, rfl, _, rfl, iteFD (by decide +kernel) ?_⟩
      refine ⟨_, rfl, t, _, _, _, rfl, rfl, ht, atI_nat (j := 0) rfl, (by show 2 ≤ sizeLine; decide), fun t1 h1 => ?_⟩
      refine ⟨t1, _, rfl, .inr (SqT.of upd_same), rfl, rfl, _, rfl, iteFD (by decide +kernel) ?_⟩
      have s1 := (Same.new (o := .tup [.str "skip", .str "set"]) h1)
      generalize upd _ t1 (.tup [.str "skip", .str "set"]) = H1 at s1 ⊢
      have ht1 := Same.sqt s1 ht
      refine ⟨_, rfl, t, _, _, _, rfl, rfl, ht1, atI_nat (j := 0) rfl, (by show 2 ≤ sizeLine; decide), fun t2 h2 => ?_⟩
      refine ⟨t2, _, rfl, .inr (SqT.of upd_same), rfl, rfl, _, rfl, iteTD (by decide +kernel) ?_⟩
      have s2 := s1.trans (Same.new (o := .tup [.str "keep", .str "back"]) h2)
      generalize upd _ t2 (.tup [.str "keep", .str "back"]) = H2 at s2 ⊢
      have ht2 := Same.sqt s2 ht
      refine ⟨_, rfl, t, _, _, _, rfl, rfl, ht2, atI_nat (j := 0) rfl, rfl, _, rfl, iteFD (by decide +kernel) ?_⟩
      refine ⟨_, rfl, t, _, _, _, rfl, rfl, ht2, atI_nat (j := 1) rfl, fun x dx hx hdx ne => ?_⟩
      exact ⟨x, dx, .str c, .str c, rfl, upd_same, .str c, nl hv, fun hn H1 kp m hi => ⟨rfl, q x H1 (s2.trans (kpi_same2 hx hdx kp)) ⟨dx, hi⟩⟩, fun hn => absurd (show nameS c = true from hv) (by rw [show nameS c = false from hn]; decide)⟩
    | ref c =>
      refine ⟨_, rfl, t, _, _, _, rfl, rfl, ht, atI_nat (j := 0) rfl, rfl, _, rfl, iteFD (by decide +kernel) ?_⟩
      refine ⟨_, rfl, t, _, _, _, rfl, rfl, ht, atI_nat (j := 0) rfl, (by show 2 ≤ sizeLine; decide), fun t1 h1 => ?_⟩
      refine ⟨t1, _, rfl, .inr (SqT.of upd_same), rfl, rfl, _, rfl, iteFD (by decide +kernel) ?_⟩
      have s1 := (Same.new (o := .tup [.str "skip", .str "set"]) h1)
      generalize upd _ t1 (.tup [.str "skip", .str "set"]) = H1 at s1 ⊢
      have ht1 := Same.sqt s1 ht
      refine ⟨_, rfl, t, _, _, _, rfl, rfl, ht1, atI_nat (j := 0) rfl, (by show 2 ≤ sizeLine; decide), fun t2 h2 => ?_⟩
      refine ⟨t2, _, rfl, .inr (SqT.of upd_same), rfl, rfl, _, rfl, iteFD (by decide +kernel) ?_⟩
      have s2 := s1.trans (Same.new (o := .tup [.str "keep", .str "back"]) h2)
      generalize upd _ t2 (.tup [.str "keep", .str "back"]) = H2 at s2 ⊢
      have ht2 := Same.sqt s2 ht
      refine ⟨_, rfl, t, _, _, _, rfl, rfl, ht2, atI_nat (j := 0) rfl, rfl, _, rfl, iteTD (by decide +kernel) ?_⟩
      refine ⟨_, rfl, t, _, _, _, rfl, rfl, ht2, atI_nat (j := 1) rfl, fun x dx hx hdx ne => ?_⟩
      exact ⟨x, dx, .str c, .str c, rfl, upd_same, .str c, nl hv, fun hn H1 kp m hi => ⟨rfl, q x H1 (s2.trans (kpi_same2 hx hdx kp)) ⟨dx, hi⟩⟩, fun hn => absurd (show nameS c = true from hv) (by rw [show nameS c = false from hn]; decide)⟩
    | put c =>
      refine ⟨_, rfl, t, _, _, _, rfl, rfl, ht, atI_nat (j := 0) rfl, rfl, _, rfl, iteFD (by decide +kernel) ?_⟩
      refine ⟨_, rfl, t, _, _, _, rfl, rfl, ht, atI_nat (j := 0) rfl, (by show 2 ≤ sizeLine; decide), fun t1 h1 => ?_⟩
      refine ⟨t1, _, rfl, .inr (SqT.of upd_same), rfl, rfl, _, rfl, iteFD (by decide +kernel) ?_⟩
      have s1 := (Same.new (o := .tup [.str "skip", .str "set"]) h1)
      generalize upd _ t1 (.tup [.str "skip", .str "set"]) = H1 at s1 ⊢
      have ht1 := Same.sqt s1 ht
      refine ⟨_, rfl, t, _, _, _, rfl, rfl, ht1, atI_nat (j := 0) rfl, (by show 2 ≤ sizeLine; decide), fun t2 h2 => ?_⟩
      refine ⟨t2, _, rfl, .inr (SqT.of upd_same), rfl, rfl, _, rfl, iteFD (by decide +kernel) ?_⟩
      have s2 := s1.trans (Same.new (o := .tup [.str "keep", .str "back"]) h2)
      generalize upd _ t2 (.tup [.str "keep", .str "back"]) = H2 at s2 ⊢
      have ht2 := Same.sqt s2 ht
      refine ⟨_, rfl, t, _, _, _, rfl, rfl, ht2, atI_nat (j := 0) rfl, rfl, _, rfl, iteFD (by decide +kernel) ?_⟩
      refine ⟨_, rfl, t, _, _, _, rfl, rfl, ht2, atI_nat (j := 0) rfl, rfl, _, rfl, iteTD (by decide +kernel) ?_⟩
      refine ⟨_, rfl, t, _, _, _, rfl, rfl, ht2, atI_nat (j := 1) rfl, fun x dx hx hdx ne => ?_⟩
      exact ⟨x, dx, .str c, .str c, rfl, upd_same, .str c, nl hv, fun hn H1 kp m hi => ⟨rfl, q x H1 (s2.trans (kpi_same2 hx hdx kp)) ⟨dx, hi⟩⟩, fun hn => absurd (show nameS c = true from hv) (by rw [show nameS c = false from hn]; decide)⟩
    | opn c =>
      refine ⟨_, rfl, t, _, _, _, rfl, rfl, ht, atI_nat (j := 0) rfl, rfl, _, rfl, iteFD (by decide +kernel) ?_⟩
      refine ⟨_, rfl, t, _, _, _, rfl, rfl, ht, atI_nat (j := 0) rfl, (by show 2 ≤ sizeLine; decide), fun t1 h1 => ?_⟩
      refine ⟨t1, _, rfl, .inr (SqT.of upd_same), rfl, rfl, _, rfl, iteFD (by decide +kernel) ?_⟩
      have s1 := (Same.new (o := .tup [.str "skip", .str "set"]) h1)
      generalize upd _ t1 (.tup [.str "skip", .str "set"]) = H1 at s1 ⊢
      have ht1 := Same.sqt s1 ht
      refine ⟨_, rfl, t, _, _, _, rfl, rfl, ht1, atI_nat (j := 0) rfl, (by show 2 ≤ sizeLine; decide), fun t2 h2 => ?_⟩
      refine ⟨t2, _, rfl, .inr (SqT.of upd_same), rfl, rfl, _, rfl, iteFD (by decide +kernel) ?_⟩
      have s2 := s1.trans (Same.new (o := .tup [.str "keep", .str "back"]) h2)
      generalize upd _ t2 (.tup [.str "keep", .str "back"]) = H2 at s2 ⊢
      have ht2 := Same.sqt s2 ht
      refine ⟨_, rfl, t, _, _, _, rfl, rfl, ht2, atI_nat (j := 0) rfl, rfl, _, rfl, iteFD (by decide +kernel) ?_⟩
      refine ⟨_, rfl, t, _, _, _, rfl, rfl, ht2, atI_nat (j := 0) rfl, rfl, _, rfl, iteFD (by decide +kernel) ?_⟩
      refine ⟨_, rfl, t, _, _, _, rfl, rfl, ht2, atI_nat (j := 1) rfl, fun x dx hx hdx ne => ?_⟩
      exact ⟨x, dx, .str c, .str c, rfl, upd_same, .str c, nl hv, fun hn H1 kp m hi => ⟨rfl, q x H1 (s2.trans (kpi_same2 hx hdx kp)) ⟨dx, hi⟩⟩, fun hn => absurd (show nameS c = true from hv) (by rw [show nameS c = false from hn]; decide)⟩
end
end Pn

namespace Pn
open PySem L2
/-! ### == of an own instance whose class has an __eq__ of its own -/
section
variable {X : Cx} {CX : CXT} {k : Nat} {f C : Addr} {fd : FuncData} {ps : List Str} {sp : Sp} {E : XK}
/-- what stands to the right: a text, or an instance whose class is not first asked -/
def Right (K : PySem.W.Frag) (C : Addr) (H : Hp) (y : V) : Prop := (∃ z : Str, y = .str z ∧ PySem.W.notFirst K C (.type "str") = true) ∨ ∃ (b D dy : Addr) (gs : List (Str × V)), y = .ref b ∧ H b = some (.ins D dy gs) ∧ PySem.W.notFirst K C (.ref D) = true
def rOpIns (K : PySem.W.Frag) (nm : Str) (f : Addr) (sp : Sp) (E : XK) : R2 := fun x y H Q => ∃ (a C dx : Addr) (fs : List (Str × V)), x = .ref a ∧ H a = some (.ins C dx fs) ∧ PySem.W.findIn K (.ref C) nm = some (some (.ref f)) ∧ Right K C H y ∧ sp [x, y] H Q E
theorem op_eqIns (F : FnOk X.prog X.w X.K X.mg X.base CX k f fd ps sp) (hf : PySem.W.isFn X.K (.ref f) = true) (hr : Room k X.A) (hb : Binds X.K fd ps []) (hx : Passes CX X E) : OpR X (compareOp .Eq) (rOpIns X.K "__eq__" f sp E) := by
  intro pins s σ H x y v u Q I rx ry h
  obtain ⟨a, C, dx, fs, rfl, ha, hs, hy, q⟩ := h
  cases rx
  obtain ⟨mA, O, _⟩ := ins_get I.hok ha
  obtain ⟨od, J, _⟩ := O.look
  obtain ⟨m, hF⟩ := I.fr
  show wpAny (model X.prog X.w) X.A (richCompare .Eq (.ref a) u) (EP X pins σ Q) X.xe s
  have go : ∀ tb, PySem.W.Looks (model X.prog X.w) s.heap (typeOf u) tb → PySem.W.notFirst X.K C tb = true → wpAny (model X.prog X.w) X.A (richCompare .Eq (.ref a) u) (EP X pins σ Q) X.xe s := fun tb hl hn => by
    refine PySem.W.cmp_K (op := .Eq) (tb := tb) hr.units0 hF I.ok.mod.kin J hl hn hs hf ?_
    refine wpAny_mono (run_fnA F hr I.env0 hb hx I (.cons (show RelV (.ref a) (Value.ref a) from rfl) (.cons ry .nil)) q) (fun w s' z => ?_) fun _ _ x => x
    obtain ⟨z', H', I', rz, qz⟩ := z
    exact SlX.cmpback rz ⟨z', H', I', rz, qz⟩
  rcases hy with ⟨z, rfl, hn⟩ | ⟨b, D, dy, gs, rfl, hb2, hn⟩
  · obtain ⟨t, rfl⟩ := ry
    exact go _ (PySem.W.Looks.of_pure rfl) hn
  · cases ry
    obtain ⟨mB, O2, _⟩ := ins_get I.hok hb2
    obtain ⟨od2, J2, _⟩ := O2.look
    exact go _ J2.type hn
end
end Pn
namespace Pn
open PySem PySem.W PyProof.Rows
section
variable {prog : Program} {w : World} {A : Around} {E : Value → Shared → Prop} {s : Shared} {K : Frag} {x C L f : Addr} {h₀ : Heap} {m : Str → Option Value} {ox : Obj} {od : Option Obj} {b tb : Value}
/-- object.__ne__ asks __eq__ and turns its answer round -/
theorem obj_ne {Q : Fin → Shared → Prop} (hu : A.units < cLine) (X : K.In s.heap) (I : InstAt s.heap x ox C od) (hs : findIn K (.ref C) "__eq__" = some (some (.ref f))) (hf : isFn K (.ref f) = true)
    (h : wpAny (model prog w) A (call (.ref f) [.ref x, b]) (fun v s' => ∃ c, v = .bool c ∧ Q (.done (.ret (.bool (!c)))) s') E s) : wpAny (model prog w) A (Builtin.«object.__ne__» ⟨[.ref x, b], []⟩) Q E s := by
  unfold Builtin.«object.__ne__»
  repeat (first
    | with_reducible refine wpAny_cRoomFor hu ?_
    | (refine wpAny_bind (m := callSpecialIfBound? (.ref x) (Str.ofString "__eq__") [b])
        (ifBound_K X I hs hf (wpAny_mono h (fun v s' hv => by
          obtain ⟨c, rfl, hq⟩ := hv
          repeat (first | exact hq | exact wpAny_pure hq | exact wpAny_truthy_bool hq | (refine wpAny_bind (m := truthy (.bool _)) (wpAny_truthy_bool ?_)) | wp_step)) fun _ _ e => e)))
    | wp_step)
theorem rich_ne {Q : Value → Shared → Prop} (hu : A.units + 1 < cLine) (F : Fr h₀ L s.heap m) (X₀ : K.In h₀) (I : InstAt s.heap x ox C od) (hb : Looks (model prog w) s.heap (typeOf b) tb) (hn : notFirst K C tb = true)
    (hne : findIn K (.ref C) "__ne__" = some (some (.builtin "object.__ne__"))) (ho : mroIn K C (.type "object") = some true) (hs : findIn K (.ref C) "__eq__" = some (some (.ref f))) (hf : isFn K (.ref f) = true)
    (h : wpAny (model prog w) A.in1 (call (.ref f) [.ref x, b]) (fun v s' => ∃ c, v = .bool c ∧ Q (.bool (!c)) s') E s) : wpAny (model prog w) A (richCompare .NotEq (.ref x) b) Q E s := by
  have X := X₀.keeps F.keep
  have one : wpAny (model prog w) A (tryCompare (.ref x) (cmpInfo .NotEq).2.1 b) (fun r s' => ∃ v, r = some v ∧ Q v s') E s := by
    unfold tryCompare
    refine wpAny_bind (NtL.csib (I.type.andThen (looks_findIn X hne)) (PySem.F.slot_object_ne.bind _) (wpAny_call (codeAny_call_builtin PySem.F.slot_object_ne.plain PySem.F.entry_object_ne
      (check_slot (i := "object.__ne__") (owner := "object") (n := "__ne__") (by decide +kernel) (by decide +kernel) (I.type.andThen (looks_mroIn X ho)) (PySem.F.args_object_ne_2 _ _)
        (obj_ne (A := A.in1) hu X I hs hf (wpAny_mono h (fun v s' hv => ?_) fun _ _ e => e))))))
    obtain ⟨c, rfl, hq⟩ := hv
    first | exact ⟨c, rfl, wpAny_pure ⟨_, rfl, hq⟩⟩ | exact ⟨c, rfl, _, rfl, hq⟩ | exact ⟨c, rfl, wpAny_pure (wpAny_pure ⟨_, rfl, hq⟩)⟩
  unfold richCompare
  simp only [oneThing_ref]
  refine wpAny_holding (wpAny_bind (wpAny_cRoomFor (Nat.lt_of_succ_lt hu) ?_))
  refine wpAny_bind (I.type.here (wpAny_bind (hb.here ?_)))
  have last : ∀ {t : Option Value → Sem Value}, (∀ v, t (some v) = pure v) → wpAny (model prog w) A (tryCompare (.ref x) (cmpInfo .NotEq).2.1 b >>= t) Q E s := fun ht => wpAny_bind (wpAny_mono one (fun r s' ⟨v, hr, hq⟩ => by
    subst hr
    rw [ht]
    exact wpAny_pure hq) fun _ _ e => e)
  by_cases hq : tb = .ref C
  · subst hq
    rw [if_neg (by simp)]
    exact wpAny_bind (wpAny_pure (by simp only [Bool.false_eq_true, if_false]; exact last fun v => rfl))
  · have e : subIn K tb (.ref C) = some false := (Bool.or_eq_true_iff.mp hn).elim (fun e => absurd (beq_iff_eq.mp e) hq) beq_iff_eq.mp
    rw [if_pos (by simpa using fun z => hq z.symm)]
    exact wpAny_bind ((looks_subIn X e).here (by simp only [Bool.false_eq_true, if_false]; exact last fun v => rfl))
end
end Pn
namespace Pn
open PySem L2
section
variable {X : Cx} {CX : CXT} {k : Nat} {f C : Addr} {fd : FuncData} {ps : List Str} {sp : Sp} {E : XK}
/-- != of an own instance with an __eq__ of its own and object's __ne__ -/
def rNeIns (K : PySem.W.Frag) (f : Addr) (sp : Sp) (E : XK) : R2 := fun x y H Q => ∃ (a C dx : Addr) (fs : List (Str × V)), x = .ref a ∧ H a = some (.ins C dx fs) ∧ PySem.W.findIn K (.ref C) "__eq__" = some (some (.ref f)) ∧
  PySem.W.findIn K (.ref C) "__ne__" = some (some (.builtin "object.__ne__")) ∧ PySem.W.mroIn K C (.type "object") = some true ∧ Right K C H y ∧ sp [x, y] H (fun v H' => ∃ c, v = .bl c ∧ Q (.bl (!c)) H') E
theorem op_neIns (F : FnOk X.prog X.w X.K X.mg X.base CX k f fd ps sp) (hf : PySem.W.isFn X.K (.ref f) = true) (hr : Room (k + 1) X.A) (hb : Binds X.K fd ps []) (hx : Passes CX X E) : OpR X (compareOp .NotEq) (rNeIns X.K f sp E) := by
  intro pins s σ H x y v u Q I rx ry h
  obtain ⟨a, C, dx, fs, rfl, ha, hs, hne, ho, hy, q⟩ := h
  cases rx
  obtain ⟨mA, O, _⟩ := ins_get I.hok ha
  obtain ⟨od, J, _⟩ := O.look
  obtain ⟨m, hF⟩ := I.fr
  show wpAny (model X.prog X.w) X.A (richCompare .NotEq (.ref a) u) (EP X pins σ Q) X.xe s
  have hr1 : Room k X.A.in1 := Room.in1 hr
  have go : ∀ tb, PySem.W.Looks (model X.prog X.w) s.heap (typeOf u) tb → PySem.W.notFirst X.K C tb = true → wpAny (model X.prog X.w) X.A (richCompare .NotEq (.ref a) u) (EP X pins σ Q) X.xe s := fun tb hl hn => by
    refine rich_ne (hu_of hr) hF I.ok.mod.kin J hl hn hne ho hs hf ?_
    refine wpAny_mono (run_fnA F hr1 I.env0.in1 hb hx I (.cons (show RelV (.ref a) (Value.ref a) from rfl) (.cons ry .nil)) q) (fun w s' z => ?_) fun _ _ x => x
    obtain ⟨z', H', I', rz, c, ez, qz⟩ := z
    subst ez
    cases (show w = Value.bool c from rz)
    exact ⟨c, rfl, .bl (!c), H', I', rfl, qz⟩
  rcases hy with ⟨z, rfl, hn⟩ | ⟨b, D, dy, gs, rfl, hb2, hn⟩
  · obtain ⟨t, rfl⟩ := ry
    exact go _ (PySem.W.Looks.of_pure rfl) hn
  · cases ry
    obtain ⟨mB, O2, _⟩ := ins_get I.hok hb2
    obtain ⟨od2, J2, _⟩ := O2.look
    exact go _ J2.type hn
end
end Pn

namespace Pn
open PySem L2 TL
abbrev sSameRow : Stmt := top 18
abbrev sNoteEq : Stmt := inClass (top 20) 2
abbrev sSkipEq : Stmt := inClass (top 21) 2
abbrev sSetEq : Stmt := inClass (top 22) 2
abbrev sKeepEq : Stmt := inClass (top 23) 2
abbrev sBackEq : Stmt := inClass (top 24) 2
abbrev sRefEq : Stmt := inClass (top 25) 2
abbrev sPutEq : Stmt := inClass (top 26) 2
abbrev sOpenEq : Stmt := inClass (top 27) 2
section
variable {P : Program} {w : World} {K : PySem.W.Frag} {mg : Str → Option Value} {base : Heap}
/-- an __eq__ of an own class -/
structure TEq (K : PySem.W.Frag) (C : Addr) (qual : Str) (st : Stmt) : Type where
  f : Addr
  fd : FuncData
  F : Fun K "__eq__" qual st f fd
  b : Binds K fd ["self", "other"] []
  hs : PySem.W.findIn K (.ref C) "__eq__" = some (some (.ref f))
  hf : PySem.W.isFn K (.ref f) = true
def clsOf (T : TRows K mg) : RowD → Addr
  | .note _ _ => T.note.C
  | .skip _ _ => T.skip.C
  | .set _ _ => T.set.C
  | .keep _ => T.keep.C
  | .back _ => T.back.C
  | .ref _ => T.ref.C
  | .put _ => T.put.C
  | .opn _ => T.open_.C
theorem insRow_ins (T : TRows K mg) (dx : Addr) (r : RowD) : ∃ fs, insRow T dx r = .ins (clsOf T r) dx fs := by cases r <;> exact ⟨_, rfl⟩
theorem cls_of (T : TRows K mg) (r : RowD) : Cls K (clsOf T r) := by
  cases r with
  | note _ _ => exact T.note.cl
  | skip _ _ => exact T.skip.cl
  | set _ _ => exact T.set.cl
  | keep _ => exact T.keep.cl
  | back _ => exact T.back.cl
  | ref _ => exact T.ref.cl
  | put _ => exact T.put.cl
  | opn _ => exact T.open_.cl
structure TSame {K : PySem.W.Frag} {mg : Str → Option Value} (T : TRows K mg) : Type where
  S : TStrs T
  CR : Addr
  mR : mg "Row" = some (.ref CR)
  kS : PySem.W.kitOne K (.type "str") (.ref CR) = some false
  kR : ∀ r, PySem.W.kitOne K (.ref (clsOf T r)) (.ref CR) = some true
  nS : ∀ r, PySem.W.notFirst K (clsOf T r) (.type "str") = true
  nR : ∀ r r', PySem.W.notFirst K (clsOf T r) (.ref (clsOf T r')) = true
  cA : ∀ r, PySem.W.findIn K (.ref (clsOf T r)) "__class__" = some (some (.builtin "object.__class__"))
  cN : PySem.W.specialIn K (.builtin "object.__class__") "__get__" = some (some (.builtin "getset_descriptor.__get__"))
  cT : PySem.W.takesIn K (.builtin "object.__class__") = some true
  cM : ∀ r, PySem.W.mroIn K (clsOf T r) (.type "object") = some true
  ne : ∀ r, PySem.W.findIn K (.ref (clsOf T r)) "__ne__" = some (some (.builtin "object.__ne__"))
  mStr : mg "str" = none
  same : At K mg "same_row" sSameRow ["row", "other"]
  note : TEq K T.note.C "Note.__eq__" sNoteEq
  skip : TEq K T.skip.C "Skip.__eq__" sSkipEq
  set : TEq K T.set.C "Set.__eq__" sSetEq
  keep : TEq K T.keep.C "Keep.__eq__" sKeepEq
  back : TEq K T.back.C "Back.__eq__" sBackEq
  ref : TEq K T.ref.C "Ref.__eq__" sRefEq
  put : TEq K T.put.C "Put.__eq__" sPutEq
  open_ : TEq K T.open_.C "Open.__eq__" sOpenEq
/-- a row beside a text or a row -/
def spSame (T : TRows K mg) : Sp := fun vs H Q _ => ∃ (a : Addr) (y : V) (r : RowD), vs = [.ref a, y] ∧ RowAt T H a r ∧ rowSmall r ∧ ((∃ z, y = .str z ∧ Q (.bl false) H) ∨ ∃ (b : Addr) (r' : RowD), y = .ref b ∧ RowAt T H b r' ∧ rowSmall r' ∧ Q (.bl (decide (rowText r = rowText r'))) H)
theorem scSameRow : FnScope ["row", "other"] ["row", "other"] (defScope sSameRow) := ⟨rfl, rfl, rfl, by decide +kernel, rfl, by decide +kernel, by decide +kernel⟩
theorem ok_same {T : TRows K mg} (S : TSame T) : FnOk P w K mg base CX0 4 S.same.f S.same.fd ["row", "other"] (spSame T) := by
  refine S.same.F.ok scSameRow (fun vs H Q E h => ?_) (fun cdv A outer s H vs Q E hr h => ?_)
  · obtain ⟨a, y, r, rfl, _⟩ := h
    rfl
  · obtain ⟨a, y, r, rfl, ha, hs, q⟩ := h
    refine ⟨_, pss_one (ps_ret (pe_and (pe_callB call_isi (by rfl) T.N.mIsi (by decide +kernel) (pa_cons (pv 1) (pa_cons (pe_glob (v := .ref S.CR) (by rfl) S.mR rfl) pa_nil))) (pe_one (pe_cmpR op_eq (pe_callTy (call_strRowK (K := K) (mg := mg) rfl rfl T S.S hr) (by rfl) S.mStr (by decide +kernel) (pa_cons (pv 0) pa_nil)) (pe_callTy (call_strRowK (K := K) (mg := mg) rfl rfl T S.S hr) (by rfl) S.mStr (by decide +kernel) (pa_cons (pv 1) pa_nil)) (nomark _))))), ?_⟩
    rcases q with ⟨z, rfl, q⟩ | ⟨b, r', rfl, hb, hs', q⟩
    · refine ⟨_, rfl, .str z, .ref S.CR, _, _, false, rfl, .own _, .base (.str z), S.kS, _, rfl, iteF ?_⟩
      exact q
    · obtain ⟨dy, hb2⟩ := id hb
      obtain ⟨gs, eg⟩ := insRow_ins T dy r'
      rw [eg] at hb2
      refine ⟨_, rfl, .ref b, .ref S.CR, _, _, true, rfl, .own _, .base (.ins hb2 (cls_of T r') (S.cA r') S.cN S.cT (S.cM r')), S.kR r', _, rfl, iteT ?_⟩
      refine ⟨_, rfl, a, r, rfl, ha, hs, _, rfl, b, r', rfl, hb, hs', rfl, ?_⟩
      have e : decide (V.str (rowText r) = V.str (rowText r')) = decide (rowText r = rowText r') := by
        by_cases h : rowText r = rowText r'
        · rw [h, decide_eq_true rfl, decide_eq_true rfl]
        · rw [decide_eq_false h, decide_eq_false (fun z => h (V.str.inj z))]
      rw [e]
      exact q
theorem scNoteEq : FnScope ["self", "other"] ["self", "other"] (defScope sNoteEq) := ⟨rfl, rfl, rfl, by decide +kernel, rfl, by decide +kernel, by decide +kernel⟩
theorem ok_NoteEq {T : TRows K mg} (S : TSame T) : FnOk P w K mg base CX0 5 S.note.f S.note.fd ["self", "other"] (spSame T) := by
  refine S.note.F.ok scNoteEq (fun vs H Q E h => ?_) (fun cdv A outer s H vs Q E hr h => ?_)
  · obtain ⟨a, y, r, rfl, _⟩ := h
    rfl
  · obtain ⟨a, y, r, rfl, ha, hs, q⟩ := h
    refine ⟨_, pss_one (ps_ret (pe_call (ok_same S) hr rfl S.same.m S.same.F.kp S.same.b .nil pass0 (pa_cons (pv 0) (pa_cons (pv 1) pa_nil)))), ?_⟩
    exact ⟨_, rfl, _, rfl, a, y, r, rfl, ha, hs, q⟩
theorem scSkipEq : FnScope ["self", "other"] ["self", "other"] (defScope sSkipEq) := ⟨rfl, rfl, rfl, by decide +kernel, rfl, by decide +kernel, by decide +kernel⟩
theorem ok_SkipEq {T : TRows K mg} (S : TSame T) : FnOk P w K mg base CX0 5 S.skip.f S.skip.fd ["self", "other"] (spSame T) := by
  refine S.skip.F.ok scSkipEq (fun vs H Q E h => ?_) (fun cdv A outer s H vs Q E hr h => ?_)
  · obtain ⟨a, y, r, rfl, _⟩ := h
    rfl
  · obtain ⟨a, y, r, rfl, ha, hs, q⟩ := h
    refine ⟨_, pss_one (ps_ret (pe_call (ok_same S) hr rfl S.same.m S.same.F.kp S.same.b .nil pass0 (pa_cons (pv 0) (pa_cons (pv 1) pa_nil)))), ?_⟩
    exact ⟨_, rfl, _, rfl, a, y, r, rfl, ha, hs, q⟩
theorem scSetEq : FnScope ["self", "other"] ["self", "other"] (defScope sSetEq) := ⟨rfl, rfl, rfl, by decide +kernel, rfl, by decide +kernel, by decide +kernel⟩
theorem ok_SetEq {T : TRows K mg} (S : TSame T) : FnOk P w K mg base CX0 5 S.set.f S.set.fd ["self", "other"] (spSame T) := by
  refine S.set.F.ok scSetEq (fun vs H Q E h => ?_) (fun cdv A outer s H vs Q E hr h => ?_)
  · obtain ⟨a, y, r, rfl, _⟩ := h
    rfl
  · obtain ⟨a, y, r, rfl, ha, hs, q⟩ := h
    refine ⟨_, pss_one (ps_ret (pe_call (ok_same S) hr rfl S.same.m S.same.F.kp S.same.b .nil pass0 (pa_cons (pv 0) (pa_cons (pv 1) pa_nil)))), ?_⟩
    exact ⟨_, rfl, _, rfl, a, y, r, rfl, ha, hs, q⟩
theorem scKeepEq : FnScope ["self", "other"] ["self", "other"] (defScope sKeepEq) := ⟨rfl, rfl, rfl, by decide +kernel, rfl, by decide +kernel, by decide +kernel⟩
theorem ok_KeepEq {T : TRows K mg} (S : TSame T) : FnOk P w K mg base CX0 5 S.keep.f S.keep.fd ["self", "other"] (spSame T) := by
  refine S.keep.F.ok scKeepEq (fun vs H Q E h => ?_) (fun cdv A outer s H vs Q E hr h => ?_)
  · obtain ⟨a, y, r, rfl, _⟩ := h
    rfl
  · obtain ⟨a, y, r, rfl, ha, hs, q⟩ := h
    refine ⟨_, pss_one (ps_ret (pe_call (ok_same S) hr rfl S.same.m S.same.F.kp S.same.b .nil pass0 (pa_cons (pv 0) (pa_cons (pv 1) pa_nil)))), ?_⟩
    exact ⟨_, rfl, _, rfl, a, y, r, rfl, ha, hs, q⟩
theorem scBackEq : FnScope ["self", "other"] ["self", "other"] (defScope sBackEq) := ⟨rfl, rfl, rfl, by decide +kernel, rfl, by decide +kernel, by decide +kernel⟩
theorem ok_BackEq {T : TRows K mg} (S : TSame T) : FnOk P w K mg base CX0 5 S.back.f S.back.fd ["self", "other"] (spSame T) := by
  refine S.back.F.ok scBackEq (fun vs H Q E h => ?_) (fun cdv A outer s H vs Q E hr h => ?_)
  · obtain ⟨a, y, r, rfl, _⟩ := h
    rfl
  · obtain ⟨a, y, r, rfl, ha, hs, q⟩ := h
    refine ⟨_, pss_one (ps_ret (pe_call (ok_same S) hr rfl S.same.m S.same.F.kp S.same.b .nil pass0 (pa_cons (pv 0) (pa_cons (pv 1) pa_nil)))), ?_⟩
    exact ⟨_, rfl, _, rfl, a, y, r, rfl, ha, hs, q⟩
theorem scRefEq : FnScope ["self", "other"] ["self", "other"] (defScope sRefEq) := ⟨rfl, rfl, rfl, by decide +kernel, rfl, by decide +kernel, by decide +kernel⟩
theorem ok_RefEq {T : TRows K mg} (S : TSame T) : FnOk P w K mg base CX0 5 S.ref.f S.ref.fd ["self", "other"] (spSame T) := by
  refine S.ref.F.ok scRefEq (fun vs H Q E h => ?_) (fun cdv A outer s H vs Q E hr h => ?_)
  · obtain ⟨a, y, r, rfl, _⟩ := h
    rfl
  · obtain ⟨a, y, r, rfl, ha, hs, q⟩ := h
    refine ⟨_, pss_one (ps_ret (pe_call (ok_same S) hr rfl S.same.m S.same.F.kp S.same.b .nil pass0 (pa_cons (pv 0) (pa_cons (pv 1) pa_nil)))), ?_⟩
    exact ⟨_, rfl, _, rfl, a, y, r, rfl, ha, hs, q⟩
theorem scPutEq : FnScope ["self", "other"] ["self", "other"] (defScope sPutEq) := ⟨rfl, rfl, rfl, by decide +kernel, rfl, by decide +kernel, by decide +kernel⟩
theorem ok_PutEq {T : TRows K mg} (S : TSame T) : FnOk P w K mg base CX0 5 S.put.f S.put.fd ["self", "other"] (spSame T) := by
  refine S.put.F.ok scPutEq (fun vs H Q E h => ?_) (fun cdv A outer s H vs Q E hr h => ?_)
  · obtain ⟨a, y, r, rfl, _⟩ := h
    rfl
  · obtain ⟨a, y, r, rfl, ha, hs, q⟩ := h
    refine ⟨_, pss_one (ps_ret (pe_call (ok_same S) hr rfl S.same.m S.same.F.kp S.same.b .nil pass0 (pa_cons (pv 0) (pa_cons (pv 1) pa_nil)))), ?_⟩
    exact ⟨_, rfl, _, rfl, a, y, r, rfl, ha, hs, q⟩
theorem scOpenEq : FnScope ["self", "other"] ["self", "other"] (defScope sOpenEq) := ⟨rfl, rfl, rfl, by decide +kernel, rfl, by decide +kernel, by decide +kernel⟩
theorem ok_OpenEq {T : TRows K mg} (S : TSame T) : FnOk P w K mg base CX0 5 S.open_.f S.open_.fd ["self", "other"] (spSame T) := by
  refine S.open_.F.ok scOpenEq (fun vs H Q E h => ?_) (fun cdv A outer s H vs Q E hr h => ?_)
  · obtain ⟨a, y, r, rfl, _⟩ := h
    rfl
  · obtain ⟨a, y, r, rfl, ha, hs, q⟩ := h
    refine ⟨_, pss_one (ps_ret (pe_call (ok_same S) hr rfl S.same.m S.same.F.kp S.same.b .nil pass0 (pa_cons (pv 0) (pa_cons (pv 1) pa_nil)))), ?_⟩
    exact ⟨_, rfl, _, rfl, a, y, r, rfl, ha, hs, q⟩
/-- == of a row with a text or a row -/
def rEqRow (T : TRows K mg) : R2 := fun x y H Q => ∃ (a : Addr) (r : RowD), x = .ref a ∧ RowAt T H a r ∧ rowSmall r ∧ ((∃ z, y = .str z ∧ Q (.bl false) H) ∨ ∃ (b : Addr) (r' : RowD), y = .ref b ∧ RowAt T H b r' ∧ rowSmall r' ∧ Q (.bl (decide (rowText r = rowText r'))) H)
theorem op_eqRow {X : Cx} {T : TRows X.K X.mg} (S : TSame T) (hr : Room 5 X.A) : OpR X (compareOp .Eq) (rEqRow T) := by
  intro pins s σ H x y v u Q I rx ry h
  obtain ⟨a, r, rfl, ha, hs, q⟩ := h
  obtain ⟨dx, ha2⟩ := id ha
  have hright : Right X.K (clsOf T r) H y := by
    rcases q with ⟨z, rfl, _⟩ | ⟨b, r', rfl, ⟨dy, hb⟩, _⟩
    · exact .inl ⟨z, rfl, S.nS r⟩
    · obtain ⟨gs, eg⟩ := insRow_ins T dy r'
      rw [eg] at hb
      exact .inr ⟨b, _, dy, gs, rfl, hb, S.nR r r'⟩
  have hsp : spSame T [.ref a, y] H Q E0 := ⟨a, y, r, rfl, ha, hs, q⟩
  cases r with
  | note c n => exact op_eqIns (ok_NoteEq S) S.note.hf hr S.note.b pass0 pins s σ H (.ref a) y v u Q I rx ry ⟨a, _, dx, _, rfl, ha2, S.note.hs, hright, hsp⟩
  | skip c n => exact op_eqIns (ok_SkipEq S) S.skip.hf hr S.skip.b pass0 pins s σ H (.ref a) y v u Q I rx ry ⟨a, _, dx, _, rfl, ha2, S.skip.hs, hright, hsp⟩
  | set c n => exact op_eqIns (ok_SetEq S) S.set.hf hr S.set.b pass0 pins s σ H (.ref a) y v u Q I rx ry ⟨a, _, dx, _, rfl, ha2, S.set.hs, hright, hsp⟩
  | keep c => exact op_eqIns (ok_KeepEq S) S.keep.hf hr S.keep.b pass0 pins s σ H (.ref a) y v u Q I rx ry ⟨a, _, dx, _, rfl, ha2, S.keep.hs, hright, hsp⟩
  | back c => exact op_eqIns (ok_BackEq S) S.back.hf hr S.back.b pass0 pins s σ H (.ref a) y v u Q I rx ry ⟨a, _, dx, _, rfl, ha2, S.back.hs, hright, hsp⟩
  | ref c => exact op_eqIns (ok_RefEq S) S.ref.hf hr S.ref.b pass0 pins s σ H (.ref a) y v u Q I rx ry ⟨a, _, dx, _, rfl, ha2, S.ref.hs, hright, hsp⟩
  | put c => exact op_eqIns (ok_PutEq S) S.put.hf hr S.put.b pass0 pins s σ H (.ref a) y v u Q I rx ry ⟨a, _, dx, _, rfl, ha2, S.put.hs, hright, hsp⟩
  | opn c => exact op_eqIns (ok_OpenEq S) S.open_.hf hr S.open_.b pass0 pins s σ H (.ref a) y v u Q I rx ry ⟨a, _, dx, _, rfl, ha2, S.open_.hs, hright, hsp⟩
/-- != of a row with a text or a row -/
def rNeRow (T : TRows K mg) : R2 := fun x y H Q => ∃ (a : Addr) (r : RowD), x = .ref a ∧ RowAt T H a r ∧ rowSmall r ∧ ((∃ z, y = .str z ∧ Q (.bl true) H) ∨ ∃ (b : Addr) (r' : RowD), y = .ref b ∧ RowAt T H b r' ∧ rowSmall r' ∧ Q (.bl (!decide (rowText r = rowText r'))) H)
theorem op_neRow {X : Cx} {T : TRows X.K X.mg} (S : TSame T) (hr : Room 6 X.A) : OpR X (compareOp .NotEq) (rNeRow T) := by
  intro pins s σ H x y v u Q I rx ry h
  obtain ⟨a, r, rfl, ha, hs, q⟩ := h
  obtain ⟨dx, ha2⟩ := id ha
  have hright : Right X.K (clsOf T r) H y := by
    rcases q with ⟨z, rfl, _⟩ | ⟨b, r', rfl, ⟨dy, hb⟩, _⟩
    · exact .inl ⟨z, rfl, S.nS r⟩
    · obtain ⟨gs, eg⟩ := insRow_ins T dy r'
      rw [eg] at hb
      exact .inr ⟨b, _, dy, gs, rfl, hb, S.nR r r'⟩
  have hsp : spSame T [.ref a, y] H (fun v H' => ∃ c, v = .bl c ∧ Q (.bl (!c)) H') E0 := ⟨a, y, r, rfl, ha, hs, q.elim (fun ⟨z, e, q⟩ => .inl ⟨z, e, _, rfl, q⟩) fun ⟨b, r', e, h1, h2, q⟩ => .inr ⟨b, r', e, h1, h2, _, rfl, q⟩⟩
  have hne := S.ne r
  have hm := S.cM r
  cases r with
  | note c n => exact op_neIns (ok_NoteEq S) S.note.hf hr S.note.b pass0 pins s σ H (.ref a) y v u Q I rx ry ⟨a, _, dx, _, rfl, ha2, S.note.hs, hne, hm, hright, hsp⟩
  | skip c n => exact op_neIns (ok_SkipEq S) S.skip.hf hr S.skip.b pass0 pins s σ H (.ref a) y v u Q I rx ry ⟨a, _, dx, _, rfl, ha2, S.skip.hs, hne, hm, hright, hsp⟩
  | set c n => exact op_neIns (ok_SetEq S) S.set.hf hr S.set.b pass0 pins s σ H (.ref a) y v u Q I rx ry ⟨a, _, dx, _, rfl, ha2, S.set.hs, hne, hm, hright, hsp⟩
  | keep c => exact op_neIns (ok_KeepEq S) S.keep.hf hr S.keep.b pass0 pins s σ H (.ref a) y v u Q I rx ry ⟨a, _, dx, _, rfl, ha2, S.keep.hs, hne, hm, hright, hsp⟩
  | back c => exact op_neIns (ok_BackEq S) S.back.hf hr S.back.b pass0 pins s σ H (.ref a) y v u Q I rx ry ⟨a, _, dx, _, rfl, ha2, S.back.hs, hne, hm, hright, hsp⟩
  | ref c => exact op_neIns (ok_RefEq S) S.ref.hf hr S.ref.b pass0 pins s σ H (.ref a) y v u Q I rx ry ⟨a, _, dx, _, rfl, ha2, S.ref.hs, hne, hm, hright, hsp⟩
  | put c => exact op_neIns (ok_PutEq S) S.put.hf hr S.put.b pass0 pins s σ H (.ref a) y v u Q I rx ry ⟨a, _, dx, _, rfl, ha2, S.put.hs, hne, hm, hright, hsp⟩
  | opn c => exact op_neIns (ok_OpenEq S) S.open_.hf hr S.open_.b pass0 pins s σ H (.ref a) y v u Q I rx ry ⟨a, _, dx, _, rfl, ha2, S.open_.hs, hne, hm, hright, hsp⟩
end
end Pn

namespace Pn
open PySem PySem.Spec PyProof.Rows L2
/-! ### the law's def at the surrounding that the judge calls it from: there no repr is under way -/
section
variable {P : Program} {w : World} {K : PySem.W.Frag} {mg mb : Str → Option Value} {s₁ : Shared} {a : Addr} {vs : List Value} {ns : List Int}
/-- a tracking of the script alone -/
theorem law_track (KX : K.In s₁.heap) (ha : s₁.heap.get? a = some { cls := .type "list", data := .seq vs.toArray }) (hi : IntsAre vs ns) (hl : ns.length ≤ sizeLine) :
    ∃ H : Hp, Only H ∧ SqL K H a (ns.map V.int) ∧ HOk P w H s₁.heap ∧ ∀ b, H b ≠ none → b = a ∧ K.lookup a = none := by
  have rv := vals_ints hi
  cases hk : K.lookup a with
  | some o =>
    have e := (KX a o hk).symm.trans ha
    cases e
    exact ⟨fun _ => none, fun _ => .inl rfl, .inr ⟨_, vs.toArray, _, hk, rfl, rfl, rfl, by rw [List.size_toArray, hi.length]; exact hl, by simpa using rv⟩, fun b u z => (nomatch (show (none : Option HO) = some u from z)), fun b z => absurd rfl z⟩
  | none =>
    let o : HO := .frz { cls := .type "list", data := .seq vs.toArray } (.lst (ns.map V.int))
    have at_ : upd (fun _ => none) a o a = some o := upd_same
    refine ⟨upd (fun _ => none) a o, fun b => ?_, .inl (.inr ⟨_, at_⟩), fun b u z => ?_, fun b z => ⟨?_, rfl⟩⟩
    · by_cases h : b = a
      · exact .inr ⟨_, _, by rw [h]; exact at_⟩
      · exact .inl (by rw [upd_ne h])
    · by_cases h : b = a
      · rw [h, at_] at z
        cases z
        rw [h]
        exact ⟨ha, by rw [List.length_map]; exact hl, vs, _, rv, ha⟩
      · rw [upd_ne h] at z
        cases z
    · by_cases h : b = a
      · exact h
      · rw [upd_ne h] at z
        exact absurd rfl z
/-- what stands behind it is the module's -/
theorem law_env (KX : K.In s₁.heap) (hns : s₁.heap.Ns mainGlobals mg) (hb : s₁.heap.Ns builtinsNs mb) (hbb : ∀ x : Str, x ≠ "__name__" → mb x = bootBuiltins x) (hlim : s₁.heap.NoLimit) (hg : s₁.gens = #[])
    (ha : s₁.heap.get? a = some { cls := .type "list", data := .seq vs.toArray }) {H : Hp} (hok : HOk P w H s₁.heap) (hA : ∀ b, H b ≠ none → b = a ∧ K.lookup a = none) :
    K.In (hidT s₁.heap H) ∧ (hidT s₁.heap H).Ns mainGlobals mg ∧ Env0 P w K mg (hidT s₁.heap H) callerA [] s₁ H := by
  have free : ∀ {b : Addr}, (b = a → K.lookup a = none → False) → H b = none := fun {b} h => by
    cases q : H b with
    | none => rfl
    | some u =>
      obtain ⟨e1, e2⟩ := hA b (by rw [q]; simp)
      exact (h e1 e2).elim
  have ns_ : ∀ {b : Addr} {m : Str → Option Value}, s₁.heap.Ns b m → (hidT s₁.heap H).Ns b m := fun {b m} ⟨o, es, ep, e, d, r⟩ => ⟨o, es, ep, hidT_get e (free fun z _ => by
    rw [z, ha] at e
    cases e
    exact Data.noConfusion d), d, r⟩
  have kin : K.In (hidT s₁.heap H) := fun b o e => hidT_get (KX b o e) (free fun z n => by
    rw [z, n] at e
    cases e)
  obtain ⟨mc, l1, l2⟩ := hlim
  exact ⟨kin, ns_ hns, rfl, ⟨kin, ns_ hns, ⟨mb, ns_ hb, hbb⟩, ⟨mc, ns_ l1, l2⟩⟩, fun b o e => of_hidT e, Nat.le_of_eq (hidT_size _ _), trivial, fun b h => (by cases (show b ∈ ([] : List Addr) from h)), hok, .of_eq hg⟩
end
end Pn
namespace Pn
open PySem PySem.Spec PyProof.Rows L2
section
variable {P : Program} {w : World} {K : PySem.W.Frag} {mg : Str → Option Value} {base : Heap} {A : Around}
/-- a def's promise at one surrounding, with no frame below -/
def RunAt (P : Program) (w : World) (K : PySem.W.Frag) (mg : Str → Option Value) (base : Heap) (A : Around) (f : Addr) (fd : FuncData) (ps : List Str) (sp : Sp) : Prop :=
  ∀ (s : Shared) (H : Hp) (us : List Value) (vs : List V) (Q : VK) (E : XK), Env0 P w K mg base A [] s H → BindsTo s fd ⟨us, []⟩ (ps.zip us) → Vals vs us → sp vs H Q E → codeAny (model P w) A (.call (.ref f) ⟨us, []⟩) (CR CX0 [] P w H s Q E) s
theorem fun_at {x qual : Str} {st : Stmt} {f : Addr} {fd : FuncData} {N ps : List Str} {k : Nat} {sp : Sp} (F : Fun K x qual st f fd) (S : FnScope N ps (defScope st)) (hr : Room (k + 1) A) (len : ∀ vs H Q E, sp vs H Q E → vs.length = ps.length)
    (hbody : ∀ (cdv : Value) (s : Shared) (H : Hp) (vs : List V) (Q : VK) (E : XK), Room k (A.deeper (envOfC qual (defScope st) s.heap.objs.size f cdv)) → sp vs H Q E →
      ∃ t, PSs (cxOf CX0 P w K mg base N qual (defScope st) f cdv A [] s H E).nox (defBody st) t ∧ t { nx := fun _ H' => Q .non H', rt := Q } (L2.start N vs) H) : RunAt P w K mg base A f fd ps sp := by
  obtain ⟨oc, od, kV, doc, pm, an, cdv, ct, osl, rfl, lk, hcd⟩ := F.ex
  intro s H us vs Q E e0 hb r hsp
  have keep : ∀ b o, base.get? b = some o → s.heap.get? b = some o := fun b o e => (e0.bs b o e).1
  have kin := e0.mod.kin.keeps keep
  have par : ∀ y ∈ ps.zip us, (defScope st).names.lookup y.1 = some .local ∨ ((defScope st).names.lookup y.1 = some .cell ∧ ((cellsFrom (s.heap.objs.size + 1) (defScope st).names []).lookup y.1).isSome = true) := fun y hy =>
    (S.par y.1 (List.of_mem_zip (a := y.1) (b := y.2) hy).1).imp id fun q => ⟨q, PySem.W.cellsFrom_some _ _ _ (.inl q)⟩
  refine codeAny_call_function hr.depth (kin _ _ lk) rfl S.co S.gen rfl (PySem.W.codeRec_of kin hcd) (hb _ _ _ _ (wpAny_newFunctionEnv_cells S.kind par fun env he s1 x => ?_))
  subst he
  obtain ⟨t, ht, hq⟩ := hbody cdv s H vs Q E (hr.deeper _) hsp
  refine ⟨(e0.mod.nolimit.keeps keep).keeps x.toInCall.keep, codeAny_func (wpAny_mono (ht.nox.run [] s1 (L2.start N vs) H _ (inv_start S hr.hd e0 (len _ _ _ _ hsp) r x) hq) (fun fl s' hs => ?_) fun e s' hs => hs)⟩
  cases fl with
  | ret u =>
    obtain ⟨v, σ', H', J, rv, q⟩ := hs
    exact ⟨v, H', J.os, J.bare, J.base, J.hok, rv, q⟩
  | next =>
    obtain ⟨σ', H', J, q⟩ := hs
    exact ⟨V.non, H', J.os, J.bare, J.base, J.hok, rfl, q⟩
  | brk =>
    obtain ⟨_, _, _, q⟩ := hs
    exact False.elim q
  | cont =>
    obtain ⟨_, _, _, q⟩ := hs
    exact False.elim q
end
/-- the goal that k_head leaves, from the law's promise at callerA -/
theorem walk_g {l : PySem.W.OpenLaw} {n : Nat} {q : Program} {loose : List Str} {XP : (Str → Option Value) → Heap → Prop} {YP : World → Heap → Prop} {d : DefRec} {K : Params → PySem.W.Frag} {sp : PySem.W.Frag → Sp} {x : Str}
    (hn : l.most = some n) (hn2 : n ≤ sizeLine) (hdf : d.params.defaults = []) (hY : ∀ (w : World) (h : Heap), YP w h → (K w.params).In h)
    (F : ∀ (w : World) (mg : Str → Option Value) (fa : Addr) (h : Heap), (K w.params).In h → h.Ns mainGlobals mg → mg d.name = some (.ref fa) →
      ∃ fd : FuncData, (∀ (s : Shared) (u : Value), BindsTo s fd ⟨[u], []⟩ [(x, u)]) ∧
        ∀ base : Heap, (K w.params).In base → base.Ns mainGlobals mg → RunAt l.prog w (K w.params) mg base callerA fa fd [x] (sp (K w.params)))
    (hsp : ∀ (K : PySem.W.Frag) (H : Hp) (a : Addr) (ns : List Int), ns.length ≤ n → SqL K H a (ns.map V.int) → sp K [.ref a] H (fun v _ => v = .bl true) fun _ _ _ => False) :
    PySem.W.WalkO q loose XP YP l.row.toRowW d [] (fun f vs => PySem.call f vs) := by
  refine Att.attach_call hn hdf fun w s₀ s₁ mg mb fa o pm cd doc a vs ns G Y ho hd hcd hmg hobj hints hlen hg => ?_
  have KX := hY w _ Y
  obtain ⟨fd, hb, hF⟩ := F w mg fa _ KX G.T.g hmg
  obtain ⟨H, hO, hS, hok, hA⟩ := law_track (P := l.prog) (w := w) KX hobj hints (Nat.le_trans hlen hn2)
  obtain ⟨kin, hns, e0⟩ := law_env KX G.T.g G.T.b G.T.builtins G.T.nolimit hg hobj hok hA
  refine codeAny_mono (hF _ kin hns s₁ H [.ref a] [.ref a] (fun v _ => v = .bl true) (fun _ _ _ => False) e0 (hb s₁ (.ref a)) (.cons rfl .nil) (hsp _ H a ns hlen hS)) fun r s' h => ?_
  cases r with
  | error e => exact False.elim h
  | ok fl =>
    cases fl with
    | next => exact False.elim h
    | brk => exact False.elim h
    | cont => exact False.elim h
    | ret u =>
      obtain ⟨v, H', os, bare, un, hok', rv, hv⟩ := h
      cases (show v = V.bl true from hv)
      cases (show u = Value.bool true from rv)
      refine ⟨rfl, OldK.of_keep fun b o e => ?_, os, bare⟩
      rcases hO b with z | ⟨ob, xs, z⟩
      · exact un.keep b o e z (by intro z; cases (show b ∈ ([] : List Addr) from z)) (by simp)
      · obtain ⟨e1, _⟩ := hok b _ z
        obtain ⟨e2, _⟩ := hok' b _ (un.frzs b ob _ z)
        cases e.symm.trans e1
        exact e2
end Pn

namespace Pn
open PySem PySem.Spec PyProof.Rows L2
/-! ### repr of a tuple of texts and integers, where no repr is under way -/
/-- plain items as data -/
inductive Fl : List V → List PyData → Prop where
  | nil : Fl [] []
  | str {vs ds} (z : Str) (r : Fl vs ds) : Fl (.str z :: vs) (.str z :: ds)
  | int {vs ds} (i : Int) (r : Fl vs ds) : Fl (.int i :: vs) (.int i :: ds)
theorem Fl.reads {h : Heap} : ∀ {vs : List V} {ds : List PyData} {us : List Value}, Fl vs ds → Vals vs us → ReadsAll h us ds []
  | _, _, _, .nil, r => by
    cases r
    exact .nil
  | _, _, _, .str z f, r => by
    cases r with
    | cons r1 r2 =>
      obtain ⟨t, rfl⟩ := r1
      exact .cons (.str z t) (f.reads r2)
  | _, _, _, .int i f, r => by
    cases r with
    | cons r1 r2 =>
      obtain ⟨t, rfl⟩ := r1
      exact .cons (.int i t) (f.reads r2)
section
variable {X : Cx}
def rReprT (K : PySem.W.Frag) : List V → Hp → VK → Prop := fun xs H Q => ∃ (a : Addr) (vs : List V) (ds : List PyData), xs = [.ref a] ∧ SqT K H a vs ∧ Fl vs ds ∧ PyData.showable (.tuple ds) = true ∧ PyData.hasDict (.tuple ds) = false ∧ PyData.depth (.tuple ds) ≤ 10 ∧ (PyData.shown (.tuple ds)).length ≤ sizeLine ∧ Q (.str (PyData.shown (.tuple ds))) H
theorem call_reprT (hg : X.A.guards = some []) {k : Nat} (hr : Room k X.A) : CallR X (.builtin "repr") (rReprT X.K) := by
  intro pins s σ H xs us Q I r h
  obtain ⟨a, vs, ds, rfl, ht, hf, h1, h2, h3, h4, q⟩ := h
  obtain ⟨u, rfl, ru⟩ := r.one
  cases (show u = Value.ref a from ru)
  obtain ⟨its, rv, ⟨o, ho, hcl, n, hd⟩, _⟩ := I.tuple ht
  have hu := hr.units
  refine repr_of_reads' (h₀ := s.heap) (d := .tuple ds) (as := []) (.tuple ho hcl hd (hf.reads rv)) h1 (fun e => by rw [h2] at e; cases e) hg (by omega) (fun _ _ e => e) (fun h' u tk hk => ?_) h4
  exact ⟨.str _, H, I.kept hk, ⟨u, rfl⟩, q⟩
end
end Pn

namespace Pn
open PySem L2 TL
/-! ### texts put together of words: their size -/
def sz1 (l : List Str) : Nat := (l.map fun x => x.length + 1).sum
theorem sz1_cons (x : Str) (l : List Str) : sz1 (x :: l) = x.length + 1 + sz1 l := by
  unfold sz1
  rw [List.map_cons, List.sum_cons]
theorem sz1_app : ∀ l m : List Str, sz1 (l ++ m) = sz1 l + sz1 m
  | [], m => by
    rw [List.nil_append, show sz1 [] = 0 from rfl]
    omega
  | x :: l, m => by
    rw [List.cons_append, sz1_cons, sz1_cons, sz1_app l m]
    omega
theorem sz1_sub {l m : List Str} (h : l.Sublist m) : sz1 l ≤ sz1 m := by
  induction h with
  | slnil => exact Nat.le_refl _
  | cons a _ ih => rw [sz1_cons]; omega
  | cons_cons a _ ih => rw [sz1_cons, sz1_cons]; omega
/-- words of at most n signs with as many blanks, all of good signs -/
def Sm (n : Nat) (l : List Str) : Prop := sz1 l ≤ n ∧ ∀ x ∈ l, PyData.strOk x = true
theorem Sm.sub {n : Nat} {l m : List Str} (h : Sm n m) (s : l.Sublist m) : Sm n l := ⟨Nat.le_trans (sz1_sub s) h.1, fun x hx => h.2 x (s.subset hx)⟩
theorem Sm.app {n k : Nat} {l m : List Str} (h : Sm n l) (g : Sm k m) : Sm (n + k) (l ++ m) := ⟨by rw [sz1_app]; exact Nat.add_le_add h.1 g.1, fun x hx => (List.mem_append.mp hx).elim (h.2 x) (g.2 x)⟩
theorem joinL_len : ∀ l : List Str, (joinL (tl " ") (l.map tl)).length ≤ sz1 l ∧ sz1 l ≤ (joinL (tl " ") (l.map tl)).length + 1
  | [] => ⟨Nat.le_refl _, Nat.zero_le _⟩
  | [a] => by
    show (tl a).length ≤ sz1 [a] ∧ sz1 [a] ≤ (tl a).length + 1
    rw [sz1_cons, ← len_tl, show sz1 [] = 0 from rfl]
    omega
  | a :: b :: r => by
    have q := joinL_len (b :: r)
    rw [sz1_cons]
    show (tl a ++ (tl " " ++ joinL (tl " ") ((b :: r).map tl))).length ≤ _ ∧ _ ≤ (tl a ++ (tl " " ++ joinL (tl " ") ((b :: r).map tl))).length + 1
    rw [List.length_append, List.length_append, ← len_tl, show (tl " ").length = 1 from by decide +kernel]
    omega
theorem joinL_mem : ∀ (l : List Str) (c : Nat), c ∈ joinL (tl " ") (l.map tl) → c ∈ tl " " ∨ ∃ x ∈ l, c ∈ tl x
  | [], c, h => by cases h
  | [a], c, h => .inr ⟨a, by simp, h⟩
  | a :: b :: r, c, h => by
    rcases List.mem_append.mp h with h | h
    · exact .inr ⟨a, by simp, h⟩
    · rcases List.mem_append.mp h with h | h
      · exact .inl h
      · rcases joinL_mem (b :: r) c h with h | ⟨x, hx, hc⟩
        · exact .inl h
        · exact .inr ⟨x, List.mem_cons_of_mem _ hx, hc⟩
theorem Sm.join {n : Nat} {l : List Str} (h : Sm n l) : (Txt.join " " l).length ≤ n ∧ PyData.strOk (Txt.join " " l) = true := by
  have e : tl (Txt.join " " l) = joinL (tl " ") (l.map tl) := by rw [join_eq]; exact tl_join " " l
  refine ⟨?_, strOk_tl.mpr fun c hc => ?_⟩
  · rw [len_tl, e]
    exact Nat.le_trans (joinL_len l).1 h.1
  · rw [e] at hc
    rcases joinL_mem l c hc with hc | ⟨x, hx, hc⟩
    · exact strOk_tl.mp (show PyData.strOk " " = true by decide +kernel) c hc
    · exact strOk_tl.mp (h.2 x hx) c hc
theorem sz1_lens : ∀ l : List Str, (l.map (·.length)).sum + l.length * (" " : Str).length = sz1 l
  | [] => rfl
  | x :: l => by
    have q := sz1_lens l
    rw [show (" " : Str).length = 1 from by decide +kernel] at q ⊢
    rw [sz1_cons, List.map_cons, List.sum_cons, List.length_cons]
    omega
theorem Sm.fits {n : Nat} {l : List Str} (h : Sm n l) (hn : n ≤ 16777216) : (l.map (·.length)).sum + l.length * (" " : Str).length ≤ 16777216 := by
  rw [sz1_lens]
  exact Nat.le_trans h.1 hn
theorem sm_split {z : Str} {n : Nat} (hl : z.length ≤ n) (hok : PyData.strOk z = true) : Sm (n + 1) (Txt.split z " ") := by
  have e := PySem.StrLaws.join_split z " "
  have e2 : tl (Txt.join " " (Txt.split z " ")) = joinL (tl " ") ((Txt.split z " ").map tl) := by rw [join_eq]; exact tl_join " " _
  have e3 : (joinL (tl " ") ((Txt.split z " ").map tl)).length = z.length := by
    rw [← e2, ← len_tl, join_eq]
    exact congrArg Str.length e
  refine ⟨?_, fun x hx => strOk_tl.mpr fun c hc => strOk_tl.mp hok c ((split_len (z := z) rfl x hx).2 c hc)⟩
  have := (joinL_len (Txt.split z " ")).2
  omega
theorem sm_row {r : RowD} (h : rowValid r) : (rowText r).length ≤ 63 ∧ PyData.strOk (rowText r) = true := by
  obtain ⟨h1, _, h2⟩ := words_small h
  have h3 : Sm 63 (rowWords r) := by
    refine ⟨?_, fun x hx => (h2 x hx).2⟩
    have key : ∀ l : List Str, (∀ x ∈ l, x.length ≤ 20) → sz1 l ≤ 21 * l.length := by
      intro l
      induction l with
      | nil => intro _; exact Nat.le_refl _
      | cons x l ih =>
        intro hx
        have q1 := hx x List.mem_cons_self
        have q2 := ih fun y hy => hx y (List.mem_cons_of_mem _ hy)
        rw [sz1_cons, List.length_cons]
        omega
    have := key (rowWords r) fun x hx => (h2 x hx).1
    omega
  exact h3.join
theorem cut_sub (ws : List Str) (lo hi : Option Int) : ∃ us : List Str, cutV (ws.map V.str) lo hi = us.map V.str ∧ us.Sublist ws := by
  refine ⟨(ws.drop (HT.sIx (ws.map V.str).length 0 lo)).take (HT.sIx (ws.map V.str).length (ws.map V.str).length hi - HT.sIx (ws.map V.str).length 0 lo), ?_, (List.take_sublist _ _).trans (List.drop_sublist _ _)⟩
  unfold cutV
  rw [List.map_take, List.map_drop]
/-- repr of a text or an integer -/
def rReprF : List V → Hp → VK → Prop := fun xs H Q => (∃ z : Str, xs = [.str z] ∧ z.length ≤ 1000 ∧ PyData.strOk z = true ∧ Q (.str (PySem.reprText z)) H) ∨ ∃ i : Int, xs = [.int i] ∧ i.natAbs.log2 < 1920 ∧ Q (.str (Str.ofString (toString i))) H
theorem repr_fits {z : Str} (hl : z.length ≤ 1000) (hok : PyData.strOk z = true) : (PySem.reprText z).length ≤ sizeLine := by
  have q := StrLaws.reprText_len z fun c hc => by
    have q := strOk_tl.mp hok c hc
    have e : (16 : Nat) ^ 8 = 4294967296 := by decide
    omega
  have e : (1000000 : Nat) ≤ sizeLine := by decide
  omega
theorem call_reprF {X : Cx} : CallR X (.builtin "repr") rReprF := fun pins s σ H xs us Q I r h => by
  rcases h with ⟨z, rfl, hl, hok, q⟩ | h
  · obtain ⟨u, rfl, ru⟩ := r.one
    obtain ⟨t, rfl⟩ := ru
    exact PySem.P.repr_of_str ⟨.str _, H, I.tok _, ⟨_, rfl⟩, q⟩ (repr_fits hl hok)
  · exact SkE.call_repr_int pins s σ H xs us Q I r h
end Pn

namespace Pn
open PySem L2 TL
/-! ### what the law asks of a made row -/
/-- plain data that is small -/
def smallD : PyData → Prop
  | .str z => z.length ≤ 20 ∧ PyData.strOk z = true
  | .int i => ∃ n : Nat, i = (n : Int) ∧ n < 10 ^ 20
  | _ => False
theorem small_shown {d : PyData} (h : smallD d) : (PyData.shown d).length ≤ 300 := by
  cases d with
  | str z =>
    rw [PyData.shown_str]
    have q := StrLaws.reprText_len z fun c hc => by
      have q := strOk_tl.mp h.2 c hc
      have e : (16 : Nat) ^ 8 = 4294967296 := by decide
      omega
    have := h.1
    omega
  | int i =>
    obtain ⟨n, rfl, hn⟩ := h
    rw [PyData.shown_int]
    exact Nat.le_trans (numStr_len hn) (by decide)
  | _ => exact False.elim h
theorem small_showable {d : PyData} (h : smallD d) : PyData.showable d = true ∧ PyData.hasDict d = false ∧ PyData.depth d = 0 := by
  cases d with
  | str z => exact ⟨by simp only [PyData.showable], by simp only [PyData.hasDict], by simp only [PyData.depth]⟩
  | int i =>
    obtain ⟨n, rfl, hn⟩ := h
    refine ⟨?_, by simp only [PyData.hasDict], by simp only [PyData.depth]⟩
    simp only [PyData.showable]
    refine decide_eq_true ?_
    rw [Int.natAbs_natCast]
    by_cases h0 : n = 0
    · subst h0; decide
    · exact (Nat.log2_lt h0).mpr (Nat.lt_of_lt_of_le hn (by decide))
  | _ => exact False.elim h
theorem small_all : ∀ {ds : List PyData}, (∀ d ∈ ds, smallD d) → PyData.showableAll ds = true ∧ PyData.hasDictAll ds = false ∧ PyData.depthAll ds = 0 ∧ ((PyData.shownAll ds).map (·.length)).sum ≤ 300 * ds.length
  | [], _ => ⟨by simp only [PyData.showableAll], by simp only [PyData.hasDictAll], by simp only [PyData.depthAll], by simp only [PyData.shownAll]; exact Nat.zero_le _⟩
  | d :: ds, h => by
    obtain ⟨a1, a2, a3⟩ := small_showable (h d List.mem_cons_self)
    obtain ⟨b1, b2, b3, b4⟩ := small_all fun x hx => h x (List.mem_cons_of_mem _ hx)
    have a4 := small_shown (h d List.mem_cons_self)
    refine ⟨by simp only [PyData.showableAll, a1, b1, Bool.and_self], by simp only [PyData.hasDictAll, a2, b2, Bool.or_self], by simp only [PyData.depthAll, a3, b3, Nat.max_self], ?_⟩
    simp only [PyData.shownAll, List.map_cons, List.sum_cons, List.length_cons]
    omega
theorem small_tuple {ds : List PyData} (h : ∀ d ∈ ds, smallD d) (hl : ds.length ≤ 1000) : PyData.showable (.tuple ds) = true ∧ PyData.hasDict (.tuple ds) = false ∧ PyData.depth (.tuple ds) ≤ 10 ∧ (PyData.shown (.tuple ds)).length ≤ sizeLine := by
  obtain ⟨b1, b2, b3, b4⟩ := small_all h
  refine ⟨by simp only [PyData.showable, b1], by simp only [PyData.hasDict, b2], by simp only [PyData.depth, b3]; decide, ?_⟩
  simp only [PyData.shown]
  have q := tupleText_len_le (PyData.shownAll ds)
  rw [PyData.shownAll_length] at q
  have e : (400000 : Nat) ≤ sizeLine := by decide
  omega
def rowWord : RowD → Str
  | .note _ _ => "note"
  | .skip _ _ => "skip"
  | .set _ _ => "set"
  | .keep _ => "keep"
  | .back _ => "back"
  | .ref _ => "ref"
  | .put _ => "put"
  | .opn _ => "open"
theorem tup_word (r : RowD) : (rowTup r)[0]? = some (.str (rowWord r)) := by cases r <;> rfl
/-- what a row tells but for its word, as data -/
theorem tail_data {r : RowD} (h : rowValid r) : ∃ ds, Fl (rowTup r).tail ds ∧ PyData.showable (.tuple ds) = true ∧ PyData.hasDict (.tuple ds) = false ∧ PyData.depth (.tuple ds) ≤ 10 ∧ (PyData.shown (.tuple ds)).length ≤ sizeLine := by
  have nm : ∀ {z : Str}, nameS z = true → smallD (.str z) := fun h => ⟨Nat.le_trans (name_ok h).2 (by decide), (name_ok h).1⟩
  have one : ∀ {c : Str}, nameS c = true → ∃ ds, Fl [.str c] ds ∧ PyData.showable (.tuple ds) = true ∧ PyData.hasDict (.tuple ds) = false ∧ PyData.depth (.tuple ds) ≤ 10 ∧ (PyData.shown (.tuple ds)).length ≤ sizeLine := fun {c} hc =>
    ⟨[.str c], .str c .nil, small_tuple (fun d hd => by rw [List.mem_singleton.mp hd]; exact nm hc) (by show 1 ≤ 1000; decide)⟩
  have two : ∀ {c : Str} {n : Nat}, nameS c = true → n < 10 ^ 10 → ∃ ds, Fl [.str c, .int (n : Int)] ds ∧ PyData.showable (.tuple ds) = true ∧ PyData.hasDict (.tuple ds) = false ∧ PyData.depth (.tuple ds) ≤ 10 ∧ (PyData.shown (.tuple ds)).length ≤ sizeLine := fun {c n} hc hn =>
    ⟨[.str c, .int (n : Int)], .str c (.int _ .nil), small_tuple (fun d hd => by
      rcases List.mem_cons.mp hd with rfl | hd
      · exact nm hc
      · rw [List.mem_singleton.mp hd]; exact ⟨n, rfl, Nat.lt_trans hn (by decide)⟩) (by show 2 ≤ 1000; decide)⟩
  cases r with
  | note c l => exact ⟨[.str c, .str l], .str c (.str l .nil), small_tuple (fun d hd => by
      rcases List.mem_cons.mp hd with rfl | hd
      · exact nm h.1
      · rw [List.mem_singleton.mp hd]
        rcases h.2 with rfl | h2
        · exact ⟨by decide +kernel, by decide +kernel⟩
        · exact nm h2) (by show 2 ≤ 1000; decide)⟩
  | skip c n => exact two h.1 h.2.2
  | set c n => exact two h.1 h.2
  | keep c => exact one h
  | back c => exact one h
  | ref c => exact one h
  | put c => exact one h
  | opn c => exact one h
theorem tail_cut (r : RowD) : cutV (rowTup r) (some 1) none = (rowTup r).tail ∧ ¬ (HT.sIx (rowTup r).length 0 (some 1) = 0 ∧ HT.sIx (rowTup r).length (rowTup r).length none = (rowTup r).length) := by
  cases r <;> exact ⟨rfl, fun z => absurd (show (1 : Nat) = 0 from z.1) (by decide)⟩
theorem valid_small {r : RowD} (h : rowValid r) : rowSmall r := by
  have b : ∀ {n : Nat}, n < 10 ^ 10 → n < 10 ^ 20 := fun h => Nat.lt_trans h (by decide)
  cases r with
  | note c l => exact ⟨name_small h.1, by rcases h.2 with rfl | z; exact (by decide +kernel : ("" : Str).length ≤ 100); exact name_small z⟩
  | skip c n => exact ⟨name_small h.1, b h.2.2⟩
  | set c n => exact ⟨name_small h.1, b h.2⟩
  | keep c => exact name_small h
  | back c => exact name_small h
  | ref c => exact name_small h
  | put c => exact name_small h
  | opn c => exact name_small h
section
variable {P : Program} {w : World} {K : PySem.W.Frag} {mg : Str → Option Value} {base : Heap}
/-- the word of an instance of a row -/
theorem row_word (T : TRows K mg) {H : Hp} {a : Addr} {r : RowD} (h : RowAt T H a r) : ∃ dx fs, H a = some (.ins (clsOf T r) dx fs) ∧ Cls K (clsOf T r) ∧ NoAttr K (clsOf T r) "word" ∧ fs.lookup ("word" : Str) = some (V.str (rowWord r)) := by
  obtain ⟨dx, ha⟩ := h
  cases r with
  | note c l => exact ⟨dx, _, ha, T.note.cl, T.note.noW, by rw [lookup_putF, if_neg (by decide +kernel), lookup_putF, if_neg (by decide +kernel), lookup_putF, if_pos rfl]; rfl⟩
  | skip c n => exact ⟨dx, _, ha, T.skip.cl, T.skip.noW, by rw [lookup_putF, if_neg (by decide +kernel), lookup_putF, if_neg (by decide +kernel), lookup_putF, if_pos rfl]; rfl⟩
  | set c n => exact ⟨dx, _, ha, T.set.cl, T.set.noW, by rw [lookup_putF, if_neg (by decide +kernel), lookup_putF, if_neg (by decide +kernel), lookup_putF, if_pos rfl]; rfl⟩
  | keep c => exact ⟨dx, _, ha, T.keep.cl, T.keep.noW, by rw [lookup_putF, if_neg (by decide +kernel), lookup_putF, if_pos rfl]; rfl⟩
  | back c => exact ⟨dx, _, ha, T.back.cl, T.back.noW, by rw [lookup_putF, if_neg (by decide +kernel), lookup_putF, if_pos rfl]; rfl⟩
  | ref c => exact ⟨dx, _, ha, T.ref.cl, T.ref.noW, by rw [lookup_putF, if_neg (by decide +kernel), lookup_putF, if_pos rfl]; rfl⟩
  | put c => exact ⟨dx, _, ha, T.put.cl, T.put.noW, by rw [lookup_putF, if_neg (by decide +kernel), lookup_putF, if_pos rfl]; rfl⟩
  | opn c => exact ⟨dx, _, ha, T.open_.cl, T.open_.noW, by rw [lookup_putF, if_neg (by decide +kernel), lookup_putF, if_pos rfl]; rfl⟩
theorem RowAt.same {T : TRows K mg} {H H' : Hp} {a : Addr} {r : RowD} (h : RowAt T H a r) (s : Same H H') : RowAt T H' a r := h.elim fun dx e => ⟨dx, s _ _ e⟩
end
end Pn

namespace Pn
open PySem L2
/-! ### parts as they are drawn, and their unrolled text -/
abbrev sUnrolled : Stmt := top 58
abbrev PartD := Str × List RowD
def expand (kn : List PartD) : RowD → List RowD
  | .put z => (kn.lookup z).getD []
  | r => [r]
def unrollIn (kn : List PartD) (rs : List RowD) : List RowD := rs.flatMap (expand kn)
def knowns (bk : List PartD) : List PartD := bk.foldl (fun kn p => (p.1, unrollIn kn p.2) :: kn) []
def unrolled (bk : List PartD) : List RowD := ((knowns bk).head?.map (·.2)).getD []
theorem knowns_snoc (bk : List PartD) (p : PartD) : knowns (bk ++ [p]) = (p.1, unrollIn (knowns bk) p.2) :: knowns bk := by
  unfold knowns
  rw [List.foldl_append]
  rfl
theorem knowns_len (bk : List PartD) : (knowns bk).map (·.1) = (bk.map (·.1)).reverse := by
  unfold knowns
  have q : ∀ (l : List PartD) (kn : List PartD), (l.foldl (fun kn p => (p.1, unrollIn kn p.2) :: kn) kn).map (·.1) = (l.map (·.1)).reverse ++ kn.map (·.1) := by
    intro l
    induction l with
    | nil => intro kn; rfl
    | cons p l ih =>
      intro kn
      rw [List.foldl_cons, ih]
      simp
  rw [q]
  simp
def RowsAt (H : Hp) (us : List Addr) (rs : List RowD) : Prop := Paired (fun t r => H t = some (.tup (rowTup r))) us rs
def LstAt (H : Hp) (a : Addr) (rs : List RowD) : Prop := ∃ us : List Addr, H a = some (.lst (us.map V.ref)) ∧ RowsAt H us rs
def PartAt (H : Hp) (t : Addr) (p : PartD) : Prop := ∃ ra, H t = some (.tup [.str p.1, .ref ra]) ∧ LstAt H ra p.2
def PartsAt (H : Hp) (a : Addr) (bk : List PartD) : Prop := ∃ ts : List Addr, H a = some (.lst (ts.map V.ref)) ∧ Paired (PartAt H) ts bk
theorem RowsAt.same {H H' : Hp} {us : List Addr} {rs : List RowD} (h : RowsAt H us rs) (s : Same H H') : RowsAt H' us rs := paired_mono (fun _ _ e => s _ _ e) h
theorem LstAt.same {H H' : Hp} {a : Addr} {rs : List RowD} (h : LstAt H a rs) (s : Same H H') : LstAt H' a rs := by
  obtain ⟨us, e, p⟩ := h
  exact ⟨us, s _ _ e, p.same s⟩
theorem PartAt.same {H H' : Hp} {t : Addr} {p : PartD} (h : PartAt H t p) (s : Same H H') : PartAt H' t p := by
  obtain ⟨ra, e, q⟩ := h
  exact ⟨ra, s _ _ e, q.same s⟩
theorem PartsAt.same {H H' : Hp} {a : Addr} {bk : List PartD} (h : PartsAt H a bk) (s : Same H H') : PartsAt H' a bk := by
  obtain ⟨ts, e, p⟩ := h
  exact ⟨ts, s _ _ e, paired_mono (fun _ _ z => z.same s) p⟩
theorem rows_dk {H : Hp} {K : Addr} {kvs kv2 : List (Key × V)} (hK : H K = some (.dK kvs)) {us : List Addr} {rs : List RowD} (h : RowsAt H us rs) : RowsAt (upd H K (.dK kv2)) us rs :=
  paired_mono (fun a _ e => by rw [upd_ne (fun z => by rw [z, hK] at e; cases e)]; exact e) h
theorem lst_dk {H : Hp} {K a : Addr} {kvs kv2 : List (Key × V)} {rs : List RowD} (hK : H K = some (.dK kvs)) (h : LstAt H a rs) : LstAt (upd H K (.dK kv2)) a rs := by
  obtain ⟨us, e, p⟩ := h
  exact ⟨us, by rw [upd_ne (fun z => by rw [z, hK] at e; cases e)]; exact e, rows_dk hK p⟩
theorem rows_lst {H : Hp} {F : Addr} {xs ys : List V} (hF : H F = some (.lst xs)) {us : List Addr} {rs : List RowD} (h : RowsAt H us rs) : RowsAt (upd H F (.lst ys)) us rs :=
  paired_mono (fun a _ e => by rw [upd_ne (fun z => by rw [z, hF] at e; cases e)]; exact e) h
theorem Same.updn {H H1 : Hp} {p : Addr} {o : HO} (s : Same H H1) (h : H p = none) : Same H (upd H1 p o) := fun a u e => by
  rw [upd_ne (ne_of_none e h)]
  exact s a u e
theorem paired_at' {α β : Type} {R : α → β → Prop} : ∀ {l : List α} {m : List β} {i : Nat} {y : β}, Paired R l m → m[i]? = some y → ∃ x, l[i]? = some x ∧ R x y
  | _, _, _, _, .nil, h => by simp at h
  | _, _, 0, _, .cons a _, h => by
    have e := Option.some.inj h
    subst e
    exact ⟨_, rfl, a⟩
  | _, _, i + 1, _, .cons _ b, h => paired_at' (i := i) b h
theorem paired_app {α β : Type} {R : α → β → Prop} : ∀ {l : List α} {m : List β} {l2 : List α} {m2 : List β}, Paired R l m → Paired R l2 m2 → Paired R (l ++ l2) (m ++ m2)
  | _, _, _, _, .nil, h => h
  | _, _, _, _, .cons a b, h => .cons a (paired_app b h)
def headW : RowD → Str
  | .note _ _ => "note"
  | .skip _ _ => "skip"
  | .set _ _ => "set"
  | .keep _ => "keep"
  | .back _ => "back"
  | .ref _ => "ref"
  | .put _ => "put"
  | .opn _ => "open"
theorem head_put : ∀ {r : RowD}, (¬ ∃ z, r = .put z) → decide (V.str (headW r) = V.str "put") = false
  | .note _ _, _ => (by decide +kernel : decide (V.str "note" = V.str "put") = false)
  | .skip _ _, _ => (by decide +kernel : decide (V.str "skip" = V.str "put") = false)
  | .set _ _, _ => (by decide +kernel : decide (V.str "set" = V.str "put") = false)
  | .keep _, _ => (by decide +kernel : decide (V.str "keep" = V.str "put") = false)
  | .back _, _ => (by decide +kernel : decide (V.str "back" = V.str "put") = false)
  | .ref _, _ => (by decide +kernel : decide (V.str "ref" = V.str "put") = false)
  | .put z, h => absurd ⟨z, rfl⟩ h
  | .opn _, _ => (by decide +kernel : decide (V.str "open" = V.str "put") = false)
/-- puts are of earlier parts; no part is long -/
def PutsOk (bk : List PartD) : Prop := ∀ (i : Nat) (p : PartD), bk[i]? = some p → p.2.length ≤ 6 ∧ ∀ z, RowD.put z ∈ p.2 → z ∈ (bk.take i).map (·.1)
/-- what the dict of the unrolled parts holds -/
def KnAt (H0 H : Hp) (kvs : List (Key × V)) (kn : List PartD) : Prop := ∀ z rs, kn.lookup z = some rs → ∃ f, valV kvs (.inr z) = some (.ref f) ∧ H0 f = none ∧ LstAt H f rs
theorem lookup_of_mem : ∀ {kn : List PartD} {z : Str}, z ∈ kn.map (·.1) → ∃ rs, kn.lookup z = some rs ∧ (z, rs) ∈ kn
  | [], z, h => by cases h
  | (y, rs) :: kn, z, h => by
    by_cases e : z = y
    · subst e
      exact ⟨rs, by rw [List.lookup_cons]; simp, List.mem_cons_self⟩
    · have h2 : z ∈ kn.map (·.1) := by
        rcases List.mem_cons.mp h with h | h
        · exact absurd h e
        · exact h
      obtain ⟨rs2, h3, h4⟩ := lookup_of_mem h2
      refine ⟨rs2, ?_, List.mem_cons_of_mem _ h4⟩
      rw [List.lookup_cons, show (z == y) = false from by simpa using e]
      exact h3
theorem tup_head (r : RowD) : (rowTup r)[0]? = some (.str (headW r)) := by cases r <;> rfl
theorem roomU {k : Nat} {A : Around} (r : Room k A) : A.units + 1 < cLine := by have := r.un; omega
theorem putK_len {κ : Type} [DecidableEq κ] (kvs : List (κ × V)) (k : κ) (v : V) : (putK kvs k v).length ≤ kvs.length + 1 := by
  unfold putK
  split
  · rw [List.length_map]; omega
  · rw [List.length_append]; simp
section
variable {P : Program} {w : World} {K : PySem.W.Frag} {mg : Str → Option Value} {base : Heap}
def spUnrolled : Sp := fun vs H Q _ => ∃ (pa : Addr) (bk : List PartD), vs = [.ref pa] ∧ PartsAt H pa bk ∧ PutsOk bk ∧ bk ≠ [] ∧ bk.length ≤ 4 ∧ ∀ (F : Addr) (H' : Hp), Same H H' → H F = none → LstAt H' F (unrolled bk) → (unrolled bk).length ≤ 1296 → Q (.ref F) H'
theorem scUnrolled : FnScope ["_law_parts", "_law_known", "_law_name", "_law_rows", "_law_found", "_law_row_here"] ["_law_parts"] (defScope sUnrolled) := ⟨rfl, rfl, rfl, by decide +kernel, rfl, by decide +kernel, by decide +kernel⟩
theorem ok_unrolled {f : Addr} {fd : FuncData} (F : Fun K "_law_unrolled" "_law_unrolled" sUnrolled f fd) : FnOk P w K mg base CX0 1 f fd ["_law_parts"] spUnrolled := by
  refine F.ok scUnrolled (fun vs H Q E h => ?_) (fun cdv A outer s H vs Q E hr h => ?_)
  · obtain ⟨pa, bk, rfl, _⟩ := h
    rfl
  · obtain ⟨pa, bk, rfl, ⟨ts, hpa, hpd⟩, hPO, hne, hlen, q⟩ := h
    refine ⟨_, pss_cons (ps_set (i := 1) scUnrolled.nd rfl (Or.inl rfl) pe_dnewK)
      (pss_cons (ps_for PassesOwn.never rfl (pi_list (pv 0)) (pg_tup (by rfl) (pgs_cons (pg_name (i := 2) scUnrolled.nd rfl (Or.inl rfl)) (pgs_cons (pg_name (i := 3) scUnrolled.nd rfl (Or.inl rfl)) pgs_nil)))
        (pss_cons (ps_set (i := 4) scUnrolled.nd rfl (Or.inl rfl) (pe_lst pa_nil))
        (pss_cons (ps_for PassesOwn.never rfl (pi_list (pv 3)) (pg_name (i := 5) scUnrolled.nd rfl (Or.inl rfl))
          (pss_one (ps_expr (pe_bm PySem.F.plainAttrs_list PySem.F.slot_list_extend PySem.F.type_list_extend mt_extend (pv 4) (pa_cons (pe_ifExp (pt_cmpR op_eq (pe_ix ix_tup (pv 5) pe_int (fun _ _ => rfl)) pe_str (nomark _)) (pe_dget (roomU hr) (pv 1) (pe_ix ix_tup (pv 5) pe_int (fun _ _ => rfl)) (fun _ _ => rfl)) (pe_lst (pa_cons (pv 5) pa_nil))) pa_nil)))))
        (pss_one (ps_dput (roomU hr) (pv 1) (pv 2) (pv 4) (by rfl))))))
      (pss_one (ps_ret (pe_dget (roomU hr) (pv 1) (pe_ix ix_tup (pe_ix ix_list (pv 0) (pe_un un_neg pe_int) (fun _ _ => rfl)) pe_int (fun _ _ => rfl)) (fun _ _ => rfl))))), ?_⟩
    try dsimp only
    refine fun kp hkp => ?_
    have s0 : Same H (upd H kp (.dK [])) := Same.new hkp
    have hK0 : upd H kp (.dK []) kp = some (.dK []) := upd_same
    generalize upd H kp (.dK []) = H0 at s0 hK0 ⊢
    have htl : ts.length = bk.length := paired_len hpd
    refine ⟨_, rfl, pa, rfl, ⟨_, SqL.of (s0 _ _ hpa)⟩, for_list (xs := ts.map V.ref) (fun i σ Hi => ∃ x2 x3 x4 x5 kvs, σ = [some (.ref pa), some (.ref kp), x2, x3, x4, x5] ∧ Same H Hi ∧ Hi kp = some (.dK kvs) ∧ kvs.length ≤ i ∧ KnAt H Hi kvs (knowns (bk.take i)) ∧ ∀ z rs, (z, rs) ∈ knowns (bk.take i) → rs.length ≤ 6 ^ i)
      ⟨_, _, _, _, [], rfl, s0, hK0, Nat.le_refl _, (fun z rs h => by cases h), (fun z rs h => by cases h)⟩ (fun i σ Hi _ hP => by obtain ⟨_, _, _, _, _, _, hs, _⟩ := hP; exact SqL.of (hs _ _ hpa)) (fun i x σ Hi hx hP => ?turnO) (fun σ Hi hP => ?doneO)⟩
    case turnO =>
      obtain ⟨x2, x3, x4, x5, kvs, rfl, sH, hK, hkl, hKn, hlen6⟩ := hP
      rw [List.getElem?_map] at hx
      cases hxi : ts[i]? with
      | none => rw [hxi] at hx; cases hx
      | some t =>
      rw [hxi] at hx
      cases hx
      obtain ⟨p, hp, ra, ht, us, hra, hus⟩ := paired_at hpd hxi
      have hi4 : i < 4 := by
        have := (List.getElem?_eq_some_iff.mp hp).1
        omega
      obtain ⟨hp6, hput⟩ := hPO i p hp
      have hul : us.length = p.2.length := paired_len hus
      refine ⟨t, _, rfl, SqT.of (sH _ _ ht), rfl, _, _, rfl, _, _, rfl, rfl, ?_⟩
      try dsimp only
      refine ⟨Nat.zero_le _, fun fp hfp => ?_⟩
      have hfH : H fp = none := sH.free hfp
      have s1 : Same Hi (upd Hi fp (.lst [])) := Same.new hfp
      have hF1 : upd Hi fp (.lst []) fp = some (.lst []) := upd_same
      generalize upd Hi fp (.lst []) = H1 at s1 hF1 ⊢
      refine ⟨_, rfl, ra, rfl, ⟨_, SqL.of (s1 _ _ (sH _ _ hra))⟩, for_list (xs := us.map V.ref) (fun j σ Hj => ∃ x5 fs, σ = [some (.ref pa), some (.ref kp), some (.str p.1), some (.ref ra), some (.ref fp), x5] ∧ Same Hi Hj ∧ Hj fp = some (.lst ((fs : List Addr).map V.ref)) ∧ RowsAt Hj fs (unrollIn (knowns (bk.take i)) (p.2.take j)) ∧ fs.length ≤ j * 6 ^ i)
        ⟨_, [], rfl, s1, hF1, .nil, Nat.zero_le _⟩ (fun j σ Hj _ hP => by obtain ⟨_, _, _, hs, _⟩ := hP; exact SqL.of (hs _ _ (sH _ _ hra))) (fun j x σ Hj hx hP => ?turnI) (fun σ Hj hP => ?doneI)⟩
      case turnI =>
        obtain ⟨y5, fs, rfl, sj, hFj, hfs, hfl⟩ := hP
        rw [List.getElem?_map] at hx
        cases hxj : us[j]? with
        | none => rw [hxj] at hx; cases hx
        | some u =>
        rw [hxj] at hx
        cases hx
        obtain ⟨r, hrj, hru⟩ := paired_at hus hxj
        have hruj := sj _ _ (sH _ _ hru)
        have hj6 : j < 6 := by
          have := (List.getElem?_eq_some_iff.mp hrj).1
          omega
        have hstep : ∀ es : List RowD, expand (knowns (bk.take i)) r = es → unrollIn (knowns (bk.take i)) (p.2.take (j + 1)) = unrollIn (knowns (bk.take i)) (p.2.take j) ++ es := fun es he => by
          unfold unrollIn
          rw [List.take_add_one, hrj, List.flatMap_append]
          show _ ++ List.flatMap _ [r] = _
          rw [List.flatMap_singleton, he]
        have h6 : 6 ^ i ≤ 216 := by
          have : 6 ^ i ≤ 6 ^ 3 := Nat.pow_le_pow_right (by decide) (by omega)
          exact this
        have h61 : 1 ≤ 6 ^ i := Nat.le_trans Nat.one_le_two_pow (Nat.pow_le_pow_left (by decide) i)
        have hflB : fs.length ≤ 1296 := by
          have : j * 6 ^ i ≤ 6 * 216 := Nat.mul_le_mul (by omega) h6
          omega
        refine ⟨_, rfl, .inl ⟨rfl, _, SqL.of hFj⟩, ?_⟩
        refine ⟨_, rfl, u, _, _, _, rfl, rfl, SqT.of hruj, atI_nat (j := 0) (tup_head r), rfl, _, rfl, ?_⟩
        have hgo : ∀ (b : Addr) (gs : List Addr) (es : List RowD) (Hx : Hp), Same Hj Hx → Hx b = some (.lst (gs.map V.ref)) → RowsAt Hx gs es → gs.length ≤ 6 ^ i → expand (knowns (bk.take i)) r = es →
            ∃ (x5 : Option V) (fs2 : List Addr), [some (V.ref pa), some (.ref kp), some (.str p.1), some (.ref ra), some (.ref fp), some (.ref u)] = [some (V.ref pa), some (.ref kp), some (.str p.1), some (.ref ra), some (.ref fp), x5] ∧ Same Hi (upd Hx fp (.lst ((fs.map V.ref) ++ gs.map V.ref))) ∧ upd Hx fp (.lst ((fs.map V.ref) ++ gs.map V.ref)) fp = some (.lst (fs2.map V.ref)) ∧ RowsAt (upd Hx fp (.lst ((fs.map V.ref) ++ gs.map V.ref))) fs2 (unrollIn (knowns (bk.take i)) (p.2.take (j + 1))) ∧ fs2.length ≤ (j + 1) * 6 ^ i := by
          intro b gs es Hx sx hb hgs hgl he
          refine ⟨_, fs ++ gs, rfl, Same.updn (sj.trans sx) hfp, by rw [List.map_append]; exact upd_same, ?_, ?_⟩
          · rw [hstep es he]
            exact rows_lst (sx _ _ hFj) (paired_app (hfs.same sx) hgs)
          · rw [List.length_append, Nat.add_mul]
            omega
        have hsz : ∀ gs : List Addr, gs.length ≤ 6 ^ i → (fs.map V.ref).length + (gs.map V.ref).length ≤ sizeLine := fun gs hg => by
          rw [List.length_map, List.length_map]
          have : (2592 : Nat) ≤ sizeLine := by decide
          omega
        by_cases hp : ∃ z, r = .put z
        · obtain ⟨z, rfl⟩ := hp
          refine iteTD (by show decide (V.str "put" = V.str "put") = true; exact decide_eq_true rfl) ?_
          have hzm := hput z (List.mem_of_getElem? hrj)
          have hzk : z ∈ (knowns (bk.take i)).map (·.1) := by rw [knowns_len]; exact List.mem_reverse.mpr hzm
          obtain ⟨rs, hlk, hmem⟩ := lookup_of_mem hzk
          obtain ⟨g, hvg, hgn, gs, hg, hgs⟩ := hKn z rs hlk
          have hrl : gs.length = rs.length := paired_len hgs
          have hr6 := hlen6 z rs hmem
          refine ⟨_, rfl, _, rfl, u, _, _, .str z, rfl, rfl, SqT.of hruj, rfl, kp, _, rfl, (by have g := DGet.k (k := Sum.inr z) (sj _ _ hK); rw [hvg] at g; exact g), ?_⟩
          refine ⟨fp, g, _, _, rfl, rfl, hFj, sj _ _ hg, hsz gs (by omega), ?_⟩
          exact hgo g gs rs Hj (fun _ _ e => e) (sj _ _ hg) (hgs.same sj) (by omega) (by show (List.lookup z (knowns (bk.take i))).getD [] = rs; rw [hlk]; rfl)
        · refine iteFD (head_put hp) ?_
          refine ⟨_, rfl, (by show 1 ≤ sizeLine; decide), fun L hL => ?_⟩
          have sx := fun o => Same.new (H := Hj) (o := o) hL
          refine ⟨fp, L, _, [.ref u], rfl, rfl, sx _ _ _ hFj, upd_same, hsz [u] h61, ?_⟩
          exact hgo L [u] [r] _ (sx _) upd_same (.cons (sx _ _ _ hruj) .nil) h61 (by cases r <;> first | exact absurd ⟨_, rfl⟩ hp | rfl)
      case doneI =>
        obtain ⟨y5, fs, rfl, sj, hFj, hfs, hfl⟩ := hP
        rw [List.length_map, hul] at hfl hfs
        rw [List.take_length] at hfs
        have hk5 : kvs.length < sizeLine := by
          have : (5 : Nat) ≤ sizeLine := by decide
          omega
        refine ⟨_, rfl, _, rfl, _, rfl, kp, _, rfl, DPut.k (k := Sum.inr p.1) (sj _ _ hK) hk5, ?_⟩
        have hkt : knowns (bk.take (i + 1)) = (p.1, unrollIn (knowns (bk.take i)) p.2) :: knowns (bk.take i) := by
          rw [List.take_add_one, hp]
          exact knowns_snoc _ _
        have hKj := sj _ _ hK
        have nF : fp ≠ kp := fun z => by rw [z, hK] at hfp; cases hfp
        refine ⟨_, _, _, _, putK kvs (.inr p.1) (.ref fp), rfl, ?_, upd_same, ?_, ?_, ?_⟩
        · exact Same.updn (sH.trans sj) hkp
        · have := putK_len kvs (Sum.inr p.1 : Key) (V.ref fp)
          omega
        · rw [hkt]
          intro z rs hz
          rw [List.lookup_cons] at hz
          rw [valV_put]
          by_cases e : z = p.1
          · subst e
            rw [beq_self_eq_true] at hz
            have hz2 : unrollIn (knowns (bk.take i)) p.2 = rs := Option.some.inj hz
            subst hz2
            rw [if_pos rfl]
            exact ⟨fp, rfl, hfH, fs, by rw [upd_ne nF]; exact hFj, rows_dk hKj hfs⟩
          · rw [show (z == p.1) = false from by simpa using e] at hz
            rw [if_neg (fun q => e (by injection q))]
            obtain ⟨f, h1, h2, h3⟩ := hKn z rs hz
            exact ⟨f, h1, h2, lst_dk hKj (h3.same sj)⟩
        · rw [hkt]
          intro z rs hz
          rcases List.mem_cons.mp hz with e | hz
          · injection e with e1 e2
            subst e2
            have hln := paired_len hfs
            rw [Nat.pow_succ]
            have hq : p.2.length * 6 ^ i ≤ 6 * 6 ^ i := Nat.mul_le_mul_right _ (by omega)
            omega
          · have := hlen6 z rs hz
            rw [Nat.pow_succ]
            omega
    case doneO =>
      obtain ⟨x2, x3, x4, x5, kvs, rfl, sH, hK, hkl, hKn, hlen6⟩ := hP
      rw [List.length_map, htl] at hKn hlen6 hkl
      rw [List.take_length] at hKn hlen6
      obtain ⟨bi, p, rfl⟩ : ∃ bi p, bk = bi ++ [p] := ⟨_, _, (List.dropLast_concat_getLast hne).symm⟩
      obtain ⟨tsi, t, rfl⟩ : ∃ tsi t, ts = tsi ++ [t] := ⟨_, _, (List.dropLast_concat_getLast (by intro z; rw [z] at htl; simp at htl)).symm⟩
      have hli : tsi.length = bi.length := by simpa using htl
      obtain ⟨p2, hp2, ra, htt, _⟩ := paired_at hpd (show (tsi ++ [t])[tsi.length]? = some t by simp)
      have hpp : p = p2 := by
        rw [hli] at hp2
        simpa using hp2
      subst hpp
      have hk2 := knowns_snoc bi p
      obtain ⟨f, h1, h2, h3⟩ := hKn p.1 (unrollIn (knowns bi) p.2) (by rw [hk2]; simp)
      have hu : unrolled (bi ++ [p]) = unrollIn (knowns bi) p.2 := by
        unfold unrolled
        rw [hk2]
        rfl
      have hl6 := hlen6 p.1 (unrollIn (knowns bi) p.2) (by rw [hk2]; exact List.mem_cons_self)
      have h64 : 6 ^ (bi ++ [p]).length ≤ 1296 := by
        have : 6 ^ (bi ++ [p]).length ≤ 6 ^ 4 := Nat.pow_le_pow_right (by decide) (by omega)
        exact this
      refine ⟨_, rfl, _, rfl, ?_⟩
      refine ⟨_, rfl, pa, _, _, .ref t, rfl, rfl, SqL.of (sH _ _ hpa), (by rw [List.map_append]; exact atI_last _ _), ?_⟩
      refine ⟨t, _, _, .str p.1, rfl, rfl, SqT.of (sH _ _ htt), rfl, kp, _, rfl, (by have g := DGet.k (k := Sum.inr p.1) hK; rw [h1] at g; exact g), ?_⟩
      exact q f _ sH h2 (by rw [hu]; exact h3) (by rw [hu]; omega)
end
end Pn

namespace Pn
open PySem L2 TL
abbrev sIsSeq : Stmt := top 7
abbrev sPartInit : Stmt := inClass (top 34) 0
abbrev sPartStr : Stmt := inClass (top 34) 1
abbrev sPartEq : Stmt := inClass (top 34) 2
abbrev sIPInit : Stmt := inClass (top 12) 0
/-! ### a sequence, and which of its things are rows -/
def seqD : PyData → Bool
  | .list _ => true
  | .tuple _ => true
  | _ => false
theorem kit_two {K : PySem.W.Frag} {t : String} {a b : Bool} (h1 : kitB t "list" = some a) (h2 : kitB t "tuple" = some b) : PySem.W.kitAny K (.type t) [.type "list", .type "tuple"] = some (a || b) := by
  cases a
  · refine kitAny_cons (kit_ty h1) (fun _ => kitAny_cons (kit_ty h2) (fun z => ?_) (fun z => ?_)) (fun z => nomatch z)
    · rw [z]; exact kitAny_nil
    · rw [z]; rfl
  · exact kitAny_cons (kit_ty h1) (fun z => nomatch z) (fun _ => rfl)
theorem kit_seq {K : PySem.W.Frag} : ∀ d : PyData, PySem.W.kitAny K (.type (tyD d)) [.type "list", .type "tuple"] = some (seqD d)
  | .none => kit_two (by decide +kernel : kitB "NoneType" "list" = some false) (by decide +kernel : kitB "NoneType" "tuple" = some false)
  | .bool _ => kit_two (by decide +kernel : kitB "bool" "list" = some false) (by decide +kernel : kitB "bool" "tuple" = some false)
  | .int _ => kit_two (by decide +kernel : kitB "int" "list" = some false) (by decide +kernel : kitB "int" "tuple" = some false)
  | .str _ => kit_two (by decide +kernel : kitB "str" "list" = some false) (by decide +kernel : kitB "str" "tuple" = some false)
  | .list _ => kit_two (by decide +kernel : kitB "list" "list" = some true) (by decide +kernel : kitB "list" "tuple" = some false)
  | .tuple _ => kit_two (by decide +kernel : kitB "tuple" "list" = some false) (by decide +kernel : kitB "tuple" "tuple" = some true)
  | .dict _ => kit_two (by decide +kernel : kitB "dict" "list" = some false) (by decide +kernel : kitB "dict" "tuple" = some false)
theorem sql_ty {K : PySem.W.Frag} {H : Hp} {p : Addr} {xs : List V} (h : SqL K H p xs) : TyX K H (.ref p) (.type "list") := by
  rcases h with (s | ⟨o, s⟩) | ⟨o, _, _, e, c, _⟩
  · exact .base (.lst s)
  · exact .base (.frz s)
  · exact .kList e c
theorem sqt_ty {K : PySem.W.Frag} {H : Hp} {p : Addr} {xs : List V} (h : SqT K H p xs) : TyX K H (.ref p) (.type "tuple") := by
  rcases h with (s | ⟨o, s⟩) | ⟨o, _, _, e, c, _⟩
  · exact .base (.tup s)
  · exact .fTuple s
  · exact .kTuple e c
theorem sql_ins {K : PySem.W.Frag} {H : Hp} {x C dx p : Addr} {fs : List (Str × V)} {o : HO} {xs : List V} (hx : H x = some (.ins C dx fs)) (h : SqL K H p xs) : SqL K (upd H x o) p xs := by
  rcases h with (s | ⟨u, s⟩) | s
  · exact .inl (.inl (by rw [upd_ne (fun z => by rw [z, hx] at s; cases s)]; exact s))
  · exact .inl (.inr ⟨u, by rw [upd_ne (fun z => by rw [z, hx] at s; cases s)]; exact s⟩)
  · exact .inr s
theorem sqt_ins {K : PySem.W.Frag} {H : Hp} {x C dx p : Addr} {fs : List (Str × V)} {o : HO} {xs : List V} (hx : H x = some (.ins C dx fs)) (h : SqT K H p xs) : SqT K (upd H x o) p xs := by
  rcases h with (s | ⟨u, s⟩) | s
  · exact .inl (.inl (by rw [upd_ne (fun z => by rw [z, hx] at s; cases s)]; exact s))
  · exact .inl (.inr ⟨u, by rw [upd_ne (fun z => by rw [z, hx] at s; cases s)]; exact s⟩)
  · exact .inr s
section
variable {X : Cx} {tg : Expr}
/-- for x in a list or a tuple: whichever it is known to be -/
def iSeq (K : PySem.W.Frag) (tl : TE) : TI := fun σ H R => iList K tl σ H R ∨ iTup K tl σ H R
theorem pi_seq {l : Expr} {tl : TE} (hl : PE X l tl) : PI X tg l (iSeq X.K tl) :=
  ⟨fun pins s σ H R I h => h.elim (fun a => (pi_list hl).run pins s σ H R I a) fun a => (pi_tup hl).run pins s σ H R I a⟩
end
section
variable {P : Program} {w : World} {K : PySem.W.Frag} {mg : Str → Option Value} {base : Heap}
/-- a method of an own class -/
structure TMeth (K : PySem.W.Frag) (C : Addr) (nm qual : Str) (st : Stmt) (ps : List Str) : Type where
  f : Addr
  fd : FuncData
  F : Fun K nm qual st f fd
  b : Binds K fd ps []
  hs : PySem.W.findIn K (.ref C) nm = some (some (.ref f))
  hf : PySem.W.isFn K (.ref f) = true
/-- a row, or data -/
def RowFlag (R : TRows K mg) (H : Hp) (x : V) (b : Bool) : Prop := (b = true ∧ ∃ a r, x = .ref a ∧ RowAt R H a r) ∨ (b = false ∧ ∃ d, Dp K H x d)
theorem RowFlag.same {R : TRows K mg} {H H' : Hp} {x : V} {b : Bool} (h : RowFlag R H x b) (s : Same H H') : RowFlag R H' x b := by
  rcases h with ⟨e, a, r, ex, h⟩ | ⟨e, d, h⟩
  · exact .inl ⟨e, a, r, ex, h.same s⟩
  · exact .inr ⟨e, d, dp_same s d x h⟩
structure TPart {K : PySem.W.Frag} {mg : Str → Option Value} (R : TRows K mg) : Type where
  S : TStrs R
  CR : Addr
  mR : mg "Row" = some (.ref CR)
  kR : ∀ r, PySem.W.kitOne K (.ref (clsOf R r)) (.ref CR) = some true
  kD : ∀ d : PyData, PySem.W.kitOne K (.type (tyD d)) (.ref CR) = some false
  cA : ∀ r, PySem.W.findIn K (.ref (clsOf R r)) "__class__" = some (some (.builtin "object.__class__"))
  cN : PySem.W.specialIn K (.builtin "object.__class__") "__get__" = some (some (.builtin "getset_descriptor.__get__"))
  cT : PySem.W.takesIn K (.builtin "object.__class__") = some true
  cM : ∀ r, PySem.W.mroIn K (clsOf R r) (.type "object") = some true
  mList : mg "list" = none
  mTup : mg "tuple" = none
  isSeq : At K mg "is_sequence" sIsSeq ["value"]
  IP : TExc K mg "InvalidPart" "InvalidPart.__init__" "word" sIPInit
  C : Addr
  mC : mg "Part" = some (.ref C)
  fI : Addr
  fdI : FuncData
  dRows : Addr
  hRows : ∀ H, SqT K H dRows []
  FI : FunD K "__init__" "Part.__init__" (defArgs sPartInit) (defBody sPartInit) (defScope sPartInit) [.ref dRows] [] fI fdI
  bI : Binds K fdI ["self", "name", "rows"] []
  ds1 : List Value
  v1 : Vals [V.ref dRows] ds1
  b1 : Binds K fdI ["self", "name", "rows"] ds1
  M : Mk K C fI
  cl : Cls K C
  noN : NoAttr K C "name"
  noR : NoAttr K C "rows"
  pA : PySem.W.findIn K (.ref C) "__class__" = some (some (.builtin "object.__class__"))
  pM : PySem.W.mroIn K C (.type "object") = some true
  ne : PySem.W.findIn K (.ref C) "__ne__" = some (some (.builtin "object.__ne__"))
  kC : PySem.W.kitOne K (.ref C) (.ref C) = some true
  kS : PySem.W.kitOne K (.type "str") (.ref C) = some false
  nC : PySem.W.notFirst K C (.ref C) = true
  nS : PySem.W.notFirst K C (.type "str") = true
  str : TMeth K C "__str__" "Part.__str__" sPartStr ["self"]
  eq : TMeth K C "__eq__" "Part.__eq__" sPartEq ["self", "other"]
theorem flag_kit {R : TRows K mg} (T : TPart R) {H : Hp} {x : V} {b : Bool} (h : RowFlag R H x b) : ∃ t, TyX K H x t ∧ PySem.W.kitOne K t (.ref T.CR) = some b := by
  rcases h with ⟨rfl, a, r, rfl, dy, h⟩ | ⟨rfl, d, h⟩
  · obtain ⟨gs, eg⟩ := insRow_ins R dy r
    rw [eg] at h
    exact ⟨_, .base (.ins h (cls_of R r) (T.cA r) T.cN T.cT (T.cM r)), T.kR r⟩
  · exact ⟨_, dp_ty h, T.kD d⟩
def spIsSeq (K : PySem.W.Frag) : Sp := fun vs H Q _ => ∃ (v : V) (t : Value) (b : Bool), vs = [v] ∧ TyX K H v t ∧ PySem.W.kitAny K t [.type "list", .type "tuple"] = some b ∧ (∀ H', Same H H' → TyX K H' v t) ∧ ∀ H', Same H H' → Mo H H' → Q (.bl b) H'
theorem scIsSeq : FnScope ["value"] ["value"] (defScope sIsSeq) := ⟨rfl, rfl, rfl, by decide +kernel, rfl, by decide +kernel, by decide +kernel⟩
theorem ok_isSeq {f : Addr} {fd : FuncData} (F : Fun K "is_sequence" "is_sequence" sIsSeq f fd) (mIsi : mg "isinstance" = none) (mL : mg "list" = none) (mT : mg "tuple" = none) : FnOk P w K mg base CX0 1 f fd ["value"] (spIsSeq K) := by
  refine F.ok scIsSeq (fun vs H Q E h => ?_) (fun cdv A outer s H vs Q E hr h => ?_)
  · obtain ⟨v, t, b, rfl, _⟩ := h
    rfl
  · obtain ⟨v, t, b, rfl, ht, hk, hS, q⟩ := h
    refine ⟨_, pss_one (ps_ret (pe_callB call_isiT (by rfl) mIsi (by decide +kernel) (pa_cons (pv 0) (pa_cons (pe_tup (pa_cons (pe_bltn (v := .ty "list") (by rfl) mL (by decide +kernel) rfl) (pa_cons (pe_bltn (v := .ty "tuple") (by rfl) mT (by decide +kernel) rfl) pa_nil))) pa_nil)))), ?_⟩
    refine ⟨_, rfl, (by show 2 ≤ sizeLine; decide), fun p hp => ?_⟩
    exact ⟨v, p, _, t, _, b, rfl, upd_same, .cons (.ty _) (.cons (.ty _) .nil), hS _ (Same.new hp), hk, q _ (Same.new hp) Mo.upd⟩
theorem scIPInit : FnScope ["self", "word"] ["self", "word"] (defScope sIPInit) := ⟨rfl, rfl, rfl, by decide +kernel, rfl, by decide +kernel, by decide +kernel⟩
theorem okIPInit (T : TExc K mg "InvalidPart" "InvalidPart.__init__" "word" sIPInit) : FnOk P w K mg base CX0 1 T.fI T.fd ["self", "word"] (spXInit K "word") := by
  refine T.F.ok scIPInit (fun vs H Q E h => ?_) (fun cdv A outer s H vs Q E hr h => ?_)
  · obtain ⟨a, C, v, rfl, _⟩ := h
    rfl
  · obtain ⟨a, C, v, rfl, ha, O, no, q⟩ := h
    refine ⟨_, pss_one (ps_ost (pv 0) (pv 1)), ?_⟩
    exact ⟨_, rfl, _, rfl, a, C, rfl, O, no, .inl ⟨ha, fun dx h1 h2 => q dx h1 h2⟩⟩
def insPart (C dx : Addr) (v u : V) : HO := .ins C dx (putF "rows" u (putF "name" v []))
theorem part_name {v u : V} : (putF "rows" u (putF "name" v ([] : List (Str × V)))).lookup ("name" : Str) = some v := by
  rw [lookup_putF, if_neg (by decide +kernel), lookup_putF, if_pos rfl]
theorem part_rows {v u : V} : (putF "rows" u (putF "name" v ([] : List (Str × V)))).lookup ("rows" : Str) = some u := by
  rw [lookup_putF, if_pos rfl]
/-- what is passed as rows: no sequence, or one of so many things -/
def RowsArg (R : TRows K mg) (H : Hp) (u : V) : Option (List V × List Bool) → Prop
  | none => ∃ d, Dp K H u d ∧ seqD d = false
  | some (xs, bs) => ∃ p, u = .ref p ∧ (SqL K H p xs ∨ SqT K H p xs) ∧ Paired (RowFlag R H) xs bs ∧ xs.length ≤ 1000
theorem RowsArg.same {R : TRows K mg} {H H' : Hp} {u : V} {o : Option (List V × List Bool)} (h : RowsArg R H u o) (s : Same H H') : RowsArg R H' u o := by
  cases o with
  | none =>
    obtain ⟨d, h, e⟩ := h
    exact ⟨d, dp_same s d u h, e⟩
  | some o =>
    obtain ⟨p, e, h, hp, hl⟩ := h
    exact ⟨p, e, h.elim (fun h => .inl (s.seq h)) (fun h => .inr (Same.sqt s h)), paired_mono (fun _ _ z => z.same s) hp, hl⟩
def argOk : Option (List V × List Bool) → Bool
  | none => false
  | some (_, bs) => bs.all id
def spPartInit (R : TRows K mg) (C CP : Addr) : Sp := fun vs H Q E => ∃ (x dx : Addr) (v u : V) (d : PyData) (o : Option (List V × List Bool)), vs = [.ref x, v, u] ∧ H x = some (.ins C dx []) ∧ Dp K H v d ∧ dlen d ∧ RowsArg R H u o ∧
  (nameD d = false → RaiseW CP H E (.str "name")) ∧ (nameD d = true → argOk o = false → RaiseW CP H E (.str "rows")) ∧
  (nameD d = true → argOk o = true → ∀ xs bs, o = some (xs, bs) → ∀ tp H', KpI x H H' → Mo H H' → SqT K H' tp xs → H' x = some (insPart C dx v (.ref tp)) → Q .non H')
theorem scPartInit : FnScope ["self", "name", "rows", "row"] ["self", "name", "rows"] (defScope sPartInit) := ⟨rfl, rfl, rfl, by decide +kernel, rfl, by decide +kernel, by decide +kernel⟩
theorem okPartInit {R : TRows K mg} (T : TPart R) : FnOk P w K mg base (L2N.CX P w) 4 T.fI T.fdI ["self", "name", "rows"] (spPartInit R T.C T.IP.C) := by
  refine T.FI.ok scPartInit (fun vs H Q E h => ?_) (fun cdv A outer s H vs Q E hr h => ?_)
  · obtain ⟨x, dx, v, u, d, o, rfl, _⟩ := h
    rfl
  · obtain ⟨x, dx, v, u, d, o, rfl, hx, hd, hl, ha, q1, q2, q3⟩ := h
    refine ⟨_, pss_cons (ps_if (pt_not (pt_val (pe_call (R.N.okName) (hr.mono (by decide)) rfl R.N.isName.m R.N.isName.F.kp R.N.isName.b .nil pass0 (pa_cons (pv 1) pa_nil))))
        (pss_one (L2N.ps_raise rfl (L2N.takes_of rfl rfl rfl rfl) (pmk_oexN T.IP.O T.IP.iC T.IP.tI (okIPInit T.IP) (hr.mono (by decide)) T.IP.b pass0 rfl T.IP.m (pa_cons pe_str pa_nil)))) pss_nil)
      (pss_cons (ps_if (PW.pt (pw_or (pt_not (pt_val (pe_call (ok_isSeq T.isSeq.F R.N.mIsi T.mList T.mTup) (hr.mono (by decide)) rfl T.isSeq.m T.isSeq.F.kp T.isSeq.b .nil pass0 (pa_cons (pv 2) pa_nil))))
          (pw_or1 (pt_not (pt_val (pe_callB (cr_all rfl) (by rfl) R.N.mAll (by decide +kernel) (pa_cons (pe_lc (own := [("row", 3)]) (g := gName 3) (tt := tYes) (by rfl) scPartInit.nd (pi_seq (pv 2))
            (blkOk_by (N := ["self", "name", "rows", "row"]) (sc := defScope sPartInit) (by decide +kernel)) (fun _ _ _ _ _ => pg_name (i := 3) scPartInit.nd rfl (Or.inl rfl)) (fun _ _ _ _ _ => pts_nil)
            (fun _ _ _ _ _ => pe_callB (show CallR _ (.builtin "isinstance") (rIsi K) from call_isi) (by rfl) R.N.mIsi (by decide +kernel) (pa_cons (pv 3) (pa_cons (pe_glob (v := .ref T.CR) (by rfl) T.mR rfl) pa_nil)))) pa_nil)))))))
        (pss_one (L2N.ps_raise rfl (L2N.takes_of rfl rfl rfl rfl) (pmk_oexN T.IP.O T.IP.iC T.IP.tI (okIPInit T.IP) (hr.mono (by decide)) T.IP.b pass0 rfl T.IP.m (pa_cons pe_str pa_nil)))) pss_nil)
      (pss_cons (ps_fld (pv 0) (pv 1) rfl) (pss_one (ps_fld (pv 0) (pe_callTy call_tuple_of (by rfl) T.mTup (by decide +kernel) (pa_cons (pv 2) pa_nil)) rfl)))), ?_⟩
    refine ⟨_, rfl, v, d, rfl, hd, hl, fun H1 hs hm => ?_⟩
    cases hn : nameD d with
    | false =>
      refine ⟨false, rfl, iteT ?_⟩
      exact ⟨(by show 1 ≤ 1000; decide), fun a ha => ⟨a, T.IP.C, _, rfl, upd_same, T.IP.O, T.IP.noF, fun dx g1 g2 => ⟨rfl, dx, _, upd_same, by rw [upd_ne g2, upd_same], by rw [upd_ne g2] at g1; exact g1, ir_made hs hm (q1 hn) ha dx g1 g2⟩⟩⟩
    | true =>
      refine ⟨true, rfl, iteF ?_⟩
      have ha1 := ha.same hs
      cases o with
      | none =>
        obtain ⟨e, he, hse⟩ := ha1
        refine ⟨_, rfl, u, _, _, rfl, dp_ty he, kit_seq e, fun H' s' => dp_ty (dp_same s' e u he), fun H2 hs2 hm2 => ?_⟩
        rw [hse]
        refine ⟨false, rfl, iteT ?_⟩
        exact ⟨(by show 1 ≤ 1000; decide), fun a ha => ⟨a, T.IP.C, _, rfl, upd_same, T.IP.O, T.IP.noF, fun dx g1 g2 => ⟨rfl, dx, _, upd_same, by rw [upd_ne g2, upd_same], by rw [upd_ne g2] at g1; exact g1, ir_made (hs.trans hs2) (hm.trans hm2) (q2 hn rfl) ha dx g1 g2⟩⟩⟩
      | some o =>
        obtain ⟨xs, bs⟩ := o
        obtain ⟨p, rfl, hp, hpd, hxl⟩ := ha1
        have htk : ∃ t, PySem.W.kitAny K t [.type "list", .type "tuple"] = some true ∧ TyX K H1 (.ref p) t ∧ ∀ H', Same H1 H' → TyX K H' (.ref p) t := by
          rcases hp with hp | hp
          · exact ⟨_, kit_two (by decide +kernel : kitB "list" "list" = some true) (by decide +kernel : kitB "list" "tuple" = some false), sql_ty hp, fun H' s' => sql_ty (s'.seq hp)⟩
          · exact ⟨_, kit_two (by decide +kernel : kitB "tuple" "list" = some false) (by decide +kernel : kitB "tuple" "tuple" = some true), sqt_ty hp, fun H' s' => sqt_ty (Same.sqt s' hp)⟩
        obtain ⟨t, hk, ht1, ht2⟩ := htk
        refine ⟨_, rfl, _, t, true, rfl, ht1, hk, ht2, fun H2 hs2 hm2 => ⟨true, rfl, iteF ?_⟩⟩
        have hp2 : SqL K H2 p xs ∨ SqT K H2 p xs := hp.elim (fun h => .inl (hs2.seq h)) (fun h => .inr (Same.sqt hs2 h))
        have hpd2 := paired_mono (fun _ _ z => z.same hs2) hpd
        have hbl : xs.length = bs.length := paired_len hpd
        have hp2c := hp2
        refine hp2.elim (fun hp3 => .inl ⟨_, rfl, p, rfl, ⟨_, hp3⟩, fun D hD => lc_list (xs := xs) (fun i Hi => Same H2 Hi ∧ Mo H2 Hi ∧ Hi D = some (.lst ((bs.take i).map V.bl))) ⟨Same.new hD, Mo.upd, upd_same⟩ (fun i Hi _ hP => hP.1.seq hp3) (fun i z Hi hz hP => ?turn) (fun Hi hP => ?fin)⟩)
          (fun hp3 => .inr ⟨_, rfl, p, rfl, ⟨_, hp3⟩, fun D hD => lc_tup (xs := xs) (fun i Hi => Same H2 Hi ∧ Mo H2 Hi ∧ Hi D = some (.lst ((bs.take i).map V.bl))) ⟨Same.new hD, Mo.upd, upd_same⟩ (fun i Hi _ hP => Same.sqt hP.1 hp3) (fun i z Hi hz hP => ?turn2) (fun Hi hP => ?fin2)⟩)
        case turn | turn2 =>
          obtain ⟨s3, m3, hDi⟩ := hP
          obtain ⟨b, hb, hfl⟩ := paired_at hpd2 hz
          obtain ⟨t2, hty, hkt⟩ := flag_kit T (hfl.same s3)
          have hi : i < bs.length := (List.getElem?_eq_some_iff.mp hb).1
          refine ⟨rfl, _, rfl, z, .ref T.CR, t2, _, b, rfl, .own _, hty, hkt, _, hDi, ?_, Same.updn s3 hD, m3.trans Mo.upd, ?_⟩
          · rw [List.length_map, List.length_take]
            have : (1001 : Nat) ≤ sizeLine := by decide
            omega
          · rw [upd_same, List.take_add_one, hb, List.map_append]
            rfl
        case fin | fin2 =>
          obtain ⟨s3, m3, hDi⟩ := hP
          rw [hbl, List.take_length] at hDi
          refine ⟨D, bs, rfl, SqL.of hDi, ?_⟩
          have ho : argOk (some (xs, bs)) = bs.all id := rfl
          cases hall : bs.all id with
          | false =>
            refine ⟨false, rfl, iteT ?_⟩
            exact ⟨(by show 1 ≤ 1000; decide), fun a ha => ⟨a, T.IP.C, _, rfl, upd_same, T.IP.O, T.IP.noF, fun dx g1 g2 => ⟨rfl, dx, _, upd_same, by rw [upd_ne g2, upd_same], by rw [upd_ne g2] at g1; exact g1, ir_made ((hs.trans hs2).trans s3) ((hm.trans hm2).trans m3) (q2 hn (ho.trans hall)) ha dx g1 g2⟩⟩⟩
          | true =>
            refine ⟨true, rfl, iteF ?_⟩
            have s5 := (hs.trans hs2).trans s3
            have m5 := (hm.trans hm2).trans m3
            have hxi := s5 _ _ hx
            refine ⟨_, rfl, _, rfl, x, T.C, dx, [], rfl, hxi, T.cl, T.noN, (by show 0 < 1000; decide), ?_⟩
            have k1 : KpI x H (upd Hi x (.ins T.C dx (putF "name" v []))) := fun b o e n => by
              rw [upd_ne n]
              exact s5 _ _ e
            have hp5 : SqL K (upd Hi x (.ins T.C dx (putF "name" v []))) p xs ∨ SqT K (upd Hi x (.ins T.C dx (putF "name" v []))) p xs :=
              hp2c.elim (fun h => .inl (sql_ins hxi (s3.seq h))) (fun h => .inr (sqt_ins hxi (Same.sqt s3 h)))
            have m6 : Mo H (upd Hi x (.ins T.C dx (putF "name" v []))) := m5.trans Mo.upd
            have hx6 : upd Hi x (.ins T.C dx (putF "name" v [])) x = some (.ins T.C dx (putF "name" v [])) := upd_same
            generalize upd Hi x (.ins T.C dx (putF "name" v [])) = Hy at k1 hp5 m6 hx6 ⊢
            refine ⟨_, rfl, p, xs, rfl, hp5.elim (fun h => .inl ⟨h, fun l hl2 => ?nl⟩) (fun h => .inr ⟨h, ?nt⟩)⟩
            case nl =>
              have nxl : x ≠ l := fun z => by rw [← z, hx6] at hl2; cases hl2
              refine ⟨_, rfl, x, T.C, dx, _, rfl, Same.new hl2 _ _ hx6, T.cl, T.noR, (by show 1 < 1000; decide), ?_⟩
              refine q3 hn (ho.trans hall) xs bs rfl l _ (fun b o e n => ?_) ((m6.trans Mo.upd).trans Mo.upd) (SqT.of (by rw [upd_ne (fun z => nxl z.symm)]; exact upd_same)) upd_same
              rw [upd_ne n]
              exact Same.new hl2 _ _ (k1 b o e n)
            case nt =>
              refine ⟨_, rfl, x, T.C, dx, _, rfl, hx6, T.cl, T.noR, (by show 1 < 1000; decide), ?_⟩
              refine q3 hn (ho.trans hall) xs bs rfl p _ (fun b o e n => ?_) (m6.trans Mo.upd) (sqt_ins hx6 h) upd_same
              rw [upd_ne n]
              exact k1 b o e n
end
end Pn

namespace Pn
open PySem L2 TL
def partHead (n : Str) : Str := ("part " : Str) ++ n
def partText (n : Str) (rs : List RowD) : Str := Txt.join "\n" (partHead n :: rs.map rowText)
theorem part_join {n z : Str} {rs : List RowD} (h : z = Str.empty ++ ("part " : Str) ++ n) : Txt.join "\n" (z :: rs.map rowText) = partText n rs := by
  have e : z = partHead n := by
    rw [h]
    apply ext_tl
    unfold partHead
    rw [tl_append, tl_append, tl_append]
    rfl
  rw [e]
  rfl
theorem len_append (a b : Str) : (a ++ b).length = a.length + b.length := strLen_append a b
theorem rows_sum {rs : List RowD} (h : ∀ r ∈ rs, rowValid r) : ((rs.map rowText).map (·.length)).sum ≤ 63 * rs.length := by
  induction rs with
  | nil => exact Nat.le_refl _
  | cons r rs ih =>
    have h1 := (sm_row (h r List.mem_cons_self)).1
    have h2 := ih fun x hx => h x (List.mem_cons_of_mem _ hx)
    simp only [List.map_cons, List.sum_cons, List.length_cons] at h2 ⊢
    omega
theorem part_fits {rs : List RowD} {z : Str} (hz : z.length ≤ 200) (h : ∀ r ∈ rs, rowValid r) (hl : rs.length ≤ 100) : ((z :: rs.map rowText).map (·.length)).sum + (z :: rs.map rowText).length * ("\n" : Str).length ≤ 16777216 := by
  have h1 := rows_sum h
  have h2 : ("\n" : Str).length = 1 := by decide +kernel
  rw [h2]
  simp only [List.map_cons, List.sum_cons, List.length_cons, List.length_map] at h1 ⊢
  omega
section
variable {P : Program} {w : World} {K : PySem.W.Frag} {mg : Str → Option Value} {base : Heap}
/-- rows as they stand -/
def RowsIn (R : TRows K mg) (H : Hp) (us : List Addr) (rs : List RowD) : Prop := Paired (fun u r => RowAt R H u r) us rs
theorem RowsIn.same {R : TRows K mg} {H H' : Hp} {us : List Addr} {rs : List RowD} (h : RowsIn R H us rs) (s : Same H H') : RowsIn R H' us rs := paired_mono (fun _ _ e => e.same s) h
/-- a part of the package -/
def PtAt {R : TRows K mg} (T : TPart R) (H : Hp) (a : Addr) (n : Str) (rs : List RowD) : Prop := ∃ dx tp us, H a = some (insPart T.C dx (.str n) (.ref tp)) ∧ SqT K H tp (us.map V.ref) ∧ RowsIn R H us rs
theorem PtAt.same {R : TRows K mg} {T : TPart R} {H H' : Hp} {a : Addr} {n : Str} {rs : List RowD} (h : PtAt T H a n rs) (s : Same H H') : PtAt T H' a n rs := by
  obtain ⟨dx, tp, us, h1, h2, h3⟩ := h
  exact ⟨dx, tp, us, s _ _ h1, Same.sqt s h2, h3.same s⟩
def partOk (n : Str) (rs : List RowD) : Prop := n.length ≤ 100 ∧ rs.length ≤ 100 ∧ ∀ r ∈ rs, rowValid r
def spPartStr {R : TRows K mg} (T : TPart R) : Sp := fun vs H Q _ => ∃ (a : Addr) (n : Str) (rs : List RowD), vs = [.ref a] ∧ PtAt T H a n rs ∧ partOk n rs ∧ ∀ H', Same H H' → Q (.str (partText n rs)) H'
theorem scPartStr : FnScope ["self", "lines", "row"] ["self"] (defScope sPartStr) := ⟨rfl, rfl, rfl, by decide +kernel, rfl, by decide +kernel, by decide +kernel⟩
theorem okPartStr {R : TRows K mg} (T : TPart R) : FnOk P w K mg base CX0 4 T.str.f T.str.fd ["self"] (spPartStr T) := by
  refine T.str.F.ok scPartStr (fun vs H Q E h => ?_) (fun cdv A outer s H vs Q E hr h => ?_)
  · obtain ⟨a, n, rs, rfl, _⟩ := h
    rfl
  · obtain ⟨a, n, rs, rfl, ⟨dx, tp, us, ha, htp, hus⟩, ⟨hn, hl, hv⟩, q⟩ := h
    refine ⟨_, pss_cons (ps_setLc (i := 1) (own := [("row", 2)]) (g := gName 2) (tt := tYes) (by rfl) scPartStr.nd rfl rfl (sw_true rfl rfl rfl (by decide +kernel)) (pi_tup (pe_fld (pv 0) rfl))
        (blkOk_by (N := ["self", "lines", "row"]) (sc := defScope sPartStr) (by decide +kernel)) (fun _ _ _ _ _ => pg_name (i := 2) scPartStr.nd rfl (Or.inl rfl)) (fun _ _ _ _ _ => pts_nil)
        (fun _ _ _ _ _ => pe_callTy (show CallR _ (.type "str") (rStrRow R) from call_strRowK (K := K) (mg := mg) rfl rfl R T.S hr) (by rfl) R.N.mStr (by decide +kernel) (pa_cons (pv 2) pa_nil)))
      (pss_one (ps_ret (pe_join pe_str (pe_lst (pa_cons (pe_joined (.cons pe_str (.cons (pe_fmt (pe_fld (pv 0) rfl)) .nil))) (StX.pa_star (pv 1) pa_nil)))))), ?_⟩
    have hul : us.length = rs.length := paired_len hus
    refine ⟨_, rfl, a, T.C, dx, _, .ref tp, rfl, ha, T.cl, T.noR, part_rows, tp, rfl, ⟨_, htp⟩, fun D hD => lc_tup (xs := us.map V.ref) (fun i Hi => Same H Hi ∧ Hi D = some (.lst ((rs.take i).map fun r => V.str (rowText r)))) ⟨Same.new hD, upd_same⟩ (fun i Hi _ hP => Same.sqt hP.1 htp) (fun i z Hi hz hP => ?turn) (fun Hi hP => ?fin)⟩
    case turn =>
      obtain ⟨s3, hDi⟩ := hP
      rw [List.getElem?_map] at hz
      cases hui : us[i]? with
      | none => rw [hui] at hz; cases hz
      | some u =>
      rw [hui] at hz
      cases hz
      obtain ⟨r, hr2, hrow⟩ := paired_at hus hui
      refine ⟨rfl, _, rfl, u, r, rfl, hrow.same s3, valid_small (hv r (List.mem_of_getElem? hr2)), _, hDi, ?_, Same.updn s3 hD, ?_⟩
      · rw [List.length_map, List.length_take]
        have : (1001 : Nat) ≤ sizeLine := by decide
        omega
      · rw [upd_same, List.take_add_one, hr2, List.map_append]
        rfl
    case fin =>
      obtain ⟨s3, hDi⟩ := hP
      rw [List.length_map, hul, List.take_length] at hDi
      have hDi2 : Hi D = some (.lst ((rs.map rowText).map V.str)) := by rw [hDi, List.map_map]; rfl
      refine ⟨⟨_, rfl⟩, ?_⟩
      refine ⟨_, rfl, (by decide +kernel), _, rfl, a, T.C, dx, _, .str n, rfl, s3 _ _ ha, T.cl, T.noN, part_name, .inl ⟨n, rfl, Nat.le_trans hn (by decide), n, rfl, ?_, ?_⟩⟩
      · rw [strLen_append]
        exact Nat.le_trans (Nat.add_le_add_left hn _) (by decide +kernel)
      refine ⟨_, rfl, D, (rs.map rowText).map V.str, rfl, .inr (SqL.of hDi2), ?_⟩
      refine ⟨?_, fun l hl2 => ?_⟩
      · show ((List.map V.str (List.map rowText rs) ++ []).length + 1) ≤ sizeLine
        rw [List.append_nil, List.length_map, List.length_map]
        have : (1001 : Nat) ≤ sizeLine := by decide
        omega
      · refine ⟨"\n", l, (Str.empty ++ ("part " : Str) ++ n) :: rs.map rowText, rfl, rfl, .inl (SqL.of (by rw [upd_same, List.append_nil]; rfl)), part_fits ?_ hv hl, ?_⟩
        · rw [strLen_append, strLen_append]
          have : (Str.empty : Str).length + ("part " : Str).length = 5 := by decide +kernel
          omega
        · rw [part_join rfl]
          exact q _ (Same.updn s3 (s3.free hl2))
def spPartEq {R : TRows K mg} (T : TPart R) : Sp := fun vs H Q _ => ∃ (a : Addr) (y : V) (n : Str) (rs : List RowD), vs = [.ref a, y] ∧ PtAt T H a n rs ∧ partOk n rs ∧ ((∃ z, y = .str z ∧ Q (.bl false) H) ∨ ∃ (b : Addr) (m : Str) (qs : List RowD), y = .ref b ∧ PtAt T H b m qs ∧ partOk m qs ∧ ∀ H', Same H H' → Q (.bl (decide (partText n rs = partText m qs))) H')
theorem scPartEq : FnScope ["self", "other"] ["self", "other"] (defScope sPartEq) := ⟨rfl, rfl, rfl, by decide +kernel, rfl, by decide +kernel, by decide +kernel⟩
def rStrPart {R : TRows K mg} (T : TPart R) : List V → Hp → VK → Prop := fun xs H Q => ∃ (a : Addr) (n : Str) (rs : List RowD), xs = [.ref a] ∧ PtAt T H a n rs ∧ partOk n rs ∧ ∀ H', Same H H' → Q (.str (partText n rs)) H'
theorem call_strPart {X : Cx} {R : TRows X.K X.mg} (T : TPart R) (hr : Room 6 X.A) : CallR X (.type "str") (rStrPart T) := by
  intro pins s σ H xs us Q I rv h
  obtain ⟨a, n, rs, rfl, hp, hok, q⟩ := h
  obtain ⟨dx, tp, us2, ha, h2⟩ := id hp
  exact call_strIns (okPartStr T) T.str.hf hr T.str.b pass0 pins s σ H _ us Q I rv ⟨a, _, dx, _, rfl, ha, T.str.hs, a, n, rs, rfl, hp, hok, fun H' s' => ⟨_, rfl, q H' s'⟩⟩
theorem call_strPartK {X : Cx} {K : PySem.W.Frag} {mg : Str → Option Value} (hK : X.K = K) (hm : X.mg = mg) {R : TRows K mg} (T : TPart R) (hr : Room 6 X.A) : CallR X (.type "str") (rStrPart T) := by
  subst hK
  subst hm
  exact call_strPart T hr
theorem okPartEq {R : TRows K mg} (T : TPart R) : FnOk P w K mg base CX0 7 T.eq.f T.eq.fd ["self", "other"] (spPartEq T) := by
  refine T.eq.F.ok scPartEq (fun vs H Q E h => ?_) (fun cdv A outer s H vs Q E hr h => ?_)
  · obtain ⟨a, y, n, rs, rfl, _⟩ := h
    rfl
  · obtain ⟨a, y, n, rs, rfl, ha, hok, q⟩ := h
    refine ⟨_, pss_one (ps_ret (pe_and (pe_callB call_isi (by rfl) R.N.mIsi (by decide +kernel) (pa_cons (pv 1) (pa_cons (pe_glob (v := .ref T.C) (by rfl) T.mC rfl) pa_nil)))
      (pe_one (pe_cmpR op_eq (pe_callTy (call_strPartK (K := K) (mg := mg) rfl rfl T hr) (by rfl) R.N.mStr (by decide +kernel) (pa_cons (pv 0) pa_nil)) (pe_callTy (call_strPartK (K := K) (mg := mg) rfl rfl T hr) (by rfl) R.N.mStr (by decide +kernel) (pa_cons (pv 1) pa_nil)) (nomark _))))), ?_⟩
    rcases q with ⟨z, rfl, q⟩ | ⟨b, m, qs, rfl, hb, hokb, q⟩
    · refine ⟨_, rfl, .str z, .ref T.C, _, _, false, rfl, .own _, .base (.str z), T.kS, _, rfl, iteF ?_⟩
      exact q
    · obtain ⟨dy, tq, us2, hb2, _⟩ := id hb
      refine ⟨_, rfl, .ref b, .ref T.C, _, _, true, rfl, .own _, .base (.ins hb2 T.cl T.pA T.cN T.cT T.pM), T.kC, _, rfl, iteT ?_⟩
      refine ⟨_, rfl, a, n, rs, rfl, ha, hok, fun H1 s1 => ⟨_, rfl, b, m, qs, rfl, hb.same s1, hokb, fun H2 s2 => ⟨rfl, ?_⟩⟩⟩
      have e : decide (V.str (partText n rs) = V.str (partText m qs)) = decide (partText n rs = partText m qs) := by
        by_cases h : partText n rs = partText m qs
        · rw [h, decide_eq_true rfl, decide_eq_true rfl]
        · rw [decide_eq_false h, decide_eq_false (fun z => h (V.str.inj z))]
      rw [e]
      exact q H2 (s1.trans s2)
end
end Pn

namespace Pn
open PySem PySem.Spec PyProof.Rows PySem.Froz
/-! ### sets of texts: which are in it, and a table that can be walked -/
/-- the texts of a list, each once -/
def uniq (l : List Str) : List Str := l.foldl (fun acc x => if x ∈ acc then acc else x :: acc) []
theorem uniq_snoc (l : List Str) (x : Str) : uniq (l ++ [x]) = if x ∈ uniq l then uniq l else x :: uniq l := by
  unfold uniq
  rw [List.foldl_append]
  rfl
theorem uniq_has : ∀ (l : List Str) (z : Str), z ∈ uniq l ↔ z ∈ l := by
  have key : ∀ (l acc : List Str) (z : Str), z ∈ l.foldl (fun acc x => if x ∈ acc then acc else x :: acc) acc ↔ z ∈ acc ∨ z ∈ l := by
    intro l
    induction l with
    | nil => intro acc z; simp
    | cons x l ih =>
      intro acc z
      rw [List.foldl_cons, ih]
      by_cases h : x ∈ acc
      · rw [if_pos h]
        constructor
        · rintro (h1 | h1)
          · exact .inl h1
          · exact .inr (List.mem_cons_of_mem _ h1)
        · rintro (h1 | h1)
          · exact .inl h1
          · rcases List.mem_cons.mp h1 with rfl | h1
            · exact .inl h
            · exact .inr h1
      · rw [if_neg h]
        simp only [List.mem_cons]
        constructor
        · rintro ((h1 | h1) | h1)
          · exact .inr (.inl h1)
          · exact .inl h1
          · exact .inr (.inr h1)
        · rintro (h1 | h1 | h1)
          · exact .inl (.inr h1)
          · exact .inl (.inl h1)
          · exact .inr h1
  intro l z
  exact (key l [] z).trans (by simp)
theorem uniq_nodup (l : List Str) : (uniq l).Nodup := by
  have key : ∀ (l acc : List Str), acc.Nodup → (l.foldl (fun acc x => if x ∈ acc then acc else x :: acc) acc).Nodup := by
    intro l
    induction l with
    | nil => intro acc h; exact h
    | cons x l ih =>
      intro acc h
      rw [List.foldl_cons]
      refine ih _ ?_
      by_cases e : x ∈ acc
      · rw [if_pos e]; exact h
      · rw [if_neg e]; exact List.nodup_cons.mpr ⟨e, h⟩
  exact key l [] List.nodup_nil
theorem uniq_len (l : List Str) : (uniq l).length ≤ l.length := by
  have key : ∀ (l acc : List Str), (l.foldl (fun acc x => if x ∈ acc then acc else x :: acc) acc).length ≤ acc.length + l.length := by
    intro l
    induction l with
    | nil => intro acc; exact Nat.le_refl _
    | cons x l ih =>
      intro acc
      rw [List.foldl_cons, List.length_cons]
      have q := ih (if x ∈ acc then acc else x :: acc)
      by_cases e : x ∈ acc
      · rw [if_pos e] at q ⊢; omega
      · rw [if_neg e] at q ⊢
        rw [List.length_cons] at q
        omega
  have q := key l []
  unfold uniq
  simpa using q
theorem addTx_led (h : Int) (v : Value) (D : SD) : (addTx h v D).2.2.led = D.2.2.led := by
  have e := L2.layNew_led D.2.2 D.1 h v
  unfold addTx tailTx
  by_cases c : (layNew D.2.2 D.1 h v).2.1.plain = true
  · rw [if_pos c]
    split
    · exact (L2.relayAll_led _ _ _).trans e
    · exact e
  · rw [if_neg c]
    split
    · exact (L2.relayAll_led _ _ _).trans e
    · exact e
theorem addTx_ris (h : Int) (v : Value) (D : SD) (r : L2.Ris D.2.2.place.toList) : L2.Ris (addTx h v D).2.2.place.toList := by
  have e := L2.layNew_ris D.2.2 D.1 h v r
  unfold addTx tailTx
  by_cases c : (layNew D.2.2 D.1 h v).2.1.plain = true
  · rw [if_pos c]
    split
    · exact L2.relayAll_ris _ _ _
    · exact e
  · rw [if_neg c]
    split
    · exact L2.relayAll_ris _ _ _
    · exact e
/-- at a stands the set of the texts l -/
def TxtSet (P : Program) (w : World) (h : Heap) (a : Addr) (l : List Str) : Prop :=
  ∃ D : SD, h.get? a = some (sObj "set" D) ∧ TxOk P w D l ∧ L2.Ris D.2.2.place.toList ∧ (w.params.followText "set-order" = true ∨ D.2.2.led = true) ∧ l.Nodup
theorem TxtSet.keep {P : Program} {w : World} {h h' : Heap} {a : Addr} {l : List Str} (R : TxtSet P w h a l) (k : ∀ o, h.get? a = some o → h'.get? a = some o) : TxtSet P w h' a l := by
  obtain ⟨D, ho, r⟩ := R
  exact ⟨D, k _ ho, r⟩
section
variable {P : Program} {w : World} {A : Around} {E : Value → Shared → Prop} {s : Shared}
/-- a text that is there is not put in again -/
theorem held_x {a : Addr} {T : String} {D : SD} {l : List Str} {k : Str} {u : Tok} {Q : Bool → Shared → Prop} (ho : s.heap.get? a = some (sObj T D)) (F : TxOk P w D l) (hk : k ∈ l) (hb : l.length < scanBound) (h : Q false s) :
    wpAny (model P w) A (setAddHashed a (.str k u) (hashStr w k)) Q E s := by
  obtain ⟨es, ep, t⟩ := D
  have dat : (sObj T (es, ep, t)).data = .set es ep t := rfl
  have elm : ElemsOf (strKind P w) es.toList := F.el
  have low : es.size < scanBound := by rw [show es.size = l.length from F.sz]; exact hb
  have key : (strKind P w).is k (.str k u) = true := is_str k u
  obtain ⟨j, found⟩ : ∃ j, List.findIdx? (fun e => (strKind P w).is k e.2) es.toList = some j := by
    cases q : List.findIdx? (fun e => (strKind P w).is k e.2) es.toList with
    | some j => exact ⟨j, rfl⟩
    | none =>
      obtain ⟨e, he, hi⟩ := (F.mem k).mp hk
      exact absurd hi (by rw [List.findIdx?_eq_none_iff.mp q e he]; decide)
  unfold setAddHashed setAddHashedIn
  refine wpAny_holding ?_
  refine wpAny_bind (wpAny_setState_of ho dat F.fit ?_)
  dsimp only
  rw [byScan_of rfl low elm]
  simp only [↓reduceIte]
  unfold setAddByScan
  refine wpAny_bind (wpAny_bind (wpAny_rule ?_))
  refine wpAny_bind (wpAny_setScan_of (k := k) (knd := strKind P w) key ho dat F.fit elm ?_)
  rw [found]
  exact wpAny_pure (wpAny_pure h)
theorem txt_new {h : Heap} {a : Addr} (ho : h.get? a = some (sObj "set" (#[], 0, .fresh 0 0 (!w.params.followText "set-order")))) : TxtSet P w h a [] :=
  ⟨_, ho, TxOk.nil (by rfl), List.Pairwise.nil, (by
    show _ ∨ (!w.params.followText "set-order") = true
    cases w.params.followText "set-order" <;> simp), List.nodup_nil⟩
/-- one text is put in -/
theorem txt_add {a : Addr} {l : List Str} {k : Str} {u : Tok} {Q : Bool → Shared → Prop} (R : TxtSet P w s.heap a l) (hb : l.length + 1 < scanBound)
    (h : ∀ b h', (∀ c, c ≠ a → h'.get? c = s.heap.get? c) → TxtSet P w h' a (if k ∈ l then l else k :: l) → Q b { s with heap := h' }) : wpAny (model P w) A (setAddHashed a (.str k u) (hashStr w k)) Q E s := by
  obtain ⟨D, ho, F, r, g, nd⟩ := id R
  by_cases hk : k ∈ l
  · refine held_x ho F hk (by omega) ?_
    have q := h false s.heap (fun _ _ => rfl)
    rw [if_pos hk] at q
    exact q R
  · refine add_x ho F hk hb ?_
    have q := h true (s.heap.update a fun _ => sObj "set" (addTx (hashStr w k) (.str k u) D)) (fun c n => Heap.get?_update_other _ _ n.symm)
    rw [if_neg hk] at q
    exact q ⟨_, get_upd _ ho rfl, add_ok u F, addTx_ris _ _ _ r, g.imp id fun z => (addTx_led _ _ _).trans z, List.nodup_cons.mpr ⟨hk, nd⟩⟩
theorem loop_txt {I : Addr} {fp wr : List Addr} {G : Array GenState → Array GenState → Prop} {n : Nat} {Pv : Nat → Value → Prop} {St : Nat → Shared → Prop} {R : Result → Shared → Prop} (W : WalksS P w A.in1 I fp wr G n Pv St)
    (S : Addr) (out : S ∉ fp) (xs : List Str) (hn : n = xs.length) (low : n + 1 < scanBound) (hv : ∀ i v, Pv i v → ∃ x t, xs[i]? = some x ∧ v = .str x t) : ∀ (k i : Nat) (s : Shared), n - i = k → i ≤ n → St i s → TxtSet P w s.heap S (uniq (xs.take i)) →
      (∀ s', Moved (S :: wr) G s s' → TxtSet P w s'.heap S (uniq xs) → R (.ok (.ret .none)) s') → codeAny (model P w) A (.builtin "set.update.loop" ⟨[.ref S, .ref I], []⟩) R s := by
  have outW : S ∉ wr := fun h => out (W.sub _ h)
  have more : ∀ b ∈ wr, b ∈ S :: wr := fun b h => List.mem_cons_of_mem _ h
  intro k
  induction k with
  | zero =>
    intro i s e1 e2 st X fin
    obtain rfl : i = n := by omega
    refine codeAny_builtin PyProof.Rows.F.entry_set_update_loop ?_
    rw [Around.under_plainId PyProof.Rows.F.plain_set_update_loop _]
    show wpAny _ A.in1 (pyNext (.ref I) >>= _) _ _ s
    refine wpAny_bind (W.done s _ _ st fun s' mv => wpAny_pure (fin s' (mv.mono more) ?_))
    rw [hn, List.take_length] at X
    exact X.keep fun o e => mv.heap S o outW e
  | succ k ih =>
    intro i s e1 e2 st X fin
    have lt : i < n := by omega
    refine codeAny_builtin PyProof.Rows.F.entry_set_update_loop ?_
    rw [Around.under_plainId PyProof.Rows.F.plain_set_update_loop _]
    show wpAny _ A.in1 (pyNext (.ref I) >>= _) _ _ s
    refine wpAny_bind (W.item i s _ _ lt st fun v s1 pv st1 mv => ?_)
    obtain ⟨x, t, hx, rfl⟩ := hv i v pv
    have X1 := X.keep (h' := s1.heap) fun o e => mv.heap S o outW e
    show wpAny _ A.in1 (holding [Value.str x t] (setAdd S (.str x t)) >>= _) _ _ s1
    refine wpAny_bind (wpAny_holding ?_)
    unfold setAdd
    refine wpAny_holding (wpAny_bind ((PySem.strKind P w).pyHash (is_str x t) ?_))
    have few : (uniq (xs.take i)).length + 1 < scanBound := by
      have := uniq_len (xs.take i)
      rw [List.length_take] at this
      omega
    refine txt_add (s := { s1 with toks := s1.toks + 1 }) X1 few fun b h' oth X2 => ?_
    have e3 : (if x ∈ uniq (xs.take i) then uniq (xs.take i) else x :: uniq (xs.take i)) = uniq (xs.take (i + 1)) := by
      rw [List.take_add_one, hx]
      exact (uniq_snoc _ _).symm
    rw [e3] at X2
    refine wpAny_pure ⟨plainId_quiet PyProof.Rows.F.plain_set_update_loop _, ih (i + 1) _ (by omega) lt (W.frame (i + 1) s1 h' (s1.toks + 1) st1 (by omega) fun c hc o e => ?_) X2 fun s2 mv2 X3 => fin s2 (Moved.trans W.gtrans ((mv.mono more).then_heap (Nat.le_succ _) fun c o hc e => ?_) mv2) X3⟩
    · exact (oth c fun z => out (z ▸ hc)).trans e
    · exact (oth c fun z => hc (z ▸ List.mem_cons_self)).trans e
theorem perm_of_sup {α : Type} [DecidableEq α] {l ks : List α} (nd : l.Nodup) (sup : ∀ k ∈ l, k ∈ ks) (len : ks.length ≤ l.length) : l.Perm ks := by
  induction l generalizing ks with
  | nil =>
    cases ks with
    | nil => exact .nil
    | cons k ks => simp at len
  | cons x l ih =>
    obtain ⟨h1, h2⟩ := List.nodup_cons.mp nd
    have hx := sup x List.mem_cons_self
    have p : ks.Perm (x :: ks.erase x) := List.perm_cons_erase hx
    refine List.Perm.trans (.cons x (ih h2 (fun k hk => ?_) ?_)) p.symm
    · have q := p.mem_iff.mp (sup k (List.mem_cons_of_mem _ hk))
      rcases List.mem_cons.mp q with rfl | q
      · exact absurd hk h1
      · exact q
    · have q := p.length_eq
      simp only [List.length_cons] at q len
      omega
theorem strs_perm : ∀ {vs us : List Value} {xs : List Str}, StrsAre vs xs → vs.Perm us → ∃ ys, StrsAre us ys ∧ ys.Perm xs := by
  intro vs us xs h p
  induction p generalizing xs with
  | nil => exact ⟨xs, h, .refl _⟩
  | cons v _ ih =>
    cases h with
    | cons x t r =>
      obtain ⟨ys, h1, h2⟩ := ih r
      exact ⟨x :: ys, .cons x t h1, h2.cons x⟩
  | swap v u l =>
    cases h with
    | cons x t r =>
      cases r with
      | cons y t2 r => exact ⟨y :: x :: _, .cons y t2 (.cons x t r), .swap _ _ _⟩
  | trans _ _ ih1 ih2 =>
    obtain ⟨ys, h1, h2⟩ := ih1 h
    obtain ⟨zs, h3, h4⟩ := ih2 h1
    exact ⟨zs, h3, h4.trans h2⟩
theorem strs_get : ∀ {vs : List Value} {xs : List Str} {i : Nat} {v : Value}, StrsAre vs xs → vs[i]? = some v → ∃ x t, xs[i]? = some x ∧ v = .str x t
  | _, _, i, v, .nil, h => by simp at h
  | _, _, 0, v, .cons x t r, h => ⟨x, t, rfl, (Option.some.inj h).symm⟩
  | _, _, i + 1, v, .cons x t r, h => strs_get (i := i) r h
/-- the new set, empty -/
abbrev bare (w : World) : Obj := sObj "set" (#[], 0, .fresh 0 0 (!w.params.followText "set-order"))
set_option maxHeartbeats 3200000 in
/-- set(xs), xs a list of texts -/
theorem set_of_texts {l : Addr} {items : Array Value} {xs : List Str} {Q : Value → Shared → Prop} (calm : A.handled = none) (hl : s.heap.IsList l items) (hx : StrsAre items.toList xs) (low : xs.length + 1 < scanBound)
    (h : ∀ (h' : Heap) (tk : Nat), TxtSet P w h' s.heap.objs.size (uniq xs) → (∀ b o, s.heap.get? b = some o → h'.get? b = some o) → Q (.ref s.heap.objs.size) { s with heap := h', toks := tk }) : wpAny (model P w) A (call (.type "set") [.ref l]) Q E s := by
  have sz : items.size = xs.length := by
    have q := StrsAre.length hx
    rw [Array.length_toList] at q
    exact q
  obtain ⟨mc, mt, mro⟩ := PySem.F.called_set.mro
  have made := PySem.F.called_set.made
  have sub := PySem.F.called_set.sub
  have notT := PySem.F.called_set.notType
  have can := PySem.F.called_set.canCreate
  have chk := PySem.F.typeCall_set_1 (.ref l)
  refine wpAny_call (codeAny_of_tree (show wpAny _ _ (callAny (.type "set") _) _ _ _ from wpAny_pure ⟨Code.quiet_builtin _ (by decide +kernel), codeAny_builtin PySem.F.entry_type_call ?_⟩))
  rw [Around.under_plain (weight_type_call_type "set" [.ref l] []) rfl]
  repeat (any_goals (first | assumption | wp_step))
  let S := s.heap.objs.size
  let H1 := s.heap.push (bare w)
  refine codeAny_mono (L2.code_set_led1 (.ref l) (E := E) (Q₁ := fun v s1 => v = .ref S ∧ s1 = { s with heap := H1 }) ⟨rfl, rfl⟩) fun r s1 hr => ?_
  match r, hr with
  | .error e, hr => exact hr
  | .ok .next, hr => exact hr.elim
  | .ok .brk, hr => exact hr.elim
  | .ok .cont, hr => exact hr.elim
  | .ok (.ret v), ⟨e1, e2⟩ =>
    subst e1
    subst e2
    have there : H1.get? S = some (bare w) := Heap.get?_push_size _ rfl
    have ty : Shared.TypeIs { s with heap := H1 } (.ref S) "set" := ⟨_, there, rfl⟩
    have look := PySem.F.called_set.init.lookup
    have bnd := PySem.F.called_set.init.bind (.ref S)
    repeat (any_goals (first | assumption | wp_step))
    refine codeAny_mono (codeAny_call_builtin (R := wants (fun v s2 => v = .none ∧ ∃ h' tk, s2 = { s with heap := h', toks := tk } ∧ TxtSet P w h' S (uniq xs) ∧ ∀ b o, s.heap.get? b = some o → h'.get? b = some o) E)
      PySem.F.called_set.init.plain PySem.F.entry_set_init (check_set_init_1 ty ?_)) fun r2 s2 hr2 => ?_
    · obtain ⟨⟨kc, kd, kt, ks⟩, ol, c1, nl, c2⟩ := hl
      simp only at c1 c2
      subst c1
      subst c2
      have ol1 : H1.get? l = some { cls := .type "list", dict := kd, data := .seq items nl, slots := ks } := Heap.get?_push_of_some _ ol
      have l1 : H1.IsList l items := ⟨_, ol1, rfl, nl, rfl⟩
      have f1 := PySem.F.sub_list_set
      have f2 := PySem.F.sub_list_frozenset
      have f3 : (Value.type "list" == Value.type "dict") = false := by decide
      unfold Builtin.«set.__init__» noKeywords Builtin.Frozenset.updateFrom
      generalize hp : pyIter = PI
      wp_walk
      subst hp
      refine wpAny_pyIter_list l1 (wpAny_bind (wpAny_runValue ?_))
      have lS : l < S := Heap.lt_size ol
      have zz : H1.objs.size = S + 1 := size_push' _ _
      have calm3 : A.in1.in1.in1.handled = none := by simp [calm]
      have nI : l ≠ H1.objs.size := by rw [zz]; exact Nat.ne_of_lt (Nat.lt_succ_of_lt lS)
      have outS : S ∉ [H1.objs.size, l] := by
        rw [zz]
        intro z
        rcases List.mem_cons.mp z with z | z
        · exact absurd z (Nat.ne_of_lt (Nat.lt_succ_self _))
        · exact absurd (List.mem_singleton.mp z) (Nat.ne_of_gt lS)
      refine loop_txt (Walks.list calm3 _ l nI items).toS S outS xs sz (by rw [sz]; exact low) (fun i v pv => ?_) (items.size - 0) 0 _ (by omega) (Nat.zero_le _) ⟨⟨_, Heap.get?_push_size _ rfl, rfl, rfl⟩, l1.push _⟩ (txt_new (Heap.get?_push_of_some _ there)) (fun s' mv X => ?_)
      · have pv' : items.toList[i]? = some v := by rw [Array.getElem?_toList]; exact pv
        exact strs_get hx pv'
      · obtain ⟨h', g', d', tk', os'⟩ := s'
        obtain rfl : g' = s.gens := mv.gens
        obtain rfl : d' = s.drawn := mv.drawn
        obtain rfl : os' = s.os := mv.os
        show wpAny _ _ _ _ _ _
        refine wpAny_pure ?_
        show wpAny _ _ (ret Value.none) _ _ _
        refine wpAny_pure ⟨rfl, h', tk', rfl, X, fun b o e => ?_⟩
        have lb : b < S := Heap.lt_size e
        refine mv.heap b o (fun z => ?_) (Heap.get?_push_of_some _ (Heap.get?_push_of_some _ e))
        rcases List.mem_cons.mp z with z | z
        · exact absurd z (Nat.ne_of_lt lb)
        · have e2 := List.mem_singleton.mp z
          rw [zz] at e2
          exact absurd e2 (Nat.ne_of_lt (Nat.lt_succ_of_lt lb))
    · match r2, hr2 with
      | .error e, hr2 => exact hr2
      | .ok .next, hr2 => exact hr2.elim
      | .ok .brk, hr2 => exact hr2.elim
      | .ok .cont, hr2 => exact hr2.elim
      | .ok (.ret v), ⟨e1, h', tk, e2, X, old⟩ =>
        subst e1
        subst e2
        repeat (any_goals (first | assumption | wp_step))
        exact h _ _ X old
/-- what walks over the set brings, sorted -/
theorem sorted_txt {a : Addr} {l : List Str} {Q : Value → Shared → Prop} (R : TxtSet P w s.heap a l) (calm : A.handled = none) (low : l.length < 64)
    (h : ∀ s' p (out : Array Value) (c : Nat) (ys : List Str), (∀ b o, s.heap.get? b = some o → s'.heap.get? b = some o) → s'.gens = s.gens → s'.os = s.os → s.heap.objs.size ≤ p → s'.heap.get? p = some (seqObj "list" out c) → StrsAre out.toList ys → ys.Perm l → sortedS ys = true → Q (.ref p) s') :
    wpAny (model P w) A (call (.builtin "sorted") [.ref a]) Q E s := by
  obtain ⟨D, ho, F, rs, led, nd⟩ := R
  have sz : D.1.size = l.length := F.sz
  have few : D.1.size < scanBound := by unfold scanBound; omega
  -- the entries as texts
  have ent : ∃ ks : List Str, StrsAre (D.1.toList.map (·.2)) ks ∧ ks.Perm l := by
    have one : ∀ e ∈ D.1.toList, ∃ k t, e.2 = Value.str k t ∧ k ∈ l := fun e he => by
      obtain ⟨⟨k, hk, _⟩, _⟩ := F.el e he
      have hk2 : Value.isStrOf k e.2 = true := hk
      cases hv : e.2 with
      | str x t =>
        rw [hv] at hk2
        have e2 : x = k := by simpa [Value.isStrOf] using hk2
        exact ⟨x, t, rfl, (F.mem x).mpr ⟨e, he, by rw [e2]; exact hk⟩⟩
      | _ => rw [hv] at hk2; simp [Value.isStrOf] at hk2
    have mk : ∀ es : List (Int × Value), (∀ e ∈ es, ∃ k t, e.2 = Value.str k t ∧ k ∈ l) → ∃ ks : List Str, StrsAre (es.map (·.2)) ks ∧ ∀ k ∈ ks, k ∈ l := by
      intro es
      induction es with
      | nil => intro _; exact ⟨[], .nil, fun k hk => by cases hk⟩
      | cons e es ih =>
        intro he
        obtain ⟨k, t, e1, e2⟩ := he e List.mem_cons_self
        obtain ⟨ks, g1, g2⟩ := ih fun x hx => he x (List.mem_cons_of_mem _ hx)
        refine ⟨k :: ks, ?_, fun z hz => ?_⟩
        · rw [List.map_cons, e1]
          exact .cons k t g1
        · rcases List.mem_cons.mp hz with rfl | hz
          · exact e2
          · exact g2 z hz
    obtain ⟨ks, g1, g2⟩ := mk _ one
    refine ⟨ks, g1, ?_⟩
    have len : ks.length = l.length := by
      have q := StrsAre.length g1
      rw [List.length_map, Array.length_toList] at q
      omega
    -- each text of l is among them
    have sup : ∀ k ∈ l, k ∈ ks := fun k hk => by
      obtain ⟨e, he, hi⟩ := (F.mem k).mp hk
      obtain ⟨x, t, hx, _⟩ := one e he
      have e2 : x = k := by
        have q : Value.isStrOf k e.2 = true := hi
        rw [hx] at q
        simpa [Value.isStrOf] using q
      subst e2
      obtain ⟨i, hi2⟩ := List.getElem?_of_mem (List.mem_map.mpr ⟨e, he, rfl⟩ : e.2 ∈ D.1.toList.map (·.2))
      obtain ⟨y, u, hy, e3⟩ := strs_get g1 hi2
      rw [hx] at e3
      injection e3 with e3 _
      rw [e3]
      exact List.mem_of_getElem? hy
    exact (perm_of_sup nd sup (by omega)).symm
  obtain ⟨ks, g1, g2⟩ := ent
  refine Calls.call_function_entry kind_sorted plain_sorted entry_sorted (args_sorted1 _) ?_
  unfold Builtin.«sorted»
  refine wpAny_bind (m := checkCount "sorted" 1 1 _) (wpAny_pure (wpAny_bind (L2.collect_set (A := A.in1) (t := D.2.2) (ep := D.2.1) (es := D.1) calm ⟨_, ho, rfl, rfl⟩ F.fit few rs led fun s1 vs k1 hz g1' o1 pm => ?_)))
  obtain ⟨zs, z1, z2⟩ := strs_perm g1 pm.symm
  have vl : vs.length = l.length := by rw [StrsAre.length z1, z2.length_eq, g2.length_eq]
  refine wpAny_bind (wpAny_newList ?_ (by rw [vl, sizeLine_eq]; omega))
  have hoL : (s1.heap.push (seqObj "list" vs.toArray 0)).get? s1.heap.objs.size = some (seqObj "list" vs.toArray 0) := Heap.get?_push_size _ rfl
  refine wpAny_bind (wpAny_holding (wpAny_call_entry slot_list_sort ⟨_, hoL, rfl⟩ entry_list_sort (list_sort_treeK strKind_oneLt hoL z1.keysOf (fun v1 v2 rest e => keyKind_strs (by rw [← e]; exact z1)) (by rw [vl]; exact low) fun st hp hs => ⟨_, rfl, ?_⟩) (args_list_sort _)))
  obtain ⟨ys, y1, y2, y3⟩ := sorted_out_str z1 hp hs
  obtain ⟨c, hc⟩ := sortedHeap_at (vs := vs) (out := (arrOf st).map (·.2)) hoL
  refine wpAny_pure ⟨_, rfl, h _ s1.heap.objs.size _ c ys (fun b u e => ?_) g1' o1 hz hc y1 ((y2.trans z2).trans g2) y3⟩
  have q := k1 b u e
  have lt := Heap.lt_size q
  show (sortedHeap (s1.heap.push (seqObj "list" vs.toArray 0)) s1.heap.objs.size vs ((arrOf st).map (·.2))).get? b = some u
  rw [sortedHeap_old (Nat.ne_of_lt lt) (by rw [size_push']; exact Nat.lt_succ_of_lt lt)]
  exact Heap.get?_push_of_some _ q
end
end Pn

namespace Pn
open PySem L2
/-! ### sets of texts as rules: set(xs), len(s), sorted(s) -/
def SetX (P : Program) (w : World) (a : Addr) (l : List Str) : HO := .ext fun h => TxtSet P w h a l
section
variable {X : Cx}
theorem setX_new {w : World} {P : Program} {H : Hp} {h : Heap} {a : Addr} {l : List Str} (R : TxtSet P w h a l) : ObjOk P w H h a (SetX P w a l) := by
  have ⟨_, there, _⟩ := R
  exact ⟨R, ⟨_, there⟩, fun _ _ z keep => TxtSet.keep z keep⟩
theorem setX_get {pins : List (Addr × Obj)} {σ : L2.St} {H : Hp} {s : Shared} {a : Addr} {l : List Str} (I : Inv X pins σ H s) (ha : H a = some (SetX X.prog X.w a l)) : TxtSet X.prog X.w s.heap a l := (I.hok a _ ha).1
def rSetX (K : PySem.W.Frag) (P : Program) (w : World) : List V → Hp → VK → Prop := fun xs H Q => ∃ (l : Addr) (ss : List Str), xs = [.ref l] ∧ SqL K H l (ss.map V.str) ∧ ss.length < 4000 ∧ ∀ a, H a = none → Q (.ref a) (upd H a (SetX P w a (uniq ss)))
theorem cr_setX (hc : X.calm = true) : CallR X (.type "set") (rSetX X.K X.prog X.w) := by
  intro pins s σ H xs us Q I r h
  obtain ⟨l, ss, rfl, hl, low, q⟩ := h
  rw [Vals.ref1 r]
  obtain ⟨its, rv, pl, _⟩ := I.list hl
  refine set_of_texts (I.ok.hd hc) pl.isList (xs := ss) (by simpa using rv.strs) (by unfold scanBound; omega) fun h' tk R old => ?_
  exact ⟨.ref s.heap.objs.size, upd H s.heap.objs.size (SetX X.prog X.w s.heap.objs.size (uniq ss)), I.laid (t' := tk) old (Nat.le_refl _) (setX_new R), rfl, q _ (I.hok.fresh (Nat.le_refl _))⟩
def rLenX (P : Program) (w : World) : List V → Hp → VK → Prop := fun xs H Q => ∃ (a : Addr) (l : List Str), xs = [.ref a] ∧ H a = some (SetX P w a l) ∧ l.length ≤ 4000 ∧ Q (.int (l.length : Nat)) H
theorem cr_lenX : CallR X (.builtin "len") (rLenX X.prog X.w) := by
  intro pins s σ H xs us Q I r h
  obtain ⟨a, l, rfl, ha, low, q⟩ := h
  rw [Vals.ref1 r]
  obtain ⟨D, there, F, _⟩ := setX_get I ha
  have few : (D.1.size : Int) < 2 ^ 63 := by
    rw [show D.1.size = l.length from F.sz]
    omega
  refine call_len_set there ⟨rfl, rfl, rfl⟩ rfl F.fit few ?_
  rw [F.sz]
  exact ⟨.int (l.length : Nat), H, I.tok _, ⟨_, rfl⟩, q⟩
def rSortX (P : Program) (w : World) : List V → Hp → VK → Prop := fun xs H Q => ∃ (a : Addr) (l : List Str), xs = [.ref a] ∧ H a = some (SetX P w a l) ∧ l.length < 64 ∧ ∀ (ys : List Str) (p : Addr), ys.Perm l → PyProof.Rows.sortedS ys = true → H p = none → Q (.ref p) (upd H p (.lst (ys.map V.str)))
theorem cr_sortX (hc : X.calm = true) : CallR X (.builtin "sorted") (rSortX X.prog X.w) := by
  intro pins s σ H xs us Q I r h
  obtain ⟨a, l, rfl, ha, low, q⟩ := h
  rw [Vals.ref1 r]
  refine sorted_txt (setX_get I ha) (I.ok.hd hc) low fun s' p out c ys old sg so hp there ys1 ys2 ys3 => ?_
  have free : H p = none := I.hok.fresh hp
  have size : (ys.map V.str).length ≤ sizeLine := by rw [List.length_map, ys2.length_eq]; exact small64 low
  have J : Inv X pins σ (upd H p (.lst (ys.map V.str))) { s with heap := s'.heap, gens := s'.gens, drawn := s'.drawn, toks := s'.toks } :=
    I.call (ch := []) (Un.laid old hp free) (I.hok.laid old hp ⟨size, out.toList, c, vals_of_strs ys1, there⟩) (by rw [sg]; exact I.bare) (fun _ z => nomatch z)
  have same : s' = { s with heap := s'.heap, gens := s'.gens, drawn := s'.drawn, toks := s'.toks } := by
    obtain ⟨_, _, _, _, _⟩ := s'
    obtain ⟨_, _, _, _, _⟩ := s
    cases so
    rfl
  rw [same]
  exact ⟨.ref p, _, J, rfl, q ys p ys2 ys3 free⟩
end
end Pn

namespace Pn
open PySem L2 TL
/-! ### books: what is asked of counters and parts, and the unrolled text -/
def putsOf (rs : List RowD) : List Str := rs.filterMap fun r => match r with | .put z => some z | _ => none
theorem mem_puts {rs : List RowD} {z : Str} : z ∈ putsOf rs ↔ RowD.put z ∈ rs := by
  unfold putsOf
  rw [List.mem_filterMap]
  constructor
  · rintro ⟨r, hr, e⟩
    cases r with
    | put y => rw [← Option.some.inj e]; exact hr
    | _ => cases e
  · intro h
    exact ⟨_, h, rfl⟩
/-- the counter of a row that counts -/
def cntOf : RowD → Option Str
  | .note c _ => some c
  | .skip c _ => some c
  | .set c _ => some c
  | .keep c => some c
  | .back c => some c
  | _ => none
def refOf : RowD → Option Str
  | .ref l => some l
  | _ => none
/-- a note's label, an empty one too -/
def labOf : RowD → Option Str
  | .note _ l => some l
  | _ => none
/-- each puts only earlier ones -/
def Earlier (bk : List PartD) : Prop := ∀ (i : Nat) (p : PartD), bk[i]? = some p → ∀ z, RowD.put z ∈ p.2 → z ∈ (bk.take i).map (·.1)
structure CsOk (cs : List (Str × Str)) : Prop where
  nm : ∀ c ∈ cs, nameS c.1 = true
  nd : (cs.map (·.1)).Nodup
  up : TreeOk cs
  len : cs.length ≤ 100
structure BookV (cs : List (Str × Str)) (bk : List PartD) : Prop where
  c : CsOk cs
  b0 : bk ≠ []
  nd : (bk.map (·.1)).Nodup
  len : bk.length ≤ 50
  rows : ∀ p ∈ bk, partOk p.1 p.2
  cnt : ∀ p ∈ bk, ∀ r ∈ p.2, ∀ c, cntOf r = some c → c ∈ cs.map (·.1)
  puts : Earlier bk
  small : ∀ z rs, (z, rs) ∈ knowns bk → rs.length ≤ 4000
  refs : ∀ l, RowD.ref l ∈ unrolled bk → ∃ c, RowD.note c l ∈ unrolled bk
theorem puts_earlier {bk : List PartD} (h : PutsOk bk) : Earlier bk := fun i p hp => (h i p hp).2
/-- none puts itself or one behind it -/
def NoLater : List PartD → Prop
  | [] => True
  | p :: rest => (∀ z, RowD.put z ∈ p.2 → z ∉ (p :: rest).map (·.1)) ∧ NoLater rest
theorem no_later {bk : List PartD} (nd : (bk.map (·.1)).Nodup) (e : Earlier bk) : NoLater bk := by
  have key : ∀ (l pre : List PartD), bk = pre ++ l → NoLater l := by
    intro l
    induction l with
    | nil => intro pre _; trivial
    | cons p rest ih =>
      intro pre hb
      refine ⟨fun z hz hm => ?_, ih (pre ++ [p]) (by rw [hb]; simp)⟩
      have h1 := e pre.length p (by rw [hb]; simp) z hz
      rw [hb, List.take_left' rfl] at h1
      rw [hb, List.map_append] at nd
      exact (List.nodup_append.mp nd).2.2 _ h1 _ hm rfl
  exact key bk [] rfl
def reachStep (p : PartD) (ns : List Str) : List Str := if p.1 ∈ ns then ns ++ putsOf p.2 else ns
def reach (l : List PartD) (ns : List Str) : List Str := l.foldr reachStep ns
theorem reach_sub {l : List PartD} {ns : List Str} : ∀ z ∈ ns, z ∈ reach l ns := by
  induction l with
  | nil => intro z h; exact h
  | cons p l ih =>
    intro z h
    show z ∈ reachStep p (reach l ns)
    unfold reachStep
    split
    · exact List.mem_append_left _ (ih z h)
    · exact ih z h
theorem reach_closed {l : List PartD} {ns : List Str} (nl : NoLater l) : ∀ p ∈ l, p.1 ∈ reach l ns → ∀ z, RowD.put z ∈ p.2 → z ∈ reach l ns := by
  induction l with
  | nil => intro p h; cases h
  | cons q l ih =>
    intro p hp hin z hz
    have hin : p.1 ∈ reachStep q (reach l ns) := hin
    show z ∈ reachStep q (reach l ns)
    unfold reachStep at hin ⊢
    rcases List.mem_cons.mp hp with rfl | hp
    · by_cases c : p.1 ∈ reach l ns
      · rw [if_pos c]
        exact List.mem_append_right _ (mem_puts.mpr hz)
      · rw [if_neg c] at hin
        exact absurd hin c
    · have hM : p.1 ∈ reach l ns := by
        by_cases c : q.1 ∈ reach l ns
        · rw [if_pos c] at hin
          rcases List.mem_append.mp hin with h | h
          · exact h
          · exact absurd (List.mem_map.mpr ⟨p, List.mem_cons_of_mem _ hp, rfl⟩) (nl.1 p.1 (mem_puts.mp h))
        · rw [if_neg c] at hin
          exact hin
      have q2 := ih nl.2 p hp hM z hz
      split
      · exact List.mem_append_left _ q2
      · exact q2
/-- the parts that are unrolled, with their unrolled rows -/
def lastName (bk : List PartD) : Str := (bk.getLast?.map (·.1)).getD ""
def reached (bk : List PartD) : List Str := reach bk [lastName bk]
theorem knowns_in {bk : List PartD} {i : Nat} {p : PartD} (hp : bk[i]? = some p) : (p.1, unrollIn (knowns (bk.take i)) p.2) ∈ knowns (bk.take (i + 1)) := by
  rw [List.take_add_one, hp]
  show _ ∈ knowns (bk.take i ++ [p])
  rw [knowns_snoc]
  exact List.mem_cons_self
theorem knowns_mono {bk : List PartD} {i : Nat} : ∀ x ∈ knowns (bk.take i), x ∈ knowns bk := by
  have key : ∀ (l pre : List PartD), ∀ x ∈ knowns pre, x ∈ knowns (pre ++ l) := by
    intro l
    induction l with
    | nil => intro pre x h; rw [List.append_nil]; exact h
    | cons p l ih =>
      intro pre x h
      have e : pre ++ p :: l = (pre ++ [p]) ++ l := by simp
      rw [e]
      refine ih _ x ?_
      rw [knowns_snoc]
      exact List.mem_cons_of_mem _ h
  intro x h
  have e : bk = bk.take i ++ bk.drop i := (List.take_append_drop i bk).symm
  rw [e]
  exact key _ _ x (by simpa using h)
end Pn

namespace Pn
open PySem L2 TL
abbrev sBook : Stmt := top 59
/-! ### drawn books -/
theorem cut_to (xs : List V) {k : Nat} (h : k ≤ xs.length) : cutV xs none (some (k : Int)) = xs.take k := by
  unfold cutV
  rw [HT.sIx_none, HT.sIx_nat]
  simp [Nat.min_eq_left h]
theorem cut_from (xs : List V) {k : Nat} (h : k ≤ xs.length) : cutV xs (some (k : Int)) none = xs.drop k := by
  unfold cutV
  rw [HT.sIx_none, HT.sIx_nat, Nat.min_eq_left h]
  exact List.take_of_length_le (by rw [List.length_drop]; omega)
theorem cut_last (xs : List V) : cutV xs none (some (-1)) = xs.dropLast := by
  unfold cutV
  rw [HT.sIx_none, List.dropLast_eq_take]
  have e : HT.sIx xs.length xs.length (some (-1)) = xs.length - 1 := by
    show (if (-1 : Int) < 0 then ((-1 : Int) + (xs.length : Int)).toNat else min (-1 : Int).toNat xs.length) = _
    rw [if_pos (by decide)]
    omega
  rw [e]
  rfl
def labelOf : RowD → Option Str
  | .note _ l => if l = "" then none else some l
  | _ => none
def labelsOf (rs : List RowD) : List Str := rs.filterMap labelOf
/-- what a row of a drawn book is -/
def RowIn (d : Pool) (cs : List (Str × Str)) (bk : List PartD) (r : RowD) : Prop := rowFine d cs (bk.map (·.1)) r ∨ ∃ l, r = .ref l ∧ l ∈ labelsOf (unrolled bk) ∧ nameS l = true
structure BookOk (d : Pool) (cs : List (Str × Str)) (bk : List PartD) : Prop where
  hd : d ∈ poolsD
  c0 : 0 < cs.length
  c3 : cs.length ≤ 3
  cn : cs.map (·.1) = d.c.take cs.length
  ct : TreeOk cs
  b0 : bk ≠ []
  b3 : bk.length ≤ 3
  bn : bk.map (·.1) = d.p.take bk.length
  puts : PutsOk bk
  rows : ∀ p ∈ bk, ∀ r ∈ p.2, RowIn d cs bk r
theorem paired_take {α β : Type} {R : α → β → Prop} : ∀ (k : Nat) {l : List α} {m : List β}, Paired R l m → Paired R (l.take k) (m.take k)
  | 0, _, _, _ => .nil
  | _ + 1, _, _, .nil => .nil
  | k + 1, _, _, .cons a b => .cons a (paired_take k b)
theorem paired_drop {α β : Type} {R : α → β → Prop} : ∀ (k : Nat) {l : List α} {m : List β}, Paired R l m → Paired R (l.drop k) (m.drop k)
  | 0, _, _, h => h
  | _ + 1, _, _, .nil => .nil
  | k + 1, _, _, .cons _ b => paired_drop k b
theorem paired_init {α β : Type} {R : α → β → Prop} {l : List α} {m : List β} {x : α} {y : β} (h : l.length = m.length) (p : Paired R (l ++ [x]) (m ++ [y])) : Paired R l m := by
  have q := paired_take l.length p
  rw [List.take_left' rfl, h, List.take_left' rfl] at q
  exact q
theorem hid_same {A B : Hp} (s : Same A B) (p : Addr) : Same (hid A p) (hid B p) := fun a o e => by
  unfold hid at e ⊢
  by_cases h : a = p
  · rw [if_pos h] at e; cases e
  · rw [if_neg h] at e ⊢
    exact s a o e
/-- the heap but for two places -/
def zz (H : Hp) (b p : Addr) : Hp := hid (hid H b) p
theorem zz_sub {H : Hp} {b p : Addr} : Same (zz H b p) H := fun a o e => hid_sub a o (hid_sub a o e)
theorem zz_hid {H : Hp} {b p : Addr} : Same (zz H b p) (hid H b) := fun a o e => hid_sub a o e
theorem zz_kp {H H' : Hp} {b p : Addr} (k : Kp b H H') : Same (zz H b p) (zz H' b p) := hid_same (hid_kp k) p
theorem zz_same {H H' : Hp} {b p : Addr} (s : Same H H') : Same (zz H b p) (zz H' b p) := hid_same (hid_same s b) p
theorem zz_new {H : Hp} {b p : Addr} {o : HO} (h : H p = none) : Same (hid H b) (zz (upd H p o) b p) := fun a u e => by
  have n : a ≠ p := fun z => by
    rw [z] at e
    have := hid_sub _ _ e
    rw [h] at this
    cases this
  show hid (hid (upd H p o) b) p a = some u
  refine hid_get ?_ n
  unfold hid at e ⊢
  by_cases hb : a = b
  · rw [if_pos hb] at e; cases e
  · rw [if_neg hb] at e ⊢
    rw [upd_ne n]
    exact e
theorem zz_put {H : Hp} {b p : Addr} {o : HO} : Same (zz H b p) (zz (upd H p o) b p) := fun a u e => by
  unfold zz hid at e ⊢
  by_cases h : a = p
  · rw [if_pos h] at e; cases e
  · rw [if_neg h] at e ⊢
    by_cases hb : a = b
    · rw [if_pos hb] at e; cases e
    · rw [if_neg hb] at e ⊢
      rw [upd_ne h]
      exact e
theorem Kp.updn {b p : Addr} {H H1 : Hp} {o : HO} (h : Kp b H H1) (hp : H p = none) : Kp b H (upd H1 p o) := fun a u e n => by
  rw [upd_ne (ne_of_none e hp)]
  exact h a u e n
theorem BoxAt.upd {b p : Addr} {H : Hp} {o : HO} (h : BoxAt H b) (n : p ≠ b) : BoxAt (L2.upd H p o) b := by
  obtain ⟨x, y, e, g⟩ := h
  exact ⟨x, y, e, by rw [upd_ne n.symm]; exact g⟩
theorem zz_get {H : Hp} {b p a : Addr} {o : HO} (h : H a = some o) (n : a ≠ b) (m : a ≠ p) : zz H b p a = some o := hid_get (hid_get h n) m
theorem PutsOk.snoc {bk : List PartD} {p : PartD} (h : PutsOk bk) (hl : p.2.length ≤ 6) (hp : ∀ z, RowD.put z ∈ p.2 → z ∈ bk.map (·.1)) : PutsOk (bk ++ [p]) := fun i q e => by
  by_cases hi : i < bk.length
  · rw [List.getElem?_append_left hi] at e
    obtain ⟨h1, h2⟩ := h i q e
    refine ⟨h1, fun z hz => ?_⟩
    rw [List.take_append_of_le_length (by omega)]
    exact h2 z hz
  · have hi2 : i = bk.length := by
      have := (List.getElem?_eq_some_iff.mp e).1
      simp at this
      omega
    subst hi2
    have e2 : p = q := by simpa using e
    subst e2
    refine ⟨hl, fun z hz => ?_⟩
    rw [List.take_left']
    · exact hp z hz
    · rfl
theorem fine_more {d : Pool} {cs : List (Str × Str)} {l m : List Str} (h : ∀ x ∈ l, x ∈ m) : ∀ {r : RowD}, rowFine d cs l r → rowFine d cs m r
  | .note _ _, f => f
  | .skip _ _, f => f
  | .set _ _, f => f
  | .keep _, f => f
  | .back _, f => f
  | .ref _, f => f
  | .put _, f => h _ f
  | .opn _, f => f
/-- the parts drawn so far -/
structure BkOk (d : Pool) (cs : List (Str × Str)) (i : Nat) (bk : List PartD) : Prop where
  n : bk.length = i
  nm : bk.map (·.1) = d.p.take i
  puts : PutsOk bk
  rows : ∀ p ∈ bk, p.2.length ≤ 5 ∧ ∀ r ∈ p.2, rowFine d cs (bk.map (·.1)) r
theorem fine_puts {d : Pool} {cs : List (Str × Str)} {l : List Str} {rs : List RowD} (h : ∀ r ∈ rs, rowFine d cs l r) : ∀ z, RowD.put z ∈ rs → z ∈ l := fun z hz => h _ hz
theorem lookup_mem {kn : List PartD} {z : Str} {ys : List RowD} (h : kn.lookup z = some ys) : (z, ys) ∈ kn := by
  induction kn with
  | nil => cases h
  | cons a kn ih =>
    obtain ⟨y, rs⟩ := a
    rw [List.lookup_cons] at h
    by_cases e : z = y
    · subst e
      rw [beq_self_eq_true] at h
      have := Option.some.inj h
      subst this
      exact List.mem_cons_self
    · rw [show (z == y) = false from by simpa using e] at h
      exact List.mem_cons_of_mem _ (ih h)
theorem expand_all {G : RowD → Prop} {kn : List PartD} (h : ∀ z rs, (z, rs) ∈ kn → ∀ r ∈ rs, G r) {rs : List RowD} (g : ∀ r ∈ rs, G r) : ∀ r ∈ unrollIn kn rs, G r := fun r hr => by
  obtain ⟨x, hx, hr⟩ := List.mem_flatMap.mp hr
  have gx := g x hx
  cases x with
  | put z =>
    cases hl : kn.lookup z with
    | none =>
      have e : expand kn (.put z) = [] := by show (List.lookup z kn).getD [] = []; rw [hl]; rfl
      rw [e] at hr
      cases hr
    | some ys =>
      have e : expand kn (.put z) = ys := by show (List.lookup z kn).getD [] = ys; rw [hl]; rfl
      rw [e] at hr
      exact h z ys (lookup_mem hl) r hr
  | _ => rw [List.mem_singleton.mp hr]; exact gx
theorem knowns_all {G : RowD → Prop} {bk : List PartD} (h : ∀ p ∈ bk, ∀ r ∈ p.2, G r) : ∀ z rs, (z, rs) ∈ knowns bk → ∀ r ∈ rs, G r := by
  have key : ∀ (l : List PartD) (kn : List PartD), (∀ z rs, (z, rs) ∈ kn → ∀ r ∈ rs, G r) → (∀ p ∈ l, ∀ r ∈ p.2, G r) → ∀ z rs, (z, rs) ∈ l.foldl (fun kn p => (p.1, unrollIn kn p.2) :: kn) kn → ∀ r ∈ rs, G r := by
    intro l
    induction l with
    | nil => intro kn hk _; exact hk
    | cons p l ih =>
      intro kn hk hl
      rw [List.foldl_cons]
      refine ih _ (fun z rs hz => ?_) (fun q hq => hl q (List.mem_cons_of_mem _ hq))
      rcases List.mem_cons.mp hz with e | hz
      · injection e with e1 e2
        subst e2
        exact expand_all hk (hl p List.mem_cons_self)
      · exact hk z rs hz
  exact key bk [] (fun z rs hz => by cases hz) h
theorem unrolled_snoc (bi : List PartD) (p : PartD) : unrolled (bi ++ [p]) = unrollIn (knowns bi) p.2 := by
  unfold unrolled
  rw [knowns_snoc]
  rfl
theorem unrolled_all {G : RowD → Prop} {bk : List PartD} (h : ∀ p ∈ bk, ∀ r ∈ p.2, G r) : ∀ r ∈ unrolled bk, G r := by
  intro r hr
  unfold unrolled at hr
  cases hk : knowns bk with
  | nil => rw [hk] at hr; cases hr
  | cons a l =>
    rw [hk] at hr
    exact knowns_all h a.1 a.2 (by rw [hk]; exact List.mem_cons_self) r hr
theorem labels_of {rs : List RowD} {l : Str} (h : l ∈ labelsOf rs) : ∃ c, RowD.note c l ∈ rs ∧ l ≠ "" := by
  obtain ⟨r, hr, e⟩ := List.mem_filterMap.mp h
  cases r with
  | note c z =>
    have e : (if z = "" then none else some z) = some l := e
    by_cases hz : z = ""
    · rw [if_pos hz] at e; cases e
    · rw [if_neg hz] at e
      have := Option.some.inj e
      subst this
      exact ⟨c, hr, hz⟩
  | _ => cases e
theorem labels_fine {d : Pool} {cs : List (Str × Str)} {bk : List PartD} (fl : d.Fine) (h : ∀ p ∈ bk, ∀ r ∈ p.2, rowFine d cs (bk.map (·.1)) r) : ∀ l ∈ labelsOf (unrolled bk), nameS l = true := fun l hl => by
  obtain ⟨c, hr, hn⟩ := labels_of hl
  have q := (unrolled_all h _ hr).2
  rcases q with e | e
  · exact absurd e hn
  · exact fl.names l (by simp [e])
/-- a drawn book with one reference put into its text -/
def withRef (p : PartD) (k : Nat) (l : Str) : PartD := (p.1, p.2.take k ++ [RowD.ref l] ++ p.2.drop k)
theorem with_ref {d : Pool} {cs : List (Str × Str)} {bi : List PartD} {p : PartD} {i k : Nat} {l : Str} (fl : d.Fine) (ok : BkOk d cs i (bi ++ [p])) (hi : i ≤ 3) (hd : d ∈ poolsD) (c0 : 0 < cs.length) (c3 : cs.length ≤ 3) (cn : cs.map (·.1) = d.c.take cs.length) (ct : TreeOk cs)
    (hl : l ∈ labelsOf (unrolled (bi ++ [p]))) : BookOk d cs (bi ++ [withRef p k l]) := by
  have hn : (bi ++ [withRef p k l]).map (·.1) = (bi ++ [p]).map (·.1) := by rw [List.map_append, List.map_append]; rfl
  have hlen : (bi ++ [withRef p k l]).length = i := by rw [← ok.n]; simp
  have hmem : ∀ r ∈ (withRef p k l).2, r ∈ p.2 ∨ r = .ref l := fun r hr => by
    rcases List.mem_append.mp hr with hr | hr
    · rcases List.mem_append.mp hr with hr | hr
      · exact .inl (List.mem_of_mem_take hr)
      · exact .inr (List.mem_singleton.mp hr)
    · exact .inl (List.mem_of_mem_drop hr)
  have hl2 : l ∈ labelsOf (unrolled (bi ++ [withRef p k l])) := by
    rw [unrolled_snoc] at hl ⊢
    have e : p.2 = p.2.take k ++ p.2.drop k := (List.take_append_drop k p.2).symm
    unfold labelsOf unrollIn at hl ⊢
    rw [e, List.flatMap_append, List.filterMap_append] at hl
    show l ∈ List.filterMap labelOf (List.flatMap (expand (knowns bi)) (p.2.take k ++ [RowD.ref l] ++ p.2.drop k))
    rw [List.flatMap_append, List.flatMap_append, List.filterMap_append, List.filterMap_append]
    rcases List.mem_append.mp hl with h | h
    · exact List.mem_append_left _ (List.mem_append_left _ h)
    · exact List.mem_append_right _ h
  have pbi : PutsOk bi := fun j q e => by
    have hj := (List.getElem?_eq_some_iff.mp e).1
    have := ok.puts j q (by rw [List.getElem?_append_left hj]; exact e)
    rw [List.take_append_of_le_length (by omega)] at this
    exact this
  have pp := ok.puts bi.length p (by simp)
  rw [List.take_left' rfl] at pp
  have hp5 := (ok.rows p (by simp)).1
  refine ⟨hd, c0, c3, cn, ct, by simp, by omega, by rw [hn, hlen]; exact ok.nm, pbi.snoc ?_ (fun z hz => ?_), fun q hq r hr => ?_⟩
  · show (p.2.take k ++ [RowD.ref l] ++ p.2.drop k).length ≤ 6
    rw [List.length_append, List.length_append, List.length_take, List.length_drop]
    show min k p.2.length + 1 + (p.2.length - k) ≤ 6
    omega
  · rcases hmem _ hz with h | h
    · exact pp.2 z h
    · cases h
  · rcases List.mem_append.mp hq with hq | hq
    · exact .inl (by rw [hn]; exact (ok.rows q (List.mem_append_left _ hq)).2 r hr)
    · rw [List.mem_singleton.mp hq] at hr
      rcases hmem r hr with h | h
      · exact .inl (by rw [hn]; exact (ok.rows p (by simp)).2 r h)
      · exact .inr ⟨l, h, hl2, labels_fine fl (fun q hq => (ok.rows q hq).2) l hl⟩
section
variable {P : Program} {w : World} {K : PySem.W.Frag} {mg : Str → Option Value} {base : Heap}
structure TBook (K : PySem.W.Frag) (mg : Str → Option Value) : Type extends TDRow K mg where
  unr : At K mg "_law_unrolled" sUnrolled ["_law_parts"]
  book : At K mg "_law_book" sBook ["_law_box", "_law_most"]
def spBook : Sp := fun vs H Q _ => ∃ (b : Addr) (m : Int), vs = [.ref b, .int m] ∧ BoxAt H b ∧
  ∀ (t c pl : Addr) (d : Pool) (cs : List (Str × Str)) (bk : List PartD) (H' : Hp), BookOk d cs bk → Kp b H H' → BoxAt H' b → hid H' b t = some (.tup [.ref c, .ref pl]) → CsAt (hid H' b) c cs → PartsAt (hid H' b) pl bk → Q (.ref t) H'
theorem scBook : FnScope ["_law_box", "_law_most", "_law_pools_here", "_law_counters_here", "_law_parts", "_law_at", "_law_names", "_law_rows", "_law_turn", "_law_labels", "_law_spot", "_law_name", "_law_some", "_law_row_here"] ["_law_box", "_law_most"] (defScope sBook) := ⟨rfl, rfl, rfl, by decide +kernel, rfl, by decide +kernel, by decide +kernel⟩
theorem ok_book (T : TBook K mg) : FnOk P w K mg base CX0 4 T.book.f T.book.fd ["_law_box", "_law_most"] spBook := by
  refine T.book.F.ok scBook (fun vs H Q E h => ?_) (fun cdv A outer s H vs Q E hr h => ?_)
  · obtain ⟨b, m, rfl, _⟩ := h
    rfl
  · obtain ⟨b, m, rfl, hB, q⟩ := h
    refine ⟨_, pss_cons (ps_set (i := 2) scBook.nd rfl (Or.inl rfl) (pe_call (ok_pools T.pools.F T.toTDraw) hr rfl T.pools.m T.pools.F.kp T.pools.b .nil pass0 (pa_cons (pv 0) pa_nil)))
      (pss_cons (ps_par (i := 3) (j := 4) (by rfl) scBook.nd rfl rfl (by decide) rfl rfl (pa_cons (pe_call (ok_counters T.toTCnt) hr rfl T.counters.m T.counters.F.kp T.counters.b .nil pass0 (pa_cons (pv 0) (pa_cons (pe_ix ix_list (pv 2) pe_int (fun _ _ => rfl)) (pa_cons pe_int pa_nil)))) (pa_cons (pe_lst pa_nil) pa_nil)) (by rfl))
      (pss_cons (ps_for PassesOwn.never rfl (pi_range1 (by rfl) T.mR (pa_cons (pe_op op_add pe_int (pe_call T.okChoose (hr.mono (by decide)) rfl T.choose.m T.choose.F.kp T.choose.b .nil pass0 (pa_cons (pv 0) (pa_cons pe_int pa_nil)))) pa_nil)) (pg_name (i := 5) scBook.nd rfl (Or.inl rfl))
        (pss_cons (ps_par (i := 6) (j := 7) (by rfl) scBook.nd rfl rfl (by decide) rfl rfl (pa_cons (pe_lc (own := [("_law_name", 11), ("_law_some", 12)]) (g := gTup K 2 (gCons (gName 11) (gCons (gName 12) gNil))) (tt := tYes) (by rfl) scBook.nd (pi_list (pv 4))
            (blkOk_by (N := ["_law_box", "_law_most", "_law_pools_here", "_law_counters_here", "_law_parts", "_law_at", "_law_names", "_law_rows", "_law_turn", "_law_labels", "_law_spot", "_law_name", "_law_some", "_law_row_here"]) (sc := defScope sBook) (by decide +kernel))
            (fun _ _ _ _ _ => pg_tup (by rfl) (pgs_cons (pg_name (i := 11) scBook.nd rfl (Or.inl rfl)) (pgs_cons (pg_name (i := 12) scBook.nd rfl (Or.inl rfl)) pgs_nil))) (fun _ _ _ _ _ => pts_nil) (fun _ _ _ _ _ => pv 11)) (pa_cons (pe_lst pa_nil) pa_nil)) (by rfl))
        (pss_cons (ps_for PassesOwn.never rfl (pi_range1 (by rfl) T.mR (pa_cons (pe_op op_add pe_int (pe_call T.okChoose (hr.mono (by decide)) rfl T.choose.m T.choose.F.kp T.choose.b .nil pass0 (pa_cons (pv 0) (pa_cons pe_int pa_nil)))) pa_nil)) (pg_name (i := 8) scBook.nd rfl (Or.inl rfl))
          (pss_cons (ps_set (i := 7) scBook.nd rfl (Or.inl rfl) (pe_op op_cat (pv 7) (pe_lst (pa_cons (pe_call (ok_drow T.toTDRow) hr rfl T.row.m T.row.F.kp T.row.b .nil pass0 (pa_cons (pv 0) (pa_cons (pv 2) (pa_cons (pv 3) (pa_cons (pv 6) pa_nil))))) pa_nil))))
          (pss_one (ps_if (pt_cmpR op_gt (pe_callB call_len_seq (by rfl) T.mL PySem.boot_len (pa_cons (pe_lc (own := [("_law_row_here", 13)]) (g := gName 13) (by rfl) scBook.nd (pi_list (pe_call (ok_unrolled T.unr.F) (hr.mono (by decide)) rfl T.unr.m T.unr.F.kp T.unr.b .nil pass0 (pa_cons (pe_op op_cat (pv 4) (pe_lst (pa_cons (pe_tup (pa_cons pe_str (pa_cons (pv 7) pa_nil))) pa_nil))) pa_nil)))
              (blkOk_by (N := ["_law_box", "_law_most", "_law_pools_here", "_law_counters_here", "_law_parts", "_law_at", "_law_names", "_law_rows", "_law_turn", "_law_labels", "_law_spot", "_law_name", "_law_some", "_law_row_here"]) (sc := defScope sBook) (by decide +kernel))
              (fun _ _ _ _ _ => pg_name (i := 13) scBook.nd rfl (Or.inl rfl)) (fun _ _ _ _ _ => pts_one (pt_cmpR op_eq (pe_ix (show IxR _ (rIxT K) from ix_tup) (pv 13) pe_int (fun _ _ => rfl)) pe_str (nomark _))) (fun _ _ _ _ _ => pv 13)) pa_nil)) (pv 1) (nomark _))
            (pss_one (ps_set (i := 7) scBook.nd rfl (Or.inl rfl) (pe_slice sl_list (pv 7) po_none (po_some (pe_un un_neg pe_int))))) pss_nil))))
        (pss_one (ps_expr (pe_bm PySem.F.plainAttrs_list PySem.F.slot_list_append PySem.F.type_list_append mt_append (pv 4) (pa_cons (pe_tup (pa_cons (pe_ix ix_list (pe_ix ix_list (pv 2) pe_int (fun _ _ => rfl)) (pv 5) (fun _ _ => rfl)) (pa_cons (pv 7) pa_nil))) pa_nil)))))))
      (pss_cons (ps_setLc (i := 9) (own := [("_law_row_here", 13)]) (g := gName 13) (by rfl) scBook.nd rfl rfl (sw_true rfl rfl rfl (by decide +kernel)) (pi_list (pe_call (ok_unrolled T.unr.F) (hr.mono (by decide)) rfl T.unr.m T.unr.F.kp T.unr.b .nil pass0 (pa_cons (pv 4) pa_nil)))
          (blkOk_by (N := ["_law_box", "_law_most", "_law_pools_here", "_law_counters_here", "_law_parts", "_law_at", "_law_names", "_law_rows", "_law_turn", "_law_labels", "_law_spot", "_law_name", "_law_some", "_law_row_here"]) (sc := defScope sBook) (by decide +kernel))
          (fun _ _ _ _ _ => pg_name (i := 13) scBook.nd rfl (Or.inl rfl))
          (fun _ _ _ _ _ => pts_one (PW.pt (pw_and (pt_cmpR op_eq (pe_ix (show IxR _ (rIxT K) from ix_tup) (pv 13) pe_int (fun _ _ => rfl)) pe_str (nomark _)) (pw_and1 (pt_cmpR op_ne (pe_ix (show IxR _ (rIxT K) from ix_tup) (pv 13) pe_int (fun _ _ => rfl)) pe_str (nomark _))))))
          (fun _ _ _ _ _ => pe_ix (show IxR _ (rIxT K) from ix_tup) (pv 13) pe_int (fun _ _ => rfl)))
      (pss_cons (ps_if (PW.pt (pw_and (pt_cmpR (op_neD hr.units) (pv 9) (pe_lst pa_nil) (nomark _)) (pw_and1 (pt_cmpR op_eq (pe_call T.okChoose (hr.mono (by decide)) rfl T.choose.m T.choose.F.kp T.choose.b .nil pass0 (pa_cons (pv 0) (pa_cons pe_int pa_nil))) pe_int (nomark _)))))
        (pss_cons (ps_set (i := 10) scBook.nd rfl (Or.inl rfl) (pe_call T.okChoose (hr.mono (by decide)) rfl T.choose.m T.choose.F.kp T.choose.b .nil pass0 (pa_cons (pv 0) (pa_cons (pe_op op_add (pe_callB call_len_seq (by rfl) T.mL PySem.boot_len (pa_cons (pe_ix ix_tup (pe_ix ix_list (pv 4) (pe_un un_neg pe_int) (fun _ _ => rfl)) pe_int (fun _ _ => rfl)) pa_nil)) pe_int) pa_nil))))
        (pss_cons (ps_set (i := 7) scBook.nd rfl (Or.inl rfl) (pe_op op_cat (pe_op op_cat (pe_slice sl_list (pe_ix ix_tup (pe_ix ix_list (pv 4) (pe_un un_neg pe_int) (fun _ _ => rfl)) pe_int (fun _ _ => rfl)) po_none (po_some (pv 10)))
            (pe_lst (pa_cons (pe_tup (pa_cons pe_str (pa_cons (pe_call T.okOne (hr.mono (by decide)) rfl T.one.m T.one.F.kp T.one.b .nil pass0 (pa_cons (pv 0) (pa_cons (pv 9) pa_nil))) pa_nil))) pa_nil))) (pe_slice sl_list (pe_ix ix_tup (pe_ix ix_list (pv 4) (pe_un un_neg pe_int) (fun _ _ => rfl)) pe_int (fun _ _ => rfl)) (po_some (pv 10)) po_none)))
        (pss_one (ps_set (i := 4) scBook.nd rfl (Or.inl rfl) (pe_op op_cat (pe_slice sl_list (pv 4) po_none (po_some (pe_un un_neg pe_int))) (pe_lst (pa_cons (pe_tup (pa_cons (pe_ix ix_tup (pe_ix ix_list (pv 4) (pe_un un_neg pe_int) (fun _ _ => rfl)) pe_int (fun _ _ => rfl)) (pa_cons (pv 7) pa_nil))) pa_nil))))))) pss_nil)
      (pss_one (ps_ret (pe_tup (pa_cons (pv 3) (pa_cons (pv 4) pa_nil))))))))), ?_⟩
    obtain ⟨xb, yb, hxy, hb⟩ := id hB
    refine ⟨_, rfl, b, rfl, hB, fun pp d H1 hd hB1 k1 hP0 => ?_⟩
    have fl := pool_fine d hd
    have hP1 : PoolAt (hid H1 b) pp d := hP0.mono (dif_hid hb)
    obtain ⟨a0, a1, a2, a3, ep, e0, e1, e2, e3⟩ := id hP1
    refine ⟨_, rfl, _, rfl, pp, _, _, .ref a0, rfl, rfl, SqL.of (hid_sub _ _ ep), rfl, ?_⟩
    refine ⟨b, a0, 3, d.c, rfl, hB1, SqL.of (hid_sub _ _ e0), hid_ne e0, by decide, by rw [fl.cl]; decide, by rw [fl.cl]; decide, fun cc cs H2 k2 hB2 hC0 c0 c3 cn ct => ⟨Nat.zero_le _, fun pl hpl => ⟨_, _, rfl, ?_⟩⟩⟩
    obtain ⟨xb1, yb1, hxy1, hb1⟩ := id hB1
    obtain ⟨xb2, yb2, hxy2, hb2⟩ := id hB2
    have kH2 := k1.trans k2
    have hPL : H pl = none := kH2.mo hb2 pl hpl
    have npl : pl ≠ b := hB2.ne hpl
    have hC2 : CsAt (hid H2 b) cc cs := hC0.mono (dif_hid hb1)
    have hP2 : PoolAt (hid H2 b) pp d := hP1.mono (hid_kp k2)
    have hP3 : PoolAt (zz (upd H2 pl (.lst [])) b pl) pp d := hP2.mono (zz_new hpl)
    have hC3 : CsAt (zz (upd H2 pl (.lst [])) b pl) cc cs := hC2.mono (zz_new hpl)
    have k3 := kH2.new (o := .lst []) hpl
    have hB3 : BoxAt (upd H2 pl (.lst [])) b := hB2.new hpl
    have hl3 : upd H2 pl (.lst []) pl = some (.lst []) := upd_same
    generalize upd H2 pl (.lst []) = H3 at hP3 hC3 k3 hB3 hl3 ⊢
    clear hP0 hP1 hP2 hC0 hC2 ep e0 e1 e2 e3 hB1 hB2 hb1 hb2 k1 k2 kH2 hpl
    refine ⟨_, rfl, b, 3, rfl, hB3, by decide, by decide, fun r H4 r0 r1 hB4 k4 _ => ?_⟩
    refine ⟨_, _, rfl, rfl, _, rfl, by omega, by omega, for_range (lo := 0) (fun i σ Hi => ∃ x5 x6 x7 x8 x9 x10 x11 x12 x13 ts bk, σ = [some (.ref b), some (.int m), some (.ref pp), some (.ref cc), some (.ref pl), x5, x6, x7, x8, x9, x10, x11, x12, x13] ∧ Kp b H Hi ∧ BoxAt Hi b ∧ Hi pl = some (.lst ((ts : List Addr).map V.ref)) ∧
      PoolAt (zz Hi b pl) pp d ∧ CsAt (zz Hi b pl) cc cs ∧ Paired (PartAt (zz Hi b pl)) ts bk ∧ BkOk d cs i bk)
      ⟨_, _, _, _, _, _, _, _, _, [], [], rfl, k3.trans k4, hB4, k4 _ _ hl3 npl, hP3.mono (zz_kp k4), hC3.mono (zz_kp k4), .nil, ⟨rfl, rfl, fun i p h => by simp at h, fun p h => by cases h⟩⟩ (fun i σ Hi hi hP => ?turn) (fun σ Hi hP => ?fin)⟩
    case turn =>
      obtain ⟨x5, x6, x7, x8, x9, x10, x11, x12, x13, ts, bk, rfl, kI, hBI, hpI, hPI, hCI, hbk, ok⟩ := hP
      clear hB3 hB4 k4 hP3 hC3 hl3 k3
      have hi3 : i < 3 := by omega
      have htl : ts.length = bk.length := paired_len hbk
      have hbl : bk.length = i := ok.n
      have hnames : ∀ x ∈ bk.map (·.1), nameS x = true := fun x hx => by
        rw [ok.nm] at hx
        exact fl.names x (by simp [List.mem_of_mem_take hx])
      refine ⟨_, rfl, pl, rfl, ⟨_, SqL.of hpI⟩, fun D hD => lc_list (K := K) (a := pl) (xs := ts.map V.ref) (fun j Hj => Hj = upd Hi D (.lst (((bk.take j).map (·.1)).map V.str))) rfl (fun j Hj _ hP => ?stays) (fun j x Hj hj hP => ?cturn) (fun Hj hP => ?cend)⟩
      case stays =>
        subst hP
        exact SqL.of (Same.new hD _ _ hpI)
      case cturn =>
        subst hP
        rw [List.getElem?_map] at hj
        cases hxj : ts[j]? with
        | none => rw [hxj] at hj; cases hj
        | some t =>
        rw [hxj] at hj
        cases hj
        obtain ⟨p, hpj, ra, htt, _⟩ := paired_at hbk hxj
        have htH := Same.new (o := .lst (((bk.take j).map (·.1)).map V.str)) hD t _ (zz_sub _ _ htt)
        refine ⟨t, _, rfl, SqT.of htH, rfl, _, _, rfl, _, _, rfl, rfl, rfl, _, rfl, _, upd_same, ?_, ?_⟩
        · rw [List.length_map, List.length_map, List.length_take]
          have : (1001 : Nat) ≤ sizeLine := by decide
          omega
        · rw [List.take_add_one, hpj, List.map_append, List.map_append]
          funext c
          by_cases ec : c = D
          · rw [ec, upd_same, upd_same]
            rfl
          · rw [upd_ne ec, upd_ne ec, upd_ne ec]
      case cend =>
        subst hP
        rw [List.length_map, htl, List.take_length]
        refine ⟨Nat.zero_le _, fun rl hrl => ⟨_, _, rfl, ?_⟩⟩
        have nD : D ≠ b := hBI.ne hD
        have nDp : D ≠ pl := fun z => by rw [z, hpI] at hD; cases hD
        have sN : Same Hi (upd (upd Hi D (.lst ((bk.map (·.1)).map V.str))) rl (.lst [])) := (Same.new hD).trans (Same.new hrl)
        have hDN : upd (upd Hi D (.lst ((bk.map (·.1)).map V.str))) rl (.lst []) D = some (.lst ((bk.map (·.1)).map V.str)) := Same.new hrl D _ upd_same
        have hrN : upd (upd Hi D (.lst ((bk.map (·.1)).map V.str))) rl (.lst []) rl = some (.lst []) := upd_same
        have nr : rl ≠ b := (hBI.new hD).ne hrl
        have nrp : rl ≠ pl := fun z => by rw [z, (Same.new hD) _ _ hpI] at hrl; cases hrl
        have hBN : BoxAt (upd (upd Hi D (.lst ((bk.map (·.1)).map V.str))) rl (.lst [])) b := (hBI.new hD).new hrl
        generalize upd (upd Hi D (.lst ((bk.map (·.1)).map V.str))) rl (.lst []) = HN at sN hDN hrN hBN ⊢
        have hPN := hPI.mono (zz_same (b := b) (p := pl) sN)
        have hCN := hCI.mono (zz_same (b := b) (p := pl) sN)
        have hbN := paired_mono (fun _ _ e => e.same (zz_same (b := b) (p := pl) sN)) hbk
        have hpN := sN _ _ hpI
        have hrN2 : zz HN b pl rl = some (.lst (([] : List Addr).map V.ref)) := zz_get hrN nr nrp
        refine ⟨_, rfl, b, 5, rfl, hBN, by decide, by decide, fun r2 H5 r20 r21 hB5 k5 _ => ?_⟩
        refine ⟨_, _, rfl, rfl, _, rfl, by omega, by omega, for_range (lo := 0) (fun j σ Hj => ∃ y8 y9 y10 y11 y12 y13 rl us rs, σ = [some (.ref b), some (.int m), some (.ref pp), some (.ref cc), some (.ref pl), some (.int (0 + (i : Int))), some (.ref D), some (.ref rl), y8, y9, y10, y11, y12, y13] ∧ Kp b HN Hj ∧ BoxAt Hj b ∧
          zz Hj b pl rl = some (.lst ((us : List Addr).map V.ref)) ∧ RowsAt (zz Hj b pl) us rs ∧ rs.length ≤ j ∧ ∀ r ∈ rs, rowFine d cs (bk.map (·.1)) r)
          ⟨_, _, _, _, _, _, rl, [], [], rfl, k5, hB5, zz_kp k5 _ _ hrN2, .nil, Nat.le_refl _, fun r h => by cases h⟩ (fun j σ Hj hj hP => ?inner) (fun σ Hj hP => ?outer)⟩
        case inner =>
          obtain ⟨y8, y9, y10, y11, y12, y13, rl2, us, rs, rfl, kJ, hBJ, hrJ, huJ, hlJ, hfJ⟩ := hP
          have hPJ := hPN.mono (zz_kp (p := pl) kJ)
          have hCJ := hCN.mono (zz_kp (p := pl) kJ)
          have hpJ := kJ _ _ hpN npl
          have hDJ := kJ _ _ hDN nD
          have hj5 : j < 5 := by omega
          refine ⟨_, rfl, _, rfl, _, rfl, _, rfl, _, rfl, b, pp, cc, D, d, cs, bk.map (·.1), rfl, hBJ, hPJ.mono zz_hid, hd, hCJ.mono zz_hid, c0, by omega, SqL.of hDJ, nD, by rw [List.length_map]; omega, hnames, fun t r3 H6 k6 hB6 ht hf => ⟨(by show 1 ≤ sizeLine; decide), fun L hL => ?_⟩⟩
          have hr6 := k6 _ _ (zz_sub _ _ hrJ) (fun z => by
            rw [z] at hrJ
            exact hid_ne (hid_sub _ _ hrJ) rfl)
          have htn := dif_eq.mp ht
          refine ⟨rl2, L, _, [.ref t], rfl, rfl, Same.new hL _ _ hr6, upd_same, ?_, fun rl3 hrl3 => ?_⟩
          · rw [List.length_map, paired_len huJ]
            have : (1001 : Nat) ≤ sizeLine := by decide
            show rs.length + 1 ≤ sizeLine
            omega
          have k8 : Kp b Hj (upd (upd H6 L (.lst [.ref t])) rl3 (.lst (us.map V.ref ++ [.ref t]))) := (k6.new hL).new hrl3
          have hB8 : BoxAt (upd (upd H6 L (.lst [.ref t])) rl3 (.lst (us.map V.ref ++ [.ref t]))) b := (hB6.new hL).new hrl3
          have ht8 : upd (upd H6 L (.lst [.ref t])) rl3 (.lst (us.map V.ref ++ [.ref t])) t = some (.tup (rowTup r3)) := Same.new hrl3 _ _ (Same.new hL _ _ htn.2)
          have hr8 : upd (upd H6 L (.lst [.ref t])) rl3 (.lst (us.map V.ref ++ [.ref t])) rl3 = some (.lst (us.map V.ref ++ [.ref t])) := upd_same
          have nr3 : rl3 ≠ b := (hB6.new hL).ne hrl3
          have nr3p : rl3 ≠ pl := fun z => by
            rw [z, Same.new hL _ _ (k6 _ _ hpJ npl)] at hrl3
            cases hrl3
          have nt3 : t ≠ b := fun z => by
            obtain ⟨xj, yj, _, g⟩ := hBJ
            rw [z, g] at htn
            cases htn.1
          have nt3p : t ≠ pl := fun z => by
            rw [z, hpJ] at htn
            cases htn.1
          generalize upd (upd H6 L (.lst [.ref t])) rl3 (.lst (us.map V.ref ++ [.ref t])) = H8 at k8 hB8 ht8 hr8 ⊢
          have hr8z : zz H8 b pl rl3 = some (.lst ((us ++ [t]).map V.ref)) := by
            rw [List.map_append]
            exact zz_get hr8 nr3 nr3p
          have hu8 : RowsAt (zz H8 b pl) (us ++ [t]) (rs ++ [r3]) := paired_snoc (R := fun t r => zz H8 b pl t = some (HO.tup (rowTup r))) (zz_get ht8 nt3 nt3p) (huJ.same (zz_kp k8))
          have hf8 : ∀ r ∈ rs ++ [r3], rowFine d cs (bk.map (·.1)) r := fun r hr => (List.mem_append.mp hr).elim (hfJ r) (fun h => by rw [List.mem_singleton.mp h]; exact hf)
          have hl8 : (rs ++ [r3]).length ≤ j + 1 := by rw [List.length_append]; exact Nat.add_le_add_right hlJ 1
          have hp8 := k8 _ _ hpJ npl
          have kN8 := kJ.trans k8
          have hb8 := paired_mono (fun _ _ e => e.same ((zz_kp (p := pl) kN8).trans zz_sub)) hbN
          have hr8' := zz_sub _ _ hr8z
          have kD8 := hB8
          clear ht8 hr8 hf hfJ ht htn
          refine ⟨_, rfl, _, rfl, (by show 2 ≤ sizeLine; decide), fun t' ht' => ⟨(by show 1 ≤ sizeLine; decide), fun L2 hL2 => ⟨pl, L2, _, [.ref t'], rfl, rfl, Same.new hL2 _ _ (Same.new ht' _ _ hp8), upd_same, ?_, fun P' hP' => ?_⟩⟩⟩
          · rw [List.length_map]
            have : (1001 : Nat) ≤ sizeLine := by decide
            show ts.length + 1 ≤ sizeLine
            omega
          have s9 : Same H8 (upd (upd (upd H8 t' (.tup [.str "text", .ref rl3])) L2 (.lst [.ref t'])) P' (.lst (ts.map V.ref ++ [.ref t']))) := ((Same.new ht').trans (Same.new hL2)).trans (Same.new hP')
          have hP9 : upd (upd (upd H8 t' (.tup [.str "text", .ref rl3])) L2 (.lst [.ref t'])) P' (.lst (ts.map V.ref ++ [.ref t'])) P' = some (.lst (ts.map V.ref ++ [.ref t'])) := upd_same
          have ht9 : upd (upd (upd H8 t' (.tup [.str "text", .ref rl3])) L2 (.lst [.ref t'])) P' (.lst (ts.map V.ref ++ [.ref t'])) t' = some (.tup [.str "text", .ref rl3]) := Same.new hP' _ _ (Same.new hL2 _ _ upd_same)
          generalize upd (upd (upd H8 t' (.tup [.str "text", .ref rl3])) L2 (.lst [.ref t'])) P' (.lst (ts.map V.ref ++ [.ref t'])) = H9 at s9 hP9 ht9 ⊢
          have hL8 : LstAt H9 rl3 (rs ++ [r3]) := ⟨us ++ [t], s9 _ _ hr8', hu8.same (zz_sub.trans s9)⟩
          have hPA : PartsAt H9 P' (bk ++ [((("text" : Str), rs ++ [r3]) : PartD)]) := ⟨ts ++ [t'], by rw [hP9, List.map_append]; rfl, paired_snoc ⟨rl3, ht9, hL8⟩ (paired_mono (fun _ _ e => e.same s9) hb8)⟩
          have h6 : (rs ++ [r3]).length ≤ 6 := by omega
          refine ⟨P', _, rfl, hPA, ok.puts.snoc h6 (fine_puts hf8), by simp, by simp; omega, fun F HF sF hFn hFl hle => ?_⟩
          obtain ⟨fs, hF, hfs⟩ := hFl
          have hfl := paired_len hfs
          refine ⟨F, rfl, ⟨_, SqL.of hF⟩, fun D2 hD2 => lc_list (K := K) (a := F) (xs := fs.map V.ref) (fun j2 Hj2 => Same HF Hj2 ∧ ∃ acc, Hj2 D2 = some (.lst acc) ∧ acc.length ≤ j2) ⟨Same.new hD2, [], upd_same, Nat.le_refl _⟩ (fun j2 Hj2 _ hP => SqL.of (hP.1 _ _ hF)) (fun j2 x Hj2 hj2 hP => ?cturn2) (fun Hj2 hP => ?cend2)⟩
          case cturn2 =>
            obtain ⟨sj2, acc, hacc, hal⟩ := hP
            rw [List.getElem?_map] at hj2
            cases hxj : fs[j2]? with
            | none => rw [hxj] at hj2; cases hj2
            | some u2 =>
            rw [hxj] at hj2
            cases hj2
            obtain ⟨r4, hr4, hu4⟩ := paired_at hfs hxj
            have hj3 : j2 < fs.length := (List.getElem?_eq_some_iff.mp hxj).1
            refine ⟨rfl, _, rfl, u2, _, _, _, rfl, rfl, SqT.of (sj2 _ _ hu4), atI_nat (j := 0) (tup_head r4), rfl, _, rfl, ite2 (fun hc => ?_) (fun hc => ?_)⟩
            · refine ⟨_, rfl, acc, hacc, ?_, Same.updn sj2 hD2, _, upd_same, ?_⟩
              · have : (2000 : Nat) ≤ sizeLine := by decide
                omega
              · rw [List.length_append]
                exact Nat.add_le_add_right hal 1
            · exact ⟨sj2, acc, hacc, Nat.le_succ_of_le hal⟩
          case cend2 =>
            obtain ⟨sj2, acc, hacc, hal⟩ := hP
            have s82 := (s9.trans sF).trans sj2
            refine ⟨D2, acc, rfl, .inl (SqL.of hacc), _, rfl, _, _, rfl, rfl, _, rfl, ite2 (fun hc => ?_) (fun hc => ?_)⟩
            · refine ⟨_, rfl, _, rfl, _, rfl, rl3, _, rfl, SqL.of (s82 _ _ hr8'), fun p5 hp5 => ?_⟩
              have ec : cutV ((us ++ [t]).map V.ref) none (some (-1)) = us.map V.ref := by
                rw [cut_last, List.map_append]
                simp
              rw [ec]
              have s83 := fun o => s82.trans (Same.new (o := o) hp5)
              refine ⟨_, _, _, _, _, _, p5, us, rs, rfl, kN8.trans (Kp.same (s83 _)), ?_, zz_get upd_same ?_ ?_, huJ.same ((zz_kp k8).trans (zz_same (s83 _))), Nat.le_succ_of_le hlJ, fun r hr => hf8 r (List.mem_append_left _ hr)⟩
              · obtain ⟨xa, ya, hxa, g8⟩ := hB8
                exact ⟨xa, ya, hxa, s83 _ _ _ g8⟩
              · obtain ⟨xa, ya, hxa, g8⟩ := hB8
                intro z
                rw [z, s82 _ _ g8] at hp5
                cases hp5
              · intro z
                rw [z, s82 _ _ hp8] at hp5
                cases hp5
            · refine ⟨_, _, _, _, _, _, rl3, us ++ [t], rs ++ [r3], rfl, kN8.trans (Kp.same s82), ?_, zz_same s82 _ _ hr8z, hu8.same (zz_same s82), hl8, hf8⟩
              obtain ⟨xa, ya, hxa, g8⟩ := hB8
              exact ⟨xa, ya, hxa, s82 _ _ g8⟩
        case outer =>
          obtain ⟨y8, y9, y10, y11, y12, y13, rl2, us, rs, rfl, kJ, hBJ, hrJ, huJ, hlJ, hfJ⟩ := hP
          have hPJ := hPN.mono (zz_kp (p := pl) kJ)
          have hCJ := hCN.mono (zz_kp (p := pl) kJ)
          have hbJ := paired_mono (fun _ _ e => e.same (zz_kp (p := pl) kJ)) hbN
          have hpJ := kJ _ _ hpN npl
          have kHJ := kI.trans ((Kp.same sN).trans kJ)
          obtain ⟨a0, a1, a2, a3, ep, e0, e1, e2, e3⟩ := id hPJ
          have hip : i < d.p.length := by rw [fl.pl]; omega
          have hat : atI (d.p.map V.str) (0 + (i : Int)) = some (.str d.p[i]) := by
            rw [Int.zero_add]
            exact atI_nat (by rw [List.getElem?_map, List.getElem?_eq_getElem hip]; rfl)
          refine ⟨_, rfl, .inl ⟨rfl, _, SqL.of hpJ⟩, _, rfl, pp, _, _, .ref a1, rfl, rfl, SqL.of (zz_sub _ _ ep), rfl, _, rfl, a1, _, _, _, rfl, rfl, SqL.of (zz_sub _ _ e1), hat, _, rfl, (by show 2 ≤ sizeLine; decide), fun t ht => ?_⟩
          refine ⟨pl, _, _, rfl, rfl, Same.new ht _ _ hpJ, ?_, ?_⟩
          · rw [List.length_map]
            have : (1001 : Nat) ≤ sizeLine := by decide
            omega
          have nt : t ≠ b := hBJ.ne ht
          have ntp : t ≠ pl := fun z => by rw [z, hpJ] at ht; cases ht
          have sZ : Same (zz Hj b pl) (zz (upd (upd Hj t (.tup [.str d.p[i], .ref rl2])) pl (.lst (ts.map V.ref ++ [.ref t]))) b pl) := (zz_same (Same.new ht)).trans zz_put
          refine ⟨_, _, _, _, _, _, _, _, _, ts ++ [t], bk ++ [(d.p[i], rs)], rfl, ((kHJ.new ht).updn hPL), (hBJ.new ht).upd npl, by rw [List.map_append]; exact upd_same, hPJ.mono sZ, hCJ.mono sZ, ?_, ?_⟩
          · refine paired_snoc ?_ (paired_mono (fun _ _ e => e.same sZ) hbJ)
            exact ⟨rl2, zz_put _ _ (zz_get upd_same nt ntp), us, sZ _ _ hrJ, huJ.same sZ⟩
          · have hnm : (bk ++ [(d.p[i], rs)]).map (·.1) = d.p.take (i + 1) := by
              rw [List.map_append, ok.nm, List.take_add_one, List.getElem?_eq_getElem hip]
              rfl
            have h5 : rs.length ≤ 5 := by omega
            refine ⟨by simp [hbl], hnm, ok.puts.snoc (by show rs.length ≤ 6; omega) (fine_puts hfJ), fun p hp => ?_⟩
            have hsub : ∀ x ∈ bk.map (·.1), x ∈ (bk ++ [(d.p[i], rs)]).map (·.1) := fun x hx => by rw [List.map_append]; exact List.mem_append_left _ hx
            rcases List.mem_append.mp hp with hp | hp
            · exact ⟨(ok.rows p hp).1, fun r hr => fine_more hsub ((ok.rows p hp).2 r hr)⟩
            · rw [List.mem_singleton.mp hp]
              exact ⟨h5, fun r hr => fine_more hsub (hfJ r hr)⟩
    case fin =>
      obtain ⟨x5, x6, x7, x8, x9, x10, x11, x12, x13, ts, bk, rfl, kI, hBI, hpI, hPI, hCI, hbk, ok⟩ := hP
      clear hB3 hB4 k4 hP3 hC3 hl3 k3
      have hir : (1 + r).toNat ≤ 3 := by omega
      have hbl : bk.length = (1 + r).toNat := ok.n
      have hbn : bk ≠ [] := fun z => by rw [z] at hbl; simp at hbl; omega
      have htl : ts.length = bk.length := paired_len hbk
      have hC0 : CsAt (hid Hi b) cc cs := hCI.mono zz_hid
      have hb0 : Paired (PartAt (hid Hi b)) ts bk := paired_mono (fun _ _ e => e.same zz_hid) hbk
      have hp0 : hid Hi b pl = some (.lst (ts.map V.ref)) := hid_get hpI npl
      have hfine : ∀ p ∈ bk, ∀ r ∈ p.2, rowFine d cs (bk.map (·.1)) r := fun p hp => (ok.rows p hp).2
      have okB : BookOk d cs bk := ⟨hd, c0, c3, cn, ct, hbn, by omega, by rw [hbl]; exact ok.nm, ok.puts, fun p hp r hr => .inl (hfine p hp r hr)⟩
      clear hPI hCI hbk hpI
      -- the answer without a reference
      have back : ∀ (Hx : Hp) (t : Addr), Kp b H Hx → BoxAt Hx b → Same (hid Hi b) (hid Hx b) → Hx t = none → Q (.ref t) (upd Hx t (.tup [.ref cc, .ref pl])) := fun Hx t kx hBx sx ht => by
        have s2 := sx.trans (hid_same (Same.new (o := .tup [.ref cc, .ref pl]) ht) b)
        exact q t cc pl d cs bk _ okB (kx.new ht) (hBx.new ht) (hid_get upd_same (hBx.ne ht)) (hC0.mono s2) ⟨ts, s2 _ _ hp0, paired_mono (fun _ _ e => e.same s2) hb0⟩
      refine ⟨_, rfl, pl, bk, rfl, ⟨ts, hid_sub _ _ hp0, paired_mono (fun _ _ e => e.same hid_sub) hb0⟩, ok.puts, hbn, by omega, fun F HF sF hFn hFl hle => ?_⟩
      obtain ⟨fs, hF, hfs⟩ := hFl
      have hfl := paired_len hfs
      refine ⟨F, rfl, ⟨_, SqL.of hF⟩, fun D hD => lc_list (K := K) (a := F) (xs := fs.map V.ref) (fun j Hj => Same HF Hj ∧ Hj D = some (.lst ((labelsOf ((unrolled bk).take j)).map V.str))) ⟨Same.new hD, upd_same⟩ (fun j Hj _ hP => SqL.of (hP.1 _ _ hF)) (fun j x Hj hj hP => ?lturn) (fun Hj hP => ?lend)⟩
      case lturn =>
        obtain ⟨sj, hDj⟩ := hP
        rw [List.getElem?_map] at hj
        cases hxj : fs[j]? with
        | none => rw [hxj] at hj; cases hj
        | some u2 =>
        rw [hxj] at hj
        cases hj
        obtain ⟨r4, hr4, hu4⟩ := paired_at hfs hxj
        have hut := sj _ _ hu4
        have hj3 : j < fs.length := (List.getElem?_eq_some_iff.mp hxj).1
        have hsz : ((labelsOf ((unrolled bk).take j)).map V.str).length < sizeLine := by
          rw [List.length_map]
          have h1 : (labelsOf ((unrolled bk).take j)).length ≤ j := Nat.le_trans (List.length_filterMap_le _ _) (by rw [List.length_take]; omega)
          have : (2000 : Nat) ≤ sizeLine := by decide
          omega
        have hstep : labelsOf ((unrolled bk).take (j + 1)) = labelsOf ((unrolled bk).take j) ++ labelsOf [r4] := by
          unfold labelsOf
          rw [List.take_add_one, hr4, List.filterMap_append]
          rfl
        have no : labelOf r4 = none → Same HF Hj ∧ Hj D = some (.lst ((labelsOf ((unrolled bk).take (j + 1))).map V.str)) := fun e => by
          refine ⟨sj, ?_⟩
          rw [hstep]
          have : labelsOf [r4] = [] := by unfold labelsOf; simp [e]
          rw [this, List.append_nil]
          exact hDj
        by_cases hnote : ∃ c l, r4 = .note c l
        · obtain ⟨c, l, rfl⟩ := hnote
          refine ⟨rfl, _, rfl, u2, _, _, _, rfl, rfl, SqT.of hut, atI_nat (j := 0) rfl, rfl, _, rfl, iteTD (by show decide (V.str "note" = V.str "note") = true; exact decide_eq_true rfl) ?_⟩
          refine ⟨_, rfl, u2, _, _, _, rfl, rfl, SqT.of hut, atI_nat (j := 2) rfl, rfl, _, rfl, ?_⟩
          by_cases hl : l = ""
          · refine iteFD (by rw [hl]; decide +kernel) ?_
            exact no (if_pos hl)
          · refine iteTD (by rw [Bool.not_eq_true', decide_eq_false_iff_not]; exact fun z => hl (V.str.inj z)) ?_
            refine ⟨_, rfl, u2, _, _, _, rfl, rfl, SqT.of hut, atI_nat (j := 2) rfl, _, hDj, hsz, Same.updn sj hD, ?_⟩
            rw [upd_same, hstep]
            have : labelsOf [RowD.note c l] = [l] := by unfold labelsOf; simp [labelOf, hl]
            rw [this, List.map_append]
            rfl
        · refine ⟨rfl, _, rfl, u2, _, _, _, rfl, rfl, SqT.of hut, atI_nat (j := 0) (tup_head r4), rfl, _, rfl, iteFD ?_ ?_⟩
          · cases r4 with
            | note c l => exact absurd ⟨c, l, rfl⟩ hnote
            | skip _ _ => exact (by decide +kernel : decide (V.str "skip" = V.str "note") = false)
            | set _ _ => exact (by decide +kernel : decide (V.str "set" = V.str "note") = false)
            | keep _ => exact (by decide +kernel : decide (V.str "keep" = V.str "note") = false)
            | back _ => exact (by decide +kernel : decide (V.str "back" = V.str "note") = false)
            | ref _ => exact (by decide +kernel : decide (V.str "ref" = V.str "note") = false)
            | put _ => exact (by decide +kernel : decide (V.str "put" = V.str "note") = false)
            | opn _ => exact (by decide +kernel : decide (V.str "open" = V.str "note") = false)
          · refine no ?_
            cases r4 with
            | note c l => exact absurd ⟨c, l, rfl⟩ hnote
            | _ => rfl
      case lend =>
        obtain ⟨sG, hDG⟩ := hP
        rw [List.length_map, hfl, List.take_length] at hDG
        have sG0 := sF.trans sG
        have hlab := labels_fine fl hfine
        have hln : (labelsOf (unrolled bk)).length ≤ 1296 := Nat.le_trans (List.length_filterMap_le _ _) hle
        generalize hls : labelsOf (unrolled bk) = ls at hDG hlab hln
        have nDb : D ≠ b := fun z => by
          obtain ⟨xi, yi, _, g⟩ := hBI
          rw [z, sF _ _ g] at hD
          cases hD
        refine ⟨_, rfl, Nat.zero_le _, fun e he => ?_⟩
        have s1 := sG0.trans (Same.new (o := .lst []) he)
        have hDe := Same.new (o := .lst []) he _ _ hDG
        have hee : upd Hj e (.lst []) e = some (.lst []) := upd_same
        generalize upd Hj e (.lst []) = He at s1 hDe hee ⊢
        have hBe : BoxAt He b := by
          obtain ⟨xi, yi, hx, g⟩ := hBI
          exact ⟨xi, yi, hx, s1 _ _ g⟩
        have ke := kI.trans (Kp.same s1)
        refine ⟨.list (ls.map PyData.str), .list [], .lst (SqL.of hDe) (dp_strL ls), .lst (SqL.of hee) .nil, strL_sh (fun x hx => (name_ok (hlab x hx)).1), by decide +kernel, _, rfl, ?_⟩
        rw [strsL_nil]
        by_cases hl0 : ls = []
        · rw [hl0]
          refine iteF ?_
          exact ⟨_, rfl, _, rfl, (by show 2 ≤ sizeLine; decide), fun t ht => back _ t ke hBe (hid_same s1 b) ht⟩
        · refine iteTD (by cases ls with | nil => exact absurd rfl hl0 | cons _ _ => rfl) ?_
          refine ⟨_, rfl, b, 2, rfl, hBe, by decide, by decide, fun c H6 c0' c1' hB6 k6 _ => ⟨rfl, _, rfl, ite2 (fun hc => ?yes) (fun hc => ?no)⟩⟩
          case no => exact ⟨_, rfl, _, rfl, (by show 2 ≤ sizeLine; decide), fun t ht => back _ t (ke.trans k6) hB6 ((hid_same s1 b).trans (hid_kp k6)) ht⟩
          case yes =>
            obtain ⟨bi, p, rfl⟩ : ∃ bi p, bk = bi ++ [p] := ⟨_, _, (List.dropLast_concat_getLast hbn).symm⟩
            obtain ⟨tsi, tl, rfl⟩ : ∃ tsi t, ts = tsi ++ [t] := ⟨_, _, (List.dropLast_concat_getLast (by intro z; rw [z] at htl; simp at htl)).symm⟩
            have hli : tsi.length = bi.length := by simpa using htl
            obtain ⟨p2, hpp2, ra, htt, us, hra, hus⟩ := paired_at hb0 (show (tsi ++ [tl])[tsi.length]? = some tl by simp)
            have hpp : p = p2 := by
              rw [hli] at hpp2
              simpa using hpp2
            subst hpp
            have hul : us.length = p.2.length := paired_len hus
            have hp5 : p.2.length ≤ 5 := (ok.rows p (by simp)).1
            have hlast : atI ((tsi ++ [tl]).map V.ref) (-1) = some (.ref tl) := by rw [List.map_append]; exact atI_last _ _
            have hbig : (2000 : Nat) ≤ sizeLine := by decide
            have S6 := (hid_same s1 b).trans (hid_kp k6)
            have g6 : ∀ {a o}, hid Hi b a = some o → H6 a = some o := fun h => hid_sub _ _ (S6 _ _ h)
            have hD6 := k6 _ _ hDe nDb
            refine ⟨_, rfl, _, rfl, _, rfl, pl, _, _, .ref tl, rfl, rfl, SqL.of (g6 hp0), hlast, tl, _, _, .ref ra, rfl, rfl, SqT.of (g6 htt), rfl, ra, _, rfl, .inl (SqL.of (g6 hra)), _, _, rfl, rfl, b, _, rfl, hB6, by omega, by rw [List.length_map]; omega, fun sp H7 sp0 sp1 hB7 k7 _ => ?_⟩
            obtain ⟨k, rfl⟩ : ∃ k : Nat, sp = (k : Int) := ⟨sp.toNat, by omega⟩
            have hk : k ≤ us.length := by rw [List.length_map] at sp1; omega
            have S7 := S6.trans (hid_kp k7)
            have g7 : ∀ {a o}, hid Hi b a = some o → H7 a = some o := fun h => hid_sub _ _ (S7 _ _ h)
            have hD7 := k7 _ _ hD6 nDb
            refine ⟨_, rfl, _, rfl, pl, _, _, .ref tl, rfl, rfl, SqL.of (g7 hp0), hlast, tl, _, _, .ref ra, rfl, rfl, SqT.of (g7 htt), rfl, _, rfl, _, rfl, ra, _, rfl, SqL.of (g7 hra), fun p1 hp1 => ?_⟩
            have hlp : 0 < ls.length := List.length_pos_iff.mpr hl0
            refine ⟨_, rfl, _, rfl, b, D, _, rfl, hB7.new hp1, SqL.of (Same.new hp1 _ _ hD7), nDb, by rw [List.length_map]; exact hlp, by rw [List.length_map]; omega, fun v H8 hv hB8 k8 _ => ?_⟩
            obtain ⟨l, hlm, rfl⟩ := List.mem_map.mp hv
            have S8 := (S7.trans (hid_same (Same.new (o := .lst (cutV (us.map V.ref) none (some (k : Int)))) hp1) b)).trans (hid_kp k8)
            have K8 := (((ke.trans k6).trans k7).new hp1).trans k8
            have n1 : p1 ≠ b := hB7.ne hp1
            have f1 := k8 p1 _ upd_same n1
            rw [cut_to _ (by rw [List.length_map]; exact hk)] at f1
            refine ⟨(by show 2 ≤ sizeLine; decide), fun t5 ht5 => ⟨(by show 1 ≤ sizeLine; decide), fun L5 hL5 => ⟨p1, L5, _, [.ref t5], rfl, rfl, Same.new hL5 _ _ (Same.new ht5 _ _ f1), upd_same, ?_, fun c1 hc1 => ?_⟩⟩⟩
            · rw [List.length_take, List.length_map]
              show min k us.length + 1 ≤ sizeLine
              omega
            have s9 : Same H8 (upd (upd (upd H8 t5 (.tup [.str "ref", .str l])) L5 (.lst [.ref t5])) c1 (.lst ((us.map V.ref).take k ++ [.ref t5]))) := ((Same.new ht5).trans (Same.new hL5)).trans (Same.new hc1)
            have ft9 := Same.new (o := .lst ((us.map V.ref).take k ++ [.ref t5])) hc1 _ _ (Same.new (o := .lst [.ref t5]) hL5 _ _ (upd_same (H := H8) (a := t5) (o := .tup [.str "ref", .str l])))
            have fc9 : upd (upd (upd H8 t5 (.tup [.str "ref", .str l])) L5 (.lst [.ref t5])) c1 (.lst ((us.map V.ref).take k ++ [.ref t5])) c1 = some (.lst ((us.map V.ref).take k ++ [.ref t5])) := upd_same
            have n5 : t5 ≠ b := hB8.ne ht5
            generalize upd (upd (upd H8 t5 (.tup [.str "ref", .str l])) L5 (.lst [.ref t5])) c1 (.lst ((us.map V.ref).take k ++ [.ref t5])) = H9 at s9 ft9 fc9 ⊢
            have S9 := S8.trans (hid_same s9 b)
            have g9 : ∀ {a o}, hid Hi b a = some o → H9 a = some o := fun h => hid_sub _ _ (S9 _ _ h)
            have K9 := K8.trans (Kp.same s9)
            refine ⟨_, rfl, _, rfl, pl, _, _, .ref tl, rfl, rfl, SqL.of (g9 hp0), hlast, tl, _, _, .ref ra, rfl, rfl, SqT.of (g9 htt), rfl, _, rfl, _, rfl, ra, _, rfl, SqL.of (g9 hra), fun p2 hp2 => ?_⟩
            rw [cut_from _ (by rw [List.length_map]; exact hk)]
            refine ⟨c1, p2, _, _, rfl, rfl, Same.new hp2 _ _ fc9, upd_same, ?_, fun rl hrl => ?_⟩
            · rw [List.length_append, List.length_take, List.length_drop, List.length_map]
              show min k us.length + 1 + (us.length - k) ≤ sizeLine
              omega
            have s10 : Same H9 (upd (upd H9 p2 (.lst ((us.map V.ref).drop k))) rl (.lst (((us.map V.ref).take k ++ [.ref t5]) ++ (us.map V.ref).drop k))) := (Same.new hp2).trans (Same.new hrl)
            have frl : upd (upd H9 p2 (.lst ((us.map V.ref).drop k))) rl (.lst (((us.map V.ref).take k ++ [.ref t5]) ++ (us.map V.ref).drop k)) rl = some (.lst (((us.map V.ref).take k ++ [.ref t5]) ++ (us.map V.ref).drop k)) := upd_same
            have hB9 : BoxAt H9 b := by
              obtain ⟨xa, ya, hx, g⟩ := hB8
              exact ⟨xa, ya, hx, s9 _ _ g⟩
            have nrl : rl ≠ b := (hB9.new hp2).ne hrl
            have hB10 : BoxAt (upd (upd H9 p2 (.lst ((us.map V.ref).drop k))) rl (.lst (((us.map V.ref).take k ++ [.ref t5]) ++ (us.map V.ref).drop k))) b := (hB9.new hp2).new hrl
            generalize upd (upd H9 p2 (.lst ((us.map V.ref).drop k))) rl (.lst (((us.map V.ref).take k ++ [.ref t5]) ++ (us.map V.ref).drop k)) = H10 at s10 frl hB10 ⊢
            have S10 := S9.trans (hid_same s10 b)
            have g10 : ∀ {a o}, hid Hi b a = some o → H10 a = some o := fun h => hid_sub _ _ (S10 _ _ h)
            have K10 := K9.trans (Kp.same s10)
            refine ⟨_, rfl, _, rfl, _, rfl, pl, _, rfl, SqL.of (g10 hp0), fun p3 hp3 => ?_⟩
            have e3 : cutV ((tsi ++ [tl]).map V.ref) none (some (-1)) = tsi.map V.ref := by
              rw [cut_last, List.map_append]
              simp
            rw [e3]
            have s10a := Same.new (o := .lst (tsi.map V.ref)) hp3
            refine ⟨_, rfl, _, rfl, pl, _, _, .ref tl, rfl, rfl, SqL.of (s10a _ _ (g10 hp0)), hlast, tl, _, _, .str p.1, rfl, rfl, SqT.of (s10a _ _ (g10 htt)), rfl, _, rfl, (by show 2 ≤ sizeLine; decide), fun t6 ht6 => ⟨(by show 1 ≤ sizeLine; decide), fun L6 hL6 => ⟨p3, L6, _, [.ref t6], rfl, rfl, Same.new hL6 _ _ (Same.new ht6 _ _ upd_same), upd_same, ?_, fun P6 hP6 => ?_⟩⟩⟩
            · rw [List.length_map]
              show tsi.length + 1 ≤ sizeLine
              have : (tsi ++ [tl]).length ≤ 3 := by omega
              simp at this
              omega
            have s11 : Same H10 (upd (upd (upd (upd H10 p3 (.lst (tsi.map V.ref))) t6 (.tup [.str p.1, .ref rl])) L6 (.lst [.ref t6])) P6 (.lst (tsi.map V.ref ++ [.ref t6]))) := ((s10a.trans (Same.new ht6)).trans (Same.new hL6)).trans (Same.new hP6)
            have ft6 := Same.new (o := .lst (tsi.map V.ref ++ [.ref t6])) hP6 _ _ (Same.new (o := .lst [.ref t6]) hL6 _ _ (upd_same (H := upd H10 p3 (.lst (tsi.map V.ref))) (a := t6) (o := .tup [.str p.1, .ref rl])))
            have fP6 : upd (upd (upd (upd H10 p3 (.lst (tsi.map V.ref))) t6 (.tup [.str p.1, .ref rl])) L6 (.lst [.ref t6])) P6 (.lst (tsi.map V.ref ++ [.ref t6])) P6 = some (.lst (tsi.map V.ref ++ [.ref t6])) := upd_same
            have n6 : t6 ≠ b := (hB10.new hp3).ne ht6
            have nP6 : P6 ≠ b := (((hB10.new hp3).new ht6).new hL6).ne hP6
            have hB11 : BoxAt (upd (upd (upd (upd H10 p3 (.lst (tsi.map V.ref))) t6 (.tup [.str p.1, .ref rl])) L6 (.lst [.ref t6])) P6 (.lst (tsi.map V.ref ++ [.ref t6]))) b := (((hB10.new hp3).new ht6).new hL6).new hP6
            generalize upd (upd (upd (upd H10 p3 (.lst (tsi.map V.ref))) t6 (.tup [.str p.1, .ref rl])) L6 (.lst [.ref t6])) P6 (.lst (tsi.map V.ref ++ [.ref t6])) = H11 at s11 ft6 fP6 hB11 ⊢
            refine ⟨_, rfl, _, rfl, (by show 2 ≤ sizeLine; decide), fun t ht => ?_⟩
            have S12 := (S10.trans (hid_same s11 b)).trans (hid_same (Same.new (o := .tup [.ref cc, .ref P6]) ht) b)
            have s12 := s11.trans (Same.new (o := .tup [.ref cc, .ref P6]) ht)
            have okR := with_ref (k := k) fl ok (by omega) hd c0 c3 cn ct (l := l) (by rw [hls]; exact hlm)
            refine q t cc P6 d cs (bi ++ [withRef p k l]) _ okR ((K10.trans (Kp.same s11)).new ht) (hB11.new ht) (hid_get upd_same (hB11.ne ht)) (hC0.mono S12) ⟨tsi ++ [t6], hid_get (by rw [List.map_append]; exact Same.new ht _ _ fP6) nP6, ?_⟩
            have hbi : Paired (PartAt (hid (upd H11 t (.tup [.ref cc, .ref P6])) b)) tsi bi := by
              have := paired_mono (fun _ _ e => e.same S12) hb0
              exact paired_init hli this
            refine paired_snoc ⟨rl, hid_get (Same.new ht _ _ ft6) n6, us.take k ++ [t5] ++ us.drop k, hid_get ?_ nrl, ?_⟩ hbi
            · rw [s12 _ _ frl, List.map_append, List.map_append, List.map_take, List.map_drop]
              rfl
            · have hus2 := hus.same S12
              have t5s : hid (upd H11 t (.tup [.ref cc, .ref P6])) b t5 = some (.tup (rowTup (.ref l))) := hid_get (s12 _ _ (s10 _ _ ft9)) n5
              exact paired_app (paired_app (paired_take k hus2) (.cons t5s .nil)) (paired_drop k hus2)
end
end Pn

namespace Pn
open PySem L2
/-! ### comprehensions that keep what stands: what each turn puts out -/
section
variable {K : PySem.W.Frag} {tl : TE} {g : TG} {tt : TT} {te : TE} {vs : List Nat} {σ : L2.St} {H : Hp} {Q : VK} {p : Addr} {xs : List V}
/-- one turn of a comprehension that puts out what out says -/
def LcTurn (xs : List V) (H : Hp) (g : TG) (tt : TT) (te : TE) (vs : List Nat) (σ : L2.St) (out : Nat → Option V) : Prop :=
  ∀ (i : Nat) (x : V) (Hi : Hp) (S : Hp → Prop) (Y : VK), xs[i]? = some x → Same H Hi → (out i = none → ∀ H', Same Hi H' → S H') → (∀ v, out i = some v → ∀ H', Same Hi H' → Y v H') →
    g x (wipe σ vs) Hi fun σ2 H2 => wipe σ2 vs = wipe σ vs ∧ tt σ2 H2 fun b H3 => if b = true then te σ2 H3 Y else S H3
theorem range_out (out : Nat → Option V) (i : Nat) : (List.range (i + 1)).filterMap out = (List.range i).filterMap out ++ (match out i with | none => [] | some v => [v]) := by
  rw [List.range_succ, List.filterMap_append]
  cases h : out i with
  | none => simp [h]
  | some v => simp [h]
theorem lc_keep (hl : xs.length ≤ 10000) {out : Nat → Option V} (turn : LcTurn xs H g tt te vs σ out) {D : Addr} (hD : H D = none) (i : Nat) (x : V) (Hi : Hp) (hx : xs[i]? = some x) (hP : Same H Hi ∧ Hi D = some (.lst ((List.range i).filterMap out))) :
    g x (wipe σ vs) Hi fun σ2 H2 => wipe σ2 vs = wipe σ vs ∧ tt σ2 H2 fun b H3 =>
      if b = true then te σ2 H3 fun y H4 => ∃ acc, H4 D = some (.lst acc) ∧ acc.length < sizeLine ∧ (Same H (upd H4 D (.lst (acc ++ [y]))) ∧ upd H4 D (.lst (acc ++ [y])) D = some (.lst ((List.range (i + 1)).filterMap out)))
      else (Same H H3 ∧ H3 D = some (.lst ((List.range (i + 1)).filterMap out))) := by
  obtain ⟨s, hd⟩ := hP
  have hi : i < xs.length := (List.getElem?_eq_some_iff.mp hx).1
  refine turn i x Hi (fun H3 => Same H H3 ∧ H3 D = some (.lst ((List.range (i + 1)).filterMap out))) _ hx s (fun h0 H' s' => ⟨s.trans s', ?_⟩) (fun v hv H' s' => ⟨_, s' _ _ hd, ?_, ?_, ?_⟩)
  · rw [range_out, h0, List.append_nil]
    exact s' _ _ hd
  · have h1 : ((List.range i).filterMap out).length ≤ (List.range i).length := List.length_filterMap_le _ _
    rw [List.length_range] at h1
    have h2 : (10001 : Nat) ≤ sizeLine := by decide
    omega
  · exact fun a o e => by
      rw [upd_ne (ne_of_none e hD)]
      exact s' _ _ (s _ _ e)
  · rw [upd_same, range_out, hv]
theorem lcw_list (h0 : ∀ R : VK, R (.ref p) H → tl σ H R) (hp : SqL K H p xs) (hl : xs.length ≤ 10000) {out : Nat → Option V} (turn : LcTurn xs H g tt te vs σ out)
    (fin : ∀ (D : Addr) (H' : Hp), H D = none → Same H H' → H' D = some (.lst ((List.range xs.length).filterMap out)) → Q (.ref D) H') : tLc (iList K tl) g tt te vs σ H Q :=
  h0 _ ⟨p, rfl, ⟨_, hp⟩, fun D hD => lc_list (xs := xs) (fun i Hi => Same H Hi ∧ Hi D = some (.lst ((List.range i).filterMap out))) ⟨Same.new hD, upd_same⟩ (fun _ _ _ hP => hP.1.seq hp) (lc_keep hl turn hD) (fun Hi hP => fin D Hi hD hP.1 hP.2)⟩
theorem lcw_tup (h0 : ∀ R : VK, R (.ref p) H → tl σ H R) (hp : SqT K H p xs) (hl : xs.length ≤ 10000) {out : Nat → Option V} (turn : LcTurn xs H g tt te vs σ out)
    (fin : ∀ (D : Addr) (H' : Hp), H D = none → Same H H' → H' D = some (.lst ((List.range xs.length).filterMap out)) → Q (.ref D) H') : tLc (iTup K tl) g tt te vs σ H Q :=
  h0 _ ⟨p, rfl, ⟨_, hp⟩, fun D hD => lc_tup (xs := xs) (fun i Hi => Same H Hi ∧ Hi D = some (.lst ((List.range i).filterMap out))) ⟨Same.new hD, upd_same⟩ (fun _ _ _ hP => Same.sqt hP.1 hp) (lc_keep hl turn hD) (fun Hi hP => fin D Hi hD hP.1 hP.2)⟩
theorem lcw_seq (h0 : ∀ R : VK, R (.ref p) H → tl σ H R) (hp : SqL K H p xs ∨ SqT K H p xs) (hl : xs.length ≤ 10000) {out : Nat → Option V} (turn : LcTurn xs H g tt te vs σ out)
    (fin : ∀ (D : Addr) (H' : Hp), H D = none → Same H H' → H' D = some (.lst ((List.range xs.length).filterMap out)) → Q (.ref D) H') : tLc (iSeq K tl) g tt te vs σ H Q :=
  hp.elim (fun h => .inl (lcw_list h0 h hl turn fin)) (fun h => .inr (lcw_tup h0 h hl turn fin))
/-- what is put out, by a list beside -/
theorem out_map {α β : Type} {l : List α} {f : α → β} : (List.range l.length).filterMap (fun i => (l[i]?).map f) = l.map f := by
  induction l with
  | nil => rfl
  | cons a l ih =>
    rw [List.length_cons, List.range_succ_eq_map, List.filterMap_cons]
    simp only [List.getElem?_cons_zero, Option.map_some, List.filterMap_map, List.map_cons]
    congr 1
theorem out_filter {α β : Type} {l : List α} {f : α → Option β} : (List.range l.length).filterMap (fun i => (l[i]?).bind f) = l.filterMap f := by
  induction l with
  | nil => rfl
  | cons a l ih =>
    have e : (List.range l.length).filterMap ((fun i => ((a :: l)[i]?).bind f) ∘ Nat.succ) = l.filterMap f := by
      rw [← ih]
      rfl
    rw [List.length_cons, List.range_succ_eq_map, List.filterMap_cons, List.filterMap_map, e, List.filterMap_cons]
    rfl
/-- one turn of a walk whose body goes on with Pv -/
def ForTurn (xs : List V) (g : TG) (tb : TS) (D : Ends) (Pv : Nat → L2.St → Hp → Prop) : Prop :=
  ∀ (i : Nat) (x : V) (σ : L2.St) (H : Hp), xs[i]? = some x → Pv i σ H → g x σ H fun σ2 H2 => tb { D with nx := Pv (i + 1), ct := Pv (i + 1), bk := D.nx } σ2 H2
theorem forw_list {tb : TS} {D : Ends} (h0 : ∀ R : VK, R (.ref p) H → tl σ H R) (hp : SqL K H p xs) (Pv : Nat → L2.St → Hp → Prop) (P0 : Pv 0 σ H) (hl : ∀ i σ' H', Pv i σ' H' → SqL K H' p xs) (turn : ForTurn xs g tb D Pv)
    (fin : ∀ σ' H', Pv xs.length σ' H' → D.nx σ' H') : tFor (iList K tl) g tb D σ H :=
  h0 _ ⟨p, rfl, ⟨_, hp⟩, for_list (xs := xs) Pv P0 (fun i σ' H' _ hP => hl i σ' H' hP) turn fin⟩
theorem forw_tup {tb : TS} {D : Ends} (h0 : ∀ R : VK, R (.ref p) H → tl σ H R) (hp : SqT K H p xs) (Pv : Nat → L2.St → Hp → Prop) (P0 : Pv 0 σ H) (hl : ∀ i σ' H', Pv i σ' H' → SqT K H' p xs) (turn : ForTurn xs g tb D Pv)
    (fin : ∀ σ' H', Pv xs.length σ' H' → D.nx σ' H') : tFor (iTup K tl) g tb D σ H :=
  h0 _ ⟨p, rfl, ⟨_, hp⟩, for_tup (xs := xs) Pv P0 (fun i σ' H' _ hP => hl i σ' H' hP) turn fin⟩
theorem forw_seq {tb : TS} {D : Ends} {H0 : Hp} (h0 : ∀ R : VK, R (.ref p) H → tl σ H R) (hp : SqL K H0 p xs ∨ SqT K H0 p xs) (Pv : Nat → L2.St → Hp → Prop) (P0 : Pv 0 σ H) (hl : ∀ i σ' H', Pv i σ' H' → Same H0 H') (turn : ForTurn xs g tb D Pv)
    (fin : ∀ σ' H', Pv xs.length σ' H' → D.nx σ' H') : tFor (iSeq K tl) g tb D σ H :=
  hp.elim (fun h => .inl (forw_list h0 ((hl 0 σ H P0).seq h) Pv P0 (fun i σ' H' hP => (hl i σ' H' hP).seq h) turn fin)) (fun h => .inr (forw_tup h0 (Same.sqt (hl 0 σ H P0) h) Pv P0 (fun i σ' H' hP => Same.sqt (hl i σ' H' hP) h) turn fin))
theorem keep_seq {K : PySem.W.Frag} {H H' : Hp} {p : Addr} {xs : List V} (s : Same H H') : (SqL K H p xs → SqL K H' p xs) ∧ (SqT K H p xs → SqT K H' p xs) := ⟨fun h => s.seq h, fun h => Same.sqt s h⟩
/-- [e for x in xs for y in x.ys if ..]: the walk over both, told by the two turns -/
theorem lc2_walk {J : It} {n : Nat} {G : Hp → Prop} (wk : Walk J n G (YAt xs)) (hn : n = xs.length) {k k1 : Nat} {te1 : TE} {tt1 : TT} {vs1 : List Nat} {D : Addr} (Pv : Nat → Nat → Hp → Prop) (P0 : Pv 0 0 (upd H D (.lst []))) (keep : ∀ i Hi, Pv i 0 Hi → G Hi)
    (hw : ∀ x, wipe ((wipe σ vs).set k (some x)) vs = wipe σ vs)
    (inner : ∀ (i : Nat) (x : V) (Hi : Hp), xs[i]? = some x → Pv i 0 Hi → ∃ (a : Addr) (ys : List V), (∀ R : VK, R (.ref a) Hi → te1 ((wipe σ vs).set k (some x)) Hi R) ∧ (∀ j Hj, Pv i j Hj → SqT K Hj a ys) ∧ (∀ Hj, Pv i ys.length Hj → Pv (i + 1) 0 Hj) ∧
      ∀ (j : Nat) (y : V) (Hj : Hp), ys[j]? = some y → Pv i j Hj → wipe ((wipe ((wipe σ vs).set k (some x)) vs1).set k1 (some y)) vs1 = wipe ((wipe σ vs).set k (some x)) vs1 ∧
        tt1 ((wipe ((wipe σ vs).set k (some x)) vs1).set k1 (some y)) Hj fun b H6 => if b = true then te ((wipe ((wipe σ vs).set k (some x)) vs1).set k1 (some y)) H6 fun z H7 => ∃ acc, H7 D = some (.lst acc) ∧ acc.length < sizeLine ∧ Pv i (j + 1) (upd H7 D (.lst (acc ++ [z]))) else Pv i (j + 1) H6)
    (fin : ∀ Hi, Pv n 0 Hi → Q (.ref D) Hi) :
    ∃ W : Nat → Nat → Hp → Prop, (∃ m, W 0 m (upd H D (.lst []))) ∧ ∀ i m H, W i m H →
      (J.stop i H ∧ Q (.ref D) H) ∨ (J.go i H ∧ ∃ Nx : Hp → Prop, (∀ H', Nx H' → ∃ m', m' < m ∧ W (i + 1) m' H') ∧ ∀ x H', J.yld i H x H' → gName k x (wipe σ vs) H' fun σ2 H2 => wipe σ2 vs = wipe σ vs ∧ tYes σ2 H2 fun b H3 =>
        if b = true then iTup K te1 σ2 H3 fun J1 H4 => ∃ W1 : Nat → Nat → Hp → Prop, (∃ m, W1 0 m H4) ∧ ∀ j k H, W1 j k H →
          (J1.stop j H ∧ Nx H) ∨ (J1.go j H ∧ ∃ Nx1 : Hp → Prop, (∀ H', Nx1 H' → ∃ k', k' < k ∧ W1 (j + 1) k' H') ∧ ∀ x H', J1.yld j H x H' → gName k1 x (wipe σ2 vs1) H' fun σ3 H5 => wipe σ3 vs1 = wipe σ2 vs1 ∧ tt1 σ3 H5 fun b H6 =>
            if b = true then te σ3 H6 fun y H7 => ∃ acc, H7 D = some (.lst acc) ∧ acc.length < sizeLine ∧ Nx1 (upd H7 D (.lst (acc ++ [y]))) else Nx1 H6)
        else Nx H3) := by
  refine ⟨fun i m Hi => m = n - i ∧ i ≤ n ∧ Pv i 0 Hi, ⟨n, by simp, Nat.zero_le _, P0⟩, ?_⟩
  rintro i m Hi ⟨rfl, hi, pv⟩
  by_cases lt : i < n
  · refine .inr ⟨wk.goes i Hi lt (keep i Hi pv), Pv (i + 1) 0, fun H' p' => ⟨n - (i + 1), by omega, rfl, lt, p'⟩, fun x H' y => ?_⟩
    obtain ⟨rfl, hx⟩ := wk.yields i Hi x H' lt (keep i Hi pv) y
    obtain ⟨a, ys, h1, h2, h3, h4⟩ := inner i x _ hx pv
    refine ⟨hw x, ?_⟩
    unfold tYes
    refine iteT ?_
    unfold iTup
    refine h1 _ ⟨a, rfl, ⟨ys, h2 0 _ pv⟩, fun j m Hj => m = ys.length - j ∧ j ≤ ys.length ∧ Pv i j Hj, ⟨ys.length, by simp, Nat.zero_le _, pv⟩, ?_⟩
    rintro j m Hj ⟨rfl, hj, pj⟩
    have wt : Walk (Itt K a) ys.length (fun H => SqT K H a ys) (YAt ys) := walk_tup
    by_cases lj : j < ys.length
    · refine .inr ⟨wt.goes j Hj lj (h2 j Hj pj), Pv i (j + 1), fun H' p' => ⟨ys.length - (j + 1), by omega, rfl, lj, p'⟩, fun y H' yy => ?_⟩
      obtain ⟨rfl, hy⟩ := wt.yields j Hj y H' lj (h2 j Hj pj) yy
      exact h4 j y _ hy pj
    · obtain rfl : j = ys.length := by omega
      exact .inl ⟨wt.stops Hj (h2 _ Hj pj), h3 Hj pj⟩
  · obtain rfl : i = n := by omega
    exact .inl ⟨wk.stops Hi (keep _ Hi pv), fin Hi pv⟩
end
end Pn

namespace Pn
open PySem L2 TL
abbrev sIsPair : Stmt := top 8
abbrev sAreC : Stmt := top 35
abbrev sAreP : Stmt := top 36
abbrev sCKnown : Stmt := top 37
abbrev sNPut : Stmt := top 38
abbrev sPEarly : Stmt := top 39
abbrev sNReach : Stmt := top 40
abbrev sUnr1 : Stmt := top 41
abbrev sUText : Stmt := top 42
abbrev sRefsK : Stmt := top 43
theorem eqV_str {a b : Str} : eqV (.str a) (.str b) = decide (a = b) := by
  show decide (a = b) = _
  rfl
theorem inV_strs {x : Str} : ∀ {l : List Str}, inV (.str x) (l.map V.str) = decide (x ∈ l)
  | [] => by simp [inV]
  | y :: l => by
    have ih := inV_strs (x := x) (l := l)
    unfold inV at ih ⊢
    rw [List.map_cons, List.any_cons, ih, eqV_str]
    by_cases h : y = x
    · subst h; simp
    · have h2 : ¬ x = y := fun z => h z.symm
      simp [h, h2]
theorem flat_strs : ∀ {l : List Str}, (l.map V.str).all flatV = true
  | [] => rfl
  | _ :: l => flat_strs (l := l)
section
variable {P : Program} {w : World} {K : PySem.W.Frag} {mg : Str → Option Value} {base : Heap}
def cwV : List V := [.str "note", .str "skip", .str "set", .str "keep", .str "back"]
structure TBks {K : PySem.W.Frag} {mg : Str → Option Value} {R : TRows K mg} (T : TPart R) : Type where
  mSet : mg "set" = none
  mRev : mg "reversed" = none
  cw : Addr
  mCW : mg "COUNTING_WORDS" = some (.ref cw)
  hCW : ∀ H, SqT K H cw cwV
  isPair : At K mg "is_pair" sIsPair ["value"]
  areC : At K mg "are_counters" sAreC ["counters"]
  areP : At K mg "are_parts" sAreP ["parts"]
  cKnown : At K mg "counters_are_known" sCKnown ["counters", "parts"]
  nPut : At K mg "names_put" sNPut ["part"]
  pEarly : At K mg "puts_are_earlier" sPEarly ["parts"]
  nReach : At K mg "names_reached" sNReach ["parts"]
  unroll : At K mg "unroll" sUnr1 ["part", "flat"]
  uText : At K mg "unrolled_text" sUText ["parts"]
  refsK : At K mg "refs_are_known" sRefsK ["rows"]
/-- a list or a tuple -/
def Sq (K : PySem.W.Frag) (H : Hp) (p : Addr) (xs : List V) : Prop := SqL K H p xs ∨ SqT K H p xs
theorem Sq.same {H H' : Hp} {p : Addr} {xs : List V} (h : Sq K H p xs) (s : Same H H') : Sq K H' p xs := h.elim (fun h => .inl (s.seq h)) (fun h => .inr (Same.sqt s h))
def CsArg (K : PySem.W.Frag) (H : Hp) (cu : V) (cs : List (Str × Str)) : Prop := ∃ p ts, cu = .ref p ∧ Sq K H p (ts.map V.ref) ∧ Paired (fun t (c : Str × Str) => SqT K H t [.str c.1, .str c.2]) ts cs
theorem CsArg.same {H H' : Hp} {cu : V} {cs : List (Str × Str)} (h : CsArg K H cu cs) (s : Same H H') : CsArg K H' cu cs := by
  obtain ⟨p, ts, e, h1, h2⟩ := h
  exact ⟨p, ts, e, h1.same s, paired_mono (fun _ _ z => Same.sqt s z) h2⟩
def PtsArg {R : TRows K mg} (T : TPart R) (H : Hp) (pu : V) (bk : List PartD) : Prop := ∃ p ps, pu = .ref p ∧ Sq K H p (ps.map V.ref) ∧ Paired (fun a (q : PartD) => PtAt T H a q.1 q.2) ps bk
theorem PtsArg.same {R : TRows K mg} {T : TPart R} {H H' : Hp} {pu : V} {bk : List PartD} (h : PtsArg T H pu bk) (s : Same H H') : PtsArg T H' pu bk := by
  obtain ⟨p, ps, e, h1, h2⟩ := h
  exact ⟨p, ps, e, h1.same s, paired_mono (fun _ _ z => z.same s) h2⟩
theorem seq_kind {H : Hp} {p : Addr} {xs : List V} (h : Sq K H p xs) : ∃ t, PySem.W.kitAny K t [.type "list", .type "tuple"] = some true ∧ TyX K H (.ref p) t ∧ ∀ H', Same H H' → TyX K H' (.ref p) t := by
  rcases h with hp | hp
  · exact ⟨_, kit_two (by decide +kernel : kitB "list" "list" = some true) (by decide +kernel : kitB "list" "tuple" = some false), sql_ty hp, fun H' s' => sql_ty (s'.seq hp)⟩
  · exact ⟨_, kit_two (by decide +kernel : kitB "tuple" "list" = some false) (by decide +kernel : kitB "tuple" "tuple" = some true), sqt_ty hp, fun H' s' => sqt_ty (Same.sqt s' hp)⟩
def spIsPairT (K : PySem.W.Frag) : Sp := fun vs H Q _ => ∃ (t : Addr) (a b : V), vs = [.ref t] ∧ SqT K H t [a, b] ∧ Q (.bl true) H
theorem scIsPair : FnScope ["value"] ["value"] (defScope sIsPair) := ⟨rfl, rfl, rfl, by decide +kernel, rfl, by decide +kernel, by decide +kernel⟩
theorem ok_isPair {R : TRows K mg} {T : TPart R} (B : TBks T) : FnOk P w K mg base CX0 1 B.isPair.f B.isPair.fd ["value"] (spIsPairT K) := by
  refine B.isPair.F.ok scIsPair (fun vs H Q E h => ?_) (fun cdv A outer s H vs Q E hr h => ?_)
  · obtain ⟨t, a, b, rfl, _⟩ := h
    rfl
  · obtain ⟨t, a, b, rfl, ht, q⟩ := h
    refine ⟨_, pss_one (ps_ret (pe_and (pe_callB call_isi (by rfl) R.N.mIsi (by decide +kernel) (pa_cons (pv 0) (pa_cons (pe_bltn (v := .ty "tuple") (by rfl) T.mTup (by decide +kernel) rfl) pa_nil)))
      (pe_one (pe_cmpR op_eq (pe_callB call_len_seq (by rfl) R.N.mLen PySem.boot_len (pa_cons (pv 0) pa_nil)) pe_int (nomark _))))), ?_⟩
    refine ⟨_, rfl, .ref t, .ty "tuple", _, _, true, rfl, .ty _, sqt_ty ht, kit_ty (by decide +kernel : kitB "tuple" "tuple" = some true), _, rfl, iteT ?_⟩
    exact ⟨_, rfl, t, _, rfl, .inr ht, rfl, q⟩
def spAreC (K : PySem.W.Frag) : Sp := fun vs H Q _ => ∃ (cu : V) (cs : List (Str × Str)), vs = [cu] ∧ CsArg K H cu cs ∧ CsOk cs ∧ ∀ H', Same H H' → Q (.bl true) H'
theorem scAreC : FnScope ["counters", "earlier", "pair"] ["counters"] (defScope sAreC) := ⟨rfl, rfl, rfl, by decide +kernel, rfl, by decide +kernel, by decide +kernel⟩
theorem ok_areC {R : TRows K mg} {T : TPart R} (B : TBks T) : FnOk P w K mg base CX0 2 B.areC.f B.areC.fd ["counters"] (spAreC K) := by
  refine B.areC.F.ok scAreC (fun vs H Q E h => ?_) (fun cdv A outer s H vs Q E hr h => ?_)
  · obtain ⟨cu, cs, rfl, _⟩ := h
    rfl
  · obtain ⟨cu, cs, rfl, ⟨p, ts, rfl, hp, hpd⟩, ok, q⟩ := h
    refine ⟨_, pss_cons (ps_if (pt_not (pt_val (pe_call (ok_isSeq T.isSeq.F R.N.mIsi T.mList T.mTup) (hr.mono (by decide)) rfl T.isSeq.m T.isSeq.F.kp T.isSeq.b .nil pass0 (pa_cons (pv 0) pa_nil)))) (pss_one (ps_ret pe_bl)) pss_nil)
      (pss_cons (ps_set (i := 1) scAreC.nd rfl (Or.inl rfl) (pe_lst pa_nil))
      (pss_cons (ps_for PassesOwn.never rfl (pi_seq (pv 0)) (pg_name (i := 2) scAreC.nd rfl (Or.inl rfl))
        (pss_cons (ps_if (PW.pt (pw_or (pt_not (pt_val (pe_call (ok_isPair B) (hr.mono (by decide)) rfl B.isPair.m B.isPair.F.kp B.isPair.b .nil pass0 (pa_cons (pv 2) pa_nil))))
            (pw_or (pt_not (pt_val (pe_call R.N.okName (hr.mono (by decide)) rfl R.N.isName.m R.N.isName.F.kp R.N.isName.b .nil pass0 (pa_cons (pe_ix ix_tup (pv 2) pe_int (fun _ _ => rfl)) pa_nil))))
              (pw_or1 (pt_cmpR op_in_seq (pe_ix ix_tup (pv 2) pe_int (fun _ _ => rfl)) (pv 1) rfl))))) (pss_one (ps_ret pe_bl)) pss_nil)
        (pss_cons (ps_if (PW.pt (pw_and (pt_cmpR op_ne (pe_ix ix_tup (pv 2) pe_int (fun _ _ => rfl)) pe_str (nomark _)) (pw_and1 (pt_cmpR op_notIn_seq (pe_ix ix_tup (pv 2) pe_int (fun _ _ => rfl)) (pv 1) rfl)))) (pss_one (ps_ret pe_bl)) pss_nil)
        (pss_one (ps_expr (pe_bm PySem.F.plainAttrs_list PySem.F.slot_list_append PySem.F.type_list_append mt_append (pv 1) (pa_cons (pe_ix ix_tup (pv 2) pe_int (fun _ _ => rfl)) pa_nil)))))))
      (pss_one (ps_ret pe_bl)))), ?_⟩
    obtain ⟨t0, hk, ht1, ht2⟩ := seq_kind hp
    refine ⟨_, rfl, _, t0, true, rfl, ht1, hk, ht2, fun H1 s1 m1 => ⟨true, rfl, iteF ?_⟩⟩
    refine ⟨Nat.zero_le _, fun F hF => ?_⟩
    have hp2 := (hp.same s1).same (Same.new (o := .lst []) hF)
    have hpd2 := paired_mono (fun _ _ z => Same.sqt (s1.trans (Same.new (o := .lst []) hF)) z) hpd
    have sH := s1.trans (Same.new (o := .lst []) hF)
    have hFn : H F = none := s1.free hF
    have hF2 : upd H1 F (.lst []) F = some (.lst []) := upd_same
    generalize upd H1 F (.lst []) = H2 at hp2 hpd2 sH hF2 ⊢
    have htl : ts.length = cs.length := paired_len hpd
    have big : (1001 : Nat) ≤ sizeLine := by decide
    have hcl := ok.len
    refine hp.elim (fun h3 => .inl ⟨_, rfl, p, rfl, ⟨_, sH.seq h3⟩, for_list (xs := ts.map V.ref) (fun i σ Hi => ∃ x2, σ = [some (.ref p), some (.ref F), x2] ∧ Same H Hi ∧ Hi F = some (.lst (((cs.take i).map (·.1)).map V.str))) ⟨_, rfl, sH, hF2⟩ (fun i σ Hi _ hP => by obtain ⟨_, _, s, _⟩ := hP; exact s.seq h3) (fun i x σ Hi hx hP => ?turn) (fun σ Hi hP => ?done)⟩)
      (fun h3 => .inr ⟨_, rfl, p, rfl, ⟨_, Same.sqt sH h3⟩, for_tup (xs := ts.map V.ref) (fun i σ Hi => ∃ x2, σ = [some (.ref p), some (.ref F), x2] ∧ Same H Hi ∧ Hi F = some (.lst (((cs.take i).map (·.1)).map V.str))) ⟨_, rfl, sH, hF2⟩ (fun i σ Hi _ hP => by obtain ⟨_, _, s, _⟩ := hP; exact Same.sqt s h3) (fun i x σ Hi hx hP => ?turn2) (fun σ Hi hP => ?done2)⟩)
    case done | done2 =>
      obtain ⟨_, rfl, s3, _⟩ := hP
      exact q _ s3
    case turn | turn2 =>
      obtain ⟨_, rfl, s3, hFi⟩ := hP
      rw [List.getElem?_map] at hx
      cases hxi : ts[i]? with
      | none => rw [hxi] at hx; cases hx
      | some t =>
      rw [hxi] at hx
      cases hx
      obtain ⟨c, hc, ht⟩ := paired_at hpd hxi
      have ht3 := Same.sqt s3 ht
      have hcm := List.mem_of_getElem? hc
      have hnm := ok.nm c hcm
      have hi : i < cs.length := (List.getElem?_eq_some_iff.mp hc).1
      have hnew : c.1 ∉ (cs.take i).map (·.1) := fun z => by
        have e : (cs.map (·.1)) = (cs.take i).map (·.1) ++ (cs.drop i).map (·.1) := by rw [← List.map_append, List.take_append_drop]
        have nd := ok.nd
        rw [e] at nd
        refine (List.nodup_append.mp nd).2.2 _ z c.1 (List.mem_map.mpr ⟨c, ?_, rfl⟩) rfl
        exact List.mem_of_getElem? (i := 0) (by rw [List.getElem?_drop]; simpa using hc)
      refine ⟨_, rfl, t, _, _, rfl, ht3, true, rfl, iteF ?_⟩
      refine ⟨_, rfl, t, _, _, .str c.1, rfl, rfl, ht3, rfl, .str c.1, .str c.1, rfl, .str _, Nat.le_trans (name_ok hnm).2 (by decide), fun H4 s4 m4 => ⟨nameS c.1, rfl, ?_⟩⟩
      rw [hnm]
      refine iteF ?_
      have ht4 := Same.sqt s4 ht3
      have hF4 := s4 _ _ hFi
      refine ⟨_, rfl, t, _, _, .str c.1, rfl, rfl, ht4, rfl, _, rfl, F, _, rfl, .inl (SqL.of hF4), rfl, flat_strs, ?_⟩
      refine ⟨_, rfl, iteFD (by show inV (.str c.1) _ = false; rw [inV_strs]; exact decide_eq_false hnew) ?_⟩
      unfold tNext
      try dsimp only
      refine stepNo (fun Hx => Hx = H4) (fun Q' hQ => ?_) (fun Hx hx => ?_)
      · refine ⟨_, rfl, t, _, _, .str c.2, rfl, rfl, ht4, rfl, rfl, _, rfl, ?_⟩
        by_cases hc2 : c.2 = ""
        · refine iteFD (by rw [hc2]; decide +kernel) ?_
          exact hQ _ rfl
        · refine iteTD (by rw [Bool.not_eq_true', decide_eq_false_iff_not]; exact fun z => hc2 (V.str.inj z)) ?_
          refine ⟨_, rfl, t, _, _, .str c.2, rfl, rfl, ht4, rfl, _, rfl, F, _, rfl, .inl (SqL.of hF4), rfl, flat_strs, _, rfl, ?_⟩
          have hup := (ok.up i c hc).resolve_left hc2
          have e : (!inV (.str c.2) (((cs.take i).map (·.1)).map V.str)) = false := by rw [inV_strs, decide_eq_true hup]; rfl
          show Q' (!inV (.str c.2) (((cs.take i).map (·.1)).map V.str)) H4
          rw [e]
          exact hQ _ rfl
      · subst hx
        refine ⟨_, rfl, .inl ⟨rfl, _, SqL.of hF4⟩, _, rfl, t, _, _, .str c.1, rfl, rfl, ht4, rfl, F, _, _, rfl, rfl, hF4, ?_, ?_⟩
        · rw [List.length_map, List.length_map, List.length_take]
          omega
        · refine ⟨_, rfl, Same.updn (s3.trans s4) hFn, ?_⟩
          rw [upd_same, List.take_add_one, hc, List.map_append, List.map_append]
          rfl
/-! ### parts -/
theorem part_attr {R : TRows K mg} {T : TPart R} {H : Hp} {a : Addr} {q : PartD} (h : PtAt T H a q.1 q.2) : ∃ dx tp us, H a = some (insPart T.C dx (.str q.1) (.ref tp)) ∧ SqT K H tp (us.map V.ref) ∧ RowsIn R H us q.2 := h
def spAreP {R : TRows K mg} (T : TPart R) : Sp := fun vs H Q _ => ∃ (pu : V) (bk : List PartD), vs = [pu] ∧ PtsArg T H pu bk ∧ bk ≠ [] ∧ (bk.map (·.1)).Nodup ∧ bk.length ≤ 50 ∧ ∀ H', Same H H' → Q (.bl true) H'
theorem scAreP : FnScope ["parts", "part"] ["parts"] (defScope sAreP) := ⟨rfl, rfl, rfl, by decide +kernel, rfl, by decide +kernel, by decide +kernel⟩
theorem all_tt {α : Type} (l : List α) : (l.map fun _ => true).all id = true := by
  induction l with
  | nil => rfl
  | cons _ _ ih => exact ih
theorem uniq_of_nodup {l : List Str} (h : l.Nodup) : (uniq l).length = l.length := by
  have p : l.Perm (uniq l) := perm_of_sup h (fun k hk => (uniq_has l k).mpr hk) (uniq_len l)
  exact p.length_eq.symm
theorem ok_areP {R : TRows K mg} {T : TPart R} (B : TBks T) : FnOk P w K mg base CX0 2 B.areP.f B.areP.fd ["parts"] (spAreP T) := by
  refine B.areP.F.ok scAreP (fun vs H Q E h => ?_) (fun cdv A outer s H vs Q E hr h => ?_)
  · obtain ⟨pu, bk, rfl, _⟩ := h
    rfl
  · obtain ⟨pu, bk, rfl, ⟨p, ps, rfl, hp, hpd⟩, hne, hnd, hlen, q⟩ := h
    refine ⟨_, pss_cons (ps_if (PW.pt (pw_or (pt_not (pt_val (pe_call (ok_isSeq T.isSeq.F R.N.mIsi T.mList T.mTup) (hr.mono (by decide)) rfl T.isSeq.m T.isSeq.F.kp T.isSeq.b .nil pass0 (pa_cons (pv 0) pa_nil))))
          (pw_or1 (pt_not (pt_val (pe_callB (cr_all rfl) (by rfl) R.N.mAll (by decide +kernel) (pa_cons (pe_lc (own := [("part", 1)]) (g := gName 1) (tt := tYes) (by rfl) scAreP.nd (pi_seq (pv 0))
            (blkOk_by (N := ["parts", "part"]) (sc := defScope sAreP) (by decide +kernel)) (fun _ _ _ _ _ => pg_name (i := 1) scAreP.nd rfl (Or.inl rfl)) (fun _ _ _ _ _ => pts_nil)
            (fun _ _ _ _ _ => pe_callB (show CallR _ (.builtin "isinstance") (rIsi K) from call_isi) (by rfl) R.N.mIsi (by decide +kernel) (pa_cons (pv 1) (pa_cons (pe_glob (v := .ref T.C) (by rfl) T.mC rfl) pa_nil)))) pa_nil)))))))
        (pss_one (ps_ret pe_bl)) pss_nil)
      (pss_one (ps_ret (pe_chain op_lt op_eq pe_int (pe_callB call_len_seq (by rfl) R.N.mLen PySem.boot_len (pa_cons (pv 0) pa_nil))
        (pe_callB cr_lenX (by rfl) R.N.mLen PySem.boot_len (pa_cons (pe_callTy (cr_setX rfl) (by rfl) B.mSet (by decide +kernel) (pa_cons (pe_lc (own := [("part", 1)]) (g := gName 1) (tt := tYes) (by rfl) scAreP.nd (pi_seq (pv 0))
            (blkOk_by (N := ["parts", "part"]) (sc := defScope sAreP) (by decide +kernel)) (fun _ _ _ _ _ => pg_name (i := 1) scAreP.nd rfl (Or.inl rfl)) (fun _ _ _ _ _ => pts_nil)
            (fun _ _ _ _ _ => (show PE _ _ (tFld K (tVar 1) "name") from pe_fld (pv 1) rfl))) pa_nil)) pa_nil))))), ?_⟩
    obtain ⟨t0, hk, ht1, ht2⟩ := seq_kind hp
    refine ⟨_, rfl, _, t0, true, rfl, ht1, hk, ht2, fun H1 s1 m1 => ⟨true, rfl, iteF ?_⟩⟩
    have hpl : ps.length = bk.length := paired_len hpd
    have big : (1001 : Nat) ≤ sizeLine := by decide
    have hp1 := hp.same s1
    have hpd1 := paired_mono (fun _ _ z => PtAt.same z s1) hpd
    unfold tNot tB tCB tCons
    refine lcw_seq (fun R r => ⟨_, rfl, r⟩) hp1 (by rw [List.length_map]; omega) (out := fun i => (ps[i]?).map fun _ => V.bl true) (fun i x Hi S Y hx si _ hY => ?_) (fun D H2 hD s2 hD2 => ?_)
    · rw [List.getElem?_map] at hx
      cases hxi : ps[i]? with
      | none => rw [hxi] at hx; cases hx
      | some a =>
      rw [hxi] at hx
      cases hx
      obtain ⟨qq, hq, hpt⟩ := paired_at hpd1 hxi
      obtain ⟨dx, tp, us, ha, _, _⟩ := hpt.same si
      refine ⟨rfl, _, rfl, .ref a, .ref T.C, _, _, true, rfl, .own _, .base (.ins ha T.cl T.pA T.cN T.cT T.pM), T.kC, ?_⟩
      exact hY _ (by show (ps[i]?).map _ = _; rw [hxi]; rfl) _ (Same.refl _)
    · rw [List.length_map, out_map] at hD2
      refine ⟨D, ps.map fun _ => true, rfl, SqL.of (by rw [hD2, List.map_map]; rfl), ?_⟩
      rw [all_tt]
      refine ⟨true, rfl, iteF ?_⟩
      have hp2 := hp1.same s2
      have hpd2 := paired_mono (fun _ _ z => PtAt.same z s2) hpd1
      refine ⟨_, rfl, p, _, rfl, hp2, _, _, rfl, rfl, true, ?_, iteT ?_⟩
      · rw [List.length_map, hpl]
        have : 0 < bk.length := List.length_pos_iff.mpr hne
        show V.bl (decide ((0 : Int) < (bk.length : Int))) = V.bl true
        rw [decide_eq_true (by omega)]
      show tLc (iSeq K (tVar 0)) (gName 1) tYes (tFld K (tVar 1) "name") [1] _ H2 _
      refine lcw_seq (fun R r => ⟨_, rfl, r⟩) hp2 (by rw [List.length_map]; omega) (out := fun i => (bk[i]?).map fun q => V.str q.1) (fun i x Hi S Y hx si _ hY => ?_) (fun D3 H3 hD3 s3 hD4 => ?_)
      · rw [List.getElem?_map] at hx
        cases hxi : ps[i]? with
        | none => rw [hxi] at hx; cases hx
        | some a =>
        rw [hxi] at hx
        cases hx
        obtain ⟨qq, hq, hpt⟩ := paired_at hpd2 hxi
        obtain ⟨dx, tp, us, ha, _, _⟩ := hpt.same si
        refine ⟨rfl, _, rfl, a, T.C, dx, _, .str qq.1, rfl, ha, T.cl, T.noN, part_name, ?_⟩
        exact hY _ (by show (bk[i]?).map _ = _; rw [hq]; rfl) _ (Same.refl _)
      · rw [List.length_map, hpl, out_map] at hD4
        refine ⟨D3, bk.map (·.1), rfl, SqL.of (by rw [hD4, List.map_map]; rfl), by rw [List.length_map]; omega, fun S hS => ?_⟩
        have hul := uniq_of_nodup hnd
        refine ⟨S, uniq (bk.map (·.1)), rfl, upd_same, by rw [hul, List.length_map]; omega, ?_⟩
        rw [hul, List.length_map, List.length_map, hpl]
        refine ⟨rfl, ?_⟩
        rw [decide_eq_true rfl]
        exact q _ (((s1.trans s2).trans s3).trans (Same.new hS))
end
end Pn

namespace Pn
open PySem L2 TL
section
variable {P : Program} {w : World} {K : PySem.W.Frag} {mg : Str → Option Value} {base : Heap}
/-! ### the attributes of rows -/
def Attr (R : TRows K mg) (H : Hp) (a : Addr) (r : RowD) (f : Str) (v : V) : Prop := ∃ dx fs, H a = some (.ins (clsOf R r) dx fs) ∧ Cls K (clsOf R r) ∧ NoAttr K (clsOf R r) f ∧ fs.lookup f = some v
theorem at_counter (T : TRows K mg) {H : Hp} {a : Addr} {r : RowD} {c : Str} (h : RowAt T H a r) (e : cntOf r = some c) : Attr T H a r "counter" (.str c) := by
  obtain ⟨dx, ha⟩ := h
  cases r with
  | note _ _ => cases e; exact ⟨dx, _, ha, T.note.cl, T.note.noC, by rw [lookup_putF, if_neg (by decide +kernel), lookup_putF, if_pos rfl]⟩
  | skip _ _ => cases e; exact ⟨dx, _, ha, T.skip.cl, T.skip.noC, by rw [lookup_putF, if_neg (by decide +kernel), lookup_putF, if_pos rfl]⟩
  | set _ _ => cases e; exact ⟨dx, _, ha, T.set.cl, T.set.noC, by rw [lookup_putF, if_neg (by decide +kernel), lookup_putF, if_pos rfl]⟩
  | keep _ => cases e; exact ⟨dx, _, ha, T.keep.cl, T.keep.noF, by rw [lookup_putF, if_pos rfl]⟩
  | back _ => cases e; exact ⟨dx, _, ha, T.back.cl, T.back.noF, by rw [lookup_putF, if_pos rfl]⟩
  | ref _ => cases e
  | put _ => cases e
  | opn _ => cases e
theorem at_part (T : TRows K mg) {H : Hp} {a : Addr} {z : Str} (h : RowAt T H a (.put z)) : Attr T H a (.put z) "part" (.str z) := by
  obtain ⟨dx, ha⟩ := h
  exact ⟨dx, _, ha, T.put.cl, T.put.noF, by rw [lookup_putF, if_pos rfl]⟩
theorem at_name (T : TRows K mg) {H : Hp} {a : Addr} {z : Str} (h : RowAt T H a (.opn z)) : Attr T H a (.opn z) "name" (.str z) := by
  obtain ⟨dx, ha⟩ := h
  exact ⟨dx, _, ha, T.open_.cl, T.open_.noF, by rw [lookup_putF, if_pos rfl]⟩
theorem at_reflab (T : TRows K mg) {H : Hp} {a : Addr} {z : Str} (h : RowAt T H a (.ref z)) : Attr T H a (.ref z) "label" (.str z) := by
  obtain ⟨dx, ha⟩ := h
  exact ⟨dx, _, ha, T.ref.cl, T.ref.noF, by rw [lookup_putF, if_pos rfl]⟩
theorem at_notelab (T : TRows K mg) {H : Hp} {a : Addr} {c z : Str} (h : RowAt T H a (.note c z)) : Attr T H a (.note c z) "label" (.str z) := by
  obtain ⟨dx, ha⟩ := h
  exact ⟨dx, _, ha, T.note.cl, T.note.noL, by rw [lookup_putF, if_pos rfl]⟩
theorem at_word (T : TRows K mg) {H : Hp} {a : Addr} {r : RowD} (h : RowAt T H a r) : Attr T H a r "word" (.str (rowWord r)) := row_word T h
theorem word_cnt (r : RowD) : inV (.str (rowWord r)) cwV = (cntOf r).isSome := by
  have e : cwV = (["note", "skip", "set", "keep", "back"] : List Str).map V.str := rfl
  rw [e, inV_strs]
  cases r with
  | note _ _ => exact (by decide +kernel : decide (("note" : Str) ∈ (["note", "skip", "set", "keep", "back"] : List Str)) = true)
  | skip _ _ => exact (by decide +kernel : decide (("skip" : Str) ∈ (["note", "skip", "set", "keep", "back"] : List Str)) = true)
  | set _ _ => exact (by decide +kernel : decide (("set" : Str) ∈ (["note", "skip", "set", "keep", "back"] : List Str)) = true)
  | keep _ => exact (by decide +kernel : decide (("keep" : Str) ∈ (["note", "skip", "set", "keep", "back"] : List Str)) = true)
  | back _ => exact (by decide +kernel : decide (("back" : Str) ∈ (["note", "skip", "set", "keep", "back"] : List Str)) = true)
  | ref _ => exact (by decide +kernel : decide (("ref" : Str) ∈ (["note", "skip", "set", "keep", "back"] : List Str)) = false)
  | put _ => exact (by decide +kernel : decide (("put" : Str) ∈ (["note", "skip", "set", "keep", "back"] : List Str)) = false)
  | opn _ => exact (by decide +kernel : decide (("open" : Str) ∈ (["note", "skip", "set", "keep", "back"] : List Str)) = false)
/-- a row as it stands, looked up in a list of rows -/
theorem rows_at {R : TRows K mg} {H : Hp} {us : List Addr} {rs : List RowD} (h : RowsIn R H us rs) {i : Nat} {x : V} (hx : (us.map V.ref)[i]? = some x) : ∃ u r, us[i]? = some u ∧ rs[i]? = some r ∧ x = .ref u ∧ RowAt R H u r := by
  rw [List.getElem?_map] at hx
  cases hu : us[i]? with
  | none => rw [hu] at hx; cases hx
  | some u =>
    rw [hu] at hx
    cases hx
    obtain ⟨r, hr, hrow⟩ := paired_at h hu
    exact ⟨u, r, rfl, hr, rfl, hrow⟩
/-! ### names_put -/
def putOf : RowD → Option Str
  | .put z => some z
  | _ => none
theorem puts_eq (rs : List RowD) : putsOf rs = rs.filterMap putOf := rfl
theorem put_word {r : RowD} : decide (V.str (rowWord r) = V.str "put") = (putOf r).isSome := by
  cases r <;> first | exact (by decide +kernel : decide (V.str "note" = V.str "put") = false) | exact (by decide +kernel : decide (V.str "skip" = V.str "put") = false) | exact (by decide +kernel : decide (V.str "set" = V.str "put") = false) | exact (by decide +kernel : decide (V.str "keep" = V.str "put") = false) | exact (by decide +kernel : decide (V.str "back" = V.str "put") = false) | exact (by decide +kernel : decide (V.str "ref" = V.str "put") = false) | exact (by decide +kernel : decide (V.str "put" = V.str "put") = true) | exact (by decide +kernel : decide (V.str "open" = V.str "put") = false)
def spNPut {R : TRows K mg} (T : TPart R) : Sp := fun vs H Q _ => ∃ (a : Addr) (q : PartD), vs = [.ref a] ∧ PtAt T H a q.1 q.2 ∧ q.2.length ≤ 100 ∧ ∀ (D : Addr) (H' : Hp), H D = none → Same H H' → H' D = some (.lst ((putsOf q.2).map V.str)) → Q (.ref D) H'
theorem scNPut : FnScope ["part", "row"] ["part"] (defScope sNPut) := ⟨rfl, rfl, rfl, by decide +kernel, rfl, by decide +kernel, by decide +kernel⟩
theorem ok_nPut {R : TRows K mg} {T : TPart R} (B : TBks T) : FnOk P w K mg base CX0 1 B.nPut.f B.nPut.fd ["part"] (spNPut T) := by
  refine B.nPut.F.ok scNPut (fun vs H Q E h => ?_) (fun cdv A outer s H vs Q E hr h => ?_)
  · obtain ⟨a, q, rfl, _⟩ := h
    rfl
  · obtain ⟨a, qq, rfl, ⟨dx, tp, us, ha, htp, hus⟩, hl, q⟩ := h
    refine ⟨_, pss_one (ps_ret (pe_lc (own := [("row", 1)]) (g := gName 1) (by rfl) scNPut.nd (pi_tup (pe_fld (pv 0) rfl))
      (blkOk_by (N := ["part", "row"]) (sc := defScope sNPut) (by decide +kernel)) (fun _ _ _ _ _ => pg_name (i := 1) scNPut.nd rfl (Or.inl rfl))
      (fun _ _ _ _ _ => pts_one (pt_cmpR op_eq (show PE _ _ (tFld K (tVar 1) "word") from pe_fld (pv 1) rfl) pe_str (nomark _))) (fun _ _ _ _ _ => (show PE _ _ (tFld K (tVar 1) "part") from pe_fld (pv 1) rfl)))), ?_⟩
    have hul : us.length = qq.2.length := paired_len hus
    refine lcw_tup (fun R r => ⟨_, rfl, a, T.C, dx, _, .ref tp, rfl, ha, T.cl, T.noR, part_rows, r⟩) htp (by rw [List.length_map]; omega) (out := fun i => (qq.2[i]?).bind fun r => (putOf r).map V.str) (fun i x Hi S Y hx si hS hY => ?_) (fun D H2 hD s2 hD2 => q D H2 hD s2 ?_)
    · obtain ⟨u, r, hu, hr2, rfl, hrow⟩ := rows_at hus hx
      obtain ⟨dw, fw, w1, w2, w3, w4⟩ := at_word R (hrow.same si)
      refine ⟨rfl, _, rfl, u, _, dw, fw, _, rfl, w1, w2, w3, w4, rfl, _, rfl, ?_⟩
      have hb : (qq.2[i]?).bind (fun r => (putOf r).map V.str) = (putOf r).map V.str := by rw [hr2]; rfl
      rw [put_word]
      cases hp : putOf r with
      | none =>
        refine iteF ?_
        exact hS (by rw [hp] at hb; exact hb) _ (Same.refl _)
      | some z =>
        refine iteT ?_
        obtain rfl : r = .put z := by
          cases r with
          | put y => cases hp; rfl
          | _ => cases hp
        obtain ⟨dp, fp, p1, p2, p3, p4⟩ := at_part R (hrow.same si)
        exact ⟨_, rfl, u, _, dp, fp, _, rfl, p1, p2, p3, p4, hY _ (by rw [hp] at hb; exact hb) _ (Same.refl _)⟩
    · rw [hD2, List.length_map, hul, out_filter, puts_eq, List.map_filterMap]
/-! ### puts_are_earlier -/
def spPEarly {R : TRows K mg} (T : TPart R) : Sp := fun vs H Q _ => ∃ (pu : V) (bk : List PartD), vs = [pu] ∧ PtsArg T H pu bk ∧ Earlier bk ∧ bk.length ≤ 50 ∧ (∀ p ∈ bk, p.2.length ≤ 100) ∧ ∀ H', Same H H' → Q (.bl true) H'
theorem scPEarly : FnScope ["parts", "earlier", "part", "name"] ["parts"] (defScope sPEarly) := ⟨rfl, rfl, rfl, by decide +kernel, rfl, by decide +kernel, by decide +kernel⟩
theorem puts_len (rs : List RowD) : (putsOf rs).length ≤ rs.length := List.length_filterMap_le _ _
theorem pts_at {R : TRows K mg} {T : TPart R} {H : Hp} {ps : List Addr} {bk : List PartD} (h : Paired (fun a (q : PartD) => PtAt T H a q.1 q.2) ps bk) {i : Nat} {x : V} (hx : (ps.map V.ref)[i]? = some x) : ∃ a q, ps[i]? = some a ∧ bk[i]? = some q ∧ x = .ref a ∧ PtAt T H a q.1 q.2 := by
  rw [List.getElem?_map] at hx
  cases hu : ps[i]? with
  | none => rw [hu] at hx; cases hx
  | some u =>
    rw [hu] at hx
    cases hx
    obtain ⟨r, hr, hrow⟩ := paired_at h hu
    exact ⟨u, r, rfl, hr, rfl, hrow⟩
theorem ok_pEarly {R : TRows K mg} {T : TPart R} (B : TBks T) : FnOk P w K mg base CX0 2 B.pEarly.f B.pEarly.fd ["parts"] (spPEarly T) := by
  refine B.pEarly.F.ok scPEarly (fun vs H Q E h => ?_) (fun cdv A outer s H vs Q E hr h => ?_)
  · obtain ⟨pu, bk, rfl, _⟩ := h
    rfl
  · obtain ⟨pu, bk, rfl, ⟨p, ps, rfl, hp, hpd⟩, he, hlen, hrl, q⟩ := h
    refine ⟨_, pss_cons (ps_set (i := 1) scPEarly.nd rfl (Or.inr rfl) (pe_lst pa_nil))
      (pss_cons (ps_for PassesOwn.never rfl (pi_seq (pv 0)) (pg_name (i := 2) scPEarly.nd rfl (Or.inl rfl))
        (pss_cons (ps_if (pt_not (pt_val (pe_callB (cr_all rfl) (by rfl) R.N.mAll (by decide +kernel) (pa_cons (pe_lc (own := [("name", 3)]) (g := gName 3) (tt := tYes) (by rfl) scPEarly.nd (pi_list (pe_call (ok_nPut B) hr rfl B.nPut.m B.nPut.F.kp B.nPut.b .nil pass0 (pa_cons (pv 2) pa_nil)))
            (blkOk_by (N := ["parts", "earlier", "part", "name"]) (sc := defScope sPEarly) (by decide +kernel)) (fun _ _ _ _ _ => pg_name (i := 3) scPEarly.nd rfl (Or.inl rfl)) (fun _ _ _ _ _ => pts_nil)
            (fun _ _ _ _ _ => pe_cmpR (show OpR _ (compareOp .In) (rIn K false) from op_in_seq) (pv 3) (pv 1) rfl)) pa_nil)))) (pss_one (ps_ret pe_bl)) pss_nil)
        (pss_one (ps_expr (pe_bm PySem.F.plainAttrs_list PySem.F.slot_list_append PySem.F.type_list_append mt_append (pv 1) (pa_cons (pe_fld (pv 2) rfl) pa_nil))))))
      (pss_one (ps_ret pe_bl))), ?_⟩
    have hpl : ps.length = bk.length := paired_len hpd
    have big : (1001 : Nat) ≤ sizeLine := by decide
    refine ⟨Nat.zero_le _, fun F hF => ?_⟩
    have s1 := Same.new (o := .lst []) hF
    have hF1 : upd H F (.lst []) F = some (.lst []) := upd_same
    generalize upd H F (.lst []) = H1 at s1 hF1 ⊢
    have hFn : H F = none := hF
    refine forw_seq (fun R r => ⟨_, rfl, r⟩) hp (fun i σ Hi => ∃ x2 x3, σ = [some (.ref p), some (.ref F), x2, x3] ∧ Same H Hi ∧ Hi F = some (.lst (((bk.take i).map (·.1)).map V.str))) ⟨_, _, rfl, s1, hF1⟩ (fun i σ Hi hP => by obtain ⟨_, _, _, s, _⟩ := hP; exact s) (fun i x σ Hi hx hP => ?_) (fun σ Hi hP => ?_)
    · obtain ⟨x2, x3, rfl, s3, hFi⟩ := hP
      obtain ⟨a, qq, ha, hq, rfl, hpt⟩ := pts_at hpd hx
      have hqm := List.mem_of_getElem? hq
      have hi : i < bk.length := (List.getElem?_eq_some_iff.mp hq).1
      have hpt3 := hpt.same s3
      refine ⟨_, rfl, a, qq, rfl, hpt3, hrl qq hqm, fun D H4 hD s4 hD4 => ?_⟩
      have hpu : (putsOf qq.2).length ≤ 100 := Nat.le_trans (puts_len _) (hrl qq hqm)
      have hF4 := s4 _ _ hFi
      refine ⟨D, rfl, ⟨_, SqL.of hD4⟩, fun D2 hD2 => lc_list (xs := (putsOf qq.2).map V.str) (fun j Hj => Same H4 Hj ∧ Hj D2 = some (.lst ((List.range j).filterMap fun j => ((putsOf qq.2)[j]?).map fun _ => V.bl true))) ⟨Same.new hD2, upd_same⟩ (fun j Hj _ hP => SqL.of (hP.1 _ _ hD4))
        (lc_keep (by rw [List.length_map]; omega) (fun j y Hj S Y hy sj _ hY => ?_) hD2) (fun Hj hP => ?_)⟩
      · rw [List.getElem?_map] at hy
        cases hz : (putsOf qq.2)[j]? with
        | none => rw [hz] at hy; cases hy
        | some z =>
        rw [hz] at hy
        cases hy
        have hin := he i qq hq z (mem_puts.mp (List.mem_of_getElem? hz))
        refine ⟨rfl, _, rfl, _, rfl, F, _, rfl, .inl (SqL.of (sj _ _ hF4)), rfl, flat_strs, ?_⟩
        have e : inV (.str z) (((bk.take i).map (·.1)).map V.str) = true := by rw [inV_strs]; exact decide_eq_true hin
        show Y (.bl (inV (.str z) (((bk.take i).map (·.1)).map V.str))) Hj
        rw [e]
        exact hY _ (by show ((putsOf qq.2)[j]?).map _ = _; rw [hz]; rfl) _ (Same.refl _)
      · obtain ⟨s5, hD5⟩ := hP
        rw [List.length_map, out_map] at hD5
        refine ⟨D2, (putsOf qq.2).map fun _ => true, rfl, SqL.of (by rw [hD5, List.map_map]; rfl), ?_⟩
        rw [all_tt]
        refine ⟨true, rfl, iteF ?_⟩
        obtain ⟨dx, tp, us, hat, _, _⟩ := hpt3.same (s4.trans s5)
        have hF5 := s5 _ _ hF4
        refine ⟨_, rfl, .inl ⟨rfl, _, SqL.of hF5⟩, _, rfl, a, T.C, dx, _, .str qq.1, rfl, hat, T.cl, T.noN, part_name, F, _, _, rfl, rfl, hF5, ?_, ?_⟩
        · rw [List.length_map, List.length_map, List.length_take]
          omega
        · refine ⟨_, _, rfl, Same.updn ((s3.trans s4).trans s5) hFn, ?_⟩
          rw [upd_same, List.take_add_one, hq, List.map_append, List.map_append]
          rfl
    · obtain ⟨_, _, rfl, s3, _⟩ := hP
      exact q _ s3
/-! ### refs_are_known -/
def spRefsK (R : TRows K mg) : Sp := fun vs H Q _ => ∃ (p : Addr) (us : List Addr) (rs : List RowD), vs = [.ref p] ∧ Sq K H p (us.map V.ref) ∧ RowsIn R H us rs ∧ rs.length ≤ 4000 ∧ (∀ l, RowD.ref l ∈ rs → ∃ c, RowD.note c l ∈ rs) ∧ ∀ H', Same H H' → Q (.bl true) H'
theorem scRefsK : FnScope ["rows", "labels", "row"] ["rows"] (defScope sRefsK) := ⟨rfl, rfl, rfl, by decide +kernel, rfl, by decide +kernel, by decide +kernel⟩
theorem note_word {r : RowD} : decide (V.str (rowWord r) = V.str "note") = (labOf r).isSome := by
  cases r with
  | note _ _ => exact (by decide +kernel : decide (V.str "note" = V.str "note") = true)
  | skip _ _ => exact (by decide +kernel : decide (V.str "skip" = V.str "note") = false)
  | set _ _ => exact (by decide +kernel : decide (V.str "set" = V.str "note") = false)
  | keep _ => exact (by decide +kernel : decide (V.str "keep" = V.str "note") = false)
  | back _ => exact (by decide +kernel : decide (V.str "back" = V.str "note") = false)
  | ref _ => exact (by decide +kernel : decide (V.str "ref" = V.str "note") = false)
  | put _ => exact (by decide +kernel : decide (V.str "put" = V.str "note") = false)
  | opn _ => exact (by decide +kernel : decide (V.str "open" = V.str "note") = false)
theorem ref_word {r : RowD} : decide (V.str (rowWord r) = V.str "ref") = (refOf r).isSome := by
  cases r with
  | note _ _ => exact (by decide +kernel : decide (V.str "note" = V.str "ref") = false)
  | skip _ _ => exact (by decide +kernel : decide (V.str "skip" = V.str "ref") = false)
  | set _ _ => exact (by decide +kernel : decide (V.str "set" = V.str "ref") = false)
  | keep _ => exact (by decide +kernel : decide (V.str "keep" = V.str "ref") = false)
  | back _ => exact (by decide +kernel : decide (V.str "back" = V.str "ref") = false)
  | ref _ => exact (by decide +kernel : decide (V.str "ref" = V.str "ref") = true)
  | put _ => exact (by decide +kernel : decide (V.str "put" = V.str "ref") = false)
  | opn _ => exact (by decide +kernel : decide (V.str "open" = V.str "ref") = false)
theorem ok_refsK {R : TRows K mg} {T : TPart R} (B : TBks T) : FnOk P w K mg base CX0 1 B.refsK.f B.refsK.fd ["rows"] (spRefsK R) := by
  refine B.refsK.F.ok scRefsK (fun vs H Q E h => ?_) (fun cdv A outer s H vs Q E hr h => ?_)
  · obtain ⟨p, us, rs, rfl, _⟩ := h
    rfl
  · obtain ⟨p, us, rs, rfl, hp, hus, hlen, hrf, q⟩ := h
    refine ⟨_, pss_cons (ps_set (i := 1) scRefsK.nd rfl (Or.inr rfl) (pe_lc (own := [("row", 2)]) (g := gName 2) (by rfl) scRefsK.nd (pi_seq (pv 0))
      (blkOk_by (N := ["rows", "labels", "row"]) (sc := defScope sRefsK) (by decide +kernel)) (fun _ _ _ _ _ => pg_name (i := 2) scRefsK.nd rfl (Or.inl rfl))
      (fun _ _ _ _ _ => pts_one (pt_cmpR op_eq (show PE _ _ (tFld K (tVar 2) "word") from pe_fld (pv 2) rfl) pe_str (nomark _))) (fun _ _ _ _ _ => (show PE _ _ (tFld K (tVar 2) "label") from pe_fld (pv 2) rfl))))
      (pss_one (ps_ret (pe_callB (cr_all rfl) (by rfl) R.N.mAll (by decide +kernel) (pa_cons (pe_lc (own := [("row", 2)]) (g := gName 2) (by rfl) scRefsK.nd (pi_seq (pv 0))
      (blkOk_by (N := ["rows", "labels", "row"]) (sc := defScope sRefsK) (by decide +kernel)) (fun _ _ _ _ _ => pg_name (i := 2) scRefsK.nd rfl (Or.inl rfl))
      (fun _ _ _ _ _ => pts_one (pt_cmpR op_eq (show PE _ _ (tFld K (tVar 2) "word") from pe_fld (pv 2) rfl) pe_str (nomark _))) (fun _ _ _ _ _ => pe_cmpR (show OpR _ (compareOp .In) (rIn K false) from op_in_seq) (show PE _ _ (tFld K (tVar 2) "label") from pe_fld (pv 2) rfl) (pv 1) rfl)) pa_nil)))), ?_⟩
    have hul : us.length = rs.length := paired_len hus
    unfold tSeq tAsg
    refine lcw_seq (fun R r => ⟨_, rfl, r⟩) hp (by rw [List.length_map]; omega) (out := fun i => (rs[i]?).bind fun r => (labOf r).map V.str) (fun i x Hi S Y hx si hS hY => ?_) (fun D H2 hD s2 hD2 => ?_)
    · obtain ⟨u, r, hu, hr2, rfl, hrow⟩ := rows_at hus hx
      obtain ⟨dw, fw, w1, w2, w3, w4⟩ := at_word R (hrow.same si)
      refine ⟨rfl, _, rfl, u, _, dw, fw, _, rfl, w1, w2, w3, w4, rfl, _, rfl, ?_⟩
      have hb : (rs[i]?).bind (fun r => (labOf r).map V.str) = (labOf r).map V.str := by rw [hr2]; rfl
      rw [note_word]
      cases hp2 : labOf r with
      | none =>
        refine iteF ?_
        exact hS (by rw [hp2] at hb; exact hb) _ (Same.refl _)
      | some z =>
        refine iteT ?_
        obtain ⟨c, rfl⟩ : ∃ c, r = .note c z := by
          cases r with
          | note c y => cases hp2; exact ⟨c, rfl⟩
          | _ => cases hp2
        obtain ⟨dp, fp, p1, p2, p3, p4⟩ := at_notelab R (hrow.same si)
        exact ⟨_, rfl, u, _, dp, fp, _, rfl, p1, p2, p3, p4, hY _ (by rw [hp2] at hb; exact hb) _ (Same.refl _)⟩
    · rw [List.length_map, hul, out_filter] at hD2
      have hD3 : H2 D = some (.lst ((rs.filterMap labOf).map V.str)) := by rw [hD2, List.map_filterMap]
      have hus2 := hus.same s2
      unfold gName tRet tCB tCons
      dsimp only
      refine lcw_seq (fun R r => ⟨_, rfl, r⟩) (hp.same s2) (by rw [List.length_map]; omega) (out := fun i => (rs[i]?).bind fun r => (refOf r).map fun _ => V.bl true) (fun i x Hi S Y hx si hS hY => ?_) (fun D4 H4 hD4 s4 hD5 => ?_)
      · obtain ⟨u, r, hu, hr2, rfl, hrow⟩ := rows_at hus2 hx
        obtain ⟨dw, fw, w1, w2, w3, w4⟩ := at_word R (hrow.same si)
        refine ⟨rfl, _, rfl, u, _, dw, fw, _, rfl, w1, w2, w3, w4, rfl, _, rfl, ?_⟩
        have hb : (rs[i]?).bind (fun r => (refOf r).map fun _ => V.bl true) = (refOf r).map fun _ => V.bl true := by rw [hr2]; rfl
        rw [ref_word]
        cases hp2 : refOf r with
        | none =>
          refine iteF ?_
          exact hS (by rw [hp2] at hb; exact hb) _ (Same.refl _)
        | some z =>
          refine iteT ?_
          obtain rfl : r = .ref z := by
            cases r with
            | ref y => cases hp2; rfl
            | _ => cases hp2
          obtain ⟨dp, fp, p1, p2, p3, p4⟩ := at_reflab R (hrow.same si)
          refine ⟨_, rfl, u, _, dp, fp, _, rfl, p1, p2, p3, p4, _, rfl, D, _, rfl, .inl (SqL.of (si _ _ hD3)), rfl, flat_strs, ?_⟩
          obtain ⟨c, hc⟩ := hrf z (List.mem_of_getElem? hr2)
          have e : inV (.str z) ((rs.filterMap labOf).map V.str) = true := by
            rw [inV_strs]
            exact decide_eq_true (List.mem_filterMap.mpr ⟨_, hc, rfl⟩)
          show Y (.bl (inV (.str z) ((rs.filterMap labOf).map V.str))) Hi
          rw [e]
          exact hY _ (by rw [hp2] at hb; exact hb) _ (Same.refl _)
      · rw [List.length_map, hul, out_filter] at hD5
        refine ⟨D4, (rs.filterMap refOf).map fun _ => true, rfl, SqL.of (by rw [hD5, List.map_map, List.map_filterMap]; rfl), ?_⟩
        rw [all_tt]
        exact q _ (s2.trans s4)
/-! ### counters_are_known -/
def spCKnown {R : TRows K mg} (T : TPart R) : Sp := fun vs H Q _ => ∃ (cu pu : V) (cs : List (Str × Str)) (bk : List PartD), vs = [cu, pu] ∧ CsArg K H cu cs ∧ PtsArg T H pu bk ∧ cs.length ≤ 100 ∧ bk.length ≤ 50 ∧ (∀ p ∈ bk, p.2.length ≤ 100) ∧ (∀ p ∈ bk, ∀ r ∈ p.2, ∀ c, cntOf r = some c → c ∈ cs.map (·.1)) ∧ ∀ H', Same H H' → Q (.bl true) H'
theorem scCKnown : FnScope ["counters", "parts", "names", "rows", "name", "upper", "part", "row"] ["counters", "parts"] (defScope sCKnown) := ⟨rfl, rfl, rfl, by decide +kernel, rfl, by decide +kernel, by decide +kernel⟩
theorem ok_cKnown {R : TRows K mg} {T : TPart R} (B : TBks T) : FnOk P w K mg base CX0 1 B.cKnown.f B.cKnown.fd ["counters", "parts"] (spCKnown T) := by
  refine B.cKnown.F.ok scCKnown (fun vs H Q E h => ?_) (fun cdv A outer s H vs Q E hr h => ?_)
  · obtain ⟨cu, pu, cs, bk, rfl, _⟩ := h
    rfl
  · obtain ⟨cu, pu, cs, bk, rfl, ⟨cp, ts, rfl, hcp, hcd⟩, ⟨p, ps, rfl, hp, hpd⟩, hcl, hbl, hrl, hcn, q⟩ := h
    refine ⟨_, pss_cons (ps_set (i := 2) scCKnown.nd rfl (Or.inr rfl) (pe_lc (own := [("name", 4), ("upper", 5)]) (g := gTup K 2 (gCons (gName 4) (gCons (gName 5) gNil))) (tt := tYes) (by rfl) scCKnown.nd (pi_seq (pv 0))
        (blkOk_by (N := ["counters", "parts", "names", "rows", "name", "upper", "part", "row"]) (sc := defScope sCKnown) (by decide +kernel)) (fun _ _ _ _ _ => pg_tup (by rfl) (pgs_cons (pg_name (i := 4) scCKnown.nd rfl (Or.inl rfl)) (pgs_cons (pg_name (i := 5) scCKnown.nd rfl (Or.inl rfl)) pgs_nil))) (fun _ _ _ _ _ => pts_nil) (fun _ _ _ _ _ => pv 4)))
      (pss_cons (ps_setLc2 (i := 3) (own := [("part", 6), ("row", 7)]) (vs1 := [7]) (g := gName 6) (g1 := gName 7) (tt := tYes) (by rfl) scCKnown.nd rfl rfl (sw_true rfl rfl rfl (by decide +kernel)) (pi_seq (pv 1))
        (blkOk_by (N := ["counters", "parts", "names", "rows", "name", "upper", "part", "row"]) (sc := defScope sCKnown) (by decide +kernel)) (by decide) (fun _ _ _ _ _ => pg_name (i := 6) scCKnown.nd rfl (Or.inl rfl)) (fun _ _ _ _ _ => pts_nil)
        (fun _ _ _ _ _ => (show PI _ _ _ (iTup K (tFld K (tVar 6) "rows")) from pi_tup (pe_fld (pv 6) rfl))) (fun _ _ _ _ _ => pg_name (i := 7) scCKnown.nd rfl (Or.inl rfl))
        (fun _ _ _ _ _ => pts_one (pt_cmpR (show OpR _ (compareOp .In) (rIn K false) from op_in_seq) (show PE _ _ (tFld K (tVar 7) "word") from pe_fld (pv 7) rfl) (pe_glob (v := .ref B.cw) (by rfl) B.mCW rfl) rfl)) (fun _ _ _ _ _ => pv 7))
      (pss_one (ps_ret (pe_callB (cr_all rfl) (by rfl) R.N.mAll (by decide +kernel) (pa_cons (pe_lc (own := [("row", 7)]) (g := gName 7) (tt := tYes) (by rfl) scCKnown.nd (pi_list (pv 3))
        (blkOk_by (N := ["counters", "parts", "names", "rows", "name", "upper", "part", "row"]) (sc := defScope sCKnown) (by decide +kernel)) (fun _ _ _ _ _ => pg_name (i := 7) scCKnown.nd rfl (Or.inl rfl)) (fun _ _ _ _ _ => pts_nil)
        (fun _ _ _ _ _ => pe_cmpR (show OpR _ (compareOp .In) (rIn K false) from op_in_seq) (show PE _ _ (tFld K (tVar 7) "counter") from pe_fld (pv 7) rfl) (pv 2) rfl)) pa_nil))))), ?_⟩
    have hpl : ps.length = bk.length := paired_len hpd
    have htl : ts.length = cs.length := paired_len hcd
    unfold tSeq tAsg
    refine lcw_seq (fun R r => ⟨_, rfl, r⟩) hcp (by rw [List.length_map]; omega) (out := fun i => (cs[i]?).map fun c => V.str c.1) (fun i x Hi S Y hx si hS hY => ?_) (fun D H2 hD s2 hD2 => ?_)
    · rw [List.getElem?_map] at hx
      cases hxi : ts[i]? with
      | none => rw [hxi] at hx; cases hx
      | some t =>
      rw [hxi] at hx
      cases hx
      obtain ⟨c, hc, ht⟩ := paired_at hcd hxi
      refine ⟨t, _, rfl, Same.sqt si ht, rfl, _, _, rfl, _, _, rfl, rfl, rfl, _, rfl, ?_⟩
      exact hY _ (by show (cs[i]?).map _ = _; rw [hc]; rfl) _ (Same.refl _)
    rw [List.length_map, htl, out_map] at hD2
    have hN : H2 D = some (.lst ((cs.map (·.1)).map V.str)) := by rw [hD2, List.map_map]; rfl
    have hpd2 := paired_mono (fun _ _ z => PtAt.same z s2) hpd
    have hp2 := hp.same s2
    clear hD2
    unfold gName
    dsimp only
    -- the rows that count
    have second : ∀ (σ : L2.St) (Q' : VK), σ = [some (.ref cp), some (.ref p), some (.ref D), none, none, none, none, none] → (∀ (L : Addr) (H3 : Hp) (acc : List (Addr × RowD)), Same H2 H3 → H3 L = some (.lst (acc.map fun x => V.ref x.1)) → acc.length ≤ 5000 → (∀ x ∈ acc, RowAt R H3 x.1 x.2 ∧ ∃ c, cntOf x.2 = some c ∧ c ∈ cs.map (·.1)) → Q' (.ref L) H3) →
        tLc2 (iSeq K (tVar 1)) (gName 6) tYes (iTup K (tFld K (tVar 6) "rows")) (gName 7) (tTest (tOp (rIn K false) (tFld K (tVar 7) "word") (tC (.ref B.cw)))) (tVar 7) [6, 7] [7] σ H2 Q' := by
      intro σ Q' hσ hQ
      subst hσ
      have body : ∀ L, H2 L = none → ∀ {J : It} {G : Hp → Prop}, Walk J (ps.map V.ref).length G (YAt (ps.map V.ref)) → (∀ Hi, Same H2 Hi → G Hi) → _ := fun L hL {J G} wk hG =>
        lc2_walk (K := K) (xs := ps.map V.ref) (D := L) (H := H2) (Q := Q') (vs := [6, 7]) (vs1 := [7]) (k := 6) (k1 := 7) (te1 := tFld K (tVar 6) "rows") (tt1 := tTest (tOp (rIn K false) (tFld K (tVar 7) "word") (tC (.ref B.cw)))) (te := tVar 7)
          (σ := [some (.ref cp), some (.ref p), some (.ref D), none, none, none, none, none]) wk rfl
          (fun i j Hi => Same H2 Hi ∧ ∃ acc : List (Addr × RowD), Hi L = some (.lst (acc.map fun x => V.ref x.1)) ∧ acc.length ≤ 100 * i + j ∧ (∀ x ∈ acc, RowAt R Hi x.1 x.2 ∧ ∃ c, cntOf x.2 = some c ∧ c ∈ cs.map (·.1)))
          ⟨Same.new hL, [], upd_same, Nat.le_refl _, fun x h => by cases h⟩ (fun i Hi hP => hG Hi hP.1) (fun _ => rfl)
          (fun i x Hi hx hP => ?inn) (fun Hi hP => ?fin)
      case inn =>
        obtain ⟨a, qq, ha, hq, rfl, hpt⟩ := pts_at hpd2 hx
        obtain ⟨si, _⟩ := hP
        obtain ⟨dx, tp, us, hat, htp, hus⟩ := hpt
        have hqm := List.mem_of_getElem? hq
        have hul : us.length = qq.2.length := paired_len hus
        refine ⟨tp, us.map V.ref, fun R' r => ⟨_, rfl, a, T.C, dx, _, .ref tp, rfl, si _ _ hat, T.cl, T.noR, part_rows, r⟩, fun j Hj hP => Same.sqt hP.1 htp, fun Hj hP => ?_, fun j y Hj hy hP => ⟨rfl, ?_⟩⟩
        · obtain ⟨sj, acc, h1, h2, h3⟩ := hP
          refine ⟨sj, acc, h1, ?_, h3⟩
          rw [List.length_map] at h2
          have := hrl qq hqm
          omega
        · obtain ⟨sj, acc, h1, h2, h3⟩ := hP
          obtain ⟨u, r, hu, hr2, rfl, hrow⟩ := rows_at hus hy
          have hrow2 := hrow.same sj
          obtain ⟨dw, fw, w1, w2, w3, w4⟩ := at_word R hrow2
          have hj : j < us.length := (List.getElem?_eq_some_iff.mp hu).1
          have hi : i < ps.length := (List.getElem?_eq_some_iff.mp ha).1
          refine ⟨_, rfl, u, _, dw, fw, _, rfl, w1, w2, w3, w4, B.cw, cwV, rfl, .inr (B.hCW _), rfl, rfl, ?_⟩
          refine ⟨_, rfl, ?_⟩
          show if inV (.str (rowWord r)) cwV = true then _ else _
          rw [word_cnt]
          cases hc : cntOf r with
          | none =>
            refine iteF ?_
            exact ⟨sj, acc, h1, by omega, h3⟩
          | some c =>
            refine iteT ⟨_, rfl, _, h1, ?_, Same.updn sj hL, acc ++ [(u, r)], ?_, ?_, ?_⟩
            · rw [List.length_map]
              have big : (6001 : Nat) ≤ sizeLine := by decide
              have h5 : acc.length ≤ 100 * 50 + 100 := by
                have := hrl qq hqm
                omega
              omega
            · rw [upd_same, List.map_append]
              rfl
            · rw [List.length_append]
              show acc.length + 1 ≤ _
              omega
            · intro x hx2
              have up : ∀ {u' : Addr} {r' : RowD}, RowAt R Hj u' r' → RowAt R (upd Hj L (.lst (acc.map (fun x => V.ref x.1) ++ [.ref u]))) u' r' := fun hh => by
                obtain ⟨dy, e⟩ := hh
                obtain ⟨gs, eg⟩ := insRow_ins R dy _
                exact ⟨dy, by rw [upd_ne (fun z => by rw [z, h1, eg] at e; cases e)]; exact e⟩
              rcases List.mem_append.mp hx2 with hx2 | hx2
              · exact ⟨up (h3 x hx2).1, (h3 x hx2).2⟩
              · rw [List.mem_singleton.mp hx2]
                exact ⟨up hrow2, c, hc, hcn qq hqm r (List.mem_of_getElem? hr2) c hc⟩
      case fin =>
        obtain ⟨si, acc, h1, h2, h3⟩ := hP
        rw [List.length_map] at h2
        exact hQ L Hi acc si h1 (by omega) h3
      exact hp2.elim (fun h => .inl ⟨_, rfl, p, rfl, ⟨_, h⟩, fun L hL => body L hL walk_list (fun Hi s => s.seq h)⟩) (fun h => .inr ⟨_, rfl, p, rfl, ⟨_, h⟩, fun L hL => body L hL walk_tup (fun Hi s => Same.sqt s h)⟩)
    refine second _ _ rfl (fun L H3 acc s3 hL3 hlen hall => ?_)
    unfold tRet tCB tCons
    refine lcw_list (fun R r => ⟨_, rfl, r⟩) (SqL.of hL3) (by rw [List.length_map]; omega) (out := fun i => (acc[i]?).map fun _ => V.bl true) (fun i x Hi S Y hx si hS hY => ?_) (fun D4 H4 hD4 s4 hD5 => ?_)
    · rw [List.getElem?_map] at hx
      cases hxi : acc[i]? with
      | none => rw [hxi] at hx; cases hx
      | some xr =>
      rw [hxi] at hx
      cases hx
      obtain ⟨hrow, c, hc, hcm⟩ := hall xr (List.mem_of_getElem? hxi)
      obtain ⟨dp, fp, p1, p2, p3, p4⟩ := at_counter R (hrow.same si) hc
      refine ⟨rfl, _, rfl, xr.1, _, dp, fp, _, rfl, p1, p2, p3, p4, _, rfl, D, _, rfl, .inl (SqL.of (si _ _ (s3 _ _ hN))), rfl, flat_strs, ?_⟩
      have e : inV (.str c) ((cs.map (·.1)).map V.str) = true := by rw [inV_strs]; exact decide_eq_true hcm
      show Y (.bl (inV (.str c) ((cs.map (·.1)).map V.str))) Hi
      rw [e]
      exact hY _ (by show (acc[i]?).map _ = _; rw [hxi]; rfl) _ (Same.refl _)
    · rw [List.length_map, out_map] at hD5
      refine ⟨D4, acc.map fun _ => true, rfl, SqL.of (by rw [hD5, List.map_map]; rfl), ?_⟩
      rw [all_tt]
      exact q _ ((s2.trans s3).trans s4)
end
end Pn

namespace Pn
open PySem L2 TL
section
variable {P : Program} {w : World} {K : PySem.W.Frag} {mg : Str → Option Value} {base : Heap}
/-! ### the last part -/
theorem last_at {ps : List Addr} {bk : List PartD} {F : Addr → PartD → Prop} (h : Paired F ps bk) (ne : bk ≠ []) : ∃ (a : Addr) (q : PartD) (ps' : List Addr) (bk' : List PartD), ps = ps' ++ [a] ∧ bk = bk' ++ [q] ∧ F a q ∧ lastName bk = q.1 := by
  have hl : ps.length = bk.length := paired_len h
  obtain ⟨bk', q, rfl⟩ : ∃ bi q, bk = bi ++ [q] := ⟨_, _, (List.dropLast_concat_getLast ne).symm⟩
  obtain ⟨ps', a, rfl⟩ : ∃ pi a, ps = pi ++ [a] := ⟨_, _, (List.dropLast_concat_getLast (by intro z; rw [z] at hl; simp at hl)).symm⟩
  have hli : ps'.length = bk'.length := by simpa using hl
  obtain ⟨q2, hq, hF⟩ := paired_at h (show (ps' ++ [a])[ps'.length]? = some a by simp)
  rw [hli] at hq
  obtain rfl : q = q2 := by simpa using hq
  exact ⟨a, q, ps', bk', rfl, rfl, hF, by unfold lastName; simp⟩
theorem seq_last {H : Hp} {p : Addr} {ps' : List Addr} {a : Addr} (h : Sq K H p ((ps' ++ [a]).map V.ref)) {Q : VK} (q : Q (.ref a) H) : rIx K (.ref p) (.int (-1)) H Q := by
  have e : atI ((ps' ++ [a]).map V.ref) (-1) = some (.ref a) := by rw [List.map_append]; exact atI_last _ _
  rcases h with h | h
  · exact .inl ⟨p, _, _, _, rfl, rfl, h, e, q⟩
  · exact .inr (.inl ⟨p, _, _, _, rfl, rfl, h, e, q⟩)
/-! ### names_reached -/
def spNReach {R : TRows K mg} (T : TPart R) : Sp := fun vs H Q _ => ∃ (pu : V) (bk : List PartD), vs = [pu] ∧ PtsArg T H pu bk ∧ bk ≠ [] ∧ bk.length ≤ 50 ∧ (∀ p ∈ bk, p.2.length ≤ 100) ∧ ∀ (F : Addr) (H' : Hp), H F = none → Same H H' → H' F = some (.lst ((reached bk).map V.str)) → Q (.ref F) H'
theorem scNReach : FnScope ["parts", "names", "part"] ["parts"] (defScope sNReach) := ⟨rfl, rfl, rfl, by decide +kernel, rfl, by decide +kernel, by decide +kernel⟩
theorem reach_len {l : List PartD} {ns : List Str} (h : ∀ p ∈ l, p.2.length ≤ 100) : (reach l ns).length ≤ ns.length + 100 * l.length := by
  induction l with
  | nil => exact Nat.le_refl _
  | cons p l ih =>
    show (reachStep p (reach l ns)).length ≤ _
    have q := ih fun x hx => h x (List.mem_cons_of_mem _ hx)
    have q2 := puts_len p.2
    have q3 := h p List.mem_cons_self
    unfold reachStep
    rw [List.length_cons]
    split
    · rw [List.length_append]; omega
    · omega
theorem ok_nReach {R : TRows K mg} {T : TPart R} (B : TBks T) : FnOk P w K mg base CX0 2 B.nReach.f B.nReach.fd ["parts"] (spNReach T) := by
  refine B.nReach.F.ok scNReach (fun vs H Q E h => ?_) (fun cdv A outer s H vs Q E hr h => ?_)
  · obtain ⟨pu, bk, rfl, _⟩ := h
    rfl
  · obtain ⟨pu, bk, rfl, ⟨p, ps, rfl, hp, hpd⟩, ne, hlen, hrl, q⟩ := h
    refine ⟨_, pss_cons (ps_set (i := 1) scNReach.nd rfl (Or.inl rfl) (pe_lst (pa_cons (pe_fld (pe_ix ix_seq (pv 0) (pe_un un_neg pe_int) (fun _ _ => rfl)) rfl) pa_nil)))
      (pss_cons (ps_for PassesOwn.never rfl (RT.pi_revA (by rfl) B.mRev (pv 0)) (pg_name (i := 2) scNReach.nd rfl (Or.inl rfl))
        (pss_one (ps_if (pt_cmpR op_in_seq (pe_fld (pv 2) rfl) (pv 1) rfl)
          (pss_one (ps_expr (pe_bm PySem.F.plainAttrs_list PySem.F.slot_list_extend PySem.F.type_list_extend mt_extend (pv 1) (pa_cons (pe_call (ok_nPut B) hr rfl B.nPut.m B.nPut.F.kp B.nPut.b .nil pass0 (pa_cons (pv 2) pa_nil)) pa_nil)))) pss_nil)))
      (pss_one (ps_ret (pv 1)))), ?_⟩
    obtain ⟨a, ql, ps', bk', e1, e2, hla, hln⟩ := last_at hpd ne
    have hpl : ps.length = bk.length := paired_len hpd
    have big : (10001 : Nat) ≤ sizeLine := by decide
    obtain ⟨dx, tp, us, hat, _, _⟩ := id hla
    have hp0 := hp
    rw [e1] at hp0
    refine ⟨_, rfl, _, rfl, seq_last hp0 ⟨a, T.C, dx, _, .str ql.1, rfl, hat, T.cl, T.noN, part_name, (by show 1 ≤ sizeLine; decide), fun F hF => ?_⟩⟩
    have s1 := Same.new (o := .lst [.str ql.1]) hF
    have hF1 : upd H F (.lst [.str ql.1]) F = some (.lst ([lastName bk].map V.str)) := by rw [upd_same, hln]; rfl
    have hFn := hF
    generalize upd H F (.lst [.str ql.1]) = H1 at s1 hF1 ⊢
    have start : reach (bk.drop (bk.length - 0)) [lastName bk] = [lastName bk] := by rw [Nat.sub_zero, List.drop_length]; rfl
    refine ⟨_, rfl, p, _, rfl, (hp.elim (fun h => .inl ⟨s1.seq h, RT.for_Itv (xs := ps.map V.ref) (fun i σ Hi => ∃ x2, σ = [some (.ref p), some (.ref F), x2] ∧ Same H Hi ∧ Hi F = some (.lst ((reach (bk.drop (bk.length - i)) [lastName bk]).map V.str))) ⟨_, rfl, s1, by rw [start]; exact hF1⟩ (fun i σ Hi hP => ?keep) (fun i x σ Hi hi hx hP => ?turn) (fun σ Hi hP => ?done)⟩)
      (fun h => .inr ⟨Same.sqt s1 h, RT.for_ItvT (xs := ps.map V.ref) (fun i σ Hi => ∃ x2, σ = [some (.ref p), some (.ref F), x2] ∧ Same H Hi ∧ Hi F = some (.lst ((reach (bk.drop (bk.length - i)) [lastName bk]).map V.str))) ⟨_, rfl, s1, by rw [start]; exact hF1⟩ (fun i σ Hi hP => ?keep2) (fun i x σ Hi hi hx hP => ?turn2) (fun σ Hi hP => ?done2)⟩))⟩
    case keep =>
      obtain ⟨_, _, s3, hFi⟩ := hP
      exact s3.seq h
    case keep2 =>
      obtain ⟨_, _, s3, hFi⟩ := hP
      exact Same.sqt s3 h
    case done | done2 =>
      obtain ⟨_, rfl, s3, hFi⟩ := hP
      rw [List.length_map, hpl, Nat.sub_self, List.drop_zero] at hFi
      exact ⟨_, rfl, q F _ hFn s3 hFi⟩
    case turn | turn2 =>
      obtain ⟨x2, rfl, s3, hFi⟩ := hP
      rw [List.length_map] at hi hx
      obtain ⟨a2, qq, ha2, hq, rfl, hpt⟩ := pts_at hpd hx
      have hqm := List.mem_of_getElem? hq
      have hdrop : bk.drop (bk.length - (i + 1)) = qq :: bk.drop (bk.length - i) := by
        have e4 : ps.length - 1 - i = bk.length - (i + 1) := by omega
        rw [e4] at hq
        have lt : bk.length - (i + 1) < bk.length := by omega
        rw [List.drop_eq_getElem_cons lt]
        have e5 : bk[bk.length - (i + 1)] = qq := by
          rw [List.getElem?_eq_getElem lt] at hq
          exact Option.some.inj hq
        rw [e5]
        congr 2
        omega
      have hstep : reach (bk.drop (bk.length - (i + 1))) [lastName bk] = reachStep qq (reach (bk.drop (bk.length - i)) [lastName bk]) := by rw [hdrop]; rfl
      obtain ⟨dx2, tp2, us2, hat2, _, _⟩ := hpt.same s3
      refine ⟨_, rfl, a2, T.C, dx2, _, .str qq.1, rfl, hat2, T.cl, T.noN, part_name, _, rfl, F, _, rfl, .inl (SqL.of hFi), rfl, flat_strs, _, rfl, ?_⟩
      show if inV (.str qq.1) ((reach (bk.drop (bk.length - i)) [lastName bk]).map V.str) = true then _ else _
      rw [inV_strs]
      have hlr := reach_len (l := bk.drop (bk.length - i)) (ns := [lastName bk]) (fun p hp => hrl p (List.mem_of_mem_drop hp))
      have hll : (bk.drop (bk.length - i)).length ≤ 50 := by rw [List.length_drop]; omega
      by_cases hin : qq.1 ∈ reach (bk.drop (bk.length - i)) [lastName bk]
      · refine iteTD (decide_eq_true hin) ?_
        refine ⟨_, rfl, .inl ⟨rfl, _, SqL.of hFi⟩, _, rfl, a2, qq, rfl, hpt.same s3, hrl qq hqm, fun D H4 hD s4 hD4 => ⟨F, D, _, _, rfl, rfl, s4 _ _ hFi, hD4, ?_, ?_⟩⟩
        · rw [List.length_map, List.length_map]
          have h1 := puts_len qq.2
          have h2 := hrl qq hqm
          rw [List.length_singleton] at hlr
          omega
        · refine ⟨_, rfl, Same.updn (s3.trans s4) hFn, ?_⟩
          rw [upd_same, hstep]
          unfold reachStep
          rw [if_pos hin, List.map_append]
      · refine iteFD (decide_eq_false hin) ?_
        refine ⟨_, rfl, s3, ?_⟩
        rw [hstep]
        unfold reachStep
        rw [if_neg hin]
        exact hFi
end
end Pn

namespace Pn
open PySem L2 TL
/-! ### what is asked of a book's counters and parts, decided -/
section
variable {P : Program} {w : World} {K : PySem.W.Frag} {mg : Str → Option Value} {base : Heap}
def GoodAt (cs : List (Str × Str)) (i : Nat) : Prop := ∀ c, cs[i]? = some c → nameS c.1 = true ∧ c.1 ∉ (cs.take i).map (·.1) ∧ (c.2 = "" ∨ c.2 ∈ (cs.take i).map (·.1))
theorem good_all {cs : List (Str × Str)} (h : ∀ j, j < cs.length → GoodAt cs j) (i : Nat) : GoodAt cs i := fun c hc => h i (List.getElem?_eq_some_iff.mp hc).1 c hc
def spAreCD (K : PySem.W.Frag) : Sp := fun vs H Q _ => ∃ (cu : V) (cs : List (Str × Str)), vs = [cu] ∧ CsArg K H cu cs ∧ cs.length ≤ 100 ∧ (∀ c ∈ cs, c.1.length ≤ 900) ∧ ∀ (b : Bool) H', Same H H' → (b = true ↔ ∀ i, GoodAt cs i) → Q (.bl b) H'
theorem ok_areCD {R : TRows K mg} {T : TPart R} (B : TBks T) : FnOk P w K mg base CX0 2 B.areC.f B.areC.fd ["counters"] (spAreCD K) := by
  refine B.areC.F.ok scAreC (fun vs H Q E h => ?_) (fun cdv A outer s H vs Q E hr h => ?_)
  · obtain ⟨cu, cs, rfl, _⟩ := h
    rfl
  · obtain ⟨cu, cs, rfl, ⟨p, ts, rfl, hp, hpd⟩, hcl, hsh, q⟩ := h
    refine ⟨_, pss_cons (ps_if (pt_not (pt_val (pe_call (ok_isSeq T.isSeq.F R.N.mIsi T.mList T.mTup) (hr.mono (by decide)) rfl T.isSeq.m T.isSeq.F.kp T.isSeq.b .nil pass0 (pa_cons (pv 0) pa_nil)))) (pss_one (ps_ret pe_bl)) pss_nil)
      (pss_cons (ps_set (i := 1) scAreC.nd rfl (Or.inl rfl) (pe_lst pa_nil))
      (pss_cons (ps_for PassesOwn.never rfl (pi_seq (pv 0)) (pg_name (i := 2) scAreC.nd rfl (Or.inl rfl))
        (pss_cons (ps_if (PW.pt (pw_or (pt_not (pt_val (pe_call (ok_isPair B) (hr.mono (by decide)) rfl B.isPair.m B.isPair.F.kp B.isPair.b .nil pass0 (pa_cons (pv 2) pa_nil))))
            (pw_or (pt_not (pt_val (pe_call R.N.okName (hr.mono (by decide)) rfl R.N.isName.m R.N.isName.F.kp R.N.isName.b .nil pass0 (pa_cons (pe_ix ix_tup (pv 2) pe_int (fun _ _ => rfl)) pa_nil))))
              (pw_or1 (pt_cmpR op_in_seq (pe_ix ix_tup (pv 2) pe_int (fun _ _ => rfl)) (pv 1) rfl))))) (pss_one (ps_ret pe_bl)) pss_nil)
        (pss_cons (ps_if (PW.pt (pw_and (pt_cmpR op_ne (pe_ix ix_tup (pv 2) pe_int (fun _ _ => rfl)) pe_str (nomark _)) (pw_and1 (pt_cmpR op_notIn_seq (pe_ix ix_tup (pv 2) pe_int (fun _ _ => rfl)) (pv 1) rfl)))) (pss_one (ps_ret pe_bl)) pss_nil)
        (pss_one (ps_expr (pe_bm PySem.F.plainAttrs_list PySem.F.slot_list_append PySem.F.type_list_append mt_append (pv 1) (pa_cons (pe_ix ix_tup (pv 2) pe_int (fun _ _ => rfl)) pa_nil)))))))
      (pss_one (ps_ret pe_bl)))), ?_⟩
    obtain ⟨t0, hk, ht1, ht2⟩ := seq_kind hp
    refine ⟨_, rfl, _, t0, true, rfl, ht1, hk, ht2, fun H1 s1 m1 => ⟨true, rfl, iteF ?_⟩⟩
    refine ⟨Nat.zero_le _, fun F hF => ?_⟩
    have hp2 := (hp.same s1).same (Same.new (o := .lst []) hF)
    have hpd2 := paired_mono (fun _ _ z => Same.sqt (s1.trans (Same.new (o := .lst []) hF)) z) hpd
    have sH := s1.trans (Same.new (o := .lst []) hF)
    have hFn : H F = none := s1.free hF
    have hF2 : upd H1 F (.lst []) F = some (.lst []) := upd_same
    generalize upd H1 F (.lst []) = H2 at hp2 hpd2 sH hF2 ⊢
    have htl : ts.length = cs.length := paired_len hpd
    have big : (1001 : Nat) ≤ sizeLine := by decide
    refine hp.elim (fun h3 => .inl ⟨_, rfl, p, rfl, ⟨_, sH.seq h3⟩, for_list (xs := ts.map V.ref) (fun i σ Hi => ∃ x2, σ = [some (.ref p), some (.ref F), x2] ∧ Same H Hi ∧ Hi F = some (.lst (((cs.take i).map (·.1)).map V.str)) ∧ ∀ j, j < i → GoodAt cs j) ⟨_, rfl, sH, hF2, fun j hj => absurd hj (Nat.not_lt_zero j)⟩ (fun i σ Hi _ hP => by obtain ⟨_, _, s, _⟩ := hP; exact s.seq h3) (fun i x σ Hi hx hP => ?turn) (fun σ Hi hP => ?done)⟩)
      (fun h3 => .inr ⟨_, rfl, p, rfl, ⟨_, Same.sqt sH h3⟩, for_tup (xs := ts.map V.ref) (fun i σ Hi => ∃ x2, σ = [some (.ref p), some (.ref F), x2] ∧ Same H Hi ∧ Hi F = some (.lst (((cs.take i).map (·.1)).map V.str)) ∧ ∀ j, j < i → GoodAt cs j) ⟨_, rfl, sH, hF2, fun j hj => absurd hj (Nat.not_lt_zero j)⟩ (fun i σ Hi _ hP => by obtain ⟨_, _, s, _⟩ := hP; exact Same.sqt s h3) (fun i x σ Hi hx hP => ?turn2) (fun σ Hi hP => ?done2)⟩)
    case done | done2 =>
      obtain ⟨_, rfl, s3, _, hg⟩ := hP
      rw [List.length_map, htl] at hg
      exact q true _ s3 ⟨fun _ i => good_all hg i, fun _ => rfl⟩
    case turn | turn2 =>
      obtain ⟨_, rfl, s3, hFi, hg⟩ := hP
      rw [List.getElem?_map] at hx
      cases hxi : ts[i]? with
      | none => rw [hxi] at hx; cases hx
      | some t =>
      rw [hxi] at hx
      cases hx
      obtain ⟨c, hc, ht⟩ := paired_at hpd hxi
      have ht3 := Same.sqt s3 ht
      have hcm := List.mem_of_getElem? hc
      have hi : i < cs.length := (List.getElem?_eq_some_iff.mp hc).1
      refine ⟨_, rfl, t, _, _, rfl, ht3, true, rfl, iteF ?_⟩
      refine ⟨_, rfl, t, _, _, .str c.1, rfl, rfl, ht3, rfl, .str c.1, .str c.1, rfl, .str _, hsh c hcm, fun H4 s4 m4 => ⟨nameS c.1, rfl, ?_⟩⟩
      by_cases hnm : nameS c.1 = true
      case neg =>
        rw [Bool.not_eq_true] at hnm
        rw [hnm]
        refine iteT ?_
        exact q false _ (s3.trans s4) ⟨fun z => Bool.noConfusion z, fun z => Bool.noConfusion (hnm.symm.trans (z i c hc).1)⟩
      rw [hnm]
      refine iteF ?_
      have ht4 := Same.sqt s4 ht3
      have hF4 := s4 _ _ hFi
      refine ⟨_, rfl, t, _, _, .str c.1, rfl, rfl, ht4, rfl, _, rfl, F, _, rfl, .inl (SqL.of hF4), rfl, flat_strs, ?_⟩
      by_cases hnew : c.1 ∉ (cs.take i).map (·.1)
      case neg =>
        refine ⟨_, rfl, iteTD (by show inV (.str c.1) _ = true; rw [inV_strs]; exact decide_eq_true (Classical.not_not.mp hnew)) ?_⟩
        exact q false _ (s3.trans s4) ⟨fun z => Bool.noConfusion z, fun z => absurd (z i c hc).2.1 hnew⟩
      refine ⟨_, rfl, iteFD (by show inV (.str c.1) _ = false; rw [inV_strs]; exact decide_eq_false hnew) ?_⟩
      unfold tNext
      try dsimp only
      by_cases hup : c.2 = "" ∨ c.2 ∈ (cs.take i).map (·.1)
      case neg =>
        have h1 : c.2 ≠ "" := fun z => hup (.inl z)
        have h2 : c.2 ∉ (cs.take i).map (·.1) := fun z => hup (.inr z)
        refine ⟨_, rfl, t, _, _, .str c.2, rfl, rfl, ht4, rfl, rfl, _, rfl, ?_⟩
        refine iteTD (by rw [Bool.not_eq_true', decide_eq_false_iff_not]; exact fun z => h1 (V.str.inj z)) ?_
        refine ⟨_, rfl, t, _, _, .str c.2, rfl, rfl, ht4, rfl, _, rfl, F, _, rfl, .inl (SqL.of hF4), rfl, flat_strs, _, rfl, ?_⟩
        have e : (!inV (.str c.2) (((cs.take i).map (·.1)).map V.str)) = true := by rw [inV_strs, decide_eq_false h2]; rfl
        refine iteTD e ?_
        exact q false _ (s3.trans s4) ⟨fun z => Bool.noConfusion z, fun z => absurd (z i c hc).2.2 hup⟩
      refine stepNo (fun Hx => Hx = H4) (fun Q' hQ => ?_) (fun Hx hx => ?_)
      · refine ⟨_, rfl, t, _, _, .str c.2, rfl, rfl, ht4, rfl, rfl, _, rfl, ?_⟩
        by_cases hc2 : c.2 = ""
        · refine iteFD (by rw [hc2]; decide +kernel) ?_
          exact hQ _ rfl
        · refine iteTD (by rw [Bool.not_eq_true', decide_eq_false_iff_not]; exact fun z => hc2 (V.str.inj z)) ?_
          refine ⟨_, rfl, t, _, _, .str c.2, rfl, rfl, ht4, rfl, _, rfl, F, _, rfl, .inl (SqL.of hF4), rfl, flat_strs, _, rfl, ?_⟩
          have e : (!inV (.str c.2) (((cs.take i).map (·.1)).map V.str)) = false := by rw [inV_strs, decide_eq_true (hup.resolve_left hc2)]; rfl
          show Q' (!inV (.str c.2) (((cs.take i).map (·.1)).map V.str)) H4
          rw [e]
          exact hQ _ rfl
      · subst hx
        refine ⟨_, rfl, .inl ⟨rfl, _, SqL.of hF4⟩, _, rfl, t, _, _, .str c.1, rfl, rfl, ht4, rfl, F, _, _, rfl, rfl, hF4, ?_, ?_⟩
        · rw [List.length_map, List.length_map, List.length_take]
          omega
        · refine ⟨_, rfl, Same.updn (s3.trans s4) hFn, ?_, fun j hj => ?_⟩
          · rw [upd_same, List.take_add_one, hc, List.map_append, List.map_append]
            rfl
          · by_cases hji : j = i
            · subst hji
              intro d hd
              rw [hc] at hd
              cases hd
              exact ⟨hnm, hnew, hup⟩
            · exact hg j (by omega)
/-! ### parts -/
theorem uniq_le (l : List Str) : (uniq l).length ≤ l.length := uniq_len l
def spArePD {R : TRows K mg} (T : TPart R) : Sp := fun vs H Q _ => ∃ (pu : V) (bk : List PartD), vs = [pu] ∧ PtsArg T H pu bk ∧ bk.length ≤ 50 ∧ ∀ (b : Bool) H', Same H H' → (b = true ↔ bk ≠ [] ∧ (bk.map (·.1)).Nodup) → Q (.bl b) H'
theorem ok_arePD {R : TRows K mg} {T : TPart R} (B : TBks T) : FnOk P w K mg base CX0 2 B.areP.f B.areP.fd ["parts"] (spArePD T) := by
  refine B.areP.F.ok scAreP (fun vs H Q E h => ?_) (fun cdv A outer s H vs Q E hr h => ?_)
  · obtain ⟨pu, bk, rfl, _⟩ := h
    rfl
  · obtain ⟨pu, bk, rfl, ⟨p, ps, rfl, hp, hpd⟩, hlen, q⟩ := h
    refine ⟨_, pss_cons (ps_if (PW.pt (pw_or (pt_not (pt_val (pe_call (ok_isSeq T.isSeq.F R.N.mIsi T.mList T.mTup) (hr.mono (by decide)) rfl T.isSeq.m T.isSeq.F.kp T.isSeq.b .nil pass0 (pa_cons (pv 0) pa_nil))))
          (pw_or1 (pt_not (pt_val (pe_callB (cr_all rfl) (by rfl) R.N.mAll (by decide +kernel) (pa_cons (pe_lc (own := [("part", 1)]) (g := gName 1) (tt := tYes) (by rfl) scAreP.nd (pi_seq (pv 0))
            (blkOk_by (N := ["parts", "part"]) (sc := defScope sAreP) (by decide +kernel)) (fun _ _ _ _ _ => pg_name (i := 1) scAreP.nd rfl (Or.inl rfl)) (fun _ _ _ _ _ => pts_nil)
            (fun _ _ _ _ _ => pe_callB (show CallR _ (.builtin "isinstance") (rIsi K) from call_isi) (by rfl) R.N.mIsi (by decide +kernel) (pa_cons (pv 1) (pa_cons (pe_glob (v := .ref T.C) (by rfl) T.mC rfl) pa_nil)))) pa_nil)))))))
        (pss_one (ps_ret pe_bl)) pss_nil)
      (pss_one (ps_ret (pe_chain op_lt op_eq pe_int (pe_callB call_len_seq (by rfl) R.N.mLen PySem.boot_len (pa_cons (pv 0) pa_nil))
        (pe_callB cr_lenX (by rfl) R.N.mLen PySem.boot_len (pa_cons (pe_callTy (cr_setX rfl) (by rfl) B.mSet (by decide +kernel) (pa_cons (pe_lc (own := [("part", 1)]) (g := gName 1) (tt := tYes) (by rfl) scAreP.nd (pi_seq (pv 0))
            (blkOk_by (N := ["parts", "part"]) (sc := defScope sAreP) (by decide +kernel)) (fun _ _ _ _ _ => pg_name (i := 1) scAreP.nd rfl (Or.inl rfl)) (fun _ _ _ _ _ => pts_nil)
            (fun _ _ _ _ _ => (show PE _ _ (tFld K (tVar 1) "name") from pe_fld (pv 1) rfl))) pa_nil)) pa_nil))))), ?_⟩
    obtain ⟨t0, hk, ht1, ht2⟩ := seq_kind hp
    refine ⟨_, rfl, _, t0, true, rfl, ht1, hk, ht2, fun H1 s1 m1 => ⟨true, rfl, iteF ?_⟩⟩
    have hpl : ps.length = bk.length := paired_len hpd
    have big : (1001 : Nat) ≤ sizeLine := by decide
    have hp1 := hp.same s1
    have hpd1 := paired_mono (fun _ _ z => PtAt.same z s1) hpd
    unfold tNot tB tCB tCons
    refine lcw_seq (fun R r => ⟨_, rfl, r⟩) hp1 (by rw [List.length_map]; omega) (out := fun i => (ps[i]?).map fun _ => V.bl true) (fun i x Hi S Y hx si _ hY => ?_) (fun D H2 hD s2 hD2 => ?_)
    · rw [List.getElem?_map] at hx
      cases hxi : ps[i]? with
      | none => rw [hxi] at hx; cases hx
      | some a =>
      rw [hxi] at hx
      cases hx
      obtain ⟨qq, hq, hpt⟩ := paired_at hpd1 hxi
      obtain ⟨dx, tp, us, ha, _, _⟩ := hpt.same si
      refine ⟨rfl, _, rfl, .ref a, .ref T.C, _, _, true, rfl, .own _, .base (.ins ha T.cl T.pA T.cN T.cT T.pM), T.kC, ?_⟩
      exact hY _ (by show (ps[i]?).map _ = _; rw [hxi]; rfl) _ (Same.refl _)
    · rw [List.length_map, out_map] at hD2
      refine ⟨D, ps.map fun _ => true, rfl, SqL.of (by rw [hD2, List.map_map]; rfl), ?_⟩
      rw [all_tt]
      refine ⟨true, rfl, iteF ?_⟩
      have hp2 := hp1.same s2
      have hpd2 := paired_mono (fun _ _ z => PtAt.same z s2) hpd1
      by_cases hne : bk = []
      · refine ⟨_, rfl, p, _, rfl, hp2, _, _, rfl, rfl, false, ?_, iteF ?_⟩
        · rw [List.length_map, hpl, hne]
          rfl
        · exact q false _ (s1.trans s2) ⟨fun z => Bool.noConfusion z, fun z => absurd hne z.1⟩
      refine ⟨_, rfl, p, _, rfl, hp2, _, _, rfl, rfl, true, ?_, iteT ?_⟩
      · rw [List.length_map, hpl]
        have : 0 < bk.length := List.length_pos_iff.mpr hne
        show V.bl (decide ((0 : Int) < (bk.length : Int))) = V.bl true
        rw [decide_eq_true (by omega)]
      show tLc (iSeq K (tVar 0)) (gName 1) tYes (tFld K (tVar 1) "name") [1] _ H2 _
      refine lcw_seq (fun R r => ⟨_, rfl, r⟩) hp2 (by rw [List.length_map]; omega) (out := fun i => (bk[i]?).map fun q => V.str q.1) (fun i x Hi S Y hx si _ hY => ?_) (fun D3 H3 hD3 s3 hD4 => ?_)
      · rw [List.getElem?_map] at hx
        cases hxi : ps[i]? with
        | none => rw [hxi] at hx; cases hx
        | some a =>
        rw [hxi] at hx
        cases hx
        obtain ⟨qq, hq, hpt⟩ := paired_at hpd2 hxi
        obtain ⟨dx, tp, us, ha, _, _⟩ := hpt.same si
        refine ⟨rfl, _, rfl, a, T.C, dx, _, .str qq.1, rfl, ha, T.cl, T.noN, part_name, ?_⟩
        exact hY _ (by show (bk[i]?).map _ = _; rw [hq]; rfl) _ (Same.refl _)
      · rw [List.length_map, hpl, out_map] at hD4
        have hul := uniq_le (bk.map (·.1))
        rw [List.length_map] at hul
        refine ⟨D3, bk.map (·.1), rfl, SqL.of (by rw [hD4, List.map_map]; rfl), by rw [List.length_map]; omega, fun S hS => ?_⟩
        refine ⟨S, uniq (bk.map (·.1)), rfl, upd_same, by omega, ?_⟩
        refine ⟨rfl, ?_⟩
        refine q _ _ (((s1.trans s2).trans s3).trans (Same.new hS)) ?_
        rw [decide_eq_true_iff, List.length_map, hpl]
        constructor
        · intro z
          refine ⟨hne, ?_⟩
          have z1 : (bk.length : Int) = ((uniq (bk.map (·.1))).length : Int) := V.int.inj z
          have pm : (uniq (bk.map (·.1))).Perm (bk.map (·.1)) := perm_of_sup (uniq_nodup _) (fun k hk => (uniq_has _ k).mp hk) (by rw [List.length_map]; omega)
          exact pm.nodup_iff.mp (uniq_nodup _)
        · intro z
          rw [uniq_of_nodup z.2, List.length_map]
/-! ### puts_are_earlier -/
theorem all_dec {α : Type} {l : List α} {p : α → Prop} [DecidablePred p] : (l.map fun x => decide (p x)).all id = true ↔ ∀ x ∈ l, p x := by simp
def EarlyAt (bk : List PartD) (i : Nat) : Prop := ∀ p, bk[i]? = some p → ∀ z, RowD.put z ∈ p.2 → z ∈ (bk.take i).map (·.1)
def spPEarlyD {R : TRows K mg} (T : TPart R) : Sp := fun vs H Q _ => ∃ (pu : V) (bk : List PartD), vs = [pu] ∧ PtsArg T H pu bk ∧ bk.length ≤ 50 ∧ (∀ p ∈ bk, p.2.length ≤ 100) ∧ ∀ (b : Bool) H', Same H H' → (b = true ↔ Earlier bk) → Q (.bl b) H'
theorem ok_pEarlyD {R : TRows K mg} {T : TPart R} (B : TBks T) : FnOk P w K mg base CX0 2 B.pEarly.f B.pEarly.fd ["parts"] (spPEarlyD T) := by
  refine B.pEarly.F.ok scPEarly (fun vs H Q E h => ?_) (fun cdv A outer s H vs Q E hr h => ?_)
  · obtain ⟨pu, bk, rfl, _⟩ := h
    rfl
  · obtain ⟨pu, bk, rfl, ⟨p, ps, rfl, hp, hpd⟩, hlen, hrl, q⟩ := h
    refine ⟨_, pss_cons (ps_set (i := 1) scPEarly.nd rfl (Or.inr rfl) (pe_lst pa_nil))
      (pss_cons (ps_for PassesOwn.never rfl (pi_seq (pv 0)) (pg_name (i := 2) scPEarly.nd rfl (Or.inl rfl))
        (pss_cons (ps_if (pt_not (pt_val (pe_callB (cr_all rfl) (by rfl) R.N.mAll (by decide +kernel) (pa_cons (pe_lc (own := [("name", 3)]) (g := gName 3) (tt := tYes) (by rfl) scPEarly.nd (pi_list (pe_call (ok_nPut B) hr rfl B.nPut.m B.nPut.F.kp B.nPut.b .nil pass0 (pa_cons (pv 2) pa_nil)))
            (blkOk_by (N := ["parts", "earlier", "part", "name"]) (sc := defScope sPEarly) (by decide +kernel)) (fun _ _ _ _ _ => pg_name (i := 3) scPEarly.nd rfl (Or.inl rfl)) (fun _ _ _ _ _ => pts_nil)
            (fun _ _ _ _ _ => pe_cmpR (show OpR _ (compareOp .In) (rIn K false) from op_in_seq) (pv 3) (pv 1) rfl)) pa_nil)))) (pss_one (ps_ret pe_bl)) pss_nil)
        (pss_one (ps_expr (pe_bm PySem.F.plainAttrs_list PySem.F.slot_list_append PySem.F.type_list_append mt_append (pv 1) (pa_cons (pe_fld (pv 2) rfl) pa_nil))))))
      (pss_one (ps_ret pe_bl))), ?_⟩
    have hpl : ps.length = bk.length := paired_len hpd
    have big : (1001 : Nat) ≤ sizeLine := by decide
    refine ⟨Nat.zero_le _, fun F hF => ?_⟩
    have s1 := Same.new (o := .lst []) hF
    have hF1 : upd H F (.lst []) F = some (.lst []) := upd_same
    generalize upd H F (.lst []) = H1 at s1 hF1 ⊢
    have hFn : H F = none := hF
    refine forw_seq (fun R r => ⟨_, rfl, r⟩) hp (fun i σ Hi => ∃ x2 x3, σ = [some (.ref p), some (.ref F), x2, x3] ∧ Same H Hi ∧ Hi F = some (.lst (((bk.take i).map (·.1)).map V.str)) ∧ ∀ j, j < i → EarlyAt bk j) ⟨_, _, rfl, s1, hF1, fun j hj => absurd hj (Nat.not_lt_zero j)⟩ (fun i σ Hi hP => by obtain ⟨_, _, _, s, _⟩ := hP; exact s) (fun i x σ Hi hx hP => ?_) (fun σ Hi hP => ?_)
    · obtain ⟨x2, x3, rfl, s3, hFi, hg⟩ := hP
      obtain ⟨a, qq, ha, hq, rfl, hpt⟩ := pts_at hpd hx
      have hqm := List.mem_of_getElem? hq
      have hi : i < bk.length := (List.getElem?_eq_some_iff.mp hq).1
      have hpt3 := hpt.same s3
      refine ⟨_, rfl, a, qq, rfl, hpt3, hrl qq hqm, fun D H4 hD s4 hD4 => ?_⟩
      have hpu : (putsOf qq.2).length ≤ 100 := Nat.le_trans (puts_len _) (hrl qq hqm)
      have hF4 := s4 _ _ hFi
      refine ⟨D, rfl, ⟨_, SqL.of hD4⟩, fun D2 hD2 => lc_list (xs := (putsOf qq.2).map V.str) (fun j Hj => Same H4 Hj ∧ Hj D2 = some (.lst ((List.range j).filterMap fun j => ((putsOf qq.2)[j]?).map fun z => V.bl (decide (z ∈ (bk.take i).map (·.1)))))) ⟨Same.new hD2, upd_same⟩ (fun j Hj _ hP => SqL.of (hP.1 _ _ hD4))
        (lc_keep (by rw [List.length_map]; omega) (fun j y Hj S Y hy sj _ hY => ?_) hD2) (fun Hj hP => ?_)⟩
      · rw [List.getElem?_map] at hy
        cases hz : (putsOf qq.2)[j]? with
        | none => rw [hz] at hy; cases hy
        | some z =>
        rw [hz] at hy
        cases hy
        refine ⟨rfl, _, rfl, _, rfl, F, _, rfl, .inl (SqL.of (sj _ _ hF4)), rfl, flat_strs, ?_⟩
        have e : inV (.str z) (((bk.take i).map (·.1)).map V.str) = decide (z ∈ (bk.take i).map (·.1)) := inV_strs
        show Y (.bl (inV (.str z) (((bk.take i).map (·.1)).map V.str))) Hj
        rw [e]
        exact hY _ (by show ((putsOf qq.2)[j]?).map _ = _; rw [hz]; rfl) _ (Same.refl _)
      · obtain ⟨s5, hD5⟩ := hP
        rw [List.length_map, out_map] at hD5
        refine ⟨D2, (putsOf qq.2).map fun z => decide (z ∈ (bk.take i).map (·.1)), rfl, SqL.of (by rw [hD5, List.map_map]; rfl), ?_⟩
        by_cases hea : EarlyAt bk i
        case neg =>
          have e : ((putsOf qq.2).map fun z => decide (z ∈ (bk.take i).map (·.1))).all id = false := by
            rw [← Bool.not_eq_true, all_dec]
            intro z
            exact hea fun q2 hq2 y hy => by
              rw [hq] at hq2
              cases hq2
              exact z y (mem_puts.mpr hy)
          rw [e]
          refine ⟨false, rfl, iteT ?_⟩
          exact q false _ ((s3.trans s4).trans s5) ⟨fun z => Bool.noConfusion z, fun z => absurd (fun q2 hq2 y hy => z i q2 hq2 y hy) hea⟩
        have e : ((putsOf qq.2).map fun z => decide (z ∈ (bk.take i).map (·.1))).all id = true := by
          rw [all_dec]
          exact fun y hy => hea qq hq y (mem_puts.mp hy)
        rw [e]
        refine ⟨true, rfl, iteF ?_⟩
        obtain ⟨dx, tp, us, hat, _, _⟩ := hpt3.same (s4.trans s5)
        have hF5 := s5 _ _ hF4
        refine ⟨_, rfl, .inl ⟨rfl, _, SqL.of hF5⟩, _, rfl, a, T.C, dx, _, .str qq.1, rfl, hat, T.cl, T.noN, part_name, F, _, _, rfl, rfl, hF5, ?_, ?_⟩
        · rw [List.length_map, List.length_map, List.length_take]
          omega
        · refine ⟨_, _, rfl, Same.updn ((s3.trans s4).trans s5) hFn, ?_, fun j hj => ?_⟩
          · rw [upd_same, List.take_add_one, hq, List.map_append, List.map_append]
            rfl
          · by_cases hji : j = i
            · subst hji
              exact hea
            · exact hg j (by omega)
    · obtain ⟨_, _, rfl, s3, _, hg⟩ := hP
      rw [List.length_map, hpl] at hg
      exact q true _ s3 ⟨fun _ i p hp => hg i (List.getElem?_eq_some_iff.mp hp).1 p hp, fun _ => rfl⟩
/-! ### refs_are_known -/
def spRefsKD (R : TRows K mg) : Sp := fun vs H Q _ => ∃ (p : Addr) (us : List Addr) (rs : List RowD), vs = [.ref p] ∧ Sq K H p (us.map V.ref) ∧ RowsIn R H us rs ∧ rs.length ≤ 4000 ∧ ∀ (b : Bool) H', Same H H' → (b = true ↔ ∀ l, RowD.ref l ∈ rs → ∃ c, RowD.note c l ∈ rs) → Q (.bl b) H'
theorem ok_refsKD {R : TRows K mg} {T : TPart R} (B : TBks T) : FnOk P w K mg base CX0 1 B.refsK.f B.refsK.fd ["rows"] (spRefsKD R) := by
  refine B.refsK.F.ok scRefsK (fun vs H Q E h => ?_) (fun cdv A outer s H vs Q E hr h => ?_)
  · obtain ⟨p, us, rs, rfl, _⟩ := h
    rfl
  · obtain ⟨p, us, rs, rfl, hp, hus, hlen, q⟩ := h
    refine ⟨_, pss_cons (ps_set (i := 1) scRefsK.nd rfl (Or.inr rfl) (pe_lc (own := [("row", 2)]) (g := gName 2) (by rfl) scRefsK.nd (pi_seq (pv 0))
      (blkOk_by (N := ["rows", "labels", "row"]) (sc := defScope sRefsK) (by decide +kernel)) (fun _ _ _ _ _ => pg_name (i := 2) scRefsK.nd rfl (Or.inl rfl))
      (fun _ _ _ _ _ => pts_one (pt_cmpR op_eq (show PE _ _ (tFld K (tVar 2) "word") from pe_fld (pv 2) rfl) pe_str (nomark _))) (fun _ _ _ _ _ => (show PE _ _ (tFld K (tVar 2) "label") from pe_fld (pv 2) rfl))))
      (pss_one (ps_ret (pe_callB (cr_all rfl) (by rfl) R.N.mAll (by decide +kernel) (pa_cons (pe_lc (own := [("row", 2)]) (g := gName 2) (by rfl) scRefsK.nd (pi_seq (pv 0))
      (blkOk_by (N := ["rows", "labels", "row"]) (sc := defScope sRefsK) (by decide +kernel)) (fun _ _ _ _ _ => pg_name (i := 2) scRefsK.nd rfl (Or.inl rfl))
      (fun _ _ _ _ _ => pts_one (pt_cmpR op_eq (show PE _ _ (tFld K (tVar 2) "word") from pe_fld (pv 2) rfl) pe_str (nomark _))) (fun _ _ _ _ _ => pe_cmpR (show OpR _ (compareOp .In) (rIn K false) from op_in_seq) (show PE _ _ (tFld K (tVar 2) "label") from pe_fld (pv 2) rfl) (pv 1) rfl)) pa_nil)))), ?_⟩
    have hul : us.length = rs.length := paired_len hus
    unfold tSeq tAsg
    refine lcw_seq (fun R r => ⟨_, rfl, r⟩) hp (by rw [List.length_map]; omega) (out := fun i => (rs[i]?).bind fun r => (labOf r).map V.str) (fun i x Hi S Y hx si hS hY => ?_) (fun D H2 hD s2 hD2 => ?_)
    · obtain ⟨u, r, hu, hr2, rfl, hrow⟩ := rows_at hus hx
      obtain ⟨dw, fw, w1, w2, w3, w4⟩ := at_word R (hrow.same si)
      refine ⟨rfl, _, rfl, u, _, dw, fw, _, rfl, w1, w2, w3, w4, rfl, _, rfl, ?_⟩
      have hb : (rs[i]?).bind (fun r => (labOf r).map V.str) = (labOf r).map V.str := by rw [hr2]; rfl
      rw [note_word]
      cases hp2 : labOf r with
      | none =>
        refine iteF ?_
        exact hS (by rw [hp2] at hb; exact hb) _ (Same.refl _)
      | some z =>
        refine iteT ?_
        obtain ⟨c, rfl⟩ : ∃ c, r = .note c z := by
          cases r with
          | note c y => cases hp2; exact ⟨c, rfl⟩
          | _ => cases hp2
        obtain ⟨dp, fp, p1, p2, p3, p4⟩ := at_notelab R (hrow.same si)
        exact ⟨_, rfl, u, _, dp, fp, _, rfl, p1, p2, p3, p4, hY _ (by rw [hp2] at hb; exact hb) _ (Same.refl _)⟩
    · rw [List.length_map, hul, out_filter] at hD2
      have hD3 : H2 D = some (.lst ((rs.filterMap labOf).map V.str)) := by rw [hD2, List.map_filterMap]
      have hus2 := hus.same s2
      unfold gName tRet tCB tCons
      dsimp only
      refine lcw_seq (fun R r => ⟨_, rfl, r⟩) (hp.same s2) (by rw [List.length_map]; omega) (out := fun i => (rs[i]?).bind fun r => (refOf r).map fun z => V.bl (decide (z ∈ rs.filterMap labOf))) (fun i x Hi S Y hx si hS hY => ?_) (fun D4 H4 hD4 s4 hD5 => ?_)
      · obtain ⟨u, r, hu, hr2, rfl, hrow⟩ := rows_at hus2 hx
        obtain ⟨dw, fw, w1, w2, w3, w4⟩ := at_word R (hrow.same si)
        refine ⟨rfl, _, rfl, u, _, dw, fw, _, rfl, w1, w2, w3, w4, rfl, _, rfl, ?_⟩
        have hb : (rs[i]?).bind (fun r => (refOf r).map fun z => V.bl (decide (z ∈ rs.filterMap labOf))) = (refOf r).map fun z => V.bl (decide (z ∈ rs.filterMap labOf)) := by rw [hr2]; rfl
        rw [ref_word]
        cases hp2 : refOf r with
        | none =>
          refine iteF ?_
          exact hS (by rw [hp2] at hb; exact hb) _ (Same.refl _)
        | some z =>
          refine iteT ?_
          obtain rfl : r = .ref z := by
            cases r with
            | ref y => cases hp2; rfl
            | _ => cases hp2
          obtain ⟨dp, fp, p1, p2, p3, p4⟩ := at_reflab R (hrow.same si)
          refine ⟨_, rfl, u, _, dp, fp, _, rfl, p1, p2, p3, p4, _, rfl, D, _, rfl, .inl (SqL.of (si _ _ hD3)), rfl, flat_strs, ?_⟩
          have e : inV (.str z) ((rs.filterMap labOf).map V.str) = decide (z ∈ rs.filterMap labOf) := inV_strs
          show Y (.bl (inV (.str z) ((rs.filterMap labOf).map V.str))) Hi
          rw [e]
          exact hY _ (by rw [hp2] at hb; exact hb) _ (Same.refl _)
      · rw [List.length_map, hul, out_filter] at hD5
        refine ⟨D4, (rs.filterMap refOf).map fun z => decide (z ∈ rs.filterMap labOf), rfl, SqL.of (by rw [hD5, List.map_map, List.map_filterMap]; rfl), ?_⟩
        refine q _ _ (s2.trans s4) ?_
        rw [all_dec]
        constructor
        · intro z l hl
          obtain ⟨r, hr, hrl⟩ := List.mem_filterMap.mp (z l (List.mem_filterMap.mpr ⟨_, hl, rfl⟩))
          cases r with
          | note c y => cases hrl; exact ⟨c, hr⟩
          | _ => cases hrl
        · intro z l hl
          obtain ⟨r, hr, hrl⟩ := List.mem_filterMap.mp hl
          cases r with
          | ref y =>
            cases hrl
            obtain ⟨c, hc⟩ := z _ hr
            exact List.mem_filterMap.mpr ⟨_, hc, rfl⟩
          | _ => cases hrl
end
end Pn

namespace Pn
open PySem L2 TL
section
variable {P : Program} {w : World} {K : PySem.W.Frag} {mg : Str → Option Value} {base : Heap}
/-! ### counters_are_known -/
def SeenTo (bk : List PartD) (acc : List RowD) (i j : Nat) : Prop := (∀ p ∈ bk.take i, ∀ r ∈ p.2, ∀ c, cntOf r = some c → r ∈ acc) ∧ ∀ p, bk[i]? = some p → ∀ r ∈ p.2.take j, ∀ c, cntOf r = some c → r ∈ acc
theorem seen_start {bk : List PartD} {acc : List RowD} : SeenTo bk acc 0 0 := ⟨fun p hp => (List.not_mem_nil hp).elim, fun p _ r hr => (List.not_mem_nil (List.take_zero ▸ hr)).elim⟩
theorem seen_next {bk : List PartD} {acc : List RowD} {i j : Nat} {p : PartD} (hp : bk[i]? = some p) (hj : p.2.length ≤ j) (h : SeenTo bk acc i j) : SeenTo bk acc (i + 1) 0 := by
  refine ⟨fun q hq r hr c hc => ?_, fun p _ r hr => by rw [List.take_zero] at hr; cases hr⟩
  rw [List.take_add_one, hp] at hq
  rcases List.mem_append.mp hq with hq | hq
  · exact h.1 q hq r hr c hc
  · obtain rfl : q = p := List.mem_singleton.mp hq
    exact h.2 q hp r (by rw [List.take_of_length_le hj]; exact hr) c hc
theorem seen_step {bk : List PartD} {acc acc' : List RowD} {i j : Nat} {p : PartD} {r : RowD} (hp : bk[i]? = some p) (hr : p.2[j]? = some r) (sub : ∀ x ∈ acc, x ∈ acc') (new : ∀ c, cntOf r = some c → r ∈ acc') (h : SeenTo bk acc i j) : SeenTo bk acc' i (j + 1) := by
  refine ⟨fun q hq r hr c hc => sub _ (h.1 q hq r hr c hc), fun q hq x hx c hc => ?_⟩
  rw [hp] at hq
  cases hq
  rw [List.take_add_one, hr] at hx
  rcases List.mem_append.mp hx with hx | hx
  · exact sub _ (h.2 p hp x hx c hc)
  · obtain rfl : x = r := List.mem_singleton.mp hx
    exact new c hc
def cIn (cs : List (Str × Str)) (r : RowD) : Bool := match cntOf r with | some c => decide (c ∈ cs.map (·.1)) | none => true
def spCKnownD {R : TRows K mg} (T : TPart R) : Sp := fun vs H Q _ => ∃ (cu pu : V) (cs : List (Str × Str)) (bk : List PartD), vs = [cu, pu] ∧ CsArg K H cu cs ∧ PtsArg T H pu bk ∧ cs.length ≤ 100 ∧ bk.length ≤ 50 ∧ (∀ p ∈ bk, p.2.length ≤ 100) ∧ ∀ (b : Bool) H', Same H H' → (b = true ↔ ∀ p ∈ bk, ∀ r ∈ p.2, ∀ c, cntOf r = some c → c ∈ cs.map (·.1)) → Q (.bl b) H'
theorem ok_cKnownD {R : TRows K mg} {T : TPart R} (B : TBks T) : FnOk P w K mg base CX0 1 B.cKnown.f B.cKnown.fd ["counters", "parts"] (spCKnownD T) := by
  refine B.cKnown.F.ok scCKnown (fun vs H Q E h => ?_) (fun cdv A outer s H vs Q E hr h => ?_)
  · obtain ⟨cu, pu, cs, bk, rfl, _⟩ := h
    rfl
  · obtain ⟨cu, pu, cs, bk, rfl, ⟨cp, ts, rfl, hcp, hcd⟩, ⟨p, ps, rfl, hp, hpd⟩, hcl, hbl, hrl, q⟩ := h
    refine ⟨_, pss_cons (ps_set (i := 2) scCKnown.nd rfl (Or.inr rfl) (pe_lc (own := [("name", 4), ("upper", 5)]) (g := gTup K 2 (gCons (gName 4) (gCons (gName 5) gNil))) (tt := tYes) (by rfl) scCKnown.nd (pi_seq (pv 0))
        (blkOk_by (N := ["counters", "parts", "names", "rows", "name", "upper", "part", "row"]) (sc := defScope sCKnown) (by decide +kernel)) (fun _ _ _ _ _ => pg_tup (by rfl) (pgs_cons (pg_name (i := 4) scCKnown.nd rfl (Or.inl rfl)) (pgs_cons (pg_name (i := 5) scCKnown.nd rfl (Or.inl rfl)) pgs_nil))) (fun _ _ _ _ _ => pts_nil) (fun _ _ _ _ _ => pv 4)))
      (pss_cons (ps_setLc2 (i := 3) (own := [("part", 6), ("row", 7)]) (vs1 := [7]) (g := gName 6) (g1 := gName 7) (tt := tYes) (by rfl) scCKnown.nd rfl rfl (sw_true rfl rfl rfl (by decide +kernel)) (pi_seq (pv 1))
        (blkOk_by (N := ["counters", "parts", "names", "rows", "name", "upper", "part", "row"]) (sc := defScope sCKnown) (by decide +kernel)) (by decide) (fun _ _ _ _ _ => pg_name (i := 6) scCKnown.nd rfl (Or.inl rfl)) (fun _ _ _ _ _ => pts_nil)
        (fun _ _ _ _ _ => (show PI _ _ _ (iTup K (tFld K (tVar 6) "rows")) from pi_tup (pe_fld (pv 6) rfl))) (fun _ _ _ _ _ => pg_name (i := 7) scCKnown.nd rfl (Or.inl rfl))
        (fun _ _ _ _ _ => pts_one (pt_cmpR (show OpR _ (compareOp .In) (rIn K false) from op_in_seq) (show PE _ _ (tFld K (tVar 7) "word") from pe_fld (pv 7) rfl) (pe_glob (v := .ref B.cw) (by rfl) B.mCW rfl) rfl)) (fun _ _ _ _ _ => pv 7))
      (pss_one (ps_ret (pe_callB (cr_all rfl) (by rfl) R.N.mAll (by decide +kernel) (pa_cons (pe_lc (own := [("row", 7)]) (g := gName 7) (tt := tYes) (by rfl) scCKnown.nd (pi_list (pv 3))
        (blkOk_by (N := ["counters", "parts", "names", "rows", "name", "upper", "part", "row"]) (sc := defScope sCKnown) (by decide +kernel)) (fun _ _ _ _ _ => pg_name (i := 7) scCKnown.nd rfl (Or.inl rfl)) (fun _ _ _ _ _ => pts_nil)
        (fun _ _ _ _ _ => pe_cmpR (show OpR _ (compareOp .In) (rIn K false) from op_in_seq) (show PE _ _ (tFld K (tVar 7) "counter") from pe_fld (pv 7) rfl) (pv 2) rfl)) pa_nil))))), ?_⟩
    have hpl : ps.length = bk.length := paired_len hpd
    have htl : ts.length = cs.length := paired_len hcd
    unfold tSeq tAsg
    refine lcw_seq (fun R r => ⟨_, rfl, r⟩) hcp (by rw [List.length_map]; omega) (out := fun i => (cs[i]?).map fun c => V.str c.1) (fun i x Hi S Y hx si hS hY => ?_) (fun D H2 hD s2 hD2 => ?_)
    · rw [List.getElem?_map] at hx
      cases hxi : ts[i]? with
      | none => rw [hxi] at hx; cases hx
      | some t =>
      rw [hxi] at hx
      cases hx
      obtain ⟨c, hc, ht⟩ := paired_at hcd hxi
      refine ⟨t, _, rfl, Same.sqt si ht, rfl, _, _, rfl, _, _, rfl, rfl, rfl, _, rfl, ?_⟩
      exact hY _ (by show (cs[i]?).map _ = _; rw [hc]; rfl) _ (Same.refl _)
    rw [List.length_map, htl, out_map] at hD2
    have hN : H2 D = some (.lst ((cs.map (·.1)).map V.str)) := by rw [hD2, List.map_map]; rfl
    have hpd2 := paired_mono (fun _ _ z => PtAt.same z s2) hpd
    have hp2 := hp.same s2
    clear hD2
    unfold gName
    dsimp only
    -- the rows that count
    have second : ∀ (σ : L2.St) (Q' : VK), σ = [some (.ref cp), some (.ref p), some (.ref D), none, none, none, none, none] → (∀ (L : Addr) (H3 : Hp) (acc : List (Addr × RowD)), Same H2 H3 → H3 L = some (.lst (acc.map fun x => V.ref x.1)) → acc.length ≤ 5000 → (∀ x ∈ acc, RowAt R H3 x.1 x.2 ∧ (∃ c, cntOf x.2 = some c) ∧ ∃ p ∈ bk, x.2 ∈ p.2) → SeenTo bk (acc.map (·.2)) bk.length 0 → Q' (.ref L) H3) →
        tLc2 (iSeq K (tVar 1)) (gName 6) tYes (iTup K (tFld K (tVar 6) "rows")) (gName 7) (tTest (tOp (rIn K false) (tFld K (tVar 7) "word") (tC (.ref B.cw)))) (tVar 7) [6, 7] [7] σ H2 Q' := by
      intro σ Q' hσ hQ
      subst hσ
      have body : ∀ L, H2 L = none → ∀ {J : It} {G : Hp → Prop}, Walk J (ps.map V.ref).length G (YAt (ps.map V.ref)) → (∀ Hi, Same H2 Hi → G Hi) → _ := fun L hL {J G} wk hG =>
        lc2_walk (K := K) (xs := ps.map V.ref) (D := L) (H := H2) (Q := Q') (vs := [6, 7]) (vs1 := [7]) (k := 6) (k1 := 7) (te1 := tFld K (tVar 6) "rows") (tt1 := tTest (tOp (rIn K false) (tFld K (tVar 7) "word") (tC (.ref B.cw)))) (te := tVar 7)
          (σ := [some (.ref cp), some (.ref p), some (.ref D), none, none, none, none, none]) wk rfl
          (fun i j Hi => Same H2 Hi ∧ ∃ acc : List (Addr × RowD), Hi L = some (.lst (acc.map fun x => V.ref x.1)) ∧ acc.length ≤ 100 * i + j ∧ (∀ x ∈ acc, RowAt R Hi x.1 x.2 ∧ (∃ c, cntOf x.2 = some c) ∧ ∃ p ∈ bk, x.2 ∈ p.2) ∧ SeenTo bk (acc.map (·.2)) i j)
          ⟨Same.new hL, [], upd_same, Nat.le_refl _, (fun x h => by cases h), seen_start⟩ (fun i Hi hP => hG Hi hP.1) (fun _ => rfl)
          (fun i x Hi hx hP => ?inn) (fun Hi hP => ?fin)
      case inn =>
        obtain ⟨a, qq, ha, hq, rfl, hpt⟩ := pts_at hpd2 hx
        obtain ⟨si, _⟩ := hP
        obtain ⟨dx, tp, us, hat, htp, hus⟩ := hpt
        have hqm := List.mem_of_getElem? hq
        have hul : us.length = qq.2.length := paired_len hus
        refine ⟨tp, us.map V.ref, fun R' r => ⟨_, rfl, a, T.C, dx, _, .ref tp, rfl, si _ _ hat, T.cl, T.noR, part_rows, r⟩, fun j Hj hP => Same.sqt hP.1 htp, fun Hj hP => ?_, fun j y Hj hy hP => ⟨rfl, ?_⟩⟩
        · obtain ⟨sj, acc, h1, h2, h3, h4⟩ := hP
          rw [List.length_map] at h2 h4
          refine ⟨sj, acc, h1, ?_, h3, seen_next hq (by omega) h4⟩
          have := hrl qq hqm
          omega
        · obtain ⟨sj, acc, h1, h2, h3, h4⟩ := hP
          obtain ⟨u, r, hu, hr2, rfl, hrow⟩ := rows_at hus hy
          have hrow2 := hrow.same sj
          obtain ⟨dw, fw, w1, w2, w3, w4⟩ := at_word R hrow2
          have hj : j < us.length := (List.getElem?_eq_some_iff.mp hu).1
          have hi : i < ps.length := (List.getElem?_eq_some_iff.mp ha).1
          refine ⟨_, rfl, u, _, dw, fw, _, rfl, w1, w2, w3, w4, B.cw, cwV, rfl, .inr (B.hCW _), rfl, rfl, ?_⟩
          refine ⟨_, rfl, ?_⟩
          show if inV (.str (rowWord r)) cwV = true then _ else _
          rw [word_cnt]
          cases hc : cntOf r with
          | none =>
            refine iteF ?_
            exact ⟨sj, acc, h1, by omega, h3, seen_step hq hr2 (fun x hx => hx) (fun c2 hc2 => by rw [hc] at hc2; cases hc2) h4⟩
          | some c =>
            refine iteT ⟨_, rfl, _, h1, ?_, Same.updn sj hL, acc ++ [(u, r)], ?_, ?_, ?_, ?_⟩
            · rw [List.length_map]
              have big : (6001 : Nat) ≤ sizeLine := by decide
              have h5 : acc.length ≤ 100 * 50 + 100 := by
                have := hrl qq hqm
                omega
              omega
            · rw [upd_same, List.map_append]
              rfl
            · rw [List.length_append]
              show acc.length + 1 ≤ _
              omega
            · intro x hx2
              have up : ∀ {u' : Addr} {r' : RowD}, RowAt R Hj u' r' → RowAt R (upd Hj L (.lst (acc.map (fun x => V.ref x.1) ++ [.ref u]))) u' r' := fun hh => by
                obtain ⟨dy, e⟩ := hh
                obtain ⟨gs, eg⟩ := insRow_ins R dy _
                exact ⟨dy, by rw [upd_ne (fun z => by rw [z, h1, eg] at e; cases e)]; exact e⟩
              rcases List.mem_append.mp hx2 with hx2 | hx2
              · exact ⟨up (h3 x hx2).1, (h3 x hx2).2⟩
              · rw [List.mem_singleton.mp hx2]
                exact ⟨up hrow2, ⟨c, hc⟩, qq, hqm, List.mem_of_getElem? hr2⟩
            · exact seen_step hq hr2 (fun x hx => by rw [List.map_append]; exact List.mem_append_left _ hx) (fun _ _ => by rw [List.map_append]; exact List.mem_append_right _ List.mem_cons_self) h4
      case fin =>
        obtain ⟨si, acc, h1, h2, h3, h4⟩ := hP
        rw [List.length_map] at h2 h4
        rw [hpl] at h4
        exact hQ L Hi acc si h1 (by omega) h3 h4
      exact hp2.elim (fun h => .inl ⟨_, rfl, p, rfl, ⟨_, h⟩, fun L hL => body L hL walk_list (fun Hi s => s.seq h)⟩) (fun h => .inr ⟨_, rfl, p, rfl, ⟨_, h⟩, fun L hL => body L hL walk_tup (fun Hi s => Same.sqt s h)⟩)
    refine second _ _ rfl (fun L H3 acc s3 hL3 hlen hall hseen => ?_)
    unfold tRet tCB tCons
    refine lcw_list (fun R r => ⟨_, rfl, r⟩) (SqL.of hL3) (by rw [List.length_map]; omega) (out := fun i => (acc[i]?).map fun x => V.bl (cIn cs x.2)) (fun i x Hi S Y hx si hS hY => ?_) (fun D4 H4 hD4 s4 hD5 => ?_)
    · rw [List.getElem?_map] at hx
      cases hxi : acc[i]? with
      | none => rw [hxi] at hx; cases hx
      | some xr =>
      rw [hxi] at hx
      cases hx
      obtain ⟨hrow, ⟨c, hc⟩, _⟩ := hall xr (List.mem_of_getElem? hxi)
      obtain ⟨dp, fp, p1, p2, p3, p4⟩ := at_counter R (hrow.same si) hc
      refine ⟨rfl, _, rfl, xr.1, _, dp, fp, _, rfl, p1, p2, p3, p4, _, rfl, D, _, rfl, .inl (SqL.of (si _ _ (s3 _ _ hN))), rfl, flat_strs, ?_⟩
      have e : inV (.str c) ((cs.map (·.1)).map V.str) = cIn cs xr.2 := by
        rw [inV_strs]
        unfold cIn
        rw [hc]
      show Y (.bl (inV (.str c) ((cs.map (·.1)).map V.str))) Hi
      rw [e]
      exact hY _ (by show (acc[i]?).map _ = _; rw [hxi]; rfl) _ (Same.refl _)
    · rw [List.length_map, out_map] at hD5
      refine ⟨D4, acc.map fun x => cIn cs x.2, rfl, SqL.of (by rw [hD5, List.map_map]; rfl), ?_⟩
      refine q _ _ ((s2.trans s3).trans s4) ?_
      rw [List.all_map, List.all_eq_true]
      constructor
      · intro z p hp r hr c hc
        obtain ⟨x, hx, hxr⟩ := List.mem_map.mp (hseen.1 p (by rw [List.take_length]; exact hp) r hr c hc)
        have z1 : cIn cs x.2 = true := z x hx
        unfold cIn at z1
        rw [hxr, hc] at z1
        exact of_decide_eq_true z1
      · intro z x hx
        obtain ⟨_, ⟨c, hc⟩, p, hp, hxp⟩ := hall x hx
        show cIn cs x.2 = true
        unfold cIn
        rw [hc]
        exact decide_eq_true (z p hp x.2 hxp c hc)
end
end Pn

namespace Pn
open PySem L2 TL
section
variable {P : Program} {w : World} {K : PySem.W.Frag} {mg : Str → Option Value} {base : Heap}
/-! ### unroll -/
def spUnr1 {R : TRows K mg} (T : TPart R) : Sp := fun vs H Q _ => ∃ (a kp : Addr) (q : PartD) (kvs : List (Key × V)) (kn : List PartD), vs = [.ref a, .ref kp] ∧ PtAt T H a q.1 q.2 ∧ H kp = some (.dK kvs) ∧ q.2.length ≤ 100 ∧ (unrollIn kn q.2).length ≤ 4000 ∧
  (∀ z, RowD.put z ∈ q.2 → ∃ (rs : List RowD) (f : Addr) (us : List Addr), kn.lookup z = some rs ∧ valV kvs (.inr z) = some (.ref f) ∧ H f = some (.lst (us.map V.ref)) ∧ RowsIn R H us rs) ∧
  ∀ (F : Addr) (H' : Hp) (us : List Addr), H F = none → Same H H' → H' F = some (.lst (us.map V.ref)) → RowsIn R H' us (unrollIn kn q.2) → Q (.ref F) H'
theorem scUnr1 : FnScope ["part", "flat", "rows", "row"] ["part", "flat"] (defScope sUnr1) := ⟨rfl, rfl, rfl, by decide +kernel, rfl, by decide +kernel, by decide +kernel⟩
theorem unroll_take {kn : List PartD} {rs : List RowD} {j : Nat} {r : RowD} (h : rs[j]? = some r) : unrollIn kn (rs.take (j + 1)) = unrollIn kn (rs.take j) ++ expand kn r := by
  unfold unrollIn
  rw [List.take_add_one, h, List.flatMap_append]
  show _ ++ List.flatMap _ [r] = _
  rw [List.flatMap_singleton]
theorem unroll_le {kn : List PartD} {rs : List RowD} {j : Nat} : (unrollIn kn (rs.take j)).length ≤ (unrollIn kn rs).length := by
  have e : unrollIn kn rs = unrollIn kn (rs.take j) ++ unrollIn kn (rs.drop j) := by
    unfold unrollIn
    rw [← List.flatMap_append, List.take_append_drop]
  rw [e, List.length_append]
  omega
theorem ok_unr1 {R : TRows K mg} {T : TPart R} (B : TBks T) : FnOk P w K mg base CX0 1 B.unroll.f B.unroll.fd ["part", "flat"] (spUnr1 T) := by
  refine B.unroll.F.ok scUnr1 (fun vs H Q E h => ?_) (fun cdv A outer s H vs Q E hr h => ?_)
  · obtain ⟨a, kp, q, kvs, kn, rfl, _⟩ := h
    rfl
  · obtain ⟨a, kp, qq, kvs, kn, rfl, ⟨dx, tp, us, ha, htp, hus⟩, hK, hl, hul, hkn, q⟩ := h
    refine ⟨_, pss_cons (ps_set (i := 2) scUnr1.nd rfl (Or.inl rfl) (pe_lst pa_nil))
      (pss_cons (ps_for PassesOwn.never rfl (pi_tup (pe_fld (pv 0) rfl)) (pg_name (i := 3) scUnr1.nd rfl (Or.inl rfl))
        (pss_one (ps_if (pt_cmpR op_eq (pe_fld (pv 3) rfl) pe_str (nomark _))
          (pss_one (ps_expr (pe_bm PySem.F.plainAttrs_list PySem.F.slot_list_extend PySem.F.type_list_extend mt_extend (pv 2) (pa_cons (pe_dget (roomU hr) (pv 1) (pe_fld (pv 3) rfl) (fun _ _ => rfl)) pa_nil))))
          (pss_one (ps_expr (pe_bm PySem.F.plainAttrs_list PySem.F.slot_list_append PySem.F.type_list_append mt_append (pv 2) (pa_cons (pv 3) pa_nil)))))))
      (pss_one (ps_ret (pv 2)))), ?_⟩
    refine ⟨Nat.zero_le _, fun F hF => ?_⟩
    have s1 := Same.new (o := .lst []) hF
    have hF1 : upd H F (.lst []) F = some (.lst (([] : List Addr).map V.ref)) := upd_same
    generalize upd H F (.lst []) = H1 at s1 hF1 ⊢
    have huq : us.length = qq.2.length := paired_len hus
    have big : (10001 : Nat) ≤ sizeLine := by decide
    unfold gName tSeq
    dsimp only
    refine forw_tup (fun R r => ⟨_, rfl, a, T.C, dx, _, .ref tp, rfl, s1 _ _ ha, T.cl, T.noR, part_rows, r⟩) (Same.sqt s1 htp) (fun j σ Hj => ∃ x3 fs, σ = [some (.ref a), some (.ref kp), some (.ref F), x3] ∧ Same H Hj ∧ Hj F = some (.lst ((fs : List Addr).map V.ref)) ∧ RowsIn R H fs (unrollIn kn (qq.2.take j))) ⟨_, [], rfl, s1, hF1, .nil⟩ (fun j σ Hj hP => by obtain ⟨_, _, _, s, _⟩ := hP; exact Same.sqt s htp) (fun j x σ Hj hx hP => ?_) (fun σ Hj hP => ?_)
    · obtain ⟨x3, fs, rfl, sj, hFj, hfs⟩ := hP
      obtain ⟨u, r, hu, hr2, rfl, hrow⟩ := rows_at hus hx
      obtain ⟨dw, fw, w1, w2, w3, w4⟩ := at_word R (hrow.same sj)
      have hfl : fs.length = _ := paired_len hfs
      have hle := unroll_le (kn := kn) (rs := qq.2) (j := j)
      have hle2 := unroll_le (kn := kn) (rs := qq.2) (j := j + 1)
      rw [unroll_take hr2, List.length_append] at hle2
      refine ⟨_, rfl, u, _, dw, fw, _, rfl, w1, w2, w3, w4, rfl, _, rfl, ?_⟩
      rw [put_word]
      cases hp : putOf r with
      | none =>
        refine iteF ?_
        have he : expand kn r = [r] := by
          cases r with
          | put y => cases hp
          | _ => rfl
        refine ⟨_, rfl, .inl ⟨rfl, _, SqL.of hFj⟩, _, rfl, F, _, _, rfl, rfl, hFj, ?_, ?_⟩
        · rw [List.length_map]; omega
        · refine ⟨_, fs ++ [u], rfl, Same.updn sj hF, by rw [upd_same, List.map_append]; rfl, ?_⟩
          rw [unroll_take hr2, he]
          exact paired_snoc hrow hfs
      | some z =>
        refine iteT ?_
        obtain rfl : r = .put z := by
          cases r with
          | put y => cases hp; rfl
          | _ => cases hp
        obtain ⟨dp, fp, p1, p2, p3, p4⟩ := at_part R (hrow.same sj)
        obtain ⟨rs, f, gs, hlk, hv, hf, hgs⟩ := hkn z (List.mem_of_getElem? hr2)
        have he : expand kn (.put z) = rs := by show (kn.lookup z).getD [] = rs; rw [hlk]; rfl
        rw [he] at hle2
        have hgl : gs.length = rs.length := paired_len hgs
        refine ⟨_, rfl, .inl ⟨rfl, _, SqL.of hFj⟩, _, rfl, _, rfl, u, _, dp, fp, _, rfl, p1, p2, p3, p4, kp, _, rfl, (by have g := DGet.k (k := Sum.inr z) (sj _ _ hK); rw [hv] at g; exact g), ?_⟩
        refine ⟨F, f, _, _, rfl, rfl, hFj, sj _ _ hf, ?_, ?_⟩
        · rw [List.length_map, List.length_map]; omega
        · refine ⟨_, fs ++ gs, rfl, Same.updn sj hF, by rw [upd_same, List.map_append], ?_⟩
          rw [unroll_take hr2, he]
          exact paired_app hfs hgs
    · obtain ⟨x3, fs, rfl, sj, hFj, hfs⟩ := hP
      rw [List.length_map, huq, List.take_length] at hfs
      exact ⟨_, rfl, q F Hj fs hF sj hFj (hfs.same sj)⟩
/-! ### unrolled_text -/
def spUText {R : TRows K mg} (T : TPart R) : Sp := fun vs H Q _ => ∃ (pu : V) (bk : List PartD), vs = [pu] ∧ PtsArg T H pu bk ∧ bk ≠ [] ∧ (bk.map (·.1)).Nodup ∧ bk.length ≤ 50 ∧ (∀ p ∈ bk, p.2.length ≤ 100) ∧ Earlier bk ∧ (∀ z rs, (z, rs) ∈ knowns bk → rs.length ≤ 4000) ∧
  ∀ (t : Addr) (H' : Hp) (us : List Addr), Same H H' → SqT K H' t (us.map V.ref) → RowsIn R H' us (unrolled bk) → Q (.ref t) H'
theorem scUText : FnScope ["parts", "names", "flat", "part"] ["parts"] (defScope sUText) := ⟨rfl, rfl, rfl, by decide +kernel, rfl, by decide +kernel, by decide +kernel⟩
theorem rowsin_dk {R : TRows K mg} {H : Hp} {k : Addr} {kvs kv2 : List (Key × V)} (hK : H k = some (.dK kvs)) {us : List Addr} {rs : List RowD} (h : RowsIn R H us rs) : RowsIn R (upd H k (.dK kv2)) us rs :=
  paired_mono (fun a r e => by
    obtain ⟨dy, e⟩ := e
    obtain ⟨gs, eg⟩ := insRow_ins R dy r
    exact ⟨dy, by rw [upd_ne (fun z => by rw [z, hK, eg] at e; cases e)]; exact e⟩) h
theorem last_reached {bk : List PartD} : lastName bk ∈ reached bk := reach_sub _ (List.mem_singleton.mpr rfl)
theorem ok_uText {R : TRows K mg} {T : TPart R} (B : TBks T) : FnOk P w K mg base CX0 3 B.uText.f B.uText.fd ["parts"] (spUText T) := by
  refine B.uText.F.ok scUText (fun vs H Q E h => ?_) (fun cdv A outer s H vs Q E hr h => ?_)
  · obtain ⟨pu, bk, rfl, _⟩ := h
    rfl
  · obtain ⟨pu, bk, rfl, harg, ne, hnd, hlen, hrl, hea, hsm, q⟩ := h
    obtain ⟨p, ps, rfl, hp, hpd⟩ := id harg
    refine ⟨_, pss_cons (ps_set (i := 1) scUText.nd rfl (Or.inl rfl) (pe_call (ok_nReach B) hr rfl B.nReach.m B.nReach.F.kp B.nReach.b .nil pass0 (pa_cons (pv 0) pa_nil)))
      (pss_cons (ps_set (i := 2) scUText.nd rfl (Or.inl rfl) pe_dnewK)
      (pss_cons (ps_for PassesOwn.never rfl (pi_seq (pv 0)) (pg_name (i := 3) scUText.nd rfl (Or.inl rfl))
        (pss_one (ps_if (pt_cmpR op_in_seq (pe_fld (pv 3) rfl) (pv 1) rfl)
          (pss_one (ps_dput (roomU hr) (pv 2) (pe_fld (pv 3) rfl) (pe_call (ok_unr1 B) (hr.mono (by decide)) rfl B.unroll.m B.unroll.F.kp B.unroll.b .nil pass0 (pa_cons (pv 3) (pa_cons (pv 2) pa_nil))) (by rfl))) pss_nil)))
      (pss_one (ps_ret (pe_callTy call_tuple_of (by rfl) T.mTup (by decide +kernel) (pa_cons (pe_dget (roomU hr) (pv 2) (pe_fld (pe_ix ix_seq (pv 0) (pe_un un_neg pe_int) (fun _ _ => rfl)) rfl) (fun _ _ => rfl)) pa_nil)))))), ?_⟩
    refine ⟨_, rfl, .ref p, bk, rfl, harg, ne, hlen, hrl, fun N H1 hN s1 hN1 => ?_⟩
    unfold gName
    dsimp only
    refine fun kp hkp => ?_
    have s2 := s1.trans (Same.new (o := .dK []) hkp)
    have hN2 := Same.new (o := .dK []) hkp _ _ hN1
    have hK0 : upd H1 kp (.dK []) kp = some (.dK []) := upd_same
    have hkH : H kp = none := s1.free hkp
    generalize upd H1 kp (.dK []) = H2 at s2 hN2 hK0 ⊢
    have hpl : ps.length = bk.length := paired_len hpd
    have big : (10001 : Nat) ≤ sizeLine := by decide
    have nN : N ≠ kp := fun z => by rw [z, hK0] at hN2; cases hN2
    unfold tSeq
    dsimp only
    refine forw_seq (fun R r => ⟨_, rfl, r⟩) hp (fun i σ Hi => ∃ x3 kvs, σ = [some (.ref p), some (.ref N), some (.ref kp), x3] ∧ Same H Hi ∧ Hi N = some (.lst ((reached bk).map V.str)) ∧ Hi kp = some (.dK kvs) ∧ kvs.length ≤ i ∧
        ∀ z rs, (knowns (bk.take i)).lookup z = some rs → z ∈ reached bk → ∃ (f : Addr) (us : List Addr), valV kvs (.inr z) = some (.ref f) ∧ Hi f = some (.lst (us.map V.ref)) ∧ RowsIn R Hi us rs)
      ⟨_, [], rfl, s2, hN2, hK0, Nat.le_refl _, fun z rs h => by cases h⟩ (fun i σ Hi hP => by obtain ⟨_, _, _, s, _⟩ := hP; exact s) (fun i x σ Hi hx hP => ?_) (fun σ Hi hP => ?_)
    · obtain ⟨x3, kvs, rfl, si, hNi, hKi, hkl, hkn⟩ := hP
      obtain ⟨a, qq, ha, hq, rfl, hpt⟩ := pts_at hpd hx
      have hqm := List.mem_of_getElem? hq
      have hi : i < bk.length := (List.getElem?_eq_some_iff.mp hq).1
      obtain ⟨dx, tp, us, hat, _, _⟩ := hpt.same si
      have hkt : knowns (bk.take (i + 1)) = (qq.1, unrollIn (knowns (bk.take i)) qq.2) :: knowns (bk.take i) := by
        rw [List.take_add_one, hq]
        exact knowns_snoc _ _
      refine ⟨_, rfl, a, T.C, dx, _, .str qq.1, rfl, hat, T.cl, T.noN, part_name, _, rfl, N, _, rfl, .inl (SqL.of hNi), rfl, flat_strs, _, rfl, ?_⟩
      show if inV (.str qq.1) ((reached bk).map V.str) = true then _ else _
      rw [inV_strs]
      by_cases hin : qq.1 ∈ reached bk
      · refine iteTD (decide_eq_true hin) ?_
        refine ⟨_, rfl, _, rfl, a, kp, qq, kvs, knowns (bk.take i), rfl, hpt.same si, hKi, hrl qq hqm, hsm _ _ (knowns_mono _ (knowns_in hq)), fun z hz => ?_, fun F H4 gs hF4 s4 hF5 hgs => ?_⟩
        · have hzm := hea i qq hq z hz
          have hzk : z ∈ (knowns (bk.take i)).map (·.1) := by rw [knowns_len]; exact List.mem_reverse.mpr hzm
          obtain ⟨rs, hlk, _⟩ := lookup_of_mem hzk
          have hzr : z ∈ reached bk := reach_closed (no_later hnd hea) qq hqm hin z hz
          obtain ⟨f, us, h1, h2, h3⟩ := hkn z rs hlk hzr
          exact ⟨rs, f, us, hlk, h1, h2, h3⟩
        · have nF : F ≠ kp := fun z => by rw [z, hKi] at hF4; cases hF4
          have hK4 := s4 _ _ hKi
          refine ⟨_, rfl, _, rfl, a, T.C, dx, _, .str qq.1, rfl, s4 _ _ hat, T.cl, T.noN, part_name, kp, _, rfl, DPut.k (k := Sum.inr qq.1) hK4 (by omega), ?_⟩
          refine ⟨_, putK kvs (.inr qq.1) (.ref F), rfl, Same.updn (si.trans s4) hkH, ?_, upd_same, ?_, ?_⟩
          · rw [upd_ne nN]
            exact s4 _ _ hNi
          · have := putK_len kvs (Sum.inr qq.1 : Key) (V.ref F)
            omega
          · intro z rs hz hzr
            rw [hkt, List.lookup_cons] at hz
            rw [valV_put]
            by_cases e : z = qq.1
            · subst e
              rw [beq_self_eq_true] at hz
              have hz2 := Option.some.inj hz
              subst hz2
              rw [if_pos rfl]
              exact ⟨F, gs, rfl, by rw [upd_ne nF]; exact hF5, rowsin_dk hK4 hgs⟩
            · rw [show (z == qq.1) = false from by simpa using e] at hz
              rw [if_neg (fun q => e (by injection q))]
              obtain ⟨f, us2, h1, h2, h3⟩ := hkn z rs hz hzr
              exact ⟨f, us2, h1, by rw [upd_ne (fun x => by rw [x, hKi] at h2; cases h2)]; exact s4 _ _ h2, rowsin_dk hK4 (h3.same s4)⟩
      · refine iteFD (decide_eq_false hin) ?_
        refine ⟨_, kvs, rfl, si, hNi, hKi, by omega, fun z rs hz hzr => ?_⟩
        rw [hkt, List.lookup_cons] at hz
        rw [show (z == qq.1) = false from by simpa using fun e : z = qq.1 => hin (e ▸ hzr)] at hz
        exact hkn z rs hz hzr
    · obtain ⟨x3, kvs, rfl, si, hNi, hKi, hkl, hkn⟩ := hP
      rw [List.length_map, hpl, List.take_length] at hkn
      obtain ⟨a, ql, ps', bk', e1, e2, hla, hln⟩ := last_at hpd ne
      have hp0 := hp.same si
      rw [e1] at hp0
      obtain ⟨dx, tp, us0, hat, _, _⟩ := hla.same si
      have hk2 : knowns bk = (ql.1, unrollIn (knowns bk') ql.2) :: knowns bk' := by rw [e2]; exact knowns_snoc _ _
      have hu : unrolled bk = unrollIn (knowns bk') ql.2 := by
        unfold unrolled
        rw [hk2]
        rfl
      obtain ⟨f, us, h1, h2, h3⟩ := hkn ql.1 (unrollIn (knowns bk') ql.2) (by rw [hk2]; simp) (by rw [← hln]; exact last_reached)
      refine ⟨_, rfl, _, rfl, _, rfl, seq_last hp0 ⟨a, T.C, dx, _, .str ql.1, rfl, hat, T.cl, T.noN, part_name, kp, _, rfl, (by have g := DGet.k (k := Sum.inr ql.1) hKi; rw [h1] at g; exact g), ?_⟩⟩
      refine ⟨f, us.map V.ref, rfl, .inl ⟨SqL.of h2, fun l hl2 => ?_⟩⟩
      have s9 := Same.new (o := .tup (us.map V.ref)) hl2
      exact q l _ us (si.trans s9) (SqT.of upd_same) (by rw [hu]; exact h3.same s9)
end
end Pn

namespace Pn
open PySem L2
/-! ### tuple(list), of which it is known that it keeps no own attributes, and dict(..) of such a tuple of pairs -/
def TupX (H : Hp) (a : Addr) (xs : List V) : Prop := ∃ o : Obj, o.dict = none ∧ H a = some (.frz o (.tup xs))
theorem TupX.same {H H' : Hp} {a : Addr} {xs : List V} (h : TupX H a xs) (s : Same H H') : TupX H' a xs := by
  obtain ⟨o, d, e⟩ := h
  exact ⟨o, d, s _ _ e⟩
theorem TupX.sqt {K : PySem.W.Frag} {H : Hp} {a : Addr} {xs : List V} (h : TupX H a xs) : SqT K H a xs := by
  obtain ⟨o, _, e⟩ := h
  exact .inl (.inr ⟨o, e⟩)
def rTupX (K : PySem.W.Frag) : List V → Hp → VK → Prop := fun xs H Q => ∃ (p : Addr) (ys : List V), xs = [.ref p] ∧ SqL K H p ys ∧ ∀ (l : Addr) (H' : Hp), H l = none → Same H H' → Mo H H' → (∀ b, b ≠ l → H' b = H b) → TupX H' l ys → Q (.ref l) H'
theorem cr_tupX {X : Cx} : CallR X (.type "tuple") (rTupX X.K) := by
  rintro pins s σ H xs us Q I r ⟨p, ys, rfl, hq, q⟩
  obtain ⟨u, rfl, rx⟩ := vals1 r
  cases rx
  obtain ⟨its, rv, pl, hz⟩ := I.list hq
  have hlen := rv.length
  refine call_tuple_list pl.isList (fun h' kp => ?_) (by simp only [List.size_toArray] <;> omega)
  have I1 : Inv X pins σ H { s with heap := h' } := I.kept (t' := s.toks) kp
  have fr := I1.hok.fresh (Nat.le_refl _)
  let o : Obj := { cls := .type "tuple", data := .seq its.toArray }
  have I2 : Inv X pins σ (upd H h'.objs.size (.frz o (.tup ys))) { s with heap := h'.push o } :=
    I1.laid (t' := s.toks) (fun b ob e => Heap.get?_push_of_some _ e) (Nat.le_refl _) ⟨Heap.get?_push_size _ rfl, hz, its, rv, PyProof.Rows.IsTup.new _ _⟩
  exact ⟨.ref h'.objs.size, _, I2, rfl, q _ _ fr (Same.new fr) Mo.upd (fun b nb => upd_ne nb) ⟨o, rfl, upd_same⟩⟩
/-- .. or of such a tuple: the very same -/
def rTupX2 (K : PySem.W.Frag) : List V → Hp → VK → Prop := fun xs H Q => ∃ (p : Addr) (ys : List V), xs = [.ref p] ∧ (SqL K H p ys ∨ TupX H p ys) ∧ ∀ (l : Addr) (H' : Hp), Same H H' → TupX H' l ys → Q (.ref l) H'
theorem cr_tupX2 {X : Cx} : CallR X (.type "tuple") (rTupX2 X.K) := by
  rintro pins s σ H xs us Q I r ⟨p, ys, rfl, hq | hq, q⟩
  · exact cr_tupX pins s σ H _ us Q I r ⟨p, ys, rfl, hq, fun l H' _ s' _ _ h => q l H' s' h⟩
  · exact call_tuple_of pins s σ H _ us Q I r ⟨p, ys, rfl, .inr ⟨hq.sqt, q p H (Same.refl _) hq⟩⟩
theorem vps_of {X : Cx} {pins : List (Addr × Obj)} {σ : L2.St} {H : Hp} {s : Shared} (I : Inv X pins σ H s) {ps : List Addr} {kvs : List (Key × V)} (h : Paired (fun p kv => SqT X.K H p [kV kv.1, kv.2]) ps kvs) :
    ∃ (prs : List (Key × Value)) (vps : List (Value × Value)), KV kvs prs ∧ prs.length = ps.length ∧ vps.length = ps.length ∧
      ∀ (j : Nat) (k v : Value), vps[j]? = some (k, v) → ∃ (b : Addr) (kk : Key), ps[j]? = some b ∧ s.heap.IsTuple b #[k, v] ∧ prs[j]? = some (kk, v) ∧ keyIs kk k = true := by
  induction h with
  | nil => exact ⟨[], [], .nil, rfl, rfl, fun j k v e => by simp at e⟩
  | cons a b ih =>
    rename_i p kv l m
    obtain ⟨prs, vps, h1, h2, h3, h4⟩ := ih
    obtain ⟨its, rv, ht, _⟩ := I.tuple a
    obtain ⟨u, y, rfl, ru, ry⟩ := vals2 rv
    refine ⟨(kv.1, y) :: prs, (u, y) :: vps, .cons ⟨rfl, ry⟩ h1, by simp [h2], by simp [h3], fun j k v e => ?_⟩
    cases j with
    | zero =>
      obtain ⟨rfl, rfl⟩ : u = k ∧ y = v := by simpa using e
      exact ⟨p, kv.1, rfl, ht, rfl, kV_is (P := X.prog) (w := X.w) ru⟩
    | succ j =>
      obtain ⟨c, kk, g1, g2, g3, g4⟩ := h4 j k v (by simpa using e)
      exact ⟨c, kk, by simpa using g1, g2, by simpa using g3, g4⟩
def rDictX (K : PySem.W.Frag) : List V → Hp → VK → Prop := fun xs H Q => ∃ (a : Addr) (ps : List Addr) (kvs : List (Key × V)), xs = [.ref a] ∧ TupX H a (ps.map V.ref) ∧ Paired (fun p kv => SqT K H p [kV kv.1, kv.2]) ps kvs ∧
  ∀ p, H p = none → Q (.ref p) (upd H p (.dK (mergeK [] kvs)))
theorem cr_dictX {X : Cx} (hc : X.calm = true) : CallR X (.type "dict") (rDictX X.K) := by
  rintro pins s σ H xs us Q I r ⟨a, ps, kvs, rfl, ⟨o, hod, ha⟩, hp, q⟩
  obtain ⟨u, rfl, rx⟩ := vals1 r
  cases rx
  obtain ⟨ho, hz, its, rv, o2, ho2, hcl, n, hdat⟩ := I.hok a _ ha
  obtain rfl : o = o2 := Option.some.inj (ho.symm.trans ho2)
  have ei := refs_at rv
  subst ei
  rw [List.length_map] at hz
  obtain ⟨prs, vps, rel, hl, hv, hat⟩ := vps_of I hp
  refine PySem.call_dict_pairs (knd := mixKind X.prog X.w) (kvs := prs) (PairArg.tuple a (ps.map Value.ref).toArray (fun j => (ps[j]?).getD 0) vps) (I.ok.hd hc) ⟨⟨o, n, ho, hcl, hod, hdat⟩, by simp [hv], fun j k v e => ?_⟩ ⟨by rw [hl, hv], fun i key v e => ?_⟩ (by rw [hv]; exact hz) fun h' tk hd' k => ?_
  · obtain ⟨b, kk, g1, g2, _⟩ := hat j k v e
    exact ⟨by simp [g1], .inl (by show s.heap.IsTuple ((ps[j]?).getD 0) _; rw [g1]; exact g2)⟩
  · obtain ⟨b, kk, _, _, g3, g4⟩ := hat i key v e
    exact ⟨kk, g3, g4⟩
  · have hm : (s.heap.objs.size == sysModules) = false := beq_eq_false_iff_ne.mpr (Nat.ne_of_gt I.big)
    have hln : (mergeK [] kvs).length ≤ sizeLine := by
      have h1 := length_mergeK kvs []
      have h2 := rel.length
      rw [List.length_nil] at h1
      omega
    exact ⟨.ref s.heap.objs.size, _, I.laid (t' := tk) (fun b ob e => k b ob (by simp) e) (Nat.le_refl _) (show ObjOk X.prog X.w _ _ _ (.dK (mergeK [] kvs)) from ⟨hln, hm, merged [] prs, KV.merge rel .nil, hd'⟩), rfl, q _ (I.hok.fresh (Nat.le_refl _))⟩
/-! ### what such a dict holds -/
def csKv (cs : List (Str × Str)) : List (Key × V) := cs.map fun c => (Sum.inr c.1, V.str c.2)
theorem merge_out : ∀ {cs : List (Str × Str)} {kv : List (Key × V)} {z : Str}, z ∉ cs.map (·.1) → valV (mergeK kv (csKv cs)) (.inr z) = valV kv (.inr z)
  | [], kv, z, _ => rfl
  | c :: cs, kv, z, h => by
    have h1 : z ≠ c.1 := fun e => h (by rw [e]; exact List.mem_cons_self)
    have h2 : z ∉ cs.map (·.1) := fun e => h (List.mem_cons_of_mem _ e)
    show valV (mergeK (putK kv (.inr c.1) (.str c.2)) (csKv cs)) (.inr z) = _
    rw [merge_out h2, valV_put, if_neg (fun e => h1 (by injection e))]
theorem merge_in : ∀ {cs : List (Str × Str)} {kv : List (Key × V)} {c : Str × Str}, (cs.map (·.1)).Nodup → c ∈ cs → valV (mergeK kv (csKv cs)) (.inr c.1) = some (.str c.2)
  | [], kv, c, _, h => by cases h
  | d :: cs, kv, c, nd, h => by
    rw [List.map_cons, List.nodup_cons] at nd
    show valV (mergeK (putK kv (.inr d.1) (.str d.2)) (csKv cs)) (.inr c.1) = _
    rcases List.mem_cons.mp h with rfl | h
    · rw [merge_out nd.1, valV_put, if_pos rfl]
    · exact merge_in nd.2 h
end Pn

namespace Pn
open PySem L2 TL
abbrev sBInit : Stmt := inClass (top 50) 0
abbrev sBNames : Stmt := inClass (top 50) 2
abbrev sBTops : Stmt := inClass (top 50) 3
abbrev sBUnr : Stmt := inClass (top 50) 4
abbrev sBChain : Stmt := inClass (top 50) 7
/-! ### chains -/
inductive Climb (cs : List (Str × Str)) : Str → List Str → Prop
  | top {z : Str} : (z, ("" : Str)) ∈ cs → Climb cs z [z]
  | up {z u : Str} {l : List Str} : (z, u) ∈ cs → u ≠ "" → Climb cs u l → Climb cs z (z :: l)
theorem Climb.head {cs : List (Str × Str)} {z : Str} {l : List Str} (h : Climb cs z l) : ∃ r, l = z :: r := by
  cases h with
  | top _ => exact ⟨[], rfl⟩
  | up _ _ _ => exact ⟨_, rfl⟩
theorem climbs {cs : List (Str × Str)} (t : TreeOk cs) : ∀ (i : Nat) (c : Str × Str), cs[i]? = some c → ∃ l, Climb cs c.1 l ∧ l.length ≤ i + 1 := by
  intro i
  induction i using Nat.strongRecOn with
  | ind i ih =>
    intro c hc
    have hm : (c.1, c.2) ∈ cs := List.mem_of_getElem? hc
    by_cases e : c.2 = ""
    · exact ⟨[c.1], .top (by rw [e] at hm; exact hm), by simp⟩
    · obtain ⟨d, hd, hde⟩ := List.mem_map.mp ((t i c hc).resolve_left e)
      obtain ⟨j, hj⟩ := List.getElem?_of_mem hd
      have hji : j < i := by
        have h1 := (List.getElem?_eq_some_iff.mp hj).1
        rw [List.length_take] at h1
        omega
      rw [List.getElem?_take_of_lt hji] at hj
      obtain ⟨l, h1, h2⟩ := ih j hji d hj
      exact ⟨c.1 :: l, .up hm e (by rw [← hde]; exact h1), by simp; omega⟩
def opens (rs : List RowD) : List Str := rs.filterMap fun r => match r with | .opn z => some z | _ => none
def opnOf : RowD → Option Str
  | .opn z => some z
  | _ => none
theorem opens_eq (rs : List RowD) : opens rs = rs.filterMap opnOf := rfl
theorem opn_word {r : RowD} : decide (V.str (rowWord r) = V.str "open") = (opnOf r).isSome := by
  cases r <;> first | exact (by decide +kernel : decide (V.str "note" = V.str "open") = false) | exact (by decide +kernel : decide (V.str "skip" = V.str "open") = false) | exact (by decide +kernel : decide (V.str "set" = V.str "open") = false) | exact (by decide +kernel : decide (V.str "keep" = V.str "open") = false) | exact (by decide +kernel : decide (V.str "back" = V.str "open") = false) | exact (by decide +kernel : decide (V.str "ref" = V.str "open") = false) | exact (by decide +kernel : decide (V.str "put" = V.str "open") = false) | exact (by decide +kernel : decide (V.str "open" = V.str "open") = true)
def topOf (c : Str × Str) : Option Str := if c.2 = "" then some c.1 else none
def topsOf (cs : List (Str × Str)) : List Str := cs.filterMap topOf
section
variable {P : Program} {w : World} {K : PySem.W.Frag} {mg : Str → Option Value} {base : Heap}
def rTupS (K : PySem.W.Frag) : List V → Hp → VK → Prop := fun xs H Q => ∃ (p : Addr) (ys : List V), xs = [.ref p] ∧ Sq K H p ys ∧ ∀ (t : Addr) (H' : Hp), Same H H' → SqT K H' t ys → Q (.ref t) H'
theorem cr_tupS {X : Cx} : CallR X (.type "tuple") (rTupS X.K) := by
  intro pins s σ H xs us Q I r h
  obtain ⟨p, ys, rfl, hp, q⟩ := h
  exact call_tuple_of pins s σ H _ us Q I r ⟨p, ys, rfl, hp.elim (fun h => .inl ⟨h, fun l hl => q l _ (Same.new hl) (SqT.of upd_same)⟩) (fun h => .inr ⟨h, q p H (Same.refl _) h⟩)⟩
structure TPr (K : PySem.W.Frag) (C : Addr) (nm qual : Str) (st : Stmt) : Type where
  p : Addr
  g : Addr
  fd : FuncData
  F : Fun K nm qual st g fd
  b : Binds K fd ["self"] []
  P : PropOf K C nm p g
structure TBk {K : PySem.W.Frag} {mg : Str → Option Value} {R : TRows K mg} (T : TPart R) : Type extends TBks T where
  mSort : mg "sorted" = none
  mDict : mg "dict" = none
  C : Addr
  mC : mg "Book" = some (.ref C)
  fI : Addr
  fdI : FuncData
  FI : Fun K "__init__" "Book.__init__" sBInit fI fdI
  bI : Binds K fdI ["self", "counters", "parts"] []
  M : Mk K C fI
  cl : Cls K C
  noC : NoAttr K C "counters"
  noP : NoAttr K C "parts"
  noF : NoAttr K C "flat"
  names : TPr K C "names" "Book.names" sBNames
  tops : TPr K C "tops" "Book.tops" sBTops
  unr : TPr K C "unrolled" "Book.unrolled" sBUnr
  chain : TMeth K C "chain" "Book.chain" sBChain ["self", "name"]
def insBook (C dx : Addr) (c p f : V) : HO := .ins C dx (putF "flat" f (putF "parts" p (putF "counters" c [])))
theorem book_c {c p f : V} : (putF "flat" f (putF "parts" p (putF "counters" c ([] : List (Str × V))))).lookup ("counters" : Str) = some c := by
  rw [lookup_putF, if_neg (by decide +kernel), lookup_putF, if_neg (by decide +kernel), lookup_putF, if_pos rfl]
theorem book_p {c p f : V} : (putF "flat" f (putF "parts" p (putF "counters" c ([] : List (Str × V))))).lookup ("parts" : Str) = some p := by
  rw [lookup_putF, if_neg (by decide +kernel), lookup_putF, if_pos rfl]
theorem book_f {c p f : V} : (putF "flat" f (putF "parts" p (putF "counters" c ([] : List (Str × V))))).lookup ("flat" : Str) = some f := by
  rw [lookup_putF, if_pos rfl]
def CsIn (K : PySem.W.Frag) (H : Hp) (ts : List Addr) (cs : List (Str × Str)) : Prop := Paired (fun t (c : Str × Str) => SqT K H t [.str c.1, .str c.2]) ts cs
theorem CsIn.same {H H' : Hp} {ts : List Addr} {cs : List (Str × Str)} (h : CsIn K H ts cs) (s : Same H H') : CsIn K H' ts cs := paired_mono (fun _ _ z => Same.sqt s z) h
def PtsIn {R : TRows K mg} (T : TPart R) (H : Hp) (ps : List Addr) (bk : List PartD) : Prop := Paired (fun a (q : PartD) => PtAt T H a q.1 q.2) ps bk
theorem PtsIn.same {R : TRows K mg} {T : TPart R} {H H' : Hp} {ps : List Addr} {bk : List PartD} (h : PtsIn T H ps bk) (s : Same H H') : PtsIn T H' ps bk := paired_mono (fun _ _ z => PtAt.same z s) h
def BookAt {R : TRows K mg} {T : TPart R} (B : TBk T) (H : Hp) (a : Addr) (cs : List (Str × Str)) (bk : List PartD) : Prop :=
  ∃ dx ct pt ft ts ps us, H a = some (insBook B.C dx (.ref ct) (.ref pt) (.ref ft)) ∧ (TupX H ct (ts.map V.ref) ∧ CsIn K H ts cs) ∧ (SqT K H pt (ps.map V.ref) ∧ PtsIn T H ps bk) ∧ SqT K H ft (us.map V.ref) ∧ RowsIn R H us (unrolled bk)
theorem BookAt.same {R : TRows K mg} {T : TPart R} {B : TBk T} {H H' : Hp} {a : Addr} {cs : List (Str × Str)} {bk : List PartD} (h : BookAt B H a cs bk) (s : Same H H') : BookAt B H' a cs bk := by
  obtain ⟨dx, ct, pt, ft, ts, ps, us, h1, ⟨h2, h3⟩, ⟨h4, h5⟩, h6, h7⟩ := h
  exact ⟨dx, ct, pt, ft, ts, ps, us, s _ _ h1, ⟨h2.same s, h3.same s⟩, ⟨Same.sqt s h4, h5.same s⟩, Same.sqt s h6, h7.same s⟩
/-! ### Book(counters, parts) -/
theorem rows_ne {R : TRows K mg} {H : Hp} {us : List Addr} {rs : List RowD} {x C dx : Addr} (h : RowsIn R H us rs) (hx : H x = some (.ins C dx [])) : ∀ u ∈ us, u ≠ x := by
  intro u hu e
  obtain ⟨i, hi⟩ := List.getElem?_of_mem hu
  obtain ⟨r, _, hr⟩ := paired_at h hi
  obtain ⟨dw, fw, w1, _, _, w4⟩ := at_word R hr
  rw [e, hx] at w1
  cases w1
  cases w4
theorem rows_upd {R : TRows K mg} {H : Hp} {us : List Addr} {rs : List RowD} {x : Addr} {o : HO} (h : RowsIn R H us rs) (n : ∀ u ∈ us, u ≠ x) : RowsIn R (upd H x o) us rs := by
  induction h with
  | nil => exact .nil
  | cons a b ih =>
    refine .cons ?_ (ih fun u hu => n u (List.mem_cons_of_mem _ hu))
    obtain ⟨dy, e⟩ := a
    exact ⟨dy, by rw [upd_ne (n _ List.mem_cons_self)]; exact e⟩
theorem tupx_ins {H : Hp} {x C dx a : Addr} {fs : List (Str × V)} {o : HO} {xs : List V} (hx : H x = some (.ins C dx fs)) (h : TupX H a xs) : TupX (upd H x o) a xs := by
  obtain ⟨u, d, e⟩ := h
  exact ⟨u, d, by rw [upd_ne (fun z => by rw [z, hx] at e; cases e)]; exact e⟩
def spBInit {R : TRows K mg} {T : TPart R} (B : TBk T) : Sp := fun vs H Q _ => ∃ (x dx cp : Addr) (pu : V) (ts : List Addr) (cs : List (Str × Str)) (bk : List PartD) (Hb : Hp), vs = [.ref x, .ref cp, pu] ∧ H x = some (.ins B.C dx []) ∧ Hb x = none ∧ Same Hb H ∧
  (SqL K Hb cp (ts.map V.ref) ∨ TupX Hb cp (ts.map V.ref)) ∧ CsIn K Hb ts cs ∧ PtsArg T Hb pu bk ∧ BookV cs bk ∧ ∀ H', Same Hb H' → BookAt B H' x cs bk → Q .non H'
theorem scBInit : FnScope ["self", "counters", "parts", "flat"] ["self", "counters", "parts"] (defScope sBInit) := ⟨rfl, rfl, rfl, by decide +kernel, rfl, by decide +kernel, by decide +kernel⟩
theorem unrolled_small {cs : List (Str × Str)} {bk : List PartD} (ok : BookV cs bk) : (unrolled bk).length ≤ 4000 := by
  unfold unrolled
  cases h : (knowns bk).head? with
  | none => exact Nat.zero_le _
  | some x =>
    cases hk : knowns bk with
    | nil => rw [hk] at h; cases h
    | cons y l =>
      rw [hk] at h
      obtain rfl : y = x := Option.some.inj h
      exact ok.small y.1 y.2 (by rw [hk]; exact List.mem_cons_self)
theorem ok_bInit {R : TRows K mg} {T : TPart R} (B : TBk T) : FnOk P w K mg base CX0 4 B.fI B.fdI ["self", "counters", "parts"] (spBInit B) := by
  refine B.FI.ok scBInit (fun vs H Q E h => ?_) (fun cdv A outer s H vs Q E hr h => ?_)
  · obtain ⟨x, dx, cp, pu, ts, cs, bk, Hb, rfl, _⟩ := h
    rfl
  · obtain ⟨x, dx, cp, pu, ts, cs, bk, Hb, rfl, hx, hxb, sb, hcp, hcd, hP, ok, q⟩ := h
    refine ⟨_, pss_cons (ps_if (pt_not (pt_val (pe_call (ok_areC B.toTBks) (hr.mono (by decide)) rfl B.areC.m B.areC.F.kp B.areC.b .nil pass0 (pa_cons (pv 1) pa_nil)))) pss_never pss_nil)
      (pss_cons (ps_if (pt_not (pt_val (pe_call (ok_areP B.toTBks) (hr.mono (by decide)) rfl B.areP.m B.areP.F.kp B.areP.b .nil pass0 (pa_cons (pv 2) pa_nil)))) pss_never pss_nil)
      (pss_cons (ps_if (pt_not (pt_val (pe_call (ok_cKnown B.toTBks) (hr.mono (by decide)) rfl B.cKnown.m B.cKnown.F.kp B.cKnown.b .nil pass0 (pa_cons (pv 1) (pa_cons (pv 2) pa_nil))))) pss_never pss_nil)
      (pss_cons (ps_if (pt_not (pt_val (pe_call (ok_pEarly B.toTBks) (hr.mono (by decide)) rfl B.pEarly.m B.pEarly.F.kp B.pEarly.b .nil pass0 (pa_cons (pv 2) pa_nil)))) pss_never pss_nil)
      (pss_cons (ps_set (i := 3) scBInit.nd rfl (Or.inl rfl) (pe_call (ok_uText B.toTBks) hr rfl B.uText.m B.uText.F.kp B.uText.b .nil pass0 (pa_cons (pv 2) pa_nil)))
      (pss_cons (ps_if (pt_not (pt_val (pe_call (ok_refsK B.toTBks) (hr.mono (by decide)) rfl B.refsK.m B.refsK.F.kp B.refsK.b .nil pass0 (pa_cons (pv 3) pa_nil)))) pss_never pss_nil)
      (pss_cons (ps_fld (pv 0) (pe_callTy cr_tupX2 (by rfl) T.mTup (by decide +kernel) (pa_cons (pv 1) pa_nil)) rfl)
      (pss_cons (ps_fld (pv 0) (pe_callTy cr_tupS (by rfl) T.mTup (by decide +kernel) (pa_cons (pv 2) pa_nil)) rfl)
      (pss_one (ps_fld (pv 0) (pv 3) rfl))))))))), ?_⟩
    have hC : CsArg K Hb (.ref cp) cs := ⟨cp, ts, rfl, hcp.imp id TupX.sqt, hcd⟩
    have hrl : ∀ p ∈ bk, p.2.length ≤ 100 := fun p hp => (ok.rows p hp).2.1
    refine ⟨_, rfl, .ref cp, cs, rfl, hC.same sb, ok.c, fun H1 s1 => ⟨true, rfl, iteF ?_⟩⟩
    have b1 := sb.trans s1
    refine ⟨_, rfl, pu, bk, rfl, hP.same b1, ok.b0, ok.nd, ok.len, fun H2 s2 => ⟨true, rfl, iteF ?_⟩⟩
    have b2 := b1.trans s2
    refine ⟨_, rfl, _, rfl, .ref cp, pu, cs, bk, rfl, hC.same b2, hP.same b2, ok.c.len, ok.len, hrl, ok.cnt, fun H3 s3 => ⟨true, rfl, iteF ?_⟩⟩
    have b3 := b2.trans s3
    refine ⟨_, rfl, pu, bk, rfl, hP.same b3, ok.puts, ok.len, hrl, fun H4 s4 => ⟨true, rfl, iteF ?_⟩⟩
    have b4 := b3.trans s4
    refine ⟨_, rfl, pu, bk, rfl, hP.same b4, ok.b0, ok.nd, ok.len, hrl, ok.puts, ok.small, fun ft H5 us s5 hft hus => ?_⟩
    have b5 := b4.trans s5
    unfold gName
    dsimp only
    refine ⟨_, rfl, ft, us, unrolled bk, rfl, .inr hft, hus, unrolled_small ok, ok.refs, fun H6 s6 => ⟨true, rfl, iteF ?_⟩⟩
    have b6 := b5.trans s6
    have hx6 : H6 x = some (.ins B.C dx []) := s6 _ _ (s5 _ _ (s4 _ _ (s3 _ _ (s2 _ _ (s1 _ _ hx)))))
    have hft6 := Same.sqt s6 hft
    have hus6 := hus.same s6
    have hne := rows_ne hus6 hx6
    refine ⟨_, rfl, cp, ts.map V.ref, rfl, hcp.imp b6.seq (fun h => h.same b6), fun ct H7 s7 hX => ?_⟩
    have b7 := b6.trans s7
    have hx7 := s7 _ _ hx6
    refine ⟨_, rfl, x, B.C, dx, [], rfl, hx7, B.cl, B.noC, (by show 0 < 1000; decide), ?_⟩
    have b8 : Same Hb (upd H7 x (.ins B.C dx (putF "counters" (.ref ct) []))) := Same.updn b7 hxb
    have hX8 := tupx_ins (o := .ins B.C dx (putF "counters" (.ref ct) [])) hx7 hX
    have hft8 := sqt_ins (o := .ins B.C dx (putF "counters" (.ref ct) [])) hx7 (Same.sqt s7 hft6)
    have hus8 := rows_upd (o := .ins B.C dx (putF "counters" (.ref ct) [])) (hus6.same s7) hne
    have hx8 : upd H7 x (.ins B.C dx (putF "counters" (.ref ct) [])) x = some (.ins B.C dx (putF "counters" (.ref ct) [])) := upd_same
    generalize upd H7 x (.ins B.C dx (putF "counters" (.ref ct) [])) = H8 at b8 hX8 hft8 hus8 hx8 ⊢
    obtain ⟨p, ps, rfl, hp, hpd⟩ := hP
    refine ⟨_, rfl, p, ps.map V.ref, rfl, hp.same b8, fun pt H9 s9 hpt => ?_⟩
    have hx9 := s9 _ _ hx8
    refine ⟨_, rfl, x, B.C, dx, _, rfl, hx9, B.cl, B.noP, (by show 1 < 1000; decide), ?_⟩
    have b10 : Same Hb (upd H9 x (.ins B.C dx (putF "parts" (.ref pt) (putF "counters" (.ref ct) [])))) := Same.updn (b8.trans s9) hxb
    have hX10 := tupx_ins (o := .ins B.C dx (putF "parts" (.ref pt) (putF "counters" (.ref ct) []))) hx9 (hX8.same s9)
    have hft10 := sqt_ins (o := .ins B.C dx (putF "parts" (.ref pt) (putF "counters" (.ref ct) []))) hx9 (Same.sqt s9 hft8)
    have hpt10 := sqt_ins (o := .ins B.C dx (putF "parts" (.ref pt) (putF "counters" (.ref ct) []))) hx9 hpt
    have hus10 := rows_upd (o := .ins B.C dx (putF "parts" (.ref pt) (putF "counters" (.ref ct) []))) (hus8.same s9) hne
    have hx10 : upd H9 x (.ins B.C dx (putF "parts" (.ref pt) (putF "counters" (.ref ct) []))) x = some (.ins B.C dx (putF "parts" (.ref pt) (putF "counters" (.ref ct) []))) := upd_same
    generalize upd H9 x (.ins B.C dx (putF "parts" (.ref pt) (putF "counters" (.ref ct) []))) = H10 at b10 hX10 hft10 hpt10 hus10 hx10 ⊢
    refine ⟨_, rfl, _, rfl, x, B.C, dx, _, rfl, hx10, B.cl, B.noF, (by show 2 < 1000; decide), ?_⟩
    have b11 : Same Hb (upd H10 x (insBook B.C dx (.ref ct) (.ref pt) (.ref ft))) := Same.updn b10 hxb
    exact q _ b11 ⟨dx, ct, pt, ft, ts, ps, us, upd_same, ⟨tupx_ins hx10 hX10, hcd.same b11⟩, ⟨sqt_ins hx10 hpt10, PtsIn.same hpd b11⟩, sqt_ins hx10 hft10, rows_upd hus10 hne⟩
end
end Pn

namespace Pn
open PySem L2 TL
/-! ### Book.__init__ with what it raises -/
abbrev sIBInit : Stmt := inClass (top 13) 0
section
variable {P : Program} {w : World} {K : PySem.W.Frag} {mg : Str → Option Value} {base : Heap}
theorem scIBInit : FnScope ["self", "word"] ["self", "word"] (defScope sIBInit) := ⟨rfl, rfl, rfl, by decide +kernel, rfl, by decide +kernel, by decide +kernel⟩
theorem okIBInit (T : TExc K mg "InvalidBook" "InvalidBook.__init__" "word" sIBInit) : FnOk P w K mg base CX0 1 T.fI T.fd ["self", "word"] (spXInit K "word") := by
  refine T.F.ok scIBInit (fun vs H Q E h => ?_) (fun cdv A outer s H vs Q E hr h => ?_)
  · obtain ⟨a, C, v, rfl, _⟩ := h
    rfl
  · obtain ⟨a, C, v, rfl, ha, O, no, q⟩ := h
    refine ⟨_, pss_one (ps_ost (pv 0) (pv 1)), ?_⟩
    exact ⟨_, rfl, _, rfl, a, C, rfl, O, no, .inl ⟨ha, fun dx h1 h2 => q dx h1 h2⟩⟩
structure TBad {K : PySem.W.Frag} {mg : Str → Option Value} {R : TRows K mg} {T : TPart R} (B : TBk T) : Type where
  IB : TExc K mg "InvalidBook" "InvalidBook.__init__" "word" sIBInit
/-- raised, from a heap on -/
def RaiseS (C : Addr) (H : Hp) (E : XK) (wd : V) : Prop := ∀ (e : Addr) (H' : Hp), Same H H' → H' e = some (.xd [("word", wd)]) → E (.ref C) (some e) H'
theorem ib_made {C : Addr} {H H1 : Hp} {E : XK} {wd : V} (s : Same H H1) (h : RaiseS C H E wd) {a : Addr} (ha : H1 a = none) (dx : Addr) (h1 : (upd H1 a (exo a C none)) dx = none) (h2 : dx ≠ a) :
    E (.ref C) (some dx) (upd (del (upd (upd (upd H1 a (exo a C none)) dx (exd dx [("word", wd)])) a (exo a C (some dx))) a) dx (.xd [("word", wd)])) :=
  h dx _ (s.trans (same_made ha (by rw [upd_ne h2] at h1; exact h1))) upd_same
def KnownC (cs : List (Str × Str)) (bk : List PartD) : Prop := ∀ p ∈ bk, ∀ r ∈ p.2, ∀ c, cntOf r = some c → c ∈ cs.map (·.1)
def KnownR (bk : List PartD) : Prop := ∀ l, RowD.ref l ∈ unrolled bk → ∃ c, RowD.note c l ∈ unrolled bk
theorem unrolled_smallD {bk : List PartD} (h : ∀ z rs, (z, rs) ∈ knowns bk → rs.length ≤ 4000) : (unrolled bk).length ≤ 4000 := by
  unfold unrolled
  cases hk : knowns bk with
  | nil => exact Nat.zero_le _
  | cons y l => exact h y.1 y.2 (by rw [hk]; exact List.mem_cons_self)
def spBInitD {R : TRows K mg} {T : TPart R} (B : TBk T) (CB : Addr) : Sp := fun vs H Q E => ∃ (x dx cp : Addr) (pu : V) (ts : List Addr) (cs : List (Str × Str)) (bk : List PartD) (Hb : Hp), vs = [.ref x, .ref cp, pu] ∧ H x = some (.ins B.C dx []) ∧ Hb x = none ∧ Same Hb H ∧
  (SqL K Hb cp (ts.map V.ref) ∨ TupX Hb cp (ts.map V.ref)) ∧ CsIn K Hb ts cs ∧ PtsArg T Hb pu bk ∧ cs.length ≤ 100 ∧ (∀ c ∈ cs, c.1.length ≤ 900) ∧ bk.length ≤ 50 ∧ (∀ p ∈ bk, p.2.length ≤ 100) ∧ (∀ z rs, (z, rs) ∈ knowns bk → rs.length ≤ 4000) ∧
  (¬ (∀ i, GoodAt cs i) → RaiseS CB Hb E (.str "counters")) ∧ ((∀ i, GoodAt cs i) → ¬ (bk ≠ [] ∧ (bk.map (·.1)).Nodup) → RaiseS CB Hb E (.str "parts")) ∧
  ((∀ i, GoodAt cs i) → (bk ≠ [] ∧ (bk.map (·.1)).Nodup) → ¬ KnownC cs bk → RaiseS CB Hb E (.str "counter")) ∧
  ((∀ i, GoodAt cs i) → (bk ≠ [] ∧ (bk.map (·.1)).Nodup) → KnownC cs bk → ¬ Earlier bk → RaiseS CB Hb E (.str "part")) ∧
  ((∀ i, GoodAt cs i) → (bk ≠ [] ∧ (bk.map (·.1)).Nodup) → KnownC cs bk → Earlier bk → ¬ KnownR bk → RaiseS CB Hb E (.str "ref")) ∧
  ((∀ i, GoodAt cs i) → (bk ≠ [] ∧ (bk.map (·.1)).Nodup) → KnownC cs bk → Earlier bk → KnownR bk → ∀ H', Same Hb H' → BookAt B H' x cs bk → Q .non H')
theorem ok_bInitD {R : TRows K mg} {T : TPart R} {B : TBk T} (Z : TBad B) : FnOk P w K mg base (L2N.CX P w) 4 B.fI B.fdI ["self", "counters", "parts"] (spBInitD B Z.IB.C) := by
  refine (funD B.FI).ok scBInit (fun vs H Q E h => ?_) (fun cdv A outer s H vs Q E hr h => ?_)
  · obtain ⟨x, dx, cp, pu, ts, cs, bk, Hb, rfl, _⟩ := h
    rfl
  · obtain ⟨x, dx, cp, pu, ts, cs, bk, Hb, rfl, hx, hxb, sb, hcp, hcd, hP, hcl, hsh, hbl, hrl, hsm, q1, q2, q3, q4, q5, q⟩ := h
    refine ⟨_, pss_cons (ps_if (pt_not (pt_val (pe_call (ok_areCD B.toTBks) (hr.mono (by decide)) rfl B.areC.m B.areC.F.kp B.areC.b .nil pass0 (pa_cons (pv 1) pa_nil)))) (pss_one (L2N.ps_raise rfl (L2N.takes_of rfl rfl rfl rfl) (pmk_oexN Z.IB.O Z.IB.iC Z.IB.tI (okIBInit Z.IB) (hr.mono (by decide)) Z.IB.b pass0 rfl Z.IB.m (pa_cons pe_str pa_nil)))) pss_nil)
      (pss_cons (ps_if (pt_not (pt_val (pe_call (ok_arePD B.toTBks) (hr.mono (by decide)) rfl B.areP.m B.areP.F.kp B.areP.b .nil pass0 (pa_cons (pv 2) pa_nil)))) (pss_one (L2N.ps_raise rfl (L2N.takes_of rfl rfl rfl rfl) (pmk_oexN Z.IB.O Z.IB.iC Z.IB.tI (okIBInit Z.IB) (hr.mono (by decide)) Z.IB.b pass0 rfl Z.IB.m (pa_cons pe_str pa_nil)))) pss_nil)
      (pss_cons (ps_if (pt_not (pt_val (pe_call (ok_cKnownD B.toTBks) (hr.mono (by decide)) rfl B.cKnown.m B.cKnown.F.kp B.cKnown.b .nil pass0 (pa_cons (pv 1) (pa_cons (pv 2) pa_nil))))) (pss_one (L2N.ps_raise rfl (L2N.takes_of rfl rfl rfl rfl) (pmk_oexN Z.IB.O Z.IB.iC Z.IB.tI (okIBInit Z.IB) (hr.mono (by decide)) Z.IB.b pass0 rfl Z.IB.m (pa_cons pe_str pa_nil)))) pss_nil)
      (pss_cons (ps_if (pt_not (pt_val (pe_call (ok_pEarlyD B.toTBks) (hr.mono (by decide)) rfl B.pEarly.m B.pEarly.F.kp B.pEarly.b .nil pass0 (pa_cons (pv 2) pa_nil)))) (pss_one (L2N.ps_raise rfl (L2N.takes_of rfl rfl rfl rfl) (pmk_oexN Z.IB.O Z.IB.iC Z.IB.tI (okIBInit Z.IB) (hr.mono (by decide)) Z.IB.b pass0 rfl Z.IB.m (pa_cons pe_str pa_nil)))) pss_nil)
      (pss_cons (ps_set (i := 3) scBInit.nd rfl (Or.inl rfl) (pe_call (ok_uText B.toTBks) hr rfl B.uText.m B.uText.F.kp B.uText.b .nil pass0 (pa_cons (pv 2) pa_nil)))
      (pss_cons (ps_if (pt_not (pt_val (pe_call (ok_refsKD B.toTBks) (hr.mono (by decide)) rfl B.refsK.m B.refsK.F.kp B.refsK.b .nil pass0 (pa_cons (pv 3) pa_nil)))) (pss_one (L2N.ps_raise rfl (L2N.takes_of rfl rfl rfl rfl) (pmk_oexN Z.IB.O Z.IB.iC Z.IB.tI (okIBInit Z.IB) (hr.mono (by decide)) Z.IB.b pass0 rfl Z.IB.m (pa_cons pe_str pa_nil)))) pss_nil)
      (pss_cons (ps_fld (pv 0) (pe_callTy cr_tupX2 (by rfl) T.mTup (by decide +kernel) (pa_cons (pv 1) pa_nil)) rfl)
      (pss_cons (ps_fld (pv 0) (pe_callTy cr_tupS (by rfl) T.mTup (by decide +kernel) (pa_cons (pv 2) pa_nil)) rfl)
      (pss_one (ps_fld (pv 0) (pv 3) rfl))))))))), ?_⟩
    have hC : CsArg K Hb (.ref cp) cs := ⟨cp, ts, rfl, hcp.imp id TupX.sqt, hcd⟩
    refine ⟨_, rfl, .ref cp, cs, rfl, hC.same sb, hcl, hsh, fun b H1 s1 hb => ⟨b, rfl, ?_⟩⟩
    have b1 := sb.trans s1
    cases b with
    | false =>
      refine iteT ?_
      exact ⟨(by show 1 ≤ 1000; decide), fun a ha => ⟨a, Z.IB.C, _, rfl, upd_same, Z.IB.O, Z.IB.noF, fun dx g1 g2 => ⟨rfl, dx, _, upd_same, by rw [upd_ne g2, upd_same], by rw [upd_ne g2] at g1; exact g1, ib_made b1 (q1 fun z => Bool.noConfusion (hb.mpr z)) ha dx g1 g2⟩⟩⟩
    | true =>
    refine iteF ?_
    have k1 := hb.mp rfl
    clear hb
    refine ⟨_, rfl, pu, bk, rfl, hP.same b1, hbl, fun b H2 s2 hb => ⟨b, rfl, ?_⟩⟩
    have b2 := b1.trans s2
    cases b with
    | false =>
      refine iteT ?_
      exact ⟨(by show 1 ≤ 1000; decide), fun a ha => ⟨a, Z.IB.C, _, rfl, upd_same, Z.IB.O, Z.IB.noF, fun dx g1 g2 => ⟨rfl, dx, _, upd_same, by rw [upd_ne g2, upd_same], by rw [upd_ne g2] at g1; exact g1, ib_made b2 (q2 k1 fun z => Bool.noConfusion (hb.mpr z)) ha dx g1 g2⟩⟩⟩
    | true =>
    refine iteF ?_
    have k2 := hb.mp rfl
    clear hb
    refine ⟨_, rfl, _, rfl, .ref cp, pu, cs, bk, rfl, hC.same b2, hP.same b2, hcl, hbl, hrl, fun b H3 s3 hb => ⟨b, rfl, ?_⟩⟩
    have b3 := b2.trans s3
    cases b with
    | false =>
      refine iteT ?_
      exact ⟨(by show 1 ≤ 1000; decide), fun a ha => ⟨a, Z.IB.C, _, rfl, upd_same, Z.IB.O, Z.IB.noF, fun dx g1 g2 => ⟨rfl, dx, _, upd_same, by rw [upd_ne g2, upd_same], by rw [upd_ne g2] at g1; exact g1, ib_made b3 (q3 k1 k2 fun z => Bool.noConfusion (hb.mpr z)) ha dx g1 g2⟩⟩⟩
    | true =>
    refine iteF ?_
    have k3 := hb.mp rfl
    clear hb
    refine ⟨_, rfl, pu, bk, rfl, hP.same b3, hbl, hrl, fun b H4 s4 hb => ⟨b, rfl, ?_⟩⟩
    have b4 := b3.trans s4
    cases b with
    | false =>
      refine iteT ?_
      exact ⟨(by show 1 ≤ 1000; decide), fun a ha => ⟨a, Z.IB.C, _, rfl, upd_same, Z.IB.O, Z.IB.noF, fun dx g1 g2 => ⟨rfl, dx, _, upd_same, by rw [upd_ne g2, upd_same], by rw [upd_ne g2] at g1; exact g1, ib_made b4 (q4 k1 k2 k3 fun z => Bool.noConfusion (hb.mpr z)) ha dx g1 g2⟩⟩⟩
    | true =>
    refine iteF ?_
    have k4 := hb.mp rfl
    clear hb
    refine ⟨_, rfl, pu, bk, rfl, hP.same b4, k2.1, k2.2, hbl, hrl, k4, hsm, fun ft H5 us s5 hft hus => ?_⟩
    have b5 := b4.trans s5
    unfold gName
    dsimp only
    refine ⟨_, rfl, ft, us, unrolled bk, rfl, .inr hft, hus, unrolled_smallD hsm, fun b H6 s6 hb => ⟨b, rfl, ?_⟩⟩
    have b6 := b5.trans s6
    cases b with
    | false =>
      refine iteT ?_
      exact ⟨(by show 1 ≤ 1000; decide), fun a ha => ⟨a, Z.IB.C, _, rfl, upd_same, Z.IB.O, Z.IB.noF, fun dx g1 g2 => ⟨rfl, dx, _, upd_same, by rw [upd_ne g2, upd_same], by rw [upd_ne g2] at g1; exact g1, ib_made b6 (q5 k1 k2 k3 k4 fun z => Bool.noConfusion (hb.mpr z)) ha dx g1 g2⟩⟩⟩
    | true =>
    refine iteF ?_
    have k5 := hb.mp rfl
    clear hb
    have hx6 : H6 x = some (.ins B.C dx []) := s6 _ _ (s5 _ _ (s4 _ _ (s3 _ _ (s2 _ _ (s1 _ _ hx)))))
    have hft6 := Same.sqt s6 hft
    have hus6 := hus.same s6
    have hne := rows_ne hus6 hx6
    refine ⟨_, rfl, cp, ts.map V.ref, rfl, hcp.imp b6.seq (fun h => h.same b6), fun ct H7 s7 hX => ?_⟩
    have b7 := b6.trans s7
    have hx7 := s7 _ _ hx6
    refine ⟨_, rfl, x, B.C, dx, [], rfl, hx7, B.cl, B.noC, (by show 0 < 1000; decide), ?_⟩
    have b8 : Same Hb (upd H7 x (.ins B.C dx (putF "counters" (.ref ct) []))) := Same.updn b7 hxb
    have hX8 := tupx_ins (o := .ins B.C dx (putF "counters" (.ref ct) [])) hx7 hX
    have hft8 := sqt_ins (o := .ins B.C dx (putF "counters" (.ref ct) [])) hx7 (Same.sqt s7 hft6)
    have hus8 := rows_upd (o := .ins B.C dx (putF "counters" (.ref ct) [])) (hus6.same s7) hne
    have hx8 : upd H7 x (.ins B.C dx (putF "counters" (.ref ct) [])) x = some (.ins B.C dx (putF "counters" (.ref ct) [])) := upd_same
    generalize upd H7 x (.ins B.C dx (putF "counters" (.ref ct) [])) = H8 at b8 hX8 hft8 hus8 hx8 ⊢
    obtain ⟨p, ps, rfl, hp, hpd⟩ := hP
    refine ⟨_, rfl, p, ps.map V.ref, rfl, hp.same b8, fun pt H9 s9 hpt => ?_⟩
    have hx9 := s9 _ _ hx8
    refine ⟨_, rfl, x, B.C, dx, _, rfl, hx9, B.cl, B.noP, (by show 1 < 1000; decide), ?_⟩
    have b10 : Same Hb (upd H9 x (.ins B.C dx (putF "parts" (.ref pt) (putF "counters" (.ref ct) [])))) := Same.updn (b8.trans s9) hxb
    have hX10 := tupx_ins (o := .ins B.C dx (putF "parts" (.ref pt) (putF "counters" (.ref ct) []))) hx9 (hX8.same s9)
    have hft10 := sqt_ins (o := .ins B.C dx (putF "parts" (.ref pt) (putF "counters" (.ref ct) []))) hx9 (Same.sqt s9 hft8)
    have hpt10 := sqt_ins (o := .ins B.C dx (putF "parts" (.ref pt) (putF "counters" (.ref ct) []))) hx9 hpt
    have hus10 := rows_upd (o := .ins B.C dx (putF "parts" (.ref pt) (putF "counters" (.ref ct) []))) (hus8.same s9) hne
    have hx10 : upd H9 x (.ins B.C dx (putF "parts" (.ref pt) (putF "counters" (.ref ct) []))) x = some (.ins B.C dx (putF "parts" (.ref pt) (putF "counters" (.ref ct) []))) := upd_same
    generalize upd H9 x (.ins B.C dx (putF "parts" (.ref pt) (putF "counters" (.ref ct) []))) = H10 at b10 hX10 hft10 hpt10 hus10 hx10 ⊢
    refine ⟨_, rfl, _, rfl, x, B.C, dx, _, rfl, hx10, B.cl, B.noF, (by show 2 < 1000; decide), ?_⟩
    have b11 : Same Hb (upd H10 x (insBook B.C dx (.ref ct) (.ref pt) (.ref ft))) := Same.updn b10 hxb
    exact q k1 k2 k3 k4 k5 _ b11 ⟨dx, ct, pt, ft, ts, ps, us, upd_same, ⟨tupx_ins hx10 hX10, hcd.same b11⟩, ⟨sqt_ins hx10 hpt10, PtsIn.same hpd b11⟩, sqt_ins hx10 hft10, rows_upd hus10 hne⟩
end
end Pn

namespace Pn
open PySem L2 TL
/-! ### Book.__init__ with what it raises, for a try -/
section
variable {P : Program} {w : World} {K : PySem.W.Frag} {mg : Str → Option Value} {base : Heap}
theorem ok_bInitX {R : TRows K mg} {T : TPart R} {B : TBk T} (Z : TBad B) : FnOk P w K mg base (L2.CX P w) 4 B.fI B.fdI ["self", "counters", "parts"] (spBInitD B Z.IB.C) := by
  refine (funD B.FI).ok scBInit (fun vs H Q E h => ?_) (fun cdv A outer s H vs Q E hr h => ?_)
  · obtain ⟨x, dx, cp, pu, ts, cs, bk, Hb, rfl, _⟩ := h
    rfl
  · obtain ⟨x, dx, cp, pu, ts, cs, bk, Hb, rfl, hx, hxb, sb, hcp, hcd, hP, hcl, hsh, hbl, hrl, hsm, q1, q2, q3, q4, q5, q⟩ := h
    refine ⟨_, pss_cons (ps_if (pt_not (pt_val (pe_call (ok_areCD B.toTBks) (hr.mono (by decide)) rfl B.areC.m B.areC.F.kp B.areC.b .nil pass0 (pa_cons (pv 1) pa_nil)))) (pss_one (ps_raise rfl (takes_of rfl rfl rfl rfl) (pmk_oex Z.IB.O Z.IB.iC Z.IB.tI (okIBInit Z.IB) (hr.mono (by decide)) Z.IB.b .nil pass0 rfl Z.IB.m (pa_cons pe_str pa_nil)))) pss_nil)
      (pss_cons (ps_if (pt_not (pt_val (pe_call (ok_arePD B.toTBks) (hr.mono (by decide)) rfl B.areP.m B.areP.F.kp B.areP.b .nil pass0 (pa_cons (pv 2) pa_nil)))) (pss_one (ps_raise rfl (takes_of rfl rfl rfl rfl) (pmk_oex Z.IB.O Z.IB.iC Z.IB.tI (okIBInit Z.IB) (hr.mono (by decide)) Z.IB.b .nil pass0 rfl Z.IB.m (pa_cons pe_str pa_nil)))) pss_nil)
      (pss_cons (ps_if (pt_not (pt_val (pe_call (ok_cKnownD B.toTBks) (hr.mono (by decide)) rfl B.cKnown.m B.cKnown.F.kp B.cKnown.b .nil pass0 (pa_cons (pv 1) (pa_cons (pv 2) pa_nil))))) (pss_one (ps_raise rfl (takes_of rfl rfl rfl rfl) (pmk_oex Z.IB.O Z.IB.iC Z.IB.tI (okIBInit Z.IB) (hr.mono (by decide)) Z.IB.b .nil pass0 rfl Z.IB.m (pa_cons pe_str pa_nil)))) pss_nil)
      (pss_cons (ps_if (pt_not (pt_val (pe_call (ok_pEarlyD B.toTBks) (hr.mono (by decide)) rfl B.pEarly.m B.pEarly.F.kp B.pEarly.b .nil pass0 (pa_cons (pv 2) pa_nil)))) (pss_one (ps_raise rfl (takes_of rfl rfl rfl rfl) (pmk_oex Z.IB.O Z.IB.iC Z.IB.tI (okIBInit Z.IB) (hr.mono (by decide)) Z.IB.b .nil pass0 rfl Z.IB.m (pa_cons pe_str pa_nil)))) pss_nil)
      (pss_cons (ps_set (i := 3) scBInit.nd rfl (Or.inl rfl) (pe_call (ok_uText B.toTBks) hr rfl B.uText.m B.uText.F.kp B.uText.b .nil pass0 (pa_cons (pv 2) pa_nil)))
      (pss_cons (ps_if (pt_not (pt_val (pe_call (ok_refsKD B.toTBks) (hr.mono (by decide)) rfl B.refsK.m B.refsK.F.kp B.refsK.b .nil pass0 (pa_cons (pv 3) pa_nil)))) (pss_one (ps_raise rfl (takes_of rfl rfl rfl rfl) (pmk_oex Z.IB.O Z.IB.iC Z.IB.tI (okIBInit Z.IB) (hr.mono (by decide)) Z.IB.b .nil pass0 rfl Z.IB.m (pa_cons pe_str pa_nil)))) pss_nil)
      (pss_cons (ps_fld (pv 0) (pe_callTy cr_tupX2 (by rfl) T.mTup (by decide +kernel) (pa_cons (pv 1) pa_nil)) rfl)
      (pss_cons (ps_fld (pv 0) (pe_callTy cr_tupS (by rfl) T.mTup (by decide +kernel) (pa_cons (pv 2) pa_nil)) rfl)
      (pss_one (ps_fld (pv 0) (pv 3) rfl))))))))), ?_⟩
    have hC : CsArg K Hb (.ref cp) cs := ⟨cp, ts, rfl, hcp.imp id TupX.sqt, hcd⟩
    refine ⟨_, rfl, .ref cp, cs, rfl, hC.same sb, hcl, hsh, fun b H1 s1 hb => ⟨b, rfl, ?_⟩⟩
    have b1 := sb.trans s1
    cases b with
    | false =>
      refine iteT ?_
      exact ⟨(by show 1 ≤ 1000; decide), fun a ha => ⟨a, Z.IB.C, _, rfl, upd_same, Z.IB.O, Z.IB.noF, fun dx g1 g2 => ⟨rfl, dx, _, upd_same, by rw [upd_ne g2, upd_same], by rw [upd_ne g2] at g1; exact g1, ib_made b1 (q1 fun z => Bool.noConfusion (hb.mpr z)) ha dx g1 g2⟩⟩⟩
    | true =>
    refine iteF ?_
    have k1 := hb.mp rfl
    clear hb
    refine ⟨_, rfl, pu, bk, rfl, hP.same b1, hbl, fun b H2 s2 hb => ⟨b, rfl, ?_⟩⟩
    have b2 := b1.trans s2
    cases b with
    | false =>
      refine iteT ?_
      exact ⟨(by show 1 ≤ 1000; decide), fun a ha => ⟨a, Z.IB.C, _, rfl, upd_same, Z.IB.O, Z.IB.noF, fun dx g1 g2 => ⟨rfl, dx, _, upd_same, by rw [upd_ne g2, upd_same], by rw [upd_ne g2] at g1; exact g1, ib_made b2 (q2 k1 fun z => Bool.noConfusion (hb.mpr z)) ha dx g1 g2⟩⟩⟩
    | true =>
    refine iteF ?_
    have k2 := hb.mp rfl
    clear hb
    refine ⟨_, rfl, _, rfl, .ref cp, pu, cs, bk, rfl, hC.same b2, hP.same b2, hcl, hbl, hrl, fun b H3 s3 hb => ⟨b, rfl, ?_⟩⟩
    have b3 := b2.trans s3
    cases b with
    | false =>
      refine iteT ?_
      exact ⟨(by show 1 ≤ 1000; decide), fun a ha => ⟨a, Z.IB.C, _, rfl, upd_same, Z.IB.O, Z.IB.noF, fun dx g1 g2 => ⟨rfl, dx, _, upd_same, by rw [upd_ne g2, upd_same], by rw [upd_ne g2] at g1; exact g1, ib_made b3 (q3 k1 k2 fun z => Bool.noConfusion (hb.mpr z)) ha dx g1 g2⟩⟩⟩
    | true =>
    refine iteF ?_
    have k3 := hb.mp rfl
    clear hb
    refine ⟨_, rfl, pu, bk, rfl, hP.same b3, hbl, hrl, fun b H4 s4 hb => ⟨b, rfl, ?_⟩⟩
    have b4 := b3.trans s4
    cases b with
    | false =>
      refine iteT ?_
      exact ⟨(by show 1 ≤ 1000; decide), fun a ha => ⟨a, Z.IB.C, _, rfl, upd_same, Z.IB.O, Z.IB.noF, fun dx g1 g2 => ⟨rfl, dx, _, upd_same, by rw [upd_ne g2, upd_same], by rw [upd_ne g2] at g1; exact g1, ib_made b4 (q4 k1 k2 k3 fun z => Bool.noConfusion (hb.mpr z)) ha dx g1 g2⟩⟩⟩
    | true =>
    refine iteF ?_
    have k4 := hb.mp rfl
    clear hb
    refine ⟨_, rfl, pu, bk, rfl, hP.same b4, k2.1, k2.2, hbl, hrl, k4, hsm, fun ft H5 us s5 hft hus => ?_⟩
    have b5 := b4.trans s5
    unfold gName
    dsimp only
    refine ⟨_, rfl, ft, us, unrolled bk, rfl, .inr hft, hus, unrolled_smallD hsm, fun b H6 s6 hb => ⟨b, rfl, ?_⟩⟩
    have b6 := b5.trans s6
    cases b with
    | false =>
      refine iteT ?_
      exact ⟨(by show 1 ≤ 1000; decide), fun a ha => ⟨a, Z.IB.C, _, rfl, upd_same, Z.IB.O, Z.IB.noF, fun dx g1 g2 => ⟨rfl, dx, _, upd_same, by rw [upd_ne g2, upd_same], by rw [upd_ne g2] at g1; exact g1, ib_made b6 (q5 k1 k2 k3 k4 fun z => Bool.noConfusion (hb.mpr z)) ha dx g1 g2⟩⟩⟩
    | true =>
    refine iteF ?_
    have k5 := hb.mp rfl
    clear hb
    have hx6 : H6 x = some (.ins B.C dx []) := s6 _ _ (s5 _ _ (s4 _ _ (s3 _ _ (s2 _ _ (s1 _ _ hx)))))
    have hft6 := Same.sqt s6 hft
    have hus6 := hus.same s6
    have hne := rows_ne hus6 hx6
    refine ⟨_, rfl, cp, ts.map V.ref, rfl, hcp.imp b6.seq (fun h => h.same b6), fun ct H7 s7 hX => ?_⟩
    have b7 := b6.trans s7
    have hx7 := s7 _ _ hx6
    refine ⟨_, rfl, x, B.C, dx, [], rfl, hx7, B.cl, B.noC, (by show 0 < 1000; decide), ?_⟩
    have b8 : Same Hb (upd H7 x (.ins B.C dx (putF "counters" (.ref ct) []))) := Same.updn b7 hxb
    have hX8 := tupx_ins (o := .ins B.C dx (putF "counters" (.ref ct) [])) hx7 hX
    have hft8 := sqt_ins (o := .ins B.C dx (putF "counters" (.ref ct) [])) hx7 (Same.sqt s7 hft6)
    have hus8 := rows_upd (o := .ins B.C dx (putF "counters" (.ref ct) [])) (hus6.same s7) hne
    have hx8 : upd H7 x (.ins B.C dx (putF "counters" (.ref ct) [])) x = some (.ins B.C dx (putF "counters" (.ref ct) [])) := upd_same
    generalize upd H7 x (.ins B.C dx (putF "counters" (.ref ct) [])) = H8 at b8 hX8 hft8 hus8 hx8 ⊢
    obtain ⟨p, ps, rfl, hp, hpd⟩ := hP
    refine ⟨_, rfl, p, ps.map V.ref, rfl, hp.same b8, fun pt H9 s9 hpt => ?_⟩
    have hx9 := s9 _ _ hx8
    refine ⟨_, rfl, x, B.C, dx, _, rfl, hx9, B.cl, B.noP, (by show 1 < 1000; decide), ?_⟩
    have b10 : Same Hb (upd H9 x (.ins B.C dx (putF "parts" (.ref pt) (putF "counters" (.ref ct) [])))) := Same.updn (b8.trans s9) hxb
    have hX10 := tupx_ins (o := .ins B.C dx (putF "parts" (.ref pt) (putF "counters" (.ref ct) []))) hx9 (hX8.same s9)
    have hft10 := sqt_ins (o := .ins B.C dx (putF "parts" (.ref pt) (putF "counters" (.ref ct) []))) hx9 (Same.sqt s9 hft8)
    have hpt10 := sqt_ins (o := .ins B.C dx (putF "parts" (.ref pt) (putF "counters" (.ref ct) []))) hx9 hpt
    have hus10 := rows_upd (o := .ins B.C dx (putF "parts" (.ref pt) (putF "counters" (.ref ct) []))) (hus8.same s9) hne
    have hx10 : upd H9 x (.ins B.C dx (putF "parts" (.ref pt) (putF "counters" (.ref ct) []))) x = some (.ins B.C dx (putF "parts" (.ref pt) (putF "counters" (.ref ct) []))) := upd_same
    generalize upd H9 x (.ins B.C dx (putF "parts" (.ref pt) (putF "counters" (.ref ct) []))) = H10 at b10 hX10 hft10 hpt10 hus10 hx10 ⊢
    refine ⟨_, rfl, _, rfl, x, B.C, dx, _, rfl, hx10, B.cl, B.noF, (by show 2 < 1000; decide), ?_⟩
    have b11 : Same Hb (upd H10 x (insBook B.C dx (.ref ct) (.ref pt) (.ref ft))) := Same.updn b10 hxb
    exact q k1 k2 k3 k4 k5 _ b11 ⟨dx, ct, pt, ft, ts, ps, us, upd_same, ⟨tupx_ins hx10 hX10, hcd.same b11⟩, ⟨sqt_ins hx10 hpt10, PtsIn.same hpd b11⟩, sqt_ins hx10 hft10, rows_upd hus10 hne⟩
end
end Pn

namespace Pn
open PySem L2 TL
/-! ### counters and parts that are none: what is_pair, are_counters, are_parts, Book.__init__ tell of them -/
def pairD : PyData → Bool
  | .tuple [_, _] => true
  | _ => false
def tupT : PyData → Bool
  | .tuple _ => true
  | _ => false
theorem kit_tupT : ∀ d : PyData, kitB (tyD d) "tuple" = some (tupT d)
  | .none => (by decide +kernel : kitB "NoneType" "tuple" = some false)
  | .bool _ => (by decide +kernel : kitB "bool" "tuple" = some false)
  | .int _ => (by decide +kernel : kitB "int" "tuple" = some false)
  | .str _ => (by decide +kernel : kitB "str" "tuple" = some false)
  | .list _ => (by decide +kernel : kitB "list" "tuple" = some false)
  | .tuple _ => (by decide +kernel : kitB "tuple" "tuple" = some true)
  | .dict _ => (by decide +kernel : kitB "dict" "tuple" = some false)
theorem dpAll_len {K : PySem.W.Frag} {H : Hp} : ∀ {vs : List V} {ds : List PyData}, DpAll K H vs ds → vs.length = ds.length
  | _, _, .nil => rfl
  | _, _, .cons _ b => congrArg Nat.succ (dpAll_len b)
theorem pair_len (ds : List PyData) : pairD (.tuple ds) = decide ((ds.length : Int) = 2) := by
  match ds with
  | [] => rfl
  | [_] => rfl
  | [_, _] => rfl
  | _ :: _ :: _ :: l =>
    show false = _
    refine (decide_eq_false fun z => ?_).symm
    simp only [List.length_cons] at z
    omega
section
variable {P : Program} {w : World} {K : PySem.W.Frag} {mg : Str → Option Value} {base : Heap}
def spIsPairD (K : PySem.W.Frag) : Sp := fun vs H Q _ => ∃ (v : V) (d : PyData), vs = [v] ∧ Dp K H v d ∧ Q (.bl (pairD d)) H
theorem ok_isPairD {R : TRows K mg} {T : TPart R} (B : TBks T) : FnOk P w K mg base CX0 1 B.isPair.f B.isPair.fd ["value"] (spIsPairD K) := by
  refine B.isPair.F.ok scIsPair (fun vs H Q E h => ?_) (fun cdv A outer s H vs Q E hr h => ?_)
  · obtain ⟨v, d, rfl, _⟩ := h
    rfl
  · obtain ⟨v, d, rfl, hd, q⟩ := h
    refine ⟨_, pss_one (ps_ret (pe_and (pe_callB call_isi (by rfl) R.N.mIsi (by decide +kernel) (pa_cons (pv 0) (pa_cons (pe_bltn (v := .ty "tuple") (by rfl) T.mTup (by decide +kernel) rfl) pa_nil)))
      (pe_one (pe_cmpR op_eq (pe_callB call_len_seq (by rfl) R.N.mLen PySem.boot_len (pa_cons (pv 0) pa_nil)) pe_int (nomark _))))), ?_⟩
    refine ⟨_, rfl, v, .ty "tuple", _, _, tupT d, rfl, .ty _, dp_ty hd, kit_ty (kit_tupT d), _, rfl, ?_⟩
    cases d with
    | none => exact q
    | str z => exact q
    | list ds => exact q
    | dict ds => exact q
    | int i => exact q
    | bool i => exact q
    | tuple ds =>
      refine iteT ?_
      cases hd with
      | tup s a =>
        refine ⟨_, rfl, _, _, rfl, .inr s, rfl, ?_⟩
        rw [pair_len, ← dpAll_len a] at q
        show Q (V.bl (decide (V.int _ = V.int 2))) H
        rw [show ∀ n : Int, decide (V.int n = V.int 2) = decide (n = 2) from fun n => decide_eq_decide.mpr ⟨fun z => V.int.inj z, fun z => congrArg V.int z⟩]
        exact q
def OddC (K : PySem.W.Frag) (H : Hp) (v : V) : Prop := (∃ d, Dp K H v d ∧ pairD d = false) ∨ (∃ t y e, v = .ref t ∧ SqT K H t [.non, y] ∧ Dp K H y e) ∨ (∃ t z, v = .ref t ∧ SqT K H t [.str z, .non] ∧ nameS z = true)
theorem OddC.same {H H' : Hp} {v : V} (h : OddC K H v) (s : Same H H') : OddC K H' v := by
  rcases h with ⟨d, h, e⟩ | ⟨t, y, e, h1, h2, h3⟩ | ⟨t, z, h1, h2, h3⟩
  · exact .inl ⟨d, dp_same s d v h, e⟩
  · exact .inr (.inl ⟨t, y, e, h1, Same.sqt s h2, dp_same s e y h3⟩)
  · exact .inr (.inr ⟨t, z, h1, Same.sqt s h2, h3⟩)
def OddCs (K : PySem.W.Frag) (H : Hp) (cu : V) : Prop := (∃ d, Dp K H cu d ∧ seqD d = false) ∨ (∃ (p : Addr) (ts : List Addr) (cs : List (Str × Str)) (o : V) (rest : List V), cu = .ref p ∧ SqL K H p (ts.map V.ref ++ o :: rest) ∧ CsIn K H ts cs ∧ OddC K H o ∧ cs.length ≤ 100 ∧ ∀ c ∈ cs, c.1.length ≤ 900)
theorem OddCs.same {H H' : Hp} {cu : V} (h : OddCs K H cu) (s : Same H H') : OddCs K H' cu := by
  rcases h with ⟨d, h, e⟩ | ⟨p, ts, cs, o, rest, e, h1, h2, h3, h4, h5⟩
  · exact .inl ⟨d, dp_same s d cu h, e⟩
  · exact .inr ⟨p, ts, cs, o, rest, e, s.seq h1, h2.same s, h3.same s, h4, h5⟩
def spAreCX (K : PySem.W.Frag) : Sp := fun vs H Q _ => ∃ cu : V, vs = [cu] ∧ OddCs K H cu ∧ ∀ H', Same H H' → Q (.bl false) H'
theorem ok_areCX {R : TRows K mg} {T : TPart R} (B : TBks T) : FnOk P w K mg base CX0 2 B.areC.f B.areC.fd ["counters"] (spAreCX K) := by
  refine B.areC.F.ok scAreC (fun vs H Q E h => ?_) (fun cdv A outer s H vs Q E hr h => ?_)
  · obtain ⟨cu, rfl, _⟩ := h
    rfl
  · obtain ⟨cu, rfl, hcu, q⟩ := h
    refine ⟨_, pss_cons (ps_if (pt_not (pt_val (pe_call (ok_isSeq T.isSeq.F R.N.mIsi T.mList T.mTup) (hr.mono (by decide)) rfl T.isSeq.m T.isSeq.F.kp T.isSeq.b .nil pass0 (pa_cons (pv 0) pa_nil)))) (pss_one (ps_ret pe_bl)) pss_nil)
      (pss_cons (ps_set (i := 1) scAreC.nd rfl (Or.inl rfl) (pe_lst pa_nil))
      (pss_cons (ps_for PassesOwn.never rfl (pi_list (pv 0)) (pg_name (i := 2) scAreC.nd rfl (Or.inl rfl))
        (pss_cons (ps_if (PW.pt (pw_or (pt_not (pt_val (pe_call (ok_isPairD B) (hr.mono (by decide)) rfl B.isPair.m B.isPair.F.kp B.isPair.b .nil pass0 (pa_cons (pv 2) pa_nil))))
            (pw_or (pt_not (pt_val (pe_call R.N.okName (hr.mono (by decide)) rfl R.N.isName.m R.N.isName.F.kp R.N.isName.b .nil pass0 (pa_cons (pe_ix ix_tup (pv 2) pe_int (fun _ _ => rfl)) pa_nil))))
              (pw_or1 (pt_cmpR op_in_seq (pe_ix ix_tup (pv 2) pe_int (fun _ _ => rfl)) (pv 1) rfl))))) (pss_one (ps_ret pe_bl)) pss_nil)
        (pss_cons (ps_if (PW.pt (pw_and (pt_cmpR op_ne (pe_ix ix_tup (pv 2) pe_int (fun _ _ => rfl)) pe_str (nomark _)) (pw_and1 (pt_cmpR op_notIn_seq (pe_ix ix_tup (pv 2) pe_int (fun _ _ => rfl)) (pv 1) rfl)))) (pss_one (ps_ret pe_bl)) pss_nil)
        (pss_one (ps_expr (pe_bm PySem.F.plainAttrs_list PySem.F.slot_list_append PySem.F.type_list_append mt_append (pv 1) (pa_cons (pe_ix ix_tup (pv 2) pe_int (fun _ _ => rfl)) pa_nil)))))))
      (pss_one (ps_ret pe_bl)))), ?_⟩
    rcases hcu with ⟨d, hd, hs⟩ | ⟨p, ts, cs, o, rest, rfl, hp, hpd, ho, hcl, hsh⟩
    · refine ⟨_, rfl, _, _, _, rfl, dp_ty hd, kit_seq d, fun H' s' => dp_ty (dp_same s' d cu hd), fun H1 s1 m1 => ?_⟩
      rw [hs]
      refine ⟨false, rfl, iteT ?_⟩
      exact q _ s1
    obtain ⟨t0, hk, ht1, ht2⟩ := seq_kind (.inl hp)
    refine ⟨_, rfl, _, t0, true, rfl, ht1, hk, ht2, fun H1 s1 m1 => ⟨true, rfl, iteF ?_⟩⟩
    refine ⟨Nat.zero_le _, fun F hF => ?_⟩
    have sH := s1.trans (Same.new (o := .lst []) hF)
    have hFn : H F = none := s1.free hF
    have hF2 : upd H1 F (.lst []) F = some (.lst []) := upd_same
    generalize upd H1 F (.lst []) = H2 at sH hF2 ⊢
    have htl : ts.length = cs.length := paired_len hpd
    have big : (1001 : Nat) ≤ sizeLine := by decide
    refine ⟨_, rfl, p, rfl, ⟨_, sH.seq hp⟩, for_list (xs := ts.map V.ref ++ o :: rest) (fun i σ Hi => ∃ x2, σ = [some (.ref p), some (.ref F), x2] ∧ Same H Hi ∧ i ≤ ts.length ∧ Hi F = some (.lst (((cs.take i).map (·.1)).map V.str))) ⟨_, rfl, sH, Nat.zero_le _, hF2⟩ (fun i σ Hi _ hP => by obtain ⟨_, _, s, _⟩ := hP; exact s.seq hp) (fun i x σ Hi hx hP => ?turn) (fun σ Hi hP => ?done)⟩
    case done =>
      obtain ⟨_, rfl, s3, hi, _⟩ := hP
      rw [List.length_append, List.length_map, List.length_cons] at hi
      omega
    case turn =>
      obtain ⟨_, rfl, s3, hil, hFi⟩ := hP
      rcases Nat.lt_or_ge i ts.length with hlt | hge
      · rw [List.getElem?_append_left (by rw [List.length_map]; exact hlt), List.getElem?_map] at hx
        cases hxi : ts[i]? with
        | none => rw [hxi] at hx; cases hx
        | some t =>
        rw [hxi] at hx
        cases hx
        obtain ⟨c, hc, ht⟩ := paired_at hpd hxi
        have ht3 := Same.sqt s3 ht
        have hcm := List.mem_of_getElem? hc
        refine ⟨_, rfl, .ref t, .tuple [.str c.1, .str c.2], rfl, .tup ht3 (.cons (.str _) (.cons (.str _) .nil)), true, rfl, iteF ?_⟩
        refine ⟨_, rfl, t, _, _, .str c.1, rfl, rfl, ht3, rfl, .str c.1, .str c.1, rfl, .str _, hsh c hcm, fun H4 s4 m4 => ⟨nameS c.1, rfl, ?_⟩⟩
        by_cases hnm : nameS c.1 = true
        case neg =>
          rw [Bool.not_eq_true] at hnm
          rw [hnm]
          refine iteT ?_
          exact q _ (s3.trans s4)
        rw [hnm]
        refine iteF ?_
        have ht4 := Same.sqt s4 ht3
        have hF4 := s4 _ _ hFi
        refine ⟨_, rfl, t, _, _, .str c.1, rfl, rfl, ht4, rfl, _, rfl, F, _, rfl, .inl (SqL.of hF4), rfl, flat_strs, ?_⟩
        by_cases hnew : c.1 ∉ (cs.take i).map (·.1)
        case neg =>
          refine ⟨_, rfl, iteTD (by show inV (.str c.1) _ = true; rw [inV_strs]; exact decide_eq_true (Classical.not_not.mp hnew)) ?_⟩
          exact q _ (s3.trans s4)
        refine ⟨_, rfl, iteFD (by show inV (.str c.1) _ = false; rw [inV_strs]; exact decide_eq_false hnew) ?_⟩
        unfold tNext
        try dsimp only
        by_cases hup : c.2 = "" ∨ c.2 ∈ (cs.take i).map (·.1)
        case neg =>
          have h1 : c.2 ≠ "" := fun z => hup (.inl z)
          have h2 : c.2 ∉ (cs.take i).map (·.1) := fun z => hup (.inr z)
          refine ⟨_, rfl, t, _, _, .str c.2, rfl, rfl, ht4, rfl, rfl, _, rfl, ?_⟩
          refine iteTD (by rw [Bool.not_eq_true', decide_eq_false_iff_not]; exact fun z => h1 (V.str.inj z)) ?_
          refine ⟨_, rfl, t, _, _, .str c.2, rfl, rfl, ht4, rfl, _, rfl, F, _, rfl, .inl (SqL.of hF4), rfl, flat_strs, _, rfl, ?_⟩
          have e : (!inV (.str c.2) (((cs.take i).map (·.1)).map V.str)) = true := by rw [inV_strs, decide_eq_false h2]; rfl
          refine iteTD e ?_
          exact q _ (s3.trans s4)
        refine stepNo (fun Hx => Hx = H4) (fun Q' hQ => ?_) (fun Hx hx => ?_)
        · refine ⟨_, rfl, t, _, _, .str c.2, rfl, rfl, ht4, rfl, rfl, _, rfl, ?_⟩
          by_cases hc2 : c.2 = ""
          · refine iteFD (by rw [hc2]; decide +kernel) ?_
            exact hQ _ rfl
          · refine iteTD (by rw [Bool.not_eq_true', decide_eq_false_iff_not]; exact fun z => hc2 (V.str.inj z)) ?_
            refine ⟨_, rfl, t, _, _, .str c.2, rfl, rfl, ht4, rfl, _, rfl, F, _, rfl, .inl (SqL.of hF4), rfl, flat_strs, _, rfl, ?_⟩
            have e : (!inV (.str c.2) (((cs.take i).map (·.1)).map V.str)) = false := by rw [inV_strs, decide_eq_true (hup.resolve_left hc2)]; rfl
            show Q' (!inV (.str c.2) (((cs.take i).map (·.1)).map V.str)) H4
            rw [e]
            exact hQ _ rfl
        · subst hx
          refine ⟨_, rfl, .inl ⟨rfl, _, SqL.of hF4⟩, _, rfl, t, _, _, .str c.1, rfl, rfl, ht4, rfl, F, _, _, rfl, rfl, hF4, ?_, ?_⟩
          · rw [List.length_map, List.length_map, List.length_take]
            omega
          · refine ⟨_, rfl, Same.updn (s3.trans s4) hFn, hlt, ?_⟩
            rw [upd_same, List.take_add_one, hc, List.map_append, List.map_append]
            rfl
      · obtain rfl : i = ts.length := by omega
        rw [List.getElem?_append_right (by rw [List.length_map]; exact Nat.le_refl _), List.length_map, Nat.sub_self] at hx
        cases hx
        rcases ho.same s3 with ⟨d, hd, hpf⟩ | ⟨t, y, e, rfl, ht, hy⟩ | ⟨t, z, rfl, ht, hz⟩
        · refine ⟨_, rfl, _, d, rfl, hd, ?_⟩
          rw [hpf]
          refine ⟨false, rfl, iteT ?_⟩
          exact q _ s3
        · refine ⟨_, rfl, _, .tuple [.none, e], rfl, .tup ht (.cons .non (.cons hy .nil)), true, rfl, iteF ?_⟩
          refine ⟨_, rfl, t, _, _, .non, rfl, rfl, ht, rfl, .non, .none, rfl, .non, trivial, fun H4 s4 m4 => ⟨false, rfl, iteT ?_⟩⟩
          exact q _ (s3.trans s4)
        · refine ⟨_, rfl, _, .tuple [.str z, .none], rfl, .tup ht (.cons (.str z) (.cons .non .nil)), true, rfl, iteF ?_⟩
          refine ⟨_, rfl, t, _, _, .str z, rfl, rfl, ht, rfl, .str z, .str z, rfl, .str _, Nat.le_trans (name_ok hz).2 (by decide), fun H4 s4 m4 => ⟨nameS z, rfl, ?_⟩⟩
          rw [hz]
          refine iteF ?_
          have ht4 := Same.sqt s4 ht
          have hF4 := s4 _ _ hFi
          refine ⟨_, rfl, t, _, _, .str z, rfl, rfl, ht4, rfl, _, rfl, F, _, rfl, .inl (SqL.of hF4), rfl, flat_strs, ?_⟩
          by_cases hnew : z ∉ (cs.take ts.length).map (·.1)
          case neg =>
            refine ⟨_, rfl, iteTD (by show inV (.str z) _ = true; rw [inV_strs]; exact decide_eq_true (Classical.not_not.mp hnew)) ?_⟩
            exact q _ (s3.trans s4)
          refine ⟨_, rfl, iteFD (by show inV (.str z) _ = false; rw [inV_strs]; exact decide_eq_false hnew) ?_⟩
          unfold tNext
          try dsimp only
          refine ⟨_, rfl, t, _, _, .non, rfl, rfl, ht4, rfl, rfl, _, rfl, ?_⟩
          refine iteTD (by decide +kernel) ?_
          refine ⟨_, rfl, t, _, _, .non, rfl, rfl, ht4, rfl, _, rfl, F, _, rfl, .inl (SqL.of hF4), rfl, flat_strs, _, rfl, ?_⟩
          have nn : ∀ l : List Str, inV .non (l.map V.str) = false := fun l => by
            induction l with
            | nil => rfl
            | cons a l ih => exact ih
          have e : (!inV .non (((cs.take ts.length).map (·.1)).map V.str)) = true := by rw [nn]; rfl
          refine iteTD e ?_
          exact q _ (s3.trans s4)
/-! ### parts -/
structure TOdd {K : PySem.W.Frag} {mg : Str → Option Value} {R : TRows K mg} (T : TPart R) : Type where
  kS : PySem.W.kitAny K (.ref T.C) [.type "list", .type "tuple"] = some false
  kD : ∀ d : PyData, PySem.W.kitOne K (.type (tyD d)) (.ref T.C) = some false
def PartFlag {R : TRows K mg} (T : TPart R) (H : Hp) (x : V) (b : Bool) : Prop := (b = true ∧ ∃ a n rs, x = .ref a ∧ PtAt T H a n rs) ∨ (b = false ∧ ∃ d, Dp K H x d)
theorem PartFlag.same {R : TRows K mg} {T : TPart R} {H H' : Hp} {x : V} {b : Bool} (h : PartFlag T H x b) (s : Same H H') : PartFlag T H' x b := by
  rcases h with ⟨e, a, n, rs, e2, h⟩ | ⟨e, d, h⟩
  · exact .inl ⟨e, a, n, rs, e2, h.same s⟩
  · exact .inr ⟨e, d, dp_same s d x h⟩
theorem pt_ty {R : TRows K mg} {T : TPart R} {H : Hp} {a : Addr} {n : Str} {rs : List RowD} (h : PtAt T H a n rs) : TyX K H (.ref a) (.ref T.C) := by
  obtain ⟨dx, tp, us, ha, _, _⟩ := h
  exact .base (.ins ha T.cl T.pA T.cN T.cT T.pM)
def OddPs {R : TRows K mg} (T : TPart R) (H : Hp) (pu : V) : Prop := (∃ d, Dp K H pu d ∧ seqD d = false) ∨ (∃ a n rs, pu = .ref a ∧ PtAt T H a n rs) ∨ (∃ p xs bs, pu = .ref p ∧ SqL K H p xs ∧ Paired (PartFlag T H) xs bs ∧ bs.all id = false ∧ xs.length ≤ 1000)
theorem OddPs.same {R : TRows K mg} {T : TPart R} {H H' : Hp} {pu : V} (h : OddPs T H pu) (s : Same H H') : OddPs T H' pu := by
  rcases h with ⟨d, h, e⟩ | ⟨a, n, rs, e, h⟩ | ⟨p, xs, bs, e, h1, h2, h3, h4⟩
  · exact .inl ⟨d, dp_same s d pu h, e⟩
  · exact .inr (.inl ⟨a, n, rs, e, h.same s⟩)
  · exact .inr (.inr ⟨p, xs, bs, e, s.seq h1, paired_mono (fun _ _ z => z.same s) h2, h3, h4⟩)
def spArePX {R : TRows K mg} (T : TPart R) : Sp := fun vs H Q _ => ∃ pu : V, vs = [pu] ∧ OddPs T H pu ∧ ∀ H', Same H H' → Q (.bl false) H'
theorem ok_arePX {R : TRows K mg} {T : TPart R} (B : TBks T) (O : TOdd T) : FnOk P w K mg base CX0 2 B.areP.f B.areP.fd ["parts"] (spArePX T) := by
  refine B.areP.F.ok scAreP (fun vs H Q E h => ?_) (fun cdv A outer s H vs Q E hr h => ?_)
  · obtain ⟨pu, rfl, _⟩ := h
    rfl
  · obtain ⟨pu, rfl, hpu, q⟩ := h
    refine ⟨_, pss_cons (ps_if (PW.pt (pw_or (pt_not (pt_val (pe_call (ok_isSeq T.isSeq.F R.N.mIsi T.mList T.mTup) (hr.mono (by decide)) rfl T.isSeq.m T.isSeq.F.kp T.isSeq.b .nil pass0 (pa_cons (pv 0) pa_nil))))
          (pw_or1 (pt_not (pt_val (pe_callB (cr_all rfl) (by rfl) R.N.mAll (by decide +kernel) (pa_cons (pe_lc (own := [("part", 1)]) (g := gName 1) (tt := tYes) (by rfl) scAreP.nd (pi_seq (pv 0))
            (blkOk_by (N := ["parts", "part"]) (sc := defScope sAreP) (by decide +kernel)) (fun _ _ _ _ _ => pg_name (i := 1) scAreP.nd rfl (Or.inl rfl)) (fun _ _ _ _ _ => pts_nil)
            (fun _ _ _ _ _ => pe_callB (show CallR _ (.builtin "isinstance") (rIsi K) from call_isi) (by rfl) R.N.mIsi (by decide +kernel) (pa_cons (pv 1) (pa_cons (pe_glob (v := .ref T.C) (by rfl) T.mC rfl) pa_nil)))) pa_nil)))))))
        (pss_one (ps_ret pe_bl)) pss_nil)
      pss_never, ?_⟩
    rcases hpu with ⟨d, hd, hs⟩ | ⟨a, n, rs, rfl, hpt⟩ | ⟨p, xs, bs, rfl, hp, hpd, hall, hxl⟩
    · refine ⟨_, rfl, _, _, _, rfl, dp_ty hd, kit_seq d, fun H' s' => dp_ty (dp_same s' d pu hd), fun H1 s1 m1 => ?_⟩
      rw [hs]
      refine ⟨false, rfl, iteT ?_⟩
      exact q _ s1
    · refine ⟨_, rfl, _, _, false, rfl, pt_ty hpt, O.kS, fun H' s' => pt_ty (hpt.same s'), fun H1 s1 m1 => ⟨false, rfl, iteT ?_⟩⟩
      exact q _ s1
    · obtain ⟨t0, hk, ht1, ht2⟩ := seq_kind (.inl hp)
      refine ⟨_, rfl, _, t0, true, rfl, ht1, hk, ht2, fun H1 s1 m1 => ⟨true, rfl, iteF ?_⟩⟩
      have hp1 : Sq K H1 p xs := .inl (s1.seq hp)
      have hpd1 := paired_mono (fun _ _ z => PartFlag.same z s1) hpd
      have hbl : xs.length = bs.length := paired_len hpd
      unfold tNot tB tCB tCons
      refine lcw_seq (fun R r => ⟨_, rfl, r⟩) hp1 (by omega) (out := fun i => (bs[i]?).map fun b => V.bl b) (fun i x Hi S Y hx si _ hY => ?_) (fun D H2 hD s2 hD2 => ?_)
      · obtain ⟨b, hb, hf⟩ := paired_at hpd1 hx
        have fin : Y (.bl b) Hi := hY _ (by show (bs[i]?).map _ = _; rw [hb]; rfl) _ (Same.refl _)
        rcases hf.same si with ⟨rfl, a, n, rs, rfl, hpt⟩ | ⟨rfl, d, hd⟩
        · exact ⟨rfl, _, rfl, .ref a, .ref T.C, _, _, true, rfl, .own _, pt_ty hpt, T.kC, fin⟩
        · exact ⟨rfl, _, rfl, _, .ref T.C, _, _, false, rfl, .own _, dp_ty hd, O.kD d, fin⟩
      · rw [hbl, out_map] at hD2
        refine ⟨D, bs, rfl, SqL.of hD2, ?_⟩
        rw [hall]
        refine ⟨false, rfl, iteT ?_⟩
        exact q _ (s1.trans s2)
/-! ### Book.__init__ -/
def spBInitO {R : TRows K mg} {T : TPart R} (B : TBk T) (CB : Addr) : Sp := fun vs H _ E => ∃ (x dx : Addr) (cu pu : V) (Hb : Hp), vs = [.ref x, cu, pu] ∧ H x = some (.ins B.C dx []) ∧ Hb x = none ∧ Same Hb H ∧
  ((OddCs K Hb cu ∧ RaiseS CB Hb E (.str "counters")) ∨ (∃ cs, CsArg K Hb cu cs ∧ cs.length ≤ 100 ∧ (∀ c ∈ cs, c.1.length ≤ 900) ∧ (∀ i, GoodAt cs i) ∧ OddPs T Hb pu ∧ RaiseS CB Hb E (.str "parts")))
theorem ok_bInitOC {R : TRows K mg} {T : TPart R} {B : TBk T} (Z : TBad B) : FnOk P w K mg base (L2.CX P w) 4 B.fI B.fdI ["self", "counters", "parts"] (fun vs H _ E => ∃ (x dx : Addr) (cu pu : V) (Hb : Hp), vs = [.ref x, cu, pu] ∧ H x = some (.ins B.C dx []) ∧ Hb x = none ∧ Same Hb H ∧ OddCs K Hb cu ∧ RaiseS Z.IB.C Hb E (.str "counters")) := by
  refine (funD B.FI).ok scBInit (fun vs H Q E h => ?_) (fun cdv A outer s H vs Q E hr h => ?_)
  · obtain ⟨x, dx, cu, pu, Hb, rfl, _⟩ := h
    rfl
  · obtain ⟨x, dx, cu, pu, Hb, rfl, hx, hxb, sb, hc, q1⟩ := h
    refine ⟨_, pss_cons (ps_if (pt_not (pt_val (pe_call (ok_areCX B.toTBks) (hr.mono (by decide)) rfl B.areC.m B.areC.F.kp B.areC.b .nil pass0 (pa_cons (pv 1) pa_nil)))) (pss_one (ps_raise rfl (takes_of rfl rfl rfl rfl) (pmk_oex Z.IB.O Z.IB.iC Z.IB.tI (okIBInit Z.IB) (hr.mono (by decide)) Z.IB.b .nil pass0 rfl Z.IB.m (pa_cons pe_str pa_nil)))) pss_nil)
      pss_never, ?_⟩
    refine ⟨_, rfl, cu, rfl, hc.same sb, fun H1 s1 => ⟨false, rfl, iteT ?_⟩⟩
    have b1 := sb.trans s1
    exact ⟨(by show 1 ≤ 1000; decide), fun a ha => ⟨a, Z.IB.C, _, rfl, upd_same, Z.IB.O, Z.IB.noF, fun dx g1 g2 => ⟨rfl, dx, _, upd_same, by rw [upd_ne g2, upd_same], by rw [upd_ne g2] at g1; exact g1, ib_made b1 q1 ha dx g1 g2⟩⟩⟩
theorem ok_bInitOP {R : TRows K mg} {T : TPart R} {B : TBk T} (Z : TBad B) (O : TOdd T) : FnOk P w K mg base (L2.CX P w) 4 B.fI B.fdI ["self", "counters", "parts"] (fun vs H _ E => ∃ (x dx : Addr) (cu pu : V) (Hb : Hp) (cs : List (Str × Str)), vs = [.ref x, cu, pu] ∧ H x = some (.ins B.C dx []) ∧ Hb x = none ∧ Same Hb H ∧ CsArg K Hb cu cs ∧ cs.length ≤ 100 ∧ (∀ c ∈ cs, c.1.length ≤ 900) ∧ (∀ i, GoodAt cs i) ∧ OddPs T Hb pu ∧ RaiseS Z.IB.C Hb E (.str "parts")) := by
  refine (funD B.FI).ok scBInit (fun vs H Q E h => ?_) (fun cdv A outer s H vs Q E hr h => ?_)
  · obtain ⟨x, dx, cu, pu, Hb, cs, rfl, _⟩ := h
    rfl
  · obtain ⟨x, dx, cu, pu, Hb, cs, rfl, hx, hxb, sb, hc, hcl, hsh, hg, hP, q1⟩ := h
    refine ⟨_, pss_cons (ps_if (pt_not (pt_val (pe_call (ok_areCD B.toTBks) (hr.mono (by decide)) rfl B.areC.m B.areC.F.kp B.areC.b .nil pass0 (pa_cons (pv 1) pa_nil)))) (pss_one (ps_raise rfl (takes_of rfl rfl rfl rfl) (pmk_oex Z.IB.O Z.IB.iC Z.IB.tI (okIBInit Z.IB) (hr.mono (by decide)) Z.IB.b .nil pass0 rfl Z.IB.m (pa_cons pe_str pa_nil)))) pss_nil)
      (pss_cons (ps_if (pt_not (pt_val (pe_call (ok_arePX B.toTBks O) (hr.mono (by decide)) rfl B.areP.m B.areP.F.kp B.areP.b .nil pass0 (pa_cons (pv 2) pa_nil)))) (pss_one (ps_raise rfl (takes_of rfl rfl rfl rfl) (pmk_oex Z.IB.O Z.IB.iC Z.IB.tI (okIBInit Z.IB) (hr.mono (by decide)) Z.IB.b .nil pass0 rfl Z.IB.m (pa_cons pe_str pa_nil)))) pss_nil)
      pss_never), ?_⟩
    refine ⟨_, rfl, cu, cs, rfl, hc.same sb, hcl, hsh, fun b H1 s1 hb => ⟨b, rfl, ?_⟩⟩
    have b1 := sb.trans s1
    rw [hb.mpr hg]
    refine iteF ?_
    refine ⟨_, rfl, pu, rfl, hP.same b1, fun H2 s2 => ⟨false, rfl, iteT ?_⟩⟩
    have b2 := b1.trans s2
    exact ⟨(by show 1 ≤ 1000; decide), fun a ha => ⟨a, Z.IB.C, _, rfl, upd_same, Z.IB.O, Z.IB.noF, fun dx g1 g2 => ⟨rfl, dx, _, upd_same, by rw [upd_ne g2, upd_same], by rw [upd_ne g2] at g1; exact g1, ib_made b2 q1 ha dx g1 g2⟩⟩⟩
theorem ok_bInitO {R : TRows K mg} {T : TPart R} {B : TBk T} (Z : TBad B) (O : TOdd T) : FnOk P w K mg base (L2.CX P w) 4 B.fI B.fdI ["self", "counters", "parts"] (spBInitO B Z.IB.C) where
  len := fun vs H Q E h => by
    obtain ⟨x, dx, cu, pu, Hb, rfl, _⟩ := h
    rfl
  run := fun A outer s H args us vs Q E hr he hb hv h => by
    obtain ⟨x, dx, cu, pu, Hb, e, hx, hxb, sb, ⟨h1, h2⟩ | ⟨cs, h1, h2, h3, h4, h5, h6⟩⟩ := h
    · exact (ok_bInitOC Z).run A outer s H args us vs Q E hr he hb hv ⟨x, dx, cu, pu, Hb, e, hx, hxb, sb, h1, h2⟩
    · exact (ok_bInitOP Z O).run A outer s H args us vs Q E hr he hb hv ⟨x, dx, cu, pu, Hb, cs, e, hx, hxb, sb, h1, h2, h3, h4, h5, h6⟩
/-- both -/
def spBInitA {R : TRows K mg} {T : TPart R} (B : TBk T) (CB : Addr) : Sp := fun vs H Q E => spBInitD B CB vs H Q E ∨ spBInitO B CB vs H Q E
theorem ok_bInitA {R : TRows K mg} {T : TPart R} {B : TBk T} (Z : TBad B) (O : TOdd T) : FnOk P w K mg base (L2.CX P w) 4 B.fI B.fdI ["self", "counters", "parts"] (spBInitA B Z.IB.C) where
  len := fun vs H Q E h => h.elim ((ok_bInitX (P := P) (w := w) (base := base) Z).len vs H Q E) ((ok_bInitO (P := P) (w := w) (base := base) Z O).len vs H Q E)
  run := fun A outer s H args us vs Q E hr he hb hv h => h.elim (fun h => (ok_bInitX Z).run A outer s H args us vs Q E hr he hb hv h) fun h => (ok_bInitO Z O).run A outer s H args us vs Q E hr he hb hv h
end
end Pn

namespace Pn
open PySem L2 TL
section
variable {P : Program} {w : World} {K : PySem.W.Frag} {mg : Str → Option Value} {base : Heap}
/-! ### names, tops, unrolled -/
theorem scBNames : FnScope ["self", "row"] ["self"] (defScope sBNames) := ⟨rfl, rfl, rfl, by decide +kernel, rfl, by decide +kernel, by decide +kernel⟩
def spBNames {R : TRows K mg} {T : TPart R} (B : TBk T) : Sp := fun vs H Q _ => ∃ (a : Addr) (cs : List (Str × Str)) (bk : List PartD), vs = [.ref a] ∧ BookAt B H a cs bk ∧ (unrolled bk).length < 4000 ∧ (uniq (opens (unrolled bk))).length < 64 ∧
  ∀ (t : Addr) (H' : Hp) (ys : List Str), Same H H' → SqT K H' t (ys.map V.str) → ys.Perm (uniq (opens (unrolled bk))) → PyProof.Rows.sortedS ys = true → Q (.ref t) H'
theorem ok_bNames {R : TRows K mg} {T : TPart R} (B : TBk T) : FnOk P w K mg base CX0 1 B.names.g B.names.fd ["self"] (spBNames B) := by
  refine B.names.F.ok scBNames (fun vs H Q E h => ?_) (fun cdv A outer s H vs Q E hr h => ?_)
  · obtain ⟨a, cs, bk, rfl, _⟩ := h
    rfl
  · obtain ⟨a, cs, bk, rfl, ⟨dx, ct, pt, ft, ts, ps, us, ha, _, _, hft, hus⟩, hl, hn, q⟩ := h
    refine ⟨_, pss_one (ps_ret (pe_callTy cr_tupS (by rfl) T.mTup (by decide +kernel) (pa_cons (pe_callB (cr_sortX rfl) (by rfl) B.mSort (by decide +kernel) (pa_cons (pe_callTy (cr_setX rfl) (by rfl) B.mSet (by decide +kernel) (pa_cons
      (pe_lc (own := [("row", 1)]) (g := gName 1) (by rfl) scBNames.nd (pi_tup (pe_fld (pv 0) rfl))
      (blkOk_by (N := ["self", "row"]) (sc := defScope sBNames) (by decide +kernel)) (fun _ _ _ _ _ => pg_name (i := 1) scBNames.nd rfl (Or.inl rfl))
      (fun _ _ _ _ _ => pts_one (pt_cmpR op_eq (show PE _ _ (tFld K (tVar 1) "word") from pe_fld (pv 1) rfl) pe_str (nomark _))) (fun _ _ _ _ _ => (show PE _ _ (tFld K (tVar 1) "name") from pe_fld (pv 1) rfl))) pa_nil)) pa_nil)) pa_nil))), ?_⟩
    have hul : us.length = (unrolled bk).length := paired_len hus
    unfold tRet tCB tCons
    refine lcw_tup (fun R r => ⟨_, rfl, a, B.C, dx, _, .ref ft, rfl, ha, B.cl, B.noF, book_f, r⟩) hft (by rw [List.length_map]; omega) (out := fun i => ((unrolled bk)[i]?).bind fun r => (opnOf r).map V.str) (fun i x Hi S Y hx si hS hY => ?_) (fun D H2 hD s2 hD2 => ?_)
    · obtain ⟨u, r, hu, hr2, rfl, hrow⟩ := rows_at hus hx
      obtain ⟨dw, fw, w1, w2, w3, w4⟩ := at_word R (hrow.same si)
      refine ⟨rfl, _, rfl, u, _, dw, fw, _, rfl, w1, w2, w3, w4, rfl, _, rfl, ?_⟩
      have hb : ((unrolled bk)[i]?).bind (fun r => (opnOf r).map V.str) = (opnOf r).map V.str := by rw [hr2]; rfl
      rw [opn_word]
      cases hp : opnOf r with
      | none =>
        refine iteF ?_
        exact hS (by rw [hp] at hb; exact hb) _ (Same.refl _)
      | some z =>
        refine iteT ?_
        obtain rfl : r = .opn z := by
          cases r with
          | opn y => cases hp; rfl
          | _ => cases hp
        obtain ⟨dp, fp, p1, p2, p3, p4⟩ := at_name R (hrow.same si)
        exact ⟨_, rfl, u, _, dp, fp, _, rfl, p1, p2, p3, p4, hY _ (by rw [hp] at hb; exact hb) _ (Same.refl _)⟩
    · have hD3 : H2 D = some (.lst ((opens (unrolled bk)).map V.str)) := by rw [hD2, List.length_map, hul, out_filter, opens_eq, List.map_filterMap]
      have hol : (opens (unrolled bk)).length ≤ (unrolled bk).length := List.length_filterMap_le _ _
      refine ⟨D, opens (unrolled bk), rfl, SqL.of hD3, by omega, fun S hS => ?_⟩
      refine ⟨S, uniq (opens (unrolled bk)), rfl, upd_same, hn, fun ys p hp hs hpn => ?_⟩
      refine ⟨p, ys.map V.str, rfl, .inl (SqL.of upd_same), fun t H' s' ht => q t H' ys ?_ ht hp hs⟩
      exact (s2.trans (Same.new hS)).trans ((Same.new hpn).trans s')
theorem scBUnr : FnScope ["self"] ["self"] (defScope sBUnr) := ⟨rfl, rfl, rfl, by decide +kernel, rfl, by decide +kernel, by decide +kernel⟩
def spBUnr {R : TRows K mg} {T : TPart R} (B : TBk T) : Sp := fun vs H Q _ => ∃ (a : Addr) (cs : List (Str × Str)) (bk : List PartD), vs = [.ref a] ∧ BookAt B H a cs bk ∧
  ∀ (t : Addr) (us : List Addr), SqT K H t (us.map V.ref) → RowsIn R H us (unrolled bk) → Q (.ref t) H
theorem ok_bUnr {R : TRows K mg} {T : TPart R} (B : TBk T) : FnOk P w K mg base CX0 1 B.unr.g B.unr.fd ["self"] (spBUnr B) := by
  refine B.unr.F.ok scBUnr (fun vs H Q E h => ?_) (fun cdv A outer s H vs Q E hr h => ?_)
  · obtain ⟨a, cs, bk, rfl, _⟩ := h
    rfl
  · obtain ⟨a, cs, bk, rfl, ⟨dx, ct, pt, ft, ts, ps, us, ha, _, _, hft, hus⟩, q⟩ := h
    refine ⟨_, pss_one (ps_ret (pe_fld (pv 0) rfl)), ?_⟩
    exact ⟨_, rfl, a, B.C, dx, _, .ref ft, rfl, ha, B.cl, B.noF, book_f, q ft us hft hus⟩
end
end Pn

namespace Pn
open PySem L2 TL
section
variable {P : Program} {w : World} {K : PySem.W.Frag} {mg : Str → Option Value} {base : Heap}
def spBTops {R : TRows K mg} {T : TPart R} (B : TBk T) : Sp := fun vs H Q _ => ∃ (a : Addr) (cs : List (Str × Str)) (bk : List PartD), vs = [.ref a] ∧ BookAt B H a cs bk ∧ cs.length ≤ 100 ∧
  ∀ (t : Addr) (H' : Hp), Same H H' → SqT K H' t ((topsOf cs).map V.str) → Q (.ref t) H'
end
end Pn

namespace Pn
open PySem L2 TL
/-! ### drawn books are good books -/
theorem knowns_small {bk : List PartD} (h : PutsOk bk) : ∀ i, i ≤ bk.length → ∀ z rs, (z, rs) ∈ knowns (bk.take i) → rs.length ≤ 6 ^ i := by
  intro i
  induction i with
  | zero => intro _ z rs hm; cases hm
  | succ i ih =>
    intro hi z rs hm
    have lt : i < bk.length := hi
    have hp : bk[i]? = some bk[i] := List.getElem?_eq_getElem lt
    have hkt : knowns (bk.take (i + 1)) = (bk[i].1, unrollIn (knowns (bk.take i)) bk[i].2) :: knowns (bk.take i) := by
      rw [List.take_add_one, hp]
      exact knowns_snoc _ _
    rw [hkt] at hm
    have ih2 := ih (by omega)
    have p6 : 6 ^ i ≤ 6 ^ (i + 1) := Nat.pow_le_pow_right (by decide) (by omega)
    have p1 : 1 ≤ 6 ^ i := Nat.one_le_pow _ _ (by decide)
    rcases List.mem_cons.mp hm with e | hm
    · injection e with e1 e2
      subst e2
      obtain ⟨h6, hput⟩ := h i _ hp
      have key : ∀ l : List RowD, (∀ y, RowD.put y ∈ l → y ∈ (bk.take i).map (·.1)) → (unrollIn (knowns (bk.take i)) l).length ≤ l.length * 6 ^ i := by
        intro l
        induction l with
        | nil => intro _; exact Nat.zero_le _
        | cons r l ihl =>
          intro hl
          have q := ihl fun y hy => hl y (List.mem_cons_of_mem _ hy)
          have e : unrollIn (knowns (bk.take i)) (r :: l) = expand (knowns (bk.take i)) r ++ unrollIn (knowns (bk.take i)) l := rfl
          rw [e, List.length_append, List.length_cons, Nat.add_mul, Nat.one_mul]
          have he : (expand (knowns (bk.take i)) r).length ≤ 6 ^ i := by
            cases r with
            | put y =>
              have hy := hl y List.mem_cons_self
              have hyk : y ∈ (knowns (bk.take i)).map (·.1) := by rw [knowns_len]; exact List.mem_reverse.mpr hy
              obtain ⟨rs2, h1, h2⟩ := lookup_of_mem hyk
              show ((List.lookup y (knowns (bk.take i))).getD []).length ≤ _
              rw [h1]
              exact ih2 y rs2 h2
            | _ => exact p1
          omega
      have q := key bk[i].2 hput
      have q2 : bk[i].2.length * 6 ^ i ≤ 6 * 6 ^ i := Nat.mul_le_mul_right _ h6
      rw [Nat.pow_succ]
      omega
    · exact Nat.le_trans (ih2 z rs hm) p6
theorem nodup_take {l : List Str} {n : Nat} (h : l.Nodup) : (l.take n).Nodup := (List.take_sublist n l).nodup h
theorem row_cnt {d : Pool} {cs : List (Str × Str)} {parts : List Str} {r : RowD} {c : Str} (h : rowFine d cs parts r) (e : cntOf r = some c) : c ∈ cs.map (·.1) := by
  cases r with
  | note _ _ => cases e; exact h.1
  | skip _ _ => cases e; exact h.1
  | set _ _ => cases e; exact h.1
  | keep _ => cases e; exact h
  | back _ => cases e; exact h
  | ref _ => cases e
  | put _ => cases e
  | opn _ => cases e
theorem bookV {d : Pool} {cs : List (Str × Str)} {bk : List PartD} (h : BookOk d cs bk) : BookV cs bk := by
  have fl := pool_fine d h.hd
  have hcs : ∀ x ∈ cs.map (·.1), nameS x = true := fun x hx => by
    rw [h.cn] at hx
    exact fl.names x (by simp [List.mem_of_mem_take hx])
  have hbk : ∀ x ∈ bk.map (·.1), nameS x = true := fun x hx => by
    rw [h.bn] at hx
    exact fl.names x (by simp [List.mem_of_mem_take hx])
  have c3 := h.c3
  have b3 := h.b3
  exact {
    c := ⟨fun c hc => hcs _ (List.mem_map.mpr ⟨c, hc, rfl⟩), by rw [h.cn]; exact nodup_take fl.cn, h.ct, by omega⟩
    b0 := h.b0
    nd := by rw [h.bn]; exact nodup_take fl.pn
    len := by omega
    rows := fun p hp => by
      obtain ⟨i, hi⟩ := List.getElem?_of_mem hp
      have h6 := (h.puts i p hi).1
      refine ⟨Nat.le_trans (name_ok (hbk _ (List.mem_map.mpr ⟨p, hp, rfl⟩))).2 (by decide), by omega, fun r hr => ?_⟩
      rcases h.rows p hp r hr with f | ⟨l, rfl, _, hn⟩
      · exact fine_valid fl hcs hbk f
      · exact hn
    cnt := fun p hp r hr c e => by
      rcases h.rows p hp r hr with f | ⟨l, rfl, _, _⟩
      · exact row_cnt f e
      · cases e
    puts := puts_earlier h.puts
    small := fun z rs hm => by
      have q := knowns_small h.puts bk.length (Nat.le_refl _) z rs (by rw [List.take_length]; exact hm)
      have : 6 ^ bk.length ≤ 6 ^ 3 := Nat.pow_le_pow_right (by decide) b3
      have e : (6 : Nat) ^ 3 = 216 := by decide
      omega
    refs := fun l hl => by
      have q := unrolled_all (G := RowIn d cs bk) h.rows _ hl
      rcases q with f | ⟨l2, e, hm, _⟩
      · exact absurd f id
      · cases e
        obtain ⟨c, hc, _⟩ := labels_of hm
        exact ⟨c, hc⟩ }
theorem flat_small {d : Pool} {cs : List (Str × Str)} {bk : List PartD} (h : BookOk d cs bk) : (unrolled bk).length ≤ 216 := by
  unfold unrolled
  cases hk : knowns bk with
  | nil => exact Nat.zero_le _
  | cons y l =>
    have q := knowns_small h.puts bk.length (Nat.le_refl _) y.1 y.2 (by rw [List.take_length, hk]; exact List.mem_cons_self)
    have : 6 ^ bk.length ≤ 6 ^ 3 := Nat.pow_le_pow_right (by decide) h.b3
    exact Nat.le_trans q this
theorem len_sub : ∀ {l m : List Str}, l.Nodup → (∀ z ∈ l, z ∈ m) → l.length ≤ m.length
  | [], _, _, _ => Nat.zero_le _
  | x :: l, m, nd, h => by
    rw [List.nodup_cons] at nd
    have hx := h x List.mem_cons_self
    have q := len_sub (l := l) (m := m.erase x) nd.2 fun z hz => (List.mem_erase_of_ne (fun e => nd.1 (by rw [← e]; exact hz))).mpr (h z (List.mem_cons_of_mem _ hz))
    rw [List.length_erase_of_mem hx] at q
    have := List.length_pos_of_mem hx
    rw [List.length_cons]
    omega
theorem opens_few {d : Pool} {cs : List (Str × Str)} {bk : List PartD} (h : BookOk d cs bk) : (uniq (opens (unrolled bk))).length < 64 := by
  have fl := pool_fine d h.hd
  have sub : ∀ z ∈ uniq (opens (unrolled bk)), z ∈ d.x := fun z hz => by
    rw [uniq_has] at hz
    obtain ⟨r, hr, e⟩ := List.mem_filterMap.mp hz
    have q := unrolled_all (G := RowIn d cs bk) h.rows r hr
    cases r with
    | opn y =>
      cases e
      rcases q with f | ⟨l2, e, _⟩
      · exact f
      · cases e
    | _ => cases e
  have q : (uniq (opens (unrolled bk))).length ≤ d.x.length := len_sub (uniq_nodup _) sub
  rw [fl.xl] at q
  omega
end Pn

namespace Pn
open PySem L2 TL
section
variable {P : Program} {w : World} {K : PySem.W.Frag} {mg : Str → Option Value} {base : Heap}
def PtOf {R : TRows K mg} (T : TPart R) (H : Hp) (x : Addr) (n : Str) (us : List Addr) : Prop := ∃ dx tp, H x = some (insPart T.C dx (.str n) (.ref tp)) ∧ SqT K H tp (us.map V.ref)
theorem PtOf.same {R : TRows K mg} {T : TPart R} {H H' : Hp} {a : Addr} {n : Str} {us : List Addr} (h : PtOf T H a n us) (s : Same H H') : PtOf T H' a n us := by
  obtain ⟨dx, tp, h1, h2⟩ := h
  exact ⟨dx, tp, s _ _ h1, Same.sqt s h2⟩
theorem PtOf.at {R : TRows K mg} {T : TPart R} {H : Hp} {a : Addr} {n : Str} {us : List Addr} {rs : List RowD} (h : PtOf T H a n us) (g : RowsIn R H us rs) : PtAt T H a n rs := by
  obtain ⟨dx, tp, h1, h2⟩ := h
  exact ⟨dx, tp, us, h1, h2, g⟩
theorem rows_flags {R : TRows K mg} {H : Hp} : ∀ {us : List Addr} {rs : List RowD}, RowsIn R H us rs → Paired (RowFlag R H) (us.map V.ref) (us.map fun _ => true)
  | _, _, .nil => .nil
  | _, _, .cons a b => .cons (.inl ⟨rfl, _, _, rfl, a⟩) (rows_flags b)
theorem all_true {α : Type} (l : List α) : (l.map fun _ => true).all id = true := by
  induction l with
  | nil => rfl
  | cons _ _ ih => exact ih
theorem part_made {R : TRows K mg} (T : TPart R) {H : Hp} {p : Addr} {us : List Addr} {rs : List RowD} {n : Str} (hp : SqL K H p (us.map V.ref) ∨ SqT K H p (us.map V.ref)) (hus : RowsIn R H us rs) (hn : nameS n = true) (hl : us.length ≤ 1000)
    {RR : Addr → Hp → Prop} (k : ∀ x H', Same H H' → PtOf T H' x n us → RR x H') :
    ∀ x dx, H x = none → H dx = none → dx ≠ x → spPartInit R T.C T.IP.C [.ref x, .str n, .ref p] (upd (upd H dx (.own x)) x (.ins T.C dx [])) (fun v H2 => v = .non ∧ RR x H2) E0 := fun x dx hx hdx ne => by
  have s1 : Same H (upd (upd H dx (.own x)) x (.ins T.C dx [])) := ins_same2 hx hdx
  have hnl : n.length ≤ 4 := (name_ok hn).2
  refine ⟨x, dx, .str n, .ref p, .str n, some (us.map V.ref, us.map fun _ => true), rfl, upd_same, .str n, (show n.length ≤ 900 by omega), ⟨p, rfl, hp.elim (fun h => .inl (s1.seq h)) (fun h => .inr (Same.sqt s1 h)), rows_flags (hus.same s1), by rw [List.length_map]; exact hl⟩,
    fun z => absurd hn (by rw [show nameS n = false from z]; decide), fun _ z => absurd (all_true us) (by rw [show (us.map fun _ => true).all id = false from z]; decide), fun _ _ xs bs e tp H' kp m htp hi => ⟨rfl, k x H' (kpi_same2 hx hdx kp) ⟨dx, tp, hi, ?_⟩⟩⟩
  have e := Option.some.inj e
  injection e with e1 e2
  rw [e1]
  exact htp
end
end Pn

namespace Pn
open PySem L2 TL
section
variable {P : Program} {w : World} {K : PySem.W.Frag} {mg : Str → Option Value} {base : Heap}
theorem sqt_lst {H : Hp} {D a : Addr} {xs ys zs : List V} (hD : H D = some (.lst xs)) (h : SqT K H a zs) : SqT K (upd H D (.lst ys)) a zs := by
  rcases h with (s | ⟨u, s⟩) | s
  · exact .inl (.inl (by rw [upd_ne (fun z => by rw [z, hD] at s; cases s)]; exact s))
  · exact .inl (.inr ⟨u, by rw [upd_ne (fun z => by rw [z, hD] at s; cases s)]; exact s⟩)
  · exact .inr s
theorem rowsin_lst {R : TRows K mg} {H : Hp} {D : Addr} {xs ys : List V} (hD : H D = some (.lst xs)) {us : List Addr} {rs : List RowD} (h : RowsIn R H us rs) : RowsIn R (upd H D (.lst ys)) us rs :=
  paired_mono (fun a r e => by
    obtain ⟨dy, e⟩ := e
    obtain ⟨gs, eg⟩ := insRow_ins R dy r
    exact ⟨dy, by rw [upd_ne (fun z => by rw [z, hD, eg] at e; cases e)]; exact e⟩) h
theorem ptat_lst {R : TRows K mg} {T : TPart R} {H : Hp} {D : Addr} {xs ys : List V} (hD : H D = some (.lst xs)) {a : Addr} {n : Str} {rs : List RowD} (h : PtAt T H a n rs) : PtAt T (upd H D (.lst ys)) a n rs := by
  obtain ⟨dx, tp, us, h1, h2, h3⟩ := h
  exact ⟨dx, tp, us, by rw [upd_ne (fun z => by rw [z, hD] at h1; cases h1)]; exact h1, sqt_lst hD h2, rowsin_lst hD h3⟩
theorem book_made {R : TRows K mg} {T : TPart R} (B : TBk T) {H : Hp} {cp : Addr} {ts : List Addr} {cs : List (Str × Str)} {pu : V} {bk : List PartD} (hcp : SqL K H cp (ts.map V.ref) ∨ TupX H cp (ts.map V.ref)) (hcd : CsIn K H ts cs) (hP : PtsArg T H pu bk) (ok : BookV cs bk) {RR : Addr → Hp → Prop}
    (k : ∀ x H', Same H H' → BookAt B H' x cs bk → RR x H') : ∀ x dx, H x = none → H dx = none → dx ≠ x → spBInit B [.ref x, .ref cp, pu] (upd (upd H dx (.own x)) x (.ins B.C dx [])) (fun v H2 => v = .non ∧ RR x H2) E0 := fun x dx hx hdx ne =>
  ⟨x, dx, cp, pu, ts, cs, bk, H, rfl, upd_same, hx, ins_same2 hx hdx, hcp, hcd, hP, ok, fun H' s h => ⟨rfl, k x H' s h⟩⟩
theorem csIn_of {H : Hp} {ts : List Addr} {cs : List (Str × Str)} (h : Paired (fun t (p : Str × Str) => H t = some (.tup [.str p.1, .str p.2])) ts cs) : CsIn K H ts cs := paired_mono (fun _ _ e => SqT.of e) h
/-! ### _law_made_book -/
def spMadeBook {R : TRows K mg} {T : TPart R} (B : TBk T) : Sp := fun vs H Q _ => ∃ (t c pl : Addr) (cs : List (Str × Str)) (bk : List PartD), vs = [.ref t] ∧ SqT K H t [.ref c, .ref pl] ∧ CsAt H c cs ∧ PartsAt H pl bk ∧ BookV cs bk ∧ (∀ p ∈ bk, nameS p.1 = true) ∧
  ∀ (x : Addr) (H' : Hp), Same H H' → BookAt B H' x cs bk → Q (.ref x) H'
end
end Pn

namespace Pn
open PySem L2 TL
/-! ### a book stands apart from lists -/
section
variable {P : Program} {w : World} {K : PySem.W.Frag} {mg : Str → Option Value} {base : Heap}
theorem sqt_hid {H : Hp} {b a : Addr} {xs zs : List V} (hb : H b = some (.lst xs)) (h : SqT K H a zs) : SqT K (hid H b) a zs := by
  rcases h with (s | ⟨u, s⟩) | s
  · exact .inl (.inl (hid_get s fun z => by rw [z, hb] at s; cases s))
  · exact .inl (.inr ⟨u, hid_get s fun z => by rw [z, hb] at s; cases s⟩)
  · exact .inr s
theorem rowsin_hid {R : TRows K mg} {H : Hp} {b : Addr} {xs : List V} (hb : H b = some (.lst xs)) {us : List Addr} {rs : List RowD} (h : RowsIn R H us rs) : RowsIn R (hid H b) us rs :=
  paired_mono (fun a r e => by
    obtain ⟨dy, e⟩ := e
    obtain ⟨gs, eg⟩ := insRow_ins R dy r
    exact ⟨dy, hid_get e fun z => by rw [z, hb, eg] at e; cases e⟩) h
theorem ptat_hid {R : TRows K mg} {T : TPart R} {H : Hp} {b : Addr} {xs : List V} (hb : H b = some (.lst xs)) {a : Addr} {n : Str} {rs : List RowD} (h : PtAt T H a n rs) : PtAt T (hid H b) a n rs := by
  obtain ⟨dx, tp, us, h1, h2, h3⟩ := h
  exact ⟨dx, tp, us, hid_get h1 (fun z => by rw [z, hb] at h1; cases h1), sqt_hid hb h2, rowsin_hid hb h3⟩
theorem book_hid {R : TRows K mg} {T : TPart R} {B : TBk T} {H : Hp} {b a : Addr} {xs : List V} {cs : List (Str × Str)} {bk : List PartD} (hb : H b = some (.lst xs)) (h : BookAt B H a cs bk) : BookAt B (hid H b) a cs bk := by
  obtain ⟨dx, ct, pt, ft, ts, ps, us, h1, ⟨⟨o, d, h2⟩, h3⟩, ⟨h4, h5⟩, h6, h7⟩ := h
  exact ⟨dx, ct, pt, ft, ts, ps, us, hid_get h1 (fun z => by rw [z, hb] at h1; cases h1), ⟨⟨o, d, hid_get h2 fun z => by rw [z, hb] at h2; cases h2⟩, paired_mono (fun _ _ e => sqt_hid hb e) h3⟩, ⟨sqt_hid hb h4, paired_mono (R := fun a (q : PartD) => PtAt T H a q.1 q.2) (fun _ _ e => ptat_hid hb e) h5⟩, sqt_hid hb h6, rowsin_hid hb h7⟩
theorem hid_upd_sub {H : Hp} {b : Addr} {o : HO} : Same (hid H b) (upd H b o) := fun a u e => by
  have h := hid_sub a u e
  have n : a ≠ b := fun z => by rw [z] at e; unfold hid at e; rw [if_pos rfl] at e; cases e
  rw [upd_ne n]
  exact h
theorem book_lst {R : TRows K mg} {T : TPart R} {B : TBk T} {H : Hp} {b a : Addr} {xs ys : List V} {cs : List (Str × Str)} {bk : List PartD} (hb : H b = some (.lst xs)) (h : BookAt B H a cs bk) : BookAt B (upd H b (.lst ys)) a cs bk := (book_hid hb h).same hid_upd_sub
theorem kp_same {b : Addr} {H H' : Hp} (k : Kp b H H') : Same (hid H b) H' := fun a o e => by
  have n : a ≠ b := fun z => by rw [z] at e; unfold hid at e; rw [if_pos rfl] at e; cases e
  exact k a o (hid_sub a o e) n
theorem book_kp {R : TRows K mg} {T : TPart R} {B : TBk T} {H H' : Hp} {b a : Addr} {cs : List (Str × Str)} {bk : List PartD} (hb : BoxAt H b) (k : Kp b H H') (h : BookAt B H a cs bk) : BookAt B H' a cs bk := by
  obtain ⟨x, y, _, e⟩ := hb
  exact (book_hid e h).same (kp_same k)
theorem part_one {bk : List PartD} (nd : (bk.map (·.1)).Nodup) {p q : PartD} (hp : p ∈ bk) (hq : q ∈ bk) (e : p.1 = q.1) : p = q := by
  induction bk with
  | nil => cases hp
  | cons r bk ih =>
    rw [List.map_cons, List.nodup_cons] at nd
    rcases List.mem_cons.mp hp with h1 | h1
    · rcases List.mem_cons.mp hq with h2 | h2
      · rw [h1, h2]
      · exact absurd (List.mem_map.mpr ⟨q, h2, by rw [← e, h1]⟩) nd.1
    · rcases List.mem_cons.mp hq with h2 | h2
      · exact absurd (List.mem_map.mpr ⟨p, h1, by rw [e, h2]⟩) nd.1
      · exact ih nd.2 h1 h2
end
end Pn

namespace Pn
open PySem L2 TL
/-! ### rows made of good names -/
section
variable {P : Program} {w : World} {K : PySem.W.Frag} {mg : Str → Option Value} {base : Heap}
theorem nl_name {z : Str} (h : nameS z = true) : dlen (.str z) := Nat.le_trans (name_ok h).2 (by show 4 ≤ 900; decide)
theorem note_mk (R : TRows K mg) {H : Hp} {c l : Str} (hc : nameS c = true) (hl : l = "" ∨ nameS l = true) {RR : Addr → Hp → Prop} (k : ∀ x H', Same H H' → RowAt R H' x (.note c l) → RR x H') :
    ∀ x dx, H x = none → H dx = none → dx ≠ x → spNoteInit K R.note.C R.N.IR.C [.ref x, .str c, .str l] (upd (upd H dx (.own x)) x (.ins R.note.C dx [])) (fun v H2 => v = .non ∧ RR x H2) E0 := fun x dx hx hdx ne =>
  ⟨x, dx, .str c, .str l, .str c, .str l, rfl, upd_same, .str c, nl_name hc, .str l, (by rcases hl with rfl | z; exact (by decide +kernel : ("" : Str).length ≤ 900); exact nl_name z), str_shaped (by rcases hl with rfl | z; decide +kernel; exact (name_ok z).1), fun hn hg H1 kp m hi => ⟨rfl, k x H1 (kpi_same2 hx hdx kp) ⟨dx, hi⟩⟩, fun hn => absurd hc (by rw [show nameS c = false from hn]; decide), fun _ hg => absurd (lab_of hl) (by rw [hg]; decide)⟩
theorem skip_mk (R : TRows K mg) {H : Hp} {c : Str} {n : Nat} (hc : nameS c = true) (hn : 1 ≤ n) {RR : Addr → Hp → Prop} (k : ∀ x H', Same H H' → RowAt R H' x (.skip c n) → RR x H') :
    ∀ x dx, H x = none → H dx = none → dx ≠ x → spSkipInit K R.skip.C R.N.IR.C [.ref x, .str c, .int (n : Int)] (upd (upd H dx (.own x)) x (.ins R.skip.C dx [])) (fun v H2 => v = .non ∧ RR x H2) E0 := fun x dx hx hdx ne =>
  ⟨x, dx, .str c, .int (n : Int), .str c, .int (n : Int), rfl, upd_same, .str c, nl_name hc, .int _, fun _ _ H1 kp m hi => ⟨rfl, k x H1 (kpi_same2 hx hdx kp) ⟨dx, hi⟩⟩, fun z => absurd hc (by rw [show nameS c = false from z]; decide), fun _ z => absurd (skip_of (n := n) (by omega)) (by rw [z]; decide)⟩
theorem set_mk (R : TRows K mg) {H : Hp} {c : Str} {n : Nat} (hc : nameS c = true) {RR : Addr → Hp → Prop} (k : ∀ x H', Same H H' → RowAt R H' x (.set c n) → RR x H') :
    ∀ x dx, H x = none → H dx = none → dx ≠ x → spSetInit K R.set.C R.N.IR.C [.ref x, .str c, .int (n : Int)] (upd (upd H dx (.own x)) x (.ins R.set.C dx [])) (fun v H2 => v = .non ∧ RR x H2) E0 := fun x dx hx hdx ne =>
  ⟨x, dx, .str c, .int (n : Int), .str c, .int (n : Int), rfl, upd_same, .str c, nl_name hc, .int _, fun _ _ H1 kp m hi => ⟨rfl, k x H1 (kpi_same2 hx hdx kp) ⟨dx, hi⟩⟩, fun z => absurd hc (by rw [show nameS c = false from z]; decide), fun _ z => absurd (set_of (n := n)) (by rw [z]; decide)⟩
theorem keep_mk (R : TRows K mg) {H : Hp} {c : Str} (hc : nameS c = true) {RR : Addr → Hp → Prop} (k : ∀ x H', Same H H' → RowAt R H' x (.keep c) → RR x H') :
    ∀ x dx, H x = none → H dx = none → dx ≠ x → spKeepInit K R.keep.C R.N.IR.C [.ref x, .str c] (upd (upd H dx (.own x)) x (.ins R.keep.C dx [])) (fun v H2 => v = .non ∧ RR x H2) E0 := fun x dx hx hdx ne =>
  ⟨x, dx, .str c, .str c, rfl, upd_same, .str c, nl_name hc, fun hn H1 kp m hi => ⟨rfl, k x H1 (kpi_same2 hx hdx kp) ⟨dx, hi⟩⟩, fun hn => absurd hc (by rw [show nameS c = false from hn]; decide)⟩
theorem back_mk (R : TRows K mg) {H : Hp} {c : Str} (hc : nameS c = true) {RR : Addr → Hp → Prop} (k : ∀ x H', Same H H' → RowAt R H' x (.back c) → RR x H') :
    ∀ x dx, H x = none → H dx = none → dx ≠ x → spBackInit K R.back.C R.N.IR.C [.ref x, .str c] (upd (upd H dx (.own x)) x (.ins R.back.C dx [])) (fun v H2 => v = .non ∧ RR x H2) E0 := fun x dx hx hdx ne =>
  ⟨x, dx, .str c, .str c, rfl, upd_same, .str c, nl_name hc, fun hn H1 kp m hi => ⟨rfl, k x H1 (kpi_same2 hx hdx kp) ⟨dx, hi⟩⟩, fun hn => absurd hc (by rw [show nameS c = false from hn]; decide)⟩
theorem ref_mk (R : TRows K mg) {H : Hp} {c : Str} (hc : nameS c = true) {RR : Addr → Hp → Prop} (k : ∀ x H', Same H H' → RowAt R H' x (.ref c) → RR x H') :
    ∀ x dx, H x = none → H dx = none → dx ≠ x → spRefInit K R.ref.C R.N.IR.C [.ref x, .str c] (upd (upd H dx (.own x)) x (.ins R.ref.C dx [])) (fun v H2 => v = .non ∧ RR x H2) E0 := fun x dx hx hdx ne =>
  ⟨x, dx, .str c, .str c, rfl, upd_same, .str c, nl_name hc, fun hn H1 kp m hi => ⟨rfl, k x H1 (kpi_same2 hx hdx kp) ⟨dx, hi⟩⟩, fun hn => absurd hc (by rw [show nameS c = false from hn]; decide)⟩
theorem put_mk (R : TRows K mg) {H : Hp} {c : Str} (hc : nameS c = true) {RR : Addr → Hp → Prop} (k : ∀ x H', Same H H' → RowAt R H' x (.put c) → RR x H') :
    ∀ x dx, H x = none → H dx = none → dx ≠ x → spPutInit K R.put.C R.N.IR.C [.ref x, .str c] (upd (upd H dx (.own x)) x (.ins R.put.C dx [])) (fun v H2 => v = .non ∧ RR x H2) E0 := fun x dx hx hdx ne =>
  ⟨x, dx, .str c, .str c, rfl, upd_same, .str c, nl_name hc, fun hn H1 kp m hi => ⟨rfl, k x H1 (kpi_same2 hx hdx kp) ⟨dx, hi⟩⟩, fun hn => absurd hc (by rw [show nameS c = false from hn]; decide)⟩
theorem open_mk (R : TRows K mg) {H : Hp} {c : Str} (hc : nameS c = true) {RR : Addr → Hp → Prop} (k : ∀ x H', Same H H' → RowAt R H' x (.opn c) → RR x H') :
    ∀ x dx, H x = none → H dx = none → dx ≠ x → spOpenInit K R.open_.C R.N.IR.C [.ref x, .str c] (upd (upd H dx (.own x)) x (.ins R.open_.C dx [])) (fun v H2 => v = .non ∧ RR x H2) E0 := fun x dx hx hdx ne =>
  ⟨x, dx, .str c, .str c, rfl, upd_same, .str c, nl_name hc, fun hn H1 kp m hi => ⟨rfl, k x H1 (kpi_same2 hx hdx kp) ⟨dx, hi⟩⟩, fun hn => absurd hc (by rw [show nameS c = false from hn]; decide)⟩
end
/-! ### good books, by looking at all -/
def rowB : RowD → Bool
  | .note c l => nameS c && (decide (l = "") || nameS l)
  | .skip c n => nameS c && (decide (1 ≤ n) && decide (n < 10 ^ 10))
  | .set c n => nameS c && decide (n < 10 ^ 10)
  | .keep c => nameS c
  | .back c => nameS c
  | .ref c => nameS c
  | .put c => nameS c
  | .opn c => nameS c
theorem rowB_ok : ∀ {r : RowD}, rowB r = true → rowValid r
  | .note c l, h => by
    have h : (nameS c && (decide (l = "") || nameS l)) = true := h
    rw [Bool.and_eq_true, Bool.or_eq_true] at h
    exact ⟨h.1, h.2.imp of_decide_eq_true id⟩
  | .skip c n, h => by
    have h : (nameS c && (decide (1 ≤ n) && decide (n < 10 ^ 10))) = true := h
    rw [Bool.and_eq_true, Bool.and_eq_true] at h
    exact ⟨h.1, of_decide_eq_true h.2.1, of_decide_eq_true h.2.2⟩
  | .set c n, h => by
    have h : (nameS c && decide (n < 10 ^ 10)) = true := h
    rw [Bool.and_eq_true] at h
    exact ⟨h.1, of_decide_eq_true h.2⟩
  | .keep _, h => h
  | .back _, h => h
  | .ref _, h => h
  | .put _, h => h
  | .opn _, h => h
def treeB (cs : List (Str × Str)) : Bool := (List.range cs.length).all fun i => match cs[i]? with
  | some p => decide (p.2 = "") || decide (p.2 ∈ (cs.take i).map (·.1))
  | none => true
theorem treeB_ok {cs : List (Str × Str)} (h : treeB cs = true) : TreeOk cs := fun i p hp => by
  have q := List.all_eq_true.mp h i (List.mem_range.mpr (List.getElem?_eq_some_iff.mp hp).1)
  rw [hp] at q
  have q : (decide (p.2 = "") || decide (p.2 ∈ (cs.take i).map (·.1))) = true := q
  rw [Bool.or_eq_true] at q
  exact q.imp of_decide_eq_true of_decide_eq_true
def earlyB (bk : List PartD) : Bool := (List.range bk.length).all fun i => match bk[i]? with
  | some p => (putsOf p.2).all fun z => decide (z ∈ (bk.take i).map (·.1))
  | none => true
theorem earlyB_ok {bk : List PartD} (h : earlyB bk = true) : Earlier bk := fun i p hp z hz => by
  have q := List.all_eq_true.mp h i (List.mem_range.mpr (List.getElem?_eq_some_iff.mp hp).1)
  rw [hp] at q
  have q : (putsOf p.2).all (fun z => decide (z ∈ (bk.take i).map (·.1))) = true := q
  exact of_decide_eq_true (List.all_eq_true.mp q z (mem_puts.mpr hz))
def csB (cs : List (Str × Str)) : Bool := (cs.all fun c => nameS c.1) && (decide ((cs.map (·.1)).Nodup) && (treeB cs && decide (cs.length ≤ 100)))
theorem csB_ok {cs : List (Str × Str)} (h : csB cs = true) : CsOk cs := by
  unfold csB at h
  rw [Bool.and_eq_true, Bool.and_eq_true, Bool.and_eq_true] at h
  obtain ⟨h1, h2, h3, h4⟩ := h
  exact ⟨fun c hc => List.all_eq_true.mp h1 c hc, of_decide_eq_true h2, treeB_ok h3, of_decide_eq_true h4⟩
def bookB (cs : List (Str × Str)) (bk : List PartD) : Bool := csB cs && (decide (bk ≠ []) && (decide ((bk.map (·.1)).Nodup) && (decide (bk.length ≤ 50) && ((bk.all fun p => nameS p.1 && (decide (p.2.length ≤ 100) && p.2.all rowB)) &&
  ((bk.all fun p => (p.2.filterMap cntOf).all fun c => decide (c ∈ cs.map (·.1))) && (earlyB bk && ((knowns bk).all (fun x => decide (x.2.length ≤ 4000)) && ((unrolled bk).filterMap refOf).all fun l => (unrolled bk).any fun r => labOf r == some l)))))))
theorem bookB_ok {cs : List (Str × Str)} {bk : List PartD} (h : bookB cs bk = true) : BookV cs bk ∧ ∀ p ∈ bk, nameS p.1 = true := by
  unfold bookB at h
  simp only [Bool.and_eq_true] at h
  obtain ⟨h1, h2, h3, h4, h5, h6, h7, h8, h9⟩ := h
  have rows : ∀ p ∈ bk, nameS p.1 = true ∧ p.2.length ≤ 100 ∧ ∀ r ∈ p.2, rowValid r := fun p hp => by
    have q := List.all_eq_true.mp h5 p hp
    simp only [Bool.and_eq_true] at q
    exact ⟨q.1, of_decide_eq_true q.2.1, fun r hr => rowB_ok (List.all_eq_true.mp q.2.2 r hr)⟩
  refine ⟨{ c := csB_ok h1, b0 := of_decide_eq_true h2, nd := of_decide_eq_true h3, len := of_decide_eq_true h4, rows := fun p hp => ⟨Nat.le_trans (name_ok (rows p hp).1).2 (by decide), (rows p hp).2⟩, cnt := fun p hp r hr c hc => ?_, puts := earlyB_ok h7, small := fun z rs hz => of_decide_eq_true (List.all_eq_true.mp h8 (z, rs) hz), refs := fun l hl => ?_ }, fun p hp => (rows p hp).1⟩
  · exact of_decide_eq_true (List.all_eq_true.mp (List.all_eq_true.mp h6 p hp) c (List.mem_filterMap.mpr ⟨r, hr, hc⟩))
  · have q := List.all_eq_true.mp h9 l (List.mem_filterMap.mpr ⟨.ref l, hl, rfl⟩)
    obtain ⟨r, hr, e⟩ := List.any_eq_true.mp q
    cases r with
    | note c z =>
      have e : (some z == some l) = true := e
      rw [beq_iff_eq] at e
      cases e
      exact ⟨c, hr⟩
    | _ => cases e
end Pn

namespace Pn
open PySem L2 TL
section
variable {K : PySem.W.Frag}
/-- a[:n] + [x] + a[n:], where a and n and x are variables -/
theorem ins_go {σ : L2.St} {H : Hp} {Q : VK} {a n m : Nat} {L : Addr} {xs : List V} {k : Nat} {x : V} (ha : σ[a]? = some (some (.ref L))) (hn : σ[n]? = some (some (.int (k : Int)))) (hm : σ[m]? = some (some x)) (hL : H L = some (.lst xs)) (hk : k ≤ xs.length) (hl : xs.length ≤ 1000)
    (q : ∀ D H', Same H H' → H D = none → H' D = some (.lst (xs.take k ++ (x :: xs.drop k))) → Q (.ref D) H') :
    tOp rCat (tOp rCat (tSl (rSlL K) (tVar a) tNoPart (tPart (tVar n))) (tLst (tCons (tVar m) tNil))) (tSl (rSlL K) (tVar a) (tPart (tVar n)) tNoPart) σ H Q := by
  have big : (1001 : Nat) ≤ sizeLine := by decide
  refine ⟨_, ha, _, hn, _, rfl, L, xs, rfl, SqL.of hL, fun t1 h1 => ?_⟩
  rw [cut_to _ hk]
  have g1 := Same.new (o := .lst (xs.take k)) h1
  refine ⟨_, hm, by show 1 ≤ sizeLine; omega, fun t2 h2 => ?_⟩
  have g2 := Same.new (o := .lst [x]) h2
  have e1 : upd (upd H t1 (.lst (xs.take k))) t2 (.lst [x]) t1 = some (.lst (xs.take k)) := g2 _ _ upd_same
  have e2 : upd (upd H t1 (.lst (xs.take k))) t2 (.lst [x]) t2 = some (.lst [x]) := upd_same
  have s2 := g1.trans g2
  generalize upd (upd H t1 (.lst (xs.take k))) t2 (.lst [x]) = H2 at e1 e2 s2 ⊢
  refine ⟨t1, t2, _, _, rfl, rfl, e1, e2, by rw [List.length_take]; show _ + 1 ≤ _; omega, fun t3 h3 => ?_⟩
  have g3 := Same.new (o := .lst (xs.take k ++ [x])) h3
  have e3 : upd H2 t3 (.lst (xs.take k ++ [x])) t3 = some (.lst (xs.take k ++ [x])) := upd_same
  have s3 := s2.trans g3
  generalize upd H2 t3 (.lst (xs.take k ++ [x])) = H3 at e3 s3 ⊢
  refine ⟨_, ha, _, hn, _, rfl, L, xs, rfl, SqL.of (s3 _ _ hL), fun t4 h4 => ?_⟩
  rw [cut_from _ hk]
  have g4 := Same.new (o := .lst (xs.drop k)) h4
  refine ⟨t3, t4, _, _, rfl, rfl, g4 _ _ e3, upd_same, ?_, fun D hD => ?_⟩
  · rw [List.length_append, List.length_take, List.length_drop]
    show _ + 1 + _ ≤ _
    omega
  · have s5 := (s3.trans g4).trans (Same.new (o := .lst (xs.take k ++ [x] ++ xs.drop k)) hD)
    refine q D _ s5 ((s3.trans g4).free hD) ?_
    rw [upd_same, List.append_assoc]
    rfl
end
end Pn

namespace Pn
open PySem PySem.Spec PyProof.Rows L2
/-! ### a new instance, where what its making raises is wished for at the slots -/
section
variable {X : Cx} {CX : CXT} {k : Nat} {f C : Addr} {fd : FuncData} {ps : List Str} {sp : Sp} {dvs : List V} {ds : List Value} {E : L2.St → XK} {x : Str} {p pos : Pos} {e : Expr} {es : List Expr} {t : TA}
def tMakeS (C : Addr) (sp : Sp) (dvs : List V) (E : L2.St → XK) (t : TA) : TE := fun σ H Q => t σ H fun vs H1 => ∀ x dx, H1 x = none → H1 dx = none → dx ≠ x →
  sp (.ref x :: (vs ++ dvs)) (upd (upd H1 dx (.own x)) x (.ins C dx [])) (fun v H2 => v = .non ∧ Q (.ref x) H2) (E σ)
theorem run_makeS {pins : List (Addr × Obj)} {σ : L2.St} {H : Hp} {s : Shared} {Q : VK} {us : List Value} {vs : List V} (M : Mk X.K C f) (F : FnOk X.prog X.w X.K X.mg X.base CX k f fd ps sp) (hr : Room (k + 1) X.A) (hb : Binds X.K fd ps ds) (hd : Vals dvs ds)
    (hx : PassesAt CX X σ (E σ)) (I : Inv X pins σ H s) (r : Vals vs us)
    (h : ∀ x dx, H x = none → H dx = none → dx ≠ x → sp (.ref x :: (vs ++ dvs)) (upd (upd H dx (.own x)) x (.ins C dx [])) (fun v H2 => v = .non ∧ Q (.ref x) H2) (E σ)) :
    wpAny (model X.prog X.w) X.A (call (.ref C) us) (EP X pins σ Q) X.xe s := by
  have hq := h (s.heap.objs.size + 1) s.heap.objs.size (I.hok.fresh (Nat.le_succ _)) (I.hok.fresh (Nat.le_refl _)) (Nat.ne_of_lt (Nat.lt_succ_self _))
  have I2 := Inv.made (C := C) I
  have r2 : Vals (V.ref (s.heap.objs.size + 1) :: (vs ++ dvs)) (Value.ref (s.heap.objs.size + 1) :: (us ++ ds)) := .cons rfl (r.append hd)
  have hl : (Value.ref (s.heap.objs.size + 1) :: us ++ ds).length = ps.length := by
    have e := r2.length
    rw [F.len _ _ _ _ hq] at e
    exact e.symm
  refine wpAny_call (make_map (f := f) I.kIn M.makes M.init (beq_iff_eq.mp M.fn) (codeAny_mono (F.run _ X.stack _ _ ⟨Value.ref (s.heap.objs.size + 1) :: us, []⟩ (Value.ref (s.heap.objs.size + 1) :: (us ++ ds)) _ _ (E σ) (hr.make C us [])
    (I2.env0.make C us []) (hb _ (Value.ref (s.heap.objs.size + 1) :: us) I2.kIn hl) r2 hq) fun r s' hq' => ?_))
  cases r with
  | error e => exact hx pins _ _ e s' I2 hq'
  | ok fl =>
    cases fl with
    | ret u =>
      obtain ⟨v, H', I3, rv, ev, q3⟩ := I2.after hq'
      subst ev
      exact ⟨rv, ⟨V.ref (s.heap.objs.size + 1), H', I3, rfl, q3⟩⟩
    | next => exact False.elim hq'
    | brk => exact False.elim hq'
    | cont => exact False.elim hq'
theorem pe_makeS (M : Mk X.K C f) (F : FnOk X.prog X.w X.K X.mg X.base CX k f fd ps sp) (hr : Room (k + 1) X.A) (hg : Gl X x) (hm : X.mg x = some (.ref C)) (hb : Binds X.K fd ps ds) (hd : Vals dvs ds) (hx : ∀ σ, PassesAt CX X σ (E σ))
    (ha : PA X (e :: es) t) (hdb : (x == ("__debug__" : Str)) = false := by decide) (he : starEach (e :: es) X.env = (false, eval e X.env) :: starEach es X.env := by rfl) (hpl : (backTo pos (starEach es X.env)).any (·.1) = false := by rfl) :
    PE X (.Call (.Name x p) (e :: es) [] pos) (tMakeS C sp dvs E t) := by
  refine ⟨fun pins s σ H Q I h => ?_⟩
  refine wpAny_Call_Name_kw (ld_glob I hg hm ?_ hdb)
  refine PySem.W.callWith_K (h₀ := X.base) I.ok.mod.kin M.kp (thn (ha.run pos pins s σ H _ I h) fun us s1 ⟨vs, H1, I1, r, q⟩ => ⟨I1.kIn, ?_⟩) he hpl
  exact run_makeS M F hr hb hd (hx σ) I1 r q
end
end Pn

namespace Pn
open PySem L2 TL
/-! ### the small books written by hand -/
def goodB (cs : List (Str × Str)) : Bool := (List.range cs.length).all fun i => match cs[i]? with
  | none => true
  | some c => nameS c.1 && (!(decide (c.1 ∈ (cs.take i).map (·.1))) && (decide (c.2 = "") || decide (c.2 ∈ (cs.take i).map (·.1))))
theorem goodB_iff {cs : List (Str × Str)} : goodB cs = true ↔ ∀ i, GoodAt cs i := by
  unfold goodB
  rw [List.all_eq_true]
  constructor
  · intro h i c hc
    have q := h i (List.mem_range.mpr (List.getElem?_eq_some_iff.mp hc).1)
    rw [hc] at q
    simp only [Bool.and_eq_true, Bool.or_eq_true, decide_eq_true_eq, Bool.not_eq_true', decide_eq_false_iff_not] at q
    exact ⟨q.1, q.2.1, q.2.2⟩
  · intro h i _
    cases hc : cs[i]? with
    | none => rfl
    | some c =>
      have q := h i c hc
      simp only [Bool.and_eq_true, Bool.or_eq_true, decide_eq_true_eq, Bool.not_eq_true', decide_eq_false_iff_not]
      exact ⟨q.1, q.2.1, q.2.2⟩
def ptsB (bk : List PartD) : Bool := decide (bk ≠ []) && decide ((bk.map (·.1)).Nodup)
theorem ptsB_iff {bk : List PartD} : ptsB bk = true ↔ bk ≠ [] ∧ (bk.map (·.1)).Nodup := by
  unfold ptsB
  rw [Bool.and_eq_true, decide_eq_true_iff, decide_eq_true_iff]
def kcB (cs : List (Str × Str)) (bk : List PartD) : Bool := bk.all fun p => p.2.all fun r => cIn cs r
theorem kcB_iff {cs : List (Str × Str)} {bk : List PartD} : kcB cs bk = true ↔ KnownC cs bk := by
  unfold kcB KnownC
  rw [List.all_eq_true]
  refine forall_congr' fun p => forall_congr' fun _ => ?_
  rw [List.all_eq_true]
  refine forall_congr' fun r => forall_congr' fun _ => ?_
  unfold cIn
  cases cntOf r with
  | none => exact ⟨fun _ c h => (nomatch h), fun _ => rfl⟩
  | some d => exact ⟨fun h c e => by rw [← Option.some.inj e]; exact of_decide_eq_true h, fun h => decide_eq_true (h d rfl)⟩
def eaB (bk : List PartD) : Bool := (List.range bk.length).all fun i => match bk[i]? with
  | none => true
  | some p => (putsOf p.2).all fun z => decide (z ∈ (bk.take i).map (·.1))
theorem eaB_iff {bk : List PartD} : eaB bk = true ↔ Earlier bk := by
  unfold eaB
  rw [List.all_eq_true]
  constructor
  · intro h i p hp z hz
    have q := h i (List.mem_range.mpr (List.getElem?_eq_some_iff.mp hp).1)
    rw [hp] at q
    exact of_decide_eq_true (List.all_eq_true.mp q z (mem_puts.mpr hz))
  · intro h i _
    cases hp : bk[i]? with
    | none => rfl
    | some p => exact List.all_eq_true.mpr fun z hz => decide_eq_true (h i p hp z (mem_puts.mp hz))
def krB (bk : List PartD) : Bool := ((unrolled bk).filterMap refOf).all fun l => decide (l ∈ (unrolled bk).filterMap labOf)
theorem krB_iff {bk : List PartD} : krB bk = true ↔ KnownR bk := by
  unfold krB KnownR
  rw [List.all_eq_true]
  constructor
  · intro z l hl
    obtain ⟨r, hr, hrl⟩ := List.mem_filterMap.mp (of_decide_eq_true (z l (List.mem_filterMap.mpr ⟨_, hl, rfl⟩)))
    cases r with
    | note c y => cases hrl; exact ⟨c, hr⟩
    | _ => cases hrl
  · intro z l hl
    obtain ⟨r, hr, hrl⟩ := List.mem_filterMap.mp hl
    cases r with
    | ref y =>
      cases hrl
      obtain ⟨c, hc⟩ := z _ hr
      exact decide_eq_true (List.mem_filterMap.mpr ⟨_, hc, rfl⟩)
    | _ => cases hrl
/-- the word with which a book is refused -/
def dueB (cs : List (Str × Str)) (bk : List PartD) (wd : Str) : Prop :=
  (¬ (∀ i, GoodAt cs i) → wd = "counters") ∧ ((∀ i, GoodAt cs i) → ¬ (bk ≠ [] ∧ (bk.map (·.1)).Nodup) → wd = "parts") ∧ ((∀ i, GoodAt cs i) → (bk ≠ [] ∧ (bk.map (·.1)).Nodup) → ¬ KnownC cs bk → wd = "counter") ∧
  ((∀ i, GoodAt cs i) → (bk ≠ [] ∧ (bk.map (·.1)).Nodup) → KnownC cs bk → ¬ Earlier bk → wd = "part") ∧ ((∀ i, GoodAt cs i) → (bk ≠ [] ∧ (bk.map (·.1)).Nodup) → KnownC cs bk → Earlier bk → ¬ KnownR bk → wd = "ref") ∧
  ((∀ i, GoodAt cs i) → (bk ≠ [] ∧ (bk.map (·.1)).Nodup) → KnownC cs bk → Earlier bk → KnownR bk → wd = "")
def wordB (cs : List (Str × Str)) (bk : List PartD) : Str := if goodB cs = false then "counters" else if ptsB bk = false then "parts" else if kcB cs bk = false then "counter" else if eaB bk = false then "part" else if krB bk = false then "ref" else ""
theorem dueB_of (cs : List (Str × Str)) (bk : List PartD) : dueB cs bk (wordB cs bk) := by
  have f : ∀ {b : Bool}, b ≠ true → b = false := fun h => by revert h; cases ‹Bool› <;> simp
  have g : ∀ {b : Bool}, b = true → ¬ b = false := fun h => by rw [h]; decide
  unfold dueB wordB
  rw [← goodB_iff, ← ptsB_iff, ← kcB_iff, ← eaB_iff, ← krB_iff]
  refine ⟨fun h1 => if_pos (f h1), fun h1 h2 => ?_, fun h1 h2 h3 => ?_, fun h1 h2 h3 h4 => ?_, fun h1 h2 h3 h4 h5 => ?_, fun h1 h2 h3 h4 h5 => ?_⟩
  · rw [if_neg (g h1), if_pos (f h2)]
  · rw [if_neg (g h1), if_neg (g h2), if_pos (f h3)]
  · rw [if_neg (g h1), if_neg (g h2), if_neg (g h3), if_pos (f h4)]
  · rw [if_neg (g h1), if_neg (g h2), if_neg (g h3), if_neg (g h4), if_pos (f h5)]
  · rw [if_neg (g h1), if_neg (g h2), if_neg (g h3), if_neg (g h4), if_neg (g h5)]
end Pn

namespace Pn
open PySem L2 TL
/-! ### books with one thing wrong -/
theorem good_at {cs : List (Str × Str)} (h : CsOk cs) : ∀ i, GoodAt cs i := fun i c hc => by
  refine ⟨h.nm c (List.mem_of_getElem? hc), fun z => ?_, h.up i c hc⟩
  have e : (cs.map (·.1)) = (cs.take i).map (·.1) ++ (cs.drop i).map (·.1) := by rw [← List.map_append, List.take_append_drop]
  have nd := h.nd
  rw [e] at nd
  refine (List.nodup_append.mp nd).2.2 _ z c.1 (List.mem_map.mpr ⟨c, ?_, rfl⟩) rfl
  exact List.mem_of_getElem? (i := 0) (by rw [List.getElem?_drop]; simpa using hc)
theorem good_nodup : ∀ {cs : List (Str × Str)}, (∀ i, GoodAt cs i) → (cs.map (·.1)).Nodup := fun {cs} h => by
  rw [List.nodup_iff_pairwise_ne, List.pairwise_iff_getElem]
  intro i j hi hj hij e
  rw [List.length_map] at hi hj
  have q := (h j cs[j] (List.getElem?_eq_getElem hj)).2.1
  refine q (List.mem_map.mpr ⟨cs[i], ?_, ?_⟩)
  · exact List.mem_of_getElem? (i := i) (by rw [List.getElem?_take, if_pos hij, List.getElem?_eq_getElem hi])
  · rw [List.getElem_map, List.getElem_map] at e
    exact e
theorem good_due {cs : List (Str × Str)} {bk : List PartD} (ok : BookV cs bk) : dueB cs bk "" :=
  ⟨fun h => absurd (good_at ok.c) h, fun _ h => absurd ⟨ok.b0, ok.nd⟩ h, fun _ _ h => absurd ok.cnt h, fun _ _ _ h => absurd ok.puts h, fun _ _ _ _ h => absurd ok.refs h, fun _ _ _ _ _ => rfl⟩
theorem knowns_pow {m : Nat} (h1 : 1 ≤ m) : ∀ (n : Nat) (bk : List PartD), bk.length = n → (∀ p ∈ bk, p.2.length ≤ m) → ∀ z rs, (z, rs) ∈ knowns bk → rs.length ≤ m ^ n := by
  intro n
  induction n with
  | zero =>
    intro bk hl _ z rs hm
    obtain rfl := List.length_eq_zero_iff.mp hl
    cases hm
  | succ n ih =>
    intro bk hl hb z rs hm
    have ne : bk ≠ [] := fun e => by rw [e] at hl; cases hl
    obtain ⟨bi, p, rfl⟩ : ∃ bi p, bk = bi ++ [p] := ⟨_, _, (List.dropLast_concat_getLast ne).symm⟩
    rw [List.length_append] at hl
    have hl : bi.length = n := Nat.succ.inj hl
    have ih2 := ih bi hl fun q hq => hb q (List.mem_append_left _ hq)
    have pn : 1 ≤ m ^ n := Nat.one_le_pow _ _ h1
    rw [knowns_snoc] at hm
    have hp : p.2.length ≤ m := hb p (List.mem_append_right _ List.mem_cons_self)
    rcases List.mem_cons.mp hm with e | hm
    · injection e with e1 e2
      subst e2
      have key : ∀ l : List RowD, (unrollIn (knowns bi) l).length ≤ l.length * m ^ n := by
        intro l
        induction l with
        | nil => exact Nat.zero_le _
        | cons r l ihl =>
          have e : unrollIn (knowns bi) (r :: l) = expand (knowns bi) r ++ unrollIn (knowns bi) l := rfl
          rw [e, List.length_append, List.length_cons, Nat.add_mul, Nat.one_mul]
          have he : (expand (knowns bi) r).length ≤ m ^ n := by
            cases r with
            | put y =>
              show ((List.lookup y (knowns bi)).getD []).length ≤ _
              cases hk : List.lookup y (knowns bi) with
              | none => exact Nat.zero_le _
              | some rs2 =>
                have hm : ∀ (kn : List PartD), kn.lookup y = some rs2 → (y, rs2) ∈ kn := by
                  intro kn
                  induction kn with
                  | nil => intro e; cases e
                  | cons x kn ih3 =>
                    intro e
                    rw [List.lookup_cons] at e
                    cases hb : y == x.1 with
                    | true =>
                      rw [hb] at e
                      have e1 : x.2 = rs2 := Option.some.inj e
                      have e2 : y = x.1 := eq_of_beq hb
                      rw [e2, ← e1]
                      exact List.mem_cons_self
                    | false => rw [hb] at e; exact List.mem_cons_of_mem _ (ih3 e)
                exact ih2 y rs2 (hm _ hk)
            | _ => exact pn
          omega
      have q := key p.2
      have q2 : p.2.length * m ^ n ≤ m * m ^ n := Nat.mul_le_mul_right _ hp
      rw [Nat.pow_succ, Nat.mul_comm]
      omega
    · have q := ih2 z rs hm
      rw [Nat.pow_succ]
      have : m ^ n * 1 ≤ m ^ n * m := Nat.mul_le_mul_left _ h1
      omega
theorem knowns_few {bk : List PartD} (hl : bk.length ≤ 4) (h : ∀ p ∈ bk, p.2.length ≤ 7) : ∀ z rs, (z, rs) ∈ knowns bk → rs.length ≤ 4000 := fun z rs hm => by
  have q := knowns_pow (m := 7) (by decide) bk.length bk rfl h z rs hm
  have : 7 ^ bk.length ≤ 7 ^ 4 := Nat.pow_le_pow_right (by decide) hl
  have e : (7 : Nat) ^ 4 = 2401 := by decide
  omega
theorem pools_not : ∀ d ∈ poolsD, (("qqqq" : Str) ∉ d.c ∧ ("qqqq" : Str) ∉ d.p ∧ ("qqqq" : Str) ∉ d.l) ∧ (("q" : Str) ∉ d.c ∧ ("later" : Str) ∉ d.c) := by decide +kernel
theorem names_qs {d : Pool} {cs : List (Str × Str)} {bk : List PartD} (h : BookOk d cs bk) : (("qqqq" : Str) ∉ cs.map (·.1) ∧ ("qqqq" : Str) ∉ bk.map (·.1)) ∧ (("q" : Str) ∉ cs.map (·.1) ∧ ("later" : Str) ∉ cs.map (·.1)) := by
  obtain ⟨⟨h1, h2, _⟩, h3, h4⟩ := pools_not d h.hd
  rw [h.cn, h.bn]
  exact ⟨⟨fun z => h1 (List.mem_of_mem_take z), fun z => h2 (List.mem_of_mem_take z)⟩, fun z => h3 (List.mem_of_mem_take z), fun z => h4 (List.mem_of_mem_take z)⟩
theorem labels_qs {d : Pool} {cs : List (Str × Str)} {bk : List PartD} (h : BookOk d cs bk) : ∀ p ∈ bk, ∀ r ∈ p.2, ∀ c, r ≠ RowD.note c "qqqq" := fun p hp r hr c e => by
  rcases h.rows p hp r hr with f | ⟨l, e2, _⟩
  · rw [e] at f
    rcases f.2 with z | z
    · exact absurd z (by decide +kernel)
    · exact (pools_not d h.hd).1.2.2 z
  · rw [e] at e2
    cases e2
/-- a row put into a part -/
def bentAt (bk : List PartD) (i : Nat) (p : PartD) (s : Nat) (r : RowD) : List PartD := bk.take i ++ (p.1, p.2.take s ++ (r :: p.2.drop s)) :: bk.drop (i + 1)
def BentR (bk : List PartD) (i : Nat) (p : PartD) (r : RowD) (wd : Str) : Prop := (wd = "counter" ∧ (r = .note "qqqq" "" ∨ r = .skip "qqqq" 2)) ∨ (wd = "part" ∧ (r = .put "qqqq" ∨ r = .put p.1)) ∨ (wd = "ref" ∧ r = .ref "qqqq" ∧ i + 1 = bk.length)
def Bent (bk bk' : List PartD) (wd : Str) : Prop := ∃ (i : Nat) (p : PartD) (s : Nat) (r : RowD), bk[i]? = some p ∧ bk' = bentAt bk i p s r ∧ BentR bk i p r wd
theorem split_at {bk : List PartD} {i : Nat} {p : PartD} (h : bk[i]? = some p) : bk = bk.take i ++ p :: bk.drop (i + 1) := by
  obtain ⟨hi, e⟩ := List.getElem?_eq_some_iff.mp h
  rw [← e, List.getElem_cons_drop hi, List.take_append_drop]
theorem bent_names {bk : List PartD} {i : Nat} {p : PartD} {s : Nat} {r : RowD} (h : bk[i]? = some p) : (bentAt bk i p s r).map (·.1) = bk.map (·.1) := by
  conv => rhs; rw [split_at h]
  unfold bentAt
  rw [List.map_append, List.map_append]
  rfl
theorem bent_len {bk : List PartD} {i : Nat} {p : PartD} {s : Nat} {r : RowD} (h : bk[i]? = some p) : (bentAt bk i p s r).length = bk.length := by
  have q := congrArg List.length (bent_names (s := s) (r := r) h)
  rwa [List.length_map, List.length_map] at q
theorem bent_rows {bk : List PartD} {i : Nat} {p : PartD} {s : Nat} {r : RowD} (h : bk[i]? = some p) {G : RowD → Prop} (hG : ∀ q ∈ bk, ∀ y ∈ q.2, G y) (hr : G r) : ∀ q ∈ bentAt bk i p s r, ∀ y ∈ q.2, G y := fun q hq y hy => by
  unfold bentAt at hq
  rcases List.mem_append.mp hq with hq | hq
  · exact hG q (List.mem_of_mem_take hq) y hy
  rcases List.mem_cons.mp hq with rfl | hq
  · rcases List.mem_append.mp hy with hy | hy
    · exact hG p (List.mem_of_getElem? h) y (List.mem_of_mem_take hy)
    rcases List.mem_cons.mp hy with rfl | hy
    · exact hr
    · exact hG p (List.mem_of_getElem? h) y (List.mem_of_mem_drop hy)
  · exact hG q (List.mem_of_mem_drop hq) y hy
theorem bent_at {bk : List PartD} {i : Nat} {p : PartD} {s : Nat} {r : RowD} (h : bk[i]? = some p) (j : Nat) : (bentAt bk i p s r)[j]? = if j = i then some (p.1, p.2.take s ++ (r :: p.2.drop s)) else bk[j]? := by
  have hi := (List.getElem?_eq_some_iff.mp h).1
  have hl : (bk.take i).length = i := by rw [List.length_take]; omega
  unfold bentAt
  by_cases hj : j = i
  · rw [if_pos hj, hj, List.getElem?_append_right (by omega), hl, Nat.sub_self]
    rfl
  rw [if_neg hj]
  rcases Nat.lt_or_ge j i with h1 | h1
  · rw [List.getElem?_append_left (by omega), List.getElem?_take, if_pos h1]
  · rw [List.getElem?_append_right (by omega), hl]
    obtain ⟨k, rfl⟩ : ∃ k, j = i + 1 + k := ⟨j - i - 1, by omega⟩
    have e : i + 1 + k - i = k + 1 := by omega
    rw [e, List.getElem?_cons_succ, List.getElem?_drop]
theorem bent_small {d : Pool} {cs : List (Str × Str)} {bk bk' : List PartD} {wd : Str} (h : BookOk d cs bk) (hb : Bent bk bk' wd) : bk'.length ≤ 3 ∧ ∀ p ∈ bk', p.2.length ≤ 7 := by
  obtain ⟨i, p, s, r, hp, rfl, _⟩ := hb
  have h6 : ∀ q ∈ bk, q.2.length ≤ 6 := fun q hq => by
    obtain ⟨j, hj⟩ := List.getElem?_of_mem hq
    exact (h.puts j q hj).1
  refine ⟨by rw [bent_len hp]; exact h.b3, fun q hq => ?_⟩
  obtain ⟨j, hj⟩ := List.getElem?_of_mem hq
  rw [bent_at hp] at hj
  by_cases e : j = i
  · rw [if_pos e] at hj
    cases hj
    have := h6 p (List.mem_of_getElem? hp)
    simp only [List.length_append, List.length_cons, List.length_take, List.length_drop]
    omega
  · rw [if_neg e] at hj
    have := h6 q (List.mem_of_getElem? hj)
    omega
theorem bent_due {d : Pool} {cs : List (Str × Str)} {bk bk' : List PartD} {wd : Str} (h : BookOk d cs bk) (hb : Bent bk bk' wd) : dueB cs bk' wd := by
  have ok := bookV h
  have gd := good_at ok.c
  obtain ⟨⟨nc, np⟩, _⟩ := names_qs h
  have lq := labels_qs h
  obtain ⟨i, p, s, r, hp, rfl, hr⟩ := hb
  have hi := (List.getElem?_eq_some_iff.mp hp).1
  have ne : bentAt bk i p s r ≠ [] ∧ ((bentAt bk i p s r).map (·.1)).Nodup := by
    refine ⟨fun e => ?_, by rw [bent_names hp]; exact ok.nd⟩
    have q := bent_len (s := s) (r := r) hp
    rw [e] at q
    have : (0 : Nat) = bk.length := q
    omega
  have hin : ∃ q ∈ bentAt bk i p s r, q.2 = p.2.take s ++ (r :: p.2.drop s) := ⟨_, List.mem_append_right _ List.mem_cons_self, rfl⟩
  have hmem : r ∈ p.2.take s ++ (r :: p.2.drop s) := List.mem_append_right _ List.mem_cons_self
  have known : (∀ c, cntOf r = some c → c ∈ cs.map (·.1)) → KnownC cs (bentAt bk i p s r) := fun hc q hq y hy c e =>
    bent_rows (G := fun y => ∀ c, cntOf y = some c → c ∈ cs.map (·.1)) hp (fun q hq y hy c e => ok.cnt q hq y hy c e) hc q hq y hy c e
  have tk : ((bentAt bk i p s r).take i).map (·.1) = (bk.take i).map (·.1) := by
    rw [List.map_take, List.map_take, bent_names hp]
  rcases hr with ⟨rfl, hr⟩ | ⟨rfl, hr⟩ | ⟨rfl, rfl, hlast⟩
  · have nk : ¬ KnownC cs (bentAt bk i p s r) := fun z => by
      obtain ⟨q, hq, e⟩ := hin
      refine nc (z q hq r (by rw [e]; exact hmem) "qqqq" ?_)
      rcases hr with rfl | rfl <;> rfl
    exact ⟨fun z => absurd gd z, fun _ z => absurd ne z, fun _ _ _ => rfl, fun _ _ z => absurd z nk, fun _ _ z => absurd z nk, fun _ _ z => absurd z nk⟩
  · have kc := known (fun c e => by rcases hr with rfl | rfl <;> cases e)
    have nE : ¬ Earlier (bentAt bk i p s r) := fun z => by
      have q := z i _ (by rw [bent_at hp, if_pos rfl])
      rw [tk] at q
      rcases hr with rfl | rfl
      · have := q _ hmem
        rw [List.map_take] at this
        exact np (List.mem_of_mem_take this)
      · have m := q _ hmem
        have e : (bk.map (·.1)) = (bk.take i).map (·.1) ++ (bk.drop i).map (·.1) := by rw [← List.map_append, List.take_append_drop]
        have nd := ok.nd
        rw [e] at nd
        refine (List.nodup_append.mp nd).2.2 _ m p.1 (List.mem_map.mpr ⟨p, ?_, rfl⟩) rfl
        exact List.mem_of_getElem? (i := 0) (by rw [List.getElem?_drop]; simpa using hp)
    exact ⟨fun z => absurd gd z, fun _ z => absurd ne z, fun _ _ z => absurd kc z, fun _ _ _ _ => rfl, fun _ _ _ z => absurd z nE, fun _ _ _ z => absurd z nE⟩
  · have kc := known (fun c e => by cases e)
    have eE : Earlier (bentAt bk i p s (.ref "qqqq")) := fun j q hq z hz => by
      have t : ((bentAt bk i p s (.ref "qqqq")).take j).map (·.1) = (bk.take j).map (·.1) := by
        rw [List.map_take, List.map_take, bent_names hp]
      rw [t]
      rw [bent_at hp] at hq
      by_cases e : j = i
      · rw [if_pos e] at hq
        cases hq
        subst e
        refine ok.puts j p hp z ?_
        rcases List.mem_append.mp hz with hz | hz
        · exact List.mem_of_mem_take hz
        · rcases List.mem_cons.mp hz with e | hz
          · cases e
          · exact List.mem_of_mem_drop hz
      · rw [if_neg e] at hq
        exact ok.puts j q hq z hz
    have nR : ¬ KnownR (bentAt bk i p s (.ref "qqqq")) := fun z => by
      have last : bk.drop (i + 1) = [] := List.drop_eq_nil_of_le (by omega)
      have m : RowD.ref "qqqq" ∈ unrolled (bentAt bk i p s (.ref "qqqq")) := by
        unfold bentAt
        rw [last, unrolled_snoc]
        exact List.mem_flatMap.mpr ⟨_, hmem, List.mem_singleton.mpr rfl⟩
      obtain ⟨c, hc⟩ := z _ m
      have q := unrolled_all (G := fun y => ∀ c, y ≠ RowD.note c "qqqq") (bent_rows hp lq (fun c e => by cases e)) _ hc
      exact q c rfl
    exact ⟨fun z => absurd gd z, fun _ z => absurd ne z, fun _ _ z => absurd kc z, fun _ _ _ z => absurd eE z, fun _ _ _ _ _ => rfl, fun _ _ _ _ z => absurd z nR⟩
/-! ### counters with one more pair of texts that cannot stand there -/
theorem more_due {d : Pool} {cs : List (Str × Str)} {bk bk' : List PartD} (h : BookOk d cs bk) {n : Nat} (hn : n ≤ cs.length) {x : Str × Str} (hx : (∃ c ∈ cs, x = (c.1, ("" : Str))) ∨ x = (("note" : Str), ("" : Str)) ∨ x = (("q" : Str), ("later" : Str)) ∨ x = (("q" : Str), ("q" : Str)) ∨ x = (("Q" : Str), ("" : Str))) : dueB (cs.take n ++ x :: cs.drop n) bk' "counters" := by
  have ng : ¬ ∀ i, GoodAt (cs.take n ++ x :: cs.drop n) i := fun z => by
    have hl : (cs.take n).length = n := by rw [List.length_take]; omega
    have e : (cs.take n ++ x :: cs.drop n)[n]? = some x := by rw [List.getElem?_append_right (by omega), hl, Nat.sub_self]; rfl
    have t : (cs.take n ++ x :: cs.drop n).take n = cs.take n := by rw [List.take_append_of_le_length (by omega), List.take_of_length_le (by omega)]
    obtain ⟨z1, z2, z3⟩ := z n x e
    rw [t] at z2 z3
    obtain ⟨_, nq, nl⟩ := names_qs h
    rcases hx with ⟨c, hc, rfl⟩ | rfl | rfl | rfl | rfl
    · have nd := good_nodup z
      rw [List.map_append, List.map_cons] at nd
      have pm : (((cs.take n).map (·.1)) ++ c.1 :: (cs.drop n).map (·.1)).Perm (c.1 :: (((cs.take n).map (·.1)) ++ (cs.drop n).map (·.1))) := List.perm_middle
      have nd2 := pm.nodup_iff.mp nd
      rw [← List.map_append, List.take_append_drop] at nd2
      exact (List.nodup_cons.mp nd2).1 (List.mem_map.mpr ⟨c, hc, rfl⟩)
    · exact absurd z1 (by decide +kernel)
    · rcases z3 with z3 | z3
      · exact absurd z3 (by decide +kernel)
      · rw [List.map_take] at z3
        exact nl (List.mem_of_mem_take z3)
    · rcases z3 with z3 | z3
      · exact absurd z3 (by decide +kernel)
      · rw [List.map_take] at z3
        exact nq (List.mem_of_mem_take z3)
    · exact absurd z1 (by decide +kernel)
  exact ⟨fun _ => rfl, fun z => absurd z ng, fun z => absurd z ng, fun z => absurd z ng, fun z => absurd z ng, fun z => absurd z ng⟩
theorem parts_due {cs : List (Str × Str)} {bk : List PartD} (hc : CsOk cs) (h : ¬ (bk ≠ [] ∧ (bk.map (·.1)).Nodup)) : dueB cs bk "parts" :=
  ⟨fun z => absurd (good_at hc) z, fun _ _ => rfl, fun _ z => absurd z h, fun _ z => absurd z h, fun _ z => absurd z h, fun _ z => absurd z h⟩
end Pn

namespace Pn
open PySem L2 TL
abbrev sHeard7 : Stmt := top 63
section
variable {P : Program} {w : World} {K : PySem.W.Frag} {mg : Str → Option Value} {base : Heap}
structure THeard7 {R : TRows K mg} {T : TPart R} {B : TBk T} (Z : TBad B) : Type where
  O : TOdd T
  heard : At K mg "_law_heard" sHeard7 ["_law_counters_here", "_law_parts"]
  CN : Addr
  mCN : mg "NoteError" = some (.ref CN)
  kCN : PySem.W.kitOne K (.ref Z.IB.C) (.ref CN) = some true
  kIP : PySem.W.kitOne K (.ref Z.IB.C) (.ref T.IP.C) = some false
/-- what is passed to a book, with the word that it is refused with -/
def Due7 {R : TRows K mg} (T : TPart R) (H : Hp) (cu pu : V) (wd : Str) : Prop :=
  (∃ (cp : Addr) (ts : List Addr) (cs : List (Str × Str)) (bk : List PartD), cu = .ref cp ∧ (SqL K H cp (ts.map V.ref) ∨ TupX H cp (ts.map V.ref)) ∧ CsIn K H ts cs ∧ PtsArg T H pu bk ∧ cs.length ≤ 100 ∧ (∀ c ∈ cs, c.1.length ≤ 900) ∧ bk.length ≤ 50 ∧ (∀ p ∈ bk, p.2.length ≤ 100) ∧ (∀ z rs, (z, rs) ∈ knowns bk → rs.length ≤ 4000) ∧ dueB cs bk wd) ∨
  (OddCs K H cu ∧ wd = "counters") ∨
  (∃ cs, CsArg K H cu cs ∧ cs.length ≤ 100 ∧ (∀ c ∈ cs, c.1.length ≤ 900) ∧ (∀ i, GoodAt cs i) ∧ OddPs T H pu ∧ wd = "parts")
def spHeard7 {R : TRows K mg} (T : TPart R) : Sp := fun vs H Q _ => ∃ (cu pu : V) (wd : Str), vs = [cu, pu] ∧ Due7 T H cu pu wd ∧ ∀ H', Same H H' → Q (.str wd) H'
theorem scHeard7 : FnScope ["_law_counters_here", "_law_parts", "_law_heard_here", "e"] ["_law_counters_here", "_law_parts"] (defScope sHeard7) := ⟨rfl, rfl, rfl, by decide +kernel, rfl, by decide +kernel, by decide +kernel⟩
theorem ok_heard7 {R : TRows K mg} {T : TPart R} {B : TBk T} {Z : TBad B} (h : THeard7 Z) : FnOk P w K mg base CX0 7 h.heard.f h.heard.fd ["_law_counters_here", "_law_parts"] (spHeard7 T) := by
  have D := h
  refine h.heard.F.ok scHeard7 (fun vs H Q E h => ?_) (fun cdv A outer s H vs Q E hr h => ?_)
  · obtain ⟨cu, pu, wd, rfl, _⟩ := h
    rfl
  · obtain ⟨cu, pu, wd, rfl, due, q⟩ := h
    refine ⟨_, pss_cons (ps_set (i := 2) scHeard7.nd rfl (Or.inl rfl) pe_str)
      (pss_cons (ps_try_as (i := 3) rfl rfl scHeard7.nd rfl rfl ⟨rfl, by decide, .inl Z.IB.m⟩ takes0
        (fun W pn xe tk _ => pss_one (ps_expr (pe_makeS B.M (ok_bInitA Z D.O) (hr.mono (by decide)) rfl B.mC B.bI .nil (fun σ => passAt tk σ) (pa_cons (pv 0) (pa_cons (pv 1) pa_nil)))))
        (fun a oe cls d pn hz hf => pss_one (ps_set (i := 2) scHeard7.nd rfl (Or.inl rfl) (pe_ifExp (PW.pt (pw_and (pt_val (pe_callB (call_isX Z.IB.E hz hf) (by rfl) R.N.mIsi (by decide +kernel) (pa_cons (pv 3) (pa_cons (pe_glob (v := .ref D.CN) (by rfl) D.mCN rfl) pa_nil))))
          (pw_and1 (pt_not (pt_val (pe_callB (call_isX Z.IB.E hz hf) (by rfl) R.N.mIsi (by decide +kernel) (pa_cons (pv 3) (pa_cons (pe_glob (v := .ref T.IP.C) (by rfl) T.IP.m rfl) pa_nil))))))))
          (pe_xf Z.IB.xf Z.IB.noF hz hf (pv 3)) pe_str))))
      (pss_one (ps_ret (pv 2)))), ?_⟩
    refine ⟨_, rfl, _, rfl, fun x dx hx hdx ne => ?_⟩
    have s1 : Same H (upd (upd H dx (.own x)) x (.ins B.C dx [])) := ins_same2 hx hdx
    rcases due with ⟨cp, ts, cs, bk, rfl, hcp, hcd, hP, hcl, hsh, hbl, hrl, hsm, d1, d2, d3, d4, d5, d6⟩ | ⟨ho, rfl⟩ | ⟨cs, hc, hcl, hsh, hg, hP, rfl⟩
    · refine .inl ⟨x, dx, cp, pu, ts, cs, bk, H, rfl, upd_same, hx, s1, hcp, hcd, hP, hcl, hsh, hbl, hrl, hsm, ?c1, ?c2, ?c3, ?c4, ?c5, ?c6⟩
      case c1 =>
        intro h1 y H1 hs hy2
        refine ⟨true, Z.IB.te, fun _ a ha => ?_, fun z => nomatch z⟩
        refine ⟨_, rfl, .ref D.CN, _, true, y, _, rfl, rfl, .own _, D.kCN, rfl, hy2, _, rfl, iteT ?_⟩
        refine ⟨_, rfl, .ref T.IP.C, _, false, y, _, rfl, rfl, .own _, D.kIP, rfl, hy2, _, rfl, iteT ?_⟩
        refine ⟨_, rfl, rfl, rfl, y, _, .str "counters", rfl, hy2, rfl, _, rfl, ?_⟩
        rw [d1 h1] at q
        exact q H1 hs
      case c2 =>
        intro h1 h2 y H1 hs hy2
        refine ⟨true, Z.IB.te, fun _ a ha => ?_, fun z => nomatch z⟩
        refine ⟨_, rfl, .ref D.CN, _, true, y, _, rfl, rfl, .own _, D.kCN, rfl, hy2, _, rfl, iteT ?_⟩
        refine ⟨_, rfl, .ref T.IP.C, _, false, y, _, rfl, rfl, .own _, D.kIP, rfl, hy2, _, rfl, iteT ?_⟩
        refine ⟨_, rfl, rfl, rfl, y, _, .str "parts", rfl, hy2, rfl, _, rfl, ?_⟩
        rw [d2 h1 h2] at q
        exact q H1 hs
      case c3 =>
        intro h1 h2 h3 y H1 hs hy2
        refine ⟨true, Z.IB.te, fun _ a ha => ?_, fun z => nomatch z⟩
        refine ⟨_, rfl, .ref D.CN, _, true, y, _, rfl, rfl, .own _, D.kCN, rfl, hy2, _, rfl, iteT ?_⟩
        refine ⟨_, rfl, .ref T.IP.C, _, false, y, _, rfl, rfl, .own _, D.kIP, rfl, hy2, _, rfl, iteT ?_⟩
        refine ⟨_, rfl, rfl, rfl, y, _, .str "counter", rfl, hy2, rfl, _, rfl, ?_⟩
        rw [d3 h1 h2 h3] at q
        exact q H1 hs
      case c4 =>
        intro h1 h2 h3 h4 y H1 hs hy2
        refine ⟨true, Z.IB.te, fun _ a ha => ?_, fun z => nomatch z⟩
        refine ⟨_, rfl, .ref D.CN, _, true, y, _, rfl, rfl, .own _, D.kCN, rfl, hy2, _, rfl, iteT ?_⟩
        refine ⟨_, rfl, .ref T.IP.C, _, false, y, _, rfl, rfl, .own _, D.kIP, rfl, hy2, _, rfl, iteT ?_⟩
        refine ⟨_, rfl, rfl, rfl, y, _, .str "part", rfl, hy2, rfl, _, rfl, ?_⟩
        rw [d4 h1 h2 h3 h4] at q
        exact q H1 hs
      case c5 =>
        intro h1 h2 h3 h4 h5 y H1 hs hy2
        refine ⟨true, Z.IB.te, fun _ a ha => ?_, fun z => nomatch z⟩
        refine ⟨_, rfl, .ref D.CN, _, true, y, _, rfl, rfl, .own _, D.kCN, rfl, hy2, _, rfl, iteT ?_⟩
        refine ⟨_, rfl, .ref T.IP.C, _, false, y, _, rfl, rfl, .own _, D.kIP, rfl, hy2, _, rfl, iteT ?_⟩
        refine ⟨_, rfl, rfl, rfl, y, _, .str "ref", rfl, hy2, rfl, _, rfl, ?_⟩
        rw [d5 h1 h2 h3 h4 h5] at q
        exact q H1 hs
      case c6 =>
        intro h1 h2 h3 h4 h5 H1 hs _
        refine ⟨rfl, _, rfl, ?_⟩
        rw [d6 h1 h2 h3 h4 h5] at q
        exact q H1 hs
    · refine .inr ⟨x, dx, cu, pu, H, rfl, upd_same, hx, s1, .inl ⟨ho, ?_⟩⟩
      intro y H1 hs hy2
      refine ⟨true, Z.IB.te, fun _ a ha => ?_, fun z => nomatch z⟩
      refine ⟨_, rfl, .ref D.CN, _, true, y, _, rfl, rfl, .own _, D.kCN, rfl, hy2, _, rfl, iteT ?_⟩
      refine ⟨_, rfl, .ref T.IP.C, _, false, y, _, rfl, rfl, .own _, D.kIP, rfl, hy2, _, rfl, iteT ?_⟩
      refine ⟨_, rfl, rfl, rfl, y, _, .str "counters", rfl, hy2, rfl, _, rfl, ?_⟩
      exact q H1 hs
    · refine .inr ⟨x, dx, cu, pu, H, rfl, upd_same, hx, s1, .inr ⟨cs, hc, hcl, hsh, hg, hP, ?_⟩⟩
      intro y H1 hs hy2
      refine ⟨true, Z.IB.te, fun _ a ha => ?_, fun z => nomatch z⟩
      refine ⟨_, rfl, .ref D.CN, _, true, y, _, rfl, rfl, .own _, D.kCN, rfl, hy2, _, rfl, iteT ?_⟩
      refine ⟨_, rfl, .ref T.IP.C, _, false, y, _, rfl, rfl, .own _, D.kIP, rfl, hy2, _, rfl, iteT ?_⟩
      refine ⟨_, rfl, rfl, rfl, y, _, .str "parts", rfl, hy2, rfl, _, rfl, ?_⟩
      exact q H1 hs
end
end Pn

namespace Pn
open PySem L2 TL
abbrev sBent : Stmt := top 64
section
variable {P : Program} {w : World} {K : PySem.W.Frag} {mg : Str → Option Value} {base : Heap}
structure TBent (K : PySem.W.Frag) (mg : Str → Option Value) : Type where
  D : TBook K mg
  R : TRows K mg
  P : TPart R
  dN : List Value
  vN : Vals [V.str ""] dN
  bN : Binds K R.note.fd ["self", "counter", "label"] dN
  bent : At K mg "_law_bent" sBent ["_law_box", "_law_told", "_law_parts"]
def spBent (T : TBent K mg) : Sp := fun vs H Q _ => ∃ (b t l c pl : Addr) (ps : List Addr) (bk : List PartD), vs = [.ref b, .ref t, .ref l] ∧ BoxAt H b ∧ hid H b t = some (.tup [.ref c, .ref pl]) ∧ PartsAt (hid H b) pl bk ∧ hid H b l = some (.lst (ps.map V.ref)) ∧ PtsIn T.P (hid H b) ps bk ∧
  bk ≠ [] ∧ bk.length ≤ 3 ∧ (∀ p ∈ bk, nameS p.1 = true ∧ p.2.length ≤ 6) ∧
  ∀ (r D : Addr) (qs : List Addr) (bk' : List PartD) (wd : Str) (H' : Hp), Kp b H H' → BoxAt H' b → hid H' b r = some (.tup [.ref D, .str wd]) → hid H' b D = some (.lst (qs.map V.ref)) → PtsIn T.P (hid H' b) qs bk' → Bent bk bk' wd → Q (.ref r) H'
theorem scBent : FnScope ["_law_box", "_law_told", "_law_parts", "_law_form", "_law_at", "_law_rows", "_law_row_here", "_law_word", "_law_spot"] ["_law_box", "_law_told", "_law_parts"] (defScope sBent) := ⟨rfl, rfl, rfl, by decide +kernel, rfl, by decide +kernel, by decide +kernel⟩
theorem stepPar {i j : Nat} {ta : TA} {B : TS} {D : Ends} {σ : L2.St} {H : Hp} (C : V → V → Hp → Prop) (h1 : ∀ Q' : List V → Hp → Prop, (∀ v w H', C v w H' → Q' [v, w] H') → ta σ H Q') (h2 : ∀ v w H', C v w H' → B D ((σ.set i (some v)).set j (some w)) H') : tSeq (tPar i j ta) B D σ H := h1 _ fun v w H' c => ⟨v, w, rfl, h2 v w H' c⟩
theorem box_ne {H : Hp} {b a : Addr} {o : HO} (h : hid H b a = some o) : a ≠ b := fun z => by
  rw [z] at h
  unfold hid at h
  rw [if_pos rfl] at h
  cases h
theorem hid_new {A H : Hp} {b p : Addr} {o : HO} (s : Same A (hid H b)) (hp : H p = none) (hb : BoxAt H b) : Same A (hid (upd H p o) b) := s.trans (hid_kp ((Kp.refl b H).new hp))
theorem box_upd {H : Hp} {b p : Addr} {o : HO} (hb : BoxAt H b) (hp : H p = none) : BoxAt (upd H p o) b := by
  obtain ⟨x, y, h, e⟩ := hb
  exact ⟨x, y, h, by rw [upd_ne (ne_of_none e hp)]; exact e⟩
theorem box_same {H H' : Hp} {b : Addr} (hb : BoxAt H b) (s : Same H H') : BoxAt H' b := by
  obtain ⟨x, y, h, e⟩ := hb
  exact ⟨x, y, h, s _ _ e⟩
theorem hid_ofsame {H H' : Hp} {b : Addr} (s : Same H H') : Same (hid H b) (hid H' b) := hid_kp (Kp.same s)
theorem hid_own {H : Hp} {b a : Addr} {o : HO} (hb : BoxAt H b) (h : H a = some o) (n : ∀ xs, o ≠ .lst xs) : hid H b a = some o := hid_get h fun z => by
  obtain ⟨x, y, _, e⟩ := hb
  rw [z, e] at h
  exact n _ (Option.some.inj h).symm
theorem row_hid {R : TRows K mg} {H : Hp} {b a : Addr} {r : RowD} (hb : BoxAt H b) (h : RowAt R H a r) : RowAt R (hid H b) a r := by
  obtain ⟨dy, h⟩ := h
  obtain ⟨gs, eg⟩ := insRow_ins R dy r
  exact ⟨dy, hid_own hb h fun xs z => by rw [eg] at z; cases z⟩
theorem ptat_box {R : TRows K mg} {T : TPart R} {H : Hp} {b a : Addr} {n : Str} {rs : List RowD} (hb : BoxAt H b) (h : PtAt T H a n rs) : PtAt T (hid H b) a n rs := by
  obtain ⟨x, y, _, e⟩ := hb
  exact ptat_hid e h
theorem ok_bent (T : TBent K mg) : FnOk P w K mg base CX0 8 T.bent.f T.bent.fd ["_law_box", "_law_told", "_law_parts"] (spBent T) := by
  refine T.bent.F.ok scBent (fun vs H Q E h => ?_) (fun cdv A outer s H vs Q E hr h => ?_)
  · obtain ⟨b, t, l, c, pl, ps, bk, rfl, _⟩ := h
    rfl
  · obtain ⟨b, t, l, c, pl, ps, bk, rfl, hB, ht, hpl, hl, hps, hne, hb3, hrs, q⟩ := h
    refine ⟨_, (pss_cons (ps_par (i := 3) (j := 4) (by rfl) scBent.nd rfl rfl (by decide) rfl rfl (pa_cons (pe_call T.D.okChoose (hr.mono (by decide)) rfl T.D.choose.m T.D.choose.F.kp T.D.choose.b .nil pass0 (pa_cons (pv 0) (pa_cons pe_int pa_nil))) (pa_cons (pe_call T.D.okChoose (hr.mono (by decide)) rfl T.D.choose.m T.D.choose.F.kp T.D.choose.b .nil pass0 (pa_cons (pv 0) (pa_cons (pe_callB call_len_seq (by rfl) T.R.N.mLen PySem.boot_len (pa_cons (pv 2) pa_nil)) pa_nil))) pa_nil)) (by rfl))
(pss_cons (ps_set (i := 5) scBent.nd rfl (Or.inl rfl) (pe_lst (pa_cons (pe_make T.R.note.M (okNoteInit T.R.note T.R.N) (hr.mono (by decide)) rfl T.R.note.m T.bN T.vN passN0 (pa_cons pe_str pa_nil)) (pa_cons (pe_make T.R.skip.M (okSkipInit T.R.skip T.R.N) (hr.mono (by decide)) rfl T.R.skip.m T.R.skip.b .nil passN0 (pa_cons pe_str (pa_cons pe_int pa_nil))) (pa_cons (pe_make T.R.put.M (okPutInit T.R.put T.R.N) (hr.mono (by decide)) rfl T.R.put.m T.R.put.b .nil passN0 (pa_cons pe_str pa_nil)) (pa_cons (pe_make T.R.put.M (okPutInit T.R.put T.R.N) (hr.mono (by decide)) rfl T.R.put.m T.R.put.b .nil passN0 (pa_cons (pe_ix ix_tup (pe_ix ix_list (pe_ix ix_tup (pv 1) pe_int (fun _ _ => rfl)) (pv 4) (fun _ _ => rfl)) pe_int (fun _ _ => rfl)) pa_nil)) (pa_cons (pe_make T.R.ref.M (okRefInit T.R.ref T.R.N) (hr.mono (by decide)) rfl T.R.ref.m T.R.ref.b .nil passN0 (pa_cons pe_str pa_nil)) pa_nil)))))))
(pss_cons (ps_par (i := 6) (j := 7) (by rfl) scBent.nd rfl rfl (by decide) rfl rfl (pa_cons (pe_ix ix_list (pv 5) (pv 3) (fun _ _ => rfl)) (pa_cons (pe_ix ix_list (pe_lst (pa_cons pe_str (pa_cons pe_str (pa_cons pe_str (pa_cons pe_str (pa_cons pe_str pa_nil)))))) (pv 3) (fun _ _ => rfl)) pa_nil)) (by rfl))
(pss_cons (ps_set (i := 4) scBent.nd rfl (Or.inl rfl) (pe_ifExp (pt_cmpR op_eq (pv 7) pe_str (nomark _)) (pe_op op_sub (pe_callB call_len_seq (by rfl) T.R.N.mLen PySem.boot_len (pa_cons (pv 2) pa_nil)) pe_int) (pv 4)))
(pss_cons (ps_set (i := 8) scBent.nd rfl (Or.inl rfl) (pe_call T.D.okChoose (hr.mono (by decide)) rfl T.D.choose.m T.D.choose.F.kp T.D.choose.b .nil pass0 (pa_cons (pv 0) (pa_cons (pe_op op_add (pe_callB call_len_seq (by rfl) T.R.N.mLen PySem.boot_len (pa_cons (pe_fld (pe_ix ix_list (pv 2) (pv 4) (fun _ _ => rfl)) rfl) pa_nil)) pe_int) pa_nil))))
(pss_cons (ps_set (i := 5) scBent.nd rfl (Or.inl rfl) (pe_callTy call_list_of (by rfl) T.P.mList (by decide +kernel) (pa_cons (pe_fld (pe_ix ix_list (pv 2) (pv 4) (fun _ _ => rfl)) rfl) pa_nil)))
(pss_one (ps_ret (pe_tup (pa_cons (pe_op op_cat (pe_op op_cat (pe_slice sl_list (pv 2) po_none (po_some (pv 4))) (pe_lst (pa_cons (pe_make T.P.M (okPartInit T.P) (hr.mono (by decide)) rfl T.P.mC T.P.bI .nil passN0 (pa_cons (pe_fld (pe_ix ix_list (pv 2) (pv 4) (fun _ _ => rfl)) rfl) (pa_cons (pe_op op_cat (pe_op op_cat (pe_slice sl_list (pv 5) po_none (po_some (pv 8))) (pe_lst (pa_cons (pv 6) pa_nil))) (pe_slice sl_list (pv 5) (po_some (pv 8)) po_none)) pa_nil))) pa_nil))) (pe_slice sl_list (pv 2) (po_some (pe_op op_add (pv 4) pe_int)) po_none)) (pa_cons (pv 7) pa_nil))))))))))), ?_⟩
    have big : (1001 : Nat) ≤ sizeLine := by decide
    have hpl2 : ps.length = bk.length := paired_len hps
    have bpos : 0 < bk.length := List.length_pos_iff.mpr hne
    have nq : nameS "qqqq" = true := by decide +kernel
    refine stepPar (fun v w H1 => ∃ f i : Nat, v = .int (f : Int) ∧ w = .int (i : Int) ∧ f < 5 ∧ i < bk.length ∧ Kp b H H1 ∧ BoxAt H1 b) (fun Q' hQ => ?_) (fun v w H1 hC => ?_)
    · refine ⟨_, rfl, b, 5, rfl, hB, by decide, by decide, fun f1 H1 f0 fl hB1 k1 _ => ?_⟩
      refine ⟨_, rfl, _, rfl, _, _, rfl, .inl (SqL.of (hid_sub _ _ (hid_kp k1 _ _ hl))), ?_⟩
      rw [List.length_map, hpl2]
      refine ⟨b, _, rfl, hB1, by omega, by omega, fun i1 H2 i0 il hB2 k2 _ => ?_⟩
      exact hQ _ _ _ ⟨f1.toNat, i1.toNat, by rw [Int.toNat_of_nonneg f0], by rw [Int.toNat_of_nonneg i0], by omega, by omega, k1.trans k2, hB2⟩
    obtain ⟨f, i, rfl, rfl, hf, hi, k1, hB1⟩ := hC
    try dsimp only [List.set]
    obtain ⟨p, hp⟩ : ∃ p, bk[i]? = some p := ⟨bk[i], List.getElem?_eq_getElem hi⟩
    have s1 := hid_kp k1
    obtain ⟨ts, hpl1, hpa⟩ := hpl
    obtain ⟨tq, htq, ra, hra, _⟩ := paired_at' hpa hp
    have hpn := (hrs p (List.mem_of_getElem? hp)).1
    -- the rows
    refine stepSet (fun v H2 => ∃ (lp : Addr) (us : List Addr), v = .ref lp ∧ Same H1 H2 ∧ H2 lp = some (.lst (us.map V.ref)) ∧ H1 lp = none ∧ RowsIn T.R H2 us [.note "qqqq" "", .skip "qqqq" 2, .put "qqqq", .put p.1, .ref "qqqq"]) (fun Q' hQ => ?_) (fun v H2 hC => ?_)
    · refine note_mk T.R nq (.inl rfl) fun n1 G1 g1 w1 => skip_mk T.R (n := 2) nq (by decide) fun n2 G2 g2 w2 => put_mk T.R nq fun n3 G3 g3 w3 => ?_
      have g13 := (g1.trans g2).trans g3
      refine ⟨_, rfl, t, _, _, .ref pl, rfl, rfl, SqT.of (g13 _ _ (hid_sub _ _ (s1 _ _ ht))), rfl, _, rfl, pl, _, _, .ref tq, rfl, rfl, SqL.of (g13 _ _ (hid_sub _ _ (s1 _ _ hpl1))), atI_nat (j := i) (by rw [List.getElem?_map, htq]; rfl), tq, _, _, .str p.1, rfl, rfl, SqT.of (g13 _ _ (hid_sub _ _ (s1 _ _ hra))), rfl, ?_⟩
      refine put_mk T.R hpn fun n4 G4 g4 w4 => ref_mk T.R nq fun n5 G5 g5 w5 => ⟨by show 5 ≤ sizeLine; decide, fun lp hlp => ?_⟩
      have g6 := Same.new (o := .lst [.ref n1, .ref n2, .ref n3, .ref n4, .ref n5]) hlp
      have g15 := (g13.trans g4).trans g5
      refine hQ _ _ ⟨lp, [n1, n2, n3, n4, n5], rfl, g15.trans g6, upd_same, g15.free hlp, ?_⟩
      exact .cons (w1.same ((((g2.trans g3).trans g4).trans g5).trans g6)) (.cons (w2.same (((g3.trans g4).trans g5).trans g6)) (.cons (w3.same ((g4.trans g5).trans g6)) (.cons (w4.same (g5.trans g6)) (.cons (w5.same g6) .nil))))
    obtain ⟨lp, us, rfl, s2, hlp, hlpn, hus⟩ := hC
    try dsimp only [List.set]
    have hB2 := box_same hB1 s2
    have hl2 : H2 l = some (.lst (ps.map V.ref)) := s2 _ _ (hid_sub _ _ (s1 _ _ hl))
    -- which row
    have kinds : ∃ (u : Addr) (r : RowD) (wd : Str), us[f]? = some u ∧ RowAt T.R H2 u r ∧ ([V.str "counter", V.str "counter", V.str "part", V.str "part", V.str "ref"][f]? = some (V.str wd)) ∧ ((wd = "counter" ∧ (r = .note "qqqq" "" ∨ r = .skip "qqqq" 2)) ∨ (wd = "part" ∧ (r = .put "qqqq" ∨ r = .put p.1)) ∨ (wd = "ref" ∧ r = .ref "qqqq")) := by
      cases hus with
      | cons a1 r1 => cases r1 with
        | cons a2 r2 => cases r2 with
          | cons a3 r3 => cases r3 with
            | cons a4 r4 => cases r4 with
              | cons a5 r5 =>
                match f, hf with
                | 0, _ => exact ⟨_, _, "counter", rfl, a1, rfl, .inl ⟨rfl, .inl rfl⟩⟩
                | 1, _ => exact ⟨_, _, "counter", rfl, a2, rfl, .inl ⟨rfl, .inr rfl⟩⟩
                | 2, _ => exact ⟨_, _, "part", rfl, a3, rfl, .inr (.inl ⟨rfl, .inl rfl⟩)⟩
                | 3, _ => exact ⟨_, _, "part", rfl, a4, rfl, .inr (.inl ⟨rfl, .inr rfl⟩)⟩
                | 4, _ => exact ⟨_, _, "ref", rfl, a5, rfl, .inr (.inr ⟨rfl, rfl⟩)⟩
    obtain ⟨u, r, wd, hu, hur, hwd, hk⟩ := kinds
    refine stepPar (fun v w H3 => v = .ref u ∧ w = .str wd ∧ Same H2 H3) (fun Q' hQ => ?_) (fun v w H3 hC => ?_)
    · refine ⟨_, rfl, _, rfl, lp, _, _, .ref u, rfl, rfl, SqL.of hlp, atI_nat (j := f) (by rw [List.getElem?_map, hu]; rfl), ?_⟩
      refine ⟨by show 5 ≤ sizeLine; decide, fun wl hwl => ⟨_, rfl, wl, _, _, .str wd, rfl, rfl, SqL.of upd_same, atI_nat (j := f) hwd, ?_⟩⟩
      exact hQ _ _ _ ⟨rfl, rfl, Same.new hwl⟩
    obtain ⟨rfl, rfl, s3⟩ := hC
    try dsimp only [List.set]
    -- which part
    refine stepSet (fun v H4 => H4 = H3 ∧ ∃ (i' : Nat) (p' : PartD), v = .int (i' : Int) ∧ bk[i']? = some p' ∧ BentR bk i' p' r wd) (fun Q' hQ => ?_) (fun v H4 hC => ?_)
    · refine ⟨_, rfl, rfl, _, rfl, ?_⟩
      by_cases hw : wd = "ref"
      · refine iteTD (decide_eq_true (congrArg V.str hw)) ?_
        refine ⟨_, rfl, l, _, rfl, .inl (SqL.of (s3 _ _ hl2)), _, _, rfl, rfl, ?_⟩
        refine hQ _ _ ⟨rfl, bk.length - 1, bk[bk.length - 1]'(by omega), ?_, List.getElem?_eq_getElem _, ?_⟩
        · rw [List.length_map, hpl2]
          exact congrArg V.int (by omega)
        · rcases hk with ⟨e, _⟩ | ⟨e, _⟩ | ⟨e, e2⟩
          · exact absurd (e.symm.trans hw) (by decide +kernel)
          · exact absurd (e.symm.trans hw) (by decide +kernel)
          · exact .inr (.inr ⟨e, e2, by omega⟩)
      · refine iteFD (decide_eq_false fun z => hw (V.str.inj z)) ?_
        refine ⟨_, rfl, ?_⟩
        refine hQ _ _ ⟨rfl, i, p, rfl, hp, ?_⟩
        rcases hk with e | e | ⟨e, _⟩
        · exact .inl e
        · exact .inr (.inl e)
        · exact absurd e hw
    obtain ⟨rfl, i2, p2, rfl, hp2, hbr⟩ := hC
    try dsimp only [List.set]
    have hB3 := box_same hB2 s3
    have hl3 : H4 l = some (.lst (ps.map V.ref)) := s3 _ _ hl2
    have s13 : Same (hid H b) (hid H4 b) := s1.trans (hid_ofsame (s2.trans s3))
    have hps3 : PtsIn T.P (hid H4 b) ps bk := hps.same s13
    obtain ⟨pa, hpa2, hpt⟩ := paired_at' hps3 hp2
    have hi2 := (List.getElem?_eq_some_iff.mp hp2).1
    have hp26 := (hrs p2 (List.mem_of_getElem? hp2)).2
    have hpn2 := (hrs p2 (List.mem_of_getElem? hp2)).1
    obtain ⟨dy, tp, us2, hpu, htp, hus2⟩ := hpt
    have hul2 : us2.length = p2.2.length := paired_len hus2
    -- where
    refine stepSet (fun v H5 => ∃ s : Nat, v = .int (s : Int) ∧ s ≤ p2.2.length ∧ Kp b H4 H5 ∧ BoxAt H5 b) (fun Q' hQ => ?_) (fun v H5 hC => ?_)
    · refine ⟨_, rfl, _, rfl, _, rfl, l, _, _, .ref pa, rfl, rfl, SqL.of hl3, atI_nat (j := i2) (by rw [List.getElem?_map, hpa2]; rfl), pa, T.P.C, dy, _, .ref tp, rfl, hid_sub _ _ hpu, T.P.cl, T.P.noR, part_rows, _, _, rfl, .inr (Same.sqt hid_sub htp), _, _, rfl, rfl, ?_⟩
      rw [List.length_map, hul2]
      refine ⟨b, _, rfl, hB3, by omega, by omega, fun s1 H5 s0 sl hB5 k5 _ => ?_⟩
      exact hQ _ _ ⟨s1.toNat, by rw [Int.toNat_of_nonneg s0], by omega, k5, hB5⟩
    obtain ⟨n, rfl, hn, k5, hB5⟩ := hC
    try dsimp only [List.set]
    have s45 := hid_kp k5
    have hl5 : hid H5 b l = some (.lst (ps.map V.ref)) := s45 _ _ (hid_ofsame (s2.trans s3) _ _ (s1 _ _ hl))
    -- its rows
    refine stepSet (fun v H6 => ∃ L : Addr, v = .ref L ∧ H5 L = none ∧ Same H5 H6 ∧ H6 L = some (.lst (us2.map V.ref))) (fun Q' hQ => ?_) (fun v H6 hC => ?_)
    · refine ⟨_, rfl, _, rfl, l, _, _, .ref pa, rfl, rfl, SqL.of (hid_sub _ _ hl5), atI_nat (j := i2) (by rw [List.getElem?_map, hpa2]; rfl), pa, T.P.C, dy, _, .ref tp, rfl, hid_sub _ _ (s45 _ _ hpu), T.P.cl, T.P.noR, part_rows, tp, _, rfl, .inr (Same.sqt hid_sub (Same.sqt s45 htp)), fun L hL => ?_⟩
      exact hQ _ _ ⟨L, rfl, hL, Same.new hL, upd_same⟩
    obtain ⟨L, rfl, hLn, s6, hL⟩ := hC
    try dsimp only [List.set]
    have hl6 : H6 l = some (.lst (ps.map V.ref)) := s6 _ _ (hid_sub _ _ hl5)
    have hB6 := box_same hB5 s6
    have s46 : Same (hid H4 b) (hid H6 b) := s45.trans (hid_ofsame s6)
    have k6 : Kp b H H6 := ((k1.trans (Kp.same ((s2.trans s3)))).trans k5).trans (Kp.same s6)
    have hps6 : PtsIn T.P (hid H6 b) ps bk := hps3.same s46
    have hpu6 : H6 pa = some (insPart T.P.C dy (.str p2.1) (.ref tp)) := hid_sub _ _ (s46 _ _ hpu)
    have hus6 : RowsIn T.R H6 us2 p2.2 := (hus2.same s46).same hid_sub
    have hur6 : RowAt T.R H6 u r := ((row_hid hB3 (hur.same s3)).same s46).same hid_sub
    have hps6' : PtsIn T.P H6 ps bk := hps6.same hid_sub
    have ul : us2.length ≤ 6 := by omega
    refine ⟨_, rfl, _, rfl, _, rfl, l, _, rfl, SqL.of hl6, fun t1 h1 => ?_⟩
    rw [cut_to (ps.map V.ref) (k := i2) (by rw [List.length_map]; omega)]
    have g1 := Same.new (o := .lst ((ps.map V.ref).take i2)) h1
    have e1 : upd H6 t1 (.lst ((ps.map V.ref).take i2)) t1 = some (.lst ((ps.map V.ref).take i2)) := upd_same
    generalize upd H6 t1 (.lst ((ps.map V.ref).take i2)) = G1 at g1 e1 ⊢
    refine ⟨_, rfl, _, rfl, l, _, _, .ref pa, rfl, rfl, SqL.of (g1 _ _ hl6), atI_nat (j := i2) (by rw [List.getElem?_map, hpa2]; rfl), pa, T.P.C, dy, _, .str p2.1, rfl, g1 _ _ hpu6, T.P.cl, T.P.noN, part_name, ?_⟩
    refine ins_go (a := 5) (n := 8) (m := 6) (L := L) (xs := us2.map V.ref) (k := n) (x := .ref u) rfl rfl rfl (g1 _ _ hL) (by rw [List.length_map]; omega) (by rw [List.length_map]; omega) (fun D G2 g2 _ hD => ?_)
    have hD2 : G2 D = some (.lst ((us2.take n ++ (u :: us2.drop n)).map V.ref)) := by
      rw [hD, List.map_append, List.map_take, List.map_cons, List.map_drop]
    have g12 := g1.trans g2
    have rows2 : RowsIn T.R G2 (us2.take n ++ (u :: us2.drop n)) (p2.2.take n ++ (r :: p2.2.drop n)) := paired_app (paired_take n (hus6.same g12)) (.cons (hur6.same g12) (paired_drop n (hus6.same g12)))
    refine part_made T.P (.inl (SqL.of hD2)) rows2 hpn2 (by rw [List.length_append, List.length_cons, List.length_take, List.length_drop]; omega) fun X G3 g3 hX => ⟨by show 1 ≤ sizeLine; omega, fun t7 h7 => ?_⟩
    have hX3 := hX.at (rows2.same g3)
    have g7 := Same.new (o := .lst [.ref X]) h7
    have e7 : upd G3 t7 (.lst [.ref X]) t7 = some (.lst [.ref X]) := upd_same
    generalize upd G3 t7 (.lst [.ref X]) = G4 at g7 e7 ⊢
    have g17 := (g2.trans g3).trans g7
    refine ⟨t1, t7, _, _, rfl, rfl, g17 _ _ e1, e7, by rw [List.length_take, List.length_map]; show _ + 1 ≤ _; omega, fun t8 h8 => ?_⟩
    have g8 := Same.new (o := .lst ((ps.map V.ref).take i2 ++ [.ref X])) h8
    have e8 : upd G4 t8 (.lst ((ps.map V.ref).take i2 ++ [.ref X])) t8 = some (.lst ((ps.map V.ref).take i2 ++ [.ref X])) := upd_same
    generalize upd G4 t8 (.lst ((ps.map V.ref).take i2 ++ [.ref X])) = G5 at g8 e8 ⊢
    have g18 := (g1.trans g17).trans g8
    refine ⟨_, rfl, _, rfl, _, _, rfl, rfl, _, rfl, l, _, rfl, SqL.of (g18 _ _ hl6), fun t9 h9 => ?_⟩
    rw [show ((i2 : Int) + 1) = ((i2 + 1 : Nat) : Int) from rfl, cut_from (ps.map V.ref) (k := i2 + 1) (by rw [List.length_map]; omega)]
    have g9 := Same.new (o := .lst ((ps.map V.ref).drop (i2 + 1))) h9
    have e9 : upd G5 t9 (.lst ((ps.map V.ref).drop (i2 + 1))) t9 = some (.lst ((ps.map V.ref).drop (i2 + 1))) := upd_same
    generalize upd G5 t9 (.lst ((ps.map V.ref).drop (i2 + 1))) = G6 at g9 e9 ⊢
    refine ⟨t8, t9, _, _, rfl, rfl, g9 _ _ e8, e9, by rw [List.length_append, List.length_take, List.length_drop, List.length_map]; show _ + 1 + _ ≤ _; omega, fun D9 hD9 => ?_⟩
    have el : (ps.map V.ref).take i2 ++ [V.ref X] ++ (ps.map V.ref).drop (i2 + 1) = (ps.take i2 ++ (X :: ps.drop (i2 + 1))).map V.ref := by
      rw [List.append_assoc, List.map_append, List.map_take, List.map_cons, List.map_drop]
      rfl
    rw [el]
    have g10 := Same.new (o := .lst ((ps.take i2 ++ (X :: ps.drop (i2 + 1))).map V.ref)) hD9
    have e10 : upd G6 D9 (.lst ((ps.take i2 ++ (X :: ps.drop (i2 + 1))).map V.ref)) D9 = some (.lst ((ps.take i2 ++ (X :: ps.drop (i2 + 1))).map V.ref)) := upd_same
    have n6 := g9.free hD9
    generalize upd G6 D9 (.lst ((ps.take i2 ++ (X :: ps.drop (i2 + 1))).map V.ref)) = G7 at g10 e10 ⊢
    refine ⟨_, rfl, by show 2 ≤ sizeLine; omega, fun R9 hR9 => ?_⟩
    have g11 := Same.new (o := .tup [.ref D9, .str wd]) hR9
    have gA := g9.trans (g10.trans g11)
    have gB : Same G3 (upd G7 R9 (.tup [.ref D9, .str wd])) := g7.trans (g8.trans gA)
    have gC := g18.trans gA
    have hBz := box_same hB6 gC
    have nDb : D9 ≠ b := fun z => by
      obtain ⟨x, y, _, e⟩ := box_same hB6 g18
      have := g9 _ _ e
      rw [← z, hD9] at this
      cases this
    refine q R9 D9 (ps.take i2 ++ (X :: ps.drop (i2 + 1))) (bentAt bk i2 p2 n r) wd _ (k6.trans (Kp.same gC)) hBz (hid_own hBz upd_same fun xs z => by cases z) (hid_get (g11 _ _ e10) nDb) ?_ ⟨i2, p2, n, r, hp2, rfl, hbr⟩
    have hpsz : PtsIn T.P (hid (upd G7 R9 (.tup [.ref D9, .str wd])) b) ps bk := hps6.same (hid_ofsame gC)
    exact paired_app (R := fun a (q : PartD) => PtAt T.P (hid (upd G7 R9 (.tup [.ref D9, .str wd])) b) a q.1 q.2) (paired_take i2 hpsz) (.cons (ptat_box hBz (hX3.same gB)) (paired_drop (i2 + 1) hpsz))
end
end Pn

namespace Pn
open PySem L2 TL
abbrev sLaw7 : Stmt := top 65
section
variable {P : Program} {w : World} {K : PySem.W.Frag} {mg : Str → Option Value} {base : Heap}
structure TK07 (K : PySem.W.Frag) (mg : Str → Option Value) : Type extends TBent K mg where
  A : TAny K mg
  B : TBk P
  Z : TBad B
  h : THeard7 Z
  made : At K mg "_law_made_row" sMadeRow ["_law_row_here"]
  mMax : mg "max" = none
  mMin : mg "min" = none
def spLaw7 (K : PySem.W.Frag) : Sp := fun vs H Q _ => ∃ (a : Addr) (ns : List Int), vs = [.ref a] ∧ SqL K H a (ns.map V.int) ∧ ns.length ≤ 63 ∧ ∀ H', Q (.bl true) H'
theorem scLaw7 : FnScope ["_law_script", "_law_k", "_law_box", "_law_turn", "_law_told", "_law_parts", "_law_counters_here", "_law_value", "_law_bent_here", "_law_word", "_law_at", "_law_odd", "_law_wrong", "_law_more", "_law_spot", "_law_some", "_law_name", "_law_rows", "_law_row_here"] ["_law_script"] (defScope sLaw7) := ⟨rfl, rfl, rfl, by decide +kernel, rfl, by decide +kernel, by decide +kernel⟩
theorem gname_go {i : Nat} {v : V} {σ : L2.St} {H : Hp} {Q : L2.St → Hp → Prop} (h : Q (σ.set i (some v)) H) : gName i v σ H Q := h
theorem stepAny {te : TE} {gg : V → L2.St → Hp → (L2.St → Hp → Prop) → Prop} {B : TS} {D : Ends} {σ : L2.St} {H : Hp} (C : V → Hp → Prop) (h1 : ∀ Q' : VK, (∀ v H', C v H' → Q' v H') → te σ H Q') (h2 : ∀ v H', C v H' → gg v σ H' (fun σ2 H2 => B D σ2 H2)) : tSeq (tAsg te gg) B D σ H := h1 _ h2
theorem hid_free {b : Addr} {H0 H : Hp} (s : Same H0 H) (h : H0 b = none) : Same H0 (hid H b) := fun a o e => hid_get (s a o e) (ne_of_none e h)
theorem due_go {cs : List (Str × Str)} {bk : List PartD} {wd : Str} (e : decide (wordB cs bk = wd) = true) : dueB cs bk wd := of_decide_eq_true e ▸ dueB_of cs bk
theorem Due7.same {R : TRows K mg} {T : TPart R} {H H' : Hp} {cu pu : V} {wd : Str} (h : Due7 T H cu pu wd) (s : Same H H') : Due7 T H' cu pu wd := by
  rcases h with ⟨cp, ts, cs, bk, e, h1, h2, h3, h4⟩ | ⟨h1, h2⟩ | ⟨cs, h1, h2, h3, h4, h5, h6⟩
  · exact .inl ⟨cp, ts, cs, bk, e, h1.imp s.seq (fun h => h.same s), h2.same s, h3.same s, h4⟩
  · exact .inr (.inl ⟨h1.same s, h2⟩)
  · exact .inr (.inr ⟨cs, h1.same s, h2, h3, h4, h5.same s, h6⟩)
/-- a thing that cannot be a counter there -/
def OddX (K : PySem.W.Frag) (H : Hp) (cs : List (Str × Str)) (v : V) : Prop := (∃ (t : Addr) (x : Str × Str), v = .ref t ∧ SqT K H t [.str x.1, .str x.2] ∧ ((∃ c ∈ cs, x = (c.1, ("" : Str))) ∨ x = (("note" : Str), ("" : Str)) ∨ x = (("q" : Str), ("later" : Str)) ∨ x = (("q" : Str), ("q" : Str)) ∨ x = (("Q" : Str), ("" : Str)))) ∨ OddC K H v
theorem OddX.same {H H' : Hp} {cs : List (Str × Str)} {v : V} (h : OddX K H cs v) (s : Same H H') : OddX K H' cs v := by
  rcases h with ⟨t, x, e, h, g⟩ | h
  · exact .inl ⟨t, x, e, Same.sqt s h, g⟩
  · exact .inr (h.same s)
theorem leaf_seq : ∀ d ∈ leafD, seqD d = false := fun d hd => by
  have h : leafD.all (fun d => !seqD d) = true := by decide +kernel
  simpa using List.all_eq_true.mp h d hd
theorem box_fresh {H : Hp} {b p : Addr} (hb : BoxAt H b) (h : H p = none) : p ≠ b := fun z => by
  obtain ⟨_, _, _, e⟩ := hb
  rw [z, e] at h
  cases h
theorem sqt_own {H : Hp} {b p : Addr} {xs : List V} (hb : BoxAt H b) (h : H p = some (.tup xs)) : SqT K (hid H b) p xs := SqT.of (hid_own hb h fun _ z => nomatch z)
theorem more_due7 {R : TRows K mg} {T : TPart R} {d : Pool} {cs : List (Str × Str)} {bk bk' : List PartD} (okB : BookOk d cs bk) {n : Nat} (hn : n ≤ cs.length) {H : Hp} {M : Addr} {ts : List Addr} {v pu : V} (hM : H M = some (.lst ((ts.map V.ref).take n ++ (v :: (ts.map V.ref).drop n)))) (hC : CsIn K H ts cs) (hv : OddX K H cs v) (hP : PtsArg T H pu bk')
    (hcs : ∀ c ∈ cs, c.1.length ≤ 900) (h1 : bk'.length ≤ 50) (h2 : ∀ p ∈ bk', p.2.length ≤ 100) (h3 : ∀ z rs, (z, rs) ∈ knowns bk' → rs.length ≤ 4000) : Due7 T H (.ref M) pu "counters" := by
  have c3 := okB.c3
  rcases hv with ⟨t, x, rfl, ht, hx⟩ | ho
  · have xl : x.1.length ≤ 900 := by
      rcases hx with ⟨c, hc, rfl⟩ | rfl | rfl | rfl | rfl
      · exact hcs c hc
      all_goals decide +kernel
    refine .inl ⟨M, ts.take n ++ t :: ts.drop n, cs.take n ++ x :: cs.drop n, bk', rfl, .inl (SqL.of ?_), paired_app (paired_take n hC) (.cons ht (paired_drop n hC)), hP, ?_, fun c hc => ?_, h1, h2, h3, more_due okB hn hx⟩
    · rw [hM, List.map_append, List.map_take, List.map_cons, List.map_drop]
    · rw [List.length_append, List.length_cons, List.length_take, List.length_drop]
      omega
    · rcases List.mem_append.mp hc with hc | hc
      · exact hcs c (List.mem_of_mem_take hc)
      rcases List.mem_cons.mp hc with rfl | hc
      · exact xl
      · exact hcs c (List.mem_of_mem_drop hc)
  · refine .inr (.inl ⟨.inr ⟨M, ts.take n, cs.take n, v, (ts.map V.ref).drop n, rfl, SqL.of (by rw [hM, List.map_take]), paired_take n hC, ho, by rw [List.length_take]; omega, fun c hc => hcs c (List.mem_of_mem_take hc)⟩, rfl⟩)
theorem stepEndB {tt : TT} {A : TS} {D : Ends} {σ : L2.St} {H : Hp} (G : Hp → Prop) (h1 : ∀ Q : Bool → Hp → Prop, (∀ H', G H' → Q false H') → tt σ H Q) (h2 : ∀ H', G H' → D.nx σ H') : tIfS tt A tNext D σ H := h1 _ fun H' g => by
  rw [if_neg Bool.false_ne_true]
  exact h2 H' g
theorem ok_law7 (T : TK07 K mg) {f : Addr} {fd : FuncData} (F : Fun K "law" "law" sLaw7 f fd) : FnOk P w K mg base CX0 14 f fd ["_law_script"] (spLaw7 K) := by
  refine F.ok scLaw7 (fun vs H Q E h => ?_) (fun cdv A outer s H vs Q E hr h => ?_)
  · obtain ⟨a, ns, rfl, _⟩ := h
    rfl
  · obtain ⟨a, ns, rfl, hS, hl, q⟩ := h
    refine ⟨_, (pss_cons (ps_for PassesOwn.never rfl (pi_range1 (by rfl) T.A.mR (pa_cons (pe_callB (call_max2 rfl) (by rfl) T.mMax (by decide +kernel) (pa_cons pe_int (pa_cons (pe_callB (call_min2 rfl) (by rfl) T.mMin (by decide +kernel) (pa_cons pe_int (pa_cons (pe_callB call_len_seq (by rfl) T.R.N.mLen PySem.boot_len (pa_cons (pv 0) pa_nil)) pa_nil))) pa_nil))) pa_nil)) (pg_name (i := 1) scLaw7.nd rfl (Or.inl rfl))
(pss_cons (ps_set (i := 2) scLaw7.nd rfl (Or.inl rfl) (pe_call T.D.okSeed (hr.mono (by decide)) rfl T.D.seed.m T.D.seed.F.kp T.D.seed.b .nil pass0 (pa_cons (pv 0) (pa_cons (pv 1) pa_nil))))
(pss_one (ps_for PassesOwn.never rfl (pi_range1 (by rfl) T.A.mR (pa_cons pe_int pa_nil)) (pg_name (i := 3) scLaw7.nd rfl (Or.inl rfl))
(pss_cons (ps_set (i := 4) scLaw7.nd rfl (Or.inl rfl) (pe_call (ok_book T.D) (hr.mono (by decide)) rfl T.D.book.m T.D.book.F.kp T.D.book.b .nil pass0 (pa_cons (pv 2) (pa_cons pe_int pa_nil))))
(pss_cons (ps_setLc (i := 5) (own := [("_law_name", 16), ("_law_rows", 17)]) (g := gTup K 2 (gCons (gName 16) (gCons (gName 17) gNil))) (tt := tYes) (by rfl) scLaw7.nd rfl rfl (sw_true rfl rfl rfl (by decide +kernel)) (pi_list (pe_ix ix_tup (pv 4) pe_int (fun _ _ => rfl)))
 (blkOk_by (N := ["_law_script", "_law_k", "_law_box", "_law_turn", "_law_told", "_law_parts", "_law_counters_here", "_law_value", "_law_bent_here", "_law_word", "_law_at", "_law_odd", "_law_wrong", "_law_more", "_law_spot", "_law_some", "_law_name", "_law_rows", "_law_row_here"]) (sc := defScope sLaw7) (by decide +kernel)) (fun _ _ _ _ _ => (pg_tup (by rfl) (pgs_cons (pg_name (i := 16) scLaw7.nd rfl (Or.inl rfl)) (pgs_cons (pg_name (i := 17) scLaw7.nd rfl (Or.inl rfl)) pgs_nil)))) (fun _ _ _ _ _ => pts_nil) (fun _ _ _ _ _ => (pe_make T.P.M (okPartInit T.P) (hr.mono (by decide)) rfl T.P.mC T.P.bI .nil passN0 (pa_cons (pv 16) (pa_cons (pe_lc (own := [("_law_row_here", 18)]) (g := gName 18) (tt := tYes) (by rfl) scLaw7.nd (show PI _ _ _ (iList K (tVar 17)) from pi_list (pv 17))
 (blkOk_by (N := ["_law_script", "_law_k", "_law_box", "_law_turn", "_law_told", "_law_parts", "_law_counters_here", "_law_value", "_law_bent_here", "_law_word", "_law_at", "_law_odd", "_law_wrong", "_law_more", "_law_spot", "_law_some", "_law_name", "_law_rows", "_law_row_here"]) (by kernel_rfl)) (fun _ _ _ _ _ => (pg_name (i := 18) scLaw7.nd rfl (Or.inl rfl))) (fun _ _ _ _ _ => pts_nil) (fun _ _ _ _ _ => (pe_call (ok_made T.R T.made.F) (hr.mono (by decide)) rfl T.made.m T.made.F.kp T.made.b .nil pass0 (pa_cons (pv 18) pa_nil)))) pa_nil)))))
(pss_cons (ps_par (i := 6) (j := 7) (by rfl) scLaw7.nd rfl rfl (by decide) rfl rfl (pa_cons (pe_ix ix_tup (pv 4) pe_int (fun _ _ => rfl)) (pa_cons (pe_call (ok_any T.A 3) (hr.mono (by decide)) rfl T.A.any.m T.A.any.F.kp T.A.any.b .nil pass0 (pa_cons (pv 2) (pa_cons pe_int pa_nil))) pa_nil)) (by rfl))
(pss_cons (ps_if (PW.pt (pw_or (pt_cmpR op_ne (pe_call (ok_heard7 T.h) (hr.mono (by decide)) rfl T.h.heard.m T.h.heard.F.kp T.h.heard.b .nil pass0 (pa_cons (pv 6) (pa_cons (pv 5) pa_nil))) pe_str (nomark _)) (pw_or1 (pt_cmpR op_ne (pe_call (ok_heard7 T.h) (hr.mono (by decide)) rfl T.h.heard.m T.h.heard.F.kp T.h.heard.b .nil pass0 (pa_cons (pe_callTy cr_tupX2 (by rfl) T.P.mTup (by decide +kernel) (pa_cons (pv 6) pa_nil)) (pa_cons (pe_callTy cr_tupS (by rfl) T.P.mTup (by decide +kernel) (pa_cons (pv 5) pa_nil)) pa_nil))) pe_str (nomark _))))) (pss_one (ps_ret pe_bl)) pss_nil)
(pss_cons (ps_asg (pe_call (ok_bent T.toTBent) (hr.mono (by decide)) rfl T.bent.m T.bent.F.kp T.bent.b .nil pass0 (pa_cons (pv 2) (pa_cons (pv 4) (pa_cons (pv 5) pa_nil)))) (pg_tup (by rfl) (pgs_cons (pg_name (i := 8) scLaw7.nd rfl (Or.inl rfl)) (pgs_cons (pg_name (i := 9) scLaw7.nd rfl (Or.inl rfl)) pgs_nil))))
(pss_cons (ps_if (PW.pt (pw_or (pt_cmpR op_ne (pe_call (ok_heard7 T.h) (hr.mono (by decide)) rfl T.h.heard.m T.h.heard.F.kp T.h.heard.b .nil pass0 (pa_cons (pv 6) (pa_cons (pv 8) pa_nil))) (pv 9) (nomark _)) (pw_or1 (pt_cmpR op_ne (pe_call (ok_heard7 T.h) (hr.mono (by decide)) rfl T.h.heard.m T.h.heard.F.kp T.h.heard.b .nil pass0 (pa_cons (pe_callTy cr_tupX2 (by rfl) T.P.mTup (by decide +kernel) (pa_cons (pv 6) pa_nil)) (pa_cons (pe_callTy cr_tupS (by rfl) T.P.mTup (by decide +kernel) (pa_cons (pv 8) pa_nil)) pa_nil))) (pv 9) (nomark _))))) (pss_one (ps_ret pe_bl)) pss_nil)
(pss_cons (ps_set (i := 10) scLaw7.nd rfl (Or.inl rfl) (pe_call T.D.okChoose (hr.mono (by decide)) rfl T.D.choose.m T.D.choose.F.kp T.D.choose.b .nil pass0 (pa_cons (pv 2) (pa_cons (pe_op op_add (pe_callB call_len_seq (by rfl) T.R.N.mLen PySem.boot_len (pa_cons (pv 6) pa_nil)) pe_int) pa_nil))))
(pss_cons (ps_set (i := 11) scLaw7.nd rfl (Or.inl rfl) (pe_lst (pa_cons (pe_tup (pa_cons (pe_ix ix_tup (pe_ix ix_list (pv 6) pe_int (fun _ _ => rfl)) pe_int (fun _ _ => rfl)) (pa_cons pe_str pa_nil))) (pa_cons (pe_tup (pa_cons pe_str (pa_cons pe_str pa_nil))) (pa_cons (pe_tup (pa_cons pe_str (pa_cons pe_str pa_nil))) (pa_cons (pe_tup (pa_cons pe_str (pa_cons pe_str pa_nil))) (pa_cons (pe_lst (pa_cons pe_str (pa_cons pe_str pa_nil))) (pa_cons (pe_tup (pa_cons pe_str pa_nil)) (pa_cons (pe_tup (pa_cons pe_str (pa_cons pe_non pa_nil))) pa_nil)))))))))
(pss_cons (ps_set (i := 11) scLaw7.nd rfl (Or.inl rfl) (pe_op op_cat (pv 11) (pe_lst (pa_cons (pe_tup (pa_cons pe_str (pa_cons pe_str (pa_cons pe_str pa_nil)))) (pa_cons (pe_tup (pa_cons pe_non (pa_cons pe_str pa_nil))) (pa_cons (pe_lst (pa_cons (pv 7) pa_nil)) (pa_cons pe_str (pa_cons (pe_tup (pa_cons pe_str (pa_cons pe_str pa_nil))) pa_nil))))))))
(pss_cons (ps_set (i := 12) scLaw7.nd rfl (Or.inl rfl) (pe_call T.D.okOne (hr.mono (by decide)) rfl T.D.one.m T.D.one.F.kp T.D.one.b .nil pass0 (pa_cons (pv 2) (pa_cons (pv 11) pa_nil))))
(pss_cons (ps_set (i := 13) scLaw7.nd rfl (Or.inl rfl) (pe_op op_cat (pe_op op_cat (pe_slice sl_list (pv 6) po_none (po_some (pv 10))) (pe_lst (pa_cons (pv 12) pa_nil))) (pe_slice sl_list (pv 6) (po_some (pv 10)) po_none)))
(pss_cons (ps_if (PW.pt (pw_or (pt_cmpR op_ne (pe_call (ok_heard7 T.h) (hr.mono (by decide)) rfl T.h.heard.m T.h.heard.F.kp T.h.heard.b .nil pass0 (pa_cons (pv 13) (pa_cons (pv 8) pa_nil))) pe_str (nomark _)) (pw_or1 (pt_cmpR op_ne (pe_call (ok_heard7 T.h) (hr.mono (by decide)) rfl T.h.heard.m T.h.heard.F.kp T.h.heard.b .nil pass0 (pa_cons (pe_call (ok_leaf T.A.leaf.F T.A.toTDraw) (hr.mono (by decide)) rfl T.A.leaf.m T.A.leaf.F.kp T.A.leaf.b .nil pass0 (pa_cons (pv 2) pa_nil)) (pa_cons (pv 5) pa_nil))) pe_str (nomark _))))) (pss_one (ps_ret pe_bl)) pss_nil)
(pss_cons (ps_set (i := 14) scLaw7.nd rfl (Or.inl rfl) (pe_call T.D.okChoose (hr.mono (by decide)) rfl T.D.choose.m T.D.choose.F.kp T.D.choose.b .nil pass0 (pa_cons (pv 2) (pa_cons (pe_op op_add (pe_callB call_len_seq (by rfl) T.R.N.mLen PySem.boot_len (pa_cons (pv 5) pa_nil)) pe_int) pa_nil))))
(pss_one (ps_for PassesOwn.never rfl (pi_tup (pe_tup (pa_cons (pe_lst pa_nil) (pa_cons (pe_tup pa_nil) (pa_cons pe_non (pa_cons pe_str (pa_cons (pe_ix ix_list (pv 5) pe_int (fun _ _ => rfl)) (pa_cons (pe_op op_cat (pv 5) (pe_lst (pa_cons (pe_ix ix_list (pv 5) pe_int (fun _ _ => rfl)) pa_nil))) (pa_cons (pe_op op_cat (pe_op op_cat (pe_slice sl_list (pv 5) po_none (po_some (pv 14))) (pe_lst (pa_cons (pv 7) pa_nil))) (pe_slice sl_list (pv 5) (po_some (pv 14)) po_none)) pa_nil))))))))) (pg_name (i := 15) scLaw7.nd rfl (Or.inl rfl))
(pss_one (ps_if (pt_cmpR op_ne (pe_call (ok_heard7 T.h) (hr.mono (by decide)) rfl T.h.heard.m T.h.heard.F.kp T.h.heard.b .nil pass0 (pa_cons (pv 6) (pa_cons (pv 15) pa_nil))) pe_str (nomark _)) (pss_one (ps_ret pe_bl)) pss_nil)))))))))))))))))))))
(pss_one (ps_ret (pe_and (pe_cmpR op_eq (pe_call (ok_heard7 T.h) (hr.mono (by decide)) rfl T.h.heard.m T.h.heard.F.kp T.h.heard.b .nil pass0 (pa_cons (pe_lst pa_nil) (pa_cons (pe_lst (pa_cons (pe_make T.P.M (okPartInit T.P) (hr.mono (by decide)) rfl T.P.mC T.P.bI .nil passN0 (pa_cons pe_str (pa_cons (pe_lst (pa_cons (pe_make T.R.open_.M (okOpenInit T.R.open_ T.R.N) (hr.mono (by decide)) rfl T.R.open_.m T.R.open_.b .nil passN0 (pa_cons pe_str pa_nil)) pa_nil)) pa_nil))) pa_nil)) pa_nil))) pe_str (nomark _)) (pe_one (pe_cmpR op_eq (pe_call (ok_heard7 T.h) (hr.mono (by decide)) rfl T.h.heard.m T.h.heard.F.kp T.h.heard.b .nil pass0 (pa_cons (pe_lst pa_nil) (pa_cons (pe_lst (pa_cons (pe_make T.P.M (okPartInit T.P) (hr.mono (by decide)) rfl T.P.mC T.P.bI .nil passN0 (pa_cons pe_str (pa_cons (pe_lst (pa_cons (pe_make T.R.note.M (okNoteInit T.R.note T.R.N) (hr.mono (by decide)) rfl T.R.note.m T.bN T.vN passN0 (pa_cons pe_str pa_nil)) pa_nil)) pa_nil))) pa_nil)) pa_nil))) pe_str (nomark _))))))), ?_⟩
    have hlen : ((ns.map V.int).length : Int) ≤ 63 := by rw [List.length_map]; omega
    refine ⟨_, rfl, a, _, rfl, .inl hS, _, _, rfl, _, _, rfl, _, rfl, ?b1, ?b2,
      for_range (lo := 0) (fun i σ Hc => ∃ x1 x2 x3 x4 x5 x6 x7 x8 x9 x10 x11 x12 x13 x14 x15 x16 x17 x18, σ = [some (.ref a), x1, x2, x3, x4, x5, x6, x7, x8, x9, x10, x11, x12, x13, x14, x15, x16, x17, x18] ∧ Same H Hc) ⟨_, _, _, _, _, _, _, _, _, _, _, _, _, _, _, _, _, _, rfl, Same.refl _⟩ (fun i σ Hc hi hP => ?turn) (fun σ Hc hP => ?fin)⟩
    case b1 => split <;> (try split) <;> omega
    case b2 => split <;> (try split) <;> omega
    case fin =>
      obtain ⟨x1, x2, x3, x4, x5, x6, x7, x8, x9, x10, x11, x12, x13, x14, x15, x16, x17, x18, rfl, hs0⟩ := hP
      have na : nameS "a" = true := by decide +kernel
      have nx : nameS "x" = true := by decide +kernel
      have one : 1 ≤ sizeLine := by decide
      refine ⟨Nat.zero_le _, fun l0 hl0 => ?_⟩
      have e0 : upd Hc l0 (.lst []) l0 = some (.lst (([] : List Addr).map V.ref)) := upd_same
      generalize upd Hc l0 (.lst []) = G0 at e0 ⊢
      refine open_mk T.R nx fun n1 G1 g1 w1 => ⟨one, fun l1 hl1 => ?_⟩
      have g2 := Same.new (o := .lst [.ref n1]) hl1
      have e2 : upd G1 l1 (.lst [.ref n1]) l1 = some (.lst ([n1].map V.ref)) := upd_same
      generalize upd G1 l1 (.lst [.ref n1]) = G2 at g2 e2 ⊢
      have w2 : RowsIn T.R G2 [n1] [.opn "x"] := .cons (w1.same g2) .nil
      refine part_made T.P (.inl (SqL.of e2)) w2 na (by show 1 ≤ 1000; decide) fun p1 G3 g3 hp1 => ⟨one, fun l2 hl2 => ?_⟩
      have g4 := Same.new (o := .lst [.ref p1]) hl2
      have P1 := (hp1.at (w2.same g3)).same g4
      refine ⟨_, _, "", rfl, .inl ⟨l0, [], [], [("a", [.opn "x"])], rfl, .inl (SqL.of (g4 _ _ (g3 _ _ (g2 _ _ (g1 _ _ e0))))), .nil, ⟨l2, [p1], rfl, .inl (SqL.of upd_same), .cons P1 .nil⟩, by decide, (fun _ h => nomatch h), by decide, (fun p hp => by rw [List.mem_singleton.mp hp]; show 1 ≤ 100; decide), knowns_few (by decide) (fun p hp => by rw [List.mem_singleton.mp hp]; show 1 ≤ 7; decide), due_go (by decide +kernel)⟩, fun G5 g5 => ⟨rfl, true, ?_, iteT ?_⟩⟩
      · exact congrArg V.bl (decide_eq_true rfl)
      refine ⟨Nat.zero_le _, fun m0 hm0 => ?_⟩
      have f0 : upd G5 m0 (.lst []) m0 = some (.lst (([] : List Addr).map V.ref)) := upd_same
      generalize upd G5 m0 (.lst []) = F0 at f0 ⊢
      refine note_mk T.R nx (.inl rfl) fun n2 F1 g1 w1 => ⟨one, fun m1 hm1 => ?_⟩
      have g2 := Same.new (o := .lst [.ref n2]) hm1
      have e2 : upd F1 m1 (.lst [.ref n2]) m1 = some (.lst ([n2].map V.ref)) := upd_same
      generalize upd F1 m1 (.lst [.ref n2]) = F2 at g2 e2 ⊢
      have w2 : RowsIn T.R F2 [n2] [.note "x" ""] := .cons (w1.same g2) .nil
      refine part_made T.P (.inl (SqL.of e2)) w2 na (by show 1 ≤ 1000; decide) fun p2 F3 g3 hp2 => ⟨one, fun m2 hm2 => ?_⟩
      have g4 := Same.new (o := .lst [.ref p2]) hm2
      have P2 := (hp2.at (w2.same g3)).same g4
      refine ⟨_, _, "counter", rfl, .inl ⟨m0, [], [], [("a", [.note "x" ""])], rfl, .inl (SqL.of (g4 _ _ (g3 _ _ (g2 _ _ (g1 _ _ f0))))), .nil, ⟨m2, [p2], rfl, .inl (SqL.of upd_same), .cons P2 .nil⟩, by decide, (fun _ h => nomatch h), by decide, (fun p hp => by rw [List.mem_singleton.mp hp]; show 1 ≤ 100; decide), knowns_few (by decide) (fun p hp => by rw [List.mem_singleton.mp hp]; show 1 ≤ 7; decide), due_go (by decide +kernel)⟩, fun F5 f5 => ⟨rfl, ?_⟩⟩
      rw [decide_eq_true rfl]
      exact q F5
    case turn =>
      obtain ⟨x1, x2, x3, x4, x5, x6, x7, x8, x9, x10, x11, x12, x13, x14, x15, x16, x17, x18, rfl, hs0⟩ := hP
      have hi2 : i ≤ 100 := by
        have : (if (if ((ns.map V.int).length : Int) < 5 then ((ns.map V.int).length : Int) else 5) > 2 then (if ((ns.map V.int).length : Int) < 5 then ((ns.map V.int).length : Int) else 5) else 2).toNat ≤ 63 := by split <;> (try split) <;> omega
        have hi3 := Nat.lt_of_lt_of_le hi this
        omega
      have hSc : SqL K Hc a (ns.map V.int) := hs0.seq hS
      refine ⟨_, rfl, _, rfl, a, ns, i, by rw [Int.zero_add]; rfl, hSc, hi2, fun b x y hb hB => ?_⟩
      have hbS : Same Hc (upd Hc b (.lst [.int x, .int y])) := Same.new hb
      have hb0 : BoxAt (upd Hc b (.lst [.int x, .int y])) b := ⟨x, y, hB, upd_same⟩
      generalize upd Hc b (.lst [.int x, .int y]) = H0 at hbS hb0 ⊢
      refine ⟨_, rfl, by decide, by decide, for_range (lo := 0) (n := 6) (fun j σ Hd => ∃ x3 x4 x5 x6 x7 x8 x9 x10 x11 x12 x13 x14 x15 x16 x17 x18, σ = [some (.ref a), some (.int (0 + (i : Int))), some (.ref b), x3, x4, x5, x6, x7, x8, x9, x10, x11, x12, x13, x14, x15, x16, x17, x18] ∧ Same Hc (hid Hd b) ∧ BoxAt Hd b)
        ⟨_, _, _, _, _, _, _, _, _, _, _, _, _, _, _, _, rfl, hid_free hbS hb, hb0⟩ (fun j σ Hd hj hP => ?turn2) (fun σ Hd hP => ?fin2)⟩
      case fin2 =>
        obtain ⟨x3, x4, x5, x6, x7, x8, x9, x10, x11, x12, x13, x14, x15, x16, x17, x18, rfl, hsd, hBd⟩ := hP
        exact ⟨_, _, _, _, _, _, _, _, _, _, _, _, _, _, _, _, _, _, rfl, hs0.trans (hsd.trans hid_sub)⟩
      case turn2 =>
        obtain ⟨x3, x4, x5, x6, x7, x8, x9, x10, x11, x12, x13, x14, x15, x16, x17, x18, rfl, hsd, hBd⟩ := hP
        refine stepSet (fun v H1 => ∃ (t c pl : Addr) (d : Pool) (cs : List (Str × Str)) (bk : List PartD), v = .ref t ∧ BookOk d cs bk ∧ Same Hc (hid H1 b) ∧ BoxAt H1 b ∧ hid H1 b t = some (.tup [.ref c, .ref pl]) ∧ CsAt (hid H1 b) c cs ∧ PartsAt (hid H1 b) pl bk) (fun Q' hQ => ?_) (fun v H1 hC => ?_)
        · refine ⟨_, rfl, b, 10, rfl, hBd, fun t c pl d cs bk H1 okB k1 hB1 ht hc hp => ?_⟩
          exact hQ _ _ ⟨t, c, pl, d, cs, bk, rfl, okB, hsd.trans (hid_kp k1), hB1, ht, hc, hp⟩
        obtain ⟨t, c, pl, d, cs, bk, rfl, okB, hs1, hB1, ht, hc, hp⟩ := hC
        try dsimp only [List.set]
        have okV := bookV okB
        have hnm : ∀ p ∈ bk, nameS p.1 = true := fun p hp => by
          have hm : p.1 ∈ bk.map (·.1) := List.mem_map.mpr ⟨p, hp, rfl⟩
          rw [okB.bn] at hm
          exact (pool_fine d okB.hd).names _ (by simp [List.mem_of_mem_take hm])
        -- the parts
        obtain ⟨qs, hpl, hpd⟩ := id hp
        have hcl := okB.c3
        have hbl := okB.b3
        have hb6 : ∀ p ∈ bk, p.2.length ≤ 6 := fun p hp => by
          obtain ⟨j, hj⟩ := List.getElem?_of_mem hp
          exact (okB.puts j p hj).1
        have big : (1001 : Nat) ≤ sizeLine := by decide
        have hql : qs.length = bk.length := paired_len hpd
        refine stepSet (fun v H2 => ∃ (D : Addr) (as : List Addr), v = .ref D ∧ Same H1 H2 ∧ H1 D = none ∧ H2 D = some (.lst (as.map V.ref)) ∧ PtsIn T.P H2 as bk) (fun Q' hQ => ?_) (fun v H2 hC => ?_)
        · have ht1 := hid_sub _ _ ht
          have hpl1 := hid_sub _ _ hpl
          have hpd1 : Paired (PartAt H1) qs bk := paired_mono (fun _ _ z => z.same hid_sub) hpd
          have hne := bk
          refine ⟨_, rfl, t, _, _, .ref pl, rfl, rfl, SqT.of ht1, rfl, pl, rfl, ⟨_, SqL.of hpl1⟩, fun D hD => lc_list (xs := qs.map V.ref) (fun i Hi => ∃ as : List Addr, Same H1 Hi ∧ Hi D = some (.lst (as.map V.ref)) ∧ PtsIn T.P Hi as (bk.take i)) ⟨[], Same.new hD, upd_same, .nil⟩ (fun i Hi _ hP => by obtain ⟨_, s, _⟩ := hP; exact SqL.of (s _ _ hpl1)) (fun i z Hi hz hP => ?pturn) (fun Hi hP => ?pfin)⟩
          case pturn =>
            obtain ⟨as, si, hDi, has⟩ := hP
            rw [List.getElem?_map] at hz
            cases hxi : qs[i]? with
            | none => rw [hxi] at hz; cases hz
            | some u =>
            rw [hxi] at hz
            cases hz
            obtain ⟨p, hp, ra, hu, us, hra, hus⟩ := paired_at hpd1 hxi
            have hpm := List.mem_of_getElem? hp
            obtain ⟨hp1, hp2, hp3⟩ := okV.rows p hpm
            have hul : us.length = p.2.length := paired_len hus
            refine ⟨u, _, rfl, SqT.of (si _ _ hu), rfl, _, _, rfl, _, _, rfl, rfl, rfl, _, rfl, _, rfl, ra, rfl, ⟨_, SqL.of (si _ _ hra)⟩, fun D2 hD2 => lc_list (xs := us.map V.ref) (fun j Hj => ∃ fs : List Addr, Same Hi Hj ∧ Hj D2 = some (.lst (fs.map V.ref)) ∧ RowsIn T.R Hj fs (p.2.take j)) ⟨[], Same.new hD2, upd_same, .nil⟩ (fun j Hj _ hP => by obtain ⟨_, s, _⟩ := hP; exact SqL.of (s _ _ (si _ _ hra))) (fun j z Hj hz hP => ?pturn2) (fun Hj hP => ?pfin2)⟩
            case pturn2 =>
              obtain ⟨fs, sj, hDj, hfs⟩ := hP
              rw [List.getElem?_map] at hz
              cases hxj : us[j]? with
              | none => rw [hxj] at hz; cases hz
              | some v =>
              rw [hxj] at hz
              cases hz
              obtain ⟨r, hr2, hv⟩ := paired_at hus hxj
              have hrm := List.mem_of_getElem? hr2
              have hfl : fs.length = (p.2.take j).length := paired_len hfs
              rw [List.length_take] at hfl
              refine ⟨rfl, _, rfl, v, r, rfl, SqT.of (sj _ _ (si _ _ hv)), hp3 r hrm, fun y Hy sy hy => ⟨_, sy _ _ hDj, ?_, fs ++ [y], Same.updn (sj.trans sy) hD2, by rw [upd_same, List.map_append]; rfl, ?_⟩⟩
              · rw [List.length_map]
                omega
              · rw [List.take_add_one, hr2]
                exact rowsin_lst (sy _ _ hDj) (paired_snoc hy (hfs.same sy))
            case pfin2 =>
              obtain ⟨fs, sj, hDj, hfs⟩ := hP
              rw [List.length_map, hul, List.take_length] at hfs
              have hfl : fs.length = p.2.length := paired_len hfs
              have hal : as.length = (bk.take i).length := paired_len has
              rw [List.length_take] at hal
              refine part_made T.P (.inl (SqL.of hDj)) hfs (hnm p hpm) (by omega) fun x H' s' h => ⟨_, s' _ _ (sj _ _ hDi), ?_, as ++ [x], Same.updn (si.trans (sj.trans s')) hD, by rw [upd_same, List.map_append]; rfl, ?_⟩
              · rw [List.length_map]
                omega
              · rw [List.take_add_one, hp]
                have hD' := s' _ _ (sj _ _ hDi)
                have old : PtsIn T.P (upd H' D (.lst (as.map V.ref ++ [V.ref x]))) as (bk.take i) := paired_mono (R := fun a (q : PartD) => PtAt T.P H' a q.1 q.2) (fun _ _ z => ptat_lst hD' z) (has.same (sj.trans s'))
                have new : PtAt T.P (upd H' D (.lst (as.map V.ref ++ [V.ref x]))) x p.1 p.2 := ptat_lst hD' (h.at (hfs.same s'))
                exact paired_snoc (R := fun a (q : PartD) => PtAt T.P (upd H' D (.lst (as.map V.ref ++ [V.ref x]))) a q.1 q.2) new old
          case pfin =>
            obtain ⟨as, si, hDi, has⟩ := hP
            rw [List.length_map, hql, List.take_length] at has
            exact hQ _ _ ⟨D, as, rfl, si, hD, hDi, has⟩
        obtain ⟨D, as, rfl, s12, hDn, hD, hps⟩ := hC
        try dsimp only [List.set]
        have hB2 := box_same hB1 s12
        have hal : as.length = bk.length := paired_len hps
        have nDb : D ≠ b := fun z => by
          obtain ⟨_, _, _, e⟩ := hB1
          rw [z, e] at hDn
          cases hDn
        have h12 := hid_ofsame (b := b) s12
        have hD2 : hid H2 b D = some (.lst (as.map V.ref)) := hid_get hD nDb
        have hps2 : PtsIn T.P (hid H2 b) as bk := by
          obtain ⟨_, _, _, e⟩ := hB2
          exact paired_mono (R := fun a (q : PartD) => PtAt T.P H2 a q.1 q.2) (fun _ _ z => ptat_hid e z) hps
        -- the counters, the value
        refine stepPar (fun v w H3 => ∃ dv, v = .ref c ∧ Same (hid H2 b) (hid H3 b) ∧ BoxAt H3 b ∧ Dp K (hid H3 b) w dv ∧ Dt 3 dv) (fun Q' hQ => ?_) (fun v w H3 hC => ?_)
        · refine ⟨_, rfl, t, _, _, .ref c, rfl, rfl, SqT.of (hid_sub _ _ (h12 _ _ ht)), rfl, _, rfl, b, 3, rfl, by decide, by decide, hB2, fun v dv H3 k3 hB3 hv hdt => ?_⟩
          refine hQ _ _ _ ⟨dv, rfl, hid_kp k3, hB3, ?_, hdt⟩
          obtain ⟨_, _, _, e⟩ := hB2
          exact dp_same (dif_hid e) _ _ hv
        obtain ⟨dv, rfl, h23, hB3, hw, hdt⟩ := hC
        try dsimp only [List.set]
        obtain ⟨ts, hc3, hcd3⟩ := CsAt.mono h23 (CsAt.mono h12 hc)
        have hD3 := h23 _ _ hD2
        have hps3 : PtsIn T.P (hid H3 b) as bk := hps2.same h23
        have hcs : ∀ c ∈ cs, c.1.length ≤ 900 := fun c hc => by
          have := (name_ok (okV.c.nm c hc)).2
          omega
        have hcl100 : cs.length ≤ 100 := by omega
        have hbl50 : bk.length ≤ 50 := by omega
        have hpl100 : ∀ p ∈ bk, p.2.length ≤ 100 := fun p hp => by
          have := hb6 p hp
          omega
        have s01 := hs1.trans (h12.trans h23)
        have ht3 := h23 _ _ (h12 _ _ ht)
        have hp3 := (hp.same h12).same h23
        clear ht hc hp hpl hpd hD hps hD2 hps2 hDn h12 h23 hB1 hB2 s12 hs1
        -- the book is good
        have hC3 : CsIn K H3 ts cs := (csIn_of hcd3).same hid_sub
        have hc3' := hid_sub _ _ hc3
        have hD3' := hid_sub _ _ hD3
        have hp3' : PtsIn T.P H3 as bk := hps3.same hid_sub
        refine stepNo (fun H4 => Same H3 H4) (fun Q' hQ => ?_) (fun H4 s34 => ?_)
        · refine ⟨_, rfl, _, rfl, _, _, "", rfl, .inl ⟨c, ts, cs, bk, rfl, .inl (SqL.of hc3'), hC3, ⟨D, as, rfl, .inl (SqL.of hD3'), hp3'⟩, hcl100, hcs, hbl50, hpl100, okV.small, good_due okV⟩, fun G1 g1 => ⟨rfl, _, rfl, iteFD (by rw [decide_eq_true rfl]; rfl) ?_⟩⟩
          refine ⟨_, rfl, c, ts.map V.ref, rfl, .inl (SqL.of (g1 _ _ hc3')), fun ct G2 g2 hX => ⟨_, rfl, D, as.map V.ref, rfl, .inl (SqL.of (g2 _ _ (g1 _ _ hD3'))), fun pt G3 g3 hpt => ?_⟩⟩
          have g13 := (g1.trans g2).trans g3
          refine ⟨_, _, "", rfl, .inl ⟨ct, ts, cs, bk, rfl, .inr (hX.same g3), hC3.same g13, ⟨pt, as, rfl, .inr hpt, hp3'.same g13⟩, hcl100, hcs, hbl50, hpl100, okV.small, good_due okV⟩, fun G4 g4 => ⟨rfl, _, rfl, ?_⟩⟩
          rw [decide_eq_true rfl]
          exact hQ _ (g13.trans g4)
        try dsimp only [List.set]
        have hB4 := box_same hB3 s34
        have h34 := hid_ofsame (b := b) s34
        -- one thing bent
        refine stepAny (fun v H5 => ∃ (r D2 : Addr) (qs2 : List Addr) (bk' : List PartD) (wd : Str), v = .ref r ∧ Same (hid H4 b) (hid H5 b) ∧ BoxAt H5 b ∧ hid H5 b r = some (.tup [.ref D2, .str wd]) ∧ hid H5 b D2 = some (.lst (qs2.map V.ref)) ∧ PtsIn T.P (hid H5 b) qs2 bk' ∧ Bent bk bk' wd) (fun Q' hQ => ?_) (fun v H5 hC => ?_)
        · refine ⟨_, rfl, _, rfl, _, rfl, b, t, D, c, pl, as, bk, rfl, hB4, h34 _ _ ht3, hp3.same h34, h34 _ _ hD3, hps3.same h34, okB.b0, hbl, fun p hp => ⟨hnm p hp, hb6 p hp⟩, fun r D2 qs2 bk' wd H5 k5 hB5 hr hD5 hps5 hbent => ?_⟩
          exact hQ _ _ ⟨r, D2, qs2, bk', wd, rfl, hid_kp k5, hB5, hr, hD5, hps5, hbent⟩
        obtain ⟨r, D2, qs2, bk', wd, rfl, h45, hB5, hr5, hD5, hps5, hbent⟩ := hC
        refine ⟨r, _, rfl, SqT.of (hid_sub _ _ hr5), rfl, _, _, rfl, _, _, rfl, rfl, ?_⟩
        try dsimp only [List.set]
        have h35 := h34.trans h45
        have hc5 := h35 _ _ hc3
        have hcd5 := paired_mono (fun _ _ e => h35 _ _ e) hcd3
        have hD15 := h35 _ _ hD3
        have hps15 : PtsIn T.P (hid H5 b) as bk := hps3.same h35
        have hw5 := dp_same h35 _ _ hw
        have s05 := s01.trans h35
        have due' := bent_due okB hbent
        obtain ⟨bs1, bs2⟩ := bent_small okB hbent
        have sm' := knowns_few (by omega) bs2
        have bl' : bk'.length ≤ 50 := by omega
        have bl100 : ∀ p ∈ bk', p.2.length ≤ 100 := fun p hp => by
          have := bs2 p hp
          omega
        have hql2 : qs2.length = bk'.length := paired_len hps5
        clear h34 h45 h35 hB3 hB4 s34 s01 hr5 ht3 hp3 hC3 hc3' hD3' hp3' hw hps3 hD3 hcd3 hc3
        -- it is refused with its word
        refine stepNo (fun H6 => Same H5 H6) (fun Q' hQ => ?_) (fun H6 s56 => ?_)
        · have hC5 : CsIn K H5 ts cs := (csIn_of hcd5).same hid_sub
          have hc5' := hid_sub _ _ hc5
          have hD5' := hid_sub _ _ hD5
          have hp5' : PtsIn T.P H5 qs2 bk' := hps5.same hid_sub
          refine ⟨_, rfl, _, rfl, _, _, wd, rfl, .inl ⟨c, ts, cs, bk', rfl, .inl (SqL.of hc5'), hC5, ⟨D2, qs2, rfl, .inl (SqL.of hD5'), hp5'⟩, hcl100, hcs, bl', bl100, sm', due'⟩, fun G1 g1 => ⟨_, rfl, rfl, _, rfl, iteFD (by rw [decide_eq_true rfl]; rfl) ?_⟩⟩
          refine ⟨_, rfl, c, ts.map V.ref, rfl, .inl (SqL.of (g1 _ _ hc5')), fun ct G2 g2 hX => ⟨_, rfl, D2, qs2.map V.ref, rfl, .inl (SqL.of (g2 _ _ (g1 _ _ hD5'))), fun pt G3 g3 hpt => ?_⟩⟩
          have g13 := (g1.trans g2).trans g3
          refine ⟨_, _, wd, rfl, .inl ⟨ct, ts, cs, bk', rfl, .inr (hX.same g3), hC5.same g13, ⟨pt, qs2, rfl, .inr hpt, hp5'.same g13⟩, hcl100, hcs, bl', bl100, sm', due'⟩, fun G4 g4 => ⟨_, rfl, rfl, _, rfl, ?_⟩⟩
          rw [decide_eq_true rfl]
          exact hQ _ (g13.trans g4)
        try dsimp only [List.set]
        have hB6 := box_same hB5 s56
        have h56 := hid_ofsame (b := b) s56
        have htl : ts.length = cs.length := paired_len hcd5
        -- a place among the counters
        refine stepSet (fun v H7 => ∃ n : Nat, v = .int (n : Int) ∧ n ≤ cs.length ∧ Same (hid H6 b) (hid H7 b) ∧ BoxAt H7 b) (fun Q' hQ => ?_) (fun v H7 hC => ?_)
        · refine ⟨_, rfl, _, rfl, c, _, rfl, .inl (SqL.of (s56 _ _ (hid_sub _ _ hc5))), _, _, rfl, rfl, ?_⟩
          rw [List.length_map, htl]
          refine ⟨b, _, rfl, hB6, by omega, by omega, fun n1 H7 n0 nl hB7 k7 _ => ?_⟩
          exact hQ _ _ ⟨n1.toNat, by rw [Int.toNat_of_nonneg n0], by omega, hid_kp k7, hB7⟩
        obtain ⟨n, rfl, hn, h67, hB7⟩ := hC
        try dsimp only [List.set]
        have h57 := h56.trans h67
        have hc7 := h57 _ _ hc5
        have hcd7 := paired_mono (fun _ _ e => h57 _ _ e) hcd5
        have hw7 := dp_same h57 _ _ hw5
        have c0 : 0 < cs.length := okB.c0
        obtain ⟨x0, hx0⟩ : ∃ x0, cs[0]? = some x0 := ⟨cs[0], List.getElem?_eq_getElem c0⟩
        obtain ⟨t0, ht0, htt0⟩ := paired_at' hcd7 hx0
        -- odd things
        refine stepSet (fun v H8 => ∃ (O : Addr) (os : List V), v = .ref O ∧ Same H7 H8 ∧ H7 O = none ∧ H8 O = some (.lst os) ∧ os.length = 7 ∧ ∀ o ∈ os, OddX K (hid H8 b) cs o) (fun Q' hQ => ?_) (fun v H8 hC => ?_)
        · refine ⟨_, rfl, c, _, _, .ref t0, rfl, rfl, SqL.of (hid_sub _ _ hc7), atI_nat (j := 0) (by rw [List.getElem?_map, ht0]; rfl), t0, _, _, .str x0.1, rfl, rfl, SqT.of (hid_sub _ _ htt0), rfl, ?_⟩
          have two : 2 ≤ sizeLine := by omega
          refine ⟨two, fun p1 h1 => ⟨two, fun p2 h2 => ⟨two, fun p3 h3 => ⟨two, fun p4 h4 => ⟨two, fun p5 h5 => ⟨by show 1 ≤ sizeLine; omega, fun p6 h6 => ⟨two, fun p7 h7 => ⟨by show 7 ≤ sizeLine; omega, fun O hO => ?_⟩⟩⟩⟩⟩⟩⟩⟩
          have g1 := Same.new (o := .tup [.str x0.1, .str ""]) h1
          have g2 := Same.new (o := .tup [.str "note", .str ""]) h2
          have g3 := Same.new (o := .tup [.str "q", .str "later"]) h3
          have g4 := Same.new (o := .tup [.str "q", .str "q"]) h4
          have g5 := Same.new (o := .lst [.str "q", .str ""]) h5
          have g6 := Same.new (o := .tup [.str "q"]) h6
          have g7 := Same.new (o := .tup [.str "q", .non]) h7
          have g8 := Same.new (o := .lst [.ref p1, .ref p2, .ref p3, .ref p4, .ref p5, .ref p6, .ref p7]) hO
          have s7 := g7.trans g8
          have s6 := g6.trans s7
          have s5 := g5.trans s6
          have s4 := g4.trans s5
          have s3 := g3.trans s4
          have s2 := g2.trans s3
          refine hQ _ _ ⟨O, _, rfl, g1.trans s2, (((((((g1.trans g2).trans g3).trans g4).trans g5).trans g6).trans g7)).free hO, upd_same, rfl, fun o ho => ?_⟩
          have hBe := box_same hB7 (g1.trans s2)
          simp only [List.mem_cons, List.not_mem_nil, or_false] at ho
          rcases ho with rfl | rfl | rfl | rfl | rfl | rfl | rfl
          · exact .inl ⟨p1, (x0.1, ""), rfl, sqt_own hBe (s2 _ _ upd_same), .inl ⟨x0, List.mem_of_getElem? hx0, rfl⟩⟩
          · exact .inl ⟨p2, ("note", ""), rfl, sqt_own hBe (s3 _ _ upd_same), .inr (.inl rfl)⟩
          · exact .inl ⟨p3, ("q", "later"), rfl, sqt_own hBe (s4 _ _ upd_same), .inr (.inr (.inl rfl))⟩
          · exact .inl ⟨p4, ("q", "q"), rfl, sqt_own hBe (s5 _ _ upd_same), .inr (.inr (.inr (.inl rfl)))⟩
          · exact .inr (.inl ⟨.list [.str "q", .str ""], .lst (SqL.of (hid_get (s6 _ _ upd_same) (box_fresh (box_same hB7 (((g1.trans g2).trans g3).trans g4)) h5))) (.cons (.str _) (.cons (.str _) .nil)), rfl⟩)
          · exact .inr (.inl ⟨.tuple [.str "q"], .tup (sqt_own hBe (s7 _ _ upd_same)) (.cons (.str _) .nil), rfl⟩)
          · exact .inr (.inr (.inr ⟨p7, "q", rfl, sqt_own hBe (g8 _ _ upd_same), by decide +kernel⟩))
        obtain ⟨O, os, rfl, s78, hOn, hO, hol, hos⟩ := hC
        try dsimp only [List.set]
        have hB8 := box_same hB7 s78
        have h78 := hid_ofsame (b := b) s78
        have hw8 := (dp_same h78 _ _ hw7)
        refine stepSet (fun v H9 => ∃ (O2 : Addr) (os2 : List V), v = .ref O2 ∧ Same H8 H9 ∧ H8 O2 = none ∧ H9 O2 = some (.lst os2) ∧ os2.length = 12 ∧ ∀ o ∈ os2, OddX K (hid H9 b) cs o) (fun Q' hQ => ?_) (fun v H9 hC => ?_)
        · refine ⟨_, rfl, by show 3 ≤ sizeLine; omega, fun p1 h1 => ⟨by show 2 ≤ sizeLine; omega, fun p2 h2 => ⟨_, rfl, by show 1 ≤ sizeLine; omega, fun p3 h3 => ⟨by show 2 ≤ sizeLine; omega, fun p4 h4 => ⟨by show 5 ≤ sizeLine; omega, fun m hm => ?_⟩⟩⟩⟩⟩
          have g1 := Same.new (o := .tup [.str "q", .str "", .str ""]) h1
          have g2 := Same.new (o := .tup [.non, .str ""]) h2
          have g3 := Same.new (o := .lst [w]) h3
          have g4 := Same.new (o := .tup [.str "Q", .str ""]) h4
          have g5 := Same.new (o := .lst [.ref p1, .ref p2, .ref p3, .str "q", .ref p4]) hm
          have g15 := (((g1.trans g2).trans g3).trans g4).trans g5
          refine ⟨O, m, _, _, rfl, rfl, g15 _ _ hO, upd_same, by rw [hol]; show 7 + 5 ≤ _; omega, fun O2 hO2 => ?_⟩
          have g6 := Same.new (o := .lst (os ++ [.ref p1, .ref p2, .ref p3, .str "q", .ref p4])) hO2
          refine hQ _ _ ⟨O2, _, rfl, g15.trans g6, g15.free hO2, upd_same, by rw [List.length_append, hol]; rfl, fun o ho => ?_⟩
          have s5 := g5.trans g6
          have s4 := g4.trans s5
          have s3 := g3.trans s4
          have s2 := g2.trans s3
          have hBe := box_same hB8 (g15.trans g6)
          rcases List.mem_append.mp ho with ho | ho
          · exact (hos o ho).same (hid_ofsame (g15.trans g6))
          simp only [List.mem_cons, List.not_mem_nil, or_false] at ho
          rcases ho with rfl | rfl | rfl | rfl | rfl
          · exact .inr (.inl ⟨.tuple [.str "q", .str "", .str ""], .tup (sqt_own hBe (s2 _ _ upd_same)) (.cons (.str _) (.cons (.str _) (.cons (.str _) .nil))), rfl⟩)
          · exact .inr (.inr (.inl ⟨p2, .str "", .str "", rfl, sqt_own hBe (s3 _ _ upd_same), .str _⟩))
          · exact .inr (.inl ⟨.list [dv], .lst (SqL.of (hid_get (s4 _ _ upd_same) (box_fresh (box_same hB8 (g1.trans g2)) h3))) (.cons (dp_same (hid_ofsame (g15.trans g6)) _ _ hw8) .nil), rfl⟩)
          · exact .inr (.inl ⟨.str "q", .str _, rfl⟩)
          · exact .inl ⟨p4, ("Q", ""), rfl, sqt_own hBe (s5 _ _ upd_same), .inr (.inr (.inr (.inr rfl)))⟩
        obtain ⟨O2, os2, rfl, s89, hO2n, hO2, hol2, hos2⟩ := hC
        try dsimp only [List.set]
        have hB9 := box_same hB8 s89
        have h79 : Same (hid H7 b) (hid H9 b) := h78.trans (hid_ofsame s89)
        -- one of them
        refine stepSet (fun v H10 => OddX K (hid H10 b) cs v ∧ Same (hid H9 b) (hid H10 b) ∧ BoxAt H10 b) (fun Q' hQ => ?_) (fun wr H10 hC => ?_)
        · refine ⟨_, rfl, _, rfl, b, O2, os2, rfl, hB9, SqL.of hO2, fun z => ?_, by omega, by omega, fun v H10 hv hB10 k10 _ => ?_⟩
          · exact box_fresh hB8 hO2n z
          · exact hQ _ _ ⟨(hos2 v hv).same (hid_kp k10), hid_kp k10, hB10⟩
        obtain ⟨hvx, h910, hB10⟩ := hC
        try dsimp only [List.set]
        have h710 := h79.trans h910
        have hc10 := h710 _ _ hc7
        have hcd10 := paired_mono (fun _ _ e => h710 _ _ e) hcd7
        have hw10 := dp_same h710 _ _ hw7
        have h510 := h57.trans h710
        have hD110 := h510 _ _ hD15
        have hps110 : PtsIn T.P (hid H10 b) as bk := hps15.same h510
        have hD10 := h510 _ _ hD5
        have hps10 : PtsIn T.P (hid H10 b) qs2 bk' := hps5.same h510
        have s10 := s05.trans h510
        clear h56 h67 h57 h78 h79 h910 h710 h510 hc7 hcd7 hw7 hD15 hps15 hD5 hps5 s05 hos hos2 hO hO2 hOn hO2n hB5 hB6 hB7 hB8 hB9 s56 s78 s89 hw8 hw5 hc5 hcd5 htt0
        refine stepSet (fun v H11 => ∃ M, v = .ref M ∧ Same H10 H11 ∧ H10 M = none ∧ H11 M = some (.lst ((ts.map V.ref).take n ++ (wr :: (ts.map V.ref).drop n)))) (fun Q' hQ => ?_) (fun v H11 hC => ?_)
        · refine ins_go (a := 6) (n := 10) (m := 12) (L := c) (xs := ts.map V.ref) (k := n) (x := wr) rfl rfl rfl (hid_sub _ _ hc10) (by rw [List.length_map]; omega) (by rw [List.length_map]; omega) (fun M G2 g2 hMn hM => ?_)
          exact hQ _ _ ⟨M, rfl, g2, hMn, hM⟩
        obtain ⟨M, rfl, s1011, hMn, hM⟩ := hC
        try dsimp only [List.set]
        have hB11 := box_same hB10 s1011
        have h1011 := hid_ofsame (b := b) s1011
        refine stepNo (fun H12 => Same (hid H11 b) (hid H12 b) ∧ BoxAt H12 b) (fun Q' hQ => ?_) (fun H12 hC => ?_)
        · refine ⟨_, rfl, _, rfl, _, _, "counters", rfl, more_due7 okB hn hM (((csIn_of hcd10).same hid_sub).same s1011) ((hvx.same hid_sub).same s1011) ⟨D2, qs2, rfl, .inl (SqL.of (s1011 _ _ (hid_sub _ _ hD10))), (hps10.same hid_sub).same s1011⟩ hcs bl' bl100 sm', fun G1 g1 => ⟨rfl, _, rfl, iteFD (by rw [decide_eq_true rfl]; rfl) ?_⟩⟩
          refine ⟨_, rfl, b, rfl, box_same hB11 g1, fun lv ld G2 hlp hld hB' hk => ?_⟩
          refine ⟨_, rfl, _, _, "counters", rfl, .inr (.inl ⟨.inl ⟨ld, pd_dp hlp, leaf_seq ld hld⟩, rfl⟩), fun G3 g3 => ⟨rfl, _, rfl, ?_⟩⟩
          rw [decide_eq_true rfl]
          exact hQ _ ⟨((hid_ofsame g1).trans (hid_kp hk)).trans (hid_ofsame g3), box_same hB' g3⟩
        obtain ⟨h1112, hB12⟩ := hC
        try dsimp only [List.set]
        -- a place among the parts
        refine stepSet (fun v H13 => ∃ n : Nat, v = .int (n : Int) ∧ n ≤ bk.length ∧ Same (hid H12 b) (hid H13 b) ∧ BoxAt H13 b) (fun Q' hQ => ?_) (fun v H13 hC => ?_)
        · refine ⟨_, rfl, _, rfl, D, _, rfl, .inl (SqL.of (hid_sub _ _ (h1112 _ _ (h1011 _ _ hD110)))), _, _, rfl, rfl, ?_⟩
          rw [List.length_map, hal]
          refine ⟨b, _, rfl, hB12, by omega, by omega, fun n1 H13 n0 nl hB13 k13 _ => ?_⟩
          exact hQ _ _ ⟨n1.toNat, by rw [Int.toNat_of_nonneg n0], by omega, hid_kp k13, hB13⟩
        obtain ⟨n2, rfl, hn2, h1213, hB13⟩ := hC
        try dsimp only [List.set]
        have h1013 := (h1011.trans h1112).trans h1213
        have hc13 := hid_sub _ _ (h1013 _ _ hc10)
        have hC13 : CsIn K H13 ts cs := ((csIn_of hcd10).same h1013).same hid_sub
        have hw13 := dp_same hid_sub _ _ (dp_same h1013 _ _ hw10)
        have hD13 := hid_sub _ _ (h1013 _ _ hD110)
        have hps13 : PtsIn T.P H13 as bk := (hps110.same h1013).same hid_sub
        have s13 := s10.trans h1013
        have bpos : 0 < bk.length := List.length_pos_iff.mpr okB.b0
        obtain ⟨p0, hp0⟩ : ∃ p0, bk[0]? = some p0 := ⟨bk[0], List.getElem?_eq_getElem bpos⟩
        obtain ⟨a0, ha0, hat0⟩ := paired_at' hps13 hp0
        clear h1011 h1112 h1213 h1013 hB10 hB11 hB12 s1011 hMn hM hvx hc10 hcd10 hw10 hD110 hps110 hD10 hps10 s10
        have two : 1 ≤ sizeLine := by omega
        refine ⟨Nat.zero_le _, fun l0 hl0 => ?_⟩
        refine ⟨Nat.zero_le _, fun t0 ht0 => ?_⟩
        have g1 := Same.new (o := .lst []) hl0
        have g2 := Same.new (o := .tup []) ht0
        have e1 : upd (upd H13 l0 (.lst [])) t0 (.tup []) l0 = some (.lst (([] : List Addr).map V.ref)) := g2 _ _ upd_same
        have e2 : upd (upd H13 l0 (.lst [])) t0 (.tup []) t0 = some (.tup (([] : List Addr).map V.ref)) := upd_same
        have s2 := g1.trans g2
        generalize upd (upd H13 l0 (.lst [])) t0 (.tup []) = G2 at e1 e2 s2 ⊢
        refine ⟨_, rfl, D, _, _, .ref a0, rfl, rfl, SqL.of (s2 _ _ hD13), atI_nat (j := 0) (by rw [List.getElem?_map, ha0]; rfl), ?_⟩
        refine ⟨_, rfl, _, rfl, D, _, _, .ref a0, rfl, rfl, SqL.of (s2 _ _ hD13), atI_nat (j := 0) (by rw [List.getElem?_map, ha0]; rfl), two, fun m3 hm3 => ?_⟩
        have g3 := Same.new (o := .lst [.ref a0]) hm3
        have e3 : upd G2 m3 (.lst [.ref a0]) m3 = some (.lst [.ref a0]) := upd_same
        have s3 := s2.trans g3
        have e13 := g3 _ _ e1
        have e23 := g3 _ _ e2
        generalize upd G2 m3 (.lst [.ref a0]) = G3 at e3 s3 e13 e23 ⊢
        refine ⟨D, m3, _, _, rfl, rfl, s3 _ _ hD13, e3, by rw [List.length_map]; show _ + 1 ≤ _; omega, fun m4 hm4 => ?_⟩
        have g4 := Same.new (o := .lst (as.map V.ref ++ [.ref a0])) hm4
        have e4 : upd G3 m4 (.lst (as.map V.ref ++ [.ref a0])) m4 = some (.lst ((as ++ [a0]).map V.ref)) := by rw [upd_same, List.map_append]; rfl
        have s4 := s3.trans g4
        have e14 := g4 _ _ e13
        have e24 := g4 _ _ e23
        generalize upd G3 m4 (.lst (as.map V.ref ++ [.ref a0])) = G4 at e4 s4 e14 e24 ⊢
        refine ins_go (a := 5) (n := 14) (m := 7) (L := D) (xs := as.map V.ref) (k := n2) (x := w) rfl rfl rfl (s4 _ _ hD13) (by rw [List.length_map]; omega) (by rw [List.length_map]; omega) (fun M5 G5 g5 _ hM5 => ?_)
        refine ⟨by show 7 ≤ sizeLine; omega, fun tp htp => ?_⟩
        have g6 := Same.new (o := .tup [.ref l0, .ref t0, .non, .str "part a", .ref a0, .ref m4, .ref M5]) htp
        have e6 : upd G5 tp (.tup [.ref l0, .ref t0, .non, .str "part a", .ref a0, .ref m4, .ref M5]) tp = some (.tup [.ref l0, .ref t0, .non, .str "part a", .ref a0, .ref m4, .ref M5]) := upd_same
        have g56 := g5.trans g6
        have s6 := s4.trans g56
        have e16 := g56 _ _ e14
        have e26 := g56 _ _ e24
        have e46 := g56 _ _ e4
        have hM6 := g6 _ _ hM5
        generalize upd G5 tp (.tup [.ref l0, .ref t0, .non, .str "part a", .ref a0, .ref m4, .ref M5]) = G6 at e6 s6 e16 e26 e46 hM6 ⊢
        have hc16 := s6 _ _ hc13
        have hC6 := hC13.same s6
        have hD6 := s6 _ _ hD13
        have hps6 : PtsIn T.P G6 as bk := hps13.same s6
        have hw6 := dp_same s6 _ _ hw13
        have hat6 := hat0.same s6
        have hB16 := box_same hB13 s6
        have s016 : Same Hc (hid G6 b) := s13.trans (hid_ofsame s6)
        have ca : CsArg K G6 (.ref c) cs := ⟨c, ts, rfl, .inl (SqL.of hc16), hC6⟩
        have gd := good_at okV.c
        have nil7 : ∀ (p : Addr), Sq K G6 p (([] : List Addr).map V.ref) → Due7 T.P G6 (.ref c) (.ref p) "parts" := fun p hp => .inl ⟨c, ts, cs, [], rfl, .inl (SqL.of hc16), hC6, ⟨p, [], rfl, hp, .nil⟩, hcl100, hcs, by decide, (fun _ h => nomatch h), (fun z rs h => nomatch h), parts_due okV.c fun z => z.1 rfl⟩
        have odd7 : ∀ v, OddPs T.P G6 v → Due7 T.P G6 (.ref c) v "parts" := fun v h => .inr (.inr ⟨cs, ca, hcl100, hcs, gd, h, rfl⟩)
        have due7 : ∀ v ∈ [V.ref l0, .ref t0, .non, .str "part a", .ref a0, .ref m4, .ref M5], Due7 T.P G6 (.ref c) v "parts" := fun v hv => by
          simp only [List.mem_cons, List.not_mem_nil, or_false] at hv
          rcases hv with rfl | rfl | rfl | rfl | rfl | rfl | rfl
          · exact nil7 _ (.inl (SqL.of e16))
          · exact nil7 _ (.inr (SqT.of e26))
          · exact odd7 _ (.inl ⟨.none, .non, rfl⟩)
          · exact odd7 _ (.inl ⟨.str "part a", .str _, rfl⟩)
          · exact odd7 _ (.inr (.inl ⟨a0, _, _, rfl, hat6⟩))
          · refine .inl ⟨c, ts, cs, bk ++ [p0], rfl, .inl (SqL.of hc16), hC6, ⟨m4, as ++ [a0], rfl, .inl (SqL.of e46), paired_app (R := fun a (q : PartD) => PtAt T.P G6 a q.1 q.2) hps6 (.cons hat6 .nil)⟩, hcl100, hcs, by rw [List.length_append]; show _ + 1 ≤ _; omega, fun p hp => ?_, knowns_few (by rw [List.length_append]; show _ + 1 ≤ _; omega) fun p hp => ?_, parts_due okV.c fun z => ?_⟩
            · rcases List.mem_append.mp hp with hp | hp
              · exact hpl100 p hp
              · rw [List.mem_singleton.mp hp]
                exact hpl100 p0 (List.mem_of_getElem? hp0)
            · have : p.2.length ≤ 6 := by
                rcases List.mem_append.mp hp with hp | hp
                · exact hb6 p hp
                · rw [List.mem_singleton.mp hp]
                  exact hb6 p0 (List.mem_of_getElem? hp0)
              omega
            · have nd := z.2
              rw [List.map_append] at nd
              exact (List.nodup_append.mp nd).2.2 p0.1 (List.mem_map.mpr ⟨p0, List.mem_of_getElem? hp0, rfl⟩) p0.1 List.mem_cons_self rfl
          · refine odd7 _ (.inr (.inr ⟨M5, _, ((bk.map fun _ => true).take n2 ++ false :: (bk.map fun _ => true).drop n2), rfl, SqL.of hM6, ?_, ?_, ?_⟩))
            · have pf : Paired (PartFlag T.P G6) (as.map V.ref) (bk.map fun _ => true) := by
                have key : ∀ {as : List Addr} {bk : List PartD}, PtsIn T.P G6 as bk → Paired (PartFlag T.P G6) (as.map V.ref) (bk.map fun _ => true) := by
                  intro as bk h
                  induction h with
                  | nil => exact .nil
                  | cons a _ ih => exact .cons (.inl ⟨rfl, _, _, _, rfl, a⟩) ih
                exact key hps6
              exact paired_app (paired_take n2 pf) (.cons (.inr ⟨rfl, dv, hw6⟩) (paired_drop n2 pf))
            · simp
            · rw [List.length_append, List.length_cons, List.length_take, List.length_drop, List.length_map]
              omega
        refine ⟨tp, rfl, ⟨_, SqT.of e6⟩, for_tup (xs := [V.ref l0, .ref t0, .non, .str "part a", .ref a0, .ref m4, .ref M5]) (fun i' σ Hi => ∃ x15, σ = [some (.ref a), some (.int (0 + (i : Int))), some (.ref b), some (.int (0 + (j : Int))), some (.ref t), some (.ref D), some (.ref c), some w, some (.ref D2), some (.str wd), some (.int (n : Int)), some (.ref O2), some wr, some (.ref M), some (.int (n2 : Int)), x15, x16, x17, x18] ∧ Same G6 Hi) ⟨_, rfl, Same.refl _⟩ (fun i' σ Hi _ hP => ?fkeep) (fun i' x σ Hi hx hP => ?fturn) (fun σ Hi hP => ?fdone)⟩
        case fkeep =>
          obtain ⟨_, _, si⟩ := hP
          exact SqT.of (si _ _ e6)
        case fdone =>
          obtain ⟨_, rfl, si⟩ := hP
          exact ⟨_, _, _, _, _, _, _, _, _, _, _, _, _, _, _, _, rfl, s016.trans (hid_ofsame si), box_same hB16 si⟩
        case fturn =>
          obtain ⟨_, rfl, si⟩ := hP
          refine stepEndB (fun Hz => Same Hi Hz) (fun Q' hQ => ?_) (fun Hz sz => ?_)
          · refine ⟨_, rfl, _, rfl, _, _, "parts", rfl, (due7 x (List.mem_of_getElem? hx)).same si, fun G1 g1 => ⟨rfl, _, rfl, ?_⟩⟩
            rw [decide_eq_true rfl]
            exact hQ _ g1
          · exact ⟨_, rfl, si.trans sz⟩
end
end Pn

namespace Pn
open PySem PySem.Spec PyProof.Rows L2
/-! ### what the top leaves: asked in one run -/
/-- a def that is asked for: where it lies, its names, its statement, its defaults -/
structure DefQ where
  loc : PySem.W.Frag → Addr
  nm : Str
  ql : Str
  st : Stmt
  dv : List He.Dv := []
abbrev FnQ : Type := Option (Str × Str × Addr × Addr × Arguments × FuncBody × Scope × List (Str × Addr))
def fnSeen (K : PySem.W.Frag) (a : Addr) : FnQ := match K.lookup a with
  | some ⟨_, _, .func q, _⟩ => some (q.qualname, q.name, q.builtins, q.globals, q.params, q.body, q.scope, q.closure)
  | _ => none
def DefQ.is (d : DefQ) : FnQ := some (d.ql, d.nm, builtinsNs, mainGlobals, defArgs d.st, .stmts (defBody d.st), defScope d.st, [])
def DefQ.vals (d : DefQ) (K : PySem.W.Frag) : List V := d.dv.map (He.Dv.v K)
def DefQ.good (K : PySem.W.Frag) (d : DefQ) : Bool := match K.lookup (d.loc K) with
  | some ⟨_, _, .func q, _⟩ => PySem.W.keepIn K (.ref (d.loc K)) && (PySem.W.codeIn K q.code d.ql && He.dflB K q.defaults (d.vals K))
  | _ => false
theorem DefQ.funD {K : PySem.W.Frag} {d : DefQ} (e : fnSeen K (d.loc K) = d.is) (c : d.good K = true) : ∃ fd, FunD K d.nm d.ql (defArgs d.st) (defBody d.st) (defScope d.st) (d.vals K) [] (d.loc K) fd := by
  unfold DefQ.good at c
  unfold fnSeen at e
  cases hl : K.lookup (d.loc K) with
  | none => rw [hl] at c; cases c
  | some o =>
    obtain ⟨oc, od, dat, sl⟩ := o
    rw [hl] at c e
    cases dat with
    | func q =>
      obtain ⟨a1, a2, a3, a4, a5, a6, a7, a8, a9, b1, b2, b3, b4, b5, b6⟩ := q
      have e2 : (some (a2, a1, b6, a6, a3, a4, a5, a7) : FnQ) = some (d.ql, d.nm, builtinsNs, mainGlobals, defArgs d.st, .stmts (defBody d.st), defScope d.st, []) := e
      injection e2 with e2
      obtain ⟨rfl, rfl, rfl, rfl, rfl, rfl, rfl, rfl⟩ : a2 = d.ql ∧ a1 = d.nm ∧ b6 = builtinsNs ∧ a6 = mainGlobals ∧ a3 = defArgs d.st ∧ a4 = .stmts (defBody d.st) ∧ a5 = defScope d.st ∧ a7 = [] := by simpa using e2
      have c2 : (PySem.W.keepIn K (.ref (d.loc K)) && (PySem.W.codeIn K b4 d.ql && He.dflB K a8 (d.vals K))) = true := c
      rw [Bool.and_eq_true, Bool.and_eq_true] at c2
      exact ⟨_, ⟨oc, od, a8, a9, b1, b2, b3, b4, b5, sl, rfl, hl, c2.2.1, He.dflB_ok c2.2.2, .inl rfl⟩, c2.1⟩
    | _ => cases c
theorem fun_of {K : PySem.W.Frag} {x ql : Str} {st : Stmt} {f : Addr} {fd : FuncData} (F : FunD K x ql (defArgs st) (defBody st) (defScope st) [] [] f fd) : Fun K x ql st f fd := by
  obtain ⟨⟨oc, od, dV, kV, doc, pm, an, cdv, ct, sl, e, hl, hc, hd, _⟩, hk⟩ := F
  rcases hd with ⟨_, rfl⟩ | ⟨h, _⟩
  · exact ⟨⟨oc, od, kV, doc, pm, an, cdv, ct, sl, e, hl, hc⟩, hk⟩
  · exact absurd rfl h
abbrev Ask : Type := PySem.W.Frag → Bool
def askQ (fn : List DefQ) (ex : List (List Ask)) (K : PySem.W.Frag) : Bool × List FnQ := ((fn.all fun d => d.good K) && ex.all fun l => l.all fun f => f K, fn.map fun d => fnSeen K (d.loc K))
def toldQ (fn : List DefQ) : Bool × List FnQ := (true, fn.map DefQ.is)
/-- what an object leads to: a def's code and defaults, a class's own names, what a tuple or a dict holds -/
def leadsQ (o : Obj) : List Addr := match o.data with
  | .func q => He.refV q.code ++ He.refV q.defaults
  | .cls q => [q.ns]
  | .dict es _ => es.toList.flatMap fun z => He.refV z.val
  | .seq us _ => us.toList.flatMap He.refV
  | .fields us => us.toList.flatMap He.refV
  | _ => []
def levQ (g : Addr → Option Obj) : Nat → List Addr → List Addr
  | 0, as => as
  | n + 1, as => as ++ levQ g n (as.flatMap fun a => match g a with
    | some o => leadsQ o
    | none => [])
/-- the part of the heap that is looked at -/
def partQ (n : Nat) (g : Addr → Option Obj) : PySem.W.Frag := He.frG g (cStatics :: levQ g n [mainGlobals])
def hookQ (n : Nat) (fn : List DefQ) (ex : List (List Ask)) : PySem.W.Hook where
  α := Bool × List FnQ
  obs := fun s => askQ fn ex (partQ n s.heap.get?)
  val := fun _ => toldQ fn
  says := fun _ h => ∃ K : PySem.W.Frag, K.In h ∧ askQ fn ex K = toldQ fn
  of := fun _ _ e => ⟨_, He.frG_in, e⟩
  keeps := fun _ _ _ h k => by
    obtain ⟨K, hK, c⟩ := h
    exact ⟨K, PySem.W.Frag.In.keeps hK k, c⟩
def seenQ (n : Nat) (fn : List DefQ) (ex : List (List Ask)) (s : PySem.W.SharedT) : Bool × List FnQ := askQ fn ex (partQ n (HandSHeadRun.getT s))
theorem seenQ_eq (n : Nat) (fn : List DefQ) (ex : List (List Ask)) (s : PySem.W.SharedT) : seenQ n fn ex s = (hookQ n fn ex).obs s.abs := by
  have e : HandSHeadRun.getT s = s.abs.heap.get? := funext (HandSHeadRun.getT_eq s)
  unfold seenQ
  rw [e]
  rfl
section
variable {fn : List DefQ} {ex : List (List Ask)} {K : PySem.W.Frag}
theorem told_at (c : askQ fn ex K = toldQ fn) (i j : Nat) {l : List Ask} {f : Ask} (hl : ex[i]? = some l := by rfl) (hf : l[j]? = some f := by rfl) : f K = true := by
  have h := congrArg (fun z : Bool × List FnQ => z.1) c
  have h2 : ((fn.all fun d => d.good K) && ex.all fun l => l.all fun f => f K) = true := h
  rw [Bool.and_eq_true, List.all_eq_true, List.all_eq_true] at h2
  exact List.all_eq_true.mp (h2.2 l (List.mem_of_getElem? hl)) f (List.mem_of_getElem? hf)
theorem told_fn (c : askQ fn ex K = toldQ fn) (i : Nat) {d : DefQ} (hd : fn[i]? = some d := by rfl) : ∃ fd, FunD K d.nm d.ql (defArgs d.st) (defBody d.st) (defScope d.st) (d.vals K) [] (d.loc K) fd := by
  have h := congrArg (fun z : Bool × List FnQ => z.1) c
  have h2 : ((fn.all fun d => d.good K) && ex.all fun l => l.all fun f => f K) = true := h
  rw [Bool.and_eq_true, List.all_eq_true] at h2
  have h3 : fn.map (fun d => fnSeen K (d.loc K)) = fn.map DefQ.is := congrArg (fun z : Bool × List FnQ => z.2) c
  have h4 := congrArg (fun l : List FnQ => l[i]?) h3
  simp only [List.getElem?_map, hd, Option.map_some] at h4
  exact DefQ.funD (Option.some.inj h4) (h2.1 d (List.mem_of_getElem? hd))
end
/-- an own exception class -/
def excQ (K : PySem.W.Frag) (C : Addr) (nid : String) : Bool := match K.lookup C with
  | some ⟨.type t, _, .cls cd, sl⟩ => decide (t = "type") && (cd.hasDict && (!cd.hasDel && ((match cd.mro with
    | .ref D :: bm => decide (D = C) && PySem.HandSPX.refsVE bm
    | _ => false) && (match sl.toList with
    | [_, _, _, _, some (.builtin n), _] => decide (n = nid)
    | _ => false))))
  | _ => false
theorem excQ_ok {K : PySem.W.Frag} {C : Addr} {nid : String} (h : excQ K C nid = true) : ∃ nm q N bs bm sn sub ab col dd k0 k1 k2 k3 k5, K.lookup C = some (excClassObj nm q C N bs bm true sn sub ab col dd k0 k1 k2 k3 k5 nid) ∧ PySem.HandSPX.refsVE bm = true := by
  unfold excQ at h
  split at h
  · rename_i t dd cd sl hl
    rw [Bool.and_eq_true, Bool.and_eq_true, Bool.and_eq_true, Bool.and_eq_true] at h
    obtain ⟨h1, h2, h3, h4, h5⟩ := h
    split at h4
    · rename_i D bm hm
      split at h5
      · rename_i k0 k1 k2 k3 n k5 hs
        rw [Bool.and_eq_true] at h4
        obtain ⟨h6, h7⟩ := h4
        have e1 := of_decide_eq_true h1
        have e2 := of_decide_eq_true h6
        have e3 := of_decide_eq_true h5
        obtain ⟨nm, bs, mro, ns, qn, hd, sn, sub, ab, col, del⟩ := cd
        simp only at hm h2 h3
        have e4 : del = false := by simpa using h3
        have e5 : sl = #[k0, k1, k2, k3, some (.builtin n), k5] := by
          obtain ⟨l⟩ := sl
          simp only at hs
          rw [hs]
        subst e1 e2 e3 e4 e5 h2 hm
        exact ⟨nm, qn, ns, bs, bm, sn, sub, ab, col, dd, k0, k1, k2, k3, k5, hl, h7⟩
      · cases h5
    · cases h4
  · cases h
/-- a tuple of the written part -/
def tupQ (K : PySem.W.Frag) (a : Addr) (vs : List He.Dv) : Bool := match K.lookup a with
  | some ⟨.type t, _, .seq its _, _⟩ => decide (t = "tuple") && (decide (its.size ≤ sizeLine) && He.relAll (vs.map (He.Dv.v K)) its.toList)
  | _ => false
theorem tupQ_ok {K : PySem.W.Frag} {a : Addr} {vs : List He.Dv} (h : tupQ K a vs = true) (H : Hp) : SqT K H a (vs.map (He.Dv.v K)) := by
  unfold tupQ at h
  split at h
  · rename_i t d its n sl hl
    rw [Bool.and_eq_true, Bool.and_eq_true] at h
    have e := of_decide_eq_true h.1
    subst e
    exact .inr ⟨_, its, n, hl, rfl, rfl, of_decide_eq_true h.2.1, He.relAll_ok h.2.2⟩
  · cases h
/-- the getter of a property -/
def getterQ (K : PySem.W.Frag) (p : Addr) : Addr := match PySem.W.recIn K p "property" with
  | some (.ref g :: _) => g
  | _ => 0
def propQ (K : PySem.W.Frag) (C : Addr) (nm : Str) : Bool := decide (PySem.W.findIn K (.ref C) nm = some (some (.ref (He.ma K C nm)))) && (decide (PySem.W.specialIn K (.ref (He.ma K C nm)) "__get__" = some (some (.builtin "property.__get__"))) && (decide (PySem.W.takesIn K (.ref (He.ma K C nm)) = some true) &&
  (match PySem.W.recIn K (He.ma K C nm) "property" with
  | some (.ref _ :: _) => true
  | _ => false)))
theorem propQ_ok {K : PySem.W.Frag} {C : Addr} {nm : Str} (h : propQ K C nm = true) : PropOf K C nm (He.ma K C nm) (getterQ K (He.ma K C nm)) := by
  unfold propQ at h
  rw [Bool.and_eq_true, Bool.and_eq_true, Bool.and_eq_true] at h
  obtain ⟨h1, h2, h3, h4⟩ := h
  refine ⟨of_decide_eq_true h1, of_decide_eq_true h2, of_decide_eq_true h3, ?_⟩
  unfold getterQ
  split at h4
  · rename_i g r hr
    exact ⟨r, by rw [hr]⟩
  · cases h4
end Pn

namespace Pn
open PySem PySem.Spec PyProof.Rows L2
def fnQ0 : List DefQ := [
  { loc := fun K => (He.ga K "is_integer"), nm := "is_integer", ql := "is_integer", st := sIsInteger, dv := [] },
  { loc := fun K => (He.ga K "is_number"), nm := "is_number", ql := "is_number", st := sIsNumber, dv := [] },
  { loc := fun K => (He.ga K "is_name"), nm := "is_name", ql := "is_name", st := sIsName, dv := [] },
  { loc := fun K => (He.ma K (He.ga K "InvalidRow") "__init__"), nm := "__init__", ql := "InvalidRow.__init__", st := sIRInit, dv := [] },
  { loc := fun K => (He.ga K "need_name"), nm := "need_name", ql := "need_name", st := sNeedName, dv := [] },
  { loc := fun K => (He.ma K (He.ga K "Note") "__init__"), nm := "__init__", ql := "Note.__init__", st := sNoteInit, dv := [.str ""] },
  { loc := fun K => (He.ma K (He.ga K "Note") "__str__"), nm := "__str__", ql := "Note.__str__", st := sNoteStr, dv := [] },
  { loc := fun K => (He.ma K (He.ga K "Skip") "__init__"), nm := "__init__", ql := "Skip.__init__", st := sSkipInit, dv := [] },
  { loc := fun K => (He.ma K (He.ga K "Skip") "__str__"), nm := "__str__", ql := "Skip.__str__", st := sSkipStr, dv := [] },
  { loc := fun K => (He.ma K (He.ga K "Set") "__init__"), nm := "__init__", ql := "Set.__init__", st := sSetInit, dv := [] },
  { loc := fun K => (He.ma K (He.ga K "Set") "__str__"), nm := "__str__", ql := "Set.__str__", st := sSetStr, dv := [] },
  { loc := fun K => (He.ma K (He.ga K "Keep") "__init__"), nm := "__init__", ql := "Keep.__init__", st := sKeepInit, dv := [] }]
def fnQ1 : List DefQ := [
  { loc := fun K => (He.ma K (He.ga K "Keep") "__str__"), nm := "__str__", ql := "Keep.__str__", st := sKeepStr, dv := [] },
  { loc := fun K => (He.ma K (He.ga K "Back") "__init__"), nm := "__init__", ql := "Back.__init__", st := sBackInit, dv := [] },
  { loc := fun K => (He.ma K (He.ga K "Back") "__str__"), nm := "__str__", ql := "Back.__str__", st := sBackStr, dv := [] },
  { loc := fun K => (He.ma K (He.ga K "Ref") "__init__"), nm := "__init__", ql := "Ref.__init__", st := sRefInit, dv := [] },
  { loc := fun K => (He.ma K (He.ga K "Ref") "__str__"), nm := "__str__", ql := "Ref.__str__", st := sRefStr, dv := [] },
  { loc := fun K => (He.ma K (He.ga K "Put") "__init__"), nm := "__init__", ql := "Put.__init__", st := sPutInit, dv := [] },
  { loc := fun K => (He.ma K (He.ga K "Put") "__str__"), nm := "__str__", ql := "Put.__str__", st := sPutStr, dv := [] },
  { loc := fun K => (He.ma K (He.ga K "Open") "__init__"), nm := "__init__", ql := "Open.__init__", st := sOpenInit, dv := [] },
  { loc := fun K => (He.ma K (He.ga K "Open") "__str__"), nm := "__str__", ql := "Open.__str__", st := sOpenStr, dv := [] },
  { loc := fun K => (He.ga K "is_sequence"), nm := "is_sequence", ql := "is_sequence", st := sIsSeq, dv := [] },
  { loc := fun K => (He.ma K (He.ga K "InvalidPart") "__init__"), nm := "__init__", ql := "InvalidPart.__init__", st := sIPInit, dv := [] },
  { loc := fun K => (He.ma K (He.ga K "Part") "__init__"), nm := "__init__", ql := "Part.__init__", st := sPartInit, dv := [.adr (He.dflAt ("Part", some "__init__") 0)] }]
def fnQ2 : List DefQ := [
  { loc := fun K => (He.ma K (He.ga K "Part") "__str__"), nm := "__str__", ql := "Part.__str__", st := sPartStr, dv := [] },
  { loc := fun K => (He.ma K (He.ga K "Part") "__eq__"), nm := "__eq__", ql := "Part.__eq__", st := sPartEq, dv := [] },
  { loc := fun K => (He.ga K "is_pair"), nm := "is_pair", ql := "is_pair", st := sIsPair, dv := [] },
  { loc := fun K => (He.ga K "are_counters"), nm := "are_counters", ql := "are_counters", st := sAreC, dv := [] },
  { loc := fun K => (He.ga K "are_parts"), nm := "are_parts", ql := "are_parts", st := sAreP, dv := [] },
  { loc := fun K => (He.ga K "counters_are_known"), nm := "counters_are_known", ql := "counters_are_known", st := sCKnown, dv := [] },
  { loc := fun K => (He.ga K "names_put"), nm := "names_put", ql := "names_put", st := sNPut, dv := [] },
  { loc := fun K => (He.ga K "puts_are_earlier"), nm := "puts_are_earlier", ql := "puts_are_earlier", st := sPEarly, dv := [] },
  { loc := fun K => (He.ga K "names_reached"), nm := "names_reached", ql := "names_reached", st := sNReach, dv := [] },
  { loc := fun K => (He.ga K "unroll"), nm := "unroll", ql := "unroll", st := sUnr1, dv := [] },
  { loc := fun K => (He.ga K "unrolled_text"), nm := "unrolled_text", ql := "unrolled_text", st := sUText, dv := [] },
  { loc := fun K => (He.ga K "refs_are_known"), nm := "refs_are_known", ql := "refs_are_known", st := sRefsK, dv := [] }]
def fnQ3 : List DefQ := [
  { loc := fun K => (He.ma K (He.ga K "Book") "__init__"), nm := "__init__", ql := "Book.__init__", st := sBInit, dv := [] },
  { loc := fun K => (getterQ K (He.ma K (He.ga K "Book") "names")), nm := "names", ql := "Book.names", st := sBNames, dv := [] },
  { loc := fun K => (getterQ K (He.ma K (He.ga K "Book") "tops")), nm := "tops", ql := "Book.tops", st := sBTops, dv := [] },
  { loc := fun K => (getterQ K (He.ma K (He.ga K "Book") "unrolled")), nm := "unrolled", ql := "Book.unrolled", st := sBUnr, dv := [] },
  { loc := fun K => (He.ma K (He.ga K "Book") "chain"), nm := "chain", ql := "Book.chain", st := sBChain, dv := [] },
  { loc := fun K => (He.ma K (He.ga K "InvalidBook") "__init__"), nm := "__init__", ql := "InvalidBook.__init__", st := sIBInit, dv := [] },
  { loc := fun K => (He.ga K "_law_seed"), nm := "_law_seed", ql := "_law_seed", st := sSeed, dv := [] },
  { loc := fun K => (He.ga K "_law_choose"), nm := "_law_choose", ql := "_law_choose", st := sChoose, dv := [] },
  { loc := fun K => (He.ga K "_law_one_of"), nm := "_law_one_of", ql := "_law_one_of", st := sOne, dv := [] },
  { loc := fun K => (He.ga K "_law_pools"), nm := "_law_pools", ql := "_law_pools", st := sPools, dv := [] },
  { loc := fun K => (He.ga K "_law_counters"), nm := "_law_counters", ql := "_law_counters", st := sCounters, dv := [] },
  { loc := fun K => (He.ga K "_law_row"), nm := "_law_row", ql := "_law_row", st := sLRow, dv := [] }]
def fnQ4 : List DefQ := [
  { loc := fun K => (He.ga K "_law_unrolled"), nm := "_law_unrolled", ql := "_law_unrolled", st := sUnrolled, dv := [] },
  { loc := fun K => (He.ga K "_law_book"), nm := "_law_book", ql := "_law_book", st := sBook, dv := [] },
  { loc := fun K => (He.ga K "_law_made_row"), nm := "_law_made_row", ql := "_law_made_row", st := sMadeRow, dv := [] },
  { loc := fun K => (He.ga K "_law_leaf"), nm := "_law_leaf", ql := "_law_leaf", st := sLeaf, dv := [] },
  { loc := fun K => (He.ga K "_law_any"), nm := "_law_any", ql := "_law_any", st := sAny, dv := [] },
  { loc := fun K => (He.ga K "_law_heard"), nm := "_law_heard", ql := "_law_heard", st := sHeard7, dv := [] },
  { loc := fun K => (He.ga K "_law_bent"), nm := "_law_bent", ql := "_law_bent", st := sBent, dv := [] },
  { loc := fun K => (He.ga K "law"), nm := "law", ql := "law", st := sLaw7, dv := [] }]
def fnQ : List DefQ := fnQ0 ++ fnQ1 ++ fnQ2 ++ fnQ3 ++ fnQ4
def exQ0 : List Ask := [
  fun K => decide (PySem.W.nsIn K mainGlobals "int" = some none),
  fun K => decide (PySem.W.nsIn K mainGlobals "bool" = some none),
  fun K => decide (PySem.W.nsIn K mainGlobals "str" = some none),
  fun K => decide (PySem.W.nsIn K mainGlobals "isinstance" = some none),
  fun K => decide (PySem.W.nsIn K mainGlobals "len" = some none),
  fun K => decide (PySem.W.nsIn K mainGlobals "all" = some none),
  fun K => decide (PySem.W.nsIn K mainGlobals "abs" = some none),
  fun K => decide (PySem.W.nsIn K mainGlobals "range" = some none),
  fun K => decide (PySem.W.nsIn K mainGlobals "list" = some none),
  fun K => decide (PySem.W.nsIn K mainGlobals "tuple" = some none)]
def exQ1 : List Ask := [
  fun K => decide (PySem.W.nsIn K mainGlobals "max" = some none),
  fun K => decide (PySem.W.nsIn K mainGlobals "min" = some none),
  fun K => decide (PySem.W.nsIn K mainGlobals "set" = some none),
  fun K => decide (PySem.W.nsIn K mainGlobals "reversed" = some none),
  fun K => decide (PySem.W.nsIn K mainGlobals "sorted" = some none),
  fun K => decide (PySem.W.nsIn K mainGlobals "dict" = some none),
  fun K => decide (PySem.W.nsIn K mainGlobals "enumerate" = some none),
  fun K => decide (PySem.W.nsIn K mainGlobals "NoteError" = some (some (.ref (He.ga K "NoteError")))),
  fun K => decide (PySem.W.nsIn K mainGlobals "ROW_WORDS" = some (some (.ref (He.ga K "ROW_WORDS")))),
  fun K => He.tupB K "ROW_WORDS" [.str "note", .str "skip", .str "set", .str "keep", .str "back", .str "ref", .str "put", .str "open", .str "part"]]
def exQ2 : List Ask := [
  fun K => (He.Fa.int "LONGEST_NAME" 4).ok K,
  fun K => decide (PySem.W.nsIn K mainGlobals "is_integer" = some (some (.ref (He.ga K "is_integer")))),
  fun K => decide (PySem.W.nsIn K mainGlobals "is_number" = some (some (.ref (He.ga K "is_number")))),
  fun K => decide (PySem.W.nsIn K mainGlobals "is_name" = some (some (.ref (He.ga K "is_name")))),
  fun K => decide (PySem.W.nsIn K mainGlobals "InvalidRow" = some (some (.ref (He.ga K "InvalidRow")))),
  fun K => excQ K (He.ga K "InvalidRow") "ValueError.__new__",
  fun K => decide (PySem.W.findIn K (.ref (He.ga K "InvalidRow")) "__setattr__" = some (some (.builtin "object.__setattr__"))),
  fun K => decide (PySem.W.findIn K (.ref (He.ga K "InvalidRow")) "__getattribute__" = some (some (.builtin "BaseException.__getattribute__"))),
  fun K => decide (PySem.W.findIn K (.ref (He.ga K "InvalidRow")) "__getattr__" = some (none)),
  fun K => decide (PySem.W.findIn K (.ref (He.ga K "InvalidRow")) "word" = some (none))]
def exQ3 : List Ask := [
  fun K => decide (PySem.W.findIn K (.ref (He.ga K "InvalidRow")) "__init__" = some (some (.ref (He.ma K (He.ga K "InvalidRow") "__init__")))),
  fun K => decide (PySem.W.findIn K (.ref (He.ga K "InvalidRow")) "__class__" = some (some (.builtin "object.__class__"))),
  fun K => decide (PySem.W.typeIn K (.ref (He.ma K (He.ga K "InvalidRow") "__init__")) = some (.type "function")),
  fun K => PySem.W.keepIn K (.ref (He.ga K "InvalidRow")),
  fun K => decide (PySem.W.subIn K (.ref (He.ga K "InvalidRow")) (.type "BaseException") = some true),
  fun K => decide (PySem.W.typeIn K (.ref (He.ga K "InvalidRow")) = some (.type "type")),
  fun K => PySem.W.hasDictIn K (He.ga K "InvalidRow"),
  fun K => PySem.W.isClsIn K (He.ga K "InvalidRow"),
  fun K => decide (PySem.W.subIn K (.ref (He.ga K "InvalidRow")) (.ref (He.ga K "InvalidRow")) = some true),
  fun K => decide (PySem.W.mroIn K (He.ga K "InvalidRow") (.type "object") = some true)]
def exQ4 : List Ask := [
  fun K => decide (PySem.W.nsIn K mainGlobals "need_name" = some (some (.ref (He.ga K "need_name")))),
  fun K => decide (PySem.W.nsIn K mainGlobals "Note" = some (some (.ref (He.ga K "Note")))),
  fun K => decide (PySem.W.findIn K (.ref (He.ga K "Note")) "__init__" = some (some (.ref (He.ma K (He.ga K "Note") "__init__")))),
  fun K => PySem.W.isFn K (.ref (He.ma K (He.ga K "Note") "__init__")),
  fun K => PySem.W.plainGet K (He.ga K "Note") Str.empty,
  fun K => PySem.W.hasDictIn K (He.ga K "Note"),
  fun K => PySem.W.plainOver K (He.ga K "Note"),
  fun K => decide (PySem.W.findIn K (.ref (He.ga K "Note")) "__setattr__" = some (some (.builtin "object.__setattr__"))),
  fun K => PySem.W.makesIn K (He.ga K "Note"),
  fun K => PySem.W.keepIn K (.ref (He.ga K "Note"))]
def exQ5 : List Ask := [
  fun K => decide (PySem.W.findIn K (.ref (He.ga K "Note")) "word" = some none),
  fun K => decide (PySem.W.findIn K (.ref (He.ga K "Note")) "counter" = some none),
  fun K => decide (PySem.W.findIn K (.ref (He.ga K "Note")) "label" = some none),
  fun K => decide (PySem.W.findIn K (.ref (He.ga K "Note")) "__str__" = some (some (.ref (He.ma K (He.ga K "Note") "__str__")))),
  fun K => PySem.W.isFn K (.ref (He.ma K (He.ga K "Note") "__str__")),
  fun K => decide (PySem.W.nsIn K mainGlobals "Skip" = some (some (.ref (He.ga K "Skip")))),
  fun K => decide (PySem.W.findIn K (.ref (He.ga K "Skip")) "__init__" = some (some (.ref (He.ma K (He.ga K "Skip") "__init__")))),
  fun K => PySem.W.isFn K (.ref (He.ma K (He.ga K "Skip") "__init__")),
  fun K => PySem.W.plainGet K (He.ga K "Skip") Str.empty,
  fun K => PySem.W.hasDictIn K (He.ga K "Skip")]
def exQ6 : List Ask := [
  fun K => PySem.W.plainOver K (He.ga K "Skip"),
  fun K => decide (PySem.W.findIn K (.ref (He.ga K "Skip")) "__setattr__" = some (some (.builtin "object.__setattr__"))),
  fun K => PySem.W.makesIn K (He.ga K "Skip"),
  fun K => PySem.W.keepIn K (.ref (He.ga K "Skip")),
  fun K => decide (PySem.W.findIn K (.ref (He.ga K "Skip")) "word" = some none),
  fun K => decide (PySem.W.findIn K (.ref (He.ga K "Skip")) "counter" = some none),
  fun K => decide (PySem.W.findIn K (.ref (He.ga K "Skip")) "by" = some none),
  fun K => decide (PySem.W.findIn K (.ref (He.ga K "Skip")) "__str__" = some (some (.ref (He.ma K (He.ga K "Skip") "__str__")))),
  fun K => PySem.W.isFn K (.ref (He.ma K (He.ga K "Skip") "__str__")),
  fun K => decide (PySem.W.nsIn K mainGlobals "Set" = some (some (.ref (He.ga K "Set"))))]
def exQ7 : List Ask := [
  fun K => decide (PySem.W.findIn K (.ref (He.ga K "Set")) "__init__" = some (some (.ref (He.ma K (He.ga K "Set") "__init__")))),
  fun K => PySem.W.isFn K (.ref (He.ma K (He.ga K "Set") "__init__")),
  fun K => PySem.W.plainGet K (He.ga K "Set") Str.empty,
  fun K => PySem.W.hasDictIn K (He.ga K "Set"),
  fun K => PySem.W.plainOver K (He.ga K "Set"),
  fun K => decide (PySem.W.findIn K (.ref (He.ga K "Set")) "__setattr__" = some (some (.builtin "object.__setattr__"))),
  fun K => PySem.W.makesIn K (He.ga K "Set"),
  fun K => PySem.W.keepIn K (.ref (He.ga K "Set")),
  fun K => decide (PySem.W.findIn K (.ref (He.ga K "Set")) "word" = some none),
  fun K => decide (PySem.W.findIn K (.ref (He.ga K "Set")) "counter" = some none)]
def exQ8 : List Ask := [
  fun K => decide (PySem.W.findIn K (.ref (He.ga K "Set")) "to" = some none),
  fun K => decide (PySem.W.findIn K (.ref (He.ga K "Set")) "__str__" = some (some (.ref (He.ma K (He.ga K "Set") "__str__")))),
  fun K => PySem.W.isFn K (.ref (He.ma K (He.ga K "Set") "__str__")),
  fun K => decide (PySem.W.nsIn K mainGlobals "Keep" = some (some (.ref (He.ga K "Keep")))),
  fun K => decide (PySem.W.findIn K (.ref (He.ga K "Keep")) "__init__" = some (some (.ref (He.ma K (He.ga K "Keep") "__init__")))),
  fun K => PySem.W.isFn K (.ref (He.ma K (He.ga K "Keep") "__init__")),
  fun K => PySem.W.plainGet K (He.ga K "Keep") Str.empty,
  fun K => PySem.W.hasDictIn K (He.ga K "Keep"),
  fun K => PySem.W.plainOver K (He.ga K "Keep"),
  fun K => decide (PySem.W.findIn K (.ref (He.ga K "Keep")) "__setattr__" = some (some (.builtin "object.__setattr__")))]
def exQ9 : List Ask := [
  fun K => PySem.W.makesIn K (He.ga K "Keep"),
  fun K => PySem.W.keepIn K (.ref (He.ga K "Keep")),
  fun K => decide (PySem.W.findIn K (.ref (He.ga K "Keep")) "word" = some none),
  fun K => decide (PySem.W.findIn K (.ref (He.ga K "Keep")) "counter" = some none),
  fun K => decide (PySem.W.findIn K (.ref (He.ga K "Keep")) "__str__" = some (some (.ref (He.ma K (He.ga K "Keep") "__str__")))),
  fun K => PySem.W.isFn K (.ref (He.ma K (He.ga K "Keep") "__str__")),
  fun K => decide (PySem.W.nsIn K mainGlobals "Back" = some (some (.ref (He.ga K "Back")))),
  fun K => decide (PySem.W.findIn K (.ref (He.ga K "Back")) "__init__" = some (some (.ref (He.ma K (He.ga K "Back") "__init__")))),
  fun K => PySem.W.isFn K (.ref (He.ma K (He.ga K "Back") "__init__")),
  fun K => PySem.W.plainGet K (He.ga K "Back") Str.empty]
def exQ10 : List Ask := [
  fun K => PySem.W.hasDictIn K (He.ga K "Back"),
  fun K => PySem.W.plainOver K (He.ga K "Back"),
  fun K => decide (PySem.W.findIn K (.ref (He.ga K "Back")) "__setattr__" = some (some (.builtin "object.__setattr__"))),
  fun K => PySem.W.makesIn K (He.ga K "Back"),
  fun K => PySem.W.keepIn K (.ref (He.ga K "Back")),
  fun K => decide (PySem.W.findIn K (.ref (He.ga K "Back")) "word" = some none),
  fun K => decide (PySem.W.findIn K (.ref (He.ga K "Back")) "counter" = some none),
  fun K => decide (PySem.W.findIn K (.ref (He.ga K "Back")) "__str__" = some (some (.ref (He.ma K (He.ga K "Back") "__str__")))),
  fun K => PySem.W.isFn K (.ref (He.ma K (He.ga K "Back") "__str__")),
  fun K => decide (PySem.W.nsIn K mainGlobals "Ref" = some (some (.ref (He.ga K "Ref"))))]
def exQ11 : List Ask := [
  fun K => decide (PySem.W.findIn K (.ref (He.ga K "Ref")) "__init__" = some (some (.ref (He.ma K (He.ga K "Ref") "__init__")))),
  fun K => PySem.W.isFn K (.ref (He.ma K (He.ga K "Ref") "__init__")),
  fun K => PySem.W.plainGet K (He.ga K "Ref") Str.empty,
  fun K => PySem.W.hasDictIn K (He.ga K "Ref"),
  fun K => PySem.W.plainOver K (He.ga K "Ref"),
  fun K => decide (PySem.W.findIn K (.ref (He.ga K "Ref")) "__setattr__" = some (some (.builtin "object.__setattr__"))),
  fun K => PySem.W.makesIn K (He.ga K "Ref"),
  fun K => PySem.W.keepIn K (.ref (He.ga K "Ref")),
  fun K => decide (PySem.W.findIn K (.ref (He.ga K "Ref")) "word" = some none),
  fun K => decide (PySem.W.findIn K (.ref (He.ga K "Ref")) "label" = some none)]
def exQ12 : List Ask := [
  fun K => decide (PySem.W.findIn K (.ref (He.ga K "Ref")) "__str__" = some (some (.ref (He.ma K (He.ga K "Ref") "__str__")))),
  fun K => PySem.W.isFn K (.ref (He.ma K (He.ga K "Ref") "__str__")),
  fun K => decide (PySem.W.nsIn K mainGlobals "Put" = some (some (.ref (He.ga K "Put")))),
  fun K => decide (PySem.W.findIn K (.ref (He.ga K "Put")) "__init__" = some (some (.ref (He.ma K (He.ga K "Put") "__init__")))),
  fun K => PySem.W.isFn K (.ref (He.ma K (He.ga K "Put") "__init__")),
  fun K => PySem.W.plainGet K (He.ga K "Put") Str.empty,
  fun K => PySem.W.hasDictIn K (He.ga K "Put"),
  fun K => PySem.W.plainOver K (He.ga K "Put"),
  fun K => decide (PySem.W.findIn K (.ref (He.ga K "Put")) "__setattr__" = some (some (.builtin "object.__setattr__"))),
  fun K => PySem.W.makesIn K (He.ga K "Put")]
def exQ13 : List Ask := [
  fun K => PySem.W.keepIn K (.ref (He.ga K "Put")),
  fun K => decide (PySem.W.findIn K (.ref (He.ga K "Put")) "word" = some none),
  fun K => decide (PySem.W.findIn K (.ref (He.ga K "Put")) "part" = some none),
  fun K => decide (PySem.W.findIn K (.ref (He.ga K "Put")) "__str__" = some (some (.ref (He.ma K (He.ga K "Put") "__str__")))),
  fun K => PySem.W.isFn K (.ref (He.ma K (He.ga K "Put") "__str__")),
  fun K => decide (PySem.W.nsIn K mainGlobals "Open" = some (some (.ref (He.ga K "Open")))),
  fun K => decide (PySem.W.findIn K (.ref (He.ga K "Open")) "__init__" = some (some (.ref (He.ma K (He.ga K "Open") "__init__")))),
  fun K => PySem.W.isFn K (.ref (He.ma K (He.ga K "Open") "__init__")),
  fun K => PySem.W.plainGet K (He.ga K "Open") Str.empty,
  fun K => PySem.W.hasDictIn K (He.ga K "Open")]
def exQ14 : List Ask := [
  fun K => PySem.W.plainOver K (He.ga K "Open"),
  fun K => decide (PySem.W.findIn K (.ref (He.ga K "Open")) "__setattr__" = some (some (.builtin "object.__setattr__"))),
  fun K => PySem.W.makesIn K (He.ga K "Open"),
  fun K => PySem.W.keepIn K (.ref (He.ga K "Open")),
  fun K => decide (PySem.W.findIn K (.ref (He.ga K "Open")) "word" = some none),
  fun K => decide (PySem.W.findIn K (.ref (He.ga K "Open")) "name" = some none),
  fun K => decide (PySem.W.findIn K (.ref (He.ga K "Open")) "__str__" = some (some (.ref (He.ma K (He.ga K "Open") "__str__")))),
  fun K => PySem.W.isFn K (.ref (He.ma K (He.ga K "Open") "__str__")),
  fun K => decide (PySem.W.nsIn K mainGlobals "Row" = some (some (.ref (He.ga K "Row")))),
  fun K => decide (PySem.W.nsIn K mainGlobals "is_sequence" = some (some (.ref (He.ga K "is_sequence"))))]
def exQ15 : List Ask := [
  fun K => decide (PySem.W.nsIn K mainGlobals "InvalidPart" = some (some (.ref (He.ga K "InvalidPart")))),
  fun K => excQ K (He.ga K "InvalidPart") "ValueError.__new__",
  fun K => decide (PySem.W.findIn K (.ref (He.ga K "InvalidPart")) "__setattr__" = some (some (.builtin "object.__setattr__"))),
  fun K => decide (PySem.W.findIn K (.ref (He.ga K "InvalidPart")) "__getattribute__" = some (some (.builtin "BaseException.__getattribute__"))),
  fun K => decide (PySem.W.findIn K (.ref (He.ga K "InvalidPart")) "__getattr__" = some (none)),
  fun K => decide (PySem.W.findIn K (.ref (He.ga K "InvalidPart")) "word" = some (none)),
  fun K => decide (PySem.W.findIn K (.ref (He.ga K "InvalidPart")) "__init__" = some (some (.ref (He.ma K (He.ga K "InvalidPart") "__init__")))),
  fun K => decide (PySem.W.findIn K (.ref (He.ga K "InvalidPart")) "__class__" = some (some (.builtin "object.__class__"))),
  fun K => decide (PySem.W.typeIn K (.ref (He.ma K (He.ga K "InvalidPart") "__init__")) = some (.type "function")),
  fun K => PySem.W.keepIn K (.ref (He.ga K "InvalidPart"))]
def exQ16 : List Ask := [
  fun K => decide (PySem.W.subIn K (.ref (He.ga K "InvalidPart")) (.type "BaseException") = some true),
  fun K => decide (PySem.W.typeIn K (.ref (He.ga K "InvalidPart")) = some (.type "type")),
  fun K => PySem.W.hasDictIn K (He.ga K "InvalidPart"),
  fun K => PySem.W.isClsIn K (He.ga K "InvalidPart"),
  fun K => decide (PySem.W.subIn K (.ref (He.ga K "InvalidPart")) (.ref (He.ga K "InvalidPart")) = some true),
  fun K => decide (PySem.W.mroIn K (He.ga K "InvalidPart") (.type "object") = some true),
  fun K => decide (PySem.W.nsIn K mainGlobals "Part" = some (some (.ref (He.ga K "Part")))),
  fun K => decide (PySem.W.findIn K (.ref (He.ga K "Part")) "__init__" = some (some (.ref (He.ma K (He.ga K "Part") "__init__")))),
  fun K => PySem.W.isFn K (.ref (He.ma K (He.ga K "Part") "__init__")),
  fun K => tupQ K (He.dflAt ("Part", some "__init__") 0 K) []]
def exQ17 : List Ask := [
  fun K => PySem.W.plainGet K (He.ga K "Part") Str.empty,
  fun K => PySem.W.hasDictIn K (He.ga K "Part"),
  fun K => PySem.W.plainOver K (He.ga K "Part"),
  fun K => decide (PySem.W.findIn K (.ref (He.ga K "Part")) "__setattr__" = some (some (.builtin "object.__setattr__"))),
  fun K => PySem.W.makesIn K (He.ga K "Part"),
  fun K => PySem.W.keepIn K (.ref (He.ga K "Part")),
  fun K => decide (PySem.W.findIn K (.ref (He.ga K "Part")) "name" = some none),
  fun K => decide (PySem.W.findIn K (.ref (He.ga K "Part")) "rows" = some none),
  fun K => decide (PySem.W.findIn K (.ref (He.ga K "Part")) "__str__" = some (some (.ref (He.ma K (He.ga K "Part") "__str__")))),
  fun K => PySem.W.isFn K (.ref (He.ma K (He.ga K "Part") "__str__"))]
def exQ18 : List Ask := [
  fun K => decide (PySem.W.findIn K (.ref (He.ga K "Part")) "__eq__" = some (some (.ref (He.ma K (He.ga K "Part") "__eq__")))),
  fun K => PySem.W.isFn K (.ref (He.ma K (He.ga K "Part") "__eq__")),
  fun K => decide (PySem.W.nsIn K mainGlobals "COUNTING_WORDS" = some (some (.ref (He.ga K "COUNTING_WORDS")))),
  fun K => He.tupB K "COUNTING_WORDS" [.str "note", .str "skip", .str "set", .str "keep", .str "back"],
  fun K => decide (PySem.W.nsIn K mainGlobals "is_pair" = some (some (.ref (He.ga K "is_pair")))),
  fun K => decide (PySem.W.nsIn K mainGlobals "are_counters" = some (some (.ref (He.ga K "are_counters")))),
  fun K => decide (PySem.W.nsIn K mainGlobals "are_parts" = some (some (.ref (He.ga K "are_parts")))),
  fun K => decide (PySem.W.nsIn K mainGlobals "counters_are_known" = some (some (.ref (He.ga K "counters_are_known")))),
  fun K => decide (PySem.W.nsIn K mainGlobals "names_put" = some (some (.ref (He.ga K "names_put")))),
  fun K => decide (PySem.W.nsIn K mainGlobals "puts_are_earlier" = some (some (.ref (He.ga K "puts_are_earlier"))))]
def exQ19 : List Ask := [
  fun K => decide (PySem.W.nsIn K mainGlobals "names_reached" = some (some (.ref (He.ga K "names_reached")))),
  fun K => decide (PySem.W.nsIn K mainGlobals "unroll" = some (some (.ref (He.ga K "unroll")))),
  fun K => decide (PySem.W.nsIn K mainGlobals "unrolled_text" = some (some (.ref (He.ga K "unrolled_text")))),
  fun K => decide (PySem.W.nsIn K mainGlobals "refs_are_known" = some (some (.ref (He.ga K "refs_are_known")))),
  fun K => decide (PySem.W.nsIn K mainGlobals "Book" = some (some (.ref (He.ga K "Book")))),
  fun K => decide (PySem.W.findIn K (.ref (He.ga K "Book")) "__init__" = some (some (.ref (He.ma K (He.ga K "Book") "__init__")))),
  fun K => PySem.W.isFn K (.ref (He.ma K (He.ga K "Book") "__init__")),
  fun K => PySem.W.plainGet K (He.ga K "Book") Str.empty,
  fun K => PySem.W.hasDictIn K (He.ga K "Book"),
  fun K => PySem.W.plainOver K (He.ga K "Book")]
def exQ20 : List Ask := [
  fun K => decide (PySem.W.findIn K (.ref (He.ga K "Book")) "__setattr__" = some (some (.builtin "object.__setattr__"))),
  fun K => PySem.W.makesIn K (He.ga K "Book"),
  fun K => PySem.W.keepIn K (.ref (He.ga K "Book")),
  fun K => decide (PySem.W.findIn K (.ref (He.ga K "Book")) "counters" = some none),
  fun K => decide (PySem.W.findIn K (.ref (He.ga K "Book")) "parts" = some none),
  fun K => decide (PySem.W.findIn K (.ref (He.ga K "Book")) "flat" = some none),
  fun K => propQ K (He.ga K "Book") "names",
  fun K => propQ K (He.ga K "Book") "tops",
  fun K => propQ K (He.ga K "Book") "unrolled",
  fun K => decide (PySem.W.findIn K (.ref (He.ga K "Book")) "chain" = some (some (.ref (He.ma K (He.ga K "Book") "chain"))))]
def exQ21 : List Ask := [
  fun K => PySem.W.isFn K (.ref (He.ma K (He.ga K "Book") "chain")),
  fun K => decide (PySem.W.nsIn K mainGlobals "InvalidBook" = some (some (.ref (He.ga K "InvalidBook")))),
  fun K => excQ K (He.ga K "InvalidBook") "ValueError.__new__",
  fun K => decide (PySem.W.findIn K (.ref (He.ga K "InvalidBook")) "__setattr__" = some (some (.builtin "object.__setattr__"))),
  fun K => decide (PySem.W.findIn K (.ref (He.ga K "InvalidBook")) "__getattribute__" = some (some (.builtin "BaseException.__getattribute__"))),
  fun K => decide (PySem.W.findIn K (.ref (He.ga K "InvalidBook")) "__getattr__" = some (none)),
  fun K => decide (PySem.W.findIn K (.ref (He.ga K "InvalidBook")) "word" = some (none)),
  fun K => decide (PySem.W.findIn K (.ref (He.ga K "InvalidBook")) "__init__" = some (some (.ref (He.ma K (He.ga K "InvalidBook") "__init__")))),
  fun K => decide (PySem.W.findIn K (.ref (He.ga K "InvalidBook")) "__class__" = some (some (.builtin "object.__class__"))),
  fun K => decide (PySem.W.typeIn K (.ref (He.ma K (He.ga K "InvalidBook") "__init__")) = some (.type "function"))]
def exQ22 : List Ask := [
  fun K => PySem.W.keepIn K (.ref (He.ga K "InvalidBook")),
  fun K => decide (PySem.W.subIn K (.ref (He.ga K "InvalidBook")) (.type "BaseException") = some true),
  fun K => decide (PySem.W.typeIn K (.ref (He.ga K "InvalidBook")) = some (.type "type")),
  fun K => PySem.W.hasDictIn K (He.ga K "InvalidBook"),
  fun K => PySem.W.isClsIn K (He.ga K "InvalidBook"),
  fun K => decide (PySem.W.subIn K (.ref (He.ga K "InvalidBook")) (.ref (He.ga K "InvalidBook")) = some true),
  fun K => decide (PySem.W.mroIn K (He.ga K "InvalidBook") (.type "object") = some true),
  fun K => decide (PySem.W.nsIn K mainGlobals "_law_seed" = some (some (.ref (He.ga K "_law_seed")))),
  fun K => decide (PySem.W.nsIn K mainGlobals "_law_choose" = some (some (.ref (He.ga K "_law_choose")))),
  fun K => decide (PySem.W.nsIn K mainGlobals "_law_one_of" = some (some (.ref (He.ga K "_law_one_of"))))]
def exQ23 : List Ask := [
  fun K => decide (PySem.W.nsIn K mainGlobals "_law_pools" = some (some (.ref (He.ga K "_law_pools")))),
  fun K => decide (PySem.W.nsIn K mainGlobals "_law_counters" = some (some (.ref (He.ga K "_law_counters")))),
  fun K => decide (PySem.W.nsIn K mainGlobals "_law_row" = some (some (.ref (He.ga K "_law_row")))),
  fun K => decide (PySem.W.nsIn K mainGlobals "_law_unrolled" = some (some (.ref (He.ga K "_law_unrolled")))),
  fun K => decide (PySem.W.nsIn K mainGlobals "_law_book" = some (some (.ref (He.ga K "_law_book")))),
  fun K => decide (PySem.W.nsIn K mainGlobals "_law_made_row" = some (some (.ref (He.ga K "_law_made_row")))),
  fun K => decide (PySem.W.nsIn K mainGlobals "_law_leaf" = some (some (.ref (He.ga K "_law_leaf")))),
  fun K => decide (PySem.W.nsIn K mainGlobals "_law_any" = some (some (.ref (He.ga K "_law_any")))),
  fun K => decide (PySem.W.nsIn K mainGlobals "_law_heard" = some (some (.ref (He.ga K "_law_heard")))),
  fun K => decide (PySem.W.nsIn K mainGlobals "_law_bent" = some (some (.ref (He.ga K "_law_bent"))))]
def exQ24 : List Ask := [
  fun K => decide (PySem.W.nsIn K mainGlobals "law" = some (some (.ref (He.ga K "law")))),
  fun K => decide (PySem.W.specialIn K (.builtin "object.__class__") "__get__" = some (some (.builtin "getset_descriptor.__get__"))),
  fun K => decide (PySem.W.takesIn K (.builtin "object.__class__") = some true),
  fun K => decide (PySem.W.kitOne K (.type "NoneType") (.ref (He.ga K "Row")) = some false),
  fun K => decide (PySem.W.kitOne K (.type "bool") (.ref (He.ga K "Row")) = some false),
  fun K => decide (PySem.W.kitOne K (.type "int") (.ref (He.ga K "Row")) = some false),
  fun K => decide (PySem.W.kitOne K (.type "str") (.ref (He.ga K "Row")) = some false),
  fun K => decide (PySem.W.kitOne K (.type "list") (.ref (He.ga K "Row")) = some false),
  fun K => decide (PySem.W.kitOne K (.type "tuple") (.ref (He.ga K "Row")) = some false),
  fun K => decide (PySem.W.kitOne K (.type "dict") (.ref (He.ga K "Row")) = some false)]
def exQ25 : List Ask := [
  fun K => decide (PySem.W.kitOne K (.ref (He.ga K "Note")) (.ref (He.ga K "Row")) = some true),
  fun K => decide (PySem.W.findIn K (.ref (He.ga K "Note")) "__class__" = some (some (.builtin "object.__class__"))),
  fun K => decide (PySem.W.mroIn K (He.ga K "Note") (.type "object") = some true),
  fun K => decide (PySem.W.kitOne K (.ref (He.ga K "Skip")) (.ref (He.ga K "Row")) = some true),
  fun K => decide (PySem.W.findIn K (.ref (He.ga K "Skip")) "__class__" = some (some (.builtin "object.__class__"))),
  fun K => decide (PySem.W.mroIn K (He.ga K "Skip") (.type "object") = some true),
  fun K => decide (PySem.W.kitOne K (.ref (He.ga K "Set")) (.ref (He.ga K "Row")) = some true),
  fun K => decide (PySem.W.findIn K (.ref (He.ga K "Set")) "__class__" = some (some (.builtin "object.__class__"))),
  fun K => decide (PySem.W.mroIn K (He.ga K "Set") (.type "object") = some true),
  fun K => decide (PySem.W.kitOne K (.ref (He.ga K "Keep")) (.ref (He.ga K "Row")) = some true)]
def exQ26 : List Ask := [
  fun K => decide (PySem.W.findIn K (.ref (He.ga K "Keep")) "__class__" = some (some (.builtin "object.__class__"))),
  fun K => decide (PySem.W.mroIn K (He.ga K "Keep") (.type "object") = some true),
  fun K => decide (PySem.W.kitOne K (.ref (He.ga K "Back")) (.ref (He.ga K "Row")) = some true),
  fun K => decide (PySem.W.findIn K (.ref (He.ga K "Back")) "__class__" = some (some (.builtin "object.__class__"))),
  fun K => decide (PySem.W.mroIn K (He.ga K "Back") (.type "object") = some true),
  fun K => decide (PySem.W.kitOne K (.ref (He.ga K "Ref")) (.ref (He.ga K "Row")) = some true),
  fun K => decide (PySem.W.findIn K (.ref (He.ga K "Ref")) "__class__" = some (some (.builtin "object.__class__"))),
  fun K => decide (PySem.W.mroIn K (He.ga K "Ref") (.type "object") = some true),
  fun K => decide (PySem.W.kitOne K (.ref (He.ga K "Put")) (.ref (He.ga K "Row")) = some true),
  fun K => decide (PySem.W.findIn K (.ref (He.ga K "Put")) "__class__" = some (some (.builtin "object.__class__")))]
def exQ27 : List Ask := [
  fun K => decide (PySem.W.mroIn K (He.ga K "Put") (.type "object") = some true),
  fun K => decide (PySem.W.kitOne K (.ref (He.ga K "Open")) (.ref (He.ga K "Row")) = some true),
  fun K => decide (PySem.W.findIn K (.ref (He.ga K "Open")) "__class__" = some (some (.builtin "object.__class__"))),
  fun K => decide (PySem.W.mroIn K (He.ga K "Open") (.type "object") = some true),
  fun K => decide (PySem.W.findIn K (.ref (He.ga K "Part")) "__class__" = some (some (.builtin "object.__class__"))),
  fun K => decide (PySem.W.mroIn K (He.ga K "Part") (.type "object") = some true),
  fun K => decide (PySem.W.findIn K (.ref (He.ga K "Part")) "__ne__" = some (some (.builtin "object.__ne__"))),
  fun K => decide (PySem.W.kitOne K (.ref (He.ga K "Part")) (.ref (He.ga K "Part")) = some true),
  fun K => decide (PySem.W.kitOne K (.type "str") (.ref (He.ga K "Part")) = some false),
  fun K => PySem.W.notFirst K (He.ga K "Part") (.ref (He.ga K "Part"))]
def exQ28 : List Ask := [
  fun K => PySem.W.notFirst K (He.ga K "Part") (.type "str"),
  fun K => decide (PySem.W.kitOne K (.type "NoneType") (.ref (He.ga K "Part")) = some false),
  fun K => decide (PySem.W.kitOne K (.type "bool") (.ref (He.ga K "Part")) = some false),
  fun K => decide (PySem.W.kitOne K (.type "int") (.ref (He.ga K "Part")) = some false),
  fun K => decide (PySem.W.kitOne K (.type "str") (.ref (He.ga K "Part")) = some false),
  fun K => decide (PySem.W.kitOne K (.type "list") (.ref (He.ga K "Part")) = some false),
  fun K => decide (PySem.W.kitOne K (.type "tuple") (.ref (He.ga K "Part")) = some false),
  fun K => decide (PySem.W.kitOne K (.type "dict") (.ref (He.ga K "Part")) = some false),
  fun K => decide (PySem.W.kitAny K (.ref (He.ga K "Part")) [.type "list", .type "tuple"] = some false),
  fun K => decide (PySem.W.kitOne K (.ref (He.ga K "InvalidBook")) (.ref (He.ga K "NoteError")) = some true)]
def exQ29 : List Ask := [
  fun K => decide (PySem.W.kitOne K (.ref (He.ga K "InvalidBook")) (.ref (He.ga K "InvalidPart")) = some false)]
def exR0 : List (List Ask) := [exQ0, exQ1, exQ2, exQ3, exQ4, exQ5, exQ6, exQ7, exQ8, exQ9, exQ10, exQ11, exQ12, exQ13, exQ14, exQ15, exQ16, exQ17, exQ18, exQ19]
def exR1 : List (List Ask) := [exQ20, exQ21, exQ22, exQ23, exQ24, exQ25, exQ26, exQ27, exQ28, exQ29]
def exQ : List (List Ask) := exR0 ++ exR1
theorem facts {P : Program} {w : World} {K : PySem.W.Frag} {h : Heap} {mg : Str → Option Value} {fa : Addr} (X : K.In h) (G : h.Ns mainGlobals mg) (hfa : mg ("law" : Str) = some (.ref fa)) (c : askQ fnQ exQ K = toldQ fnQ) :
    ∃ fd : FuncData, (∀ (s : Shared) (v : Value), BindsTo s fd ⟨[v], []⟩ [("_law_script", v)]) ∧ ∀ base : Heap, K.In base → base.Ns mainGlobals mg → FnOk P w K mg base CX0 14 fa fd ["_law_script"] (spLaw7 K) := by
  have zint : PySem.W.nsIn K mainGlobals "int" = some none := of_decide_eq_true (told_at c 0 0)
  have zbool : PySem.W.nsIn K mainGlobals "bool" = some none := of_decide_eq_true (told_at c 0 1)
  have zstr : PySem.W.nsIn K mainGlobals "str" = some none := of_decide_eq_true (told_at c 0 2)
  have zisinstance : PySem.W.nsIn K mainGlobals "isinstance" = some none := of_decide_eq_true (told_at c 0 3)
  have zlen : PySem.W.nsIn K mainGlobals "len" = some none := of_decide_eq_true (told_at c 0 4)
  have zall : PySem.W.nsIn K mainGlobals "all" = some none := of_decide_eq_true (told_at c 0 5)
  have zabs : PySem.W.nsIn K mainGlobals "abs" = some none := of_decide_eq_true (told_at c 0 6)
  have zrange : PySem.W.nsIn K mainGlobals "range" = some none := of_decide_eq_true (told_at c 0 7)
  have zlist : PySem.W.nsIn K mainGlobals "list" = some none := of_decide_eq_true (told_at c 0 8)
  have ztuple : PySem.W.nsIn K mainGlobals "tuple" = some none := of_decide_eq_true (told_at c 0 9)
  have zmax : PySem.W.nsIn K mainGlobals "max" = some none := of_decide_eq_true (told_at c 1 0)
  have zmin : PySem.W.nsIn K mainGlobals "min" = some none := of_decide_eq_true (told_at c 1 1)
  have zset : PySem.W.nsIn K mainGlobals "set" = some none := of_decide_eq_true (told_at c 1 2)
  have zreversed : PySem.W.nsIn K mainGlobals "reversed" = some none := of_decide_eq_true (told_at c 1 3)
  have zsorted : PySem.W.nsIn K mainGlobals "sorted" = some none := of_decide_eq_true (told_at c 1 4)
  have zdict : PySem.W.nsIn K mainGlobals "dict" = some none := of_decide_eq_true (told_at c 1 5)
  have zenumerate : PySem.W.nsIn K mainGlobals "enumerate" = some none := of_decide_eq_true (told_at c 1 6)
  have aNoteError : PySem.W.nsIn K mainGlobals "NoteError" = some (some (.ref (He.ga K "NoteError"))) := of_decide_eq_true (told_at c 1 7)
  have aROWWORDS : PySem.W.nsIn K mainGlobals "ROW_WORDS" = some (some (.ref (He.ga K "ROW_WORDS"))) := of_decide_eq_true (told_at c 1 8)
  have SROWWORDS : ∀ H : Hp, SqT K H (He.ga K "ROW_WORDS") [.str "note", .str "skip", .str "set", .str "keep", .str "back", .str "ref", .str "put", .str "open", .str "part"] := fun H => He.tupB_ok (x := "ROW_WORDS") (vs := [.str "note", .str "skip", .str "set", .str "keep", .str "back", .str "ref", .str "put", .str "open", .str "part"]) (told_at c 1 9) H
  obtain ⟨tkLONGESTNAME, ILONGESTNAME⟩ := He.int_ok X G (x := "LONGEST_NAME") (i := 4) (told_at c 2 0)
  have aisinteger : PySem.W.nsIn K mainGlobals "is_integer" = some (some (.ref (He.ga K "is_integer"))) := of_decide_eq_true (told_at c 2 1)
  obtain ⟨fdisinteger, Yisinteger⟩ := told_fn c 0
  have Xisinteger : Fun K "is_integer" "is_integer" sIsInteger (He.ga K "is_integer") fdisinteger := fun_of Yisinteger
  have aisnumber : PySem.W.nsIn K mainGlobals "is_number" = some (some (.ref (He.ga K "is_number"))) := of_decide_eq_true (told_at c 2 2)
  obtain ⟨fdisnumber, Yisnumber⟩ := told_fn c 1
  have Xisnumber : Fun K "is_number" "is_number" sIsNumber (He.ga K "is_number") fdisnumber := fun_of Yisnumber
  have aisname : PySem.W.nsIn K mainGlobals "is_name" = some (some (.ref (He.ga K "is_name"))) := of_decide_eq_true (told_at c 2 3)
  obtain ⟨fdisname, Yisname⟩ := told_fn c 2
  have Xisname : Fun K "is_name" "is_name" sIsName (He.ga K "is_name") fdisname := fun_of Yisname
  have aInvalidRow : PySem.W.nsIn K mainGlobals "InvalidRow" = some (some (.ref (He.ga K "InvalidRow"))) := of_decide_eq_true (told_at c 2 4)
  have xInvalidRow := excQ_ok (K := K) (C := (He.ga K "InvalidRow")) (nid := "ValueError.__new__") (told_at c 2 5)
  have saInvalidRow : PySem.W.findIn K (.ref (He.ga K "InvalidRow")) "__setattr__" = some (some (.builtin "object.__setattr__")) := of_decide_eq_true (told_at c 2 6)
  have gaInvalidRow : PySem.W.findIn K (.ref (He.ga K "InvalidRow")) "__getattribute__" = some (some (.builtin "BaseException.__getattribute__")) := of_decide_eq_true (told_at c 2 7)
  have ggInvalidRow : PySem.W.findIn K (.ref (He.ga K "InvalidRow")) "__getattr__" = some (none) := of_decide_eq_true (told_at c 2 8)
  have nfInvalidRow : PySem.W.findIn K (.ref (He.ga K "InvalidRow")) "word" = some (none) := of_decide_eq_true (told_at c 2 9)
  have inInvalidRow : PySem.W.findIn K (.ref (He.ga K "InvalidRow")) "__init__" = some (some (.ref (He.ma K (He.ga K "InvalidRow") "__init__"))) := of_decide_eq_true (told_at c 3 0)
  have haInvalidRow : PySem.W.findIn K (.ref (He.ga K "InvalidRow")) "__class__" = some (some (.builtin "object.__class__")) := of_decide_eq_true (told_at c 3 1)
  have tiInvalidRow : PySem.W.typeIn K (.ref (He.ma K (He.ga K "InvalidRow") "__init__")) = some (.type "function") := of_decide_eq_true (told_at c 3 2)
  obtain ⟨fdInvalidRow, YInvalidRow⟩ := told_fn c 3
  have XInvalidRow : Fun K "__init__" "InvalidRow.__init__" sIRInit (He.ma K (He.ga K "InvalidRow") "__init__") fdInvalidRow := fun_of YInvalidRow
  have kcInvalidRow : PySem.W.keepIn K (.ref (He.ga K "InvalidRow")) = true := (told_at c 3 3)
  have eCInvalidRow : PySem.W.subIn K (.ref (He.ga K "InvalidRow")) (.type "BaseException") = some true := of_decide_eq_true (told_at c 3 4)
  have tCInvalidRow : PySem.W.typeIn K (.ref (He.ga K "InvalidRow")) = some (.type "type") := of_decide_eq_true (told_at c 3 5)
  have hCInvalidRow : PySem.W.hasDictIn K (He.ga K "InvalidRow") = true := (told_at c 3 6)
  have iCInvalidRow : PySem.W.isClsIn K (He.ga K "InvalidRow") = true := (told_at c 3 7)
  have sCInvalidRow : PySem.W.subIn K (.ref (He.ga K "InvalidRow")) (.ref (He.ga K "InvalidRow")) = some true := of_decide_eq_true (told_at c 3 8)
  have hmInvalidRow : PySem.W.mroIn K (He.ga K "InvalidRow") (.type "object") = some true := of_decide_eq_true (told_at c 3 9)
  have aneedname : PySem.W.nsIn K mainGlobals "need_name" = some (some (.ref (He.ga K "need_name"))) := of_decide_eq_true (told_at c 4 0)
  obtain ⟨fdneedname, Yneedname⟩ := told_fn c 4
  have Xneedname : Fun K "need_name" "need_name" sNeedName (He.ga K "need_name") fdneedname := fun_of Yneedname
  have aNote : PySem.W.nsIn K mainGlobals "Note" = some (some (.ref (He.ga K "Note"))) := of_decide_eq_true (told_at c 4 1)
  have inNote : PySem.W.findIn K (.ref (He.ga K "Note")) "__init__" = some (some (.ref (He.ma K (He.ga K "Note") "__init__"))) := of_decide_eq_true (told_at c 4 2)
  have iNote : PySem.W.isFn K (.ref (He.ma K (He.ga K "Note") "__init__")) = true := (told_at c 4 3)
  obtain ⟨fdNote, YNote⟩ := told_fn c 5
  have FNote : FunD K "__init__" "Note.__init__" (defArgs sNoteInit) (defBody sNoteInit) (defScope sNoteInit) [.str ""] [] (He.ma K (He.ga K "Note") "__init__") fdNote := YNote
  have pgNote : PySem.W.plainGet K (He.ga K "Note") Str.empty = true := (told_at c 4 4)
  have hdNote : PySem.W.hasDictIn K (He.ga K "Note") = true := (told_at c 4 5)
  have poNote : PySem.W.plainOver K (He.ga K "Note") = true := (told_at c 4 6)
  have saNote : PySem.W.findIn K (.ref (He.ga K "Note")) "__setattr__" = some (some (.builtin "object.__setattr__")) := of_decide_eq_true (told_at c 4 7)
  have mkNote : PySem.W.makesIn K (He.ga K "Note") = true := (told_at c 4 8)
  have kcNote : PySem.W.keepIn K (.ref (He.ga K "Note")) = true := (told_at c 4 9)
  have nNote0 : PySem.W.findIn K (.ref (He.ga K "Note")) "word" = some none := of_decide_eq_true (told_at c 5 0)
  have nNote1 : PySem.W.findIn K (.ref (He.ga K "Note")) "counter" = some none := of_decide_eq_true (told_at c 5 1)
  have nNote2 : PySem.W.findIn K (.ref (He.ga K "Note")) "label" = some none := of_decide_eq_true (told_at c 5 2)
  have inSNote : PySem.W.findIn K (.ref (He.ga K "Note")) "__str__" = some (some (.ref (He.ma K (He.ga K "Note") "__str__"))) := of_decide_eq_true (told_at c 5 3)
  have iSNote : PySem.W.isFn K (.ref (He.ma K (He.ga K "Note") "__str__")) = true := (told_at c 5 4)
  obtain ⟨fdSNote, YSNote⟩ := told_fn c 6
  have XSNote : Fun K "__str__" "Note.__str__" sNoteStr (He.ma K (He.ga K "Note") "__str__") fdSNote := fun_of YSNote
  have aSkip : PySem.W.nsIn K mainGlobals "Skip" = some (some (.ref (He.ga K "Skip"))) := of_decide_eq_true (told_at c 5 5)
  have inSkip : PySem.W.findIn K (.ref (He.ga K "Skip")) "__init__" = some (some (.ref (He.ma K (He.ga K "Skip") "__init__"))) := of_decide_eq_true (told_at c 5 6)
  have iSkip : PySem.W.isFn K (.ref (He.ma K (He.ga K "Skip") "__init__")) = true := (told_at c 5 7)
  obtain ⟨fdSkip, YSkip⟩ := told_fn c 7
  have XSkip : Fun K "__init__" "Skip.__init__" sSkipInit (He.ma K (He.ga K "Skip") "__init__") fdSkip := fun_of YSkip
  have pgSkip : PySem.W.plainGet K (He.ga K "Skip") Str.empty = true := (told_at c 5 8)
  have hdSkip : PySem.W.hasDictIn K (He.ga K "Skip") = true := (told_at c 5 9)
  have poSkip : PySem.W.plainOver K (He.ga K "Skip") = true := (told_at c 6 0)
  have saSkip : PySem.W.findIn K (.ref (He.ga K "Skip")) "__setattr__" = some (some (.builtin "object.__setattr__")) := of_decide_eq_true (told_at c 6 1)
  have mkSkip : PySem.W.makesIn K (He.ga K "Skip") = true := (told_at c 6 2)
  have kcSkip : PySem.W.keepIn K (.ref (He.ga K "Skip")) = true := (told_at c 6 3)
  have nSkip0 : PySem.W.findIn K (.ref (He.ga K "Skip")) "word" = some none := of_decide_eq_true (told_at c 6 4)
  have nSkip1 : PySem.W.findIn K (.ref (He.ga K "Skip")) "counter" = some none := of_decide_eq_true (told_at c 6 5)
  have nSkip2 : PySem.W.findIn K (.ref (He.ga K "Skip")) "by" = some none := of_decide_eq_true (told_at c 6 6)
  have inSSkip : PySem.W.findIn K (.ref (He.ga K "Skip")) "__str__" = some (some (.ref (He.ma K (He.ga K "Skip") "__str__"))) := of_decide_eq_true (told_at c 6 7)
  have iSSkip : PySem.W.isFn K (.ref (He.ma K (He.ga K "Skip") "__str__")) = true := (told_at c 6 8)
  obtain ⟨fdSSkip, YSSkip⟩ := told_fn c 8
  have XSSkip : Fun K "__str__" "Skip.__str__" sSkipStr (He.ma K (He.ga K "Skip") "__str__") fdSSkip := fun_of YSSkip
  have aSet : PySem.W.nsIn K mainGlobals "Set" = some (some (.ref (He.ga K "Set"))) := of_decide_eq_true (told_at c 6 9)
  have inSet : PySem.W.findIn K (.ref (He.ga K "Set")) "__init__" = some (some (.ref (He.ma K (He.ga K "Set") "__init__"))) := of_decide_eq_true (told_at c 7 0)
  have iSet : PySem.W.isFn K (.ref (He.ma K (He.ga K "Set") "__init__")) = true := (told_at c 7 1)
  obtain ⟨fdSet, YSet⟩ := told_fn c 9
  have XSet : Fun K "__init__" "Set.__init__" sSetInit (He.ma K (He.ga K "Set") "__init__") fdSet := fun_of YSet
  have pgSet : PySem.W.plainGet K (He.ga K "Set") Str.empty = true := (told_at c 7 2)
  have hdSet : PySem.W.hasDictIn K (He.ga K "Set") = true := (told_at c 7 3)
  have poSet : PySem.W.plainOver K (He.ga K "Set") = true := (told_at c 7 4)
  have saSet : PySem.W.findIn K (.ref (He.ga K "Set")) "__setattr__" = some (some (.builtin "object.__setattr__")) := of_decide_eq_true (told_at c 7 5)
  have mkSet : PySem.W.makesIn K (He.ga K "Set") = true := (told_at c 7 6)
  have kcSet : PySem.W.keepIn K (.ref (He.ga K "Set")) = true := (told_at c 7 7)
  have nSet0 : PySem.W.findIn K (.ref (He.ga K "Set")) "word" = some none := of_decide_eq_true (told_at c 7 8)
  have nSet1 : PySem.W.findIn K (.ref (He.ga K "Set")) "counter" = some none := of_decide_eq_true (told_at c 7 9)
  have nSet2 : PySem.W.findIn K (.ref (He.ga K "Set")) "to" = some none := of_decide_eq_true (told_at c 8 0)
  have inSSet : PySem.W.findIn K (.ref (He.ga K "Set")) "__str__" = some (some (.ref (He.ma K (He.ga K "Set") "__str__"))) := of_decide_eq_true (told_at c 8 1)
  have iSSet : PySem.W.isFn K (.ref (He.ma K (He.ga K "Set") "__str__")) = true := (told_at c 8 2)
  obtain ⟨fdSSet, YSSet⟩ := told_fn c 10
  have XSSet : Fun K "__str__" "Set.__str__" sSetStr (He.ma K (He.ga K "Set") "__str__") fdSSet := fun_of YSSet
  have aKeep : PySem.W.nsIn K mainGlobals "Keep" = some (some (.ref (He.ga K "Keep"))) := of_decide_eq_true (told_at c 8 3)
  have inKeep : PySem.W.findIn K (.ref (He.ga K "Keep")) "__init__" = some (some (.ref (He.ma K (He.ga K "Keep") "__init__"))) := of_decide_eq_true (told_at c 8 4)
  have iKeep : PySem.W.isFn K (.ref (He.ma K (He.ga K "Keep") "__init__")) = true := (told_at c 8 5)
  obtain ⟨fdKeep, YKeep⟩ := told_fn c 11
  have XKeep : Fun K "__init__" "Keep.__init__" sKeepInit (He.ma K (He.ga K "Keep") "__init__") fdKeep := fun_of YKeep
  have pgKeep : PySem.W.plainGet K (He.ga K "Keep") Str.empty = true := (told_at c 8 6)
  have hdKeep : PySem.W.hasDictIn K (He.ga K "Keep") = true := (told_at c 8 7)
  have poKeep : PySem.W.plainOver K (He.ga K "Keep") = true := (told_at c 8 8)
  have saKeep : PySem.W.findIn K (.ref (He.ga K "Keep")) "__setattr__" = some (some (.builtin "object.__setattr__")) := of_decide_eq_true (told_at c 8 9)
  have mkKeep : PySem.W.makesIn K (He.ga K "Keep") = true := (told_at c 9 0)
  have kcKeep : PySem.W.keepIn K (.ref (He.ga K "Keep")) = true := (told_at c 9 1)
  have nKeep0 : PySem.W.findIn K (.ref (He.ga K "Keep")) "word" = some none := of_decide_eq_true (told_at c 9 2)
  have nKeep1 : PySem.W.findIn K (.ref (He.ga K "Keep")) "counter" = some none := of_decide_eq_true (told_at c 9 3)
  have inSKeep : PySem.W.findIn K (.ref (He.ga K "Keep")) "__str__" = some (some (.ref (He.ma K (He.ga K "Keep") "__str__"))) := of_decide_eq_true (told_at c 9 4)
  have iSKeep : PySem.W.isFn K (.ref (He.ma K (He.ga K "Keep") "__str__")) = true := (told_at c 9 5)
  obtain ⟨fdSKeep, YSKeep⟩ := told_fn c 12
  have XSKeep : Fun K "__str__" "Keep.__str__" sKeepStr (He.ma K (He.ga K "Keep") "__str__") fdSKeep := fun_of YSKeep
  have aBack : PySem.W.nsIn K mainGlobals "Back" = some (some (.ref (He.ga K "Back"))) := of_decide_eq_true (told_at c 9 6)
  have inBack : PySem.W.findIn K (.ref (He.ga K "Back")) "__init__" = some (some (.ref (He.ma K (He.ga K "Back") "__init__"))) := of_decide_eq_true (told_at c 9 7)
  have iBack : PySem.W.isFn K (.ref (He.ma K (He.ga K "Back") "__init__")) = true := (told_at c 9 8)
  obtain ⟨fdBack, YBack⟩ := told_fn c 13
  have XBack : Fun K "__init__" "Back.__init__" sBackInit (He.ma K (He.ga K "Back") "__init__") fdBack := fun_of YBack
  have pgBack : PySem.W.plainGet K (He.ga K "Back") Str.empty = true := (told_at c 9 9)
  have hdBack : PySem.W.hasDictIn K (He.ga K "Back") = true := (told_at c 10 0)
  have poBack : PySem.W.plainOver K (He.ga K "Back") = true := (told_at c 10 1)
  have saBack : PySem.W.findIn K (.ref (He.ga K "Back")) "__setattr__" = some (some (.builtin "object.__setattr__")) := of_decide_eq_true (told_at c 10 2)
  have mkBack : PySem.W.makesIn K (He.ga K "Back") = true := (told_at c 10 3)
  have kcBack : PySem.W.keepIn K (.ref (He.ga K "Back")) = true := (told_at c 10 4)
  have nBack0 : PySem.W.findIn K (.ref (He.ga K "Back")) "word" = some none := of_decide_eq_true (told_at c 10 5)
  have nBack1 : PySem.W.findIn K (.ref (He.ga K "Back")) "counter" = some none := of_decide_eq_true (told_at c 10 6)
  have inSBack : PySem.W.findIn K (.ref (He.ga K "Back")) "__str__" = some (some (.ref (He.ma K (He.ga K "Back") "__str__"))) := of_decide_eq_true (told_at c 10 7)
  have iSBack : PySem.W.isFn K (.ref (He.ma K (He.ga K "Back") "__str__")) = true := (told_at c 10 8)
  obtain ⟨fdSBack, YSBack⟩ := told_fn c 14
  have XSBack : Fun K "__str__" "Back.__str__" sBackStr (He.ma K (He.ga K "Back") "__str__") fdSBack := fun_of YSBack
  have aRef : PySem.W.nsIn K mainGlobals "Ref" = some (some (.ref (He.ga K "Ref"))) := of_decide_eq_true (told_at c 10 9)
  have inRef : PySem.W.findIn K (.ref (He.ga K "Ref")) "__init__" = some (some (.ref (He.ma K (He.ga K "Ref") "__init__"))) := of_decide_eq_true (told_at c 11 0)
  have iRef : PySem.W.isFn K (.ref (He.ma K (He.ga K "Ref") "__init__")) = true := (told_at c 11 1)
  obtain ⟨fdRef, YRef⟩ := told_fn c 15
  have XRef : Fun K "__init__" "Ref.__init__" sRefInit (He.ma K (He.ga K "Ref") "__init__") fdRef := fun_of YRef
  have pgRef : PySem.W.plainGet K (He.ga K "Ref") Str.empty = true := (told_at c 11 2)
  have hdRef : PySem.W.hasDictIn K (He.ga K "Ref") = true := (told_at c 11 3)
  have poRef : PySem.W.plainOver K (He.ga K "Ref") = true := (told_at c 11 4)
  have saRef : PySem.W.findIn K (.ref (He.ga K "Ref")) "__setattr__" = some (some (.builtin "object.__setattr__")) := of_decide_eq_true (told_at c 11 5)
  have mkRef : PySem.W.makesIn K (He.ga K "Ref") = true := (told_at c 11 6)
  have kcRef : PySem.W.keepIn K (.ref (He.ga K "Ref")) = true := (told_at c 11 7)
  have nRef0 : PySem.W.findIn K (.ref (He.ga K "Ref")) "word" = some none := of_decide_eq_true (told_at c 11 8)
  have nRef1 : PySem.W.findIn K (.ref (He.ga K "Ref")) "label" = some none := of_decide_eq_true (told_at c 11 9)
  have inSRef : PySem.W.findIn K (.ref (He.ga K "Ref")) "__str__" = some (some (.ref (He.ma K (He.ga K "Ref") "__str__"))) := of_decide_eq_true (told_at c 12 0)
  have iSRef : PySem.W.isFn K (.ref (He.ma K (He.ga K "Ref") "__str__")) = true := (told_at c 12 1)
  obtain ⟨fdSRef, YSRef⟩ := told_fn c 16
  have XSRef : Fun K "__str__" "Ref.__str__" sRefStr (He.ma K (He.ga K "Ref") "__str__") fdSRef := fun_of YSRef
  have aPut : PySem.W.nsIn K mainGlobals "Put" = some (some (.ref (He.ga K "Put"))) := of_decide_eq_true (told_at c 12 2)
  have inPut : PySem.W.findIn K (.ref (He.ga K "Put")) "__init__" = some (some (.ref (He.ma K (He.ga K "Put") "__init__"))) := of_decide_eq_true (told_at c 12 3)
  have iPut : PySem.W.isFn K (.ref (He.ma K (He.ga K "Put") "__init__")) = true := (told_at c 12 4)
  obtain ⟨fdPut, YPut⟩ := told_fn c 17
  have XPut : Fun K "__init__" "Put.__init__" sPutInit (He.ma K (He.ga K "Put") "__init__") fdPut := fun_of YPut
  have pgPut : PySem.W.plainGet K (He.ga K "Put") Str.empty = true := (told_at c 12 5)
  have hdPut : PySem.W.hasDictIn K (He.ga K "Put") = true := (told_at c 12 6)
  have poPut : PySem.W.plainOver K (He.ga K "Put") = true := (told_at c 12 7)
  have saPut : PySem.W.findIn K (.ref (He.ga K "Put")) "__setattr__" = some (some (.builtin "object.__setattr__")) := of_decide_eq_true (told_at c 12 8)
  have mkPut : PySem.W.makesIn K (He.ga K "Put") = true := (told_at c 12 9)
  have kcPut : PySem.W.keepIn K (.ref (He.ga K "Put")) = true := (told_at c 13 0)
  have nPut0 : PySem.W.findIn K (.ref (He.ga K "Put")) "word" = some none := of_decide_eq_true (told_at c 13 1)
  have nPut1 : PySem.W.findIn K (.ref (He.ga K "Put")) "part" = some none := of_decide_eq_true (told_at c 13 2)
  have inSPut : PySem.W.findIn K (.ref (He.ga K "Put")) "__str__" = some (some (.ref (He.ma K (He.ga K "Put") "__str__"))) := of_decide_eq_true (told_at c 13 3)
  have iSPut : PySem.W.isFn K (.ref (He.ma K (He.ga K "Put") "__str__")) = true := (told_at c 13 4)
  obtain ⟨fdSPut, YSPut⟩ := told_fn c 18
  have XSPut : Fun K "__str__" "Put.__str__" sPutStr (He.ma K (He.ga K "Put") "__str__") fdSPut := fun_of YSPut
  have aOpen : PySem.W.nsIn K mainGlobals "Open" = some (some (.ref (He.ga K "Open"))) := of_decide_eq_true (told_at c 13 5)
  have inOpen : PySem.W.findIn K (.ref (He.ga K "Open")) "__init__" = some (some (.ref (He.ma K (He.ga K "Open") "__init__"))) := of_decide_eq_true (told_at c 13 6)
  have iOpen : PySem.W.isFn K (.ref (He.ma K (He.ga K "Open") "__init__")) = true := (told_at c 13 7)
  obtain ⟨fdOpen, YOpen⟩ := told_fn c 19
  have XOpen : Fun K "__init__" "Open.__init__" sOpenInit (He.ma K (He.ga K "Open") "__init__") fdOpen := fun_of YOpen
  have pgOpen : PySem.W.plainGet K (He.ga K "Open") Str.empty = true := (told_at c 13 8)
  have hdOpen : PySem.W.hasDictIn K (He.ga K "Open") = true := (told_at c 13 9)
  have poOpen : PySem.W.plainOver K (He.ga K "Open") = true := (told_at c 14 0)
  have saOpen : PySem.W.findIn K (.ref (He.ga K "Open")) "__setattr__" = some (some (.builtin "object.__setattr__")) := of_decide_eq_true (told_at c 14 1)
  have mkOpen : PySem.W.makesIn K (He.ga K "Open") = true := (told_at c 14 2)
  have kcOpen : PySem.W.keepIn K (.ref (He.ga K "Open")) = true := (told_at c 14 3)
  have nOpen0 : PySem.W.findIn K (.ref (He.ga K "Open")) "word" = some none := of_decide_eq_true (told_at c 14 4)
  have nOpen1 : PySem.W.findIn K (.ref (He.ga K "Open")) "name" = some none := of_decide_eq_true (told_at c 14 5)
  have inSOpen : PySem.W.findIn K (.ref (He.ga K "Open")) "__str__" = some (some (.ref (He.ma K (He.ga K "Open") "__str__"))) := of_decide_eq_true (told_at c 14 6)
  have iSOpen : PySem.W.isFn K (.ref (He.ma K (He.ga K "Open") "__str__")) = true := (told_at c 14 7)
  obtain ⟨fdSOpen, YSOpen⟩ := told_fn c 20
  have XSOpen : Fun K "__str__" "Open.__str__" sOpenStr (He.ma K (He.ga K "Open") "__str__") fdSOpen := fun_of YSOpen
  have aRow : PySem.W.nsIn K mainGlobals "Row" = some (some (.ref (He.ga K "Row"))) := of_decide_eq_true (told_at c 14 8)
  have aissequence : PySem.W.nsIn K mainGlobals "is_sequence" = some (some (.ref (He.ga K "is_sequence"))) := of_decide_eq_true (told_at c 14 9)
  obtain ⟨fdissequence, Yissequence⟩ := told_fn c 21
  have Xissequence : Fun K "is_sequence" "is_sequence" sIsSeq (He.ga K "is_sequence") fdissequence := fun_of Yissequence
  have aInvalidPart : PySem.W.nsIn K mainGlobals "InvalidPart" = some (some (.ref (He.ga K "InvalidPart"))) := of_decide_eq_true (told_at c 15 0)
  have xInvalidPart := excQ_ok (K := K) (C := (He.ga K "InvalidPart")) (nid := "ValueError.__new__") (told_at c 15 1)
  have saInvalidPart : PySem.W.findIn K (.ref (He.ga K "InvalidPart")) "__setattr__" = some (some (.builtin "object.__setattr__")) := of_decide_eq_true (told_at c 15 2)
  have gaInvalidPart : PySem.W.findIn K (.ref (He.ga K "InvalidPart")) "__getattribute__" = some (some (.builtin "BaseException.__getattribute__")) := of_decide_eq_true (told_at c 15 3)
  have ggInvalidPart : PySem.W.findIn K (.ref (He.ga K "InvalidPart")) "__getattr__" = some (none) := of_decide_eq_true (told_at c 15 4)
  have nfInvalidPart : PySem.W.findIn K (.ref (He.ga K "InvalidPart")) "word" = some (none) := of_decide_eq_true (told_at c 15 5)
  have inInvalidPart : PySem.W.findIn K (.ref (He.ga K "InvalidPart")) "__init__" = some (some (.ref (He.ma K (He.ga K "InvalidPart") "__init__"))) := of_decide_eq_true (told_at c 15 6)
  have haInvalidPart : PySem.W.findIn K (.ref (He.ga K "InvalidPart")) "__class__" = some (some (.builtin "object.__class__")) := of_decide_eq_true (told_at c 15 7)
  have tiInvalidPart : PySem.W.typeIn K (.ref (He.ma K (He.ga K "InvalidPart") "__init__")) = some (.type "function") := of_decide_eq_true (told_at c 15 8)
  obtain ⟨fdInvalidPart, YInvalidPart⟩ := told_fn c 22
  have XInvalidPart : Fun K "__init__" "InvalidPart.__init__" sIPInit (He.ma K (He.ga K "InvalidPart") "__init__") fdInvalidPart := fun_of YInvalidPart
  have kcInvalidPart : PySem.W.keepIn K (.ref (He.ga K "InvalidPart")) = true := (told_at c 15 9)
  have eCInvalidPart : PySem.W.subIn K (.ref (He.ga K "InvalidPart")) (.type "BaseException") = some true := of_decide_eq_true (told_at c 16 0)
  have tCInvalidPart : PySem.W.typeIn K (.ref (He.ga K "InvalidPart")) = some (.type "type") := of_decide_eq_true (told_at c 16 1)
  have hCInvalidPart : PySem.W.hasDictIn K (He.ga K "InvalidPart") = true := (told_at c 16 2)
  have iCInvalidPart : PySem.W.isClsIn K (He.ga K "InvalidPart") = true := (told_at c 16 3)
  have sCInvalidPart : PySem.W.subIn K (.ref (He.ga K "InvalidPart")) (.ref (He.ga K "InvalidPart")) = some true := of_decide_eq_true (told_at c 16 4)
  have hmInvalidPart : PySem.W.mroIn K (He.ga K "InvalidPart") (.type "object") = some true := of_decide_eq_true (told_at c 16 5)
  have aPart : PySem.W.nsIn K mainGlobals "Part" = some (some (.ref (He.ga K "Part"))) := of_decide_eq_true (told_at c 16 6)
  have inPart : PySem.W.findIn K (.ref (He.ga K "Part")) "__init__" = some (some (.ref (He.ma K (He.ga K "Part") "__init__"))) := of_decide_eq_true (told_at c 16 7)
  have iPart : PySem.W.isFn K (.ref (He.ma K (He.ga K "Part") "__init__")) = true := (told_at c 16 8)
  have SDPart : ∀ H : Hp, SqT K H (He.dflAt ("Part", some "__init__") 0 K) [] := fun H => tupQ_ok (vs := []) (told_at c 16 9) H
  obtain ⟨fdPart, YPart⟩ := told_fn c 23
  have FPart : FunD K "__init__" "Part.__init__" (defArgs sPartInit) (defBody sPartInit) (defScope sPartInit) [.ref (He.dflAt ("Part", some "__init__") 0 K)] [] (He.ma K (He.ga K "Part") "__init__") fdPart := YPart
  have pgPart : PySem.W.plainGet K (He.ga K "Part") Str.empty = true := (told_at c 17 0)
  have hdPart : PySem.W.hasDictIn K (He.ga K "Part") = true := (told_at c 17 1)
  have poPart : PySem.W.plainOver K (He.ga K "Part") = true := (told_at c 17 2)
  have saPart : PySem.W.findIn K (.ref (He.ga K "Part")) "__setattr__" = some (some (.builtin "object.__setattr__")) := of_decide_eq_true (told_at c 17 3)
  have mkPart : PySem.W.makesIn K (He.ga K "Part") = true := (told_at c 17 4)
  have kcPart : PySem.W.keepIn K (.ref (He.ga K "Part")) = true := (told_at c 17 5)
  have nPart0 : PySem.W.findIn K (.ref (He.ga K "Part")) "name" = some none := of_decide_eq_true (told_at c 17 6)
  have nPart1 : PySem.W.findIn K (.ref (He.ga K "Part")) "rows" = some none := of_decide_eq_true (told_at c 17 7)
  have instrPart : PySem.W.findIn K (.ref (He.ga K "Part")) "__str__" = some (some (.ref (He.ma K (He.ga K "Part") "__str__"))) := of_decide_eq_true (told_at c 17 8)
  have istrPart : PySem.W.isFn K (.ref (He.ma K (He.ga K "Part") "__str__")) = true := (told_at c 17 9)
  obtain ⟨fdstrPart, YstrPart⟩ := told_fn c 24
  have XstrPart : Fun K "__str__" "Part.__str__" sPartStr (He.ma K (He.ga K "Part") "__str__") fdstrPart := fun_of YstrPart
  have ineqPart : PySem.W.findIn K (.ref (He.ga K "Part")) "__eq__" = some (some (.ref (He.ma K (He.ga K "Part") "__eq__"))) := of_decide_eq_true (told_at c 18 0)
  have ieqPart : PySem.W.isFn K (.ref (He.ma K (He.ga K "Part") "__eq__")) = true := (told_at c 18 1)
  obtain ⟨fdeqPart, YeqPart⟩ := told_fn c 25
  have XeqPart : Fun K "__eq__" "Part.__eq__" sPartEq (He.ma K (He.ga K "Part") "__eq__") fdeqPart := fun_of YeqPart
  have aCOUNTINGWORDS : PySem.W.nsIn K mainGlobals "COUNTING_WORDS" = some (some (.ref (He.ga K "COUNTING_WORDS"))) := of_decide_eq_true (told_at c 18 2)
  have SCOUNTINGWORDS : ∀ H : Hp, SqT K H (He.ga K "COUNTING_WORDS") [.str "note", .str "skip", .str "set", .str "keep", .str "back"] := fun H => He.tupB_ok (x := "COUNTING_WORDS") (vs := [.str "note", .str "skip", .str "set", .str "keep", .str "back"]) (told_at c 18 3) H
  have aispair : PySem.W.nsIn K mainGlobals "is_pair" = some (some (.ref (He.ga K "is_pair"))) := of_decide_eq_true (told_at c 18 4)
  obtain ⟨fdispair, Yispair⟩ := told_fn c 26
  have Xispair : Fun K "is_pair" "is_pair" sIsPair (He.ga K "is_pair") fdispair := fun_of Yispair
  have aarecounters : PySem.W.nsIn K mainGlobals "are_counters" = some (some (.ref (He.ga K "are_counters"))) := of_decide_eq_true (told_at c 18 5)
  obtain ⟨fdarecounters, Yarecounters⟩ := told_fn c 27
  have Xarecounters : Fun K "are_counters" "are_counters" sAreC (He.ga K "are_counters") fdarecounters := fun_of Yarecounters
  have aareparts : PySem.W.nsIn K mainGlobals "are_parts" = some (some (.ref (He.ga K "are_parts"))) := of_decide_eq_true (told_at c 18 6)
  obtain ⟨fdareparts, Yareparts⟩ := told_fn c 28
  have Xareparts : Fun K "are_parts" "are_parts" sAreP (He.ga K "are_parts") fdareparts := fun_of Yareparts
  have acountersareknown : PySem.W.nsIn K mainGlobals "counters_are_known" = some (some (.ref (He.ga K "counters_are_known"))) := of_decide_eq_true (told_at c 18 7)
  obtain ⟨fdcountersareknown, Ycountersareknown⟩ := told_fn c 29
  have Xcountersareknown : Fun K "counters_are_known" "counters_are_known" sCKnown (He.ga K "counters_are_known") fdcountersareknown := fun_of Ycountersareknown
  have anamesput : PySem.W.nsIn K mainGlobals "names_put" = some (some (.ref (He.ga K "names_put"))) := of_decide_eq_true (told_at c 18 8)
  obtain ⟨fdnamesput, Ynamesput⟩ := told_fn c 30
  have Xnamesput : Fun K "names_put" "names_put" sNPut (He.ga K "names_put") fdnamesput := fun_of Ynamesput
  have aputsareearlier : PySem.W.nsIn K mainGlobals "puts_are_earlier" = some (some (.ref (He.ga K "puts_are_earlier"))) := of_decide_eq_true (told_at c 18 9)
  obtain ⟨fdputsareearlier, Yputsareearlier⟩ := told_fn c 31
  have Xputsareearlier : Fun K "puts_are_earlier" "puts_are_earlier" sPEarly (He.ga K "puts_are_earlier") fdputsareearlier := fun_of Yputsareearlier
  have anamesreached : PySem.W.nsIn K mainGlobals "names_reached" = some (some (.ref (He.ga K "names_reached"))) := of_decide_eq_true (told_at c 19 0)
  obtain ⟨fdnamesreached, Ynamesreached⟩ := told_fn c 32
  have Xnamesreached : Fun K "names_reached" "names_reached" sNReach (He.ga K "names_reached") fdnamesreached := fun_of Ynamesreached
  have aunroll : PySem.W.nsIn K mainGlobals "unroll" = some (some (.ref (He.ga K "unroll"))) := of_decide_eq_true (told_at c 19 1)
  obtain ⟨fdunroll, Yunroll⟩ := told_fn c 33
  have Xunroll : Fun K "unroll" "unroll" sUnr1 (He.ga K "unroll") fdunroll := fun_of Yunroll
  have aunrolledtext : PySem.W.nsIn K mainGlobals "unrolled_text" = some (some (.ref (He.ga K "unrolled_text"))) := of_decide_eq_true (told_at c 19 2)
  obtain ⟨fdunrolledtext, Yunrolledtext⟩ := told_fn c 34
  have Xunrolledtext : Fun K "unrolled_text" "unrolled_text" sUText (He.ga K "unrolled_text") fdunrolledtext := fun_of Yunrolledtext
  have arefsareknown : PySem.W.nsIn K mainGlobals "refs_are_known" = some (some (.ref (He.ga K "refs_are_known"))) := of_decide_eq_true (told_at c 19 3)
  obtain ⟨fdrefsareknown, Yrefsareknown⟩ := told_fn c 35
  have Xrefsareknown : Fun K "refs_are_known" "refs_are_known" sRefsK (He.ga K "refs_are_known") fdrefsareknown := fun_of Yrefsareknown
  have aBook : PySem.W.nsIn K mainGlobals "Book" = some (some (.ref (He.ga K "Book"))) := of_decide_eq_true (told_at c 19 4)
  have inBook : PySem.W.findIn K (.ref (He.ga K "Book")) "__init__" = some (some (.ref (He.ma K (He.ga K "Book") "__init__"))) := of_decide_eq_true (told_at c 19 5)
  have iBook : PySem.W.isFn K (.ref (He.ma K (He.ga K "Book") "__init__")) = true := (told_at c 19 6)
  obtain ⟨fdBook, YBook⟩ := told_fn c 36
  have XBook : Fun K "__init__" "Book.__init__" sBInit (He.ma K (He.ga K "Book") "__init__") fdBook := fun_of YBook
  have pgBook : PySem.W.plainGet K (He.ga K "Book") Str.empty = true := (told_at c 19 7)
  have hdBook : PySem.W.hasDictIn K (He.ga K "Book") = true := (told_at c 19 8)
  have poBook : PySem.W.plainOver K (He.ga K "Book") = true := (told_at c 19 9)
  have saBook : PySem.W.findIn K (.ref (He.ga K "Book")) "__setattr__" = some (some (.builtin "object.__setattr__")) := of_decide_eq_true (told_at c 20 0)
  have mkBook : PySem.W.makesIn K (He.ga K "Book") = true := (told_at c 20 1)
  have kcBook : PySem.W.keepIn K (.ref (He.ga K "Book")) = true := (told_at c 20 2)
  have nBook0 : PySem.W.findIn K (.ref (He.ga K "Book")) "counters" = some none := of_decide_eq_true (told_at c 20 3)
  have nBook1 : PySem.W.findIn K (.ref (He.ga K "Book")) "parts" = some none := of_decide_eq_true (told_at c 20 4)
  have nBook2 : PySem.W.findIn K (.ref (He.ga K "Book")) "flat" = some none := of_decide_eq_true (told_at c 20 5)
  obtain ⟨fdnamesBook, YnamesBook⟩ := told_fn c 37
  have XnamesBook : Fun K "names" "Book.names" sBNames (getterQ K (He.ma K (He.ga K "Book") "names")) fdnamesBook := fun_of YnamesBook
  obtain ⟨fdtopsBook, YtopsBook⟩ := told_fn c 38
  have XtopsBook : Fun K "tops" "Book.tops" sBTops (getterQ K (He.ma K (He.ga K "Book") "tops")) fdtopsBook := fun_of YtopsBook
  obtain ⟨fdunrolledBook, YunrolledBook⟩ := told_fn c 39
  have XunrolledBook : Fun K "unrolled" "Book.unrolled" sBUnr (getterQ K (He.ma K (He.ga K "Book") "unrolled")) fdunrolledBook := fun_of YunrolledBook
  have inchainBook : PySem.W.findIn K (.ref (He.ga K "Book")) "chain" = some (some (.ref (He.ma K (He.ga K "Book") "chain"))) := of_decide_eq_true (told_at c 20 9)
  have ichainBook : PySem.W.isFn K (.ref (He.ma K (He.ga K "Book") "chain")) = true := (told_at c 21 0)
  obtain ⟨fdchainBook, YchainBook⟩ := told_fn c 40
  have XchainBook : Fun K "chain" "Book.chain" sBChain (He.ma K (He.ga K "Book") "chain") fdchainBook := fun_of YchainBook
  have aInvalidBook : PySem.W.nsIn K mainGlobals "InvalidBook" = some (some (.ref (He.ga K "InvalidBook"))) := of_decide_eq_true (told_at c 21 1)
  have xInvalidBook := excQ_ok (K := K) (C := (He.ga K "InvalidBook")) (nid := "ValueError.__new__") (told_at c 21 2)
  have saInvalidBook : PySem.W.findIn K (.ref (He.ga K "InvalidBook")) "__setattr__" = some (some (.builtin "object.__setattr__")) := of_decide_eq_true (told_at c 21 3)
  have gaInvalidBook : PySem.W.findIn K (.ref (He.ga K "InvalidBook")) "__getattribute__" = some (some (.builtin "BaseException.__getattribute__")) := of_decide_eq_true (told_at c 21 4)
  have ggInvalidBook : PySem.W.findIn K (.ref (He.ga K "InvalidBook")) "__getattr__" = some (none) := of_decide_eq_true (told_at c 21 5)
  have nfInvalidBook : PySem.W.findIn K (.ref (He.ga K "InvalidBook")) "word" = some (none) := of_decide_eq_true (told_at c 21 6)
  have inInvalidBook : PySem.W.findIn K (.ref (He.ga K "InvalidBook")) "__init__" = some (some (.ref (He.ma K (He.ga K "InvalidBook") "__init__"))) := of_decide_eq_true (told_at c 21 7)
  have haInvalidBook : PySem.W.findIn K (.ref (He.ga K "InvalidBook")) "__class__" = some (some (.builtin "object.__class__")) := of_decide_eq_true (told_at c 21 8)
  have tiInvalidBook : PySem.W.typeIn K (.ref (He.ma K (He.ga K "InvalidBook") "__init__")) = some (.type "function") := of_decide_eq_true (told_at c 21 9)
  obtain ⟨fdInvalidBook, YInvalidBook⟩ := told_fn c 41
  have XInvalidBook : Fun K "__init__" "InvalidBook.__init__" sIBInit (He.ma K (He.ga K "InvalidBook") "__init__") fdInvalidBook := fun_of YInvalidBook
  have kcInvalidBook : PySem.W.keepIn K (.ref (He.ga K "InvalidBook")) = true := (told_at c 22 0)
  have eCInvalidBook : PySem.W.subIn K (.ref (He.ga K "InvalidBook")) (.type "BaseException") = some true := of_decide_eq_true (told_at c 22 1)
  have tCInvalidBook : PySem.W.typeIn K (.ref (He.ga K "InvalidBook")) = some (.type "type") := of_decide_eq_true (told_at c 22 2)
  have hCInvalidBook : PySem.W.hasDictIn K (He.ga K "InvalidBook") = true := (told_at c 22 3)
  have iCInvalidBook : PySem.W.isClsIn K (He.ga K "InvalidBook") = true := (told_at c 22 4)
  have sCInvalidBook : PySem.W.subIn K (.ref (He.ga K "InvalidBook")) (.ref (He.ga K "InvalidBook")) = some true := of_decide_eq_true (told_at c 22 5)
  have hmInvalidBook : PySem.W.mroIn K (He.ga K "InvalidBook") (.type "object") = some true := of_decide_eq_true (told_at c 22 6)
  have alawseed : PySem.W.nsIn K mainGlobals "_law_seed" = some (some (.ref (He.ga K "_law_seed"))) := of_decide_eq_true (told_at c 22 7)
  obtain ⟨fdlawseed, Ylawseed⟩ := told_fn c 42
  have Xlawseed : Fun K "_law_seed" "_law_seed" sSeed (He.ga K "_law_seed") fdlawseed := fun_of Ylawseed
  have alawchoose : PySem.W.nsIn K mainGlobals "_law_choose" = some (some (.ref (He.ga K "_law_choose"))) := of_decide_eq_true (told_at c 22 8)
  obtain ⟨fdlawchoose, Ylawchoose⟩ := told_fn c 43
  have Xlawchoose : Fun K "_law_choose" "_law_choose" sChoose (He.ga K "_law_choose") fdlawchoose := fun_of Ylawchoose
  have alawoneof : PySem.W.nsIn K mainGlobals "_law_one_of" = some (some (.ref (He.ga K "_law_one_of"))) := of_decide_eq_true (told_at c 22 9)
  obtain ⟨fdlawoneof, Ylawoneof⟩ := told_fn c 44
  have Xlawoneof : Fun K "_law_one_of" "_law_one_of" sOne (He.ga K "_law_one_of") fdlawoneof := fun_of Ylawoneof
  have alawpools : PySem.W.nsIn K mainGlobals "_law_pools" = some (some (.ref (He.ga K "_law_pools"))) := of_decide_eq_true (told_at c 23 0)
  obtain ⟨fdlawpools, Ylawpools⟩ := told_fn c 45
  have Xlawpools : Fun K "_law_pools" "_law_pools" sPools (He.ga K "_law_pools") fdlawpools := fun_of Ylawpools
  have alawcounters : PySem.W.nsIn K mainGlobals "_law_counters" = some (some (.ref (He.ga K "_law_counters"))) := of_decide_eq_true (told_at c 23 1)
  obtain ⟨fdlawcounters, Ylawcounters⟩ := told_fn c 46
  have Xlawcounters : Fun K "_law_counters" "_law_counters" sCounters (He.ga K "_law_counters") fdlawcounters := fun_of Ylawcounters
  have alawrow : PySem.W.nsIn K mainGlobals "_law_row" = some (some (.ref (He.ga K "_law_row"))) := of_decide_eq_true (told_at c 23 2)
  obtain ⟨fdlawrow, Ylawrow⟩ := told_fn c 47
  have Xlawrow : Fun K "_law_row" "_law_row" sLRow (He.ga K "_law_row") fdlawrow := fun_of Ylawrow
  have alawunrolled : PySem.W.nsIn K mainGlobals "_law_unrolled" = some (some (.ref (He.ga K "_law_unrolled"))) := of_decide_eq_true (told_at c 23 3)
  obtain ⟨fdlawunrolled, Ylawunrolled⟩ := told_fn c 48
  have Xlawunrolled : Fun K "_law_unrolled" "_law_unrolled" sUnrolled (He.ga K "_law_unrolled") fdlawunrolled := fun_of Ylawunrolled
  have alawbook : PySem.W.nsIn K mainGlobals "_law_book" = some (some (.ref (He.ga K "_law_book"))) := of_decide_eq_true (told_at c 23 4)
  obtain ⟨fdlawbook, Ylawbook⟩ := told_fn c 49
  have Xlawbook : Fun K "_law_book" "_law_book" sBook (He.ga K "_law_book") fdlawbook := fun_of Ylawbook
  have alawmaderow : PySem.W.nsIn K mainGlobals "_law_made_row" = some (some (.ref (He.ga K "_law_made_row"))) := of_decide_eq_true (told_at c 23 5)
  obtain ⟨fdlawmaderow, Ylawmaderow⟩ := told_fn c 50
  have Xlawmaderow : Fun K "_law_made_row" "_law_made_row" sMadeRow (He.ga K "_law_made_row") fdlawmaderow := fun_of Ylawmaderow
  have alawleaf : PySem.W.nsIn K mainGlobals "_law_leaf" = some (some (.ref (He.ga K "_law_leaf"))) := of_decide_eq_true (told_at c 23 6)
  obtain ⟨fdlawleaf, Ylawleaf⟩ := told_fn c 51
  have Xlawleaf : Fun K "_law_leaf" "_law_leaf" sLeaf (He.ga K "_law_leaf") fdlawleaf := fun_of Ylawleaf
  have alawany : PySem.W.nsIn K mainGlobals "_law_any" = some (some (.ref (He.ga K "_law_any"))) := of_decide_eq_true (told_at c 23 7)
  obtain ⟨fdlawany, Ylawany⟩ := told_fn c 52
  have Xlawany : Fun K "_law_any" "_law_any" sAny (He.ga K "_law_any") fdlawany := fun_of Ylawany
  have alawheard : PySem.W.nsIn K mainGlobals "_law_heard" = some (some (.ref (He.ga K "_law_heard"))) := of_decide_eq_true (told_at c 23 8)
  obtain ⟨fdlawheard, Ylawheard⟩ := told_fn c 53
  have Xlawheard : Fun K "_law_heard" "_law_heard" sHeard7 (He.ga K "_law_heard") fdlawheard := fun_of Ylawheard
  have alawbent : PySem.W.nsIn K mainGlobals "_law_bent" = some (some (.ref (He.ga K "_law_bent"))) := of_decide_eq_true (told_at c 23 9)
  obtain ⟨fdlawbent, Ylawbent⟩ := told_fn c 54
  have Xlawbent : Fun K "_law_bent" "_law_bent" sBent (He.ga K "_law_bent") fdlawbent := fun_of Ylawbent
  have alaw : PySem.W.nsIn K mainGlobals "law" = some (some (.ref (He.ga K "law"))) := of_decide_eq_true (told_at c 24 0)
  obtain ⟨fdlaw, Ylaw⟩ := told_fn c 55
  have Xlaw : Fun K "law" "law" sLaw7 (He.ga K "law") fdlaw := fun_of Ylaw
  have hnGet : PySem.W.specialIn K (.builtin "object.__class__") "__get__" = some (some (.builtin "getset_descriptor.__get__")) := of_decide_eq_true (told_at c 24 1)
  have htGet : PySem.W.takesIn K (.builtin "object.__class__") = some true := of_decide_eq_true (told_at c 24 2)
  have kDNoneType : PySem.W.kitOne K (.type "NoneType") (.ref (He.ga K "Row")) = some false := of_decide_eq_true (told_at c 24 3)
  have kDbool : PySem.W.kitOne K (.type "bool") (.ref (He.ga K "Row")) = some false := of_decide_eq_true (told_at c 24 4)
  have kDint : PySem.W.kitOne K (.type "int") (.ref (He.ga K "Row")) = some false := of_decide_eq_true (told_at c 24 5)
  have kDstr : PySem.W.kitOne K (.type "str") (.ref (He.ga K "Row")) = some false := of_decide_eq_true (told_at c 24 6)
  have kDlist : PySem.W.kitOne K (.type "list") (.ref (He.ga K "Row")) = some false := of_decide_eq_true (told_at c 24 7)
  have kDtuple : PySem.W.kitOne K (.type "tuple") (.ref (He.ga K "Row")) = some false := of_decide_eq_true (told_at c 24 8)
  have kDdict : PySem.W.kitOne K (.type "dict") (.ref (He.ga K "Row")) = some false := of_decide_eq_true (told_at c 24 9)
  have kRNote : PySem.W.kitOne K (.ref (He.ga K "Note")) (.ref (He.ga K "Row")) = some true := of_decide_eq_true (told_at c 25 0)
  have cANote : PySem.W.findIn K (.ref (He.ga K "Note")) "__class__" = some (some (.builtin "object.__class__")) := of_decide_eq_true (told_at c 25 1)
  have cMNote : PySem.W.mroIn K (He.ga K "Note") (.type "object") = some true := of_decide_eq_true (told_at c 25 2)
  have kRSkip : PySem.W.kitOne K (.ref (He.ga K "Skip")) (.ref (He.ga K "Row")) = some true := of_decide_eq_true (told_at c 25 3)
  have cASkip : PySem.W.findIn K (.ref (He.ga K "Skip")) "__class__" = some (some (.builtin "object.__class__")) := of_decide_eq_true (told_at c 25 4)
  have cMSkip : PySem.W.mroIn K (He.ga K "Skip") (.type "object") = some true := of_decide_eq_true (told_at c 25 5)
  have kRSet : PySem.W.kitOne K (.ref (He.ga K "Set")) (.ref (He.ga K "Row")) = some true := of_decide_eq_true (told_at c 25 6)
  have cASet : PySem.W.findIn K (.ref (He.ga K "Set")) "__class__" = some (some (.builtin "object.__class__")) := of_decide_eq_true (told_at c 25 7)
  have cMSet : PySem.W.mroIn K (He.ga K "Set") (.type "object") = some true := of_decide_eq_true (told_at c 25 8)
  have kRKeep : PySem.W.kitOne K (.ref (He.ga K "Keep")) (.ref (He.ga K "Row")) = some true := of_decide_eq_true (told_at c 25 9)
  have cAKeep : PySem.W.findIn K (.ref (He.ga K "Keep")) "__class__" = some (some (.builtin "object.__class__")) := of_decide_eq_true (told_at c 26 0)
  have cMKeep : PySem.W.mroIn K (He.ga K "Keep") (.type "object") = some true := of_decide_eq_true (told_at c 26 1)
  have kRBack : PySem.W.kitOne K (.ref (He.ga K "Back")) (.ref (He.ga K "Row")) = some true := of_decide_eq_true (told_at c 26 2)
  have cABack : PySem.W.findIn K (.ref (He.ga K "Back")) "__class__" = some (some (.builtin "object.__class__")) := of_decide_eq_true (told_at c 26 3)
  have cMBack : PySem.W.mroIn K (He.ga K "Back") (.type "object") = some true := of_decide_eq_true (told_at c 26 4)
  have kRRef : PySem.W.kitOne K (.ref (He.ga K "Ref")) (.ref (He.ga K "Row")) = some true := of_decide_eq_true (told_at c 26 5)
  have cARef : PySem.W.findIn K (.ref (He.ga K "Ref")) "__class__" = some (some (.builtin "object.__class__")) := of_decide_eq_true (told_at c 26 6)
  have cMRef : PySem.W.mroIn K (He.ga K "Ref") (.type "object") = some true := of_decide_eq_true (told_at c 26 7)
  have kRPut : PySem.W.kitOne K (.ref (He.ga K "Put")) (.ref (He.ga K "Row")) = some true := of_decide_eq_true (told_at c 26 8)
  have cAPut : PySem.W.findIn K (.ref (He.ga K "Put")) "__class__" = some (some (.builtin "object.__class__")) := of_decide_eq_true (told_at c 26 9)
  have cMPut : PySem.W.mroIn K (He.ga K "Put") (.type "object") = some true := of_decide_eq_true (told_at c 27 0)
  have kROpen : PySem.W.kitOne K (.ref (He.ga K "Open")) (.ref (He.ga K "Row")) = some true := of_decide_eq_true (told_at c 27 1)
  have cAOpen : PySem.W.findIn K (.ref (He.ga K "Open")) "__class__" = some (some (.builtin "object.__class__")) := of_decide_eq_true (told_at c 27 2)
  have cMOpen : PySem.W.mroIn K (He.ga K "Open") (.type "object") = some true := of_decide_eq_true (told_at c 27 3)
  have pAPart : PySem.W.findIn K (.ref (He.ga K "Part")) "__class__" = some (some (.builtin "object.__class__")) := of_decide_eq_true (told_at c 27 4)
  have pMPart : PySem.W.mroIn K (He.ga K "Part") (.type "object") = some true := of_decide_eq_true (told_at c 27 5)
  have nePart : PySem.W.findIn K (.ref (He.ga K "Part")) "__ne__" = some (some (.builtin "object.__ne__")) := of_decide_eq_true (told_at c 27 6)
  have kCPart : PySem.W.kitOne K (.ref (He.ga K "Part")) (.ref (He.ga K "Part")) = some true := of_decide_eq_true (told_at c 27 7)
  have kSPart : PySem.W.kitOne K (.type "str") (.ref (He.ga K "Part")) = some false := of_decide_eq_true (told_at c 27 8)
  have nCPart : PySem.W.notFirst K (He.ga K "Part") (.ref (He.ga K "Part")) = true := (told_at c 27 9)
  have nSPart : PySem.W.notFirst K (He.ga K "Part") (.type "str") = true := (told_at c 28 0)
  have kPDNoneType : PySem.W.kitOne K (.type "NoneType") (.ref (He.ga K "Part")) = some false := of_decide_eq_true (told_at c 28 1)
  have kPDbool : PySem.W.kitOne K (.type "bool") (.ref (He.ga K "Part")) = some false := of_decide_eq_true (told_at c 28 2)
  have kPDint : PySem.W.kitOne K (.type "int") (.ref (He.ga K "Part")) = some false := of_decide_eq_true (told_at c 28 3)
  have kPDstr : PySem.W.kitOne K (.type "str") (.ref (He.ga K "Part")) = some false := of_decide_eq_true (told_at c 28 4)
  have kPDlist : PySem.W.kitOne K (.type "list") (.ref (He.ga K "Part")) = some false := of_decide_eq_true (told_at c 28 5)
  have kPDtuple : PySem.W.kitOne K (.type "tuple") (.ref (He.ga K "Part")) = some false := of_decide_eq_true (told_at c 28 6)
  have kPDdict : PySem.W.kitOne K (.type "dict") (.ref (He.ga K "Part")) = some false := of_decide_eq_true (told_at c 28 7)
  have kSqPart : PySem.W.kitAny K (.ref (He.ga K "Part")) [.type "list", .type "tuple"] = some false := of_decide_eq_true (told_at c 28 8)
  have kCN : PySem.W.kitOne K (.ref (He.ga K "InvalidBook")) (.ref (He.ga K "NoteError")) = some true := of_decide_eq_true (told_at c 28 9)
  have kIP : PySem.W.kitOne K (.ref (He.ga K "InvalidBook")) (.ref (He.ga K "InvalidPart")) = some false := of_decide_eq_true (told_at c 29 0)
  have e := hfa.symm.trans (PySem.W.mg_of X G alaw)
  cases e
  have Mint : mg "int" = none := PySem.W.mg_none_of X G zint
  have Mbool : mg "bool" = none := PySem.W.mg_none_of X G zbool
  have Mstr : mg "str" = none := PySem.W.mg_none_of X G zstr
  have Misinstance : mg "isinstance" = none := PySem.W.mg_none_of X G zisinstance
  have Mlen : mg "len" = none := PySem.W.mg_none_of X G zlen
  have Mall : mg "all" = none := PySem.W.mg_none_of X G zall
  have Mabs : mg "abs" = none := PySem.W.mg_none_of X G zabs
  have Mrange : mg "range" = none := PySem.W.mg_none_of X G zrange
  have Mlist : mg "list" = none := PySem.W.mg_none_of X G zlist
  have Mtuple : mg "tuple" = none := PySem.W.mg_none_of X G ztuple
  have Mmax : mg "max" = none := PySem.W.mg_none_of X G zmax
  have Mmin : mg "min" = none := PySem.W.mg_none_of X G zmin
  have Mset : mg "set" = none := PySem.W.mg_none_of X G zset
  have Mreversed : mg "reversed" = none := PySem.W.mg_none_of X G zreversed
  have Msorted : mg "sorted" = none := PySem.W.mg_none_of X G zsorted
  have Mdict : mg "dict" = none := PySem.W.mg_none_of X G zdict
  have Menumerate : mg "enumerate" = none := PySem.W.mg_none_of X G zenumerate
  let Disinteger : At K mg "is_integer" sIsInteger ["value"] := ⟨(He.ga K "is_integer"), _, Xisinteger, Xisinteger.binds (ps := ["value"]) fun _ _ _ _ _ _ us hl => match us, hl with | [_], _ => rfl, PySem.W.mg_of X G aisinteger⟩
  let Disnumber : At K mg "is_number" sIsNumber ["value"] := ⟨(He.ga K "is_number"), _, Xisnumber, Xisnumber.binds (ps := ["value"]) fun _ _ _ _ _ _ us hl => match us, hl with | [_], _ => rfl, PySem.W.mg_of X G aisnumber⟩
  let Disname : At K mg "is_name" sIsName ["value"] := ⟨(He.ga K "is_name"), _, Xisname, Xisname.binds (ps := ["value"]) fun _ _ _ _ _ _ us hl => match us, hl with | [_], _ => rfl, PySem.W.mg_of X G aisname⟩
  have OInvalidRow : OexC K (He.ga K "InvalidRow") := ⟨xInvalidRow, saInvalidRow, eCInvalidRow, tCInvalidRow, kcInvalidRow⟩
  let EInvalidRow : TExc K mg "InvalidRow" "InvalidRow.__init__" "word" sIRInit := { C := (He.ga K "InvalidRow"), fI := (He.ma K (He.ga K "InvalidRow") "__init__"), fd := _, F := XInvalidRow, b := XInvalidRow.binds (ps := ["self", "word"]) fun _ _ _ _ _ _ us hl => match us, hl with | [_, _], _ => rfl, m := PySem.W.mg_of X G aInvalidRow, O := OInvalidRow, iC := inInvalidRow, tI := tiInvalidRow, noF := nfInvalidRow, E := ⟨gaInvalidRow, ggInvalidRow, eCInvalidRow, hCInvalidRow, haInvalidRow, hnGet, htGet, hmInvalidRow⟩, isC := iCInvalidRow, te := PySem.W.exm_ref eCInvalidRow hCInvalidRow tCInvalidRow sCInvalidRow, xf := ⟨gaInvalidRow, ggInvalidRow, eCInvalidRow, hCInvalidRow⟩ }
  let Dneedname : At K mg "need_name" sNeedName ["value", "word"] := ⟨(He.ga K "need_name"), _, Xneedname, Xneedname.binds (ps := ["value", "word"]) fun _ _ _ _ _ _ us hl => match us, hl with | [_, _], _ => rfl, PySem.W.mg_of X G aneedname⟩
  let MSNote : TStr K (He.ga K "Note") "Note.__str__" sNoteStr := ⟨(He.ma K (He.ga K "Note") "__str__"), _, XSNote, XSNote.binds (ps := ["self"]) fun _ _ _ _ _ _ us hl => match us, hl with | [_], _ => rfl, inSNote, iSNote⟩
  let MSSkip : TStr K (He.ga K "Skip") "Skip.__str__" sSkipStr := ⟨(He.ma K (He.ga K "Skip") "__str__"), _, XSSkip, XSSkip.binds (ps := ["self"]) fun _ _ _ _ _ _ us hl => match us, hl with | [_], _ => rfl, inSSkip, iSSkip⟩
  let MSSet : TStr K (He.ga K "Set") "Set.__str__" sSetStr := ⟨(He.ma K (He.ga K "Set") "__str__"), _, XSSet, XSSet.binds (ps := ["self"]) fun _ _ _ _ _ _ us hl => match us, hl with | [_], _ => rfl, inSSet, iSSet⟩
  let MSKeep : TStr K (He.ga K "Keep") "Keep.__str__" sKeepStr := ⟨(He.ma K (He.ga K "Keep") "__str__"), _, XSKeep, XSKeep.binds (ps := ["self"]) fun _ _ _ _ _ _ us hl => match us, hl with | [_], _ => rfl, inSKeep, iSKeep⟩
  let MSBack : TStr K (He.ga K "Back") "Back.__str__" sBackStr := ⟨(He.ma K (He.ga K "Back") "__str__"), _, XSBack, XSBack.binds (ps := ["self"]) fun _ _ _ _ _ _ us hl => match us, hl with | [_], _ => rfl, inSBack, iSBack⟩
  let MSRef : TStr K (He.ga K "Ref") "Ref.__str__" sRefStr := ⟨(He.ma K (He.ga K "Ref") "__str__"), _, XSRef, XSRef.binds (ps := ["self"]) fun _ _ _ _ _ _ us hl => match us, hl with | [_], _ => rfl, inSRef, iSRef⟩
  let MSPut : TStr K (He.ga K "Put") "Put.__str__" sPutStr := ⟨(He.ma K (He.ga K "Put") "__str__"), _, XSPut, XSPut.binds (ps := ["self"]) fun _ _ _ _ _ _ us hl => match us, hl with | [_], _ => rfl, inSPut, iSPut⟩
  let MSOpen : TStr K (He.ga K "Open") "Open.__str__" sOpenStr := ⟨(He.ma K (He.ga K "Open") "__str__"), _, XSOpen, XSOpen.binds (ps := ["self"]) fun _ _ _ _ _ _ us hl => match us, hl with | [_], _ => rfl, inSOpen, iSOpen⟩
  let Dissequence : At K mg "is_sequence" sIsSeq ["value"] := ⟨(He.ga K "is_sequence"), _, Xissequence, Xissequence.binds (ps := ["value"]) fun _ _ _ _ _ _ us hl => match us, hl with | [_], _ => rfl, PySem.W.mg_of X G aissequence⟩
  have OInvalidPart : OexC K (He.ga K "InvalidPart") := ⟨xInvalidPart, saInvalidPart, eCInvalidPart, tCInvalidPart, kcInvalidPart⟩
  let EInvalidPart : TExc K mg "InvalidPart" "InvalidPart.__init__" "word" sIPInit := { C := (He.ga K "InvalidPart"), fI := (He.ma K (He.ga K "InvalidPart") "__init__"), fd := _, F := XInvalidPart, b := XInvalidPart.binds (ps := ["self", "word"]) fun _ _ _ _ _ _ us hl => match us, hl with | [_, _], _ => rfl, m := PySem.W.mg_of X G aInvalidPart, O := OInvalidPart, iC := inInvalidPart, tI := tiInvalidPart, noF := nfInvalidPart, E := ⟨gaInvalidPart, ggInvalidPart, eCInvalidPart, hCInvalidPart, haInvalidPart, hnGet, htGet, hmInvalidPart⟩, isC := iCInvalidPart, te := PySem.W.exm_ref eCInvalidPart hCInvalidPart tCInvalidPart sCInvalidPart, xf := ⟨gaInvalidPart, ggInvalidPart, eCInvalidPart, hCInvalidPart⟩ }
  obtain ⟨dsPart0, vPart0, bPart0⟩ := FPart.binds1 (ps := ["self", "name", "rows"]) 2 0 (by simp) rfl fun _ _ _ _ _ _ _ us its hl hi => match us, its, hl, hi with | [_, _], [_], _, _ => ⟨_, rfl, rfl⟩
  obtain ⟨dsPart1, vPart1, bPart1⟩ := FPart.binds1 (ps := ["self", "name", "rows"]) 3 1 (by simp) rfl fun _ _ _ _ _ _ _ us its hl hi => match us, its, hl, hi with | [_, _, _], [_], _, _ => ⟨_, rfl, rfl⟩
  have ePart : dsPart1 = [] := by cases vPart1; rfl
  subst ePart
  let MstrPart : TMeth K (He.ga K "Part") "__str__" "Part.__str__" sPartStr ["self"] := ⟨(He.ma K (He.ga K "Part") "__str__"), _, XstrPart, XstrPart.binds (ps := ["self"]) fun _ _ _ _ _ _ us hl => match us, hl with | [_], _ => rfl, instrPart, istrPart⟩
  let MeqPart : TMeth K (He.ga K "Part") "__eq__" "Part.__eq__" sPartEq ["self", "other"] := ⟨(He.ma K (He.ga K "Part") "__eq__"), _, XeqPart, XeqPart.binds (ps := ["self", "other"]) fun _ _ _ _ _ _ us hl => match us, hl with | [_, _], _ => rfl, ineqPart, ieqPart⟩
  let Dispair : At K mg "is_pair" sIsPair ["value"] := ⟨(He.ga K "is_pair"), _, Xispair, Xispair.binds (ps := ["value"]) fun _ _ _ _ _ _ us hl => match us, hl with | [_], _ => rfl, PySem.W.mg_of X G aispair⟩
  let Darecounters : At K mg "are_counters" sAreC ["counters"] := ⟨(He.ga K "are_counters"), _, Xarecounters, Xarecounters.binds (ps := ["counters"]) fun _ _ _ _ _ _ us hl => match us, hl with | [_], _ => rfl, PySem.W.mg_of X G aarecounters⟩
  let Dareparts : At K mg "are_parts" sAreP ["parts"] := ⟨(He.ga K "are_parts"), _, Xareparts, Xareparts.binds (ps := ["parts"]) fun _ _ _ _ _ _ us hl => match us, hl with | [_], _ => rfl, PySem.W.mg_of X G aareparts⟩
  let Dcountersareknown : At K mg "counters_are_known" sCKnown ["counters", "parts"] := ⟨(He.ga K "counters_are_known"), _, Xcountersareknown, Xcountersareknown.binds (ps := ["counters", "parts"]) fun _ _ _ _ _ _ us hl => match us, hl with | [_, _], _ => rfl, PySem.W.mg_of X G acountersareknown⟩
  let Dnamesput : At K mg "names_put" sNPut ["part"] := ⟨(He.ga K "names_put"), _, Xnamesput, Xnamesput.binds (ps := ["part"]) fun _ _ _ _ _ _ us hl => match us, hl with | [_], _ => rfl, PySem.W.mg_of X G anamesput⟩
  let Dputsareearlier : At K mg "puts_are_earlier" sPEarly ["parts"] := ⟨(He.ga K "puts_are_earlier"), _, Xputsareearlier, Xputsareearlier.binds (ps := ["parts"]) fun _ _ _ _ _ _ us hl => match us, hl with | [_], _ => rfl, PySem.W.mg_of X G aputsareearlier⟩
  let Dnamesreached : At K mg "names_reached" sNReach ["parts"] := ⟨(He.ga K "names_reached"), _, Xnamesreached, Xnamesreached.binds (ps := ["parts"]) fun _ _ _ _ _ _ us hl => match us, hl with | [_], _ => rfl, PySem.W.mg_of X G anamesreached⟩
  let Dunroll : At K mg "unroll" sUnr1 ["part", "flat"] := ⟨(He.ga K "unroll"), _, Xunroll, Xunroll.binds (ps := ["part", "flat"]) fun _ _ _ _ _ _ us hl => match us, hl with | [_, _], _ => rfl, PySem.W.mg_of X G aunroll⟩
  let Dunrolledtext : At K mg "unrolled_text" sUText ["parts"] := ⟨(He.ga K "unrolled_text"), _, Xunrolledtext, Xunrolledtext.binds (ps := ["parts"]) fun _ _ _ _ _ _ us hl => match us, hl with | [_], _ => rfl, PySem.W.mg_of X G aunrolledtext⟩
  let Drefsareknown : At K mg "refs_are_known" sRefsK ["rows"] := ⟨(He.ga K "refs_are_known"), _, Xrefsareknown, Xrefsareknown.binds (ps := ["rows"]) fun _ _ _ _ _ _ us hl => match us, hl with | [_], _ => rfl, PySem.W.mg_of X G arefsareknown⟩
  let MnamesBook : TPr K (He.ga K "Book") "names" "Book.names" sBNames := ⟨(He.ma K (He.ga K "Book") "names"), (getterQ K (He.ma K (He.ga K "Book") "names")), _, XnamesBook, XnamesBook.binds (ps := ["self"]) fun _ _ _ _ _ _ us hl => match us, hl with | [_], _ => rfl, propQ_ok (told_at c 20 6)⟩
  let MtopsBook : TPr K (He.ga K "Book") "tops" "Book.tops" sBTops := ⟨(He.ma K (He.ga K "Book") "tops"), (getterQ K (He.ma K (He.ga K "Book") "tops")), _, XtopsBook, XtopsBook.binds (ps := ["self"]) fun _ _ _ _ _ _ us hl => match us, hl with | [_], _ => rfl, propQ_ok (told_at c 20 7)⟩
  let MunrolledBook : TPr K (He.ga K "Book") "unrolled" "Book.unrolled" sBUnr := ⟨(He.ma K (He.ga K "Book") "unrolled"), (getterQ K (He.ma K (He.ga K "Book") "unrolled")), _, XunrolledBook, XunrolledBook.binds (ps := ["self"]) fun _ _ _ _ _ _ us hl => match us, hl with | [_], _ => rfl, propQ_ok (told_at c 20 8)⟩
  let MchainBook : TMeth K (He.ga K "Book") "chain" "Book.chain" sBChain ["self", "name"] := ⟨(He.ma K (He.ga K "Book") "chain"), _, XchainBook, XchainBook.binds (ps := ["self", "name"]) fun _ _ _ _ _ _ us hl => match us, hl with | [_, _], _ => rfl, inchainBook, ichainBook⟩
  have OInvalidBook : OexC K (He.ga K "InvalidBook") := ⟨xInvalidBook, saInvalidBook, eCInvalidBook, tCInvalidBook, kcInvalidBook⟩
  let EInvalidBook : TExc K mg "InvalidBook" "InvalidBook.__init__" "word" sIBInit := { C := (He.ga K "InvalidBook"), fI := (He.ma K (He.ga K "InvalidBook") "__init__"), fd := _, F := XInvalidBook, b := XInvalidBook.binds (ps := ["self", "word"]) fun _ _ _ _ _ _ us hl => match us, hl with | [_, _], _ => rfl, m := PySem.W.mg_of X G aInvalidBook, O := OInvalidBook, iC := inInvalidBook, tI := tiInvalidBook, noF := nfInvalidBook, E := ⟨gaInvalidBook, ggInvalidBook, eCInvalidBook, hCInvalidBook, haInvalidBook, hnGet, htGet, hmInvalidBook⟩, isC := iCInvalidBook, te := PySem.W.exm_ref eCInvalidBook hCInvalidBook tCInvalidBook sCInvalidBook, xf := ⟨gaInvalidBook, ggInvalidBook, eCInvalidBook, hCInvalidBook⟩ }
  let Dlawseed : At K mg "_law_seed" sSeed ["_law_script", "_law_k"] := ⟨(He.ga K "_law_seed"), _, Xlawseed, Xlawseed.binds (ps := ["_law_script", "_law_k"]) fun _ _ _ _ _ _ us hl => match us, hl with | [_, _], _ => rfl, PySem.W.mg_of X G alawseed⟩
  let Dlawchoose : At K mg "_law_choose" sChoose ["_law_box", "_law_many"] := ⟨(He.ga K "_law_choose"), _, Xlawchoose, Xlawchoose.binds (ps := ["_law_box", "_law_many"]) fun _ _ _ _ _ _ us hl => match us, hl with | [_, _], _ => rfl, PySem.W.mg_of X G alawchoose⟩
  let Dlawoneof : At K mg "_law_one_of" sOne ["_law_box", "_law_some"] := ⟨(He.ga K "_law_one_of"), _, Xlawoneof, Xlawoneof.binds (ps := ["_law_box", "_law_some"]) fun _ _ _ _ _ _ us hl => match us, hl with | [_, _], _ => rfl, PySem.W.mg_of X G alawoneof⟩
  let Dlawpools : At K mg "_law_pools" sPools ["_law_box"] := ⟨(He.ga K "_law_pools"), _, Xlawpools, Xlawpools.binds (ps := ["_law_box"]) fun _ _ _ _ _ _ us hl => match us, hl with | [_], _ => rfl, PySem.W.mg_of X G alawpools⟩
  let Dlawcounters : At K mg "_law_counters" sCounters ["_law_box", "_law_pool", "_law_many"] := ⟨(He.ga K "_law_counters"), _, Xlawcounters, Xlawcounters.binds (ps := ["_law_box", "_law_pool", "_law_many"]) fun _ _ _ _ _ _ us hl => match us, hl with | [_, _, _], _ => rfl, PySem.W.mg_of X G alawcounters⟩
  let Dlawrow : At K mg "_law_row" sLRow ["_law_box", "_law_pools_here", "_law_counters_here", "_law_parts"] := ⟨(He.ga K "_law_row"), _, Xlawrow, Xlawrow.binds (ps := ["_law_box", "_law_pools_here", "_law_counters_here", "_law_parts"]) fun _ _ _ _ _ _ us hl => match us, hl with | [_, _, _, _], _ => rfl, PySem.W.mg_of X G alawrow⟩
  let Dlawunrolled : At K mg "_law_unrolled" sUnrolled ["_law_parts"] := ⟨(He.ga K "_law_unrolled"), _, Xlawunrolled, Xlawunrolled.binds (ps := ["_law_parts"]) fun _ _ _ _ _ _ us hl => match us, hl with | [_], _ => rfl, PySem.W.mg_of X G alawunrolled⟩
  let Dlawbook : At K mg "_law_book" sBook ["_law_box", "_law_most"] := ⟨(He.ga K "_law_book"), _, Xlawbook, Xlawbook.binds (ps := ["_law_box", "_law_most"]) fun _ _ _ _ _ _ us hl => match us, hl with | [_, _], _ => rfl, PySem.W.mg_of X G alawbook⟩
  let Dlawmaderow : At K mg "_law_made_row" sMadeRow ["_law_row_here"] := ⟨(He.ga K "_law_made_row"), _, Xlawmaderow, Xlawmaderow.binds (ps := ["_law_row_here"]) fun _ _ _ _ _ _ us hl => match us, hl with | [_], _ => rfl, PySem.W.mg_of X G alawmaderow⟩
  let Dlawleaf : At K mg "_law_leaf" sLeaf ["_law_box"] := ⟨(He.ga K "_law_leaf"), _, Xlawleaf, Xlawleaf.binds (ps := ["_law_box"]) fun _ _ _ _ _ _ us hl => match us, hl with | [_], _ => rfl, PySem.W.mg_of X G alawleaf⟩
  let Dlawany : At K mg "_law_any" sAny ["_law_box", "_law_deep"] := ⟨(He.ga K "_law_any"), _, Xlawany, Xlawany.binds (ps := ["_law_box", "_law_deep"]) fun _ _ _ _ _ _ us hl => match us, hl with | [_, _], _ => rfl, PySem.W.mg_of X G alawany⟩
  let Dlawheard : At K mg "_law_heard" sHeard7 ["_law_counters_here", "_law_parts"] := ⟨(He.ga K "_law_heard"), _, Xlawheard, Xlawheard.binds (ps := ["_law_counters_here", "_law_parts"]) fun _ _ _ _ _ _ us hl => match us, hl with | [_, _], _ => rfl, PySem.W.mg_of X G alawheard⟩
  let Dlawbent : At K mg "_law_bent" sBent ["_law_box", "_law_told", "_law_parts"] := ⟨(He.ga K "_law_bent"), _, Xlawbent, Xlawbent.binds (ps := ["_law_box", "_law_told", "_law_parts"]) fun _ _ _ _ _ _ us hl => match us, hl with | [_, _, _], _ => rfl, PySem.W.mg_of X G alawbent⟩
  let N : TNeed K mg := { mInt := Mint, mBool := Mbool, mStr := Mstr, mIsi := Misinstance, mLen := Mlen, mAll := Mall, words := (He.ga K "ROW_WORDS"), mWords := PySem.W.mg_of X G aROWWORDS, hWords := SROWWORDS, tok := tkLONGESTNAME, mLong := ILONGESTNAME, isInteger := Disinteger, isNumber := Disnumber, isName := Disname, IR := EInvalidRow, need := Dneedname }
  have FN := FNote
  obtain ⟨dsN, vN, bN⟩ := FN.binds1 (ps := ["self", "counter", "label"]) 3 1 (by simp) rfl fun _ _ _ _ _ _ _ us its hl hi => match us, its, hl, hi with | [_, _, _], [_], _, _ => ⟨_, rfl, rfl⟩
  have eN : dsN = [] := by cases vN; rfl
  subst eN
  obtain ⟨dsM, vM, bM⟩ := FN.binds1 (ps := ["self", "counter", "label"]) 2 0 (by simp) rfl fun _ _ _ _ _ _ _ us its hl hi => match us, its, hl, hi with | [_, _], [_], _, _ => ⟨_, rfl, rfl⟩
  let KNote : TNote K mg := { C := (He.ga K "Note"), fI := (He.ma K (He.ga K "Note") "__init__"), fd := _, F := FN, b := bN, m := PySem.W.mg_of X G aNote, M := ⟨mkNote, inNote, iNote, kcNote⟩, cl := ⟨pgNote, hdNote, poNote, saNote⟩, noW := nNote0, noC := nNote1, noL := nNote2 }
  let KSkip : TSkip K mg := { C := (He.ga K "Skip"), fI := (He.ma K (He.ga K "Skip") "__init__"), fd := _, F := XSkip, b := (XSkip).binds (ps := ["self", "counter", "by"]) fun _ _ _ _ _ _ us hl => match us, hl with | [_, _, _], _ => rfl, m := PySem.W.mg_of X G aSkip, M := ⟨mkSkip, inSkip, iSkip, kcSkip⟩, cl := ⟨pgSkip, hdSkip, poSkip, saSkip⟩, noW := nSkip0, noC := nSkip1, noF := nSkip2 }
  let KSet : TSet K mg := { C := (He.ga K "Set"), fI := (He.ma K (He.ga K "Set") "__init__"), fd := _, F := XSet, b := (XSet).binds (ps := ["self", "counter", "to"]) fun _ _ _ _ _ _ us hl => match us, hl with | [_, _, _], _ => rfl, m := PySem.W.mg_of X G aSet, M := ⟨mkSet, inSet, iSet, kcSet⟩, cl := ⟨pgSet, hdSet, poSet, saSet⟩, noW := nSet0, noC := nSet1, noF := nSet2 }
  let KKeep : TKeep K mg := { C := (He.ga K "Keep"), fI := (He.ma K (He.ga K "Keep") "__init__"), fd := _, F := XKeep, b := (XKeep).binds (ps := ["self", "counter"]) fun _ _ _ _ _ _ us hl => match us, hl with | [_, _], _ => rfl, m := PySem.W.mg_of X G aKeep, M := ⟨mkKeep, inKeep, iKeep, kcKeep⟩, cl := ⟨pgKeep, hdKeep, poKeep, saKeep⟩, noW := nKeep0, noF := nKeep1 }
  let KBack : TBack K mg := { C := (He.ga K "Back"), fI := (He.ma K (He.ga K "Back") "__init__"), fd := _, F := XBack, b := (XBack).binds (ps := ["self", "counter"]) fun _ _ _ _ _ _ us hl => match us, hl with | [_, _], _ => rfl, m := PySem.W.mg_of X G aBack, M := ⟨mkBack, inBack, iBack, kcBack⟩, cl := ⟨pgBack, hdBack, poBack, saBack⟩, noW := nBack0, noF := nBack1 }
  let KRef : TRef K mg := { C := (He.ga K "Ref"), fI := (He.ma K (He.ga K "Ref") "__init__"), fd := _, F := XRef, b := (XRef).binds (ps := ["self", "label"]) fun _ _ _ _ _ _ us hl => match us, hl with | [_, _], _ => rfl, m := PySem.W.mg_of X G aRef, M := ⟨mkRef, inRef, iRef, kcRef⟩, cl := ⟨pgRef, hdRef, poRef, saRef⟩, noW := nRef0, noF := nRef1 }
  let KPut : TPut K mg := { C := (He.ga K "Put"), fI := (He.ma K (He.ga K "Put") "__init__"), fd := _, F := XPut, b := (XPut).binds (ps := ["self", "part"]) fun _ _ _ _ _ _ us hl => match us, hl with | [_, _], _ => rfl, m := PySem.W.mg_of X G aPut, M := ⟨mkPut, inPut, iPut, kcPut⟩, cl := ⟨pgPut, hdPut, poPut, saPut⟩, noW := nPut0, noF := nPut1 }
  let KOpen : TOpen K mg := { C := (He.ga K "Open"), fI := (He.ma K (He.ga K "Open") "__init__"), fd := _, F := XOpen, b := (XOpen).binds (ps := ["self", "name"]) fun _ _ _ _ _ _ us hl => match us, hl with | [_, _], _ => rfl, m := PySem.W.mg_of X G aOpen, M := ⟨mkOpen, inOpen, iOpen, kcOpen⟩, cl := ⟨pgOpen, hdOpen, poOpen, saOpen⟩, noW := nOpen0, noF := nOpen1 }
  let R : TRows K mg := { N := N, note := KNote, skip := KSkip, set := KSet, keep := KKeep, back := KBack, ref := KRef, put := KPut, open_ := KOpen }
  let S : TStrs R := { note := MSNote, skip := MSSkip, set := MSSet, keep := MSKeep, back := MSBack, ref := MSRef, put := MSPut, open_ := MSOpen }
  let PP : TPart R := { S := S, CR := (He.ga K "Row"), mR := PySem.W.mg_of X G aRow, kR := fun r => match r with | .note _ _ => kRNote | .skip _ _ => kRSkip | .set _ _ => kRSet | .keep _ => kRKeep | .back _ => kRBack | .ref _ => kRRef | .put _ => kRPut | .opn _ => kROpen, kD := fun d => match d with | .none => kDNoneType | .bool _ => kDbool | .int _ => kDint | .str _ => kDstr | .list _ => kDlist | .tuple _ => kDtuple | .dict _ => kDdict, cA := fun r => match r with | .note _ _ => cANote | .skip _ _ => cASkip | .set _ _ => cASet | .keep _ => cAKeep | .back _ => cABack | .ref _ => cARef | .put _ => cAPut | .opn _ => cAOpen, cN := hnGet, cT := htGet, cM := fun r => match r with | .note _ _ => cMNote | .skip _ _ => cMSkip | .set _ _ => cMSet | .keep _ => cMKeep | .back _ => cMBack | .ref _ => cMRef | .put _ => cMPut | .opn _ => cMOpen, mList := Mlist, mTup := Mtuple, isSeq := Dissequence, IP := EInvalidPart, C := (He.ga K "Part"), mC := PySem.W.mg_of X G aPart, fI := (He.ma K (He.ga K "Part") "__init__"), fdI := _, dRows := (He.dflAt ("Part", some "__init__") 0 K), hRows := SDPart, FI := FPart, bI := bPart1, ds1 := dsPart0, v1 := vPart0, b1 := bPart0, M := ⟨mkPart, inPart, iPart, kcPart⟩, cl := ⟨pgPart, hdPart, poPart, saPart⟩, noN := nPart0, noR := nPart1, pA := pAPart, pM := pMPart, ne := nePart, kC := kCPart, kS := kSPart, nC := nCPart, nS := nSPart, str := MstrPart, eq := MeqPart }
  let BK : TBk PP := { mSet := Mset, mRev := Mreversed, cw := (He.ga K "COUNTING_WORDS"), mCW := PySem.W.mg_of X G aCOUNTINGWORDS, hCW := SCOUNTINGWORDS, isPair := Dispair, areC := Darecounters, areP := Dareparts, cKnown := Dcountersareknown, nPut := Dnamesput, pEarly := Dputsareearlier, nReach := Dnamesreached, unroll := Dunroll, uText := Dunrolledtext, refsK := Drefsareknown, mSort := Msorted, mDict := Mdict, C := (He.ga K "Book"), mC := PySem.W.mg_of X G aBook, fI := (He.ma K (He.ga K "Book") "__init__"), fdI := _, FI := XBook, bI := (XBook).binds (ps := ["self", "counters", "parts"]) fun _ _ _ _ _ _ us hl => match us, hl with | [_, _, _], _ => rfl, M := ⟨mkBook, inBook, iBook, kcBook⟩, cl := ⟨pgBook, hdBook, poBook, saBook⟩, noC := nBook0, noP := nBook1, noF := nBook2, names := MnamesBook, tops := MtopsBook, unr := MunrolledBook, chain := MchainBook }
  let BZ : TBad BK := { IB := EInvalidBook }
  let DD : TDRow K mg := { mI := Mint, mL := Mlen, mA := Mabs, seed := Dlawseed, choose := Dlawchoose, one := Dlawoneof, mR := Mrange, counters := Dlawcounters, pools := Dlawpools, row := Dlawrow }
  let BB : TBook K mg := { toTDRow := DD, unr := Dlawunrolled, book := Dlawbook }
  let AA : TAny K mg := { mI := Mint, mL := Mlen, mA := Mabs, seed := Dlawseed, choose := Dlawchoose, one := Dlawoneof, mR := Mrange, mT := Mtuple, leaf := Dlawleaf, any := Dlawany }
  let OO : TOdd PP := { kS := kSqPart, kD := fun d => match d with | .none => kPDNoneType | .bool _ => kPDbool | .int _ => kPDint | .str _ => kPDstr | .list _ => kPDlist | .tuple _ => kPDtuple | .dict _ => kPDdict }
  let HH : THeard7 BZ := { O := OO, heard := Dlawheard, CN := (He.ga K "NoteError"), mCN := PySem.W.mg_of X G aNoteError, kCN := kCN, kIP := kIP }
  let T : TK07 K mg := { D := BB, R := R, P := PP, dN := dsM, vN := vM, bN := bM, bent := Dlawbent, A := AA, B := BK, Z := BZ, h := HH, made := Dlawmaderow, mMax := Mmax, mMin := Mmin }
  have Flaw : FunD K "law" "law" (defArgs sLaw7) (defBody sLaw7) (defScope sLaw7) [] [] (He.ga K "law") fdlaw := Ylaw
  have blaw := FunD.bindsA (ps := ["_law_script"]) Flaw fun _ _ _ _ _ _ us hl => match us, hl with | [_], _ => rfl
  exact ⟨_, fun s v => blaw s [v] rfl, fun base _ _ => ok_law7 T (Xlaw)⟩
end Pn

namespace Pn
open PySem PySem.W PySem.Calls PyProof.Rows L2
abbrev rowQ : OpenRow := OpenLaw.row PySem.Challenge.rw_partnotes_k07_books_refused
abbrev progQ : Program := view rowQ.prog [65]
def namesQ0 : List PySem.Str := ["_wall", "__name__", "ROW_WORDS", "LONGEST_NAME", "is_integer", "is_number", "is_name", "is_sequence", "is_pair", "NoteError", "InvalidRow", "InvalidPart", "InvalidBook", "InvalidText", "MOST_DIGITS", "Row", "same_row", "need_name", "Note", "Skip", "Set", "Keep", "Back", "Ref", "Put", "Open", "read_number", "row_of_two", "row_of_three", "read_row"]
def namesQ1 : List PySem.Str := ["COUNTING_WORDS", "Part", "are_counters", "are_parts", "counters_are_known", "names_put", "puts_are_earlier", "names_reached", "unroll", "unrolled_text", "refs_are_known", "counter_line", "read_counter", "read_counters", "is_part_line", "read_line", "read_parts", "Book", "_law_seed", "_law_choose", "_law_one_of", "_law_pools", "_law_counters", "_law_row", "_law_unrolled", "_law_book", "_law_made_row", "_law_leaf", "_law_any", "_law_heard"]
def namesQ2 : List PySem.Str := ["_law_bent"]
def namesQ : List PySem.Str := namesQ0 ++ namesQ1 ++ namesQ2
theorem runQ (w : World) : HandSHeadRun.RunEq rowQ progQ (hookQ 5 fnQ exQ) (seenQ 5 fnQ exQ) 20000 namesQ w := by
  intro os
  kernel_rfl
end Pn
open PySem PySem.W PySem.Calls PyProof.Rows
theorem PySem.Challenge.cw_partnotes_k07_books_refused_holds : PySem.Challenge.rw_partnotes_k07_books_refused.Holds := by
  w_on; o_law
  refine HandSHeadRun.head_any (M := 20000) (r := Pn.rowQ) (q := Pn.progQ) (H := Pn.hookQ 5 Pn.fnQ Pn.exQ) (ob := Pn.seenQ 5 Pn.fnQ Pn.exQ) (loose := Pn.namesQ) (kwd := []) (d := HandSHeadRun.topDef Pn.rowQ.prog 65) (Pn.seenQ_eq 5 Pn.fnQ Pn.exQ)
    (by kernel_rfl) (fun z => by kernel_rfl) Pn.runQ (by kernel_rfl) (by kernel_rfl) (by kernel_rfl) (by rfl) (by first | assumption | decide +kernel) (by decide +kernel) ⟨rfl, rfl, rfl, rfl, rfl, by decide +kernel⟩ ?hw ?hc
  case hw => w_witness2
  case hc =>
    refine L2.walk_ofE (l := PySem.Challenge.rw_partnotes_k07_books_refused) (n := 63) (k := 14) (x := "_law_script") (CX := L2.CX0) rfl (by decide) (by kernel_rfl) ⟨rfl, by decide, by decide⟩ ?F (fun _ _ _ _ z => z)
    intro w mg fa h Y G hm
    obtain ⟨K, KX, c⟩ := Y
    have hg : mg ("law" : PySem.Str) = some (.ref fa) := by
      have e : (HandSHeadRun.topDef Pn.rowQ.prog 65).name = ("law" : PySem.Str) := by kernel_rfl
      rw [← e]; exact hm
    obtain ⟨fd, hb, hF⟩ := Pn.facts (P := (PySem.Challenge.rw_partnotes_k07_books_refused).prog) (w := w) KX G hg c
    exact ⟨K, fd, Pn.spLaw7 K, KX, hb, fun H a ns hl _ hS => ⟨a, ns, rfl, hS, hl, fun _ => rfl⟩, hF⟩
