import PyProof.Rows.All
import Wide.All
import OpenK.AllK
import Wide.FinOn
import HandS.ForMost
import HandS.Wide
import HandS.IsInst
import HandS.Walk
import HandS.Text
import HandS.Exc
import HandS.ExcInit
import HandS.ExcField
import HandS.ExcIs
import HandS.WordsExc
import HandS.TryOnly
import KE.KExcIs
import HandS.ExcCtx
import HandS.ExcInitHot
import HandS.SuiteRaise
import HandS.RaiseFrom
import HandS.Defaults
import HandS.FStr
import KE.KCallOwn
import Flt.Len
import KE.IntTextLaws
import KE.IntTextText
import HandS.HotCalls
import HandS.TupLe
import HandS.RaiseMore
import HandS.OwnEq
import HandS.SlotsOwn
import HandS.NamedTupSort
import HandS.Ends
import HandS.Flow
import HandS.Zip
import PySem.Challenge.RW_partnotes_k02_rows_made
set_option Elab.async false
set_option maxRecDepth 100000
set_option maxHeartbeats 4000000
namespace Pn
open PySem L2
/-! the text by places -/
def top (i : Nat) : Stmt := PySem.Challenge.pw_partnotes_k02_rows_made.main.body.getD i (.Pass ⟨0, 0, 0, 0⟩)
/-- a def of the top: where it stands, what binds its arguments -/
structure At (K : PySem.W.Frag) (mg : Str → Option Value) (x : Str) (st : Stmt) (ps : List Str) : Type where
  f : Addr
  fd : FuncData
  F : Fun K x x st f fd
  b : Binds K fd ps []
  m : mg x = some (.ref f)
/-- all but what stands at b is as it was -/
def Kp (b : Addr) (H H' : Hp) : Prop := ∀ a o, H a = some o → a ≠ b → H' a = some o
theorem Kp.refl (b : Addr) (H : Hp) : Kp b H H := fun _ _ h _ => h
theorem Kp.trans {b : Addr} {H H1 H2 : Hp} (h : Kp b H H1) (g : Kp b H1 H2) : Kp b H H2 := fun a o e n => g a o (h a o e n) n
theorem Kp.new {b p : Addr} {H H1 : Hp} {o : HO} (h : Kp b H H1) (hp : H1 p = none) : Kp b H (upd H1 p o) := fun a u e n => by
  have z := h a u e n
  rw [upd_ne (ne_of_none z hp)]
  exact z
theorem Kp.box {b : Addr} {H H1 : Hp} {o : HO} (h : Kp b H H1) : Kp b H (upd H1 b o) := fun a u e n => by
  rw [upd_ne n]
  exact h a u e n
theorem Kp.sql {K : PySem.W.Frag} {b a : Addr} {xs : List V} {H H1 : Hp} (h : Kp b H H1) (n : a ≠ b) (s : SqL K H a xs) : SqL K H1 a xs := by
  rcases s with (s | ⟨o, s⟩) | s
  · exact .inl (.inl (h _ _ s n))
  · exact .inl (.inr ⟨o, h _ _ s n⟩)
  · exact .inr s
theorem Kp.sqt {K : PySem.W.Frag} {b a : Addr} {xs : List V} {H H1 : Hp} (h : Kp b H H1) (n : a ≠ b) (s : SqT K H a xs) : SqT K H1 a xs := by
  rcases s with (s | ⟨o, s⟩) | s
  · exact .inl (.inl (h _ _ s n))
  · exact .inl (.inr ⟨o, h _ _ s n⟩)
  · exact .inr s
theorem Kp.same {b : Addr} {H H1 : Hp} (h : Same H H1) : Kp b H H1 := fun a o e _ => h a o e
/-- the heap but for what stands at b -/
def hid (H : Hp) (b : Addr) : Hp := fun a => if a = b then none else H a
theorem hid_sub {H : Hp} {b : Addr} : Same (hid H b) H := fun a o e => by
  unfold hid at e
  by_cases h : a = b
  · rw [if_pos h] at e
    cases e
  · rw [if_neg h] at e
    exact e
theorem hid_kp {b : Addr} {H H1 : Hp} (h : Kp b H H1) : Same (hid H b) (hid H1 b) := fun a o e => by
  unfold hid at e ⊢
  by_cases n : a = b
  · rw [if_pos n] at e
    cases e
  · rw [if_neg n] at e ⊢
    exact h a o e n
theorem hid_get {b a : Addr} {H : Hp} {o : HO} (h : H a = some o) (n : a ≠ b) : hid H b a = some o := by
  unfold hid
  rw [if_neg n]
  exact h
theorem Same.sqt {K : PySem.W.Frag} {H H' : Hp} {a : Addr} {xs : List V} (e : Same H H') (h : SqT K H a xs) : SqT K H' a xs := by
  rcases h with (h | ⟨o, h⟩) | h
  · exact .inl (.inl (e _ _ h))
  · exact .inl (.inr ⟨o, e _ _ h⟩)
  · exact .inr h
theorem Same.new {H : Hp} {p : Addr} {o : HO} (h : H p = none) : Same H (upd H p o) := fun a u e => by
  rw [upd_ne (ne_of_none e h)]
  exact e
/-- what is new in H' -/
def dif (H H' : Hp) : Hp := fun a => match H a with
  | none => H' a
  | some _ => none
theorem dif_eq {H H' : Hp} {a : Addr} {o : HO} : dif H H' a = some o ↔ H a = none ∧ H' a = some o := by
  unfold dif
  cases h : H a with
  | none => exact ⟨fun e => ⟨rfl, e⟩, fun e => e.2⟩
  | some u => exact ⟨fun e => (nomatch (show (none : Option HO) = some o from e)), fun e => by cases e.1⟩
theorem dif_sub {H H' : Hp} : Same (dif H H') H' := fun _ _ e => (dif_eq.mp e).2
theorem dif_new {H H' : Hp} {a : Addr} {o : HO} (h : H a = none) (h' : H' a = some o) : dif H H' a = some o := dif_eq.mpr ⟨h, h'⟩
/-- what is tracked stays tracked -/
def Mo (H H' : Hp) : Prop := ∀ a, H' a = none → H a = none
theorem Mo.refl (H : Hp) : Mo H H := fun _ h => h
theorem Mo.trans {H H1 H2 : Hp} (h : Mo H H1) (g : Mo H1 H2) : Mo H H2 := fun a e => h a (g a e)
theorem Mo.upd {H : Hp} {p : Addr} {o : HO} : Mo H (upd H p o) := fun a e => by
  by_cases h : a = p
  · subst h
    rw [upd_same] at e
    cases e
  · rw [upd_ne h] at e
    exact e
theorem Kp.mo {b : Addr} {H H' : Hp} {o : HO} (h : Kp b H H') (hb : H' b = some o) : Mo H H' := fun a e => by
  cases q : H a with
  | none => rfl
  | some u =>
    have n : a ≠ b := fun z => by rw [z, hb] at e; cases e
    rw [h a u q n] at e
    cases e
/-- what was new stays: all of H1 but b, which stood in H -/
theorem dif_kp {b : Addr} {H H1 H2 : Hp} {o : HO} (hb : H b = some o) (k : Kp b H1 H2) : Same (dif H H1) (dif H H2) := fun a u e => by
  obtain ⟨e1, e2⟩ := dif_eq.mp e
  exact dif_new e1 (k a u e2 (fun z => by rw [z, hb] at e1; cases e1))
theorem dif_mo {H0 H H1 : Hp} (m : Mo H0 H) : Same (dif H H1) (dif H0 H1) := fun a u e => by
  obtain ⟨e1, e2⟩ := dif_eq.mp e
  exact dif_new (m a e1) e2
mutual
theorem dp_same {K : PySem.W.Frag} {H H' : Hp} (e : Same H H') : ∀ (d : PyData) (v : V), Dp K H v d → Dp K H' v d
  | .none, _, h => by cases h; exact .non
  | .bool _, _, h => by cases h; exact .bl _
  | .int _, _, h => by cases h; exact .int _
  | .str _, _, h => by cases h; exact .str _
  | .list ds, _, h => by
    cases h with
    | lst s a => exact .lst (e.seq s) (dpAll_same e ds _ a)
  | .tuple ds, _, h => by
    cases h with
    | tup s a => exact .tup (Same.sqt e s) (dpAll_same e ds _ a)
  | .dict _, _, h => by cases h
theorem dpAll_same {K : PySem.W.Frag} {H H' : Hp} (e : Same H H') : ∀ (ds : List PyData) (vs : List V), DpAll K H vs ds → DpAll K H' vs ds
  | [], _, h => by cases h; exact .nil
  | d :: ds, _, h => by
    cases h with
    | cons a b => exact .cons (dp_same e d _ a) (dpAll_same e ds _ b)
end
theorem dpAll_append {K : PySem.W.Frag} {H : Hp} : ∀ {vs : List V} {ds : List PyData} {ws : List V} {es : List PyData}, DpAll K H vs ds → DpAll K H ws es → DpAll K H (vs ++ ws) (ds ++ es)
  | _, _, _, _, .nil, g => g
  | _, _, _, _, .cons a b, g => .cons a (dpAll_append b g)
end Pn

namespace Pn
open PySem L2
/-! ### one statement, with what it comes to -/
theorem joinOn {t : TE} {σ : L2.St} {H : Hp} {Q : VK} (C : V → Hp → Prop) (h1 : ∀ Q' : VK, (∀ v H', C v H' → Q' v H') → t σ H Q') (h2 : ∀ v H', C v H' → Q v H') : t σ H Q := h1 Q h2
/-- x = e, where what e comes to is said by C -/
theorem stepSet {te : TE} {i : Nat} {B : TS} {D : Ends} {σ : L2.St} {H : Hp} (C : V → Hp → Prop) (h1 : ∀ Q' : VK, (∀ v H', C v H' → Q' v H') → te σ H Q') (h2 : ∀ v H', C v H' → B D (σ.set i (some v)) H') : tSeq (tAsg te (gName i)) B D σ H := h1 _ h2
theorem stepDrop {te : TE} {B : TS} {D : Ends} {σ : L2.St} {H : Hp} (C : Hp → Prop) (h1 : ∀ Q' : VK, (∀ v H', C H' → Q' v H') → te σ H Q') (h2 : ∀ H', C H' → B D σ H') : tSeq (tDrop te) B D σ H := h1 (fun _ H1 => B D σ H1) fun _ H' c => h2 H' c
theorem stepIfF {tt : TT} {A C : TS} {D : Ends} {σ : L2.St} {H : Hp} (h1 : ∀ Q : Bool → Hp → Prop, Q false H → tt σ H Q) (h2 : C D σ H) : tSeq (tIfS tt A tNext) C D σ H := h1 _ (by rw [if_neg Bool.false_ne_true]; exact h2)
theorem stepNo {tt : TT} {A C : TS} {D : Ends} {σ : L2.St} {H : Hp} (G : Hp → Prop) (h1 : ∀ Q : Bool → Hp → Prop, (∀ H', G H' → Q false H') → tt σ H Q) (h2 : ∀ H', G H' → C D σ H') : tSeq (tIfS tt A tNext) C D σ H := h1 _ fun H' g => by
  rw [if_neg Bool.false_ne_true]
  exact h2 H' g
theorem stepYes {tt : TT} {A B C : TS} {D : Ends} {σ : L2.St} {H : Hp} (G : Hp → Prop) (h1 : ∀ Q : Bool → Hp → Prop, (∀ H', G H' → Q true H') → tt σ H Q) (h2 : ∀ H', G H' → A { D with nx := C D } σ H') : tSeq (tIfS tt A B) C D σ H := h1 _ fun H' g => by
  rw [if_pos rfl]
  exact h2 H' g
theorem Same.mo {H H' : Hp} (s : Same H H') : Mo H H' := fun _ e => s.free e
end Pn

namespace Pn
open PySem L2
abbrev sSeed : Stmt := top 28
abbrev sChoose : Stmt := top 29
abbrev sOne : Stmt := top 30

/-- the two ints of a box of draws -/
def Bx (x y : Int) : Prop := 0 ≤ x ∧ 1 ≤ y ∧ y ≤ 2147483629
def spChoose : Sp := fun vs H Q _ => ∃ (b : Addr) (x y m : Int), vs = [.ref b, .int m] ∧ H b = some (.lst [.int x, .int y]) ∧ Bx x y ∧ 0 < m ∧ m < 1000000 ∧
  ∀ r x' y', 0 ≤ r → r < m → Bx x' y' → Q (.int r) (upd H b (.lst [.int x', .int y']))
section
variable {P : Program} {w : World} {K : PySem.W.Frag} {mg : Str → Option Value} {base : Heap}
theorem scChoose : FnScope ["_law_box", "_law_many", "_law_digit", "_law_raw"] ["_law_box", "_law_many"] (defScope sChoose) := ⟨rfl, rfl, rfl, by decide +kernel, rfl, by decide +kernel, by decide +kernel⟩
theorem ok_choose {f : Addr} {fd : FuncData} (F : Fun K "_law_choose" "_law_choose" sChoose f fd) (mI : mg "int" = none) : FnOk P w K mg base CX0 1 f fd ["_law_box", "_law_many"] spChoose := by
  refine F.ok scChoose (fun vs H Q E h => ?_) (fun cdv A outer s H vs Q E hr h => ?_)
  · obtain ⟨b, x, y, m, rfl, _⟩ := h
    rfl
  · obtain ⟨b, x, y, m, rfl, hb, ⟨hx, hy, hz⟩, h0, h1, k⟩ := h
    refine ⟨_, pss_cons (ps_if (pt_cmpR op_gt (pe_ix ix_list (pv 0) pe_int (fun _ _ => rfl)) pe_int (nomark _))
        (pss_cons (ps_set (i := 2) scChoose.nd rfl (Or.inl rfl) (pe_op op_mod (pe_callTy call_int1 (by rfl) mI (by decide +kernel) (pa_cons (pe_ix ix_list (pv 0) pe_int (fun _ _ => rfl)) pa_nil)) (pv 1)))
        (pss_cons (ps_asg (pe_op op_fdivW (pe_ix ix_list (pv 0) pe_int (fun _ _ => rfl)) (pv 1)) (pg_sub (pv 0) pe_int set_list))
        (pss_one (ps_ret (pv 2))))) pss_nil)
      (pss_cons (ps_set (i := 3) scChoose.nd rfl (Or.inl rfl) (pe_op op_mod (pe_callTy call_int1 (by rfl) mI (by decide +kernel) (pa_cons (pe_op op_add (pe_op op_mul (pe_ix ix_list (pv 0) pe_int (fun _ _ => rfl)) pe_int) pe_int) pa_nil)) pe_int))
      (pss_cons (ps_asg (pe_op op_add (pe_op op_mod (pe_callTy call_int1 (by rfl) mI (by decide +kernel) (pa_cons (pe_op op_add (pe_op op_mul (pv 3) pe_int) pe_int) pa_nil)) pe_int) pe_int) (pg_sub (pv 0) pe_int set_list))
      (pss_one (ps_ret (pe_op op_mod (pe_callTy call_int1 (by rfl) mI (by decide +kernel) (pa_cons (pe_op op_fdiv (pe_op op_add (pe_op op_mul (pv 3) pe_int) (pe_ix ix_list (pv 0) pe_int (fun _ _ => rfl))) pe_int) pa_nil)) (pv 1)))))), ?_⟩
    refine ⟨_, rfl, _, _, _, _, rfl, rfl, SqL.of hb, rfl, _, _, rfl, rfl, _, rfl, ?_⟩
    refine ite2 (fun hc => ?_) (fun hc => ?_)
    · refine ⟨_, rfl, _, _, _, _, rfl, rfl, SqL.of hb, rfl, .inl ⟨_, rfl, _, rfl, _, _, rfl, rfl, h0, ?_⟩⟩
      refine ⟨_, rfl, _, _, _, _, rfl, rfl, SqL.of hb, rfl, _, rfl, _, _, rfl, rfl, wide_div (b := 20) h0 (by omega) (by decide) (by decide), ?_⟩
      refine ⟨_, rfl, _, _, _, _, rfl, rfl, hb, rfl, ?_⟩
      refine ⟨_, rfl, ?_⟩
      exact k _ _ _ (Int.emod_nonneg _ (by omega)) (Int.emod_lt_of_pos _ h0) ⟨Int.ediv_nonneg hx (by omega), hy, hz⟩
    · refine ⟨_, rfl, _, _, _, _, rfl, rfl, SqL.of hb, rfl, _, _, rfl, rfl, .inl ⟨by omega, by omega⟩, _, _, rfl, rfl, .inl ⟨_, rfl, _, _, rfl, rfl, (by show (0 : Int) < 2147483563; decide), ?_⟩⟩
      have hr1 : 0 ≤ (y * 40014 + 61) % 2147483563 ∧ (y * 40014 + 61) % 2147483563 < 2147483563 := ⟨by omega, by omega⟩
      refine ⟨_, rfl, _, _, rfl, rfl, .inl ⟨by show _ < (y * 40014 + 61) % 2147483563; omega, by show (y * 40014 + 61) % 2147483563 < _; omega⟩, _, _, rfl, rfl, .inl ⟨_, rfl, _, _, rfl, rfl, (by show (0 : Int) < 2147483629; decide), _, _, rfl, rfl, ?_⟩⟩
      refine ⟨_, rfl, _, _, _, _, rfl, rfl, hb, rfl, ?_⟩
      have hr2 : 0 ≤ ((y * 40014 + 61) % 2147483563 * 40692 + 4409) % 2147483629 ∧ ((y * 40014 + 61) % 2147483563 * 40692 + 4409) % 2147483629 < 2147483629 := ⟨by omega, by omega⟩
      refine ⟨_, rfl, _, _, rfl, rfl, .inl ⟨by show _ < (y * 40014 + 61) % 2147483563; omega, by show (y * 40014 + 61) % 2147483563 < _; omega⟩, _, rfl, _, _, _, _, rfl, rfl, SqL.of upd_same, rfl, _, _, rfl, rfl, _, _, rfl, rfl, ⟨by decide, by decide⟩, .inl ⟨_, rfl, _, rfl, _, _, rfl, rfl, h0, ?_⟩⟩
      exact k _ _ _ (Int.emod_nonneg _ (by omega)) (Int.emod_lt_of_pos _ h0) ⟨hx, by omega, by omega⟩
/-- the box for a round -/
def spSeed (K : PySem.W.Frag) : Sp := fun vs H Q _ => ∃ (a : Addr) (ns : List Int) (k : Nat), vs = [.ref a, .int k] ∧ SqL K H a (ns.map V.int) ∧ k ≤ 100 ∧
  ∀ (p : Addr) (x y : Int), H p = none → Bx x y → Q (.ref p) (upd H p (.lst [.int x, .int y]))
theorem scSeed : FnScope ["_law_script", "_law_k", "_law_cell"] ["_law_script", "_law_k"] (defScope sSeed) := ⟨rfl, rfl, rfl, by decide +kernel, rfl, by decide +kernel, by decide +kernel⟩
theorem ok_seed {f : Addr} {fd : FuncData} (F : Fun K "_law_seed" "_law_seed" sSeed f fd) (mI : mg "int" = none) (mL : mg "len" = none) (mA : mg "abs" = none) : FnOk P w K mg base CX0 1 f fd ["_law_script", "_law_k"] (spSeed K) := by
  refine F.ok scSeed (fun vs H Q E h => ?_) (fun cdv A outer s H vs Q E hr h => ?_)
  · obtain ⟨a, ns, k, rfl, _⟩ := h
    rfl
  · obtain ⟨a, ns, k, rfl, hS, hk, q⟩ := h
    refine ⟨_, pss_cons (ps_set (i := 2) scSeed.nd rfl (Or.inl rfl) (pe_op op_add (pe_op op_mul pe_int (pv 1)) pe_int))
      (pss_cons (ps_if (pt_cmpR op_lt (pv 1) (pe_callB call_len_seq (by rfl) mL PySem.boot_len (pa_cons (pv 0) pa_nil)) (nomark _))
          (pss_one (ps_set (i := 2) scSeed.nd rfl (Or.inl rfl) (pe_callB call_abs (by rfl) mA (by decide +kernel) (pa_cons (pe_ix ix_list (pv 0) (pv 1) (fun _ _ => rfl)) pa_nil))))
          (pss_one (ps_if (pt_cmpR op_gt (pe_callB call_len_seq (by rfl) mL PySem.boot_len (pa_cons (pv 0) pa_nil)) pe_int (nomark _))
            (pss_one (ps_set (i := 2) scSeed.nd rfl (Or.inl rfl) (pe_op op_add (pv 2) (pe_op op_mul (pe_op op_mod (pe_callTy call_int1 (by rfl) mI (by decide +kernel) (pa_cons (pe_callB call_abs (by rfl) mA (by decide +kernel) (pa_cons (pe_ix ix_list (pv 0) (pe_op op_mod (pe_callTy call_int1 (by rfl) mI (by decide +kernel) (pa_cons (pv 1) pa_nil)) (pe_callB call_len_seq (by rfl) mL PySem.boot_len (pa_cons (pv 0) pa_nil))) (fun _ _ => rfl)) pa_nil)) pa_nil)) pe_int) pe_int))))
            pss_nil)))
      (pss_one (ps_ret (pe_lst (pa_cons (pe_ifExp (pt_cmpR op_ge (pv 2) (pe_op op_pow pe_int pe_int) (nomark _)) (pv 2) pe_int)
        (pa_cons (pe_op op_add (pe_op op_mod (pe_callTy call_int1 (by rfl) mI (by decide +kernel) (pa_cons (pe_op op_add (pe_op op_mul (pe_op op_mod (pe_callTy call_int1 (by rfl) mI (by decide +kernel) (pa_cons (pv 2) pa_nil)) pe_int) pe_int) (pe_op op_mul pe_int (pv 1))) pa_nil)) pe_int) pe_int) pa_nil)))))), ?_⟩
    have hlen : ((ns.map V.int).length : Int) = (ns.length : Int) := by rw [List.length_map]
    have hz : ∀ z : Int, 1 ≤ z % 2147483629 + 1 ∧ z % 2147483629 + 1 ≤ 2147483629 := fun z => ⟨by omega, by omega⟩
    have at_ : ∀ j : Nat, (hj : j < ns.length) → (ns.map V.int)[j]? = some (.int ns[j]) := fun j hj => by
      rw [List.getElem?_map, List.getElem?_eq_getElem hj]
      rfl
    refine ⟨_, rfl, _, _, rfl, rfl, .inl ⟨by decide, by decide⟩, _, _, rfl, rfl, ?_⟩
    refine ⟨_, rfl, _, rfl, _, _, rfl, .inl hS, _, _, rfl, rfl, _, rfl, ?_⟩
    refine ite2 (fun hc => ?_) (fun hc => ?_)
    · have hc1 := of_decide_eq_true hc
      rw [hlen] at hc1
      have hk2 : k < ns.length := by omega
      refine ⟨_, rfl, _, rfl, _, _, _, _, rfl, rfl, hS, atI_nat (at_ k hk2), _, rfl, ?_⟩
      have c0 : 0 ≤ (if ns[k] < 0 then -ns[k] else ns[k]) := by split <;> omega
      generalize (if ns[k] < 0 then -ns[k] else ns[k]) = c at c0 ⊢
      refine ⟨_, rfl, _, _, rfl, rfl, ⟨by decide, by decide, by decide⟩, _, _, rfl, rfl, _, rfl, ?_⟩
      refine ite2 (fun hg => ?_) (fun hg => ?_)
      · refine ⟨_, rfl, ?_⟩
        refine ⟨_, rfl, .inl ⟨_, rfl, _, _, rfl, rfl, (by show (0 : Int) < 2147483629; decide), _, _, rfl, rfl, .inr ⟨by decide, by decide⟩, _, rfl, _, _, rfl, rfl, .inl ⟨by decide, by decide⟩, _, _, rfl, rfl, .inl ⟨_, rfl, _, _, rfl, rfl, (by show (0 : Int) < 2147483629; decide), _, _, rfl, rfl, (by show 2 ≤ sizeLine; decide), fun l hl => ?_⟩⟩⟩
        exact q l _ _ hl ⟨c0, (hz _).1, (hz _).2⟩
      · refine ⟨_, rfl, .inl ⟨_, rfl, _, _, rfl, rfl, (by show (0 : Int) < 2147483629; decide), _, _, rfl, rfl, .inr ⟨by decide, by decide⟩, _, rfl, _, _, rfl, rfl, .inl ⟨by decide, by decide⟩, _, _, rfl, rfl, .inl ⟨_, rfl, _, _, rfl, rfl, (by show (0 : Int) < 2147483629; decide), _, _, rfl, rfl, (by show 2 ≤ sizeLine; decide), fun l hl => ?_⟩⟩⟩
        exact q l _ _ hl ⟨by decide, (hz _).1, (hz _).2⟩
    · refine ⟨_, rfl, _, _, rfl, .inl hS, _, _, rfl, rfl, _, rfl, ?_⟩
      refine ite2 (fun hc2 => ?_) (fun hc2 => ?_)
      · have hc3 := of_decide_eq_true hc2
        rw [hlen] at hc3
        have hm : (k : Int) % ((ns.map V.int).length : Int) = ((k % ns.length : Nat) : Int) := by rw [hlen]; rfl
        have hk3 : k % ns.length < ns.length := Nat.mod_lt _ (by omega)
        refine ⟨_, rfl, _, rfl, _, rfl, .inl ⟨_, rfl, _, rfl, _, _, rfl, .inl hS, _, _, rfl, rfl, (by rw [hlen]; exact hc3), _, _, _, _, rfl, rfl, hS, (by show atI _ ((k : Int) % ((ns.map V.int).length : Int)) = _; rw [hm]; exact atI_nat (at_ _ hk3)), _, rfl, .inl ⟨_, rfl, _, _, rfl, rfl, (by show (0 : Int) < 2147483629; decide), _, _, rfl, rfl, .inr ⟨by decide, by decide⟩, _, _, rfl, rfl, ?_⟩⟩⟩
        have c0 : 0 ≤ 7177 * (k : Int) + 89 + (if ns[k % ns.length] < 0 then -ns[k % ns.length] else ns[k % ns.length]) % 2147483629 * 40093 := by omega
        refine ⟨_, rfl, _, _, rfl, rfl, ⟨by decide, by decide, by decide⟩, _, _, rfl, rfl, _, rfl, ?_⟩
        refine ite2 (fun hg => ?_) (fun hg => ?_)
        · refine ⟨_, rfl, ?_⟩
          refine ⟨_, rfl, .inl ⟨_, rfl, _, _, rfl, rfl, (by show (0 : Int) < 2147483629; decide), _, _, rfl, rfl, .inr ⟨by decide, by decide⟩, _, rfl, _, _, rfl, rfl, .inl ⟨by decide, by decide⟩, _, _, rfl, rfl, .inl ⟨_, rfl, _, _, rfl, rfl, (by show (0 : Int) < 2147483629; decide), _, _, rfl, rfl, (by show 2 ≤ sizeLine; decide), fun l hl => ?_⟩⟩⟩
          exact q l _ _ hl ⟨c0, (hz _).1, (hz _).2⟩
        · refine ⟨_, rfl, .inl ⟨_, rfl, _, _, rfl, rfl, (by show (0 : Int) < 2147483629; decide), _, _, rfl, rfl, .inr ⟨by decide, by decide⟩, _, rfl, _, _, rfl, rfl, .inl ⟨by decide, by decide⟩, _, _, rfl, rfl, .inl ⟨_, rfl, _, _, rfl, rfl, (by show (0 : Int) < 2147483629; decide), _, _, rfl, rfl, (by show 2 ≤ sizeLine; decide), fun l hl => ?_⟩⟩⟩
          exact q l _ _ hl ⟨by decide, (hz _).1, (hz _).2⟩
      · have c0 : 0 ≤ 7177 * (k : Int) + 89 := by omega
        refine ⟨_, rfl, _, _, rfl, rfl, ⟨by decide, by decide, by decide⟩, _, _, rfl, rfl, _, rfl, ?_⟩
        refine ite2 (fun hg => ?_) (fun hg => ?_)
        · refine ⟨_, rfl, ?_⟩
          refine ⟨_, rfl, .inl ⟨_, rfl, _, _, rfl, rfl, (by show (0 : Int) < 2147483629; decide), _, _, rfl, rfl, .inr ⟨by decide, by decide⟩, _, rfl, _, _, rfl, rfl, .inl ⟨by decide, by decide⟩, _, _, rfl, rfl, .inl ⟨_, rfl, _, _, rfl, rfl, (by show (0 : Int) < 2147483629; decide), _, _, rfl, rfl, (by show 2 ≤ sizeLine; decide), fun l hl => ?_⟩⟩⟩
          exact q l _ _ hl ⟨c0, (hz _).1, (hz _).2⟩
        · refine ⟨_, rfl, .inl ⟨_, rfl, _, _, rfl, rfl, (by show (0 : Int) < 2147483629; decide), _, _, rfl, rfl, .inr ⟨by decide, by decide⟩, _, rfl, _, _, rfl, rfl, .inl ⟨by decide, by decide⟩, _, _, rfl, rfl, .inl ⟨_, rfl, _, _, rfl, rfl, (by show (0 : Int) < 2147483629; decide), _, _, rfl, rfl, (by show 2 ≤ sizeLine; decide), fun l hl => ?_⟩⟩⟩
          exact q l _ _ hl ⟨by decide, (hz _).1, (hz _).2⟩
/-- what a box is, by its place -/
def BoxAt (H : Hp) (b : Addr) : Prop := ∃ x y : Int, Bx x y ∧ H b = some (.lst [.int x, .int y])
theorem sql_upd {H : Hp} {a b : Addr} {o : HO} {xs : List V} (h : SqL K H a xs) (hne : a ≠ b) : SqL K (upd H b o) a xs := by
  rcases h with (h | ⟨u, h⟩) | h
  · exact .inl (.inl (by rw [upd_ne hne]; exact h))
  · exact .inl (.inr ⟨u, by rw [upd_ne hne]; exact h⟩)
  · exact .inr h
theorem sqt_upd {H : Hp} {a b : Addr} {o : HO} {xs : List V} (h : SqT K H a xs) (hne : a ≠ b) : SqT K (upd H b o) a xs := by
  rcases h with (h | ⟨u, h⟩) | h
  · exact .inl (.inl (by rw [upd_ne hne]; exact h))
  · exact .inl (.inr ⟨u, by rw [upd_ne hne]; exact h⟩)
  · exact .inr h
/-- one of several things -/
def spOne (K : PySem.W.Frag) : Sp := fun vs H Q _ => ∃ (b a : Addr) (x y : Int) (xs : List V), vs = [.ref b, .ref a] ∧ H b = some (.lst [.int x, .int y]) ∧ Bx x y ∧ SqL K H a xs ∧ a ≠ b ∧ 0 < xs.length ∧ xs.length < 1000000 ∧
  ∀ (i : Nat) (x' y' : Int) (hi : i < xs.length), Bx x' y' → Q xs[i] (upd H b (.lst [.int x', .int y']))
theorem scOne : FnScope ["_law_box", "_law_some"] ["_law_box", "_law_some"] (defScope sOne) := ⟨rfl, rfl, rfl, by decide +kernel, rfl, by decide +kernel, by decide +kernel⟩
theorem ok_one {f fC : Addr} {fd fdC : FuncData} (F : Fun K "_law_one_of" "_law_one_of" sOne f fd) (mL : mg "len" = none) (mC : mg "_law_choose" = some (.ref fC)) (FC : Fun K "_law_choose" "_law_choose" sChoose fC fdC) (bC : Binds K fdC ["_law_box", "_law_many"] [])
    (mI : mg "int" = none) : FnOk P w K mg base CX0 2 f fd ["_law_box", "_law_some"] (spOne K) := by
  refine F.ok scOne (fun vs H Q E h => ?_) (fun cdv A outer s H vs Q E hr h => ?_)
  · obtain ⟨b, a, x, y, xs, rfl, _⟩ := h
    rfl
  · obtain ⟨b, a, x, y, xs, rfl, hb, hB, hS, hne, h0, h1, q⟩ := h
    refine ⟨_, pss_one (ps_ret (pe_ix ix_list (pv 1) (pe_call (ok_choose FC mI) hr rfl mC FC.kp bC .nil pass0 (pa_cons (pv 0) (pa_cons (pe_callB call_len_seq (by rfl) mL PySem.boot_len (pa_cons (pv 1) pa_nil)) pa_nil))) (fun _ _ => rfl))), ?_⟩
    refine ⟨_, rfl, _, rfl, _, rfl, _, _, rfl, .inl hS, ?_⟩
    refine ⟨b, x, y, _, rfl, hb, hB, by omega, by omega, fun r x' y' r0 r1 hB' => ?_⟩
    obtain ⟨i, rfl⟩ : ∃ i : Nat, r = (i : Int) := ⟨r.toNat, by omega⟩
    have hi : i < xs.length := by omega
    exact ⟨_, _, _, _, rfl, rfl, sql_upd hS hne, atI_nat (List.getElem?_eq_getElem hi), q i x' y' hi hB'⟩
/-- the facts of the draws' defs -/
structure TDraw (K : PySem.W.Frag) (mg : Str → Option Value) : Type where
  mI : mg "int" = none
  mL : mg "len" = none
  mA : mg "abs" = none
  seed : At K mg "_law_seed" sSeed ["_law_script", "_law_k"]
  choose : At K mg "_law_choose" sChoose ["_law_box", "_law_many"]
  one : At K mg "_law_one_of" sOne ["_law_box", "_law_some"]
theorem TDraw.okSeed (T : TDraw K mg) : FnOk P w K mg base CX0 1 T.seed.f T.seed.fd ["_law_script", "_law_k"] (spSeed K) := ok_seed T.seed.F T.mI T.mL T.mA
/-- the same, of a box by its place -/
def spChooseB : Sp := fun vs H Q _ => ∃ (b : Addr) (m : Int), vs = [.ref b, .int m] ∧ BoxAt H b ∧ 0 < m ∧ m < 1000000 ∧ ∀ (r : Int) (H' : Hp), 0 ≤ r → r < m → BoxAt H' b → Kp b H H' → (∀ a, H a = none → H' a = none) → Q (.int r) H'
theorem TDraw.okChoose (T : TDraw K mg) : FnOk P w K mg base CX0 1 T.choose.f T.choose.fd ["_law_box", "_law_many"] spChooseB :=
  (ok_choose T.choose.F T.mI).imp fun vs H Q E h => by
    obtain ⟨b, m, rfl, ⟨x, y, hB, hb⟩, h0, h1, k⟩ := h
    refine ⟨b, x, y, m, rfl, hb, hB, h0, h1, fun r x' y' r0 r1 hB' => k r _ r0 r1 ⟨x', y', hB', upd_same⟩ (Kp.refl b H).box fun a ha => ?_⟩
    rw [upd_ne (fun z => by rw [z, hb] at ha; cases ha)]
    exact ha
def spOneB (K : PySem.W.Frag) : Sp := fun vs H Q _ => ∃ (b a : Addr) (xs : List V), vs = [.ref b, .ref a] ∧ BoxAt H b ∧ SqL K H a xs ∧ a ≠ b ∧ 0 < xs.length ∧ xs.length < 1000000 ∧
  ∀ (v : V) (H' : Hp), v ∈ xs → BoxAt H' b → Kp b H H' → (∀ a, H a = none → H' a = none) → Q v H'
theorem TDraw.okOne (T : TDraw K mg) : FnOk P w K mg base CX0 2 T.one.f T.one.fd ["_law_box", "_law_some"] (spOneB K) :=
  (ok_one T.one.F T.mL T.choose.m T.choose.F T.choose.b T.mI).imp fun vs H Q E h => by
    obtain ⟨b, a, xs, rfl, ⟨x, y, hB, hb⟩, hS, ne, h0, h1, k⟩ := h
    refine ⟨b, a, x, y, xs, rfl, hb, hB, hS, ne, h0, h1, fun i x' y' hi hB' => k _ _ (List.getElem_mem hi) ⟨x', y', hB', upd_same⟩ (Kp.refl b H).box fun a ha => ?_⟩
    rw [upd_ne (fun z => by rw [z, hb] at ha; cases ha)]
    exact ha
end
end Pn

namespace Pn
open PySem L2
abbrev sIsInteger : Stmt := top 3
abbrev sIsNumber : Stmt := top 4
abbrev sIsName : Stmt := top 5
/-! ### what these checks tell of data -/
def rowV : List V := [.str "note", .str "skip", .str "set", .str "keep", .str "back", .str "ref", .str "put", .str "open", .str "part"]
/-- a letter of a name -/
def lok (c : Nat) : Bool := decide (97 ≤ c) && decide (c ≤ 122)
def nameS (z : Str) : Bool := !inV (.str z) rowV && (decide (1 ≤ (z.length : Int)) && decide ((z.length : Int) ≤ 4)) && z.cps.toList.all lok
def nameD : PyData → Bool
  | .str z => nameS z
  | _ => false
def intD : PyData → Bool
  | .int _ => true
  | _ => false
def numD : PyData → Bool
  | .int i => decide (0 ≤ i)
  | _ => false
/-- the type of data -/
def tyD : PyData → String
  | .none => "NoneType"
  | .bool _ => "bool"
  | .int _ => "int"
  | .str _ => "str"
  | .list _ => "list"
  | .tuple _ => "tuple"
  | .dict _ => "dict"
theorem dp_ty {K : PySem.W.Frag} {H : Hp} {v : V} {d : PyData} (h : Dp K H v d) : TyX K H v (.type (tyD d)) := by
  cases h with
  | non => exact .base .non
  | bl b => exact .base (.bl b)
  | int i => exact .base (.int i)
  | str x => exact .base (.str x)
  | lst s _ =>
    rcases s with (s | ⟨o, s⟩) | ⟨o, _, _, e, c, _⟩
    · exact .base (.lst s)
    · exact .base (.frz s)
    · exact .kList e c
  | tup s _ =>
    rcases s with (s | ⟨o, s⟩) | ⟨o, _, _, e, c, _⟩
    · exact .base (.tup s)
    · exact .fTuple s
    · exact .kTuple e c
def strT : PyData → Bool
  | .str _ => true
  | _ => false
def intT : PyData → Bool
  | .bool _ => true
  | .int _ => true
  | _ => false
def boolT : PyData → Bool
  | .bool _ => true
  | _ => false
theorem kit_str : ∀ d : PyData, kitB (tyD d) "str" = some (strT d)
  | .none => (by decide +kernel : kitB "NoneType" "str" = some false)
  | .bool _ => (by decide +kernel : kitB "bool" "str" = some false)
  | .int _ => (by decide +kernel : kitB "int" "str" = some false)
  | .str _ => (by decide +kernel : kitB "str" "str" = some true)
  | .list _ => (by decide +kernel : kitB "list" "str" = some false)
  | .tuple _ => (by decide +kernel : kitB "tuple" "str" = some false)
  | .dict _ => (by decide +kernel : kitB "dict" "str" = some false)
theorem kit_int : ∀ d : PyData, kitB (tyD d) "int" = some (intT d)
  | .none => (by decide +kernel : kitB "NoneType" "int" = some false)
  | .bool _ => (by decide +kernel : kitB "bool" "int" = some true)
  | .int _ => (by decide +kernel : kitB "int" "int" = some true)
  | .str _ => (by decide +kernel : kitB "str" "int" = some false)
  | .list _ => (by decide +kernel : kitB "list" "int" = some false)
  | .tuple _ => (by decide +kernel : kitB "tuple" "int" = some false)
  | .dict _ => (by decide +kernel : kitB "dict" "int" = some false)
theorem kit_bool : ∀ d : PyData, kitB (tyD d) "bool" = some (boolT d)
  | .none => (by decide +kernel : kitB "NoneType" "bool" = some false)
  | .bool _ => (by decide +kernel : kitB "bool" "bool" = some true)
  | .int _ => (by decide +kernel : kitB "int" "bool" = some false)
  | .str _ => (by decide +kernel : kitB "str" "bool" = some false)
  | .list _ => (by decide +kernel : kitB "list" "bool" = some false)
  | .tuple _ => (by decide +kernel : kitB "tuple" "bool" = some false)
  | .dict _ => (by decide +kernel : kitB "dict" "bool" = some false)
/-! ### a comprehension whose items are told by their places -/
theorem lc_step {H1 : Hp} {D : Addr} {f : Nat → V} {i : Nat} (hi : i < 1000) : ∃ acc, (upd H1 D (.lst ((List.range i).map f))) D = some (.lst acc) ∧ acc.length < sizeLine ∧
    upd (upd H1 D (.lst ((List.range i).map f))) D (.lst (acc ++ [f i])) = upd H1 D (.lst ((List.range (i + 1)).map f)) := by
  refine ⟨_, upd_same, by rw [List.length_map, List.length_range]; exact small1000 (by omega), ?_⟩
  rw [List.range_succ, List.map_append]
  funext b
  by_cases e : b = D
  · rw [e, upd_same, upd_same]
    rfl
  · rw [upd_ne e, upd_ne e, upd_ne e]
theorem range_getD {f : Nat → Bool} : ∀ l : List Nat, (((List.range l.length).map fun i => f (l.getD i 0)).all id) = l.all f := by
  intro l
  have e : (List.range l.length).map (fun i => f (l.getD i 0)) = l.map f := by
    apply List.ext_getElem
    · simp
    · intro i h1 h2
      have h3 : i < l.length := by simpa using h2
      simp [List.getD_eq_getElem?_getD, List.getElem?_eq_getElem h3]
  rw [e]
  simp
theorem lt_one {a b : Nat} : decide ([a] < [b]) = decide (a < b) := by
  by_cases h : a < b
  · rw [decide_eq_true h, decide_eq_true]
    exact List.Lex.rel h
  · rw [decide_eq_false h, decide_eq_false]
    intro z
    cases z with
    | rel r => exact h r
    | cons r => cases r
theorem lok_eq (c : Nat) : (if (!decide ([c] < [97])) = true then (!decide ([122] < [c])) else false) = lok c := by
  rw [lt_one, lt_one]
  unfold lok
  by_cases h1 : c < 97
  · rw [decide_eq_true h1, decide_eq_false (show ¬ 97 ≤ c by omega)]
    rfl
  · rw [decide_eq_false h1, decide_eq_true (show 97 ≤ c by omega)]
    by_cases h2 : 122 < c
    · rw [decide_eq_true h2, decide_eq_false (show ¬ c ≤ 122 by omega)]
      rfl
    · rw [decide_eq_false h2, decide_eq_true (show c ≤ 122 by omega)]
      rfl
section
variable {P : Program} {w : World} {K : PySem.W.Frag} {mg : Str → Option Value} {base : Heap}
structure TChk (K : PySem.W.Frag) (mg : Str → Option Value) : Type where
  mInt : mg "int" = none
  mBool : mg "bool" = none
  mStr : mg "str" = none
  mIsi : mg "isinstance" = none
  mLen : mg "len" = none
  mAll : mg "all" = none
  words : Addr
  mWords : mg "ROW_WORDS" = some (.ref words)
  hWords : ∀ H, SqT K H words rowV
  tok : Tok
  mLong : mg "LONGEST_NAME" = some (.int 4 tok)
  isInteger : At K mg "is_integer" sIsInteger ["value"]
  isNumber : At K mg "is_number" sIsNumber ["value"]
  isName : At K mg "is_name" sIsName ["value"]
def spIsInteger (K : PySem.W.Frag) : Sp := fun vs H Q _ => ∃ (v : V) (d : PyData), vs = [v] ∧ Dp K H v d ∧ Q (.bl (intD d)) H
theorem scIsInteger : FnScope ["value"] ["value"] (defScope sIsInteger) := ⟨rfl, rfl, rfl, by decide +kernel, rfl, by decide +kernel, by decide +kernel⟩
theorem TChk.okInteger (T : TChk K mg) : FnOk P w K mg base CX0 1 T.isInteger.f T.isInteger.fd ["value"] (spIsInteger K) := by
  refine T.isInteger.F.ok scIsInteger (fun vs H Q E h => ?_) (fun cdv A outer s H vs Q E hr h => ?_)
  · obtain ⟨v, d, rfl, _⟩ := h
    rfl
  · obtain ⟨v, d, rfl, hd, q⟩ := h
    refine ⟨_, pss_one (ps_ret (pe_and (pe_callB call_isi (by rfl) T.mIsi (by decide +kernel) (pa_cons (pv 0) (pa_cons (pe_bltn (v := .ty "int") (by rfl) T.mInt (by decide +kernel) rfl) pa_nil)))
      (pe_one (pe_not (pe_callB call_isi (by rfl) T.mIsi (by decide +kernel) (pa_cons (pv 0) (pa_cons (pe_bltn (v := .ty "bool") (by rfl) T.mBool (by decide +kernel) rfl) pa_nil))))))), ?_⟩
    refine ⟨_, rfl, v, _, _, _, _, rfl, .ty _, dp_ty hd, kit_ty (kit_int d), _, rfl, ?_⟩
    cases d with
    | none => exact q
    | str z => exact q
    | list ds => exact q
    | tuple ds => exact q
    | dict ds => exact q
    | int i => exact ⟨_, rfl, v, _, _, _, _, rfl, .ty _, dp_ty hd, kit_ty (kit_bool _), _, rfl, q⟩
    | bool i => exact ⟨_, rfl, v, _, _, _, _, rfl, .ty _, dp_ty hd, kit_ty (kit_bool _), _, rfl, q⟩
def spIsNumber (K : PySem.W.Frag) : Sp := fun vs H Q _ => ∃ (v : V) (d : PyData), vs = [v] ∧ Dp K H v d ∧ Q (.bl (numD d)) H
theorem scIsNumber : FnScope ["value"] ["value"] (defScope sIsNumber) := ⟨rfl, rfl, rfl, by decide +kernel, rfl, by decide +kernel, by decide +kernel⟩
theorem TChk.okNumber (T : TChk K mg) : FnOk P w K mg base CX0 2 T.isNumber.f T.isNumber.fd ["value"] (spIsNumber K) := by
  refine T.isNumber.F.ok scIsNumber (fun vs H Q E h => ?_) (fun cdv A outer s H vs Q E hr h => ?_)
  · obtain ⟨v, d, rfl, _⟩ := h
    rfl
  · obtain ⟨v, d, rfl, hd, q⟩ := h
    refine ⟨_, pss_one (ps_ret (pe_and (pe_call T.okInteger hr rfl T.isInteger.m T.isInteger.F.kp T.isInteger.b .nil pass0 (pa_cons (pv 0) pa_nil)) (pe_one (pe_cmpR op_ge (pv 0) pe_int (nomark _))))), ?_⟩
    refine ⟨_, rfl, v, d, rfl, hd, _, rfl, ?_⟩
    cases d with
    | none => exact q
    | str z => exact q
    | list ds => exact q
    | tuple ds => exact q
    | dict ds => exact q
    | bool i => exact q
    | int i =>
      cases hd
      exact ⟨_, rfl, _, _, rfl, rfl, q⟩
def dlen : PyData → Prop
  | .str z => z.length ≤ 900
  | _ => True
def spIsName (K : PySem.W.Frag) : Sp := fun vs H Q _ => ∃ (v : V) (d : PyData), vs = [v] ∧ Dp K H v d ∧ dlen d ∧ ∀ H', Same H H' → Mo H H' → Q (.bl (nameD d)) H'
theorem scIsName : FnScope ["value", "letter"] ["value"] (defScope sIsName) := ⟨rfl, rfl, rfl, by decide +kernel, rfl, by decide +kernel, by decide +kernel⟩
theorem TChk.okName (T : TChk K mg) : FnOk P w K mg base CX0 1 T.isName.f T.isName.fd ["value"] (spIsName K) := by
  refine T.isName.F.ok scIsName (fun vs H Q E h => ?_) (fun cdv A outer s H vs Q E hr h => ?_)
  · obtain ⟨v, d, rfl, _⟩ := h
    rfl
  · obtain ⟨v, d, rfl, hd, hl, q⟩ := h
    refine ⟨_, pss_cons (ps_if (PW.pt (pw_or (pt_not (pt_val (pe_callB call_isi (by rfl) T.mIsi (by decide +kernel) (pa_cons (pv 0) (pa_cons (pe_bltn (v := .ty "str") (by rfl) T.mStr (by decide +kernel) rfl) pa_nil)))))
        (pw_or1 (pt_cmpR op_in_seq (pv 0) (pe_glob (v := .ref T.words) (by rfl) T.mWords rfl) rfl)))) (pss_one (ps_ret pe_bl)) pss_nil)
      (pss_one (ps_ret (pe_and (pe_chain op_le op_le pe_int (pe_callB call_len_str (by rfl) T.mLen PySem.boot_len (pa_cons (pv 0) pa_nil)) (pe_glob (v := .int 4) (by rfl) T.mLong ⟨_, rfl⟩))
        (pe_one (pe_callB (cr_all rfl) (by rfl) T.mAll (by decide +kernel) (pa_cons (pe_lc (own := [("letter", 1)]) (g := gName 1) (tt := tYes) (by rfl) scIsName.nd (pi_str (pv 0))
          (blkOk_by (N := ["value", "letter"]) (sc := defScope sIsName) (by decide +kernel)) (fun _ _ _ _ _ => pg_name (i := 1) scIsName.nd rfl (Or.inl rfl)) (fun _ _ _ _ _ => pts_nil)
          (fun _ _ _ _ _ => pe_chain op_le_str op_le_str pe_str (pv 1) pe_str)) pa_nil)))))), ?_⟩
    refine ⟨_, rfl, v, _, _, _, _, rfl, .ty _, dp_ty hd, kit_ty (kit_str d), _, rfl, ?_⟩
    cases d with
    | str z =>
      cases hd
      refine ⟨_, rfl, T.words, rowV, rfl, .inr (T.hWords H), rfl, rfl, _, rfl, ?_⟩
      have hl' : z.length ≤ 900 := hl
      cases e : inV (.str z) rowV with
      | true =>
        have e2 : nameD (.str z) = false := by show nameS z = false; unfold nameS; rw [e]; rfl
        rw [e2] at q
        refine iteT ?_
        exact q H (Same.refl H) (Mo.refl H)
      | false =>
        refine iteF ?_
        refine ⟨_, rfl, z, rfl, Nat.le_trans hl' (by decide), _, _, rfl, rfl, _, rfl, ?_⟩
        have e2 : nameD (.str z) = ((decide (1 ≤ (z.length : Int)) && decide ((z.length : Int) ≤ 4)) && z.cps.toList.all lok) := by show nameS z = _; unfold nameS; rw [e]; rfl
        rw [e2] at q
        cases h1 : decide (1 ≤ (z.length : Int)) with
        | false =>
          rw [h1] at q
          refine iteF ?_
          exact ⟨false, rfl, iteF (q H (Same.refl H) (Mo.refl H))⟩
        | true =>
          rw [h1] at q
          refine iteT ?_
          refine ⟨_, _, rfl, rfl, _, rfl, ?_⟩
          cases h2 : decide ((z.length : Int) ≤ 4) with
          | false =>
            rw [h2] at q
            exact iteF (q H (Same.refl H) (Mo.refl H))
          | true =>
            rw [h2] at q
            refine iteT ?_
            refine ⟨_, rfl, z, rfl, fun D hD => lc_it walk_str (fun i Hi => Hi = upd H D (.lst ((List.range i).map fun j => .bl (lok (z.cps.toList.getD j 0))))) rfl (fun _ _ _ _ => trivial) (fun i x Hi Hj hi hP hY => ?_) (fun Hi hP => ?_)⟩
            · obtain ⟨rfl, c, hc, rfl⟩ := hY
              subst hP
              have hi2 : i < 1000 := by
                have : z.cps.size = z.length := rfl
                omega
              have hg : z.cps.toList.getD i 0 = c := by
                rw [List.getD_eq_getElem?_getD, Array.getElem?_toList, hc]
                rfl
              have fin := lc_step (H1 := H) (D := D) (f := fun j => .bl (lok (z.cps.toList.getD j 0))) (i := i) hi2
              rw [hg, ← lok_eq] at fin
              refine ⟨rfl, _, rfl, _, _, rfl, rfl, _, rfl, ?_⟩
              cases h3 : (!decide ([c] < [97])) with
              | false =>
                have h4 : (!decide (({ cps := #[c] } : Str).cps.toList < (Str.ofString "a").cps.toList)) = false := h3
                rw [h3] at fin
                rw [h4]
                exact fin
              | true =>
                have h4 : (!decide (({ cps := #[c] } : Str).cps.toList < (Str.ofString "a").cps.toList)) = true := h3
                rw [h3] at fin
                rw [h4]
                exact ⟨_, _, rfl, rfl, fin⟩
            · subst hP
              refine ⟨D, (List.range z.cps.size).map fun j => lok (z.cps.toList.getD j 0), rfl, ?_, ?_⟩
              · refine SqL.of ?_
                rw [upd_same, List.map_map]
                rfl
              · have e3 := range_getD (f := lok) z.cps.toList
                rw [Array.length_toList] at e3
                rw [e3]
                exact q _ (Same.new hD) Mo.upd
    | none => exact q H (Same.refl H) (Mo.refl H)
    | list ds => exact q H (Same.refl H) (Mo.refl H)
    | tuple ds => exact q H (Same.refl H) (Mo.refl H)
    | dict ds => exact q H (Same.refl H) (Mo.refl H)
    | int i => exact q H (Same.refl H) (Mo.refl H)
    | bool i => exact q H (Same.refl H) (Mo.refl H)
end
end Pn

namespace Pn
open PySem L2
theorem iteTD {c : Bool} {A B : Prop} (hc : c = true) (h : A) : if c = true then A else B := by
  rw [if_pos hc]
  exact h
theorem iteFD {c : Bool} {A B : Prop} (hc : c = false) (h : B) : if c = true then A else B := by
  rw [hc, if_neg Bool.false_ne_true]
  exact h
/-! ### own exceptions that keep one thing -/
theorem same_made {H1 : Hp} {a d : Addr} {y : V} {f : Str} {o1 o2 o3 : HO} (ha : H1 a = none) (hd : H1 d = none) : Same H1 (upd (del (upd (upd (upd H1 a o1) d o2) a o3) a) d (.xd [(f, y)])) := fun b o e => by
  have n1 : b ≠ a := ne_of_none e ha
  have n2 : b ≠ d := ne_of_none e hd
  rw [upd_ne n2, del_ne n1, upd_ne n1, upd_ne n2, upd_ne n1]
  exact e
/-- an own exception class of the text whose __init__ keeps one thing under the name fld -/
structure TExc (K : PySem.W.Frag) (mg : Str → Option Value) (x : Str) (qual fld : Str) (st : Stmt) : Type where
  C : Addr
  fI : Addr
  fd : FuncData
  F : Fun K "__init__" qual st fI fd
  b : Binds K fd ["self", fld] []
  m : mg x = some (.ref C)
  O : OexC K C
  iC : PySem.W.findIn K (.ref C) "__init__" = some (some (.ref fI))
  tI : PySem.W.typeIn K (.ref fI) = some (.type "function")
  noF : PySem.W.findIn K (.ref C) fld = some none
  E : ExcC K C
  isC : PySem.W.isClsIn K C = true
  te : PySem.W.exmOne K (.ref C) (.ref C) = some true
  xf : XfC K C
def spXInit (K : PySem.W.Frag) (fld : Str) : Sp := fun vs H Q _ => ∃ (a C : Addr) (v : V), vs = [.ref a, v] ∧ H a = some (exo a C none) ∧ OexC K C ∧ PySem.W.findIn K (.ref C) fld = some none ∧
  ∀ dx, H dx = none → dx ≠ a → Q .non (upd (upd H dx (exd dx [(fld, v)])) a (exo a C (some dx)))
/-- isinstance of the exception that a suite holds -/
def rIsX (K : PySem.W.Frag) (D a : Addr) (cls : Value) (d : Option Addr) : List V → Hp → VK → Prop := fun xs H Q => ∃ (c : V) (cv : Value) (b : Bool) (dd : Addr) (fs : List (Str × V)), xs = [.ref a, c] ∧ cls = .ref D ∧ ClsV c cv ∧ PySem.W.kitOne K (.ref D) cv = some b ∧ d = some dd ∧ H dd = some (.xd fs) ∧ Q (.bl b) H
theorem call_isX {X : Cx} {a D : Addr} {cls : Value} {d : Option Addr} {oe : Obj} {pn : List (Addr × Obj)} (C : ExcC X.K D) (hz : Zc cls d oe) (hf : ∃ vs, oe.data = .fields vs) : CallR (X.suite a ((a, oe) :: pn)) (.builtin "isinstance") (rIsX X.K D a cls d) := by
  intro pins s σ H xs us Q I r h
  obtain ⟨c, cv, b, dd, fs, rfl, rfl, hcv, e, rfl, hdd, q⟩ := h
  obtain ⟨u1, u2, rfl, r1, r2⟩ := vals2 r
  obtain rfl : u1 = Value.ref a := r1
  obtain rfl : u2 = cv := hcv.eq r2
  obtain ⟨hget, _⟩ := I.pin (a, oe) (List.mem_append.mpr (.inl List.mem_cons_self))
  obtain ⟨mA, hns, _⟩ : ObjOk X.prog X.w H s.heap dd (.xd fs) := I.hok dd _ hdd
  obtain ⟨od, ho, _⟩ := lookIn_ns hns
  obtain ⟨vs, hv⟩ := hf
  have J : PySem.W.InstAt s.heap a oe D (some od) := ⟨hget, hz.1, by unfold PySem.W.notCls; rw [hv] <;> rfl, by rw [hz.2]; exact ho⟩
  have hcl : (PySem.W.clsIn X.K D).isSome = true := by
    have q := C.hd
    unfold PySem.W.hasDictIn at q
    cases z : PySem.W.clsIn X.K D with
    | some cd => rfl
    | none => rw [z] at q; cases q
  exact PySem.W.kia_one (PySem.W.kitx_exc hcl C.hg C.hk C.hs C.ha C.hn C.ht C.hm) I.kIn J e (fun z => nomatch z) fun tk => ⟨.bl b, H, I.tok tk, rfl, q⟩
end Pn

namespace Pn
open PySem PySem.Spec PyProof.Rows L2
/-! ### the same exceptions, with what is known of their context -/
section
variable {X : Cx} {CX : CXT} {C fI : Addr} {k : Nat} {fd : FuncData} {ps : List Str} {sp : Sp} {ta : TA}
theorem pmk_oexN {x : Str} {e : Expr} {es : List Expr} {p pos : Pos} (T : OexC X.K C) (iC : PySem.W.findIn X.K (.ref C) "__init__" = some (some (.ref fI))) (tI : PySem.W.typeIn X.K (.ref fI) = some (.type "function"))
    (F1 : FnOk X.prog X.w X.K X.mg X.base CX k fI fd ps sp) (room : Room (k + 1) X.A) (bnd : Binds X.K fd ps []) (noE : Passes CX X (fun _ _ _ => False))
    (gl : Gl X x) (at_ : X.mg x = some (.ref C)) (ha : PA X (e :: es) ta) (hdb : (x == ("__debug__" : Str)) = false := by decide)
    (he : starEach (e :: es) X.env = (false, eval e X.env) :: starEach es X.env := by rfl) (hpl : (backTo pos (starEach es X.env)).any (·.1) = false := by rfl) :
    L2N.PMk X (.Call (.Name x p) (e :: es) [] pos) (tMkO C sp [] ta) := by
  intro pins s σ H Q I want
  rcases T.cls with ⟨c1, c2, c3, c4, mro, c5, c6, c7, c8, c9, d0, d1, d2, d3, d5, look, vet⟩
  apply wpAny_Call_Name_kw
  refine ld_glob I gl at_ ?_ hdb
  refine PySem.W.callWith_K (h₀ := X.base) I.ok.mod.kin T.kC ?_ he hpl
  refine thn (ha.run pos pins s σ H _ I want) ?_
  rintro us ⟨hp, gs, dr, tk, os⟩ ⟨vs, H1, J, rel, few, made⟩
  refine ⟨J.kIn, ?_⟩
  let a := hp.objs.size + 1
  let hp2 := (hp.push (PySem.W.kdv_tup us)).push (PySem.HandSPX.excO C hp.objs.size)
  have old : ∀ b o, hp.get? b = some o → hp2.get? b = some o := fun b o z => Heap.get?_push_of_some _ (Heap.get?_push_of_some _ z)
  have fresh : H1 a = none := J.hok.fresh (Nat.le_succ _)
  have there : hp2.get? a = some (PySem.HandSPX.excO C hp.objs.size) := by
    show ((hp.push (PySem.W.kdv_tup us)).push (PySem.HandSPX.excO C hp.objs.size)).get? (hp.objs.size + 1) = _
    heap_get
  have J2 : Inv X pins σ (upd H1 a (exo a C none)) ⟨hp2, gs, dr, tk, os⟩ := J.laid (t' := tk) (a := a) (o := exo a C none) (h' := hp2) old (Nat.le_succ _) (exo_ok there)
  have go := made a fresh
  rw [List.append_nil] at go
  have rel2 : Vals (V.ref a :: vs) (Value.ref a :: us) := .cons (show RelV (.ref a) (Value.ref a) from rfl) rel
  have cnt : (Value.ref a :: us ++ []).length = ps.length := by
    rw [List.append_nil, ← rel2.length]
    exact F1.len _ _ _ _ go
  have bd := bnd ⟨hp2, gs, dr, tk, os⟩ (Value.ref a :: us) J2.kIn cnt
  rw [List.append_nil] at bd
  have lim : us.length ≤ sizeLine := by
    rw [← Paired.length rel, sizeLine_eq]
    omega
  show wpAny _ _ (call (.ref C) us) _ _ _
  refine wpAny_call (PySem.HandSPX.call_own F.excBase_ValueError (fun Y => PySem.HandSPX.refsVE_contains Y mro vet) (J.kIn _ _ look) (PySem.W.looks_findIn J.kIn iC)
    (fun self => PySem.W.bind_fn J.kIn self tI) lim ?_)
  have ran := F1.run _ X.stack _ _ ⟨Value.ref a :: us, []⟩ (Value.ref a :: us) _ _ (fun _ _ _ => False) (room.make C us []) (J2.env0.make C us []) bd rel2 go
  refine codeAny_mono ran ?_
  intro r s' out
  match r, out with
  | .error er, out => exact noE pins σ _ _ er s' J2 out
  | .ok .next, out => exact False.elim out
  | .ok .brk, out => exact False.elim out
  | .ok .cont, out => exact False.elim out
  | .ok (.ret u), out =>
    obtain ⟨v, H2, osame, bare, un, ok2, rv, rfl, d, fs, ea, ed, dn, fin⟩ := out
    obtain ⟨h2, g2, dr2, t2, os2⟩ := s'
    obtain ⟨t0, G, J3, sub, gone, obj, untr⟩ := mk_end0 (d2 := dr2) (t2 := t2) J (Nat.le_succ _) old un ok2 osame bare ea ed dn
    exact ⟨rv, a, _, _, ⟨G, g2, dr2, t2, os2⟩, _, .ref C, some d, rfl, J3, sub, gone, obj, ⟨rfl, rfl, fun ws z => by cases z; rfl⟩, rfl, rfl, untr, rfl, bare, raises_own T.exC T.tyC, fin⟩
end
section
variable {P : Program} {w : World} {K : PySem.W.Frag} {mg : Str → Option Value} {base : Heap}
theorem funD {x qual : Str} {st : Stmt} {f : Addr} {fd : FuncData} (F : Fun K x qual st f fd) : FunD K x qual (defArgs st) (defBody st) (defScope st) [] [] f fd := by
  obtain ⟨oc, od, kV, doc, pm, an, cdv, ct, osl, e, l, c⟩ := F.ex
  exact ⟨⟨oc, od, _, kV, doc, pm, an, cdv, ct, osl, e, l, c, .inl ⟨rfl, rfl⟩, .inl rfl⟩, F.kp⟩
end
end Pn

namespace Pn
open PySem L2
abbrev sNeedName : Stmt := top 14
abbrev sIRInit : Stmt := inClass (top 8) 0
section
variable {P : Program} {w : World} {K : PySem.W.Frag} {mg : Str → Option Value} {base : Heap}
theorem scIRInit : FnScope ["self", "word"] ["self", "word"] (defScope sIRInit) := ⟨rfl, rfl, rfl, by decide +kernel, rfl, by decide +kernel, by decide +kernel⟩
abbrev TIR (K : PySem.W.Frag) (mg : Str → Option Value) := TExc K mg "InvalidRow" "InvalidRow.__init__" "word" sIRInit
theorem okIRInit (T : TIR K mg) : FnOk P w K mg base CX0 1 T.fI T.fd ["self", "word"] (spXInit K "word") := by
  refine T.F.ok scIRInit (fun vs H Q E h => ?_) (fun cdv A outer s H vs Q E hr h => ?_)
  · obtain ⟨a, C, v, rfl, _⟩ := h
    rfl
  · obtain ⟨a, C, v, rfl, ha, O, no, q⟩ := h
    refine ⟨_, pss_one (ps_ost (pv 0) (pv 1)), ?_⟩
    exact ⟨_, rfl, _, rfl, a, C, rfl, O, no, .inl ⟨ha, fun dx h1 h2 => q dx h1 h2⟩⟩
/-- InvalidRow(wd) leaves the def -/
def RaiseW (C : Addr) (H : Hp) (E : XK) (wd : V) : Prop := ∀ (e : Addr) (H' : Hp), Same H H' → Mo H H' → H e = none → H' e = some (.xd [("word", wd)]) → E (.ref C) (some e) H'
theorem RaiseW.back {C : Addr} {H H1 : Hp} {E : XK} {wd : V} (h : RaiseW C H E wd) (s : Same H H1) (m : Mo H H1) : RaiseW C H1 E wd := fun e H' h1 h2 h3 h4 => h e H' (s.trans h1) (m.trans h2) (m e h3) h4
def spNeed (K : PySem.W.Frag) (C : Addr) : Sp := fun vs H Q E => ∃ (v wd : V) (d : PyData), vs = [v, wd] ∧ Dp K H v d ∧ dlen d ∧ (nameD d = true → ∀ H', Same H H' → Mo H H' → Q .non H') ∧ (nameD d = false → RaiseW C H E wd)
structure TNeed (K : PySem.W.Frag) (mg : Str → Option Value) : Type extends TChk K mg where
  IR : TIR K mg
  need : At K mg "need_name" sNeedName ["value", "word"]
theorem scNeed : FnScope ["value", "word"] ["value", "word"] (defScope sNeedName) := ⟨rfl, rfl, rfl, by decide +kernel, rfl, by decide +kernel, by decide +kernel⟩
/-- a new exception of InvalidRow, as its making leaves it -/
theorem ir_made {C : Addr} {H H1 : Hp} {E : XK} {wd : V} (s : Same H H1) (m : Mo H H1) (h : RaiseW C H E wd) {a : Addr} (ha : H1 a = none) (dx : Addr) (h1 : (upd H1 a (exo a C none)) dx = none) (h2 : dx ≠ a) :
    E (.ref C) (some dx) (upd (del (upd (upd (upd H1 a (exo a C none)) dx (exd dx [("word", wd)])) a (exo a C (some dx))) a) dx (.xd [("word", wd)])) := by
  have hd : H1 dx = none := by rw [upd_ne h2] at h1; exact h1
  refine h dx _ (s.trans (same_made ha hd)) (m.trans fun b e => ?_) (m dx hd) upd_same
  by_cases n2 : b = dx
  · rw [n2]; exact hd
  · by_cases n1 : b = a
    · rw [n1]; exact ha
    · rw [upd_ne n2, del_ne n1, upd_ne n1, upd_ne n2, upd_ne n1] at e
      exact e
theorem okNeed (T : TNeed K mg) : FnOk P w K mg base (L2N.CX P w) 3 T.need.f T.need.fd ["value", "word"] (spNeed K T.IR.C) := by
  refine (funD T.need.F).ok scNeed (fun vs H Q E h => ?_) (fun cdv A outer s H vs Q E hr h => ?_)
  · obtain ⟨v, wd, d, rfl, _⟩ := h
    rfl
  · obtain ⟨v, wd, d, rfl, hd, hl, q1, q2⟩ := h
    refine ⟨_, pss_one (ps_if (pt_not (pt_val (pe_call (T.okName) (hr.mono (by decide)) rfl T.isName.m T.isName.F.kp T.isName.b .nil pass0 (pa_cons (pv 0) pa_nil))))
      (pss_one (L2N.ps_raise rfl (L2N.takes_of rfl rfl rfl rfl) (pmk_oexN T.IR.O T.IR.iC T.IR.tI (okIRInit T.IR) (hr.mono (by decide)) T.IR.b pass0 rfl T.IR.m (pa_cons (pv 1) pa_nil)))) pss_nil), ?_⟩
    refine ⟨_, rfl, v, d, rfl, hd, hl, fun H1 hs hm => ?_⟩
    cases hn : nameD d with
    | true => exact ⟨true, rfl, iteF (q1 hn H1 hs hm)⟩
    | false =>
      refine ⟨false, rfl, iteT ?_⟩
      refine ⟨_, rfl, (by show 1 ≤ 1000; decide), fun a ha => ⟨a, T.IR.C, wd, rfl, upd_same, T.IR.O, T.IR.noF, fun dx h1 h2 => ?_⟩⟩
      have hd1 : H1 dx = none := by rw [upd_ne h2] at h1; exact h1
      exact ⟨rfl, dx, _, upd_same, by rw [upd_ne h2, upd_same], hd1, ir_made hs hm (q2 hn) ha dx h1 h2⟩
/-- an own class with an __init__ -/
structure TCls (K : PySem.W.Frag) (mg : Str → Option Value) (x qual : Str) (st : Stmt) (ps : List Str) : Type where
  C : Addr
  fI : Addr
  fd : FuncData
  F : Fun K "__init__" qual st fI fd
  b : Binds K fd ps []
  m : mg x = some (.ref C)
  M : Mk K C fI
  cl : Cls K C
  noW : NoAttr K C "word"
theorem small2 {f g : Str} {v u : V} : (putF g u (putF f v ([] : List (Str × V)))).length < 1000 := by
  unfold putF putF
  simp only
  split
  · show 1 < 1000
    decide
  · show 2 < 1000
    decide
/-- all but the new instance is as it was -/
def KpI (x : Addr) (H H' : Hp) : Prop := ∀ b o, H b = some o → b ≠ x → H' b = some o
/-! ### Keep -/
abbrev sKeepInit : Stmt := inClass (top 18) 0
theorem scKeepInit : FnScope ["self", "counter"] ["self", "counter"] (defScope sKeepInit) := ⟨rfl, rfl, rfl, by decide +kernel, rfl, by decide +kernel, by decide +kernel⟩
structure TKeep (K : PySem.W.Frag) (mg : Str → Option Value) : Type extends TCls K mg "Keep" "Keep.__init__" sKeepInit ["self", "counter"] where
  noF : NoAttr K C "counter"
def insKeep (C dx : Addr) (v : V) : HO := .ins C dx (putF "counter" v (putF "word" (.str "keep") []))
def spKeepInit (K : PySem.W.Frag) (C CR : Addr) : Sp := fun vs H Q E => ∃ (x dx : Addr) (v : V) (d : PyData), vs = [.ref x, v] ∧ H x = some (.ins C dx []) ∧ Dp K H v d ∧ dlen d ∧
  (nameD d = true → ∀ H', KpI x H H' → Mo H H' → H' x = some (insKeep C dx v) → Q .non H') ∧ (nameD d = false → RaiseW CR H E (.str "counter"))
theorem okKeepInit (T : TKeep K mg) (N : TNeed K mg) : FnOk P w K mg base (L2N.CX P w) 4 T.fI T.fd ["self", "counter"] (spKeepInit K T.C N.IR.C) := by
  refine (funD T.F).ok scKeepInit (fun vs H Q E h => ?_) (fun cdv A outer s H vs Q E hr h => ?_)
  · obtain ⟨x, dx, v, d, rfl, _⟩ := h
    rfl
  · obtain ⟨x, dx, v, d, rfl, hx, hd, hl, q1, q2⟩ := h
    refine ⟨_, pss_cons (ps_expr (pe_callS (okNeed N) hr rfl N.need.m N.need.F.kp N.need.b (fun σ => L2N.passAt (L2N.takes_of rfl rfl rfl rfl) σ) (pa_cons (pv 1) (pa_cons pe_str pa_nil))))
      (pss_cons (ps_fld (pv 0) pe_str rfl) (pss_one (ps_fld (pv 0) (pv 1) rfl))), ?_⟩
    refine ⟨_, rfl, v, _, d, rfl, hd, hl, fun hn H1 hs hm => ?_, fun hn => q2 hn⟩
    refine ⟨_, rfl, x, T.C, dx, [], rfl, hs x _ hx, T.cl, T.noW, (by show 0 < 1000; decide), _, rfl, _, rfl, x, T.C, dx, _, rfl, upd_same, T.cl, T.noF, (by show 1 < 1000; decide), ?_⟩
    refine q1 hn _ (fun b o e n => ?_) (hm.trans (Mo.upd.trans Mo.upd)) upd_same
    rw [upd_ne n, upd_ne n]
    exact hs b o e
/-! ### Back -/
abbrev sBackInit : Stmt := inClass (top 19) 0
theorem scBackInit : FnScope ["self", "counter"] ["self", "counter"] (defScope sBackInit) := ⟨rfl, rfl, rfl, by decide +kernel, rfl, by decide +kernel, by decide +kernel⟩
structure TBack (K : PySem.W.Frag) (mg : Str → Option Value) : Type extends TCls K mg "Back" "Back.__init__" sBackInit ["self", "counter"] where
  noF : NoAttr K C "counter"
def insBack (C dx : Addr) (v : V) : HO := .ins C dx (putF "counter" v (putF "word" (.str "back") []))
def spBackInit (K : PySem.W.Frag) (C CR : Addr) : Sp := fun vs H Q E => ∃ (x dx : Addr) (v : V) (d : PyData), vs = [.ref x, v] ∧ H x = some (.ins C dx []) ∧ Dp K H v d ∧ dlen d ∧
  (nameD d = true → ∀ H', KpI x H H' → Mo H H' → H' x = some (insBack C dx v) → Q .non H') ∧ (nameD d = false → RaiseW CR H E (.str "counter"))
theorem okBackInit (T : TBack K mg) (N : TNeed K mg) : FnOk P w K mg base (L2N.CX P w) 4 T.fI T.fd ["self", "counter"] (spBackInit K T.C N.IR.C) := by
  refine (funD T.F).ok scBackInit (fun vs H Q E h => ?_) (fun cdv A outer s H vs Q E hr h => ?_)
  · obtain ⟨x, dx, v, d, rfl, _⟩ := h
    rfl
  · obtain ⟨x, dx, v, d, rfl, hx, hd, hl, q1, q2⟩ := h
    refine ⟨_, pss_cons (ps_expr (pe_callS (okNeed N) hr rfl N.need.m N.need.F.kp N.need.b (fun σ => L2N.passAt (L2N.takes_of rfl rfl rfl rfl) σ) (pa_cons (pv 1) (pa_cons pe_str pa_nil))))
      (pss_cons (ps_fld (pv 0) pe_str rfl) (pss_one (ps_fld (pv 0) (pv 1) rfl))), ?_⟩
    refine ⟨_, rfl, v, _, d, rfl, hd, hl, fun hn H1 hs hm => ?_, fun hn => q2 hn⟩
    refine ⟨_, rfl, x, T.C, dx, [], rfl, hs x _ hx, T.cl, T.noW, (by show 0 < 1000; decide), _, rfl, _, rfl, x, T.C, dx, _, rfl, upd_same, T.cl, T.noF, (by show 1 < 1000; decide), ?_⟩
    refine q1 hn _ (fun b o e n => ?_) (hm.trans (Mo.upd.trans Mo.upd)) upd_same
    rw [upd_ne n, upd_ne n]
    exact hs b o e
/-! ### Ref -/
abbrev sRefInit : Stmt := inClass (top 20) 0
theorem scRefInit : FnScope ["self", "label"] ["self", "label"] (defScope sRefInit) := ⟨rfl, rfl, rfl, by decide +kernel, rfl, by decide +kernel, by decide +kernel⟩
structure TRef (K : PySem.W.Frag) (mg : Str → Option Value) : Type extends TCls K mg "Ref" "Ref.__init__" sRefInit ["self", "label"] where
  noF : NoAttr K C "label"
def insRef (C dx : Addr) (v : V) : HO := .ins C dx (putF "label" v (putF "word" (.str "ref") []))
def spRefInit (K : PySem.W.Frag) (C CR : Addr) : Sp := fun vs H Q E => ∃ (x dx : Addr) (v : V) (d : PyData), vs = [.ref x, v] ∧ H x = some (.ins C dx []) ∧ Dp K H v d ∧ dlen d ∧
  (nameD d = true → ∀ H', KpI x H H' → Mo H H' → H' x = some (insRef C dx v) → Q .non H') ∧ (nameD d = false → RaiseW CR H E (.str "label"))
theorem okRefInit (T : TRef K mg) (N : TNeed K mg) : FnOk P w K mg base (L2N.CX P w) 4 T.fI T.fd ["self", "label"] (spRefInit K T.C N.IR.C) := by
  refine (funD T.F).ok scRefInit (fun vs H Q E h => ?_) (fun cdv A outer s H vs Q E hr h => ?_)
  · obtain ⟨x, dx, v, d, rfl, _⟩ := h
    rfl
  · obtain ⟨x, dx, v, d, rfl, hx, hd, hl, q1, q2⟩ := h
    refine ⟨_, pss_cons (ps_expr (pe_callS (okNeed N) hr rfl N.need.m N.need.F.kp N.need.b (fun σ => L2N.passAt (L2N.takes_of rfl rfl rfl rfl) σ) (pa_cons (pv 1) (pa_cons pe_str pa_nil))))
      (pss_cons (ps_fld (pv 0) pe_str rfl) (pss_one (ps_fld (pv 0) (pv 1) rfl))), ?_⟩
    refine ⟨_, rfl, v, _, d, rfl, hd, hl, fun hn H1 hs hm => ?_, fun hn => q2 hn⟩
    refine ⟨_, rfl, x, T.C, dx, [], rfl, hs x _ hx, T.cl, T.noW, (by show 0 < 1000; decide), _, rfl, _, rfl, x, T.C, dx, _, rfl, upd_same, T.cl, T.noF, (by show 1 < 1000; decide), ?_⟩
    refine q1 hn _ (fun b o e n => ?_) (hm.trans (Mo.upd.trans Mo.upd)) upd_same
    rw [upd_ne n, upd_ne n]
    exact hs b o e
/-! ### Put -/
abbrev sPutInit : Stmt := inClass (top 21) 0
theorem scPutInit : FnScope ["self", "part"] ["self", "part"] (defScope sPutInit) := ⟨rfl, rfl, rfl, by decide +kernel, rfl, by decide +kernel, by decide +kernel⟩
structure TPut (K : PySem.W.Frag) (mg : Str → Option Value) : Type extends TCls K mg "Put" "Put.__init__" sPutInit ["self", "part"] where
  noF : NoAttr K C "part"
def insPut (C dx : Addr) (v : V) : HO := .ins C dx (putF "part" v (putF "word" (.str "put") []))
def spPutInit (K : PySem.W.Frag) (C CR : Addr) : Sp := fun vs H Q E => ∃ (x dx : Addr) (v : V) (d : PyData), vs = [.ref x, v] ∧ H x = some (.ins C dx []) ∧ Dp K H v d ∧ dlen d ∧
  (nameD d = true → ∀ H', KpI x H H' → Mo H H' → H' x = some (insPut C dx v) → Q .non H') ∧ (nameD d = false → RaiseW CR H E (.str "part"))
theorem okPutInit (T : TPut K mg) (N : TNeed K mg) : FnOk P w K mg base (L2N.CX P w) 4 T.fI T.fd ["self", "part"] (spPutInit K T.C N.IR.C) := by
  refine (funD T.F).ok scPutInit (fun vs H Q E h => ?_) (fun cdv A outer s H vs Q E hr h => ?_)
  · obtain ⟨x, dx, v, d, rfl, _⟩ := h
    rfl
  · obtain ⟨x, dx, v, d, rfl, hx, hd, hl, q1, q2⟩ := h
    refine ⟨_, pss_cons (ps_expr (pe_callS (okNeed N) hr rfl N.need.m N.need.F.kp N.need.b (fun σ => L2N.passAt (L2N.takes_of rfl rfl rfl rfl) σ) (pa_cons (pv 1) (pa_cons pe_str pa_nil))))
      (pss_cons (ps_fld (pv 0) pe_str rfl) (pss_one (ps_fld (pv 0) (pv 1) rfl))), ?_⟩
    refine ⟨_, rfl, v, _, d, rfl, hd, hl, fun hn H1 hs hm => ?_, fun hn => q2 hn⟩
    refine ⟨_, rfl, x, T.C, dx, [], rfl, hs x _ hx, T.cl, T.noW, (by show 0 < 1000; decide), _, rfl, _, rfl, x, T.C, dx, _, rfl, upd_same, T.cl, T.noF, (by show 1 < 1000; decide), ?_⟩
    refine q1 hn _ (fun b o e n => ?_) (hm.trans (Mo.upd.trans Mo.upd)) upd_same
    rw [upd_ne n, upd_ne n]
    exact hs b o e
/-! ### Open -/
abbrev sOpenInit : Stmt := inClass (top 22) 0
theorem scOpenInit : FnScope ["self", "name"] ["self", "name"] (defScope sOpenInit) := ⟨rfl, rfl, rfl, by decide +kernel, rfl, by decide +kernel, by decide +kernel⟩
structure TOpen (K : PySem.W.Frag) (mg : Str → Option Value) : Type extends TCls K mg "Open" "Open.__init__" sOpenInit ["self", "name"] where
  noF : NoAttr K C "name"
def insOpen (C dx : Addr) (v : V) : HO := .ins C dx (putF "name" v (putF "word" (.str "open") []))
def spOpenInit (K : PySem.W.Frag) (C CR : Addr) : Sp := fun vs H Q E => ∃ (x dx : Addr) (v : V) (d : PyData), vs = [.ref x, v] ∧ H x = some (.ins C dx []) ∧ Dp K H v d ∧ dlen d ∧
  (nameD d = true → ∀ H', KpI x H H' → Mo H H' → H' x = some (insOpen C dx v) → Q .non H') ∧ (nameD d = false → RaiseW CR H E (.str "name"))
theorem okOpenInit (T : TOpen K mg) (N : TNeed K mg) : FnOk P w K mg base (L2N.CX P w) 4 T.fI T.fd ["self", "name"] (spOpenInit K T.C N.IR.C) := by
  refine (funD T.F).ok scOpenInit (fun vs H Q E h => ?_) (fun cdv A outer s H vs Q E hr h => ?_)
  · obtain ⟨x, dx, v, d, rfl, _⟩ := h
    rfl
  · obtain ⟨x, dx, v, d, rfl, hx, hd, hl, q1, q2⟩ := h
    refine ⟨_, pss_cons (ps_expr (pe_callS (okNeed N) hr rfl N.need.m N.need.F.kp N.need.b (fun σ => L2N.passAt (L2N.takes_of rfl rfl rfl rfl) σ) (pa_cons (pv 1) (pa_cons pe_str pa_nil))))
      (pss_cons (ps_fld (pv 0) pe_str rfl) (pss_one (ps_fld (pv 0) (pv 1) rfl))), ?_⟩
    refine ⟨_, rfl, v, _, d, rfl, hd, hl, fun hn H1 hs hm => ?_, fun hn => q2 hn⟩
    refine ⟨_, rfl, x, T.C, dx, [], rfl, hs x _ hx, T.cl, T.noW, (by show 0 < 1000; decide), _, rfl, _, rfl, x, T.C, dx, _, rfl, upd_same, T.cl, T.noF, (by show 1 < 1000; decide), ?_⟩
    refine q1 hn _ (fun b o e n => ?_) (hm.trans (Mo.upd.trans Mo.upd)) upd_same
    rw [upd_ne n, upd_ne n]
    exact hs b o e
/-! ### Note, Skip, Set -/
abbrev sNoteInit : Stmt := inClass (top 15) 0
theorem scNoteInit : FnScope ["self", "counter", "label"] ["self", "counter", "label"] (defScope sNoteInit) := ⟨rfl, rfl, rfl, by decide +kernel, rfl, by decide +kernel, by decide +kernel⟩
structure TNote (K : PySem.W.Frag) (mg : Str → Option Value) : Type where
  C : Addr
  fI : Addr
  fd : FuncData
  F : FunD K "__init__" "Note.__init__" (defArgs sNoteInit) (defBody sNoteInit) (defScope sNoteInit) [.str ""] [] fI fd
  b : Binds K fd ["self", "counter", "label"] []
  m : mg "Note" = some (.ref C)
  M : Mk K C fI
  cl : Cls K C
  noW : NoAttr K C "word"
  noC : NoAttr K C "counter"
  noL : NoAttr K C "label"
def insNote (C dx : Addr) (v u : V) : HO := .ins C dx (putF "label" u (putF "counter" v (putF "word" (.str "note") [])))
/-- the label of a note -/
def labD (d : PyData) : Bool := PyData.eqv d (.str "") || nameD d
def spNoteInit (K : PySem.W.Frag) (C CR : Addr) : Sp := fun vs H Q E => ∃ (x dx : Addr) (v u : V) (d e : PyData), vs = [.ref x, v, u] ∧ H x = some (.ins C dx []) ∧ Dp K H v d ∧ dlen d ∧ Dp K H u e ∧ dlen e ∧ SeqAt.shaped e = true ∧
  (nameD d = true → labD e = true → ∀ H', KpI x H H' → Mo H H' → H' x = some (insNote C dx v u) → Q .non H') ∧ (nameD d = false → RaiseW CR H E (.str "counter")) ∧ (nameD d = true → labD e = false → RaiseW CR H E (.str "label"))
theorem okNoteInit (T : TNote K mg) (N : TNeed K mg) : FnOk P w K mg base (L2N.CX P w) 4 T.fI T.fd ["self", "counter", "label"] (spNoteInit K T.C N.IR.C) := by
  refine T.F.ok scNoteInit (fun vs H Q E h => ?_) (fun cdv A outer s H vs Q E hr h => ?_)
  · obtain ⟨x, dx, v, u, d, e, rfl, _⟩ := h
    rfl
  · obtain ⟨x, dx, v, u, d, e, rfl, hx, hd, hl, he, hl2, hsh, q1, q2, q3⟩ := h
    refine ⟨_, pss_cons (ps_expr (pe_callS (okNeed N) hr rfl N.need.m N.need.F.kp N.need.b (fun σ => L2N.passAt (L2N.takes_of rfl rfl rfl rfl) σ) (pa_cons (pv 1) (pa_cons pe_str pa_nil))))
      (pss_cons (ps_if (pt_cmpR (op_neD hr.units) (pv 2) pe_str (nomark _)) (pss_one (ps_expr (pe_callS (okNeed N) hr rfl N.need.m N.need.F.kp N.need.b (fun σ => L2N.passAt (L2N.takes_of rfl rfl rfl rfl) σ) (pa_cons (pv 2) (pa_cons pe_str pa_nil))))) pss_nil)
      (pss_cons (ps_fld (pv 0) pe_str rfl) (pss_cons (ps_fld (pv 0) (pv 1) rfl) (pss_one (ps_fld (pv 0) (pv 2) rfl))))), ?_⟩
    refine ⟨_, rfl, v, _, d, rfl, hd, hl, fun hn H1 hs hm => ?_, fun hn => q2 hn⟩
    refine ⟨_, rfl, e, .str "", dp_same hs e u he, .str "", hsh, (by decide +kernel), _, rfl, ?_⟩
    have fin : ∀ (H2 : Hp) (o1 o2 : HO), labD e = true → Same H H2 → Mo H H2 → Q .non (upd (upd (upd H2 x o1) x o2) x (insNote T.C dx v u)) := fun H2 o1 o2 hlab hs2 hm2 => q1 hn hlab _ (fun b o eb n => by
      rw [upd_ne n, upd_ne n, upd_ne n]
      exact hs2 b o eb) (hm2.trans (Mo.upd.trans (Mo.upd.trans Mo.upd))) upd_same
    cases h1 : PyData.eqv e (.str "") with
    | true =>
      refine iteF ?_
      have hlab : labD e = true := by unfold labD; rw [h1]; rfl
      refine ⟨_, rfl, x, T.C, dx, [], rfl, hs x _ hx, T.cl, T.noW, (by show 0 < 1000; decide), _, rfl, _, rfl, x, T.C, dx, _, rfl, upd_same, T.cl, T.noC, (by show 1 < 1000; decide), _, rfl, _, rfl, x, T.C, dx, _, rfl, upd_same, T.cl, T.noL, ?_, ?_⟩
      · exact small2
      · exact fin H1 _ _ hlab hs hm
    | false =>
      refine iteT ?_
      refine ⟨_, rfl, u, _, e, rfl, dp_same hs e u he, hl2, fun hn2 H2 hs2 hm2 => ?_, fun hn2 => ?_⟩
      · have hlab : labD e = true := by unfold labD; rw [hn2, Bool.or_true]
        refine ⟨_, rfl, x, T.C, dx, [], rfl, hs2 x _ (hs x _ hx), T.cl, T.noW, (by show 0 < 1000; decide), _, rfl, _, rfl, x, T.C, dx, _, rfl, upd_same, T.cl, T.noC, (by show 1 < 1000; decide), _, rfl, _, rfl, x, T.C, dx, _, rfl, upd_same, T.cl, T.noL, ?_, ?_⟩
        · exact small2
        · exact fin H2 _ _ hlab (hs.trans hs2) (hm.trans hm2)
      · have hlab : labD e = false := by unfold labD; rw [h1, hn2]; rfl
        exact (q3 hn hlab).back hs hm
abbrev sSkipInit : Stmt := inClass (top 16) 0
theorem scSkipInit : FnScope ["self", "counter", "by"] ["self", "counter", "by"] (defScope sSkipInit) := ⟨rfl, rfl, rfl, by decide +kernel, rfl, by decide +kernel, by decide +kernel⟩
structure TSkip (K : PySem.W.Frag) (mg : Str → Option Value) : Type extends TCls K mg "Skip" "Skip.__init__" sSkipInit ["self", "counter", "by"] where
  noC : NoAttr K C "counter"
  noF : NoAttr K C "by"
def insSkip (C dx : Addr) (v u : V) : HO := .ins C dx (putF "by" u (putF "counter" v (putF "word" (.str "skip") [])))
def skipD (d : PyData) : Bool := numD d && (match d with | .int i => decide (i ≠ 0) | _ => false)
def spSkipInit (K : PySem.W.Frag) (C CR : Addr) : Sp := fun vs H Q E => ∃ (x dx : Addr) (v u : V) (d e : PyData), vs = [.ref x, v, u] ∧ H x = some (.ins C dx []) ∧ Dp K H v d ∧ dlen d ∧ Dp K H u e ∧
  (nameD d = true → skipD e = true → ∀ H', KpI x H H' → Mo H H' → H' x = some (insSkip C dx v u) → Q .non H') ∧ (nameD d = false → RaiseW CR H E (.str "counter")) ∧ (nameD d = true → skipD e = false → RaiseW CR H E (.str "by"))
theorem okSkipInit (T : TSkip K mg) (N : TNeed K mg) : FnOk P w K mg base (L2N.CX P w) 4 T.fI T.fd ["self", "counter", "by"] (spSkipInit K T.C N.IR.C) := by
  refine (funD T.F).ok scSkipInit (fun vs H Q E h => ?_) (fun cdv A outer s H vs Q E hr h => ?_)
  · obtain ⟨x, dx, v, u, d, e, rfl, _⟩ := h
    rfl
  · obtain ⟨x, dx, v, u, d, e, rfl, hx, hd, hl, he, q1, q2, q3⟩ := h
    refine ⟨_, pss_cons (ps_expr (pe_callS (okNeed N) hr rfl N.need.m N.need.F.kp N.need.b (fun σ => L2N.passAt (L2N.takes_of rfl rfl rfl rfl) σ) (pa_cons (pv 1) (pa_cons pe_str pa_nil))))
      (pss_cons (ps_if (PW.pt (pw_or (pt_not (pt_val (pe_call N.okNumber (hr.mono (by decide)) rfl N.isNumber.m N.isNumber.F.kp N.isNumber.b .nil pass0 (pa_cons (pv 2) pa_nil)))) (pw_or1 (pt_cmpR op_eq (pv 2) pe_int (nomark _)))))
        (pss_one (L2N.ps_raise rfl (L2N.takes_of rfl rfl rfl rfl) (pmk_oexN N.IR.O N.IR.iC N.IR.tI (okIRInit N.IR) (hr.mono (by decide)) N.IR.b pass0 rfl N.IR.m (pa_cons pe_str pa_nil)))) pss_nil)
      (pss_cons (ps_fld (pv 0) pe_str rfl) (pss_cons (ps_fld (pv 0) (pv 1) rfl) (pss_one (ps_fld (pv 0) (pv 2) rfl))))), ?_⟩
    refine ⟨_, rfl, v, _, d, rfl, hd, hl, fun hn H1 hs hm => ?_, fun hn => q2 hn⟩
    have he1 := dp_same hs e u he
    have raises : skipD e = false → ∀ a, H1 a = none → ∀ dx2, (upd H1 a (exo a N.IR.C none)) dx2 = none → dx2 ≠ a → _ := fun hf a ha dx2 h1 h2 => ir_made hs hm (q3 hn hf) ha dx2 h1 h2
    refine ⟨_, rfl, u, e, rfl, he1, ?_⟩
    cases h1 : numD e with
    | false =>
      have hg : skipD e = false := by unfold skipD; rw [h1]; rfl
      refine ⟨_, rfl, ?_⟩
      refine iteT ?_
      refine iteT ?_
      refine ⟨(by show 1 ≤ 1000; decide), fun a ha => ⟨a, N.IR.C, _, rfl, upd_same, N.IR.O, N.IR.noF, fun dx2 h1 h2 => ?_⟩⟩
      have hd1 : H1 dx2 = none := by rw [upd_ne h2] at h1; exact h1
      exact ⟨rfl, dx2, _, upd_same, by rw [upd_ne h2, upd_same], hd1, raises hg a ha dx2 h1 h2⟩
    | true =>
      refine ⟨_, rfl, ?_⟩
      refine iteF ?_
      obtain ⟨i, rfl⟩ : ∃ i : Int, e = .int i := by
        cases e <;> first | exact ⟨_, rfl⟩ | (exact absurd h1 (by decide)) | cases h1
      cases he1
      refine ⟨_, rfl, rfl, _, rfl, ?_⟩
      refine ite2 (fun hz => ?_) (fun hz => ?_)
      · have hz2 : V.int i = V.int 0 := of_decide_eq_true hz
        have hg : skipD (.int i) = false := by
          cases hz2
          rfl
        refine ⟨(by show 1 ≤ 1000; decide), fun a ha => ⟨a, N.IR.C, _, rfl, upd_same, N.IR.O, N.IR.noF, fun dx2 h1 h2 => ?_⟩⟩
        have hd1 : H1 dx2 = none := by rw [upd_ne h2] at h1; exact h1
        exact ⟨rfl, dx2, _, upd_same, by rw [upd_ne h2, upd_same], hd1, raises hg a ha dx2 h1 h2⟩
      · have hz2 : ¬ V.int i = V.int 0 := fun z => hz (decide_eq_true z)
        have hg : skipD (.int i) = true := by
          unfold skipD
          rw [h1]
          exact decide_eq_true (fun z => hz2 (by cases z; rfl))
        refine ⟨_, rfl, x, T.C, dx, [], rfl, hs x _ hx, T.cl, T.noW, (by show 0 < 1000; decide), _, rfl, _, rfl, x, T.C, dx, _, rfl, upd_same, T.cl, T.noC, (by show 1 < 1000; decide), _, rfl, _, rfl, x, T.C, dx, _, rfl, upd_same, T.cl, T.noF, small2, ?_⟩
        refine q1 hn hg _ (fun b o eb n => ?_) (hm.trans (Mo.upd.trans (Mo.upd.trans Mo.upd))) upd_same
        rw [upd_ne n, upd_ne n, upd_ne n]
        exact hs b o eb
abbrev sSetInit : Stmt := inClass (top 17) 0
theorem scSetInit : FnScope ["self", "counter", "to"] ["self", "counter", "to"] (defScope sSetInit) := ⟨rfl, rfl, rfl, by decide +kernel, rfl, by decide +kernel, by decide +kernel⟩
structure TSet (K : PySem.W.Frag) (mg : Str → Option Value) : Type extends TCls K mg "Set" "Set.__init__" sSetInit ["self", "counter", "to"] where
  noC : NoAttr K C "counter"
  noF : NoAttr K C "to"
def insSet (C dx : Addr) (v u : V) : HO := .ins C dx (putF "to" u (putF "counter" v (putF "word" (.str "set") [])))
def setD (d : PyData) : Bool := numD d
def spSetInit (K : PySem.W.Frag) (C CR : Addr) : Sp := fun vs H Q E => ∃ (x dx : Addr) (v u : V) (d e : PyData), vs = [.ref x, v, u] ∧ H x = some (.ins C dx []) ∧ Dp K H v d ∧ dlen d ∧ Dp K H u e ∧
  (nameD d = true → setD e = true → ∀ H', KpI x H H' → Mo H H' → H' x = some (insSet C dx v u) → Q .non H') ∧ (nameD d = false → RaiseW CR H E (.str "counter")) ∧ (nameD d = true → setD e = false → RaiseW CR H E (.str "to"))
theorem okSetInit (T : TSet K mg) (N : TNeed K mg) : FnOk P w K mg base (L2N.CX P w) 4 T.fI T.fd ["self", "counter", "to"] (spSetInit K T.C N.IR.C) := by
  refine (funD T.F).ok scSetInit (fun vs H Q E h => ?_) (fun cdv A outer s H vs Q E hr h => ?_)
  · obtain ⟨x, dx, v, u, d, e, rfl, _⟩ := h
    rfl
  · obtain ⟨x, dx, v, u, d, e, rfl, hx, hd, hl, he, q1, q2, q3⟩ := h
    refine ⟨_, pss_cons (ps_expr (pe_callS (okNeed N) hr rfl N.need.m N.need.F.kp N.need.b (fun σ => L2N.passAt (L2N.takes_of rfl rfl rfl rfl) σ) (pa_cons (pv 1) (pa_cons pe_str pa_nil))))
      (pss_cons (ps_if ((pt_not (pt_val (pe_call N.okNumber (hr.mono (by decide)) rfl N.isNumber.m N.isNumber.F.kp N.isNumber.b .nil pass0 (pa_cons (pv 2) pa_nil)))))
        (pss_one (L2N.ps_raise rfl (L2N.takes_of rfl rfl rfl rfl) (pmk_oexN N.IR.O N.IR.iC N.IR.tI (okIRInit N.IR) (hr.mono (by decide)) N.IR.b pass0 rfl N.IR.m (pa_cons pe_str pa_nil)))) pss_nil)
      (pss_cons (ps_fld (pv 0) pe_str rfl) (pss_cons (ps_fld (pv 0) (pv 1) rfl) (pss_one (ps_fld (pv 0) (pv 2) rfl))))), ?_⟩
    refine ⟨_, rfl, v, _, d, rfl, hd, hl, fun hn H1 hs hm => ?_, fun hn => q2 hn⟩
    have he1 := dp_same hs e u he
    have raises : setD e = false → ∀ a, H1 a = none → ∀ dx2, (upd H1 a (exo a N.IR.C none)) dx2 = none → dx2 ≠ a → _ := fun hf a ha dx2 h1 h2 => ir_made hs hm (q3 hn hf) ha dx2 h1 h2
    refine ⟨_, rfl, u, e, rfl, he1, ?_⟩
    cases hg : setD e with
    | true =>
      have hg2 : numD e = true := hg
      refine ⟨_, by rw [hg2], ?_⟩
      refine iteF ?_
      refine ⟨_, rfl, x, T.C, dx, [], rfl, hs x _ hx, T.cl, T.noW, (by show 0 < 1000; decide), _, rfl, _, rfl, x, T.C, dx, _, rfl, upd_same, T.cl, T.noC, (by show 1 < 1000; decide), _, rfl, _, rfl, x, T.C, dx, _, rfl, upd_same, T.cl, T.noF, small2, ?_⟩
      refine q1 hn hg _ (fun b o eb n => ?_) (hm.trans (Mo.upd.trans (Mo.upd.trans Mo.upd))) upd_same
      rw [upd_ne n, upd_ne n, upd_ne n]
      exact hs b o eb
    | false =>
      have hg2 : numD e = false := hg
      refine ⟨_, by rw [hg2], ?_⟩
      refine iteT ?_
      refine ⟨(by show 1 ≤ 1000; decide), fun a ha => ⟨a, N.IR.C, _, rfl, upd_same, N.IR.O, N.IR.noF, fun dx2 h1 h2 => ?_⟩⟩
      have hd1 : H1 dx2 = none := by rw [upd_ne h2] at h1; exact h1
      exact ⟨rfl, dx2, _, upd_same, by rw [upd_ne h2, upd_same], hd1, raises hg a ha dx2 h1 h2⟩
end
end Pn

namespace Pn
open PySem L2
section
variable {X : Cx} {CX : CXT} {k : Nat} {f C : Addr} {fd : FuncData} {ps : List Str} {sp : Sp} {E : XK}
/-- the run of a def within a deeper around -/
theorem run_fnA {A' : Around} {pins : List (Addr × Obj)} {σ : L2.St} {H : Hp} {s : Shared} {Q : VK} {us : List Value} {vs : List V} (F : FnOk X.prog X.w X.K X.mg X.base CX k f fd ps sp) (hr : Room k A') (e0 : Env0 X.prog X.w X.K X.mg X.base A' X.stack s H) (hb : Binds X.K fd ps []) (hx : Passes CX X E)
    (I : Inv X pins σ H s) (r : Vals vs us) (h : sp vs H Q E) : wpAny (model X.prog X.w) A' (call (.ref f) us) (EP X pins σ Q) X.xe s := by
  have hl : (us ++ []).length = ps.length := by rw [List.append_nil, ← r.length]; exact F.len _ _ _ _ h
  have hbb := hb s us I.kIn hl
  rw [List.append_nil] at hbb
  refine wpAny_call (codeAny_mono (F.run A' X.stack s H ⟨us, []⟩ us vs Q E hr e0 hbb r h) fun x s' hq => ?_)
  cases x with
  | error e => exact hx pins σ H s e s' I hq
  | ok fl =>
    cases fl with
    | ret u => exact I.after hq
    | next => exact hq.elim
    | brk => exact hq.elim
    | cont => exact hq.elim
/-- str(x), x an instance whose class has a __str__ of its own -/
def rStrIns (K : PySem.W.Frag) (f : Addr) (sp : Sp) (E : XK) : List V → Hp → VK → Prop := fun xs H Q => ∃ (a C dx : Addr) (fs : List (Str × V)), xs = [.ref a] ∧ H a = some (.ins C dx fs) ∧ PySem.W.findIn K (.ref C) "__str__" = some (some (.ref f)) ∧ sp [.ref a] H (fun v H' => ∃ z, v = .str z ∧ Q (.str z) H') E
theorem call_strIns (F : FnOk X.prog X.w X.K X.mg X.base CX k f fd ps sp) (hf : PySem.W.isFn X.K (.ref f) = true) (hr : Room (k + 2) X.A) (hb : Binds X.K fd ps []) (hx : Passes CX X E) : CallR X (.type "str") (rStrIns X.K f sp E) := by
  intro pins s σ H xs us Q I r h
  obtain ⟨a, C, dx, fs, rfl, ha, hs, q⟩ := h
  obtain ⟨u, rfl, ru⟩ := r.one
  obtain rfl : u = Value.ref a := ru
  obtain ⟨mA, O, _⟩ := ins_get I.hok ha
  obtain ⟨od, J, _⟩ := O.look
  have hr2 : Room k X.A.in1.in1 := (show Room (k + 1) X.A.in1 from Room.in1 hr).in1
  refine PySem.W.kso_call (by have := hr2.un; omega) I.kIn J hs hf (wpAny_mono (run_fnA F hr2 I.env0.in1.in1 hb hx I (.cons (show RelV (.ref a) (Value.ref a) from rfl) .nil) q) (fun v s' z => ?_) fun _ _ x => x)
  obtain ⟨z', H', I', rz, t, ez, qz⟩ := z
  subst ez
  obtain ⟨tk, e⟩ := (show ∃ tk, v = Value.str t tk from rz)
  cases e
  exact ⟨.str t, H', I', ⟨tk, rfl⟩, qz⟩
end
end Pn

namespace Pn
open PySem L2 TL
/-! ### rows as data -/
inductive RowD where
  | note (c l : Str) | skip (c : Str) (n : Nat) | set (c : Str) (n : Nat) | keep (c : Str) | back (c : Str) | ref (l : Str) | put (p : Str) | opn (x : Str)
structure TRows (K : PySem.W.Frag) (mg : Str → Option Value) : Type where
  N : TNeed K mg
  note : TNote K mg
  skip : TSkip K mg
  set : TSet K mg
  keep : TKeep K mg
  back : TBack K mg
  ref : TRef K mg
  put : TPut K mg
  open_ : TOpen K mg
def numStr (n : Nat) : Str := Str.ofString (toString ((n : Nat) : Int))
/-- the words of a row's text -/
def rowWords : RowD → List Str
  | .note c l => if l = "" then ["note", c] else ["note", c, l]
  | .skip c n => ["skip", c, numStr n]
  | .set c n => ["set", c, numStr n]
  | .keep c => ["keep", c]
  | .back c => ["back", c]
  | .ref l => ["ref", l]
  | .put p => ["put", p]
  | .opn x => ["open", x]
def rowText (r : RowD) : Str := Txt.join " " (rowWords r)
/-- how large the texts and numbers of a row are -/
def rowSmall : RowD → Prop
  | .note c l => c.length ≤ 100 ∧ l.length ≤ 100
  | .skip c n => c.length ≤ 100 ∧ n < 10 ^ 20
  | .set c n => c.length ≤ 100 ∧ n < 10 ^ 20
  | .keep c => c.length ≤ 100
  | .back c => c.length ≤ 100
  | .ref c => c.length ≤ 100
  | .put c => c.length ≤ 100
  | .opn c => c.length ≤ 100
theorem join2 (a b : Str) {ab : Str} (h : tl ab = tl a ++ [32]) : Str.empty ++ ab ++ b = Txt.join " " [a, b] := by
  rw [join_eq]
  apply ext_tl
  rw [tl_join]
  show tl (Str.empty ++ ab ++ b) = tl a ++ (tl (" " : Str) ++ tl b)
  rw [tl_append, tl_append, h]
  show [] ++ (tl a ++ [32]) ++ tl b = tl a ++ ([32] ++ tl b)
  simp
theorem join3 (a b c : Str) {ab s : Str} (h : tl ab = tl a ++ [32]) (hs : s = " ") : Str.empty ++ ab ++ b ++ s ++ c = Txt.join " " [a, b, c] := by
  subst hs
  rw [join_eq]
  apply ext_tl
  rw [tl_join]
  show tl (Str.empty ++ ab ++ b ++ (" " : Str) ++ c) = tl a ++ (tl (" " : Str) ++ (tl b ++ (tl (" " : Str) ++ tl c)))
  rw [tl_append, tl_append, tl_append, tl_append, h]
  show [] ++ (tl a ++ [32]) ++ tl b ++ [32] ++ tl c = tl a ++ ([32] ++ (tl b ++ ([32] ++ tl c)))
  simp
section
variable {P : Program} {w : World} {K : PySem.W.Frag} {mg : Str → Option Value} {base : Heap}
/-- a row's instance -/
def insRow (T : TRows K mg) (dx : Addr) : RowD → HO
  | .note c l => insNote T.note.C dx (.str c) (.str l)
  | .skip c n => insSkip T.skip.C dx (.str c) (.int (n : Int))
  | .set c n => insSet T.set.C dx (.str c) (.int (n : Int))
  | .keep c => insKeep T.keep.C dx (.str c)
  | .back c => insBack T.back.C dx (.str c)
  | .ref c => insRef T.ref.C dx (.str c)
  | .put c => insPut T.put.C dx (.str c)
  | .opn c => insOpen T.open_.C dx (.str c)
def RowAt (T : TRows K mg) (H : Hp) (a : Addr) (r : RowD) : Prop := ∃ dx, H a = some (insRow T dx r)
/-- a method of one argument of an own class -/
structure TStr (K : PySem.W.Frag) (C : Addr) (qual : Str) (st : Stmt) : Type where
  f : Addr
  fd : FuncData
  F : Fun K "__str__" qual st f fd
  b : Binds K fd ["self"] []
  hs : PySem.W.findIn K (.ref C) "__str__" = some (some (.ref f))
  hf : PySem.W.isFn K (.ref f) = true
abbrev sNoteStr : Stmt := inClass (top 15) 1
theorem scNoteStr : FnScope ["self"] ["self"] (defScope sNoteStr) := ⟨rfl, rfl, rfl, by decide +kernel, rfl, by decide +kernel, by decide +kernel⟩
abbrev sSkipStr : Stmt := inClass (top 16) 1
theorem scSkipStr : FnScope ["self"] ["self"] (defScope sSkipStr) := ⟨rfl, rfl, rfl, by decide +kernel, rfl, by decide +kernel, by decide +kernel⟩
abbrev sSetStr : Stmt := inClass (top 17) 1
theorem scSetStr : FnScope ["self"] ["self"] (defScope sSetStr) := ⟨rfl, rfl, rfl, by decide +kernel, rfl, by decide +kernel, by decide +kernel⟩
abbrev sKeepStr : Stmt := inClass (top 18) 1
theorem scKeepStr : FnScope ["self"] ["self"] (defScope sKeepStr) := ⟨rfl, rfl, rfl, by decide +kernel, rfl, by decide +kernel, by decide +kernel⟩
theorem fld_keep {v : V} : (putF "counter" v (putF "word" (.str "keep") [])).lookup ("counter" : Str) = some v := by
  rw [lookup_putF, if_pos rfl]
def spKeepStr (T : TRows K mg) : Sp := fun vs H Q _ => ∃ (a : Addr) (c : Str), vs = [.ref a] ∧ RowAt T H a (.keep c) ∧ c.length ≤ 100 ∧ Q (.str (rowText (.keep c))) H
theorem okKeepStr (T : TRows K mg) (S : TStr K T.keep.C "Keep.__str__" sKeepStr) : FnOk P w K mg base CX0 1 S.f S.fd ["self"] (spKeepStr T) := by
  refine S.F.ok scKeepStr (fun vs H Q E h => ?_) (fun cdv A outer s H vs Q E hr h => ?_)
  · obtain ⟨a, c, rfl, _⟩ := h
    rfl
  · obtain ⟨a, c, rfl, ⟨dx, ha⟩, hl, q⟩ := h
    refine ⟨_, pss_one (ps_ret (pe_joined (.cons pe_str (.cons (pe_fmt (pe_fld (pv 0) rfl)) .nil)))), ?_⟩
    refine ⟨_, rfl, (by decide +kernel), _, rfl, a, T.keep.C, dx, _, .str c, rfl, ha, T.keep.cl, T.keep.noF, fld_keep, .inl ⟨c, rfl, Nat.le_trans hl (by decide), c, rfl, ?_, ?_⟩⟩
    · rw [strLen_append]
      exact Nat.le_trans (Nat.add_le_add_left hl _) (by decide +kernel)
    · rw [join2 "keep" c (by decide +kernel)]
      exact q
abbrev sBackStr : Stmt := inClass (top 19) 1
theorem scBackStr : FnScope ["self"] ["self"] (defScope sBackStr) := ⟨rfl, rfl, rfl, by decide +kernel, rfl, by decide +kernel, by decide +kernel⟩
theorem fld_back {v : V} : (putF "counter" v (putF "word" (.str "back") [])).lookup ("counter" : Str) = some v := by
  rw [lookup_putF, if_pos rfl]
def spBackStr (T : TRows K mg) : Sp := fun vs H Q _ => ∃ (a : Addr) (c : Str), vs = [.ref a] ∧ RowAt T H a (.back c) ∧ c.length ≤ 100 ∧ Q (.str (rowText (.back c))) H
theorem okBackStr (T : TRows K mg) (S : TStr K T.back.C "Back.__str__" sBackStr) : FnOk P w K mg base CX0 1 S.f S.fd ["self"] (spBackStr T) := by
  refine S.F.ok scBackStr (fun vs H Q E h => ?_) (fun cdv A outer s H vs Q E hr h => ?_)
  · obtain ⟨a, c, rfl, _⟩ := h
    rfl
  · obtain ⟨a, c, rfl, ⟨dx, ha⟩, hl, q⟩ := h
    refine ⟨_, pss_one (ps_ret (pe_joined (.cons pe_str (.cons (pe_fmt (pe_fld (pv 0) rfl)) .nil)))), ?_⟩
    refine ⟨_, rfl, (by decide +kernel), _, rfl, a, T.back.C, dx, _, .str c, rfl, ha, T.back.cl, T.back.noF, fld_back, .inl ⟨c, rfl, Nat.le_trans hl (by decide), c, rfl, ?_, ?_⟩⟩
    · rw [strLen_append]
      exact Nat.le_trans (Nat.add_le_add_left hl _) (by decide +kernel)
    · rw [join2 "back" c (by decide +kernel)]
      exact q
abbrev sRefStr : Stmt := inClass (top 20) 1
theorem scRefStr : FnScope ["self"] ["self"] (defScope sRefStr) := ⟨rfl, rfl, rfl, by decide +kernel, rfl, by decide +kernel, by decide +kernel⟩
theorem fld_ref {v : V} : (putF "label" v (putF "word" (.str "ref") [])).lookup ("label" : Str) = some v := by
  rw [lookup_putF, if_pos rfl]
def spRefStr (T : TRows K mg) : Sp := fun vs H Q _ => ∃ (a : Addr) (c : Str), vs = [.ref a] ∧ RowAt T H a (.ref c) ∧ c.length ≤ 100 ∧ Q (.str (rowText (.ref c))) H
theorem okRefStr (T : TRows K mg) (S : TStr K T.ref.C "Ref.__str__" sRefStr) : FnOk P w K mg base CX0 1 S.f S.fd ["self"] (spRefStr T) := by
  refine S.F.ok scRefStr (fun vs H Q E h => ?_) (fun cdv A outer s H vs Q E hr h => ?_)
  · obtain ⟨a, c, rfl, _⟩ := h
    rfl
  · obtain ⟨a, c, rfl, ⟨dx, ha⟩, hl, q⟩ := h
    refine ⟨_, pss_one (ps_ret (pe_joined (.cons pe_str (.cons (pe_fmt (pe_fld (pv 0) rfl)) .nil)))), ?_⟩
    refine ⟨_, rfl, (by decide +kernel), _, rfl, a, T.ref.C, dx, _, .str c, rfl, ha, T.ref.cl, T.ref.noF, fld_ref, .inl ⟨c, rfl, Nat.le_trans hl (by decide), c, rfl, ?_, ?_⟩⟩
    · rw [strLen_append]
      exact Nat.le_trans (Nat.add_le_add_left hl _) (by decide +kernel)
    · rw [join2 "ref" c (by decide +kernel)]
      exact q
abbrev sPutStr : Stmt := inClass (top 21) 1
theorem scPutStr : FnScope ["self"] ["self"] (defScope sPutStr) := ⟨rfl, rfl, rfl, by decide +kernel, rfl, by decide +kernel, by decide +kernel⟩
theorem fld_put {v : V} : (putF "part" v (putF "word" (.str "put") [])).lookup ("part" : Str) = some v := by
  rw [lookup_putF, if_pos rfl]
def spPutStr (T : TRows K mg) : Sp := fun vs H Q _ => ∃ (a : Addr) (c : Str), vs = [.ref a] ∧ RowAt T H a (.put c) ∧ c.length ≤ 100 ∧ Q (.str (rowText (.put c))) H
theorem okPutStr (T : TRows K mg) (S : TStr K T.put.C "Put.__str__" sPutStr) : FnOk P w K mg base CX0 1 S.f S.fd ["self"] (spPutStr T) := by
  refine S.F.ok scPutStr (fun vs H Q E h => ?_) (fun cdv A outer s H vs Q E hr h => ?_)
  · obtain ⟨a, c, rfl, _⟩ := h
    rfl
  · obtain ⟨a, c, rfl, ⟨dx, ha⟩, hl, q⟩ := h
    refine ⟨_, pss_one (ps_ret (pe_joined (.cons pe_str (.cons (pe_fmt (pe_fld (pv 0) rfl)) .nil)))), ?_⟩
    refine ⟨_, rfl, (by decide +kernel), _, rfl, a, T.put.C, dx, _, .str c, rfl, ha, T.put.cl, T.put.noF, fld_put, .inl ⟨c, rfl, Nat.le_trans hl (by decide), c, rfl, ?_, ?_⟩⟩
    · rw [strLen_append]
      exact Nat.le_trans (Nat.add_le_add_left hl _) (by decide +kernel)
    · rw [join2 "put" c (by decide +kernel)]
      exact q
abbrev sOpenStr : Stmt := inClass (top 22) 1
theorem scOpenStr : FnScope ["self"] ["self"] (defScope sOpenStr) := ⟨rfl, rfl, rfl, by decide +kernel, rfl, by decide +kernel, by decide +kernel⟩
theorem fld_open {v : V} : (putF "name" v (putF "word" (.str "open") [])).lookup ("name" : Str) = some v := by
  rw [lookup_putF, if_pos rfl]
def spOpenStr (T : TRows K mg) : Sp := fun vs H Q _ => ∃ (a : Addr) (c : Str), vs = [.ref a] ∧ RowAt T H a (.opn c) ∧ c.length ≤ 100 ∧ Q (.str (rowText (.opn c))) H
theorem okOpenStr (T : TRows K mg) (S : TStr K T.open_.C "Open.__str__" sOpenStr) : FnOk P w K mg base CX0 1 S.f S.fd ["self"] (spOpenStr T) := by
  refine S.F.ok scOpenStr (fun vs H Q E h => ?_) (fun cdv A outer s H vs Q E hr h => ?_)
  · obtain ⟨a, c, rfl, _⟩ := h
    rfl
  · obtain ⟨a, c, rfl, ⟨dx, ha⟩, hl, q⟩ := h
    refine ⟨_, pss_one (ps_ret (pe_joined (.cons pe_str (.cons (pe_fmt (pe_fld (pv 0) rfl)) .nil)))), ?_⟩
    refine ⟨_, rfl, (by decide +kernel), _, rfl, a, T.open_.C, dx, _, .str c, rfl, ha, T.open_.cl, T.open_.noF, fld_open, .inl ⟨c, rfl, Nat.le_trans hl (by decide), c, rfl, ?_, ?_⟩⟩
    · rw [strLen_append]
      exact Nat.le_trans (Nat.add_le_add_left hl _) (by decide +kernel)
    · rw [join2 "open" c (by decide +kernel)]
      exact q
theorem numStr_len {n : Nat} (h : n < 10 ^ 20) : (numStr n).length ≤ 20 := by
  rw [len_tl]
  show (tl (Str.ofString (toString ((n : Nat) : Int)))).length ≤ 20
  rw [tl_num]
  exact numL_len (by decide) h
theorem log_small {n : Nat} (h : n < 10 ^ 20) : (n : Int).natAbs.log2 < 1920 := by
  show n.log2 < 1920
  have : n < 2 ^ 1919 := Nat.lt_trans h (by decide +kernel)
  exact Nat.lt_of_lt_of_le (PySem.Flt.log2_lt_of (k := 1919) (by decide) this) (by decide)
def spNoteStr (T : TRows K mg) : Sp := fun vs H Q _ => ∃ (a : Addr) (c l : Str), vs = [.ref a] ∧ RowAt T H a (.note c l) ∧ c.length ≤ 100 ∧ l.length ≤ 100 ∧ Q (.str (rowText (.note c l))) H
theorem note_counter {c l : V} : (putF "label" l (putF "counter" c (putF "word" (.str "note") []))).lookup ("counter" : Str) = some c := by
  rw [lookup_putF, if_neg (by decide +kernel), lookup_putF, if_pos rfl]
theorem note_label {c l : V} : (putF "label" l (putF "counter" c (putF "word" (.str "note") []))).lookup ("label" : Str) = some l := by
  rw [lookup_putF, if_pos rfl]
theorem len3 {a b c : Str} (ha : a.length ≤ 200) (hb : b.length ≤ 200) (hc : c.length ≤ 200) : (((Str.empty ++ a) ++ b) ++ c).length ≤ sizeLine := by
  rw [strLen_append, strLen_append, strLen_append]
  exact Nat.le_trans (show _ ≤ 600 by have : (Str.empty : Str).length = 0 := rfl; omega) (by decide)
theorem len4 {a b c d : Str} (ha : a.length ≤ 200) (hb : b.length ≤ 200) (hc : c.length ≤ 200) (hd : d.length ≤ 200) : ((((Str.empty ++ a) ++ b) ++ c) ++ d).length ≤ sizeLine := by
  rw [strLen_append, strLen_append, strLen_append, strLen_append]
  exact Nat.le_trans (show _ ≤ 800 by have : (Str.empty : Str).length = 0 := rfl; omega) (by decide)
theorem len2 {a b : Str} (ha : a.length ≤ 200) (hb : b.length ≤ 200) : ((Str.empty ++ a) ++ b).length ≤ sizeLine := by
  rw [strLen_append, strLen_append]
  exact Nat.le_trans (show _ ≤ 400 by have : (Str.empty : Str).length = 0 := rfl; omega) (by decide)
theorem okNoteStr (T : TRows K mg) (S : TStr K T.note.C "Note.__str__" sNoteStr) : FnOk P w K mg base CX0 1 S.f S.fd ["self"] (spNoteStr T) := by
  refine S.F.ok scNoteStr (fun vs H Q E h => ?_) (fun cdv A outer s H vs Q E hr h => ?_)
  · obtain ⟨a, c, l, rfl, _⟩ := h
    rfl
  · obtain ⟨a, c, l, rfl, ⟨dx, ha⟩, hc, hl, q⟩ := h
    refine ⟨_, pss_cons (ps_if (pt_cmpR op_eq (pe_fld (pv 0) rfl) pe_str (nomark _)) (pss_one (ps_ret (pe_joined (.cons pe_str (.cons (pe_fmt (pe_fld (pv 0) rfl)) .nil))))) pss_nil)
      (pss_one (ps_ret (pe_joined (.cons pe_str (.cons (pe_fmt (pe_fld (pv 0) rfl)) (.cons pe_str (.cons (pe_fmt (pe_fld (pv 0) rfl)) .nil))))))), ?_⟩
    refine ⟨_, rfl, a, T.note.C, dx, _, .str l, rfl, ha, T.note.cl, T.note.noL, note_label, rfl, _, rfl, ?_⟩
    have s5 : ("note " : Str).length ≤ 200 := by decide +kernel
    have s1 : (" " : Str).length ≤ 200 := by decide +kernel
    refine ite2 (fun hz => ?_) (fun hz => ?_)
    · have hz2 : l = "" := by
        have := of_decide_eq_true hz
        cases this
        rfl
      have hw : rowText (.note c l) = Txt.join " " ["note", c] := by
        show Txt.join " " (if l = "" then ["note", c] else ["note", c, l]) = _
        rw [if_pos hz2]
      rw [hw] at q
      refine ⟨_, rfl, (by decide +kernel), _, rfl, a, T.note.C, dx, _, .str c, rfl, ha, T.note.cl, T.note.noC, note_counter, .inl ⟨c, rfl, Nat.le_trans hc (by decide), c, rfl, len2 s5 (by omega), ?_⟩⟩
      rw [join2 "note" c (by decide +kernel)]
      exact q
    · have hz2 : ¬ l = "" := fun z => hz (decide_eq_true (by rw [z]))
      have hw : rowText (.note c l) = Txt.join " " ["note", c, l] := by
        show Txt.join " " (if l = "" then ["note", c] else ["note", c, l]) = _
        rw [if_neg hz2]
      rw [hw] at q
      refine ⟨_, rfl, (by decide +kernel), _, rfl, a, T.note.C, dx, _, .str c, rfl, ha, T.note.cl, T.note.noC, note_counter, .inl ⟨c, rfl, Nat.le_trans hc (by decide), c, rfl, len2 s5 (by omega), _, rfl, len3 s5 (by omega) s1, _, rfl, a, T.note.C, dx, _, .str l, rfl, ha, T.note.cl, T.note.noL, note_label, .inl ⟨l, rfl, Nat.le_trans hl (by decide), l, rfl, len4 s5 (by omega) s1 (by omega), ?_⟩⟩⟩
      rw [join3 "note" c l (by decide +kernel) rfl]
      exact q
theorem skip_counter {c l : V} : (putF "by" l (putF "counter" c (putF "word" (.str "skip") []))).lookup ("counter" : Str) = some c := by
  rw [lookup_putF, if_neg (by decide +kernel), lookup_putF, if_pos rfl]
theorem skip_num {c l : V} : (putF "by" l (putF "counter" c (putF "word" (.str "skip") []))).lookup ("by" : Str) = some l := by
  rw [lookup_putF, if_pos rfl]
def spSkipStr (T : TRows K mg) : Sp := fun vs H Q _ => ∃ (a : Addr) (c : Str) (n : Nat), vs = [.ref a] ∧ RowAt T H a (.skip c n) ∧ c.length ≤ 100 ∧ n < 10 ^ 20 ∧ Q (.str (rowText (.skip c n))) H
theorem okSkipStr (T : TRows K mg) (S : TStr K T.skip.C "Skip.__str__" sSkipStr) : FnOk P w K mg base CX0 1 S.f S.fd ["self"] (spSkipStr T) := by
  refine S.F.ok scSkipStr (fun vs H Q E h => ?_) (fun cdv A outer s H vs Q E hr h => ?_)
  · obtain ⟨a, c, n, rfl, _⟩ := h
    rfl
  · obtain ⟨a, c, n, rfl, ⟨dx, ha⟩, hc, hn, q⟩ := h
    refine ⟨_, pss_one (ps_ret (pe_joined (.cons pe_str (.cons (pe_fmt (pe_fld (pv 0) rfl)) (.cons pe_str (.cons (pe_fmt (pe_fld (pv 0) rfl)) .nil)))))), ?_⟩
    have s5 : ("skip " : Str).length ≤ 200 := by decide +kernel
    have s1 : (" " : Str).length ≤ 200 := by decide +kernel
    have sn := numStr_len hn
    refine ⟨_, rfl, (by decide +kernel), _, rfl, a, T.skip.C, dx, _, .str c, rfl, ha, T.skip.cl, T.skip.noC, skip_counter, .inl ⟨c, rfl, Nat.le_trans hc (by decide), c, rfl, len2 s5 (by omega), _, rfl, len3 s5 (by omega) s1, _, rfl, a, T.skip.C, dx, _, .int (n : Int), rfl, ha, T.skip.cl, T.skip.noF, skip_num, .inr ⟨(n : Int), rfl, log_small hn, numStr n, rfl, len4 s5 (by omega) s1 (by omega), ?_⟩⟩⟩
    rw [join3 "skip" c (numStr n) (by decide +kernel) rfl]
    exact q
theorem set_counter {c l : V} : (putF "to" l (putF "counter" c (putF "word" (.str "set") []))).lookup ("counter" : Str) = some c := by
  rw [lookup_putF, if_neg (by decide +kernel), lookup_putF, if_pos rfl]
theorem set_num {c l : V} : (putF "to" l (putF "counter" c (putF "word" (.str "set") []))).lookup ("to" : Str) = some l := by
  rw [lookup_putF, if_pos rfl]
def spSetStr (T : TRows K mg) : Sp := fun vs H Q _ => ∃ (a : Addr) (c : Str) (n : Nat), vs = [.ref a] ∧ RowAt T H a (.set c n) ∧ c.length ≤ 100 ∧ n < 10 ^ 20 ∧ Q (.str (rowText (.set c n))) H
theorem okSetStr (T : TRows K mg) (S : TStr K T.set.C "Set.__str__" sSetStr) : FnOk P w K mg base CX0 1 S.f S.fd ["self"] (spSetStr T) := by
  refine S.F.ok scSetStr (fun vs H Q E h => ?_) (fun cdv A outer s H vs Q E hr h => ?_)
  · obtain ⟨a, c, n, rfl, _⟩ := h
    rfl
  · obtain ⟨a, c, n, rfl, ⟨dx, ha⟩, hc, hn, q⟩ := h
    refine ⟨_, pss_one (ps_ret (pe_joined (.cons pe_str (.cons (pe_fmt (pe_fld (pv 0) rfl)) (.cons pe_str (.cons (pe_fmt (pe_fld (pv 0) rfl)) .nil)))))), ?_⟩
    have s5 : ("set " : Str).length ≤ 200 := by decide +kernel
    have s1 : (" " : Str).length ≤ 200 := by decide +kernel
    have sn := numStr_len hn
    refine ⟨_, rfl, (by decide +kernel), _, rfl, a, T.set.C, dx, _, .str c, rfl, ha, T.set.cl, T.set.noC, set_counter, .inl ⟨c, rfl, Nat.le_trans hc (by decide), c, rfl, len2 s5 (by omega), _, rfl, len3 s5 (by omega) s1, _, rfl, a, T.set.C, dx, _, .int (n : Int), rfl, ha, T.set.cl, T.set.noF, set_num, .inr ⟨(n : Int), rfl, log_small hn, numStr n, rfl, len4 s5 (by omega) s1 (by omega), ?_⟩⟩⟩
    rw [join3 "set" c (numStr n) (by decide +kernel) rfl]
    exact q
end
end Pn

namespace Pn
open PySem L2 TL
abbrev sITInit : Stmt := inClass (top 9) 0
abbrev sReadNum : Stmt := top 23
abbrev sRow2 : Stmt := top 24
abbrev sRow3 : Stmt := top 25
abbrev sReadRow : Stmt := top 26
/-! ### numbers in texts -/
def dok (c : Nat) : Bool := decide (48 ≤ c) && decide (c ≤ 57)
theorem dok_eq (c : Nat) : (if (!decide ([c] < [48])) = true then (!decide ([57] < [c])) else false) = dok c := by
  rw [lt_one, lt_one]
  unfold dok
  by_cases h1 : c < 48
  · rw [decide_eq_true h1, decide_eq_false (show ¬ 48 ≤ c by omega)]
    rfl
  · rw [decide_eq_false h1, decide_eq_true (show 48 ≤ c by omega)]
    by_cases h2 : 57 < c
    · rw [decide_eq_true h2, decide_eq_false (show ¬ c ≤ 57 by omega)]
      rfl
    · rw [decide_eq_false h2, decide_eq_true (show c ≤ 57 by omega)]
      rfl
/-- a number's text: one to ten digits, none of them a leading 0 -/
def numOk (z : Str) : Bool := (decide (1 ≤ (z.length : Int)) && decide ((z.length : Int) ≤ 10)) && z.cps.toList.all dok && !(decide (z.cps.toList.head? = some 48) && !decide (z = ("0" : Str)))
def numVal (z : Str) : Nat := NumText.digitsVal (tl z)
theorem digits_of {z : Str} (h : z.cps.toList.all dok = true) : NumText.AllDigits (tl z) := fun c hc => by
  have q := List.all_eq_true.mp h c hc
  unfold dok at q
  rw [Bool.and_eq_true] at q
  exact ⟨of_decide_eq_true q.1, of_decide_eq_true q.2⟩
theorem num_back {z : Str} (h : numOk z = true) : numStr (numVal z) = z := by
  unfold numOk at h
  rw [Bool.and_eq_true, Bool.and_eq_true, Bool.and_eq_true] at h
  obtain ⟨⟨⟨h1, h2⟩, h3⟩, h4⟩ := h
  have h1 := of_decide_eq_true h1
  have hd := digits_of h3
  have hl : z.length = (tl z).length := len_tl z
  apply ext_tl
  show tl (Str.ofString (toString ((numVal z : Nat) : Int))) = tl z
  rw [tl_num]
  have hne : (tl z).length = ((tl z).length - 1) + 1 := by omega
  have key := PySem.NumText.toDigits_digitsVal ((tl z).length - 1) (tl z) hne hd ?_
  · unfold numL
    show (Nat.toDigits 10 (NumText.digitsVal (tl z))).map Char.toNat = tl z
    rw [key, List.map_map]
    have hc : ∀ c ∈ List.range 58, (Char.ofNat c).toNat = c := by decide +kernel
    exact (List.map_congr_left (g := id) fun c hm => hc c (List.mem_range.mpr (by have := hd c hm; omega))).trans (List.map_id _)
  · cases e : tl z with
    | nil => rw [e] at hne; simp at hne
    | cons c r =>
      by_cases hc : 49 ≤ c
      · exact .inr ⟨c, r, rfl, hc⟩
      · have hd0 := hd c (by rw [e]; exact List.mem_cons_self)
        have hc48 : c = 48 := by omega
        subst hc48
        have hz : z = ("0" : Str) := by
          have hh : decide (z.cps.toList.head? = some 48) = true := decide_eq_true (by show (tl z).head? = some 48; rw [e]; rfl)
          rw [hh] at h4
          cases hz2 : decide (z = ("0" : Str)) with
          | true => exact of_decide_eq_true hz2
          | false => rw [hz2] at h4; cases h4
        left
        have : tl z = [48] := by rw [hz]; decide +kernel
        rw [this] at e
        cases e
        rfl
theorem num_lt {z : Str} (h : numOk z = true) : numVal z < 10 ^ 10 := by
  unfold numOk at h
  rw [Bool.and_eq_true, Bool.and_eq_true, Bool.and_eq_true] at h
  obtain ⟨⟨⟨h1, h2⟩, h3⟩, _⟩ := h
  have h2 := of_decide_eq_true h2
  have hd := digits_of h3
  have hl : z.length = (tl z).length := len_tl z
  have gen : ∀ (l : List Nat) (a : Nat), NumText.AllDigits l → l.foldl (fun acc c => acc * 10 + (c - 48)) a < (a + 1) * 10 ^ l.length := by
    intro l
    induction l with
    | nil => intro a _; show a < (a + 1) * 1; omega
    | cons c r ih =>
      intro a hd
      have hc := hd c List.mem_cons_self
      have q := ih (a * 10 + (c - 48)) fun x hx => hd x (List.mem_cons_of_mem _ hx)
      show r.foldl _ (a * 10 + (c - 48)) < (a + 1) * 10 ^ (r.length + 1)
      refine Nat.lt_of_lt_of_le q ?_
      rw [Nat.pow_succ, Nat.mul_comm (10 ^ r.length) 10, ← Nat.mul_assoc]
      exact Nat.mul_le_mul_right _ (by omega)
  have q := gen (tl z) 0 hd
  rw [Nat.zero_add, Nat.one_mul] at q
  exact Nat.lt_of_lt_of_le q (Nat.pow_le_pow_right (by decide) (by omega))
section
variable {P : Program} {w : World} {K : PySem.W.Frag} {mg : Str → Option Value} {base : Heap}
theorem scITInit : FnScope ["self", "at"] ["self", "at"] (defScope sITInit) := ⟨rfl, rfl, rfl, by decide +kernel, rfl, by decide +kernel, by decide +kernel⟩
abbrev TIT (K : PySem.W.Frag) (mg : Str → Option Value) := TExc K mg "InvalidText" "InvalidText.__init__" "at" sITInit
theorem okITInit (T : TIT K mg) : FnOk P w K mg base CX0 1 T.fI T.fd ["self", "at"] (spXInit K "at") := by
  refine T.F.ok scITInit (fun vs H Q E h => ?_) (fun cdv A outer s H vs Q E hr h => ?_)
  · obtain ⟨a, C, v, rfl, _⟩ := h
    rfl
  · obtain ⟨a, C, v, rfl, ha, O, no, q⟩ := h
    refine ⟨_, pss_one (ps_ost (pv 0) (pv 1)), ?_⟩
    exact ⟨_, rfl, _, rfl, a, C, rfl, O, no, .inl ⟨ha, fun dx h1 h2 => q dx h1 h2⟩⟩
theorem okITInitH (T : TIT K mg) : L2H.FnH P w K mg base CX0 1 T.fI T.fd ["self", "at"] (spXInit K "at") := by
  obtain ⟨oc, od, kV, doc, pm, an, cdv, ct, osl, e, lk, hcd⟩ := T.F.ex
  rw [e]
  rw [e] at lk
  refine L2H.fn_ofH lk hcd scITInit (fun vs H Q E h => ?_) (fun A outer s H vs Q E p hot hr h => ?_)
  · obtain ⟨a, C, v, rfl, _⟩ := h
    rfl
  · obtain ⟨a, C, v, rfl, ha, O, no, q⟩ := h
    refine ⟨_, pss_one (ps_ost (pv 0) (pv 1)), ?_⟩
    exact ⟨_, rfl, _, rfl, a, C, rfl, O, no, .inl ⟨ha, fun dx h1 h2 => q dx h1 h2⟩⟩
/-- InvalidText(at) leaves the def -/
def RaiseT (C : Addr) (H : Hp) (E : XK) (n : Int) : Prop := ∀ (e : Addr) (H' : Hp), Same H H' → Mo H H' → H e = none → H' e = some (.xd [("at", .int n)]) → E (.ref C) (some e) H'
theorem RaiseT.back {C : Addr} {H H1 : Hp} {E : XK} {n : Int} (h : RaiseT C H E n) (s : Same H H1) (m : Mo H H1) : RaiseT C H1 E n := fun e H' h1 h2 h3 h4 => h e H' (s.trans h1) (m.trans h2) (m e h3) h4
theorem it_made {C : Addr} {H H1 : Hp} {E : XK} {n : Int} (s : Same H H1) (m : Mo H H1) (h : RaiseT C H E n) {a : Addr} (ha : H1 a = none) (dx : Addr) (h1 : (upd H1 a (exo a C none)) dx = none) (h2 : dx ≠ a) :
    E (.ref C) (some dx) (upd (del (upd (upd (upd H1 a (exo a C none)) dx (exd dx [("at", .int n)])) a (exo a C (some dx))) a) dx (.xd [("at", .int n)])) := by
  have hd : H1 dx = none := by rw [upd_ne h2] at h1; exact h1
  refine h dx _ (s.trans (same_made ha hd)) (m.trans fun b e => ?_) (m dx hd) upd_same
  by_cases n2 : b = dx
  · rw [n2]; exact hd
  · by_cases n1 : b = a
    · rw [n1]; exact ha
    · rw [upd_ne n2, del_ne n1, upd_ne n1, upd_ne n2, upd_ne n1] at e
      exact e
/-- the reading of InvalidText(n) being made -/
theorem it_read {T : TIT K mg} {H H1 : Hp} {E : XK} {n : Int} (s : Same H H1) (m : Mo H H1) (h : RaiseT T.C H E n) : ∀ a, H1 a = none → spXInit K "at" (.ref a :: ([V.int n] ++ [])) (upd H1 a (exo a T.C none))
    (fun v H2 => v = .non ∧ ∃ (d : Addr) (fs : List (Str × V)), H2 a = some (exo a T.C (some d)) ∧ H2 d = some (exd d fs) ∧ H1 d = none ∧ E (.ref T.C) (some d) (upd (del H2 a) d (.xd fs))) (fun _ _ _ => False) := fun a ha =>
  ⟨a, T.C, .int n, rfl, upd_same, T.O, T.noF, fun dx h1 h2 => ⟨rfl, dx, _, upd_same, by rw [upd_ne h2, upd_same], by rw [upd_ne h2] at h1; exact h1, it_made s m h ha dx h1 h2⟩⟩
structure TNum (K : PySem.W.Frag) (mg : Str → Option Value) : Type where
  IT : TIT K mg
  mInt : mg "int" = none
  mLen : mg "len" = none
  mAll : mg "all" = none
  tok : Tok
  mMost : mg "MOST_DIGITS" = some (.int 10 tok)
  num : At K mg "read_number" sReadNum ["text"]
def spReadNum (C : Addr) : Sp := fun vs H Q E => ∃ z : Str, vs = [.str z] ∧ z.length ≤ 5000 ∧ (numOk z = true → ∀ H', Same H H' → Mo H H' → Q (.int (numVal z : Nat)) H') ∧ (numOk z = false → RaiseT C H E 0)
theorem scReadNum : FnScope ["text", "digit"] ["text"] (defScope sReadNum) := ⟨rfl, rfl, rfl, by decide +kernel, rfl, by decide +kernel, by decide +kernel⟩
theorem okReadNum (T : TNum K mg) : FnOk P w K mg base (L2N.CX P w) 3 T.num.f T.num.fd ["text"] (spReadNum T.IT.C) := by
  refine (funD T.num.F).ok scReadNum (fun vs H Q E h => ?_) (fun cdv A outer s H vs Q E hr h => ?_)
  · obtain ⟨z, rfl, _⟩ := h
    rfl
  · obtain ⟨z, rfl, hl, q1, q2⟩ := h
    refine ⟨_, pss_cons (ps_if (PW.pt (pw_or (pt_not (pt_chain op_le op_le pe_int (pe_callB call_len_str (by rfl) T.mLen PySem.boot_len (pa_cons (pv 0) pa_nil)) (pe_glob (v := .int 10) (by rfl) T.mMost ⟨_, rfl⟩)))
        (pw_or1 (pt_not (pt_val (pe_callB (cr_all rfl) (by rfl) T.mAll (by decide +kernel) (pa_cons (pe_lc (own := [("digit", 1)]) (g := gName 1) (tt := tYes) (by rfl) scReadNum.nd (pi_str (pv 0))
          (blkOk_by (N := ["text", "digit"]) (sc := defScope sReadNum) (by decide +kernel)) (fun _ _ _ _ _ => pg_name (i := 1) scReadNum.nd rfl (Or.inl rfl)) (fun _ _ _ _ _ => pts_nil)
          (fun _ _ _ _ _ => pe_chain op_le_str op_le_str pe_str (pv 1) pe_str)) pa_nil)))))))
        (pss_one (L2N.ps_raise rfl (L2N.takes_of rfl rfl rfl rfl) (pmk_oexN T.IT.O T.IT.iC T.IT.tI (okITInit T.IT) (hr.mono (by decide)) T.IT.b pass0 rfl T.IT.m (pa_cons pe_int pa_nil)))) pss_nil)
      (pss_cons (ps_if (PW.pt (pw_and (pt_cmpR op_eq (pe_ix ix_str (pv 0) pe_int (fun _ _ => rfl)) pe_str (nomark _)) (pw_and1 (pt_cmpR op_ne (pv 0) pe_str (nomark _)))))
        (pss_one (L2N.ps_raise rfl (L2N.takes_of rfl rfl rfl rfl) (pmk_oexN T.IT.O T.IT.iC T.IT.tI (okITInit T.IT) (hr.mono (by decide)) T.IT.b pass0 rfl T.IT.m (pa_cons pe_int pa_nil)))) pss_nil)
      (pss_one (ps_ret (pe_callTy call_int_str (by rfl) T.mInt (by decide +kernel) (pa_cons (pv 0) pa_nil))))), ?_⟩
    refine ⟨_, rfl, z, rfl, Nat.le_trans hl (by decide), _, _, rfl, rfl, _, rfl, ?_⟩
    have raise : ∀ H1, numOk z = false → Same H H1 → Mo H H1 → (1 : Nat) ≤ 1000 ∧ _ := fun H1 hf s m => ⟨by decide, it_read (T := T.IT) s m (q2 hf)⟩
    cases h1 : decide (1 ≤ (z.length : Int)) with
    | false =>
      have hf : numOk z = false := by unfold numOk; rw [h1]; rfl
      refine iteF ⟨false, rfl, iteT (iteT ?_)⟩
      exact raise H hf (Same.refl H) (Mo.refl H)
    | true =>
      refine iteT ⟨_, _, rfl, rfl, _, rfl, ?_⟩
      cases h2 : decide ((z.length : Int) ≤ 10) with
      | false =>
        have hf : numOk z = false := by unfold numOk; rw [h1, h2]; rfl
        refine iteT (iteT ?_)
        exact raise H hf (Same.refl H) (Mo.refl H)
      | true =>
        refine iteF ?_
        refine ⟨_, rfl, z, rfl, fun D hD => lc_it walk_str (fun i Hi => Hi = upd H D (.lst ((List.range i).map fun j => .bl (dok (z.cps.toList.getD j 0))))) rfl (fun _ _ _ _ => trivial) (fun i x Hi Hj hi hP hY => ?_) (fun Hi hP => ?_)⟩
        · obtain ⟨rfl, c, hc, rfl⟩ := hY
          subst hP
          have hi2 : i < 1000 := by
            have : z.cps.size = z.length := rfl
            have := of_decide_eq_true h2
            omega
          have hg : z.cps.toList.getD i 0 = c := by
            rw [List.getD_eq_getElem?_getD, Array.getElem?_toList, hc]
            rfl
          have fin := lc_step (H1 := H) (D := D) (f := fun j => .bl (dok (z.cps.toList.getD j 0))) (i := i) hi2
          rw [hg, ← dok_eq] at fin
          refine ⟨rfl, _, rfl, _, _, rfl, rfl, _, rfl, ?_⟩
          cases h3 : (!decide ([c] < [48])) with
          | false =>
            have h4 : (!decide (({ cps := #[c] } : Str).cps.toList < (Str.ofString "0").cps.toList)) = false := h3
            rw [h3] at fin
            rw [h4]
            exact fin
          | true =>
            have h4 : (!decide (({ cps := #[c] } : Str).cps.toList < (Str.ofString "0").cps.toList)) = true := h3
            rw [h3] at fin
            rw [h4]
            exact ⟨_, _, rfl, rfl, fin⟩
        · subst hP
          have e3 := range_getD (f := dok) z.cps.toList
          rw [Array.length_toList] at e3
          refine ⟨D, (List.range z.cps.size).map fun j => dok (z.cps.toList.getD j 0), rfl, ?_, ?_⟩
          · refine SqL.of ?_
            rw [upd_same, List.map_map]
            rfl
          · rw [e3]
            have s1 : Same H (upd H D (.lst ((List.range z.cps.size).map fun j => V.bl (dok (z.cps.toList.getD j 0))))) := Same.new hD
            have m1 : Mo H (upd H D (.lst ((List.range z.cps.size).map fun j => V.bl (dok (z.cps.toList.getD j 0))))) := Mo.upd
            generalize upd H D (.lst ((List.range z.cps.size).map fun j => V.bl (dok (z.cps.toList.getD j 0)))) = H1 at s1 m1 ⊢
            cases h5 : z.cps.toList.all dok with
            | false =>
              have hf : numOk z = false := by unfold numOk; rw [h1, h2, h5]; rfl
              refine ⟨_, rfl, iteT ?_⟩
              exact raise H1 hf s1 m1
            | true =>
              refine ⟨_, rfl, iteF ?_⟩
              have hz0 : 0 < (tl z).length := by
                have := of_decide_eq_true h1
                have := len_tl z
                omega
              obtain ⟨c, r, hcr⟩ : ∃ c r, tl z = c :: r := by
                cases e : tl z with
                | nil => rw [e] at hz0; exact absurd hz0 (Nat.lt_irrefl 0)
                | cons c r => exact ⟨c, r, rfl⟩
              refine ⟨_, rfl, z, 0, c, rfl, rfl, Nat.le_trans hl (by decide), by show atI (tl z) ((0 : Nat) : Int) = some c; rw [hcr]; exact atI_nat rfl, rfl, _, rfl, ?_⟩
              have hhead : decide (z.cps.toList.head? = some 48) = decide (V.str ⟨#[c]⟩ = V.str "0") := by
                show decide ((tl z).head? = some 48) = _
                rw [hcr]
                by_cases h48 : c = 48
                · subst h48
                  show decide ((some 48 : Option Nat) = some 48) = decide (V.str ⟨#[48]⟩ = V.str "0")
                  decide +kernel
                · rw [decide_eq_false (by intro zz; exact h48 (Option.some.inj zz)), decide_eq_false]
                  intro zz
                  have z2 : (⟨#[c]⟩ : Str) = "0" := V.str.inj zz
                  have z3 := congrArg tl z2
                  have z4 : tl ("0" : Str) = [48] := by decide +kernel
                  rw [z4] at z3
                  exact h48 (List.cons.inj z3).1
              have fin : numOk z = true → ∃ a n, [V.str z] = [V.str a] ∧ PySem.intText? a = some n ∧ a.length ≤ 640 ∧ Q (.int n) H1 := fun ht =>
                ⟨z, ((numVal z : Nat) : Int), rfl, PySem.intText_digits (digits_of h5) (by show tl z ≠ []; rw [hcr]; exact List.cons_ne_nil _ _) (Nat.le_trans (Int.ofNat_le.mp (of_decide_eq_true h2)) (by decide)), Nat.le_trans (Int.ofNat_le.mp (of_decide_eq_true h2)) (by decide), q1 ht H1 s1 m1⟩
              cases h6 : decide (V.str ⟨#[c]⟩ = V.str "0") with
              | false =>
                have ht : numOk z = true := by unfold numOk; rw [h1, h2, h5, hhead, h6]; rfl
                refine iteF (iteF ?_)
                exact ⟨_, rfl, fin ht⟩
              | true =>
                refine iteT ⟨_, rfl, rfl, _, rfl, ?_⟩
                cases h7 : decide (V.str z = V.str "0") with
                | true =>
                  have h8 : decide (z = ("0" : Str)) = true := decide_eq_true (V.str.inj (of_decide_eq_true h7))
                  have ht : numOk z = true := by unfold numOk; rw [h1, h2, h5, hhead, h6, h8]; rfl
                  refine iteF ?_
                  exact ⟨_, rfl, fin ht⟩
                | false =>
                  have h8 : decide (z = ("0" : Str)) = false := decide_eq_false (fun zz => of_decide_eq_false h7 (by rw [zz]))
                  have hf : numOk z = false := by unfold numOk; rw [h1, h2, h5, hhead, h6, h8]; rfl
                  refine iteT ?_
                  exact raise H1 hf s1 m1
end
end Pn

namespace Pn
open PySem L2 TL
/-! ### what a line's words tell -/
def row2 (wd nm : Str) : Option RowD :=
  if nameS nm = true then
    (if wd = "note" then some (.note nm "") else if wd = "keep" then some (.keep nm) else if wd = "back" then some (.back nm) else if wd = "ref" then some (.ref nm) else if wd = "put" then some (.put nm) else if wd = "open" then some (.opn nm) else none)
  else none
def row3 (wd c l : Str) : Option RowD :=
  if wd = "note" ∧ l ≠ "" then (if nameS c = true ∧ labD (.str l) = true then some (.note c l) else none)
  else if wd = "skip" then (if numOk l = true ∧ nameS c = true ∧ numVal l ≠ 0 then some (.skip c (numVal l)) else none)
  else if wd = "set" then (if numOk l = true ∧ nameS c = true then some (.set c (numVal l)) else none)
  else none
def rowOf : List Str → Option RowD
  | [a, b] => row2 a b
  | [a, b, c] => row3 a b c
  | _ => none
section
variable {P : Program} {w : World} {K : PySem.W.Frag} {mg : Str → Option Value} {base : Heap}
structure TRead (K : PySem.W.Frag) (mg : Str → Option Value) : Type where
  R : TRows K mg
  M : TNum K mg
  dsN : List Value
  vN : Vals [V.str ""] dsN
  bN : Binds K R.note.fd ["self", "counter", "label"] dsN
  two : At K mg "row_of_two" sRow2 ["word", "name"]
  three : At K mg "row_of_three" sRow3 ["word", "counter", "last"]
  read : At K mg "read_row" sReadRow ["text"]
/-- all that a line that is no row may raise -/
def RaiseB (CR CT : Addr) (H : Hp) (E : XK) : Prop := (∀ wd : Str, RaiseW CR H E (.str wd)) ∧ RaiseT CT H E 0
theorem kpi_same2 {H H1 : Hp} {x dx : Addr} {o o2 : HO} (hx : H x = none) (hdx : H dx = none) (k : KpI x (upd (upd H dx o) x o2) H1) : Same H H1 := fun b u e => by
  have n1 : b ≠ x := ne_of_none e hx
  have n2 : b ≠ dx := ne_of_none e hdx
  exact k b u (by rw [upd_ne n1, upd_ne n2]; exact e) n1
theorem ins_same2 {H : Hp} {x dx : Addr} {o o2 : HO} (hx : H x = none) (hdx : H dx = none) : Same H (upd (upd H dx o) x o2) := fun b u e => by
  rw [upd_ne (ne_of_none e hx), upd_ne (ne_of_none e hdx)]
  exact e
theorem skip_pos {n : Nat} (h : skipD (.int (n : Int)) = true) : n ≠ 0 := fun z => by
  subst z
  exact absurd h (by decide)
theorem skip_of {n : Nat} (h : n ≠ 0) : skipD (.int (n : Int)) = true := by
  show (decide ((0 : Int) ≤ (n : Int)) && decide ((n : Int) ≠ 0)) = true
  rw [decide_eq_true (show (0 : Int) ≤ (n : Int) by omega), decide_eq_true (show (n : Int) ≠ 0 by omega)]
  rfl
theorem set_of {n : Nat} : setD (.int (n : Int)) = true := decide_eq_true (show (0 : Int) ≤ (n : Int) by omega)
def spRow2 (T : TRead K mg) : Sp := fun vs H Q E => ∃ wd nm : Str, vs = [.str wd, .str nm] ∧ nm.length ≤ 900 ∧ (∀ r, row2 wd nm = some r → ∀ a H', Same H H' → Mo H H' → RowAt T.R H' a r → Q (.ref a) H') ∧ (row2 wd nm = none → RaiseB T.R.N.IR.C T.M.IT.C H E)
theorem scRow2 : FnScope ["word", "name"] ["word", "name"] (defScope sRow2) := ⟨rfl, rfl, rfl, by decide +kernel, rfl, by decide +kernel, by decide +kernel⟩
theorem okRow2 (T : TRead K mg) : FnOk P w K mg base (L2N.CX P w) 6 T.two.f T.two.fd ["word", "name"] (spRow2 T) := by
  refine (funD T.two.F).ok scRow2 (fun vs H Q E h => ?_) (fun cdv A outer s H vs Q E hr h => ?_)
  · obtain ⟨wd, nm, rfl, _⟩ := h
    rfl
  · obtain ⟨wd, nm, rfl, hl, q1, q2⟩ := h
    have hdl : dlen (.str nm) := hl
    refine ⟨_, pss_cons (ps_if (pt_cmpR op_eq (pv 0) pe_str (nomark _)) (pss_one (ps_ret (pe_make T.R.note.M (okNoteInit T.R.note T.R.N) (hr.mono (by decide)) rfl T.R.note.m T.bN T.vN (L2N.passes_call (L2N.takes_of rfl rfl rfl rfl) fun _ _ _ _ h => h) (pa_cons (pv 1) pa_nil)))) pss_nil)
      (pss_cons (ps_if (pt_cmpR op_eq (pv 0) pe_str (nomark _)) (pss_one (ps_ret (pe_make T.R.keep.M (okKeepInit T.R.keep T.R.N) (hr.mono (by decide)) rfl T.R.keep.m T.R.keep.b .nil (L2N.passes_call (L2N.takes_of rfl rfl rfl rfl) fun _ _ _ _ h => h) (pa_cons (pv 1) pa_nil)))) pss_nil)
      (pss_cons (ps_if (pt_cmpR op_eq (pv 0) pe_str (nomark _)) (pss_one (ps_ret (pe_make T.R.back.M (okBackInit T.R.back T.R.N) (hr.mono (by decide)) rfl T.R.back.m T.R.back.b .nil (L2N.passes_call (L2N.takes_of rfl rfl rfl rfl) fun _ _ _ _ h => h) (pa_cons (pv 1) pa_nil)))) pss_nil)
      (pss_cons (ps_if (pt_cmpR op_eq (pv 0) pe_str (nomark _)) (pss_one (ps_ret (pe_make T.R.ref.M (okRefInit T.R.ref T.R.N) (hr.mono (by decide)) rfl T.R.ref.m T.R.ref.b .nil (L2N.passes_call (L2N.takes_of rfl rfl rfl rfl) fun _ _ _ _ h => h) (pa_cons (pv 1) pa_nil)))) pss_nil)
      (pss_cons (ps_if (pt_cmpR op_eq (pv 0) pe_str (nomark _)) (pss_one (ps_ret (pe_make T.R.put.M (okPutInit T.R.put T.R.N) (hr.mono (by decide)) rfl T.R.put.m T.R.put.b .nil (L2N.passes_call (L2N.takes_of rfl rfl rfl rfl) fun _ _ _ _ h => h) (pa_cons (pv 1) pa_nil)))) pss_nil)
      (pss_cons (ps_if (pt_cmpR op_eq (pv 0) pe_str (nomark _)) (pss_one (ps_ret (pe_make T.R.open_.M (okOpenInit T.R.open_ T.R.N) (hr.mono (by decide)) rfl T.R.open_.m T.R.open_.b .nil (L2N.passes_call (L2N.takes_of rfl rfl rfl rfl) fun _ _ _ _ h => h) (pa_cons (pv 1) pa_nil)))) pss_nil)
      (pss_one (L2N.ps_raise rfl (L2N.takes_of rfl rfl rfl rfl) (pmk_oexN T.M.IT.O T.M.IT.iC T.M.IT.tI (okITInit T.M.IT) (hr.mono (by decide)) T.M.IT.b pass0 rfl T.M.IT.m (pa_cons pe_int pa_nil))))))))), ?_⟩
    refine ⟨_, rfl, rfl, _, rfl, ite2 (fun hz => ?_) (fun hz => ?_)⟩
    · obtain rfl : wd = "note" := V.str.inj (of_decide_eq_true hz)
      refine ⟨_, rfl, fun x dx hx hdx ne => ?_⟩
      have s2 := ins_same2 (o := .own x) (o2 := .ins T.R.note.C dx []) hx hdx
      have m2 : Mo H (upd (upd H dx (.own x)) x (.ins T.R.note.C dx [])) := Mo.upd.trans Mo.upd
      have some_ : nameS nm = true → row2 "note" nm = some (.note nm "") := fun hn => by
        unfold row2
        rw [if_pos hn]
        rw [if_pos rfl]
      have none_ : nameS nm = false → row2 "note" nm = none := fun hn => by
        unfold row2
        rw [if_neg (by rw [hn]; decide)]
      refine ⟨x, dx, .str nm, .str "", .str nm, .str "", rfl, upd_same, .str nm, hdl, .str "", (by decide +kernel : ("" : Str).length ≤ 900), by decide +kernel, fun hn hg H1 kp m hi => ⟨rfl, q1 _ (some_ hn) x H1 (kpi_same2 hx hdx kp) (m2.trans m) ⟨dx, hi⟩⟩, fun hn => ((q2 (none_ hn)).1 "counter").back s2 m2, fun hn hg => absurd hg (by decide +kernel)⟩
    have znote : ¬ wd = "note" := fun z => hz (decide_eq_true (by rw [z]))
    refine ⟨_, rfl, rfl, _, rfl, ite2 (fun hz => ?_) (fun hz => ?_)⟩
    · obtain rfl : wd = "keep" := V.str.inj (of_decide_eq_true hz)
      refine ⟨_, rfl, fun x dx hx hdx ne => ?_⟩
      have s2 := ins_same2 (o := .own x) (o2 := .ins T.R.keep.C dx []) hx hdx
      have m2 : Mo H (upd (upd H dx (.own x)) x (.ins T.R.keep.C dx [])) := Mo.upd.trans Mo.upd
      have some_ : nameS nm = true → row2 "keep" nm = some (.keep nm) := fun hn => by
        unfold row2
        rw [if_pos hn]
        rw [if_neg (by decide +kernel)]
        rw [if_pos rfl]
      have none_ : nameS nm = false → row2 "keep" nm = none := fun hn => by
        unfold row2
        rw [if_neg (by rw [hn]; decide)]
      refine ⟨x, dx, .str nm, .str nm, rfl, upd_same, .str nm, hdl, fun hn H1 kp m hi => ⟨rfl, q1 _ (some_ hn) x H1 (kpi_same2 hx hdx kp) (m2.trans m) ⟨dx, hi⟩⟩, fun hn => ((q2 (none_ hn)).1 "counter").back s2 m2⟩
    have zkeep : ¬ wd = "keep" := fun z => hz (decide_eq_true (by rw [z]))
    refine ⟨_, rfl, rfl, _, rfl, ite2 (fun hz => ?_) (fun hz => ?_)⟩
    · obtain rfl : wd = "back" := V.str.inj (of_decide_eq_true hz)
      refine ⟨_, rfl, fun x dx hx hdx ne => ?_⟩
      have s2 := ins_same2 (o := .own x) (o2 := .ins T.R.back.C dx []) hx hdx
      have m2 : Mo H (upd (upd H dx (.own x)) x (.ins T.R.back.C dx [])) := Mo.upd.trans Mo.upd
      have some_ : nameS nm = true → row2 "back" nm = some (.back nm) := fun hn => by
        unfold row2
        rw [if_pos hn]
        rw [if_neg (by decide +kernel)]
        rw [if_neg (by decide +kernel)]
        rw [if_pos rfl]
      have none_ : nameS nm = false → row2 "back" nm = none := fun hn => by
        unfold row2
        rw [if_neg (by rw [hn]; decide)]
      refine ⟨x, dx, .str nm, .str nm, rfl, upd_same, .str nm, hdl, fun hn H1 kp m hi => ⟨rfl, q1 _ (some_ hn) x H1 (kpi_same2 hx hdx kp) (m2.trans m) ⟨dx, hi⟩⟩, fun hn => ((q2 (none_ hn)).1 "counter").back s2 m2⟩
    have zback : ¬ wd = "back" := fun z => hz (decide_eq_true (by rw [z]))
    refine ⟨_, rfl, rfl, _, rfl, ite2 (fun hz => ?_) (fun hz => ?_)⟩
    · obtain rfl : wd = "ref" := V.str.inj (of_decide_eq_true hz)
      refine ⟨_, rfl, fun x dx hx hdx ne => ?_⟩
      have s2 := ins_same2 (o := .own x) (o2 := .ins T.R.ref.C dx []) hx hdx
      have m2 : Mo H (upd (upd H dx (.own x)) x (.ins T.R.ref.C dx [])) := Mo.upd.trans Mo.upd
      have some_ : nameS nm = true → row2 "ref" nm = some (.ref nm) := fun hn => by
        unfold row2
        rw [if_pos hn]
        rw [if_neg (by decide +kernel)]
        rw [if_neg (by decide +kernel)]
        rw [if_neg (by decide +kernel)]
        rw [if_pos rfl]
      have none_ : nameS nm = false → row2 "ref" nm = none := fun hn => by
        unfold row2
        rw [if_neg (by rw [hn]; decide)]
      refine ⟨x, dx, .str nm, .str nm, rfl, upd_same, .str nm, hdl, fun hn H1 kp m hi => ⟨rfl, q1 _ (some_ hn) x H1 (kpi_same2 hx hdx kp) (m2.trans m) ⟨dx, hi⟩⟩, fun hn => ((q2 (none_ hn)).1 "label").back s2 m2⟩
    have zref : ¬ wd = "ref" := fun z => hz (decide_eq_true (by rw [z]))
    refine ⟨_, rfl, rfl, _, rfl, ite2 (fun hz => ?_) (fun hz => ?_)⟩
    · obtain rfl : wd = "put" := V.str.inj (of_decide_eq_true hz)
      refine ⟨_, rfl, fun x dx hx hdx ne => ?_⟩
      have s2 := ins_same2 (o := .own x) (o2 := .ins T.R.put.C dx []) hx hdx
      have m2 : Mo H (upd (upd H dx (.own x)) x (.ins T.R.put.C dx [])) := Mo.upd.trans Mo.upd
      have some_ : nameS nm = true → row2 "put" nm = some (.put nm) := fun hn => by
        unfold row2
        rw [if_pos hn]
        rw [if_neg (by decide +kernel)]
        rw [if_neg (by decide +kernel)]
        rw [if_neg (by decide +kernel)]
        rw [if_neg (by decide +kernel)]
        rw [if_pos rfl]
      have none_ : nameS nm = false → row2 "put" nm = none := fun hn => by
        unfold row2
        rw [if_neg (by rw [hn]; decide)]
      refine ⟨x, dx, .str nm, .str nm, rfl, upd_same, .str nm, hdl, fun hn H1 kp m hi => ⟨rfl, q1 _ (some_ hn) x H1 (kpi_same2 hx hdx kp) (m2.trans m) ⟨dx, hi⟩⟩, fun hn => ((q2 (none_ hn)).1 "part").back s2 m2⟩
    have zput : ¬ wd = "put" := fun z => hz (decide_eq_true (by rw [z]))
    refine ⟨_, rfl, rfl, _, rfl, ite2 (fun hz => ?_) (fun hz => ?_)⟩
    · obtain rfl : wd = "open" := V.str.inj (of_decide_eq_true hz)
      refine ⟨_, rfl, fun x dx hx hdx ne => ?_⟩
      have s2 := ins_same2 (o := .own x) (o2 := .ins T.R.open_.C dx []) hx hdx
      have m2 : Mo H (upd (upd H dx (.own x)) x (.ins T.R.open_.C dx [])) := Mo.upd.trans Mo.upd
      have some_ : nameS nm = true → row2 "open" nm = some (.opn nm) := fun hn => by
        unfold row2
        rw [if_pos hn]
        rw [if_neg (by decide +kernel)]
        rw [if_neg (by decide +kernel)]
        rw [if_neg (by decide +kernel)]
        rw [if_neg (by decide +kernel)]
        rw [if_neg (by decide +kernel)]
        rw [if_pos rfl]
      have none_ : nameS nm = false → row2 "open" nm = none := fun hn => by
        unfold row2
        rw [if_neg (by rw [hn]; decide)]
      refine ⟨x, dx, .str nm, .str nm, rfl, upd_same, .str nm, hdl, fun hn H1 kp m hi => ⟨rfl, q1 _ (some_ hn) x H1 (kpi_same2 hx hdx kp) (m2.trans m) ⟨dx, hi⟩⟩, fun hn => ((q2 (none_ hn)).1 "name").back s2 m2⟩
    have zopen : ¬ wd = "open" := fun z => hz (decide_eq_true (by rw [z]))
    have none_ : row2 wd nm = none := by
      unfold row2
      rw [if_neg znote, if_neg zkeep, if_neg zback, if_neg zref, if_neg zput, if_neg zopen]
      split <;> rfl
    exact ⟨by decide, it_read (T := T.M.IT) (Same.refl H) (Mo.refl H) (q2 none_).2⟩
def spRow3 (T : TRead K mg) : Sp := fun vs H Q E => ∃ wd c l : Str, vs = [.str wd, .str c, .str l] ∧ c.length ≤ 900 ∧ l.length ≤ 900 ∧ SeqAt.shaped (.str l) = true ∧ (∀ r, row3 wd c l = some r → ∀ a H', Same H H' → Mo H H' → RowAt T.R H' a r → Q (.ref a) H') ∧ (row3 wd c l = none → RaiseB T.R.N.IR.C T.M.IT.C H E)
theorem scRow3 : FnScope ["word", "counter", "last"] ["word", "counter", "last"] (defScope sRow3) := ⟨rfl, rfl, rfl, by decide +kernel, rfl, by decide +kernel, by decide +kernel⟩
theorem okRow3 (T : TRead K mg) : FnOk P w K mg base (L2N.CX P w) 6 T.three.f T.three.fd ["word", "counter", "last"] (spRow3 T) := by
  refine (funD T.three.F).ok scRow3 (fun vs H Q E h => ?_) (fun cdv A outer s H vs Q E hr h => ?_)
  · obtain ⟨wd, c, l, rfl, _⟩ := h
    rfl
  · obtain ⟨wd, c, l, rfl, hc, hl, hsh, q1, q2⟩ := h
    have hdc : dlen (.str c) := hc
    have hdl : dlen (.str l) := hl
    refine ⟨_, pss_cons (ps_if (PW.pt (pw_and (pt_cmpR op_eq (pv 0) pe_str (nomark _)) (pw_and1 (pt_cmpR op_ne (pv 2) pe_str (nomark _))))) (pss_one (ps_ret (pe_make T.R.note.M (okNoteInit T.R.note T.R.N) (hr.mono (by decide)) rfl T.R.note.m T.R.note.b .nil (L2N.passes_call (L2N.takes_of rfl rfl rfl rfl) fun _ _ _ _ h => h) (pa_cons (pv 1) (pa_cons (pv 2) pa_nil))))) pss_nil)
      (pss_cons (ps_if (pt_cmpR op_eq (pv 0) pe_str (nomark _)) (pss_one (ps_ret (pe_make T.R.skip.M (okSkipInit T.R.skip T.R.N) (hr.mono (by decide)) rfl T.R.skip.m T.R.skip.b .nil (L2N.passes_call (L2N.takes_of rfl rfl rfl rfl) fun _ _ _ _ h => h) (pa_cons (pv 1) (pa_cons (pe_callS (okReadNum T.M) (hr.mono (by decide)) rfl T.M.num.m T.M.num.F.kp T.M.num.b (fun σ => L2N.passAt (L2N.takes_of rfl rfl rfl rfl) σ) (pa_cons (pv 2) pa_nil)) pa_nil))))) pss_nil)
      (pss_cons (ps_if (pt_cmpR op_eq (pv 0) pe_str (nomark _)) (pss_one (ps_ret (pe_make T.R.set.M (okSetInit T.R.set T.R.N) (hr.mono (by decide)) rfl T.R.set.m T.R.set.b .nil (L2N.passes_call (L2N.takes_of rfl rfl rfl rfl) fun _ _ _ _ h => h) (pa_cons (pv 1) (pa_cons (pe_callS (okReadNum T.M) (hr.mono (by decide)) rfl T.M.num.m T.M.num.F.kp T.M.num.b (fun σ => L2N.passAt (L2N.takes_of rfl rfl rfl rfl) σ) (pa_cons (pv 2) pa_nil)) pa_nil))))) pss_nil)
      (pss_one (L2N.ps_raise rfl (L2N.takes_of rfl rfl rfl rfl) (pmk_oexN T.M.IT.O T.M.IT.iC T.M.IT.tI (okITInit T.M.IT) (hr.mono (by decide)) T.M.IT.b pass0 rfl T.M.IT.m (pa_cons pe_int pa_nil)))))), ?_⟩
    by_cases hz : wd = "note" ∧ l ≠ ""
    · obtain ⟨rfl, hl0⟩ := hz
      refine ⟨_, rfl, rfl, _, rfl, ?_⟩
      refine iteTD (by decide +kernel) ⟨_, rfl, rfl, _, rfl, iteTD (by rw [decide_eq_false (fun z => hl0 (V.str.inj z))]; rfl) ?_⟩
      refine ⟨_, rfl, _, rfl, fun x dx hx hdx ne => ?_⟩
      have s2 := ins_same2 (o := .own x) (o2 := .ins T.R.note.C dx []) hx hdx
      have m2 : Mo H (upd (upd H dx (.own x)) x (.ins T.R.note.C dx [])) := Mo.upd.trans Mo.upd
      refine ⟨x, dx, .str c, .str l, .str c, .str l, rfl, upd_same, .str c, hdc, .str l, hdl, hsh, fun hn hg H1 kp m hi => ⟨rfl, q1 (.note c l) ?_ x H1 (kpi_same2 hx hdx kp) (m2.trans m) ⟨dx, hi⟩⟩, fun hn => ((q2 ?_).1 "counter").back s2 m2, fun hn hg => ((q2 ?_).1 "label").back s2 m2⟩
      · unfold row3
        rw [if_pos ⟨rfl, hl0⟩, if_pos ⟨hn, hg⟩]
      · unfold row3
        rw [if_pos ⟨rfl, hl0⟩, if_neg (fun z => by have h1 : nameS c = true := z.1; have h2 : nameS c = false := hn; rw [h1] at h2; cases h2)]
      · unfold row3
        rw [if_pos ⟨rfl, hl0⟩, if_neg (fun z => by rw [z.2] at hg; cases hg)]
    refine stepIfF (fun Q' hQ => ?tst) ?_
    case tst =>
      refine ⟨_, rfl, rfl, _, rfl, ?_⟩
      by_cases h1 : wd = "note"
      · have hl0 : l = "" := Classical.byContradiction fun z => hz ⟨h1, z⟩
        exact iteTD (decide_eq_true (by rw [h1])) ⟨_, rfl, rfl, _, rfl, by rw [decide_eq_true (show V.str l = V.str "" by rw [hl0])]; exact hQ⟩
      · exact iteFD (decide_eq_false fun z => h1 (V.str.inj z)) hQ
    refine ⟨_, rfl, rfl, _, rfl, ite2 (fun hs => ?_) (fun hs => ?_)⟩
    · obtain rfl : wd = "skip" := V.str.inj (of_decide_eq_true hs)
      refine ⟨_, rfl, _, rfl, l, rfl, Nat.le_trans hl (by decide), fun ho H1 s1 m1 => ?_, fun ho => (q2 (by unfold row3; rw [if_neg hz, if_pos rfl, if_neg (fun z => by rw [z.1] at ho; cases ho)])).2⟩
      intro x dx hx hdx ne
      have s2 := s1.trans (ins_same2 (o := .own x) (o2 := .ins T.R.skip.C dx []) hx hdx)
      have m2 : Mo H (upd (upd H1 dx (.own x)) x (.ins T.R.skip.C dx [])) := m1.trans (Mo.upd.trans Mo.upd)
      refine ⟨x, dx, .str c, .int (numVal l : Nat), .str c, .int (numVal l : Nat), rfl, upd_same, .str c, hdc, .int _, fun hn hg H2 kp m hi => ⟨rfl, q1 (.skip c (numVal l)) (by unfold row3; rw [if_neg hz, if_pos rfl, if_pos ⟨ho, hn, skip_pos hg⟩]) x H2 (s1.trans (kpi_same2 hx hdx kp)) (m2.trans m) ⟨dx, hi⟩⟩, fun hn => ((q2 (by unfold row3; rw [if_neg hz, if_pos rfl, if_neg (fun z => by have h1 : nameS c = true := z.2.1; have h2 : nameS c = false := hn; rw [h1] at h2; cases h2)])).1 "counter").back s2 m2, fun hn hg => ((q2 (by unfold row3; rw [if_neg hz, if_pos rfl, if_neg (fun z => by rw [skip_of z.2.2] at hg; cases hg)])).1 "by").back s2 m2⟩
    have zskip : ¬ wd = "skip" := fun z => hs (decide_eq_true (by rw [z]))
    refine ⟨_, rfl, rfl, _, rfl, ite2 (fun hs => ?_) (fun hs => ?_)⟩
    · obtain rfl : wd = "set" := V.str.inj (of_decide_eq_true hs)
      refine ⟨_, rfl, _, rfl, l, rfl, Nat.le_trans hl (by decide), fun ho H1 s1 m1 => ?_, fun ho => (q2 (by unfold row3; rw [if_neg hz, if_neg (by decide +kernel), if_pos rfl, if_neg (fun z => by rw [z.1] at ho; cases ho)])).2⟩
      intro x dx hx hdx ne
      have s2 := s1.trans (ins_same2 (o := .own x) (o2 := .ins T.R.set.C dx []) hx hdx)
      have m2 : Mo H (upd (upd H1 dx (.own x)) x (.ins T.R.set.C dx [])) := m1.trans (Mo.upd.trans Mo.upd)
      refine ⟨x, dx, .str c, .int (numVal l : Nat), .str c, .int (numVal l : Nat), rfl, upd_same, .str c, hdc, .int _, fun hn hg H2 kp m hi => ⟨rfl, q1 (.set c (numVal l)) (by unfold row3; rw [if_neg hz, if_neg (by decide +kernel), if_pos rfl, if_pos ⟨ho, hn⟩]) x H2 (s1.trans (kpi_same2 hx hdx kp)) (m2.trans m) ⟨dx, hi⟩⟩, fun hn => ((q2 (by unfold row3; rw [if_neg hz, if_neg (by decide +kernel), if_pos rfl, if_neg (fun z => by have h1 : nameS c = true := z.2; have h2 : nameS c = false := hn; rw [h1] at h2; cases h2)])).1 "counter").back s2 m2, fun hn hg => absurd hg (by rw [set_of]; decide)⟩
    have zset : ¬ wd = "set" := fun z => hs (decide_eq_true (by rw [z]))
    have none_ : row3 wd c l = none := by
      unfold row3
      rw [if_neg hz, if_neg zskip, if_neg zset]
    exact ⟨by decide, it_read (T := T.M.IT) (Same.refl H) (Mo.refl H) (q2 none_).2⟩
end
end Pn

namespace Pn
open PySem L2 TL
/-! ### read_row -/
theorem split_len {z : Str} {ws : List Str} (h : Txt.split z " " = ws) : ∀ x ∈ ws, x.length ≤ z.length ∧ ∀ c ∈ tl x, c ∈ tl z := by
  have e := PySem.StrLaws.join_split z " "
  rw [h] at e
  have key : ∀ (l : List Str) (x : Str), x ∈ l → (tl x).length ≤ (joinL (tl " ") (l.map tl)).length ∧ ∀ c ∈ tl x, c ∈ joinL (tl " ") (l.map tl) := by
    intro l
    induction l with
    | nil => intro x hx; cases hx
    | cons a r ih =>
      intro x hx
      cases r with
      | nil =>
        rw [List.mem_singleton.mp hx]
        exact ⟨Nat.le_refl _, fun c hc => hc⟩
      | cons b r =>
        rcases List.mem_cons.mp hx with rfl | hx
        · exact ⟨by show _ ≤ (tl x ++ (tl " " ++ joinL (tl " ") ((b :: r).map tl))).length; rw [List.length_append]; omega, fun c hc => List.mem_append_left _ hc⟩
        · have q := ih x hx
          refine ⟨?_, fun c hc => List.mem_append_right _ (List.mem_append_right _ (q.2 c hc))⟩
          show _ ≤ (tl a ++ (tl " " ++ joinL (tl " ") ((b :: r).map tl))).length
          rw [List.length_append, List.length_append]
          have := q.1
          omega
  intro x hx
  have q := key ws x hx
  rw [← tl_join, e] at q
  exact ⟨by rw [len_tl, len_tl]; exact q.1, q.2⟩
theorem strOk_tl {z : Str} : PyData.strOk z = true ↔ ∀ c ∈ tl z, c < 0x110000 := by
  unfold PyData.strOk
  simp only [Array.all_eq_true']
  constructor
  · intro h c hc
    exact of_decide_eq_true (h c (by simpa using hc))
  · intro h c hc
    exact decide_eq_true (h c (by simpa using hc))
theorem str_shaped {z : Str} (h : PyData.strOk z = true) : SeqAt.shaped (.str z) = true := by
  show (PyData.strOk z && decide (PyData.depth (.str z) ≤ 64)) = true
  rw [h]
  rfl
/-- len of a list or tuple, the written part by its name -/
def rLenK (K : PySem.W.Frag) : List V → Hp → VK → Prop := fun xs H Q => ∃ p ys, xs = [V.ref p] ∧ (SqL K H p ys ∨ SqT K H p ys) ∧ Q (.int ys.length) H
section
variable {P : Program} {w : World} {K : PySem.W.Frag} {mg : Str → Option Value} {base : Heap}
def spReadRow (T : TRead K mg) : Sp := fun vs H Q E => ∃ z : Str, vs = [.str z] ∧ z.length ≤ 800 ∧ PyData.strOk z = true ∧ (∀ r, rowOf (Txt.split z " ") = some r → ∀ a H', Same H H' → Mo H H' → RowAt T.R H' a r → Q (.ref a) H') ∧
  (rowOf (Txt.split z " ") = none → RaiseT T.M.IT.C H E 0)
theorem scReadRow : FnScope ["text", "words"] ["text"] (defScope sReadRow) := ⟨rfl, rfl, rfl, by decide +kernel, rfl, by decide +kernel, by decide +kernel⟩
theorem okReadRow (T : TRead K mg) (hsub : PySem.W.exmOne K (.ref T.M.IT.C) (.ref T.R.N.IR.C) = some false) : FnOk P w K mg base (L2.CX P w) 7 T.read.f T.read.fd ["text"] (spReadRow T) := by
  refine T.read.F.okX scReadRow (fun vs H Q E h => ?_) (fun cdv A outer s H vs Q E hr h => ?_)
  · obtain ⟨z, rfl, _⟩ := h
    rfl
  · obtain ⟨z, rfl, hl, hok, q1, q2⟩ := h
    refine ⟨_, pss_cons (ps_set (i := 1) scReadRow.nd rfl (Or.inl rfl) (pe_split (pv 0) pe_str))
      (pss_cons (L2H.ps_try_onlyX rfl rfl ⟨rfl, by decide, .inl T.R.N.IR.m⟩ (fun hd => L2H.passesAt_of rfl hd) (takes_of rfl rfl rfl rfl)
        (fun W pn xe tkN tkL _ => pss_cons (ps_if (pt_cmpR op_eq (pe_callB (show CallR _ (.builtin "len") (rLenK K) from call_len_seq) (by rfl) T.M.mLen PySem.boot_len (pa_cons (pv 1) pa_nil)) pe_int (nomark _))
            (pss_one (ps_ret (pe_callS (okRow2 T) hr rfl T.two.m T.two.F.kp T.two.b (fun σ => L2N.passAt tkN σ) (pa_cons (pe_ix (show IxR _ (rIxL K) from ix_list) (pv 1) pe_int (fun _ _ => rfl)) (pa_cons (pe_ix (show IxR _ (rIxL K) from ix_list) (pv 1) pe_int (fun _ _ => rfl)) pa_nil))))) pss_nil)
          (pss_one (ps_if (pt_cmpR op_eq (pe_callB (show CallR _ (.builtin "len") (rLenK K) from call_len_seq) (by rfl) T.M.mLen PySem.boot_len (pa_cons (pv 1) pa_nil)) pe_int (nomark _))
            (pss_one (ps_ret (pe_callS (okRow3 T) hr rfl T.three.m T.three.F.kp T.three.b (fun σ => L2N.passAt tkN σ) (pa_cons (pe_ix (show IxR _ (rIxL K) from ix_list) (pv 1) pe_int (fun _ _ => rfl)) (pa_cons (pe_ix (show IxR _ (rIxL K) from ix_list) (pv 1) pe_int (fun _ _ => rfl)) (pa_cons (pe_ix (show IxR _ (rIxL K) from ix_list) (pv 1) pe_int (fun _ _ => rfl)) pa_nil)))))) pss_nil)))
        (fun a oe cls d pn hz hf tk hot => pss_one (L2H.ps_raiseHN hot tk (L2H.pmk5_oexH T.M.IT.O T.M.IT.iC T.M.IT.tI (okITInitH T.M.IT) (L2H.roomH_mark (hr.mono (by decide)) _) hot T.M.IT.b pass0 rfl T.M.IT.m (pa_cons pe_int pa_nil)))))
      (pss_one (ps_raise rfl (takes_of rfl rfl rfl rfl) (pmk_oex T.M.IT.O T.M.IT.iC T.M.IT.tI (okITInit T.M.IT) (hr.mono (by decide)) T.M.IT.b .nil pass0 rfl T.M.IT.m (pa_cons pe_int pa_nil))))), ?_⟩
    refine ⟨_, rfl, ⟨_, rfl⟩, z, " ", rfl, rfl, by decide +kernel, Nat.le_trans (Nat.add_le_add_right hl 2) (by decide), fun p hp => ?_⟩
    have s1 : Same H (upd H p (.lst ((Txt.split z " ").map V.str))) := Same.new hp
    have m1 : Mo H (upd H p (.lst ((Txt.split z " ").map V.str))) := Mo.upd
    have hP : upd H p (.lst ((Txt.split z " ").map V.str)) p = some (.lst ((Txt.split z " ").map V.str)) := upd_same
    have hw := split_len (z := z) rfl
    generalize hG : upd H p (.lst ((Txt.split z " ").map V.str)) = G at s1 m1 hP ⊢
    clear hG
    generalize Txt.split z " " = ws at q1 q2 hw hP ⊢
    have hokz := strOk_tl.mp hok
    match ws, q1, q2, hw, hP with
    | [a, b], q1, q2, hw, hP =>
      refine ⟨_, rfl, p, _, rfl, .inl (SqL.of hP), rfl, _, rfl, iteTD rfl ?_⟩
      refine ⟨_, rfl, p, _, _, _, rfl, rfl, SqL.of hP, rfl, _, rfl, p, _, _, _, rfl, rfl, SqL.of hP, rfl, a, b, rfl, Nat.le_trans (hw b (by simp)).1 (by omega), fun r hr2 x H' hs hm hat => q1 r hr2 x H' (s1.trans hs) (m1.trans hm) hat, ?_⟩
      exact fun hn => ⟨fun wd e H' hs hm he hx => ⟨true, T.R.N.IR.te, fun _ a' ha => ⟨by decide, it_read (T := T.M.IT) (s1.trans hs) (m1.trans hm) (q2 hn)⟩, (fun zz => Bool.noConfusion zz)⟩, fun e H' hs hm he hx => ⟨false, hsub, (fun zz => Bool.noConfusion zz), fun _ => q2 hn e H' (s1.trans hs) (m1.trans hm) (m1 e he) hx⟩⟩
    | [a, b, c], q1, q2, hw, hP =>
      refine ⟨_, rfl, p, _, rfl, .inl (SqL.of hP), rfl, _, rfl, iteFD rfl ?_⟩
      refine ⟨_, rfl, p, _, rfl, .inl (SqL.of hP), rfl, _, rfl, iteTD rfl ?_⟩
      refine ⟨_, rfl, p, _, _, _, rfl, rfl, SqL.of hP, rfl, _, rfl, p, _, _, _, rfl, rfl, SqL.of hP, rfl, _, rfl, p, _, _, _, rfl, rfl, SqL.of hP, rfl, a, b, c, rfl, Nat.le_trans (hw b (by simp)).1 (by omega), Nat.le_trans (hw c (by simp)).1 (by omega), str_shaped (strOk_tl.mpr fun y hy => hokz y ((hw c (by simp)).2 y hy)), fun r hr2 x H' hs hm hat => q1 r hr2 x H' (s1.trans hs) (m1.trans hm) hat, ?_⟩
      exact fun hn => ⟨fun wd e H' hs hm he hx => ⟨true, T.R.N.IR.te, fun _ a' ha => ⟨by decide, it_read (T := T.M.IT) (s1.trans hs) (m1.trans hm) (q2 hn)⟩, (fun zz => Bool.noConfusion zz)⟩, fun e H' hs hm he hx => ⟨false, hsub, (fun zz => Bool.noConfusion zz), fun _ => q2 hn e H' (s1.trans hs) (m1.trans hm) (m1 e he) hx⟩⟩
    | [], q1, q2, hw, hP =>
      refine ⟨_, rfl, p, _, rfl, .inl (SqL.of hP), rfl, _, rfl, iteFD rfl ?_⟩
      refine ⟨_, rfl, p, _, rfl, .inl (SqL.of hP), rfl, _, rfl, iteFD rfl ?_⟩
      exact ⟨by decide, it_read (T := T.M.IT) s1 m1 (q2 rfl)⟩
    | [a], q1, q2, hw, hP =>
      refine ⟨_, rfl, p, _, rfl, .inl (SqL.of hP), rfl, _, rfl, iteFD rfl ?_⟩
      refine ⟨_, rfl, p, _, rfl, .inl (SqL.of hP), rfl, _, rfl, iteFD rfl ?_⟩
      exact ⟨by decide, it_read (T := T.M.IT) s1 m1 (q2 rfl)⟩
    | a :: b :: c :: d :: r, q1, q2, hw, hP =>
      have h2 : decide (V.int (((a :: b :: c :: d :: r).map V.str).length : Int) = V.int 2) = false := decide_eq_false fun zz => by
        have := V.int.inj zz
        simp only [List.length_map, List.length_cons] at this
        omega
      have h3 : decide (V.int (((a :: b :: c :: d :: r).map V.str).length : Int) = V.int 3) = false := decide_eq_false fun zz => by
        have := V.int.inj zz
        simp only [List.length_map, List.length_cons] at this
        omega
      refine ⟨_, rfl, p, _, rfl, .inl (SqL.of hP), rfl, _, rfl, iteFD h2 ?_⟩
      refine ⟨_, rfl, p, _, rfl, .inl (SqL.of hP), rfl, _, rfl, iteFD h3 ?_⟩
      exact ⟨by decide, it_read (T := T.M.IT) s1 m1 (q2 rfl)⟩
end
end Pn

namespace Pn
open PySem L2
abbrev sPools : Stmt := top 31
/-- a pool of names: counters, parts, open places, labels -/
structure Pool where
  c : List Str
  p : List Str
  x : List Str
  l : List Str
def poolsD : List Pool := [⟨["c", "f", "r"], ["p", "pic", "fig", "text"], ["x", "y"], ["cat", "dog"]⟩, ⟨["a", "ab", "abc"], ["a", "aa", "ab", "b"], ["b", "bb"], ["a", "z"]⟩, ⟨["n", "nn", "m"], ["z", "y", "x", "w"], ["n", "o"], ["x", "n"]⟩]
structure Pool.Fine (d : Pool) : Prop where
  cl : d.c.length = 3
  pl : d.p.length = 4
  xl : d.x.length = 2
  ll : d.l.length = 2
  cn : d.c.Nodup
  pn : d.p.Nodup
  names : ∀ y ∈ d.c ++ d.p ++ d.x ++ d.l, nameS y = true
theorem pool_fine : ∀ d ∈ poolsD, d.Fine := fun d hd => by
  have h : ∀ d ∈ poolsD, ((decide (d.c.length = 3) && decide (d.p.length = 4) && decide (d.x.length = 2) && decide (d.l.length = 2)) && (decide d.c.Nodup && decide d.p.Nodup)) && (d.c ++ d.p ++ d.x ++ d.l).all nameS = true := List.all_eq_true.mp (by decide +kernel)
  have q := h d hd
  simp only [Bool.and_eq_true, decide_eq_true_eq] at q
  obtain ⟨⟨⟨⟨⟨q1, q2⟩, q3⟩, q4⟩, q5, q6⟩, q7⟩ := q
  exact ⟨q1, q2, q3, q4, q5, q6, List.all_eq_true.mp q7⟩
/-- a pool as it stands -/
def PoolAt (H : Hp) (a : Addr) (d : Pool) : Prop := ∃ a0 a1 a2 a3 : Addr, H a = some (.lst [.ref a0, .ref a1, .ref a2, .ref a3]) ∧ H a0 = some (.lst (d.c.map V.str)) ∧ H a1 = some (.lst (d.p.map V.str)) ∧ H a2 = some (.lst (d.x.map V.str)) ∧ H a3 = some (.lst (d.l.map V.str))
section
variable {P : Program} {w : World} {K : PySem.W.Frag} {mg : Str → Option Value} {base : Heap}
def spPools : Sp := fun vs H Q _ => ∃ b : Addr, vs = [.ref b] ∧ BoxAt H b ∧ ∀ (a : Addr) (d : Pool) (H' : Hp), d ∈ poolsD → BoxAt H' b → Kp b H H' → PoolAt (dif H H') a d → Q (.ref a) H'
theorem scPools : FnScope ["_law_box", "_law_first", "_law_second", "_law_third"] ["_law_box"] (defScope sPools) := ⟨rfl, rfl, rfl, by decide +kernel, rfl, by decide +kernel, by decide +kernel⟩
theorem ok_pools {f : Addr} {fd : FuncData} (F : Fun K "_law_pools" "_law_pools" sPools f fd) (T : TDraw K mg) : FnOk P w K mg base CX0 3 f fd ["_law_box"] spPools := by
  refine F.ok scPools (fun vs H Q E h => ?_) (fun cdv A outer s H vs Q E hr h => ?_)
  · obtain ⟨b, rfl, _⟩ := h
    rfl
  · obtain ⟨b, rfl, ⟨x, y, hB, hb⟩, k⟩ := h
    refine ⟨_, pss_cons (ps_set (i := 1) scPools.nd rfl (Or.inl rfl) (pe_lst (pa_cons (pe_lst (pa_cons pe_str (pa_cons pe_str (pa_cons pe_str pa_nil)))) (pa_cons (pe_lst (pa_cons pe_str (pa_cons pe_str (pa_cons pe_str (pa_cons pe_str pa_nil))))) (pa_cons (pe_lst (pa_cons pe_str (pa_cons pe_str pa_nil))) (pa_cons (pe_lst (pa_cons pe_str (pa_cons pe_str pa_nil))) pa_nil))))))
      (pss_cons (ps_set (i := 2) scPools.nd rfl (Or.inl rfl) (pe_lst (pa_cons (pe_lst (pa_cons pe_str (pa_cons pe_str (pa_cons pe_str pa_nil)))) (pa_cons (pe_lst (pa_cons pe_str (pa_cons pe_str (pa_cons pe_str (pa_cons pe_str pa_nil))))) (pa_cons (pe_lst (pa_cons pe_str (pa_cons pe_str pa_nil))) (pa_cons (pe_lst (pa_cons pe_str (pa_cons pe_str pa_nil))) pa_nil))))))
      (pss_cons (ps_set (i := 3) scPools.nd rfl (Or.inl rfl) (pe_lst (pa_cons (pe_lst (pa_cons pe_str (pa_cons pe_str (pa_cons pe_str pa_nil)))) (pa_cons (pe_lst (pa_cons pe_str (pa_cons pe_str (pa_cons pe_str (pa_cons pe_str pa_nil))))) (pa_cons (pe_lst (pa_cons pe_str (pa_cons pe_str pa_nil))) (pa_cons (pe_lst (pa_cons pe_str (pa_cons pe_str pa_nil))) pa_nil))))))
      (pss_one (ps_ret (pe_call T.okOne hr rfl T.one.m T.one.F.kp T.one.b .nil pass0 (pa_cons (pv 0) (pa_cons (pe_lst (pa_cons (pv 1) (pa_cons (pv 2) (pa_cons (pv 3) pa_nil)))) pa_nil))))))), ?_⟩
    refine ⟨(by show 3 ≤ sizeLine; decide), fun a00 h1 => ?_⟩
    refine ⟨(by show 4 ≤ sizeLine; decide), fun a01 h2 => ?_⟩
    refine ⟨(by show 2 ≤ sizeLine; decide), fun a02 h3 => ?_⟩
    refine ⟨(by show 2 ≤ sizeLine; decide), fun a03 h4 => ?_⟩
    refine ⟨(by show 4 ≤ sizeLine; decide), fun p0 h5 => ?_⟩
    refine ⟨(by show 3 ≤ sizeLine; decide), fun a10 h6 => ?_⟩
    refine ⟨(by show 4 ≤ sizeLine; decide), fun a11 h7 => ?_⟩
    refine ⟨(by show 2 ≤ sizeLine; decide), fun a12 h8 => ?_⟩
    refine ⟨(by show 2 ≤ sizeLine; decide), fun a13 h9 => ?_⟩
    refine ⟨(by show 4 ≤ sizeLine; decide), fun p1 h10 => ?_⟩
    refine ⟨(by show 3 ≤ sizeLine; decide), fun a20 h11 => ?_⟩
    refine ⟨(by show 4 ≤ sizeLine; decide), fun a21 h12 => ?_⟩
    refine ⟨(by show 2 ≤ sizeLine; decide), fun a22 h13 => ?_⟩
    refine ⟨(by show 2 ≤ sizeLine; decide), fun a23 h14 => ?_⟩
    refine ⟨(by show 4 ≤ sizeLine; decide), fun p2 h15 => ?_⟩
    refine ⟨_, rfl, _, rfl, _, rfl, _, rfl, (by show 3 ≤ sizeLine; decide), fun q h16 => ?_⟩
    have hbq := fun o => Same.new (o := o) h16 b _ (Same.new h15 b _ (Same.new h14 b _ (Same.new h13 b _ (Same.new h12 b _ (Same.new h11 b _ (Same.new h10 b _ (Same.new h9 b _ (Same.new h8 b _ (Same.new h7 b _ (Same.new h6 b _ (Same.new h5 b _ (Same.new h4 b _ (Same.new h3 b _ (Same.new h2 b _ (Same.new h1 b _ hb)))))))))))))))
    have kq : ∀ o, Kp b H _ := fun o => ((((((((((((((((Kp.refl b H).new h1).new h2).new h3).new h4).new h5).new h6).new h7).new h8).new h9).new h10).new h11).new h12).new h13).new h14).new h15).new (o := o) h16
    have f_a00 : H a00 = none := h1
    have f_a01 : H a01 = none := Same.free (Same.new h1) h2
    have f_a02 : H a02 = none := Same.free ((Same.new h1).trans (Same.new h2)) h3
    have f_a03 : H a03 = none := Same.free (((Same.new h1).trans (Same.new h2)).trans (Same.new h3)) h4
    have f_p0 : H p0 = none := Same.free ((((Same.new h1).trans (Same.new h2)).trans (Same.new h3)).trans (Same.new h4)) h5
    have f_a10 : H a10 = none := Same.free (((((Same.new h1).trans (Same.new h2)).trans (Same.new h3)).trans (Same.new h4)).trans (Same.new h5)) h6
    have f_a11 : H a11 = none := Same.free ((((((Same.new h1).trans (Same.new h2)).trans (Same.new h3)).trans (Same.new h4)).trans (Same.new h5)).trans (Same.new h6)) h7
    have f_a12 : H a12 = none := Same.free (((((((Same.new h1).trans (Same.new h2)).trans (Same.new h3)).trans (Same.new h4)).trans (Same.new h5)).trans (Same.new h6)).trans (Same.new h7)) h8
    have f_a13 : H a13 = none := Same.free ((((((((Same.new h1).trans (Same.new h2)).trans (Same.new h3)).trans (Same.new h4)).trans (Same.new h5)).trans (Same.new h6)).trans (Same.new h7)).trans (Same.new h8)) h9
    have f_p1 : H p1 = none := Same.free (((((((((Same.new h1).trans (Same.new h2)).trans (Same.new h3)).trans (Same.new h4)).trans (Same.new h5)).trans (Same.new h6)).trans (Same.new h7)).trans (Same.new h8)).trans (Same.new h9)) h10
    have f_a20 : H a20 = none := Same.free ((((((((((Same.new h1).trans (Same.new h2)).trans (Same.new h3)).trans (Same.new h4)).trans (Same.new h5)).trans (Same.new h6)).trans (Same.new h7)).trans (Same.new h8)).trans (Same.new h9)).trans (Same.new h10)) h11
    have f_a21 : H a21 = none := Same.free (((((((((((Same.new h1).trans (Same.new h2)).trans (Same.new h3)).trans (Same.new h4)).trans (Same.new h5)).trans (Same.new h6)).trans (Same.new h7)).trans (Same.new h8)).trans (Same.new h9)).trans (Same.new h10)).trans (Same.new h11)) h12
    have f_a22 : H a22 = none := Same.free ((((((((((((Same.new h1).trans (Same.new h2)).trans (Same.new h3)).trans (Same.new h4)).trans (Same.new h5)).trans (Same.new h6)).trans (Same.new h7)).trans (Same.new h8)).trans (Same.new h9)).trans (Same.new h10)).trans (Same.new h11)).trans (Same.new h12)) h13
    have f_a23 : H a23 = none := Same.free (((((((((((((Same.new h1).trans (Same.new h2)).trans (Same.new h3)).trans (Same.new h4)).trans (Same.new h5)).trans (Same.new h6)).trans (Same.new h7)).trans (Same.new h8)).trans (Same.new h9)).trans (Same.new h10)).trans (Same.new h11)).trans (Same.new h12)).trans (Same.new h13)) h14
    have f_p2 : H p2 = none := Same.free ((((((((((((((Same.new h1).trans (Same.new h2)).trans (Same.new h3)).trans (Same.new h4)).trans (Same.new h5)).trans (Same.new h6)).trans (Same.new h7)).trans (Same.new h8)).trans (Same.new h9)).trans (Same.new h10)).trans (Same.new h11)).trans (Same.new h12)).trans (Same.new h13)).trans (Same.new h14)) h15
    refine ⟨b, q, _, rfl, ⟨x, y, hB, hbq _⟩, SqL.of upd_same, (ne_of_none ((Same.new h15 b _ (Same.new h14 b _ (Same.new h13 b _ (Same.new h12 b _ (Same.new h11 b _ (Same.new h10 b _ (Same.new h9 b _ (Same.new h8 b _ (Same.new h7 b _ (Same.new h6 b _ (Same.new h5 b _ (Same.new h4 b _ (Same.new h3 b _ (Same.new h2 b _ (Same.new h1 b _ hb)))))))))))))))) h16).symm, (by show 0 < 3; decide), (by show 3 < 1000000; decide), fun v H' hv hB' hk _ => ?_⟩
    have g_a00 := hk a00 _ (Same.new h16 a00 _ (Same.new h15 a00 _ (Same.new h14 a00 _ (Same.new h13 a00 _ (Same.new h12 a00 _ (Same.new h11 a00 _ (Same.new h10 a00 _ (Same.new h9 a00 _ (Same.new h8 a00 _ (Same.new h7 a00 _ (Same.new h6 a00 _ (Same.new h5 a00 _ (Same.new h4 a00 _ (Same.new h3 a00 _ (Same.new h2 a00 _ upd_same))))))))))))))) (fun z => by rw [z, hb] at f_a00; cases f_a00)
    have g_a01 := hk a01 _ (Same.new h16 a01 _ (Same.new h15 a01 _ (Same.new h14 a01 _ (Same.new h13 a01 _ (Same.new h12 a01 _ (Same.new h11 a01 _ (Same.new h10 a01 _ (Same.new h9 a01 _ (Same.new h8 a01 _ (Same.new h7 a01 _ (Same.new h6 a01 _ (Same.new h5 a01 _ (Same.new h4 a01 _ (Same.new h3 a01 _ upd_same)))))))))))))) (fun z => by rw [z, hb] at f_a01; cases f_a01)
    have g_a02 := hk a02 _ (Same.new h16 a02 _ (Same.new h15 a02 _ (Same.new h14 a02 _ (Same.new h13 a02 _ (Same.new h12 a02 _ (Same.new h11 a02 _ (Same.new h10 a02 _ (Same.new h9 a02 _ (Same.new h8 a02 _ (Same.new h7 a02 _ (Same.new h6 a02 _ (Same.new h5 a02 _ (Same.new h4 a02 _ upd_same))))))))))))) (fun z => by rw [z, hb] at f_a02; cases f_a02)
    have g_a03 := hk a03 _ (Same.new h16 a03 _ (Same.new h15 a03 _ (Same.new h14 a03 _ (Same.new h13 a03 _ (Same.new h12 a03 _ (Same.new h11 a03 _ (Same.new h10 a03 _ (Same.new h9 a03 _ (Same.new h8 a03 _ (Same.new h7 a03 _ (Same.new h6 a03 _ (Same.new h5 a03 _ upd_same)))))))))))) (fun z => by rw [z, hb] at f_a03; cases f_a03)
    have g_p0 := hk p0 _ (Same.new h16 p0 _ (Same.new h15 p0 _ (Same.new h14 p0 _ (Same.new h13 p0 _ (Same.new h12 p0 _ (Same.new h11 p0 _ (Same.new h10 p0 _ (Same.new h9 p0 _ (Same.new h8 p0 _ (Same.new h7 p0 _ (Same.new h6 p0 _ upd_same))))))))))) (fun z => by rw [z, hb] at f_p0; cases f_p0)
    have g_a10 := hk a10 _ (Same.new h16 a10 _ (Same.new h15 a10 _ (Same.new h14 a10 _ (Same.new h13 a10 _ (Same.new h12 a10 _ (Same.new h11 a10 _ (Same.new h10 a10 _ (Same.new h9 a10 _ (Same.new h8 a10 _ (Same.new h7 a10 _ upd_same)))))))))) (fun z => by rw [z, hb] at f_a10; cases f_a10)
    have g_a11 := hk a11 _ (Same.new h16 a11 _ (Same.new h15 a11 _ (Same.new h14 a11 _ (Same.new h13 a11 _ (Same.new h12 a11 _ (Same.new h11 a11 _ (Same.new h10 a11 _ (Same.new h9 a11 _ (Same.new h8 a11 _ upd_same))))))))) (fun z => by rw [z, hb] at f_a11; cases f_a11)
    have g_a12 := hk a12 _ (Same.new h16 a12 _ (Same.new h15 a12 _ (Same.new h14 a12 _ (Same.new h13 a12 _ (Same.new h12 a12 _ (Same.new h11 a12 _ (Same.new h10 a12 _ (Same.new h9 a12 _ upd_same)))))))) (fun z => by rw [z, hb] at f_a12; cases f_a12)
    have g_a13 := hk a13 _ (Same.new h16 a13 _ (Same.new h15 a13 _ (Same.new h14 a13 _ (Same.new h13 a13 _ (Same.new h12 a13 _ (Same.new h11 a13 _ (Same.new h10 a13 _ upd_same))))))) (fun z => by rw [z, hb] at f_a13; cases f_a13)
    have g_p1 := hk p1 _ (Same.new h16 p1 _ (Same.new h15 p1 _ (Same.new h14 p1 _ (Same.new h13 p1 _ (Same.new h12 p1 _ (Same.new h11 p1 _ upd_same)))))) (fun z => by rw [z, hb] at f_p1; cases f_p1)
    have g_a20 := hk a20 _ (Same.new h16 a20 _ (Same.new h15 a20 _ (Same.new h14 a20 _ (Same.new h13 a20 _ (Same.new h12 a20 _ upd_same))))) (fun z => by rw [z, hb] at f_a20; cases f_a20)
    have g_a21 := hk a21 _ (Same.new h16 a21 _ (Same.new h15 a21 _ (Same.new h14 a21 _ (Same.new h13 a21 _ upd_same)))) (fun z => by rw [z, hb] at f_a21; cases f_a21)
    have g_a22 := hk a22 _ (Same.new h16 a22 _ (Same.new h15 a22 _ (Same.new h14 a22 _ upd_same))) (fun z => by rw [z, hb] at f_a22; cases f_a22)
    have g_a23 := hk a23 _ (Same.new h16 a23 _ (Same.new h15 a23 _ upd_same)) (fun z => by rw [z, hb] at f_a23; cases f_a23)
    have g_p2 := hk p2 _ (Same.new h16 p2 _ upd_same) (fun z => by rw [z, hb] at f_p2; cases f_p2)
    have kp := (kq _).trans hk
    clear hk hbq kq h1 h2 h3 h4 h5 h6 h7 h8 h9 h10 h11 h12 h13 h14 h15 h16
    simp only [List.mem_cons, List.not_mem_nil, or_false] at hv
    rcases hv with rfl | rfl | rfl
    · exact k _ ⟨["c", "f", "r"], ["p", "pic", "fig", "text"], ["x", "y"], ["cat", "dog"]⟩ H' (List.mem_cons_self) hB' kp ⟨a00, a01, a02, a03, dif_new f_p0 g_p0, dif_new f_a00 g_a00, dif_new f_a01 g_a01, dif_new f_a02 g_a02, dif_new f_a03 g_a03⟩
    · exact k _ ⟨["a", "ab", "abc"], ["a", "aa", "ab", "b"], ["b", "bb"], ["a", "z"]⟩ H' (List.mem_cons_of_mem _ List.mem_cons_self) hB' kp ⟨a10, a11, a12, a13, dif_new f_p1 g_p1, dif_new f_a10 g_a10, dif_new f_a11 g_a11, dif_new f_a12 g_a12, dif_new f_a13 g_a13⟩
    · exact k _ ⟨["n", "nn", "m"], ["z", "y", "x", "w"], ["n", "o"], ["x", "n"]⟩ H' (List.mem_cons_of_mem _ (List.mem_cons_of_mem _ List.mem_cons_self)) hB' kp ⟨a20, a21, a22, a23, dif_new f_p2 g_p2, dif_new f_a20 g_a20, dif_new f_a21 g_a21, dif_new f_a22 g_a22, dif_new f_a23 g_a23⟩
end
end Pn

namespace Pn
open PySem L2
abbrev sCounters : Stmt := top 32
/-- counters as they stand: a list of pairs -/
def CsAt (H : Hp) (c : Addr) (cs : List (Str × Str)) : Prop := ∃ ts : List Addr, H c = some (.lst (ts.map V.ref)) ∧ Paired (fun t p => H t = some (.tup [.str p.1, .str p.2])) ts cs
/-- each upper one stands ahead -/
def TreeOk (cs : List (Str × Str)) : Prop := ∀ (i : Nat) (p : Str × Str), cs[i]? = some p → p.2 = "" ∨ p.2 ∈ (cs.take i).map (·.1)
theorem tree_snoc {cs : List (Str × Str)} {p : Str × Str} (h : TreeOk cs) (hp : p.2 = "" ∨ p.2 ∈ cs.map (·.1)) : TreeOk (cs ++ [p]) := fun i q hq => by
  by_cases hi : i < cs.length
  · rw [List.getElem?_append_left hi] at hq
    rcases h i q hq with e | e
    · exact .inl e
    · refine .inr ?_
      rw [List.take_append_of_le_length (by omega)]
      exact e
  · rw [List.getElem?_append_right (by omega)] at hq
    have h0 : i - cs.length = 0 := by
      cases h1 : i - cs.length with
      | zero => rfl
      | succ n => rw [h1] at hq; simp at hq
    rw [h0] at hq
    have e : p = q := by simpa using hq
    subst e
    rcases hp with e | e
    · exact .inl e
    · refine .inr ?_
      rw [show i = cs.length by omega, List.take_left']
      · exact e
      · rfl
theorem paired_mono {α β : Type} {R S : α → β → Prop} (h : ∀ a b, R a b → S a b) : ∀ {l : List α} {m : List β}, Paired R l m → Paired S l m
  | _, _, .nil => .nil
  | _, _, .cons a b => .cons (h _ _ a) (paired_mono h b)
theorem paired_snoc {α β : Type} {R : α → β → Prop} {x : α} {y : β} (h : R x y) : ∀ {l : List α} {m : List β}, Paired R l m → Paired R (l ++ [x]) (m ++ [y])
  | _, _, .nil => .cons h .nil
  | _, _, .cons a b => .cons a (paired_snoc h b)
theorem paired_at {α β : Type} {R : α → β → Prop} : ∀ {l : List α} {m : List β} {i : Nat} {x : α}, Paired R l m → l[i]? = some x → ∃ y, m[i]? = some y ∧ R x y
  | _, _, _, _, .nil, h => by simp at h
  | _, _, 0, _, .cons a _, h => by
    have e := Option.some.inj h
    subst e
    exact ⟨_, rfl, a⟩
  | _, _, i + 1, _, .cons _ b, h => paired_at (i := i) b h
theorem paired_len {α β : Type} {R : α → β → Prop} : ∀ {l : List α} {m : List β}, Paired R l m → l.length = m.length
  | _, _, .nil => rfl
  | _, _, .cons _ b => by rw [List.length_cons, List.length_cons, paired_len b]
section
variable {P : Program} {w : World} {K : PySem.W.Frag} {mg : Str → Option Value} {base : Heap}
structure TCnt (K : PySem.W.Frag) (mg : Str → Option Value) : Type extends TDraw K mg where
  mR : mg "range" = none
  counters : At K mg "_law_counters" sCounters ["_law_box", "_law_pool", "_law_many"]
def spCounters (K : PySem.W.Frag) : Sp := fun vs H Q _ => ∃ (b p : Addr) (m : Nat) (l : List Str), vs = [.ref b, .ref p, .int (m : Int)] ∧ BoxAt H b ∧ SqL K H p (l.map V.str) ∧ p ≠ b ∧ 0 < m ∧ m ≤ l.length ∧ l.length ≤ 100 ∧
  ∀ (c : Addr) (cs : List (Str × Str)) (H' : Hp), Kp b H H' → BoxAt H' b → CsAt (dif H H') c cs → 0 < cs.length → cs.length ≤ m → cs.map (·.1) = l.take cs.length → TreeOk cs → Q (.ref c) H'
theorem scCounters : FnScope ["_law_box", "_law_pool", "_law_many", "_law_found", "_law_at", "_law_uppers", "_law_name", "_law_upper"] ["_law_box", "_law_pool", "_law_many"] (defScope sCounters) := ⟨rfl, rfl, rfl, by decide +kernel, rfl, by decide +kernel, by decide +kernel⟩
theorem ok_counters (T : TCnt K mg) : FnOk P w K mg base CX0 3 T.counters.f T.counters.fd ["_law_box", "_law_pool", "_law_many"] (spCounters K) := by
  refine T.counters.F.ok scCounters (fun vs H Q E h => ?_) (fun cdv A outer s H vs Q E hr h => ?_)
  · obtain ⟨b, p, m, l, rfl, _⟩ := h
    rfl
  · obtain ⟨b, p, m, l, rfl, hB, hp, npb, m0, m1, hl, q⟩ := h
    refine ⟨_, pss_cons (ps_set (i := 3) scCounters.nd rfl (Or.inl rfl) (pe_lst pa_nil))
      (pss_cons (ps_for PassesOwn.never rfl (pi_range1 rfl T.mR (pa_cons (pe_op op_add pe_int (pe_call T.okChoose (hr.mono (by decide)) rfl T.choose.m T.choose.F.kp T.choose.b .nil pass0 (pa_cons (pv 0) (pa_cons (pv 2) pa_nil)))) pa_nil)) (pg_name (i := 4) scCounters.nd rfl (Or.inl rfl))
        (pss_cons (ps_set (i := 5) scCounters.nd rfl (Or.inl rfl) (pe_op op_cat (pe_lst (pa_cons pe_str pa_nil)) (pe_lc (own := [("_law_name", 6), ("_law_upper", 7)]) (g := gTup K 2 (gCons (gName 6) (gCons (gName 7) gNil))) (tt := tYes) (by rfl) scCounters.nd (pi_list (pv 3))
            (blkOk_by (N := ["_law_box", "_law_pool", "_law_many", "_law_found", "_law_at", "_law_uppers", "_law_name", "_law_upper"]) (sc := defScope sCounters) (by decide +kernel))
            (fun _ _ _ _ _ => pg_tup (by rfl) (pgs_cons (pg_name (i := 6) scCounters.nd rfl (Or.inl rfl)) (pgs_cons (pg_name (i := 7) scCounters.nd rfl (Or.inl rfl)) pgs_nil))) (fun _ _ _ _ _ => pts_nil) (fun _ _ _ _ _ => pv 6))))
        (pss_one (ps_expr (pe_bm PySem.F.plainAttrs_list PySem.F.slot_list_append PySem.F.type_list_append mt_append (pv 3) (pa_cons (pe_tup (pa_cons (pe_ix ix_list (pv 1) (pv 4) (fun _ _ => rfl)) (pa_cons (pe_call T.okOne (hr.mono (by decide)) rfl T.one.m T.one.F.kp T.one.b .nil pass0 (pa_cons (pv 0) (pa_cons (pe_op op_cat (pv 5) (pe_slice sl_list (pv 5) (po_some pe_int) po_none)) pa_nil))) pa_nil))) pa_nil))))))
      (pss_one (ps_ret (pv 3)))), ?_⟩
    refine ⟨Nat.zero_le _, fun F hF => ?_⟩
    obtain ⟨xb, yb, hxy, hb⟩ := id hB
    have hFb : F ≠ b := (ne_of_none hb hF).symm
    refine ⟨_, rfl, _, rfl, b, (m : Int), rfl, ⟨xb, yb, hxy, Same.new hF b _ hb⟩, by omega, by omega, fun r H2 r0 r1 hB2 kp2 _ => ?_⟩
    have kpH2 : Kp b H H2 := ((Kp.refl b H).new hF).trans kp2
    have hF2 : H2 F = some (.lst []) := kp2 F _ upd_same hFb
    refine ⟨_, _, rfl, rfl, _, rfl, by omega, by omega, for_range (lo := 0) (fun i σ Hi => ∃ x4 x5 x6 x7 cs ts, σ = [some (.ref b), some (.ref p), some (.int (m : Int)), some (.ref F), x4, x5, x6, x7] ∧ Kp b H Hi ∧ BoxAt Hi b ∧ Hi F = some (.lst ((ts : List Addr).map V.ref)) ∧
      Paired (fun t p => dif H Hi t = some (.tup [.str p.1, .str p.2])) ts cs ∧ cs.length = i ∧ cs.map (·.1) = l.take i ∧ TreeOk cs) ⟨_, _, _, _, [], [], rfl, kpH2, hB2, hF2, .nil, rfl, rfl, fun i p h => by simp at h⟩ (fun i σ Hi hi hP => ?turn) (fun σ Hi hP => ?fin)⟩
    case fin =>
      obtain ⟨x4, x5, x6, x7, cs, ts, rfl, kp, hBi, hFi, hpd, hlen, htk, hT⟩ := hP
      refine ⟨_, rfl, ?_⟩
      have hn : cs.length = (1 + r).toNat := hlen
      exact q F cs Hi kp hBi ⟨ts, dif_new hF hFi, hpd⟩ (by omega) (by omega) (by rw [hn]; exact htk) hT
    case turn =>
      obtain ⟨x4, x5, x6, x7, cs, ts, rfl, kp, ⟨xi, yi, hxyi, hbi⟩, hFi, hpd, hlen, htk, hT⟩ := hP
      have hi2 : i < m := by omega
      have hil : i < l.length := by omega
      have hts : ts.length = i := by rw [paired_len hpd, hlen]
      have hpi : SqL K Hi p (l.map V.str) := kp.sql npb hp
      refine ⟨(by show 1 ≤ sizeLine; decide), fun u0 hu0 => ?_⟩
      have hF3 := fun o => Same.new (o := o) hu0 F _ hFi
      refine ⟨_, rfl, F, rfl, ⟨_, SqL.of (hF3 _)⟩, fun D hD => lc_list (K := K) (a := F) (xs := ts.map V.ref) (fun j Hj => Hj = upd (upd Hi u0 (.lst [.str ""])) D (.lst ((List.range j).map fun j => .str ((cs.map (·.1)).getD j "")))) rfl (fun j Hj _ hP => ?stays) (fun j x Hj hj hP => ?cturn) (fun Hj hP => ?cend)⟩
      case stays =>
        subst hP
        exact SqL.of (Same.new hD F _ (hF3 _))
      case cturn =>
        subst hP
        obtain ⟨t, ht, rfl⟩ : ∃ t, ts[j]? = some t ∧ x = V.ref t := by
          rw [List.getElem?_map] at hj
          cases hk : ts[j]? with
          | none => rw [hk] at hj; cases hj
          | some t => rw [hk] at hj; exact ⟨t, rfl, (Option.some.inj hj).symm⟩
        obtain ⟨pr, hpr, htt⟩ := paired_at hpd ht
        have htH := (dif_eq.mp htt).2
        have htD := Same.new (o := .lst ((List.range j).map fun j => .str ((cs.map (·.1)).getD j ""))) hD t _ (Same.new hu0 t _ htH)
        have hjl : j < ts.length := (List.getElem?_eq_some_iff.mp ht).1
        have fin := lc_step (H1 := upd Hi u0 (.lst [.str ""])) (D := D) (f := fun j => .str ((cs.map (·.1)).getD j "")) (i := j) (by omega)
        have hg : (cs.map (·.1)).getD j ("" : Str) = pr.1 := by
          rw [List.getD_eq_getElem?_getD, List.getElem?_map, hpr]
          rfl
        rw [hg] at fin
        exact ⟨t, _, rfl, SqT.of htD, rfl, _, _, rfl, _, _, rfl, rfl, rfl, _, rfl, fin⟩
      case cend =>
        subst hP
        have hnames : ((List.range (ts.map V.ref).length).map fun j => V.str ((cs.map (·.1)).getD j "")) = (cs.map (·.1)).map V.str := by
          apply List.ext_getElem
          · simp [hts, hlen]
          · intro k h1 h2
            have h3 : k < cs.length := by simpa using h2
            simp [List.getD_eq_getElem?_getD, List.getElem?_eq_getElem h3]
        rw [hnames]
        generalize hG : upd (upd Hi u0 (.lst [.str ""])) D (.lst ((cs.map (·.1)).map V.str)) = G
        have sG : Same Hi G := by rw [← hG]; exact (Same.new hu0).trans (Same.new hD)
        have gu : G u0 = some (.lst [.str ""]) := by rw [← hG]; exact Same.new hD u0 _ upd_same
        have gD : G D = some (.lst ((cs.map (·.1)).map V.str)) := by rw [← hG]; exact upd_same
        clear hG
        have hln : ((cs.map (·.1)).map V.str).length = i := by rw [List.length_map, List.length_map, hlen]
        refine ⟨u0, D, _, _, rfl, rfl, gu, gD, Nat.le_trans (show _ ≤ 101 by rw [hln]; simp; omega) (by decide), fun U hU => ?_⟩
        -- found.append((pool[at], one_of(box, uppers + uppers[1:])))
        have hul : ([.str ""] ++ (cs.map (·.1)).map V.str : List V).length = i + 1 := by rw [List.length_append, hln]; simp; omega
        have hp5 : ∀ o, SqL K (upd G U o) p (l.map V.str) := fun o => (Same.new hU).seq (sG.seq hpi)
        have hF5 : ∀ o, (upd G U o) F = some (.lst (ts.map V.ref)) := fun o => Same.new hU F _ (sG F _ hFi)
        have hb5 : ∀ o, (upd G U o) b = some (.lst [.int xi, .int yi]) := fun o => Same.new hU b _ (sG b _ hbi)
        refine ⟨_, rfl, .inl ⟨rfl, _, SqL.of (hF5 _)⟩, _, rfl, _, rfl, p, _, _, .str l[i], rfl, rfl, hp5 _, ?at_, _, rfl, _, rfl, _, rfl, 1, rfl, U, _, rfl, SqL.of upd_same, fun S hS => ?_⟩
        case at_ =>
          rw [Int.zero_add]
          exact atI_nat (by rw [List.getElem?_map, List.getElem?_eq_getElem hil]; rfl)
        have hcl := cutV_length ([.str ""] ++ (cs.map (·.1)).map V.str) (some 1) none
        refine ⟨U, S, _, _, rfl, rfl, Same.new hS U _ upd_same, upd_same, Nat.le_trans (show _ ≤ 202 by rw [hul] at hcl ⊢; omega) (by decide), fun W hW => ?_⟩
        have hb6 := fun o => Same.new (o := o) hW b _ (Same.new hS b _ (hb5 _))
        refine ⟨b, W, _, rfl, ⟨xi, yi, hxyi, hb6 _⟩, SqL.of upd_same, (ne_of_none (Same.new hS b _ (hb5 _)) hW).symm, by rw [List.length_append, hul]; omega, by rw [List.length_append, hul]; rw [hul] at hcl; omega, fun v H' hv hB' hk' _ => ?_⟩
        have hv2 : v ∈ ([.str ""] ++ (cs.map (·.1)).map V.str : List V) := by
          rcases List.mem_append.mp hv with h | h
          · exact h
          · unfold cutV at h
            exact List.mem_of_mem_drop (List.mem_of_mem_take h)
        obtain ⟨uu, rfl, huu⟩ : ∃ uu : Str, v = .str uu ∧ (uu = "" ∨ uu ∈ cs.map (·.1)) := by
          rcases List.mem_append.mp hv2 with h | h
          · exact ⟨"", List.mem_singleton.mp h, .inl rfl⟩
          · obtain ⟨uu, h1, h2⟩ := List.mem_map.mp h
            exact ⟨uu, h2.symm, .inr h1⟩
        refine ⟨(by show 2 ≤ sizeLine; decide), fun t ht => ?_⟩
        -- all that stood in Hi but the box stands
        have kk : Kp b Hi H' := (((Kp.same sG).new hU).new hS |>.new hW).trans hk'
        obtain ⟨xe, ye, hxye, hbe⟩ := id hB'
        have kkt : Kp b Hi (upd H' t (.tup [.str l[i], .str uu])) := kk.new ht
        have hFt : upd H' t (.tup [.str l[i], .str uu]) F = some (.lst (ts.map V.ref)) := kkt F _ hFi hFb
        have htH : H t = none := (kp.trans kk).mo hbe t ht
        have hFne : F ≠ t := fun z => by
          have z2 := kk F _ hFi hFb
          rw [z, ht] at z2
          cases z2
        refine ⟨F, ts.map V.ref, .ref t, rfl, rfl, hFt, small1000 (by rw [List.length_map]; omega), ?_⟩
        refine ⟨_, _, _, _, cs ++ [(l[i], uu)], ts ++ [t], rfl, fun a o ea na => ?_, ⟨xe, ye, hxye, ?_⟩, ?_, ?_, ?_, ?_, tree_snoc hT huu⟩
        · rw [upd_ne (fun z => by rw [z, hF] at ea; cases ea)]
          exact (kp.trans kkt) a o ea na
        · rw [upd_ne hFb.symm]
          exact Same.new ht b _ hbe
        · rw [upd_same, List.map_append]
          rfl
        · refine paired_snoc ?_ (paired_mono (fun a pr e => ?_) hpd)
          · refine dif_new htH ?_
            rw [upd_ne hFne.symm]
            exact upd_same
          · obtain ⟨e0, e1⟩ := dif_eq.mp e
            have nab : a ≠ b := fun z => by rw [z, hb] at e0; cases e0
            refine dif_new e0 ?_
            have naF : a ≠ F := fun z => by
              rw [z, hFi] at e1
              cases e1
            rw [upd_ne naF]
            exact kkt a _ e1 nab
        · rw [List.length_append, hlen]
          rfl
        · rw [List.map_append, htk, List.take_add_one, List.getElem?_eq_getElem hil]
          rfl
end
end Pn

namespace Pn
open PySem L2
abbrev sLRow : Stmt := top 33
/-- a row as the tuple that the law draws -/
def rowTup : RowD → List V
  | .note c l => [.str "note", .str c, .str l]
  | .skip c n => [.str "skip", .str c, .int (n : Int)]
  | .set c n => [.str "set", .str c, .int (n : Int)]
  | .keep c => [.str "keep", .str c]
  | .back c => [.str "back", .str c]
  | .ref c => [.str "ref", .str c]
  | .put c => [.str "put", .str c]
  | .opn c => [.str "open", .str c]
def rowFine (d : Pool) (cs : List (Str × Str)) (parts : List Str) : RowD → Prop
  | .note c l => c ∈ cs.map (·.1) ∧ (l = "" ∨ l ∈ d.l)
  | .skip c n => c ∈ cs.map (·.1) ∧ 1 ≤ n ∧ n ≤ 3
  | .set c n => c ∈ cs.map (·.1) ∧ n ≤ 3
  | .keep c => c ∈ cs.map (·.1)
  | .back c => c ∈ cs.map (·.1)
  | .ref _ => False
  | .put p => p ∈ parts
  | .opn x => x ∈ d.x
theorem PoolAt.mono {H H' : Hp} {a : Addr} {d : Pool} (s : Same H H') (h : PoolAt H a d) : PoolAt H' a d := by
  obtain ⟨a0, a1, a2, a3, e, e0, e1, e2, e3⟩ := h
  exact ⟨a0, a1, a2, a3, s _ _ e, s _ _ e0, s _ _ e1, s _ _ e2, s _ _ e3⟩
theorem CsAt.mono {H H' : Hp} {a : Addr} {cs : List (Str × Str)} (s : Same H H') (h : CsAt H a cs) : CsAt H' a cs := by
  obtain ⟨ts, e, p⟩ := h
  exact ⟨ts, s _ _ e, paired_mono (fun _ _ z => s _ _ z) p⟩
theorem dif_hid {b : Addr} {H H' : Hp} {o : HO} (hb : H b = some o) : Same (dif H H') (hid H' b) := fun a u e => by
  obtain ⟨e0, e1⟩ := dif_eq.mp e
  exact hid_get e1 (fun z => by rw [z, hb] at e0; cases e0)
theorem hid_ne {H : Hp} {b a : Addr} {o : HO} (h : hid H b a = some o) : a ≠ b := fun z => by
  unfold hid at h
  rw [if_pos z] at h
  cases h
theorem newAt {b t : Addr} {H Hx : Hp} {o : HO} (k : Kp b H Hx) (hx : BoxAt Hx b) (ht : Hx t = none) : dif H (upd Hx t o) t = some o := by
  obtain ⟨_, _, _, g⟩ := hx
  exact dif_new (k.mo g t ht) upd_same
theorem BoxAt.new {b t : Addr} {H : Hp} {o : HO} (h : BoxAt H b) (ht : H t = none) : BoxAt (upd H t o) b := by
  obtain ⟨x, y, e, g⟩ := h
  exact ⟨x, y, e, Same.new ht b _ g⟩
theorem BoxAt.ne {b t : Addr} {H : Hp} (h : BoxAt H b) (ht : H t = none) : t ≠ b := fun z => by
  obtain ⟨x, y, e, g⟩ := h
  rw [z, g] at ht
  cases ht
theorem strsL_nil (l : List Str) : PyData.eqv (.list (l.map PyData.str)) (.list []) = l.isEmpty := by
  cases l <;> simp [PyData.eqv, PyData.eqvAll]
theorem dp_strL {K : PySem.W.Frag} {H : Hp} : ∀ l : List Str, DpAll K H (l.map V.str) (l.map PyData.str)
  | [] => .nil
  | x :: l => .cons (.str x) (dp_strL l)
theorem strL_sh {l : List Str} (h : ∀ x ∈ l, PyData.strOk x = true) : SeqAt.shaped (.list (l.map PyData.str)) = true := by
  have q : ∀ m : List Str, (∀ x ∈ m, PyData.strOk x = true) → PyData.canLayAll0 (m.map PyData.str) = true ∧ PyData.depthAll (m.map PyData.str) = 0 := by
    intro m
    induction m with
    | nil => intro _; exact ⟨by simp [PyData.canLayAll0], by simp [PyData.depthAll]⟩
    | cons x m ih =>
      intro h
      have q := ih fun y hy => h y (List.mem_cons_of_mem _ hy)
      refine ⟨?_, by simp [PyData.depthAll, PyData.depth, q.2]⟩
      show (PyData.strOk x && PyData.canLayAll0 (m.map PyData.str)) = true
      rw [h x List.mem_cons_self, q.1]
      rfl
  have q := q l h
  show (PyData.canLay0 (.list (l.map PyData.str)) && decide (PyData.depth (.list (l.map PyData.str)) ≤ 64)) = true
  rw [Bool.and_eq_true]
  refine ⟨by simp only [PyData.canLay0]; exact q.1, decide_eq_true ?_⟩
  simp only [PyData.depth, q.2]
  decide
theorem name_ok {z : Str} (h : nameS z = true) : PyData.strOk z = true ∧ z.length ≤ 4 := by
  unfold nameS at h
  rw [Bool.and_eq_true, Bool.and_eq_true, Bool.and_eq_true] at h
  obtain ⟨⟨_, h2, h3⟩, h4⟩ := h
  refine ⟨strOk_tl.mpr fun c hc => ?_, by have := of_decide_eq_true h3; omega⟩
  have q := List.all_eq_true.mp h4 c hc
  unfold lok at q
  rw [Bool.and_eq_true] at q
  have := of_decide_eq_true q.2
  omega
section
variable {P : Program} {w : World} {K : PySem.W.Frag} {mg : Str → Option Value} {base : Heap}
structure TDRow (K : PySem.W.Frag) (mg : Str → Option Value) : Type extends TCnt K mg where
  pools : At K mg "_law_pools" sPools ["_law_box"]
  row : At K mg "_law_row" sLRow ["_law_box", "_law_pools_here", "_law_counters_here", "_law_parts"]
def spDRow (K : PySem.W.Frag) : Sp := fun vs H Q _ => ∃ (b pp cc ps : Addr) (d : Pool) (cs : List (Str × Str)) (parts : List Str), vs = [.ref b, .ref pp, .ref cc, .ref ps] ∧ BoxAt H b ∧ PoolAt (hid H b) pp d ∧ d ∈ poolsD ∧ CsAt (hid H b) cc cs ∧ 0 < cs.length ∧ cs.length ≤ 100 ∧
  SqL K H ps (parts.map V.str) ∧ ps ≠ b ∧ parts.length ≤ 100 ∧ (∀ x ∈ parts, nameS x = true) ∧
  ∀ (t : Addr) (r : RowD) (H' : Hp), Kp b H H' → BoxAt H' b → dif H H' t = some (.tup (rowTup r)) → rowFine d cs parts r → Q (.ref t) H'
theorem scLRow : FnScope ["_law_box", "_law_pools_here", "_law_counters_here", "_law_parts", "_law_counter", "_law_form", "_law_label"] ["_law_box", "_law_pools_here", "_law_counters_here", "_law_parts"] (defScope sLRow) := ⟨rfl, rfl, rfl, by decide +kernel, rfl, by decide +kernel, by decide +kernel⟩
theorem ok_drow (T : TDRow K mg) : FnOk P w K mg base CX0 3 T.row.f T.row.fd ["_law_box", "_law_pools_here", "_law_counters_here", "_law_parts"] (spDRow K) := by
  refine T.row.F.ok scLRow (fun vs H Q E h => ?_) (fun cdv A outer s H vs Q E hr h => ?_)
  · obtain ⟨b, pp, cc, ps, d, cs, parts, rfl, _⟩ := h
    rfl
  · obtain ⟨b, pp, cc, ps, d, cs, parts, rfl, hB, hP, hd, hC, c0, c1, hS, npb, pl, pn, q⟩ := h
    refine ⟨_, pss_cons (ps_par (i := 4) (j := 5) (by rfl) scLRow.nd rfl rfl (by decide) rfl rfl (pa_cons (pe_ix ix_tup (pe_call T.okOne (hr.mono (by decide)) rfl T.one.m T.one.F.kp T.one.b .nil pass0 (pa_cons (pv 0) (pa_cons (pv 2) pa_nil))) pe_int (fun _ _ => rfl)) (pa_cons (pe_call T.okChoose (hr.mono (by decide)) rfl T.choose.m T.choose.F.kp T.choose.b .nil pass0 (pa_cons (pv 0) (pa_cons pe_int pa_nil))) pa_nil)) (by rfl))
      (pss_cons (ps_if (pt_cmpR op_lt (pv 5) pe_int (nomark _))
        (pss_cons (ps_set (i := 6) scLRow.nd rfl (Or.inl rfl) (pe_ifExp (pt_cmpR op_eq (pe_call T.okChoose (hr.mono (by decide)) rfl T.choose.m T.choose.F.kp T.choose.b .nil pass0 (pa_cons (pv 0) (pa_cons pe_int pa_nil))) pe_int (nomark _)) (pe_call T.okOne (hr.mono (by decide)) rfl T.one.m T.one.F.kp T.one.b .nil pass0 (pa_cons (pv 0) (pa_cons (pe_ix ix_list (pv 1) pe_int (fun _ _ => rfl)) pa_nil))) pe_str))
        (pss_one (ps_ret (pe_tup (pa_cons pe_str (pa_cons (pv 4) (pa_cons (pv 6) pa_nil))))))) pss_nil)
      (pss_cons (ps_if (pt_cmpR op_lt (pv 5) pe_int (nomark _))
        (pss_one (ps_ret (pe_call T.okOne (hr.mono (by decide)) rfl T.one.m T.one.F.kp T.one.b .nil pass0 (pa_cons (pv 0) (pa_cons (pe_lst (pa_cons (pe_tup (pa_cons pe_str (pa_cons (pv 4) (pa_cons (pe_op op_add pe_int (pe_call T.okChoose (hr.mono (by decide)) rfl T.choose.m T.choose.F.kp T.choose.b .nil pass0 (pa_cons (pv 0) (pa_cons pe_int pa_nil)))) pa_nil))))
          (pa_cons (pe_tup (pa_cons pe_str (pa_cons (pv 4) (pa_cons (pe_call T.okChoose (hr.mono (by decide)) rfl T.choose.m T.choose.F.kp T.choose.b .nil pass0 (pa_cons (pv 0) (pa_cons pe_int pa_nil))) pa_nil)))) pa_nil))) pa_nil))))) pss_nil)
      (pss_cons (ps_if (pt_cmpR op_lt (pv 5) pe_int (nomark _))
        (pss_one (ps_ret (pe_call T.okOne (hr.mono (by decide)) rfl T.one.m T.one.F.kp T.one.b .nil pass0 (pa_cons (pv 0) (pa_cons (pe_lst (pa_cons (pe_tup (pa_cons pe_str (pa_cons (pv 4) pa_nil))) (pa_cons (pe_tup (pa_cons pe_str (pa_cons (pv 4) pa_nil))) (pa_cons (pe_tup (pa_cons pe_str (pa_cons (pv 4) pa_nil))) pa_nil)))) pa_nil))))) pss_nil)
      (pss_cons (ps_if (PW.pt (pw_or (pt_cmpR op_eq (pv 5) pe_int (nomark _)) (pw_or1 (pt_cmpR (op_eqD hr.units) (pv 3) (pe_lst pa_nil) (nomark _)))))
        (pss_one (ps_ret (pe_tup (pa_cons pe_str (pa_cons (pe_call T.okOne (hr.mono (by decide)) rfl T.one.m T.one.F.kp T.one.b .nil pass0 (pa_cons (pv 0) (pa_cons (pe_ix ix_list (pv 1) pe_int (fun _ _ => rfl)) pa_nil))) pa_nil))))) pss_nil)
      (pss_one (ps_ret (pe_tup (pa_cons pe_str (pa_cons (pe_call T.okOne (hr.mono (by decide)) rfl T.one.m T.one.F.kp T.one.b .nil pass0 (pa_cons (pv 0) (pa_cons (pv 3) pa_nil))) pa_nil))))))))), ?_⟩
    obtain ⟨ts, hcl, hpd⟩ := hC
    have fl := pool_fine d hd
    have htl : ts.length = cs.length := paired_len hpd
    refine ⟨_, rfl, _, rfl, b, cc, ts.map V.ref, rfl, hB, SqL.of (hid_sub _ _ hcl), hid_ne hcl, by rw [List.length_map]; omega, by rw [List.length_map]; omega, fun v H1 hv hB1 k1 _ => ?_⟩
    obtain ⟨t, htm, rfl⟩ := List.mem_map.mp hv
    obtain ⟨it, hit⟩ := List.getElem?_of_mem htm
    obtain ⟨pr, hpr, htt⟩ := paired_at hpd hit
    have hc : pr.1 ∈ cs.map (·.1) := List.mem_map.mpr ⟨pr, List.mem_of_getElem? hpr, rfl⟩
    have ht1 := k1 t _ (hid_sub _ _ htt) (hid_ne htt)
    refine ⟨t, _, _, _, rfl, rfl, SqT.of ht1, rfl, ?_⟩
    refine ⟨_, rfl, b, 12, rfl, hB1, by decide, by decide, fun f H2 f0 f1 hB2 k2 _ => ⟨_, _, rfl, ?_⟩⟩
    have kp := k1.trans k2
    have hP2 := hP.mono (hid_kp kp)
    clear ht1 k1 k2 hB1
    obtain ⟨a0, a1, a2, a3, ep, e0, e1, e2, e3⟩ := id hP2
    generalize pr.1 = c at hc ⊢
    refine ⟨_, rfl, _, _, rfl, rfl, _, rfl, ite2 (fun h5 => ?_) (fun h5 => ?_)⟩
    · try dsimp only
      refine stepSet (fun v' Hx => ∃ l, v' = .str l ∧ (l = "" ∨ l ∈ d.l) ∧ Kp b H Hx ∧ BoxAt Hx b) (fun Q' hQ => ?lab) (fun v Hx hC => ?ret)
      case lab =>
        refine ⟨_, rfl, b, 3, rfl, hB2, by decide, by decide, fun r H3 r0 r1 hB3 k3 _ => ⟨rfl, _, rfl, ite2 (fun hz => ?_) (fun hz => ?_)⟩⟩
        · obtain ⟨b0, b1, b2, b3, dp, d0, d1, d2, d3⟩ := hP2.mono (hid_kp k3)
          refine ⟨_, rfl, _, rfl, pp, _, _, .ref b3, rfl, rfl, SqL.of (hid_sub _ _ dp), rfl, b, b3, _, rfl, hB3, SqL.of (hid_sub _ _ d3), hid_ne d3, by rw [List.length_map, fl.ll]; decide, by rw [List.length_map, fl.ll]; decide, fun v H4 hv hB4 k4 _ => ?_⟩
          obtain ⟨l, hl, rfl⟩ := List.mem_map.mp hv
          exact hQ _ _ ⟨l, rfl, .inr hl, (kp.trans k3).trans k4, hB4⟩
        · exact hQ _ _ ⟨"", rfl, .inl rfl, kp.trans k3, hB3⟩
      case ret =>
        obtain ⟨l, rfl, hl, kx, hBx⟩ := hC
        refine ⟨_, rfl, _, rfl, (by show 3 ≤ sizeLine; decide), fun t ht => ?_⟩
        exact q t (.note c l) _ (kx.new ht) (hBx.new ht) (newAt kx hBx ht) ⟨hc, hl⟩
    refine ⟨_, rfl, _, _, rfl, rfl, _, rfl, ite2 (fun h7 => ?_) (fun h7 => ?_)⟩
    · refine ⟨_, rfl, _, rfl, _, rfl, b, 3, rfl, hB2, by decide, by decide, fun n H3 n0 n1 hB3 k3 _ => ⟨_, _, rfl, rfl, (by show 3 ≤ sizeLine; decide), fun t1 ht1 => ?_⟩⟩
      have k3' := kp.trans k3
      refine ⟨_, rfl, _, rfl, b, 4, rfl, hB3.new ht1, by decide, by decide, fun m H4 m0 m1 hB4 k4 _ => ⟨(by show 3 ≤ sizeLine; decide), fun t2 ht2 => ⟨(by show 2 ≤ sizeLine; decide), fun L hL => ?_⟩⟩⟩
      have g1 := fun o => Same.new (o := o) hL t1 _ (Same.new ht2 t1 _ (k4 t1 _ upd_same (hB3.ne ht1)))
      have g2 := fun o => Same.new (o := o) hL t2 _ upd_same
      have kL := fun o => (((k3'.new ht1).trans k4).new ht2).new (o := o) hL
      have hBL := fun o => (hB4.new ht2).new (o := o) hL
      have f1 : H t1 = none := by
        obtain ⟨_, _, _, g⟩ := hB3
        exact k3'.mo g t1 ht1
      have f2 : H t2 = none := by
        obtain ⟨_, _, _, g⟩ := hB4
        exact ((k3'.new ht1).trans k4).mo g t2 ht2
      have n1b := hB3.ne ht1
      have n2b := hB4.ne ht2
      refine ⟨b, L, _, rfl, hBL _, SqL.of upd_same, (hB4.new ht2).ne hL, by show 0 < 2; decide, by show 2 < 1000000; decide, fun v H' hv hB' k' _ => ?_⟩
      obtain ⟨n', rfl⟩ : ∃ n' : Nat, n = (n' : Int) := ⟨n.toNat, by omega⟩
      obtain ⟨m', rfl⟩ : ∃ m' : Nat, m = (m' : Int) := ⟨m.toNat, by omega⟩
      simp only [List.mem_cons, List.not_mem_nil, or_false] at hv
      rcases hv with rfl | rfl
      · refine q t1 (.skip c (1 + n')) _ ((kL _).trans k') hB' (dif_new f1 ?_) ⟨hc, by omega, by omega⟩
        have e := k' t1 _ (g1 _) n1b
        rw [e]
        show some (HO.tup [.str "skip", .str c, .int (1 + (n' : Int))]) = some (HO.tup [.str "skip", .str c, .int ((1 + n' : Nat) : Int)])
        rw [show ((1 + n' : Nat) : Int) = 1 + (n' : Int) by omega]
      · exact q t2 (.set c m') _ ((kL _).trans k') hB' (dif_new f2 (k' t2 _ (g2 _) n2b)) ⟨hc, by omega⟩
    refine ⟨_, rfl, _, _, rfl, rfl, _, rfl, ite2 (fun h9 => ?_) (fun h9 => ?_)⟩
    · refine ⟨_, rfl, _, rfl, (by show 2 ≤ sizeLine; decide), fun t1 ht1 => ⟨_, rfl, (by show 2 ≤ sizeLine; decide), fun t2 ht2 => ⟨_, rfl, (by show 2 ≤ sizeLine; decide), fun t3 ht3 => ⟨(by show 3 ≤ sizeLine; decide), fun L hL => ?_⟩⟩⟩⟩
      have g1 := fun o => Same.new (o := o) hL t1 _ (Same.new ht3 t1 _ (Same.new ht2 t1 _ upd_same))
      have g2 := fun o => Same.new (o := o) hL t2 _ (Same.new ht3 t2 _ upd_same)
      have g3 := fun o => Same.new (o := o) hL t3 _ upd_same
      have kL := fun o => (((kp.new ht1).new ht2).new ht3).new (o := o) hL
      have hBL := fun o => (((hB2.new ht1).new ht2).new ht3).new (o := o) hL
      obtain ⟨_, _, _, gb⟩ := id hB2
      have f1 : H t1 = none := kp.mo gb t1 ht1
      have f2 : H t2 = none := (kp.new ht1).mo (Same.new ht1 b _ gb) t2 ht2
      have f3 : H t3 = none := ((kp.new ht1).new ht2).mo (Same.new ht2 b _ (Same.new ht1 b _ gb)) t3 ht3
      refine ⟨b, L, _, rfl, hBL _, SqL.of upd_same, (((hB2.new ht1).new ht2).new ht3).ne hL, by show 0 < 3; decide, by show 3 < 1000000; decide, fun v H' hv hB' k' _ => ?_⟩
      simp only [List.mem_cons, List.not_mem_nil, or_false] at hv
      rcases hv with rfl | rfl | rfl
      · exact q t1 (.keep c) _ ((kL _).trans k') hB' (dif_new f1 (k' t1 _ (g1 _) (hB2.ne ht1))) hc
      · exact q t2 (.back c) _ ((kL _).trans k') hB' (dif_new f2 (k' t2 _ (g2 _) ((hB2.new ht1).ne ht2))) hc
      · exact q t3 (.keep c) _ ((kL _).trans k') hB' (dif_new f3 (k' t3 _ (g3 _) (((hB2.new ht1).new ht2).ne ht3))) hc
    unfold tNext
    try dsimp only
    by_cases ho : f = 9 ∨ parts = []
    · refine stepYes (fun Hx => Kp b H2 Hx ∧ BoxAt Hx b) (fun Q' hQ => ?ts) (fun Hx hx => ?op)
      case ts =>
        refine ⟨_, rfl, rfl, _, rfl, ?_⟩
        by_cases h : f = 9
        · exact iteTD (decide_eq_true (by rw [h])) (hQ _ ⟨Kp.refl b H2, hB2⟩)
        · have hp : parts = [] := ho.resolve_left h
          refine iteFD (decide_eq_false fun z => h (V.int.inj z)) ?_
          subst hp
          refine ⟨_, rfl, (by show 0 ≤ sizeLine; decide), fun e he => ?_⟩
          have hS2 : SqL K H2 ps (([] : List Str).map V.str) := kp.sql npb hS
          refine ⟨.list [], .list [], .lst ((Same.new he).seq hS2) .nil, .lst (SqL.of upd_same) .nil, by decide +kernel, by decide +kernel, _, rfl, ?_⟩
          exact hQ _ ⟨(Kp.refl b H2).new he, hB2.new he⟩
      case op =>
        obtain ⟨kx, hBx⟩ := hx
        obtain ⟨b0, b1, b2, b3, dp, d0, d1, d2, d3⟩ := hP2.mono (hid_kp kx)
        refine ⟨_, rfl, _, rfl, pp, _, _, .ref b2, rfl, rfl, SqL.of (hid_sub _ _ dp), rfl, b, b2, _, rfl, hBx, SqL.of (hid_sub _ _ d2), hid_ne d2, by rw [List.length_map, fl.xl]; decide, by rw [List.length_map, fl.xl]; decide, fun v H4 hv hB4 k4 _ => ?_⟩
        obtain ⟨xn, hxn, rfl⟩ := List.mem_map.mp hv
        refine ⟨(by show 2 ≤ sizeLine; decide), fun t ht => ?_⟩
        have k5 := (kp.trans kx).trans k4
        exact q t (.opn xn) _ (k5.new ht) (hB4.new ht) (newAt k5 hB4 ht) hxn
    · have h : ¬ f = 9 := fun z => ho (.inl z)
      have hp : ¬ parts = [] := fun z => ho (.inr z)
      refine stepNo (fun Hx => Kp b H2 Hx ∧ BoxAt Hx b) (fun Q' hQ => ?ts2) (fun Hx hx => ?put)
      case ts2 =>
        refine ⟨_, rfl, rfl, _, rfl, ?_⟩
        refine iteFD (decide_eq_false fun z => h (V.int.inj z)) ?_
        refine ⟨_, rfl, (by show 0 ≤ sizeLine; decide), fun e he => ?_⟩
        have hS2 := kp.sql npb hS
        refine ⟨.list (parts.map PyData.str), .list [], .lst ((Same.new he).seq hS2) (dp_strL _), .lst (SqL.of upd_same) .nil, strL_sh (fun x hx => (name_ok (pn x hx)).1), by decide +kernel, _, rfl, ?_⟩
        rw [strsL_nil]
        have : parts.isEmpty = false := by
          cases parts with
          | nil => exact absurd rfl hp
          | cons a l => rfl
        rw [this]
        exact hQ _ ⟨(Kp.refl b H2).new he, hB2.new he⟩
      case put =>
        obtain ⟨kx, hBx⟩ := hx
        have k3 := kp.trans kx
        have hl0 : 0 < parts.length := List.length_pos_iff.mpr hp
        refine ⟨_, rfl, _, rfl, b, ps, _, rfl, hBx, k3.sql npb hS, npb, by rw [List.length_map]; exact hl0, by rw [List.length_map]; omega, fun v H4 hv hB4 k4 _ => ?_⟩
        obtain ⟨xn, hxn, rfl⟩ := List.mem_map.mp hv
        refine ⟨(by show 2 ≤ sizeLine; decide), fun t ht => ?_⟩
        have k5 := k3.trans k4
        exact q t (.put xn) _ (k5.new ht) (hB4.new ht) (newAt k5 hB4 ht) hxn
end
end Pn

namespace Pn
open PySem L2 TL
abbrev sRowText : Stmt := top 34
def rowValid : RowD → Prop
  | .note c l => nameS c = true ∧ (l = "" ∨ nameS l = true)
  | .skip c n => nameS c = true ∧ 1 ≤ n ∧ n < 10 ^ 10
  | .set c n => nameS c = true ∧ n < 10 ^ 10
  | .keep c => nameS c = true
  | .back c => nameS c = true
  | .ref c => nameS c = true
  | .put c => nameS c = true
  | .opn c => nameS c = true
theorem fine_valid {d : Pool} {cs : List (Str × Str)} {parts : List Str} (hd : d.Fine) (hc : ∀ x ∈ cs.map (·.1), nameS x = true) (hp : ∀ x ∈ parts, nameS x = true) : ∀ {r : RowD}, rowFine d cs parts r → rowValid r
  | .note _ _, h => ⟨hc _ h.1, h.2.imp id fun z => hd.names _ (List.mem_append_right _ z)⟩
  | .skip _ _, h => ⟨hc _ h.1, h.2.1, Nat.lt_of_le_of_lt h.2.2 (by decide)⟩
  | .set _ _, h => ⟨hc _ h.1, Nat.lt_of_le_of_lt h.2 (by decide)⟩
  | .keep _, h => hc _ h
  | .back _, h => hc _ h
  | .put _, h => hp _ h
  | .opn _, h => hd.names _ (List.mem_append_left _ (List.mem_append_right _ h))
/-- what a word of a drawn row says in its text -/
def wOf : V → Option Str
  | .str z => if z = "" then none else some z
  | .int i => some (Str.ofString (toString i))
  | _ => none
theorem name_ne {z : Str} (h : nameS z = true) : z ≠ "" := fun e => by
  subst e
  exact absurd h (by decide +kernel)
theorem words_of : ∀ {r : RowD}, rowValid r → (rowTup r).filterMap wOf = rowWords r
  | .note c l, h => by
    have h0 := name_ne h.1
    have k : wOf (.str "note") = some "note" := by decide +kernel
    have kc : wOf (.str c) = some c := if_neg h0
    by_cases hl : l = ""
    · have kl : wOf (.str l) = none := if_pos hl
      show List.filterMap wOf [.str "note", .str c, .str l] = (if l = "" then (["note", c] : List Str) else ["note", c, l])
      rw [if_pos hl]
      simp [k, kc, kl]
    · have kl : wOf (.str l) = some l := if_neg hl
      show List.filterMap wOf [.str "note", .str c, .str l] = (if l = "" then (["note", c] : List Str) else ["note", c, l])
      rw [if_neg hl]
      simp [k, kc, kl]
  | .skip c n, h => by
    have k : wOf (.str "skip") = some "skip" := by decide +kernel
    have kc : wOf (.str c) = some c := if_neg (name_ne h.1)
    show List.filterMap wOf [.str "skip", .str c, .int (n : Int)] = (["skip", c, numStr n] : List Str)
    simp [List.filterMap_cons, k, kc]
    rfl
  | .set c n, h => by
    have k : wOf (.str "set") = some "set" := by decide +kernel
    have kc : wOf (.str c) = some c := if_neg (name_ne h.1)
    show List.filterMap wOf [.str "set", .str c, .int (n : Int)] = (["set", c, numStr n] : List Str)
    simp [List.filterMap_cons, k, kc]
    rfl
  | .keep c, h => by
    have k : wOf (.str "keep") = some "keep" := by decide +kernel
    have kc : wOf (.str c) = some c := if_neg (name_ne h)
    show List.filterMap wOf [.str "keep", .str c] = (["keep", c] : List Str)
    simp [List.filterMap_cons, k, kc]
  | .back c, h => by
    have k : wOf (.str "back") = some "back" := by decide +kernel
    have kc : wOf (.str c) = some c := if_neg (name_ne h)
    show List.filterMap wOf [.str "back", .str c] = (["back", c] : List Str)
    simp [List.filterMap_cons, k, kc]
  | .ref c, h => by
    have k : wOf (.str "ref") = some "ref" := by decide +kernel
    have kc : wOf (.str c) = some c := if_neg (name_ne h)
    show List.filterMap wOf [.str "ref", .str c] = (["ref", c] : List Str)
    simp [List.filterMap_cons, k, kc]
  | .put c, h => by
    have k : wOf (.str "put") = some "put" := by decide +kernel
    have kc : wOf (.str c) = some c := if_neg (name_ne h)
    show List.filterMap wOf [.str "put", .str c] = (["put", c] : List Str)
    simp [List.filterMap_cons, k, kc]
  | .opn c, h => by
    have k : wOf (.str "open") = some "open" := by decide +kernel
    have kc : wOf (.str c) = some c := if_neg (name_ne h)
    show List.filterMap wOf [.str "open", .str c] = (["open", c] : List Str)
    simp [List.filterMap_cons, k, kc]
theorem numStr_small {n : Nat} (h : n < 10 ^ 10) : (numStr n).length ≤ 20 ∧ PyData.strOk (numStr n) = true := by
  refine ⟨numStr_len (Nat.lt_trans h (by decide)), strOk_tl.mpr fun c hc => ?_⟩
  have e : tl (numStr n) = numL n := tl_num n
  rw [e] at hc
  have q := numL_digits n c hc
  omega
/-- the words of a row that stands: few, short, of ordinary signs -/
theorem words_small {r : RowD} (h : rowValid r) : (rowWords r).length ≤ 3 ∧ 2 ≤ (rowWords r).length ∧ ∀ x ∈ rowWords r, x.length ≤ 20 ∧ PyData.strOk x = true := by
  have nm : ∀ {z : Str}, nameS z = true → z.length ≤ 20 ∧ PyData.strOk z = true := fun h => ⟨Nat.le_trans (name_ok h).2 (by decide), (name_ok h).1⟩
  have lit : ∀ z ∈ (["note", "skip", "set", "keep", "back", "ref", "put", "open"] : List Str), z.length ≤ 20 ∧ PyData.strOk z = true := fun z hz => by
    have q : (["note", "skip", "set", "keep", "back", "ref", "put", "open"] : List Str).all (fun z => decide (z.length ≤ 20) && PyData.strOk z) = true := by decide +kernel
    have := List.all_eq_true.mp q z hz
    rw [Bool.and_eq_true] at this
    exact ⟨of_decide_eq_true this.1, this.2⟩
  have two : ∀ {a c : Str}, a ∈ (["note", "skip", "set", "keep", "back", "ref", "put", "open"] : List Str) → nameS c = true → ([a, c] : List Str).length ≤ 3 ∧ 2 ≤ ([a, c] : List Str).length ∧ ∀ x ∈ ([a, c] : List Str), x.length ≤ 20 ∧ PyData.strOk x = true := fun {a c} ha hc =>
    ⟨by show 2 ≤ 3; decide, by show 2 ≤ 2; decide, fun x hx => by
      rcases List.mem_cons.mp hx with rfl | hx
      · exact lit _ ha
      · rw [List.mem_singleton.mp hx]; exact nm hc⟩
  have three : ∀ {a c l : Str}, a ∈ (["note", "skip", "set", "keep", "back", "ref", "put", "open"] : List Str) → nameS c = true → (l.length ≤ 20 ∧ PyData.strOk l = true) → ([a, c, l] : List Str).length ≤ 3 ∧ 2 ≤ ([a, c, l] : List Str).length ∧ ∀ x ∈ ([a, c, l] : List Str), x.length ≤ 20 ∧ PyData.strOk x = true := fun {a c l} ha hc hl =>
    ⟨by show 3 ≤ 3; decide, by show 2 ≤ 3; decide, fun x hx => by
      rcases List.mem_cons.mp hx with rfl | hx
      · exact lit _ ha
      · rcases List.mem_cons.mp hx with rfl | hx
        · exact nm hc
        · rw [List.mem_singleton.mp hx]; exact hl⟩
  cases r with
  | note c l =>
    show (if l = "" then (["note", c] : List Str) else ["note", c, l]).length ≤ 3 ∧ 2 ≤ (if l = "" then (["note", c] : List Str) else ["note", c, l]).length ∧ ∀ x ∈ (if l = "" then (["note", c] : List Str) else ["note", c, l]), _
    by_cases hl : l = ""
    · rw [if_pos hl]
      exact two (by decide +kernel) h.1
    · rw [if_neg hl]
      exact three (by decide +kernel) h.1 (nm (h.2.resolve_left hl))
  | skip c n => exact three (by decide +kernel) h.1 (numStr_small h.2.2)
  | set c n => exact three (by decide +kernel) h.1 (numStr_small h.2)
  | keep c => exact two (by decide +kernel) h
  | back c => exact two (by decide +kernel) h
  | ref c => exact two (by decide +kernel) h
  | put c => exact two (by decide +kernel) h
  | opn c => exact two (by decide +kernel) h
section
variable {P : Program} {w : World} {K : PySem.W.Frag} {mg : Str → Option Value} {base : Heap}
def rStrF : List V → Hp → VK → Prop := fun xs H Q => (∃ a, xs = [.str a] ∧ Q (.str a) H) ∨ ∃ i : Int, xs = [.int i] ∧ i.natAbs.log2 < 1920 ∧ Q (.str (Str.ofString (toString i))) H
theorem call_strF {X : Cx} : CallR X (.type "str") rStrF := fun pins s σ H xs us Q I r h => h.elim (fun h => SkE.call_str_str pins s σ H xs us Q I r h) fun h => call_str_int pins s σ H xs us Q I r h
def spRowText (K : PySem.W.Frag) : Sp := fun vs H Q _ => ∃ (t : Addr) (r : RowD), vs = [.ref t] ∧ SqT K H t (rowTup r) ∧ rowValid r ∧ ∀ H', Same H H' → Q (.str (rowText r)) H'
theorem scRowText : FnScope ["_law_row_here", "_law_word"] ["_law_row_here"] (defScope sRowText) := ⟨rfl, rfl, rfl, by decide +kernel, rfl, by decide +kernel, by decide +kernel⟩
theorem tup_items {r : RowD} (h : rowValid r) : (rowTup r).length ≤ 3 ∧ ∀ v ∈ rowTup r, (∃ z : Str, v = .str z ∧ PyData.strOk z = true) ∨ ∃ n : Nat, v = .int (n : Int) ∧ n < 10 ^ 10 := by
  have nm : ∀ {z : Str}, nameS z = true → PyData.strOk z = true := fun h => (name_ok h).1
  have l8 : ∀ z ∈ (["note", "skip", "set", "keep", "back", "ref", "put", "open"] : List Str), PyData.strOk z = true := List.all_eq_true.mp (by decide +kernel)
  have two : ∀ {a c : Str}, a ∈ (["note", "skip", "set", "keep", "back", "ref", "put", "open"] : List Str) → nameS c = true → ([.str a, .str c] : List V).length ≤ 3 ∧ ∀ v ∈ ([.str a, .str c] : List V), (∃ z : Str, v = .str z ∧ PyData.strOk z = true) ∨ ∃ n : Nat, v = .int (n : Int) ∧ n < 10 ^ 10 := fun {a c} ha hc =>
    ⟨by show 2 ≤ 3; decide, fun v hv => by
      rcases List.mem_cons.mp hv with rfl | hv
      · exact .inl ⟨a, rfl, l8 a ha⟩
      · rw [List.mem_singleton.mp hv]; exact .inl ⟨c, rfl, nm hc⟩⟩
  have three : ∀ {a c : Str} {u : V}, a ∈ (["note", "skip", "set", "keep", "back", "ref", "put", "open"] : List Str) → nameS c = true → ((∃ z : Str, u = .str z ∧ PyData.strOk z = true) ∨ ∃ n : Nat, u = .int (n : Int) ∧ n < 10 ^ 10) →
      ([.str a, .str c, u] : List V).length ≤ 3 ∧ ∀ v ∈ ([.str a, .str c, u] : List V), (∃ z : Str, v = .str z ∧ PyData.strOk z = true) ∨ ∃ n : Nat, v = .int (n : Int) ∧ n < 10 ^ 10 := fun {a c u} ha hc hu =>
    ⟨by show 3 ≤ 3; decide, fun v hv => by
      rcases List.mem_cons.mp hv with rfl | hv
      · exact .inl ⟨a, rfl, l8 a ha⟩
      · rcases List.mem_cons.mp hv with rfl | hv
        · exact .inl ⟨c, rfl, nm hc⟩
        · rw [List.mem_singleton.mp hv]; exact hu⟩
  cases r with
  | note c l => exact three (by decide +kernel) h.1 (.inl ⟨l, rfl, h.2.elim (fun z => by rw [z]; decide +kernel) nm⟩)
  | skip c n => exact three (by decide +kernel) h.1 (.inr ⟨n, rfl, h.2.2⟩)
  | set c n => exact three (by decide +kernel) h.1 (.inr ⟨n, rfl, h.2⟩)
  | keep c => exact two (by decide +kernel) h
  | back c => exact two (by decide +kernel) h
  | ref c => exact two (by decide +kernel) h
  | put c => exact two (by decide +kernel) h
  | opn c => exact two (by decide +kernel) h
theorem ok_rowtext {f : Addr} {fd : FuncData} (F : Fun K "_law_row_text" "_law_row_text" sRowText f fd) (mS : mg "str" = none) : FnOk P w K mg base CX0 1 f fd ["_law_row_here"] (spRowText K) := by
  refine F.ok scRowText (fun vs H Q E h => ?_) (fun cdv A outer s H vs Q E hr h => ?_)
  · obtain ⟨t, r, rfl, _⟩ := h
    rfl
  · obtain ⟨t, r, rfl, ht, hv, q⟩ := h
    refine ⟨_, pss_one (ps_ret (pe_join pe_str (pe_lc (own := [("_law_word", 1)]) (g := gName 1) (by rfl) scRowText.nd (pi_tup (pv 0))
          (blkOk_by (N := ["_law_row_here", "_law_word"]) (sc := defScope sRowText) (by decide +kernel)) (fun _ _ _ _ _ => pg_name (i := 1) scRowText.nd rfl (Or.inl rfl))
          (fun _ _ _ _ _ => pts_one (pt_cmpR (show OpR _ (compareOp .NotEq) (rNeD K) from op_neD hr.units) (pv 1) pe_str (nomark _))) (fun _ _ _ _ _ => pe_callTy call_strF (by rfl) mS (by decide +kernel) (pa_cons (pv 1) pa_nil))))), ?_⟩
    obtain ⟨hl3, hit⟩ := tup_items hv
    have hwd := words_of hv
    have hws := words_small hv
    refine ⟨⟨_, rfl⟩, _, rfl, t, rfl, ⟨_, ht⟩, fun D hD => lc_it (walk_tup (xs := rowTup r)) (fun i Hi => Hi = upd H D (.lst ((((rowTup r).take i).filterMap wOf).map V.str))) rfl (fun i Hi _ hP => by subst hP; exact Same.sqt (Same.new hD) ht) (fun i x Hi Hj hi hP hY => ?turn) (fun Hi hP => ?done)⟩
    case turn =>
      obtain ⟨rfl, hx⟩ := hY
      subst hP
      have hmem := List.mem_of_getElem? hx
      have htk : (rowTup r).take (i + 1) = (rowTup r).take i ++ [x] := by
        rw [List.take_add_one, hx]
        rfl
      have hsz : (((rowTup r).take i).filterMap wOf).length ≤ 3 := Nat.le_trans (List.length_filterMap_le _ _) (by rw [List.length_take]; omega)
      have fin : ∀ z : Str, wOf x = some z → ∃ acc, (upd H D (.lst ((((rowTup r).take i).filterMap wOf).map V.str))) D = some (.lst acc) ∧ acc.length < sizeLine ∧
          upd (upd H D (.lst ((((rowTup r).take i).filterMap wOf).map V.str))) D (.lst (acc ++ [.str z])) = upd H D (.lst ((((rowTup r).take (i + 1)).filterMap wOf).map V.str)) := fun z hz => by
        refine ⟨_, upd_same, small1000 (by rw [List.length_map]; omega), ?_⟩
        rw [htk, List.filterMap_append, List.map_append]
        have e1 : List.filterMap wOf [x] = [z] := by simp [hz]
        rw [e1]
        funext c
        by_cases ec : c = D
        · rw [ec, upd_same, upd_same]
          rfl
        · rw [upd_ne ec, upd_ne ec, upd_ne ec]
      rcases hit x hmem with ⟨z, rfl, hz⟩ | ⟨n, rfl, hn⟩
      · refine ⟨rfl, _, rfl, .str z, .str "", .str z, .str "", str_shaped hz, by decide +kernel, _, rfl, ?_⟩
        by_cases h0 : z = ""
        · have e : (!PyData.eqv (.str z) (.str "")) = false := by rw [h0]; decide +kernel
          rw [e]
          have hw : wOf (.str z) = none := if_pos h0
          show upd H D _ = upd H D _
          rw [htk, List.filterMap_append]
          have e1 : List.filterMap wOf [V.str z] = [] := by simp [hw]
          rw [e1, List.append_nil]
        · have e : (!PyData.eqv (.str z) (.str "")) = true := by
            have : PyData.eqv (.str z) (.str "") = false := by
              simp only [PyData.eqv]
              exact beq_eq_false_iff_ne.mpr h0
            rw [this]
            rfl
          rw [e]
          exact ⟨_, rfl, .inl ⟨z, rfl, fin z (if_neg h0)⟩⟩
      · refine ⟨rfl, _, rfl, .int n, .str "", .int n, .str "", by rfl, by decide +kernel, _, rfl, ?_⟩
        have e : (!PyData.eqv (.int (n : Int)) (.str "")) = true := by simp [PyData.eqv]
        rw [e]
        exact ⟨_, rfl, .inr ⟨n, rfl, log_small (Nat.lt_trans hn (by decide)), fin _ rfl⟩⟩
    case done =>
      subst hP
      rw [List.take_of_length_le (Nat.le_refl _), hwd]
      refine ⟨" ", D, rowWords r, rfl, rfl, .inl (SqL.of upd_same), ?_, q _ (Same.new hD)⟩
      have hs : ∀ l : List Str, (∀ x ∈ l, x.length ≤ 20) → (l.map (·.length)).sum ≤ 20 * l.length := by
        intro l
        induction l with
        | nil => intro _; exact Nat.le_refl _
        | cons a l ih =>
          intro h
          have q1 := ih fun x hx => h x (List.mem_cons_of_mem _ hx)
          have q2 := h a List.mem_cons_self
          rw [List.map_cons, List.sum_cons, List.length_cons]
          omega
      have h1 := hs (rowWords r) fun x hx => (hws.2.2 x hx).1
      have h2 : (" " : Str).length = 1 := by decide +kernel
      rw [h2]
      have := hws.1
      omega
end
end Pn

namespace Pn
open PySem L2 TL
structure TStrs {K : PySem.W.Frag} {mg : Str → Option Value} (T : TRows K mg) : Type where
  note : TStr K T.note.C "Note.__str__" sNoteStr
  skip : TStr K T.skip.C "Skip.__str__" sSkipStr
  set : TStr K T.set.C "Set.__str__" sSetStr
  keep : TStr K T.keep.C "Keep.__str__" sKeepStr
  back : TStr K T.back.C "Back.__str__" sBackStr
  ref : TStr K T.ref.C "Ref.__str__" sRefStr
  put : TStr K T.put.C "Put.__str__" sPutStr
  open_ : TStr K T.open_.C "Open.__str__" sOpenStr
def rStrRow {K : PySem.W.Frag} {mg : Str → Option Value} (T : TRows K mg) : List V → Hp → VK → Prop := fun xs H Q => ∃ (a : Addr) (r : RowD), xs = [.ref a] ∧ RowAt T H a r ∧ rowSmall r ∧ Q (.str (rowText r)) H
theorem call_strRow {X : Cx} (T : TRows X.K X.mg) (S : TStrs T) (hr : Room 3 X.A) : CallR X (.type "str") (rStrRow T) := by
  intro pins s σ H xs us Q I rv h
  obtain ⟨a, r, rfl, ⟨dx, ha⟩, hs, q⟩ := h
  cases r with
  | note c l => exact call_strIns (okNoteStr T S.note) S.note.hf hr S.note.b pass0 pins s σ H _ us Q I rv ⟨a, _, dx, _, rfl, ha, S.note.hs, a, c, l, rfl, ⟨dx, ha⟩, hs.1, hs.2, _, rfl, q⟩
  | skip c n => exact call_strIns (okSkipStr T S.skip) S.skip.hf hr S.skip.b pass0 pins s σ H _ us Q I rv ⟨a, _, dx, _, rfl, ha, S.skip.hs, a, c, n, rfl, ⟨dx, ha⟩, hs.1, hs.2, _, rfl, q⟩
  | set c n => exact call_strIns (okSetStr T S.set) S.set.hf hr S.set.b pass0 pins s σ H _ us Q I rv ⟨a, _, dx, _, rfl, ha, S.set.hs, a, c, n, rfl, ⟨dx, ha⟩, hs.1, hs.2, _, rfl, q⟩
  | keep c => exact call_strIns (okKeepStr T S.keep) S.keep.hf hr S.keep.b pass0 pins s σ H _ us Q I rv ⟨a, _, dx, _, rfl, ha, S.keep.hs, a, c, rfl, ⟨dx, ha⟩, hs, _, rfl, q⟩
  | back c => exact call_strIns (okBackStr T S.back) S.back.hf hr S.back.b pass0 pins s σ H _ us Q I rv ⟨a, _, dx, _, rfl, ha, S.back.hs, a, c, rfl, ⟨dx, ha⟩, hs, _, rfl, q⟩
  | ref c => exact call_strIns (okRefStr T S.ref) S.ref.hf hr S.ref.b pass0 pins s σ H _ us Q I rv ⟨a, _, dx, _, rfl, ha, S.ref.hs, a, c, rfl, ⟨dx, ha⟩, hs, _, rfl, q⟩
  | put c => exact call_strIns (okPutStr T S.put) S.put.hf hr S.put.b pass0 pins s σ H _ us Q I rv ⟨a, _, dx, _, rfl, ha, S.put.hs, a, c, rfl, ⟨dx, ha⟩, hs, _, rfl, q⟩
  | opn c => exact call_strIns (okOpenStr T S.open_) S.open_.hf hr S.open_.b pass0 pins s σ H _ us Q I rv ⟨a, _, dx, _, rfl, ha, S.open_.hs, a, c, rfl, ⟨dx, ha⟩, hs, _, rfl, q⟩
theorem call_strRowK {X : Cx} {K : PySem.W.Frag} {mg : Str → Option Value} (hK : X.K = K) (hm : X.mg = mg) (T : TRows K mg) (S : TStrs T) (hr : Room 3 X.A) : CallR X (.type "str") (rStrRow T) := by
  subst hK
  subst hm
  exact call_strRow T S hr
theorem name_small {z : Str} (h : nameS z = true) : z.length ≤ 100 := Nat.le_trans (name_ok h).2 (by decide)
theorem lab_small {l : Str} (h : labD (.str l) = true) : l = "" ∨ nameS l = true := by
  unfold labD at h
  rw [Bool.or_eq_true] at h
  rcases h with h | h
  · left
    simp only [PyData.eqv] at h
    exact eq_of_beq h
  · exact .inr h
/-- a row that was read has just these words -/
theorem rowOf_ok : ∀ {ws : List Str} {r : RowD}, rowOf ws = some r → rowWords r = ws ∧ rowSmall r ∧ rowValid r
  | [a, b], r, h => by
    have h : row2 a b = some r := h
    unfold row2 at h
    by_cases hn : nameS b = true
    · rw [if_pos hn] at h
      have sm := name_small hn
      by_cases hnote : a = "note"
      · rw [if_pos hnote] at h
        cases h
        refine ⟨by subst hnote; show (if ("" : Str) = "" then (["note", b] : List Str) else ["note", b, ""]) = (["note", b] : List Str); rw [if_pos rfl], ⟨sm, by decide +kernel⟩, hn, .inl rfl⟩
      rw [if_neg hnote] at h
      by_cases hkeep : a = "keep"
      · rw [if_pos hkeep] at h
        cases h
        exact ⟨by subst hkeep; rfl, sm, hn⟩
      rw [if_neg hkeep] at h
      by_cases hback : a = "back"
      · rw [if_pos hback] at h
        cases h
        exact ⟨by subst hback; rfl, sm, hn⟩
      rw [if_neg hback] at h
      by_cases href : a = "ref"
      · rw [if_pos href] at h
        cases h
        exact ⟨by subst href; rfl, sm, hn⟩
      rw [if_neg href] at h
      by_cases hput : a = "put"
      · rw [if_pos hput] at h
        cases h
        exact ⟨by subst hput; rfl, sm, hn⟩
      rw [if_neg hput] at h
      by_cases hopen : a = "open"
      · rw [if_pos hopen] at h
        cases h
        exact ⟨by subst hopen; rfl, sm, hn⟩
      rw [if_neg hopen] at h
      cases h
    · rw [if_neg hn] at h
      cases h
  | [a, b, c], r, h => by
    have h : row3 a b c = some r := h
    unfold row3 at h
    by_cases h1 : a = "note" ∧ c ≠ ""
    · rw [if_pos h1] at h
      by_cases h2 : nameS b = true ∧ labD (.str c) = true
      · rw [if_pos h2] at h
        cases h
        have hc : nameS c = true := (lab_small h2.2).resolve_left h1.2
        refine ⟨?_, ⟨name_small h2.1, name_small hc⟩, h2.1, .inr hc⟩
        rw [h1.1]
        show (if c = "" then (["note", b] : List Str) else ["note", b, c]) = (["note", b, c] : List Str)
        rw [if_neg h1.2]
      · rw [if_neg h2] at h
        cases h
    rw [if_neg h1] at h
    by_cases hs : a = "skip"
    · rw [if_pos hs] at h
      by_cases h2 : numOk c = true ∧ nameS b = true ∧ numVal c ≠ 0
      · rw [if_pos h2] at h
        cases h
        have hl := num_lt h2.1
        refine ⟨?_, ⟨name_small h2.2.1, Nat.lt_trans hl (by decide)⟩, h2.2.1, by have := h2.2.2; omega, hl⟩
        rw [hs]
        show (["skip", b, numStr (numVal c)] : List Str) = (["skip", b, c] : List Str)
        rw [num_back h2.1]
      · rw [if_neg h2] at h
        cases h
    rw [if_neg hs] at h
    by_cases ht : a = "set"
    · rw [if_pos ht] at h
      by_cases h2 : numOk c = true ∧ nameS b = true
      · rw [if_pos h2] at h
        cases h
        have hl := num_lt h2.1
        refine ⟨?_, ⟨name_small h2.2, Nat.lt_trans hl (by decide)⟩, h2.2, hl⟩
        rw [ht]
        show (["set", b, numStr (numVal c)] : List Str) = (["set", b, c] : List Str)
        rw [num_back h2.1]
      · rw [if_neg h2] at h
        cases h
    rw [if_neg ht] at h
    cases h
  | [], _, h => by cases h
  | [_], _, h => by cases h
  | _ :: _ :: _ :: _ :: _, _, h => by cases h
/-- .. and its text is the line -/
theorem read_text {z : Str} {r : RowD} (h : rowOf (Txt.split z " ") = some r) : rowText r = z := by
  unfold rowText
  rw [(rowOf_ok h).1, join_eq]
  exact PySem.StrLaws.join_split z " "
end Pn

namespace Pn
open PySem L2 TL
abbrev sMadeRow : Stmt := top 35
theorem passN0 {P : Program} {w : World} {X : Cx} : Passes (L2N.CX P w) X E0 := fun _ _ _ _ _ _ _ ⟨_, _, _, _, _, _, _, _, _, _, _, _, h⟩ => h.elim
section
variable {P : Program} {w : World} {K : PySem.W.Frag} {mg : Str → Option Value} {base : Heap}
def spMade (R : TRows K mg) : Sp := fun vs H Q _ => ∃ (t : Addr) (r : RowD), vs = [.ref t] ∧ SqT K H t (rowTup r) ∧ rowValid r ∧ ∀ a H', Same H H' → RowAt R H' a r → Q (.ref a) H'
theorem scMadeRow : FnScope ["_law_row_here"] ["_law_row_here"] (defScope sMadeRow) := ⟨rfl, rfl, rfl, by decide +kernel, rfl, by decide +kernel, by decide +kernel⟩
theorem lab_of {l : Str} (h : l = "" ∨ nameS l = true) : labD (.str l) = true := by
  rcases h with rfl | h
  · decide +kernel
  · show (PyData.eqv (.str l) (.str "") || nameS l) = true
    rw [h, Bool.or_true]
theorem ok_made (R : TRows K mg) {f : Addr} {fd : FuncData} (F : Fun K "_law_made_row" "_law_made_row" sMadeRow f fd) : FnOk P w K mg base CX0 6 f fd ["_law_row_here"] (spMade R) := by
  refine F.ok scMadeRow (fun vs H Q E h => ?_) (fun cdv A outer s H vs Q E hr h => ?_)
  · obtain ⟨t, r, rfl, _⟩ := h
    rfl
  · obtain ⟨t, r, rfl, ht, hv, q⟩ := h
    refine ⟨_, pss_cons (ps_if (pt_cmpR op_eq (pe_ix ix_tup (pv 0) pe_int (fun _ _ => rfl)) pe_str (nomark _)) (pss_one (ps_ret (pe_make R.note.M (okNoteInit R.note R.N) (hr.mono (by decide)) rfl R.note.m R.note.b .nil passN0 (pa_cons (pe_ix ix_tup (pv 0) pe_int (fun _ _ => rfl)) (pa_cons (pe_ix ix_tup (pv 0) pe_int (fun _ _ => rfl)) pa_nil))))) pss_nil)
      (pss_cons (ps_if (pt_cmpR op_in_seq (pe_ix ix_tup (pv 0) pe_int (fun _ _ => rfl)) (pe_tup (pa_cons pe_str (pa_cons pe_str pa_nil))) rfl) (pss_one (ps_ret (pe_ifExp (pt_cmpR op_eq (pe_ix ix_tup (pv 0) pe_int (fun _ _ => rfl)) pe_str (nomark _)) (pe_make R.skip.M (okSkipInit R.skip R.N) (hr.mono (by decide)) rfl R.skip.m R.skip.b .nil passN0 (pa_cons (pe_ix ix_tup (pv 0) pe_int (fun _ _ => rfl)) (pa_cons (pe_ix ix_tup (pv 0) pe_int (fun _ _ => rfl)) pa_nil))) (pe_make R.set.M (okSetInit R.set R.N) (hr.mono (by decide)) rfl R.set.m R.set.b .nil passN0 (pa_cons (pe_ix ix_tup (pv 0) pe_int (fun _ _ => rfl)) (pa_cons (pe_ix ix_tup (pv 0) pe_int (fun _ _ => rfl)) pa_nil)))))) pss_nil)
      (pss_cons (ps_if (pt_cmpR op_in_seq (pe_ix ix_tup (pv 0) pe_int (fun _ _ => rfl)) (pe_tup (pa_cons pe_str (pa_cons pe_str pa_nil))) rfl) (pss_one (ps_ret (pe_ifExp (pt_cmpR op_eq (pe_ix ix_tup (pv 0) pe_int (fun _ _ => rfl)) pe_str (nomark _)) (pe_make R.keep.M (okKeepInit R.keep R.N) (hr.mono (by decide)) rfl R.keep.m R.keep.b .nil passN0 (pa_cons (pe_ix ix_tup (pv 0) pe_int (fun _ _ => rfl)) pa_nil)) (pe_make R.back.M (okBackInit R.back R.N) (hr.mono (by decide)) rfl R.back.m R.back.b .nil passN0 (pa_cons (pe_ix ix_tup (pv 0) pe_int (fun _ _ => rfl)) pa_nil))))) pss_nil)
      (pss_cons (ps_if (pt_cmpR op_eq (pe_ix ix_tup (pv 0) pe_int (fun _ _ => rfl)) pe_str (nomark _)) (pss_one (ps_ret (pe_make R.ref.M (okRefInit R.ref R.N) (hr.mono (by decide)) rfl R.ref.m R.ref.b .nil passN0 (pa_cons (pe_ix ix_tup (pv 0) pe_int (fun _ _ => rfl)) pa_nil)))) pss_nil)
      (pss_one (ps_ret (pe_ifExp (pt_cmpR op_eq (pe_ix ix_tup (pv 0) pe_int (fun _ _ => rfl)) pe_str (nomark _)) (pe_make R.put.M (okPutInit R.put R.N) (hr.mono (by decide)) rfl R.put.m R.put.b .nil passN0 (pa_cons (pe_ix ix_tup (pv 0) pe_int (fun _ _ => rfl)) pa_nil)) (pe_make R.open_.M (okOpenInit R.open_ R.N) (hr.mono (by decide)) rfl R.open_.m R.open_.b .nil passN0 (pa_cons (pe_ix ix_tup (pv 0) pe_int (fun _ _ => rfl)) pa_nil)))))))), ?_⟩
    have nl : ∀ {z : Str}, nameS z = true → dlen (.str z) := fun h => Nat.le_trans (name_ok h).2 (by show 4 ≤ 900; decide)
    cases r with
    | note c l =>
      refine ⟨_, rfl, t, _, _, _, rfl, rfl, ht, atI_nat (j := 0) rfl, rfl, _, rfl, iteTD (by decide +kernel) ?_⟩
      refine ⟨_, rfl, t, _, _, _, rfl, rfl, ht, atI_nat (j := 1) rfl, _, rfl, t, _, _, _, rfl, rfl, ht, atI_nat (j := 2) rfl, fun x dx hx hdx ne => ?_⟩
      exact ⟨x, dx, .str c, .str l, .str c, .str l, rfl, upd_same, .str c, nl hv.1, .str l, (by rcases hv.2 with rfl | z; exact (by decide +kernel : ("" : Str).length ≤ 900); exact nl z), str_shaped (by rcases hv.2 with rfl | z; decide +kernel; exact (name_ok z).1), fun hn hg H1 kp m hi => ⟨rfl, q x H1 (kpi_same2 hx hdx kp) ⟨dx, hi⟩⟩, fun hn => absurd hv.1 (by rw [show nameS c = false from hn]; decide), fun _ hg => absurd (lab_of hv.2) (by rw [hg]; decide)⟩
    | skip c n =>
      refine ⟨_, rfl, t, _, _, _, rfl, rfl, ht, atI_nat (j := 0) rfl, rfl, _, rfl, iteFD (by decide +kernel) ?_⟩
      refine ⟨_, rfl, t, _, _, _, rfl, rfl, ht, atI_nat (j := 0) rfl, (by show 2 ≤ sizeLine; decide), fun t1 h1 => ?_⟩
      refine ⟨t1, _, rfl, .inr (SqT.of upd_same), rfl, rfl, _, rfl, iteTD (by decide +kernel) ?_⟩
      have s1 := (Same.new (o := .tup [.str "skip", .str "set"]) h1)
      generalize upd _ t1 (.tup [.str "skip", .str "set"]) = H1 at s1 ⊢
      have ht1 := Same.sqt s1 ht
      refine ⟨_, rfl, t, _, _, _, rfl, rfl, ht1, atI_nat (j := 0) rfl, rfl, _, rfl, iteTD (by decide +kernel) ?_⟩
      refine ⟨_, rfl, t, _, _, _, rfl, rfl, ht1, atI_nat (j := 1) rfl, _, rfl, t, _, _, _, rfl, rfl, ht1, atI_nat (j := 2) rfl, fun x dx hx hdx ne => ?_⟩
      exact ⟨x, dx, .str c, .int (n : Int), .str c, .int (n : Int), rfl, upd_same, .str c, nl hv.1, .int _, fun hn hg H1 kp m hi => ⟨rfl, q x H1 (s1.trans (kpi_same2 hx hdx kp)) ⟨dx, hi⟩⟩, fun hn => absurd hv.1 (by rw [show nameS c = false from hn]; decide), fun _ hg => absurd (skip_of (n := n) (by have := hv.2.1; omega)) (by rw [hg]; decide)⟩
    | set c n =>
      refine ⟨_, rfl, t, _, _, _, rfl, rfl, ht, atI_nat (j := 0) rfl, rfl, _, rfl, iteFD (by decide +kernel) ?_⟩
      refine ⟨_, rfl, t, _, _, _, rfl, rfl, ht, atI_nat (j := 0) rfl, (by show 2 ≤ sizeLine; decide), fun t1 h1 => ?_⟩
      refine ⟨t1, _, rfl, .inr (SqT.of upd_same), rfl, rfl, _, rfl, iteTD (by decide +kernel) ?_⟩
      have s1 := (Same.new (o := .tup [.str "skip", .str "set"]) h1)
      generalize upd _ t1 (.tup [.str "skip", .str "set"]) = H1 at s1 ⊢
      have ht1 := Same.sqt s1 ht
      refine ⟨_, rfl, t, _, _, _, rfl, rfl, ht1, atI_nat (j := 0) rfl, rfl, _, rfl, iteFD (by decide +kernel) ?_⟩
      refine ⟨_, rfl, t, _, _, _, rfl, rfl, ht1, atI_nat (j := 1) rfl, _, rfl, t, _, _, _, rfl, rfl, ht1, atI_nat (j := 2) rfl, fun x dx hx hdx ne => ?_⟩
      exact ⟨x, dx, .str c, .int (n : Int), .str c, .int (n : Int), rfl, upd_same, .str c, nl hv.1, .int _, fun hn hg H1 kp m hi => ⟨rfl, q x H1 (s1.trans (kpi_same2 hx hdx kp)) ⟨dx, hi⟩⟩, fun hn => absurd hv.1 (by rw [show nameS c = false from hn]; decide), fun _ hg => absurd (set_of (n := n)) (by rw [hg]; decide)⟩
    | keep c =>
      refine ⟨_, rfl, t, _, _, _, rfl, rfl, ht, atI_nat (j := 0) rfl, rfl, _, rfl, iteFD (by decide +kernel) ?_⟩
      refine ⟨_, rfl, t, _, _, _, rfl, rfl, ht, atI_nat (j := 0) rfl, (by show 2 ≤ sizeLine; decide), fun t1 h1 => ?_⟩
      refine ⟨t1, _, rfl, .inr (SqT.of upd_same), rfl, rfl, _, rfl, iteFD (by decide +kernel) ?_⟩
      have s1 := (Same.new (o := .tup [.str "skip", .str "set"]) h1)
      generalize upd _ t1 (.tup [.str "skip", .str "set"]) = H1 at s1 ⊢
      have ht1 := Same.sqt s1 ht
      refine ⟨_, rfl, t, _, _, _, rfl, rfl, ht1, atI_nat (j := 0) rfl, (by show 2 ≤ sizeLine; decide), fun t2 h2 => ?_⟩
      refine ⟨t2, _, rfl, .inr (SqT.of upd_same), rfl, rfl, _, rfl, iteTD (by decide +kernel) ?_⟩
      have s2 := s1.trans (Same.new (o := .tup [.str "keep", .str "back"]) h2)
      generalize upd _ t2 (.tup [.str "keep", .str "back"]) = H2 at s2 ⊢
      have ht2 := Same.sqt s2 ht
      refine ⟨_, rfl, t, _, _, _, rfl, rfl, ht2, atI_nat (j := 0) rfl, rfl, _, rfl, iteTD (by decide +kernel) ?_⟩
      refine ⟨_, rfl, t, _, _, _, rfl, rfl, ht2, atI_nat (j := 1) rfl, fun x dx hx hdx ne => ?_⟩
      exact ⟨x, dx, .str c, .str c, rfl, upd_same, .str c, nl hv, fun hn H1 kp m hi => ⟨rfl, q x H1 (s2.trans (kpi_same2 hx hdx kp)) ⟨dx, hi⟩⟩, fun hn => absurd (show nameS c = true from hv) (by rw [show nameS c = false from hn]; decide)⟩
    | back c =>
      refine ⟨_, rfl, t, _, _, _, rfl, rfl, ht, atI_nat (j := 0) rfl, rfl, _, rfl, iteFD (by decide +kernel) ?_⟩
      refine ⟨_, rfl, t, _, _, _, rfl, rfl, ht, atI_nat (j := 0) rfl, (by show 2 ≤ sizeLine; decide), fun t1 h1 => ?_⟩
      refine ⟨t1, _, rfl, .inr (SqT.of upd_same), rfl, rfl, _, rfl, iteFD (by decide +kernel) ?_⟩
      have s1 := (Same.new (o := .tup [.str "skip", .str "set"]) h1)
      generalize upd _ t1 (.tup [.str "skip", .str "set"]) = H1 at s1 ⊢
      have ht1 := Same.sqt s1 ht
      refine ⟨_, rfl, t, _, _, _, rfl, rfl, ht1, atI_nat (j := 0) rfl, (by show 2 ≤ sizeLine; decide), fun t2 h2 => ?_⟩
      refine ⟨t2, _, rfl, .inr (SqT.of upd_same), rfl, rfl, _, rfl, iteTD (by decide +kernel) ?_⟩
      have s2 := s1.trans (Same.new (o := .tup [.str "keep", .str "back"]) h2)
      generalize upd _ t2 (.tup [.str "keep", .str "back"]) = H2 at s2 ⊢
      have ht2 := Same.sqt s2 ht
      refine ⟨_, rfl, t, _, _, _, rfl, rfl, ht2, atI_nat (j := 0) rfl, rfl, _, rfl, iteFD (by decide +kernel) ?_⟩
      refine ⟨_, rfl, t, _, _, _, rfl, rfl, ht2, atI_nat (j := 1) rfl, fun x dx hx hdx ne => ?_⟩
      exact ⟨x, dx, .str c, .str c, rfl, upd_same, .str c, nl hv, fun hn H1 kp m hi => ⟨rfl, q x H1 (s2.trans (kpi_same2 hx hdx kp)) ⟨dx, hi⟩⟩, fun hn => absurd (show nameS c = true from hv) (by rw [show nameS c = false from hn]; decide)⟩
    | ref c =>
      refine ⟨_, rfl, t, _, _, _, rfl, rfl, ht, atI_nat (j := 0) rfl, rfl, _, rfl, iteFD (by decide +kernel) ?_⟩
      refine ⟨_, rfl, t, _, _, _, rfl, rfl, ht, atI_nat (j := 0) rfl, (by show 2 ≤ sizeLine; decide), fun t1 h1 => ?_⟩
      refine ⟨t1, _, rfl, .inr (SqT.of upd_same), rfl, rfl, _, rfl, iteFD (by decide +kernel) ?_⟩
      have s1 := (Same.new (o := .tup [.str "skip", .str "set"]) h1)
      generalize upd _ t1 (.tup [.str "skip", .str "set"]) = H1 at s1 ⊢
      have ht1 := Same.sqt s1 ht
      refine ⟨_, rfl, t, _, _, _, rfl, rfl, ht1, atI_nat (j := 0) rfl, (by show 2 ≤ sizeLine; decide), fun t2 h2 => ?_⟩
      refine ⟨t2, _, rfl, .inr (SqT.of upd_same), rfl, rfl, _, rfl, iteFD (by decide +kernel) ?_⟩
      have s2 := s1.trans (Same.new (o := .tup [.str "keep", .str "back"]) h2)
      generalize upd _ t2 (.tup [.str "keep", .str "back"]) = H2 at s2 ⊢
      have ht2 := Same.sqt s2 ht
      refine ⟨_, rfl, t, _, _, _, rfl, rfl, ht2, atI_nat (j := 0) rfl, rfl, _, rfl, iteTD (by decide +kernel) ?_⟩
      refine ⟨_, rfl, t, _, _, _, rfl, rfl, ht2, atI_nat (j := 1) rfl, fun x dx hx hdx ne => ?_⟩
      exact ⟨x, dx, .str c, .str c, rfl, upd_same, .str c, nl hv, fun hn H1 kp m hi => ⟨rfl, q x H1 (s2.trans (kpi_same2 hx hdx kp)) ⟨dx, hi⟩⟩, fun hn => absurd (show nameS c = true from hv) (by rw [show nameS c = false from hn]; decide)⟩
    | put c =>
      refine ⟨_, rfl, t, _, _, _, rfl, rfl, ht, atI_nat (j := 0) rfl, rfl, _, rfl, iteFD (by decide +kernel) ?_⟩
      refine ⟨_, rfl, t, _, _, _, rfl, rfl, ht, atI_nat (j := 0) rfl, (by show 2 ≤ sizeLine; decide), fun t1 h1 => ?_⟩
      refine ⟨t1, _, rfl, .inr (SqT.of upd_same), rfl, rfl, _, rfl, iteFD (by decide +kernel) ?_⟩
      have s1 := (Same.new (o := .tup [.str "skip", .str "set"]) h1)
      generalize upd _ t1 (.tup [.str "skip", .str "set"]) = H1 at s1 ⊢
      have ht1 := Same.sqt s1 ht
      refine ⟨_, rfl, t, _, _, _, rfl, rfl, ht1, atI_nat (j := 0) rfl, (by show 2 ≤ sizeLine; decide), fun t2 h2 => ?_⟩
      refine ⟨t2, _, rfl, .inr (SqT.of upd_same), rfl, rfl, _, rfl, iteFD (by decide +kernel) ?_⟩
      have s2 := s1.trans (Same.new (o := .tup [.str "keep", .str "back"]) h2)
      generalize upd _ t2 (.tup [.str "keep", .str "back"]) = H2 at s2 ⊢
      have ht2 := Same.sqt s2 ht
      refine ⟨_, rfl, t, _, _, _, rfl, rfl, ht2, atI_nat (j := 0) rfl, rfl, _, rfl, iteFD (by decide +kernel) ?_⟩
      refine ⟨_, rfl, t, _, _, _, rfl, rfl, ht2, atI_nat (j := 0) rfl, rfl, _, rfl, iteTD (by decide +kernel) ?_⟩
      refine ⟨_, rfl, t, _, _, _, rfl, rfl, ht2, atI_nat (j := 1) rfl, fun x dx hx hdx ne => ?_⟩
      exact ⟨x, dx, .str c, .str c, rfl, upd_same, .str c, nl hv, fun hn H1 kp m hi => ⟨rfl, q x H1 (s2.trans (kpi_same2 hx hdx kp)) ⟨dx, hi⟩⟩, fun hn => absurd (show nameS c = true from hv) (by rw [show nameS c = false from hn]; decide)⟩
    | opn c =>
      refine ⟨_, rfl, t, _, _, _, rfl, rfl, ht, atI_nat (j := 0) rfl, rfl, _, rfl, iteFD (by decide +kernel) ?_⟩
      refine ⟨_, rfl, t, _, _, _, rfl, rfl, ht, atI_nat (j := 0) rfl, (by show 2 ≤ sizeLine; decide), fun t1 h1 => ?_⟩
      refine ⟨t1, _, rfl, .inr (SqT.of upd_same), rfl, rfl, _, rfl, iteFD (by decide +kernel) ?_⟩
      have s1 := (Same.new (o := .tup [.str "skip", .str "set"]) h1)
      generalize upd _ t1 (.tup [.str "skip", .str "set"]) = H1 at s1 ⊢
      have ht1 := Same.sqt s1 ht
      refine ⟨_, rfl, t, _, _, _, rfl, rfl, ht1, atI_nat (j := 0) rfl, (by show 2 ≤ sizeLine; decide), fun t2 h2 => ?_⟩
      refine ⟨t2, _, rfl, .inr (SqT.of upd_same), rfl, rfl, _, rfl, iteFD (by decide +kernel) ?_⟩
      have s2 := s1.trans (Same.new (o := .tup [.str "keep", .str "back"]) h2)
      generalize upd _ t2 (.tup [.str "keep", .str "back"]) = H2 at s2 ⊢
      have ht2 := Same.sqt s2 ht
      refine ⟨_, rfl, t, _, _, _, rfl, rfl, ht2, atI_nat (j := 0) rfl, rfl, _, rfl, iteFD (by decide +kernel) ?_⟩
      refine ⟨_, rfl, t, _, _, _, rfl, rfl, ht2, atI_nat (j := 0) rfl, rfl, _, rfl, iteFD (by decide +kernel) ?_⟩
      refine ⟨_, rfl, t, _, _, _, rfl, rfl, ht2, atI_nat (j := 1) rfl, fun x dx hx hdx ne => ?_⟩
      exact ⟨x, dx, .str c, .str c, rfl, upd_same, .str c, nl hv, fun hn H1 kp m hi => ⟨rfl, q x H1 (s2.trans (kpi_same2 hx hdx kp)) ⟨dx, hi⟩⟩, fun hn => absurd (show nameS c = true from hv) (by rw [show nameS c = false from hn]; decide)⟩
end
end Pn

namespace Pn
open PySem L2
/-! ### == of an own instance whose class has an __eq__ of its own -/
section
variable {X : Cx} {CX : CXT} {k : Nat} {f C : Addr} {fd : FuncData} {ps : List Str} {sp : Sp} {E : XK}
/-- what stands to the right: a text, or an instance whose class is not first asked -/
def Right (K : PySem.W.Frag) (C : Addr) (H : Hp) (y : V) : Prop := (∃ z : Str, y = .str z ∧ PySem.W.notFirst K C (.type "str") = true) ∨ ∃ (b D dy : Addr) (gs : List (Str × V)), y = .ref b ∧ H b = some (.ins D dy gs) ∧ PySem.W.notFirst K C (.ref D) = true
def rOpIns (K : PySem.W.Frag) (nm : Str) (f : Addr) (sp : Sp) (E : XK) : R2 := fun x y H Q => ∃ (a C dx : Addr) (fs : List (Str × V)), x = .ref a ∧ H a = some (.ins C dx fs) ∧ PySem.W.findIn K (.ref C) nm = some (some (.ref f)) ∧ Right K C H y ∧ sp [x, y] H Q E
theorem op_eqIns (F : FnOk X.prog X.w X.K X.mg X.base CX k f fd ps sp) (hf : PySem.W.isFn X.K (.ref f) = true) (hr : Room k X.A) (hb : Binds X.K fd ps []) (hx : Passes CX X E) : OpR X (compareOp .Eq) (rOpIns X.K "__eq__" f sp E) := by
  intro pins s σ H x y v u Q I rx ry h
  obtain ⟨a, C, dx, fs, rfl, ha, hs, hy, q⟩ := h
  cases rx
  obtain ⟨mA, O, _⟩ := ins_get I.hok ha
  obtain ⟨od, J, _⟩ := O.look
  obtain ⟨m, hF⟩ := I.fr
  show wpAny (model X.prog X.w) X.A (richCompare .Eq (.ref a) u) (EP X pins σ Q) X.xe s
  have go : ∀ tb, PySem.W.Looks (model X.prog X.w) s.heap (typeOf u) tb → PySem.W.notFirst X.K C tb = true → wpAny (model X.prog X.w) X.A (richCompare .Eq (.ref a) u) (EP X pins σ Q) X.xe s := fun tb hl hn => by
    refine PySem.W.cmp_K (op := .Eq) (tb := tb) hr.units0 hF I.ok.mod.kin J hl hn hs hf ?_
    refine wpAny_mono (run_fnA F hr I.env0 hb hx I (.cons (show RelV (.ref a) (Value.ref a) from rfl) (.cons ry .nil)) q) (fun w s' z => ?_) fun _ _ x => x
    obtain ⟨z', H', I', rz, qz⟩ := z
    exact SlX.cmpback rz ⟨z', H', I', rz, qz⟩
  rcases hy with ⟨z, rfl, hn⟩ | ⟨b, D, dy, gs, rfl, hb2, hn⟩
  · obtain ⟨t, rfl⟩ := ry
    exact go _ (PySem.W.Looks.of_pure rfl) hn
  · cases ry
    obtain ⟨mB, O2, _⟩ := ins_get I.hok hb2
    obtain ⟨od2, J2, _⟩ := O2.look
    exact go _ J2.type hn
end
end Pn
namespace Pn
open PySem PySem.W PyProof.Rows
section
variable {prog : Program} {w : World} {A : Around} {E : Value → Shared → Prop} {s : Shared} {K : Frag} {x C L f : Addr} {h₀ : Heap} {m : Str → Option Value} {ox : Obj} {od : Option Obj} {b tb : Value}
/-- object.__ne__ asks __eq__ and turns its answer round -/
theorem obj_ne {Q : Fin → Shared → Prop} (hu : A.units < cLine) (X : K.In s.heap) (I : InstAt s.heap x ox C od) (hs : findIn K (.ref C) "__eq__" = some (some (.ref f))) (hf : isFn K (.ref f) = true)
    (h : wpAny (model prog w) A (call (.ref f) [.ref x, b]) (fun v s' => ∃ c, v = .bool c ∧ Q (.done (.ret (.bool (!c)))) s') E s) : wpAny (model prog w) A (Builtin.«object.__ne__» ⟨[.ref x, b], []⟩) Q E s := by
  unfold Builtin.«object.__ne__»
  repeat (first
    | with_reducible refine wpAny_cRoomFor hu ?_
    | (refine wpAny_bind (m := callSpecialIfBound? (.ref x) (Str.ofString "__eq__") [b])
        (ifBound_K X I hs hf (wpAny_mono h (fun v s' hv => by
          obtain ⟨c, rfl, hq⟩ := hv
          repeat (first | exact hq | exact wpAny_pure hq | exact wpAny_truthy_bool hq | (refine wpAny_bind (m := truthy (.bool _)) (wpAny_truthy_bool ?_)) | wp_step)) fun _ _ e => e)))
    | wp_step)
theorem rich_ne {Q : Value → Shared → Prop} (hu : A.units + 1 < cLine) (F : Fr h₀ L s.heap m) (X₀ : K.In h₀) (I : InstAt s.heap x ox C od) (hb : Looks (model prog w) s.heap (typeOf b) tb) (hn : notFirst K C tb = true)
    (hne : findIn K (.ref C) "__ne__" = some (some (.builtin "object.__ne__"))) (ho : mroIn K C (.type "object") = some true) (hs : findIn K (.ref C) "__eq__" = some (some (.ref f))) (hf : isFn K (.ref f) = true)
    (h : wpAny (model prog w) A.in1 (call (.ref f) [.ref x, b]) (fun v s' => ∃ c, v = .bool c ∧ Q (.bool (!c)) s') E s) : wpAny (model prog w) A (richCompare .NotEq (.ref x) b) Q E s := by
  have X := X₀.keeps F.keep
  have one : wpAny (model prog w) A (tryCompare (.ref x) (cmpInfo .NotEq).2.1 b) (fun r s' => ∃ v, r = some v ∧ Q v s') E s := by
    unfold tryCompare
    refine wpAny_bind (NtL.csib (I.type.andThen (looks_findIn X hne)) (PySem.F.slot_object_ne.bind _) (wpAny_call (codeAny_call_builtin PySem.F.slot_object_ne.plain PySem.F.entry_object_ne
      (check_slot (i := "object.__ne__") (owner := "object") (n := "__ne__") (by decide +kernel) (by decide +kernel) (I.type.andThen (looks_mroIn X ho)) (PySem.F.args_object_ne_2 _ _)
        (obj_ne (A := A.in1) hu X I hs hf (wpAny_mono h (fun v s' hv => ?_) fun _ _ e => e))))))
    obtain ⟨c, rfl, hq⟩ := hv
    first | exact ⟨c, rfl, wpAny_pure ⟨_, rfl, hq⟩⟩ | exact ⟨c, rfl, _, rfl, hq⟩ | exact ⟨c, rfl, wpAny_pure (wpAny_pure ⟨_, rfl, hq⟩)⟩
  unfold richCompare
  simp only [oneThing_ref]
  refine wpAny_holding (wpAny_bind (wpAny_cRoomFor (Nat.lt_of_succ_lt hu) ?_))
  refine wpAny_bind (I.type.here (wpAny_bind (hb.here ?_)))
  have last : ∀ {t : Option Value → Sem Value}, (∀ v, t (some v) = pure v) → wpAny (model prog w) A (tryCompare (.ref x) (cmpInfo .NotEq).2.1 b >>= t) Q E s := fun ht => wpAny_bind (wpAny_mono one (fun r s' ⟨v, hr, hq⟩ => by
    subst hr
    rw [ht]
    exact wpAny_pure hq) fun _ _ e => e)
  by_cases hq : tb = .ref C
  · subst hq
    rw [if_neg (by simp)]
    exact wpAny_bind (wpAny_pure (by simp only [Bool.false_eq_true, if_false]; exact last fun v => rfl))
  · have e : subIn K tb (.ref C) = some false := (Bool.or_eq_true_iff.mp hn).elim (fun e => absurd (beq_iff_eq.mp e) hq) beq_iff_eq.mp
    rw [if_pos (by simpa using fun z => hq z.symm)]
    exact wpAny_bind ((looks_subIn X e).here (by simp only [Bool.false_eq_true, if_false]; exact last fun v => rfl))
end
end Pn
namespace Pn
open PySem L2
section
variable {X : Cx} {CX : CXT} {k : Nat} {f C : Addr} {fd : FuncData} {ps : List Str} {sp : Sp} {E : XK}
/-- != of an own instance with an __eq__ of its own and object's __ne__ -/
def rNeIns (K : PySem.W.Frag) (f : Addr) (sp : Sp) (E : XK) : R2 := fun x y H Q => ∃ (a C dx : Addr) (fs : List (Str × V)), x = .ref a ∧ H a = some (.ins C dx fs) ∧ PySem.W.findIn K (.ref C) "__eq__" = some (some (.ref f)) ∧
  PySem.W.findIn K (.ref C) "__ne__" = some (some (.builtin "object.__ne__")) ∧ PySem.W.mroIn K C (.type "object") = some true ∧ Right K C H y ∧ sp [x, y] H (fun v H' => ∃ c, v = .bl c ∧ Q (.bl (!c)) H') E
theorem op_neIns (F : FnOk X.prog X.w X.K X.mg X.base CX k f fd ps sp) (hf : PySem.W.isFn X.K (.ref f) = true) (hr : Room (k + 1) X.A) (hb : Binds X.K fd ps []) (hx : Passes CX X E) : OpR X (compareOp .NotEq) (rNeIns X.K f sp E) := by
  intro pins s σ H x y v u Q I rx ry h
  obtain ⟨a, C, dx, fs, rfl, ha, hs, hne, ho, hy, q⟩ := h
  cases rx
  obtain ⟨mA, O, _⟩ := ins_get I.hok ha
  obtain ⟨od, J, _⟩ := O.look
  obtain ⟨m, hF⟩ := I.fr
  show wpAny (model X.prog X.w) X.A (richCompare .NotEq (.ref a) u) (EP X pins σ Q) X.xe s
  have hr1 : Room k X.A.in1 := Room.in1 hr
  have go : ∀ tb, PySem.W.Looks (model X.prog X.w) s.heap (typeOf u) tb → PySem.W.notFirst X.K C tb = true → wpAny (model X.prog X.w) X.A (richCompare .NotEq (.ref a) u) (EP X pins σ Q) X.xe s := fun tb hl hn => by
    refine rich_ne (hu_of hr) hF I.ok.mod.kin J hl hn hne ho hs hf ?_
    refine wpAny_mono (run_fnA F hr1 I.env0.in1 hb hx I (.cons (show RelV (.ref a) (Value.ref a) from rfl) (.cons ry .nil)) q) (fun w s' z => ?_) fun _ _ x => x
    obtain ⟨z', H', I', rz, c, ez, qz⟩ := z
    subst ez
    cases (show w = Value.bool c from rz)
    exact ⟨c, rfl, .bl (!c), H', I', rfl, qz⟩
  rcases hy with ⟨z, rfl, hn⟩ | ⟨b, D, dy, gs, rfl, hb2, hn⟩
  · obtain ⟨t, rfl⟩ := ry
    exact go _ (PySem.W.Looks.of_pure rfl) hn
  · cases ry
    obtain ⟨mB, O2, _⟩ := ins_get I.hok hb2
    obtain ⟨od2, J2, _⟩ := O2.look
    exact go _ J2.type hn
end
end Pn

namespace Pn
open PySem L2 TL
abbrev sSameRow : Stmt := top 13
abbrev sNoteEq : Stmt := inClass (top 15) 2
abbrev sSkipEq : Stmt := inClass (top 16) 2
abbrev sSetEq : Stmt := inClass (top 17) 2
abbrev sKeepEq : Stmt := inClass (top 18) 2
abbrev sBackEq : Stmt := inClass (top 19) 2
abbrev sRefEq : Stmt := inClass (top 20) 2
abbrev sPutEq : Stmt := inClass (top 21) 2
abbrev sOpenEq : Stmt := inClass (top 22) 2
section
variable {P : Program} {w : World} {K : PySem.W.Frag} {mg : Str → Option Value} {base : Heap}
/-- an __eq__ of an own class -/
structure TEq (K : PySem.W.Frag) (C : Addr) (qual : Str) (st : Stmt) : Type where
  f : Addr
  fd : FuncData
  F : Fun K "__eq__" qual st f fd
  b : Binds K fd ["self", "other"] []
  hs : PySem.W.findIn K (.ref C) "__eq__" = some (some (.ref f))
  hf : PySem.W.isFn K (.ref f) = true
def clsOf (T : TRows K mg) : RowD → Addr
  | .note _ _ => T.note.C
  | .skip _ _ => T.skip.C
  | .set _ _ => T.set.C
  | .keep _ => T.keep.C
  | .back _ => T.back.C
  | .ref _ => T.ref.C
  | .put _ => T.put.C
  | .opn _ => T.open_.C
theorem insRow_ins (T : TRows K mg) (dx : Addr) (r : RowD) : ∃ fs, insRow T dx r = .ins (clsOf T r) dx fs := by cases r <;> exact ⟨_, rfl⟩
theorem cls_of (T : TRows K mg) (r : RowD) : Cls K (clsOf T r) := by
  cases r with
  | note _ _ => exact T.note.cl
  | skip _ _ => exact T.skip.cl
  | set _ _ => exact T.set.cl
  | keep _ => exact T.keep.cl
  | back _ => exact T.back.cl
  | ref _ => exact T.ref.cl
  | put _ => exact T.put.cl
  | opn _ => exact T.open_.cl
structure TSame {K : PySem.W.Frag} {mg : Str → Option Value} (T : TRows K mg) : Type where
  S : TStrs T
  CR : Addr
  mR : mg "Row" = some (.ref CR)
  kS : PySem.W.kitOne K (.type "str") (.ref CR) = some false
  kR : ∀ r, PySem.W.kitOne K (.ref (clsOf T r)) (.ref CR) = some true
  nS : ∀ r, PySem.W.notFirst K (clsOf T r) (.type "str") = true
  nR : ∀ r r', PySem.W.notFirst K (clsOf T r) (.ref (clsOf T r')) = true
  cA : ∀ r, PySem.W.findIn K (.ref (clsOf T r)) "__class__" = some (some (.builtin "object.__class__"))
  cN : PySem.W.specialIn K (.builtin "object.__class__") "__get__" = some (some (.builtin "getset_descriptor.__get__"))
  cT : PySem.W.takesIn K (.builtin "object.__class__") = some true
  cM : ∀ r, PySem.W.mroIn K (clsOf T r) (.type "object") = some true
  ne : ∀ r, PySem.W.findIn K (.ref (clsOf T r)) "__ne__" = some (some (.builtin "object.__ne__"))
  mStr : mg "str" = none
  same : At K mg "same_row" sSameRow ["row", "other"]
  note : TEq K T.note.C "Note.__eq__" sNoteEq
  skip : TEq K T.skip.C "Skip.__eq__" sSkipEq
  set : TEq K T.set.C "Set.__eq__" sSetEq
  keep : TEq K T.keep.C "Keep.__eq__" sKeepEq
  back : TEq K T.back.C "Back.__eq__" sBackEq
  ref : TEq K T.ref.C "Ref.__eq__" sRefEq
  put : TEq K T.put.C "Put.__eq__" sPutEq
  open_ : TEq K T.open_.C "Open.__eq__" sOpenEq
/-- a row beside a text or a row -/
def spSame (T : TRows K mg) : Sp := fun vs H Q _ => ∃ (a : Addr) (y : V) (r : RowD), vs = [.ref a, y] ∧ RowAt T H a r ∧ rowSmall r ∧ ((∃ z, y = .str z ∧ Q (.bl false) H) ∨ ∃ (b : Addr) (r' : RowD), y = .ref b ∧ RowAt T H b r' ∧ rowSmall r' ∧ Q (.bl (decide (rowText r = rowText r'))) H)
theorem scSameRow : FnScope ["row", "other"] ["row", "other"] (defScope sSameRow) := ⟨rfl, rfl, rfl, by decide +kernel, rfl, by decide +kernel, by decide +kernel⟩
theorem ok_same {T : TRows K mg} (S : TSame T) : FnOk P w K mg base CX0 4 S.same.f S.same.fd ["row", "other"] (spSame T) := by
  refine S.same.F.ok scSameRow (fun vs H Q E h => ?_) (fun cdv A outer s H vs Q E hr h => ?_)
  · obtain ⟨a, y, r, rfl, _⟩ := h
    rfl
  · obtain ⟨a, y, r, rfl, ha, hs, q⟩ := h
    refine ⟨_, pss_one (ps_ret (pe_and (pe_callB call_isi (by rfl) T.N.mIsi (by decide +kernel) (pa_cons (pv 1) (pa_cons (pe_glob (v := .ref S.CR) (by rfl) S.mR rfl) pa_nil))) (pe_one (pe_cmpR op_eq (pe_callTy (call_strRowK (K := K) (mg := mg) rfl rfl T S.S hr) (by rfl) S.mStr (by decide +kernel) (pa_cons (pv 0) pa_nil)) (pe_callTy (call_strRowK (K := K) (mg := mg) rfl rfl T S.S hr) (by rfl) S.mStr (by decide +kernel) (pa_cons (pv 1) pa_nil)) (nomark _))))), ?_⟩
    rcases q with ⟨z, rfl, q⟩ | ⟨b, r', rfl, hb, hs', q⟩
    · refine ⟨_, rfl, .str z, .ref S.CR, _, _, false, rfl, .own _, .base (.str z), S.kS, _, rfl, iteF ?_⟩
      exact q
    · obtain ⟨dy, hb2⟩ := id hb
      obtain ⟨gs, eg⟩ := insRow_ins T dy r'
      rw [eg] at hb2
      refine ⟨_, rfl, .ref b, .ref S.CR, _, _, true, rfl, .own _, .base (.ins hb2 (cls_of T r') (S.cA r') S.cN S.cT (S.cM r')), S.kR r', _, rfl, iteT ?_⟩
      refine ⟨_, rfl, a, r, rfl, ha, hs, _, rfl, b, r', rfl, hb, hs', rfl, ?_⟩
      have e : decide (V.str (rowText r) = V.str (rowText r')) = decide (rowText r = rowText r') := by
        by_cases h : rowText r = rowText r'
        · rw [h, decide_eq_true rfl, decide_eq_true rfl]
        · rw [decide_eq_false h, decide_eq_false (fun z => h (V.str.inj z))]
      rw [e]
      exact q
theorem scNoteEq : FnScope ["self", "other"] ["self", "other"] (defScope sNoteEq) := ⟨rfl, rfl, rfl, by decide +kernel, rfl, by decide +kernel, by decide +kernel⟩
theorem ok_NoteEq {T : TRows K mg} (S : TSame T) : FnOk P w K mg base CX0 5 S.note.f S.note.fd ["self", "other"] (spSame T) := by
  refine S.note.F.ok scNoteEq (fun vs H Q E h => ?_) (fun cdv A outer s H vs Q E hr h => ?_)
  · obtain ⟨a, y, r, rfl, _⟩ := h
    rfl
  · obtain ⟨a, y, r, rfl, ha, hs, q⟩ := h
    refine ⟨_, pss_one (ps_ret (pe_call (ok_same S) hr rfl S.same.m S.same.F.kp S.same.b .nil pass0 (pa_cons (pv 0) (pa_cons (pv 1) pa_nil)))), ?_⟩
    exact ⟨_, rfl, _, rfl, a, y, r, rfl, ha, hs, q⟩
theorem scSkipEq : FnScope ["self", "other"] ["self", "other"] (defScope sSkipEq) := ⟨rfl, rfl, rfl, by decide +kernel, rfl, by decide +kernel, by decide +kernel⟩
theorem ok_SkipEq {T : TRows K mg} (S : TSame T) : FnOk P w K mg base CX0 5 S.skip.f S.skip.fd ["self", "other"] (spSame T) := by
  refine S.skip.F.ok scSkipEq (fun vs H Q E h => ?_) (fun cdv A outer s H vs Q E hr h => ?_)
  · obtain ⟨a, y, r, rfl, _⟩ := h
    rfl
  · obtain ⟨a, y, r, rfl, ha, hs, q⟩ := h
    refine ⟨_, pss_one (ps_ret (pe_call (ok_same S) hr rfl S.same.m S.same.F.kp S.same.b .nil pass0 (pa_cons (pv 0) (pa_cons (pv 1) pa_nil)))), ?_⟩
    exact ⟨_, rfl, _, rfl, a, y, r, rfl, ha, hs, q⟩
theorem scSetEq : FnScope ["self", "other"] ["self", "other"] (defScope sSetEq) := ⟨rfl, rfl, rfl, by decide +kernel, rfl, by decide +kernel, by decide +kernel⟩
theorem ok_SetEq {T : TRows K mg} (S : TSame T) : FnOk P w K mg base CX0 5 S.set.f S.set.fd ["self", "other"] (spSame T) := by
  refine S.set.F.ok scSetEq (fun vs H Q E h => ?_) (fun cdv A outer s H vs Q E hr h => ?_)
  · obtain ⟨a, y, r, rfl, _⟩ := h
    rfl
  · obtain ⟨a, y, r, rfl, ha, hs, q⟩ := h
    refine ⟨_, pss_one (ps_ret (pe_call (ok_same S) hr rfl S.same.m S.same.F.kp S.same.b .nil pass0 (pa_cons (pv 0) (pa_cons (pv 1) pa_nil)))), ?_⟩
    exact ⟨_, rfl, _, rfl, a, y, r, rfl, ha, hs, q⟩
theorem scKeepEq : FnScope ["self", "other"] ["self", "other"] (defScope sKeepEq) := ⟨rfl, rfl, rfl, by decide +kernel, rfl, by decide +kernel, by decide +kernel⟩
theorem ok_KeepEq {T : TRows K mg} (S : TSame T) : FnOk P w K mg base CX0 5 S.keep.f S.keep.fd ["self", "other"] (spSame T) := by
  refine S.keep.F.ok scKeepEq (fun vs H Q E h => ?_) (fun cdv A outer s H vs Q E hr h => ?_)
  · obtain ⟨a, y, r, rfl, _⟩ := h
    rfl
  · obtain ⟨a, y, r, rfl, ha, hs, q⟩ := h
    refine ⟨_, pss_one (ps_ret (pe_call (ok_same S) hr rfl S.same.m S.same.F.kp S.same.b .nil pass0 (pa_cons (pv 0) (pa_cons (pv 1) pa_nil)))), ?_⟩
    exact ⟨_, rfl, _, rfl, a, y, r, rfl, ha, hs, q⟩
theorem scBackEq : FnScope ["self", "other"] ["self", "other"] (defScope sBackEq) := ⟨rfl, rfl, rfl, by decide +kernel, rfl, by decide +kernel, by decide +kernel⟩
theorem ok_BackEq {T : TRows K mg} (S : TSame T) : FnOk P w K mg base CX0 5 S.back.f S.back.fd ["self", "other"] (spSame T) := by
  refine S.back.F.ok scBackEq (fun vs H Q E h => ?_) (fun cdv A outer s H vs Q E hr h => ?_)
  · obtain ⟨a, y, r, rfl, _⟩ := h
    rfl
  · obtain ⟨a, y, r, rfl, ha, hs, q⟩ := h
    refine ⟨_, pss_one (ps_ret (pe_call (ok_same S) hr rfl S.same.m S.same.F.kp S.same.b .nil pass0 (pa_cons (pv 0) (pa_cons (pv 1) pa_nil)))), ?_⟩
    exact ⟨_, rfl, _, rfl, a, y, r, rfl, ha, hs, q⟩
theorem scRefEq : FnScope ["self", "other"] ["self", "other"] (defScope sRefEq) := ⟨rfl, rfl, rfl, by decide +kernel, rfl, by decide +kernel, by decide +kernel⟩
theorem ok_RefEq {T : TRows K mg} (S : TSame T) : FnOk P w K mg base CX0 5 S.ref.f S.ref.fd ["self", "other"] (spSame T) := by
  refine S.ref.F.ok scRefEq (fun vs H Q E h => ?_) (fun cdv A outer s H vs Q E hr h => ?_)
  · obtain ⟨a, y, r, rfl, _⟩ := h
    rfl
  · obtain ⟨a, y, r, rfl, ha, hs, q⟩ := h
    refine ⟨_, pss_one (ps_ret (pe_call (ok_same S) hr rfl S.same.m S.same.F.kp S.same.b .nil pass0 (pa_cons (pv 0) (pa_cons (pv 1) pa_nil)))), ?_⟩
    exact ⟨_, rfl, _, rfl, a, y, r, rfl, ha, hs, q⟩
theorem scPutEq : FnScope ["self", "other"] ["self", "other"] (defScope sPutEq) := ⟨rfl, rfl, rfl, by decide +kernel, rfl, by decide +kernel, by decide +kernel⟩
theorem ok_PutEq {T : TRows K mg} (S : TSame T) : FnOk P w K mg base CX0 5 S.put.f S.put.fd ["self", "other"] (spSame T) := by
  refine S.put.F.ok scPutEq (fun vs H Q E h => ?_) (fun cdv A outer s H vs Q E hr h => ?_)
  · obtain ⟨a, y, r, rfl, _⟩ := h
    rfl
  · obtain ⟨a, y, r, rfl, ha, hs, q⟩ := h
    refine ⟨_, pss_one (ps_ret (pe_call (ok_same S) hr rfl S.same.m S.same.F.kp S.same.b .nil pass0 (pa_cons (pv 0) (pa_cons (pv 1) pa_nil)))), ?_⟩
    exact ⟨_, rfl, _, rfl, a, y, r, rfl, ha, hs, q⟩
theorem scOpenEq : FnScope ["self", "other"] ["self", "other"] (defScope sOpenEq) := ⟨rfl, rfl, rfl, by decide +kernel, rfl, by decide +kernel, by decide +kernel⟩
theorem ok_OpenEq {T : TRows K mg} (S : TSame T) : FnOk P w K mg base CX0 5 S.open_.f S.open_.fd ["self", "other"] (spSame T) := by
  refine S.open_.F.ok scOpenEq (fun vs H Q E h => ?_) (fun cdv A outer s H vs Q E hr h => ?_)
  · obtain ⟨a, y, r, rfl, _⟩ := h
    rfl
  · obtain ⟨a, y, r, rfl, ha, hs, q⟩ := h
    refine ⟨_, pss_one (ps_ret (pe_call (ok_same S) hr rfl S.same.m S.same.F.kp S.same.b .nil pass0 (pa_cons (pv 0) (pa_cons (pv 1) pa_nil)))), ?_⟩
    exact ⟨_, rfl, _, rfl, a, y, r, rfl, ha, hs, q⟩
/-- == of a row with a text or a row -/
def rEqRow (T : TRows K mg) : R2 := fun x y H Q => ∃ (a : Addr) (r : RowD), x = .ref a ∧ RowAt T H a r ∧ rowSmall r ∧ ((∃ z, y = .str z ∧ Q (.bl false) H) ∨ ∃ (b : Addr) (r' : RowD), y = .ref b ∧ RowAt T H b r' ∧ rowSmall r' ∧ Q (.bl (decide (rowText r = rowText r'))) H)
theorem op_eqRow {X : Cx} {T : TRows X.K X.mg} (S : TSame T) (hr : Room 5 X.A) : OpR X (compareOp .Eq) (rEqRow T) := by
  intro pins s σ H x y v u Q I rx ry h
  obtain ⟨a, r, rfl, ha, hs, q⟩ := h
  obtain ⟨dx, ha2⟩ := id ha
  have hright : Right X.K (clsOf T r) H y := by
    rcases q with ⟨z, rfl, _⟩ | ⟨b, r', rfl, ⟨dy, hb⟩, _⟩
    · exact .inl ⟨z, rfl, S.nS r⟩
    · obtain ⟨gs, eg⟩ := insRow_ins T dy r'
      rw [eg] at hb
      exact .inr ⟨b, _, dy, gs, rfl, hb, S.nR r r'⟩
  have hsp : spSame T [.ref a, y] H Q E0 := ⟨a, y, r, rfl, ha, hs, q⟩
  cases r with
  | note c n => exact op_eqIns (ok_NoteEq S) S.note.hf hr S.note.b pass0 pins s σ H (.ref a) y v u Q I rx ry ⟨a, _, dx, _, rfl, ha2, S.note.hs, hright, hsp⟩
  | skip c n => exact op_eqIns (ok_SkipEq S) S.skip.hf hr S.skip.b pass0 pins s σ H (.ref a) y v u Q I rx ry ⟨a, _, dx, _, rfl, ha2, S.skip.hs, hright, hsp⟩
  | set c n => exact op_eqIns (ok_SetEq S) S.set.hf hr S.set.b pass0 pins s σ H (.ref a) y v u Q I rx ry ⟨a, _, dx, _, rfl, ha2, S.set.hs, hright, hsp⟩
  | keep c => exact op_eqIns (ok_KeepEq S) S.keep.hf hr S.keep.b pass0 pins s σ H (.ref a) y v u Q I rx ry ⟨a, _, dx, _, rfl, ha2, S.keep.hs, hright, hsp⟩
  | back c => exact op_eqIns (ok_BackEq S) S.back.hf hr S.back.b pass0 pins s σ H (.ref a) y v u Q I rx ry ⟨a, _, dx, _, rfl, ha2, S.back.hs, hright, hsp⟩
  | ref c => exact op_eqIns (ok_RefEq S) S.ref.hf hr S.ref.b pass0 pins s σ H (.ref a) y v u Q I rx ry ⟨a, _, dx, _, rfl, ha2, S.ref.hs, hright, hsp⟩
  | put c => exact op_eqIns (ok_PutEq S) S.put.hf hr S.put.b pass0 pins s σ H (.ref a) y v u Q I rx ry ⟨a, _, dx, _, rfl, ha2, S.put.hs, hright, hsp⟩
  | opn c => exact op_eqIns (ok_OpenEq S) S.open_.hf hr S.open_.b pass0 pins s σ H (.ref a) y v u Q I rx ry ⟨a, _, dx, _, rfl, ha2, S.open_.hs, hright, hsp⟩
/-- != of a row with a text or a row -/
def rNeRow (T : TRows K mg) : R2 := fun x y H Q => ∃ (a : Addr) (r : RowD), x = .ref a ∧ RowAt T H a r ∧ rowSmall r ∧ ((∃ z, y = .str z ∧ Q (.bl true) H) ∨ ∃ (b : Addr) (r' : RowD), y = .ref b ∧ RowAt T H b r' ∧ rowSmall r' ∧ Q (.bl (!decide (rowText r = rowText r'))) H)
theorem op_neRow {X : Cx} {T : TRows X.K X.mg} (S : TSame T) (hr : Room 6 X.A) : OpR X (compareOp .NotEq) (rNeRow T) := by
  intro pins s σ H x y v u Q I rx ry h
  obtain ⟨a, r, rfl, ha, hs, q⟩ := h
  obtain ⟨dx, ha2⟩ := id ha
  have hright : Right X.K (clsOf T r) H y := by
    rcases q with ⟨z, rfl, _⟩ | ⟨b, r', rfl, ⟨dy, hb⟩, _⟩
    · exact .inl ⟨z, rfl, S.nS r⟩
    · obtain ⟨gs, eg⟩ := insRow_ins T dy r'
      rw [eg] at hb
      exact .inr ⟨b, _, dy, gs, rfl, hb, S.nR r r'⟩
  have hsp : spSame T [.ref a, y] H (fun v H' => ∃ c, v = .bl c ∧ Q (.bl (!c)) H') E0 := ⟨a, y, r, rfl, ha, hs, q.elim (fun ⟨z, e, q⟩ => .inl ⟨z, e, _, rfl, q⟩) fun ⟨b, r', e, h1, h2, q⟩ => .inr ⟨b, r', e, h1, h2, _, rfl, q⟩⟩
  have hne := S.ne r
  have hm := S.cM r
  cases r with
  | note c n => exact op_neIns (ok_NoteEq S) S.note.hf hr S.note.b pass0 pins s σ H (.ref a) y v u Q I rx ry ⟨a, _, dx, _, rfl, ha2, S.note.hs, hne, hm, hright, hsp⟩
  | skip c n => exact op_neIns (ok_SkipEq S) S.skip.hf hr S.skip.b pass0 pins s σ H (.ref a) y v u Q I rx ry ⟨a, _, dx, _, rfl, ha2, S.skip.hs, hne, hm, hright, hsp⟩
  | set c n => exact op_neIns (ok_SetEq S) S.set.hf hr S.set.b pass0 pins s σ H (.ref a) y v u Q I rx ry ⟨a, _, dx, _, rfl, ha2, S.set.hs, hne, hm, hright, hsp⟩
  | keep c => exact op_neIns (ok_KeepEq S) S.keep.hf hr S.keep.b pass0 pins s σ H (.ref a) y v u Q I rx ry ⟨a, _, dx, _, rfl, ha2, S.keep.hs, hne, hm, hright, hsp⟩
  | back c => exact op_neIns (ok_BackEq S) S.back.hf hr S.back.b pass0 pins s σ H (.ref a) y v u Q I rx ry ⟨a, _, dx, _, rfl, ha2, S.back.hs, hne, hm, hright, hsp⟩
  | ref c => exact op_neIns (ok_RefEq S) S.ref.hf hr S.ref.b pass0 pins s σ H (.ref a) y v u Q I rx ry ⟨a, _, dx, _, rfl, ha2, S.ref.hs, hne, hm, hright, hsp⟩
  | put c => exact op_neIns (ok_PutEq S) S.put.hf hr S.put.b pass0 pins s σ H (.ref a) y v u Q I rx ry ⟨a, _, dx, _, rfl, ha2, S.put.hs, hne, hm, hright, hsp⟩
  | opn c => exact op_neIns (ok_OpenEq S) S.open_.hf hr S.open_.b pass0 pins s σ H (.ref a) y v u Q I rx ry ⟨a, _, dx, _, rfl, ha2, S.open_.hs, hne, hm, hright, hsp⟩
end
end Pn

namespace Pn
open PySem PySem.Spec PyProof.Rows L2
/-! ### the law's def at the surrounding that the judge calls it from: there no repr is under way -/
section
variable {P : Program} {w : World} {K : PySem.W.Frag} {mg mb : Str → Option Value} {s₁ : Shared} {a : Addr} {vs : List Value} {ns : List Int}
/-- a tracking of the script alone -/
theorem law_track (KX : K.In s₁.heap) (ha : s₁.heap.get? a = some { cls := .type "list", data := .seq vs.toArray }) (hi : IntsAre vs ns) (hl : ns.length ≤ sizeLine) :
    ∃ H : Hp, Only H ∧ SqL K H a (ns.map V.int) ∧ HOk P w H s₁.heap ∧ ∀ b, H b ≠ none → b = a ∧ K.lookup a = none := by
  have rv := vals_ints hi
  cases hk : K.lookup a with
  | some o =>
    have e := (KX a o hk).symm.trans ha
    cases e
    exact ⟨fun _ => none, fun _ => .inl rfl, .inr ⟨_, vs.toArray, _, hk, rfl, rfl, rfl, by rw [List.size_toArray, hi.length]; exact hl, by simpa using rv⟩, fun b u z => (nomatch (show (none : Option HO) = some u from z)), fun b z => absurd rfl z⟩
  | none =>
    let o : HO := .frz { cls := .type "list", data := .seq vs.toArray } (.lst (ns.map V.int))
    have at_ : upd (fun _ => none) a o a = some o := upd_same
    refine ⟨upd (fun _ => none) a o, fun b => ?_, .inl (.inr ⟨_, at_⟩), fun b u z => ?_, fun b z => ⟨?_, rfl⟩⟩
    · by_cases h : b = a
      · exact .inr ⟨_, _, by rw [h]; exact at_⟩
      · exact .inl (by rw [upd_ne h])
    · by_cases h : b = a
      · rw [h, at_] at z
        cases z
        rw [h]
        exact ⟨ha, by rw [List.length_map]; exact hl, vs, _, rv, ha⟩
      · rw [upd_ne h] at z
        cases z
    · by_cases h : b = a
      · exact h
      · rw [upd_ne h] at z
        exact absurd rfl z
/-- what stands behind it is the module's -/
theorem law_env (KX : K.In s₁.heap) (hns : s₁.heap.Ns mainGlobals mg) (hb : s₁.heap.Ns builtinsNs mb) (hbb : ∀ x : Str, x ≠ "__name__" → mb x = bootBuiltins x) (hlim : s₁.heap.NoLimit) (hg : s₁.gens = #[])
    (ha : s₁.heap.get? a = some { cls := .type "list", data := .seq vs.toArray }) {H : Hp} (hok : HOk P w H s₁.heap) (hA : ∀ b, H b ≠ none → b = a ∧ K.lookup a = none) :
    K.In (hidT s₁.heap H) ∧ (hidT s₁.heap H).Ns mainGlobals mg ∧ Env0 P w K mg (hidT s₁.heap H) callerA [] s₁ H := by
  have free : ∀ {b : Addr}, (b = a → K.lookup a = none → False) → H b = none := fun {b} h => by
    cases q : H b with
    | none => rfl
    | some u =>
      obtain ⟨e1, e2⟩ := hA b (by rw [q]; simp)
      exact (h e1 e2).elim
  have ns_ : ∀ {b : Addr} {m : Str → Option Value}, s₁.heap.Ns b m → (hidT s₁.heap H).Ns b m := fun {b m} ⟨o, es, ep, e, d, r⟩ => ⟨o, es, ep, hidT_get e (free fun z _ => by
    rw [z, ha] at e
    cases e
    exact Data.noConfusion d), d, r⟩
  have kin : K.In (hidT s₁.heap H) := fun b o e => hidT_get (KX b o e) (free fun z n => by
    rw [z, n] at e
    cases e)
  obtain ⟨mc, l1, l2⟩ := hlim
  exact ⟨kin, ns_ hns, rfl, ⟨kin, ns_ hns, ⟨mb, ns_ hb, hbb⟩, ⟨mc, ns_ l1, l2⟩⟩, fun b o e => of_hidT e, Nat.le_of_eq (hidT_size _ _), trivial, fun b h => (by cases (show b ∈ ([] : List Addr) from h)), hok, .of_eq hg⟩
end
end Pn
namespace Pn
open PySem PySem.Spec PyProof.Rows L2
section
variable {P : Program} {w : World} {K : PySem.W.Frag} {mg : Str → Option Value} {base : Heap} {A : Around}
/-- a def's promise at one surrounding, with no frame below -/
def RunAt (P : Program) (w : World) (K : PySem.W.Frag) (mg : Str → Option Value) (base : Heap) (A : Around) (f : Addr) (fd : FuncData) (ps : List Str) (sp : Sp) : Prop :=
  ∀ (s : Shared) (H : Hp) (us : List Value) (vs : List V) (Q : VK) (E : XK), Env0 P w K mg base A [] s H → BindsTo s fd ⟨us, []⟩ (ps.zip us) → Vals vs us → sp vs H Q E → codeAny (model P w) A (.call (.ref f) ⟨us, []⟩) (CR CX0 [] P w H s Q E) s
theorem fun_at {x qual : Str} {st : Stmt} {f : Addr} {fd : FuncData} {N ps : List Str} {k : Nat} {sp : Sp} (F : Fun K x qual st f fd) (S : FnScope N ps (defScope st)) (hr : Room (k + 1) A) (len : ∀ vs H Q E, sp vs H Q E → vs.length = ps.length)
    (hbody : ∀ (cdv : Value) (s : Shared) (H : Hp) (vs : List V) (Q : VK) (E : XK), Room k (A.deeper (envOfC qual (defScope st) s.heap.objs.size f cdv)) → sp vs H Q E →
      ∃ t, PSs (cxOf CX0 P w K mg base N qual (defScope st) f cdv A [] s H E).nox (defBody st) t ∧ t { nx := fun _ H' => Q .non H', rt := Q } (L2.start N vs) H) : RunAt P w K mg base A f fd ps sp := by
  obtain ⟨oc, od, kV, doc, pm, an, cdv, ct, osl, rfl, lk, hcd⟩ := F.ex
  intro s H us vs Q E e0 hb r hsp
  have keep : ∀ b o, base.get? b = some o → s.heap.get? b = some o := fun b o e => (e0.bs b o e).1
  have kin := e0.mod.kin.keeps keep
  have par : ∀ y ∈ ps.zip us, (defScope st).names.lookup y.1 = some .local ∨ ((defScope st).names.lookup y.1 = some .cell ∧ ((cellsFrom (s.heap.objs.size + 1) (defScope st).names []).lookup y.1).isSome = true) := fun y hy =>
    (S.par y.1 (List.of_mem_zip (a := y.1) (b := y.2) hy).1).imp id fun q => ⟨q, PySem.W.cellsFrom_some _ _ _ (.inl q)⟩
  refine codeAny_call_function hr.depth (kin _ _ lk) rfl S.co S.gen rfl (PySem.W.codeRec_of kin hcd) (hb _ _ _ _ (wpAny_newFunctionEnv_cells S.kind par fun env he s1 x => ?_))
  subst he
  obtain ⟨t, ht, hq⟩ := hbody cdv s H vs Q E (hr.deeper _) hsp
  refine ⟨(e0.mod.nolimit.keeps keep).keeps x.toInCall.keep, codeAny_func (wpAny_mono (ht.nox.run [] s1 (L2.start N vs) H _ (inv_start S hr.hd e0 (len _ _ _ _ hsp) r x) hq) (fun fl s' hs => ?_) fun e s' hs => hs)⟩
  cases fl with
  | ret u =>
    obtain ⟨v, σ', H', J, rv, q⟩ := hs
    exact ⟨v, H', J.os, J.bare, J.base, J.hok, rv, q⟩
  | next =>
    obtain ⟨σ', H', J, q⟩ := hs
    exact ⟨V.non, H', J.os, J.bare, J.base, J.hok, rfl, q⟩
  | brk =>
    obtain ⟨_, _, _, q⟩ := hs
    exact False.elim q
  | cont =>
    obtain ⟨_, _, _, q⟩ := hs
    exact False.elim q
end
/-- the goal that k_head leaves, from the law's promise at callerA -/
theorem walk_g {l : PySem.W.OpenLaw} {n : Nat} {q : Program} {loose : List Str} {XP : (Str → Option Value) → Heap → Prop} {YP : World → Heap → Prop} {d : DefRec} {K : Params → PySem.W.Frag} {sp : PySem.W.Frag → Sp} {x : Str}
    (hn : l.most = some n) (hn2 : n ≤ sizeLine) (hdf : d.params.defaults = []) (hY : ∀ (w : World) (h : Heap), YP w h → (K w.params).In h)
    (F : ∀ (w : World) (mg : Str → Option Value) (fa : Addr) (h : Heap), (K w.params).In h → h.Ns mainGlobals mg → mg d.name = some (.ref fa) →
      ∃ fd : FuncData, (∀ (s : Shared) (u : Value), BindsTo s fd ⟨[u], []⟩ [(x, u)]) ∧
        ∀ base : Heap, (K w.params).In base → base.Ns mainGlobals mg → RunAt l.prog w (K w.params) mg base callerA fa fd [x] (sp (K w.params)))
    (hsp : ∀ (K : PySem.W.Frag) (H : Hp) (a : Addr) (ns : List Int), ns.length ≤ n → SqL K H a (ns.map V.int) → sp K [.ref a] H (fun v _ => v = .bl true) fun _ _ _ => False) :
    PySem.W.WalkO q loose XP YP l.row.toRowW d [] (fun f vs => PySem.call f vs) := by
  refine Att.attach_call hn hdf fun w s₀ s₁ mg mb fa o pm cd doc a vs ns G Y ho hd hcd hmg hobj hints hlen hg => ?_
  have KX := hY w _ Y
  obtain ⟨fd, hb, hF⟩ := F w mg fa _ KX G.T.g hmg
  obtain ⟨H, hO, hS, hok, hA⟩ := law_track (P := l.prog) (w := w) KX hobj hints (Nat.le_trans hlen hn2)
  obtain ⟨kin, hns, e0⟩ := law_env KX G.T.g G.T.b G.T.builtins G.T.nolimit hg hobj hok hA
  refine codeAny_mono (hF _ kin hns s₁ H [.ref a] [.ref a] (fun v _ => v = .bl true) (fun _ _ _ => False) e0 (hb s₁ (.ref a)) (.cons rfl .nil) (hsp _ H a ns hlen hS)) fun r s' h => ?_
  cases r with
  | error e => exact False.elim h
  | ok fl =>
    cases fl with
    | next => exact False.elim h
    | brk => exact False.elim h
    | cont => exact False.elim h
    | ret u =>
      obtain ⟨v, H', os, bare, un, hok', rv, hv⟩ := h
      cases (show v = V.bl true from hv)
      cases (show u = Value.bool true from rv)
      refine ⟨rfl, OldK.of_keep fun b o e => ?_, os, bare⟩
      rcases hO b with z | ⟨ob, xs, z⟩
      · exact un.keep b o e z (by intro z; cases (show b ∈ ([] : List Addr) from z)) (by simp)
      · obtain ⟨e1, _⟩ := hok b _ z
        obtain ⟨e2, _⟩ := hok' b _ (un.frzs b ob _ z)
        cases e.symm.trans e1
        exact e2
end Pn

namespace Pn
open PySem PySem.Spec PyProof.Rows L2
/-! ### repr of a tuple of texts and integers, where no repr is under way -/
/-- plain items as data -/
inductive Fl : List V → List PyData → Prop where
  | nil : Fl [] []
  | str {vs ds} (z : Str) (r : Fl vs ds) : Fl (.str z :: vs) (.str z :: ds)
  | int {vs ds} (i : Int) (r : Fl vs ds) : Fl (.int i :: vs) (.int i :: ds)
theorem Fl.reads {h : Heap} : ∀ {vs : List V} {ds : List PyData} {us : List Value}, Fl vs ds → Vals vs us → ReadsAll h us ds []
  | _, _, _, .nil, r => by
    cases r
    exact .nil
  | _, _, _, .str z f, r => by
    cases r with
    | cons r1 r2 =>
      obtain ⟨t, rfl⟩ := r1
      exact .cons (.str z t) (f.reads r2)
  | _, _, _, .int i f, r => by
    cases r with
    | cons r1 r2 =>
      obtain ⟨t, rfl⟩ := r1
      exact .cons (.int i t) (f.reads r2)
section
variable {X : Cx}
def rReprT (K : PySem.W.Frag) : List V → Hp → VK → Prop := fun xs H Q => ∃ (a : Addr) (vs : List V) (ds : List PyData), xs = [.ref a] ∧ SqT K H a vs ∧ Fl vs ds ∧ PyData.showable (.tuple ds) = true ∧ PyData.hasDict (.tuple ds) = false ∧ PyData.depth (.tuple ds) ≤ 10 ∧ (PyData.shown (.tuple ds)).length ≤ sizeLine ∧ Q (.str (PyData.shown (.tuple ds))) H
theorem call_reprT (hg : X.A.guards = some []) {k : Nat} (hr : Room k X.A) : CallR X (.builtin "repr") (rReprT X.K) := by
  intro pins s σ H xs us Q I r h
  obtain ⟨a, vs, ds, rfl, ht, hf, h1, h2, h3, h4, q⟩ := h
  obtain ⟨u, rfl, ru⟩ := r.one
  cases (show u = Value.ref a from ru)
  obtain ⟨its, rv, ⟨o, ho, hcl, n, hd⟩, _⟩ := I.tuple ht
  have hu := hr.units
  refine repr_of_reads' (h₀ := s.heap) (d := .tuple ds) (as := []) (.tuple ho hcl hd (hf.reads rv)) h1 (fun e => by rw [h2] at e; cases e) hg (by omega) (fun _ _ e => e) (fun h' u tk hk => ?_) h4
  exact ⟨.str _, H, I.kept hk, ⟨u, rfl⟩, q⟩
end
end Pn

namespace Pn
open PySem L2 TL
abbrev sKept : Stmt := top 36
section
variable {P : Program} {w : World} {K : PySem.W.Frag} {mg : Str → Option Value} {base : Heap}
def spKept (T : TRows K mg) : Sp := fun vs H Q _ => ∃ (a : Addr) (r : RowD), vs = [.ref a] ∧ RowAt T H a r ∧ ∀ p H', Same H H' → SqT K H' p (rowTup r).tail → Q (.ref p) H'
theorem scKept : FnScope ["_law_row_here"] ["_law_row_here"] (defScope sKept) := ⟨rfl, rfl, rfl, by decide +kernel, rfl, by decide +kernel, by decide +kernel⟩
theorem ok_kept (T : TRows K mg) {f : Addr} {fd : FuncData} (F : Fun K "_law_kept" "_law_kept" sKept f fd) : FnOk P w K mg base CX0 1 f fd ["_law_row_here"] (spKept T) := by
  refine F.ok scKept (fun vs H Q E h => ?_) (fun cdv A outer s H vs Q E hr h => ?_)
  · obtain ⟨a, r, rfl, _⟩ := h
    rfl
  · obtain ⟨a, r, rfl, ⟨dx, ha⟩, q⟩ := h
    refine ⟨_, pss_cons (ps_if (pt_cmpR op_eq (pe_fld (pv 0) rfl) pe_str (nomark _)) (pss_one (ps_ret (pe_tup (pa_cons (pe_fld (pv 0) rfl) (pa_cons (pe_fld (pv 0) rfl) pa_nil))))) pss_nil)
      (pss_cons (ps_if (pt_cmpR op_in_seq (pe_fld (pv 0) rfl) (pe_tup (pa_cons pe_str (pa_cons pe_str pa_nil))) rfl) (pss_one (ps_ret (pe_tup (pa_cons (pe_fld (pv 0) rfl) (pa_cons (pe_ifExp (pt_cmpR op_eq (pe_fld (pv 0) rfl) pe_str (nomark _)) (pe_fld (pv 0) rfl) (pe_fld (pv 0) rfl)) pa_nil))))) pss_nil)
      (pss_cons (ps_if (pt_cmpR op_in_seq (pe_fld (pv 0) rfl) (pe_tup (pa_cons pe_str (pa_cons pe_str pa_nil))) rfl) (pss_one (ps_ret (pe_tup (pa_cons (pe_fld (pv 0) rfl) pa_nil)))) pss_nil)
      (pss_cons (ps_if (pt_cmpR op_eq (pe_fld (pv 0) rfl) pe_str (nomark _)) (pss_one (ps_ret (pe_tup (pa_cons (pe_fld (pv 0) rfl) pa_nil)))) pss_nil)
      (pss_one (ps_ret (pe_ifExp (pt_cmpR op_eq (pe_fld (pv 0) rfl) pe_str (nomark _)) (pe_tup (pa_cons (pe_fld (pv 0) rfl) pa_nil)) (pe_tup (pa_cons (pe_fld (pv 0) rfl) pa_nil)))))))), ?_⟩
    cases r with
    | note c l =>
      refine ⟨_, rfl, a, T.note.C, dx, _, .str "note", rfl, ha, T.note.cl, T.note.noW, (by rw [lookup_putF, if_neg (by decide +kernel), lookup_putF, if_neg (by decide +kernel), lookup_putF, if_pos rfl]), rfl, _, rfl, iteTD (by decide +kernel) ?_⟩
      refine ⟨_, rfl, a, T.note.C, dx, _, .str c, rfl, ha, T.note.cl, T.note.noC, (by rw [lookup_putF, if_neg (by decide +kernel), lookup_putF, if_pos rfl]), _, rfl, a, T.note.C, dx, _, .str l, rfl, ha, T.note.cl, T.note.noL, (by rw [lookup_putF, if_pos rfl]), (by show 2 ≤ sizeLine; decide), fun p hp => q p _ (Same.new hp) (SqT.of upd_same)⟩
    | skip c n =>
      refine ⟨_, rfl, a, T.skip.C, dx, _, .str "skip", rfl, ha, T.skip.cl, T.skip.noW, (by rw [lookup_putF, if_neg (by decide +kernel), lookup_putF, if_neg (by decide +kernel), lookup_putF, if_pos rfl]), rfl, _, rfl, iteFD (by decide +kernel) ?_⟩
      refine ⟨_, rfl, a, T.skip.C, dx, _, .str "skip", rfl, ha, T.skip.cl, T.skip.noW, (by rw [lookup_putF, if_neg (by decide +kernel), lookup_putF, if_neg (by decide +kernel), lookup_putF, if_pos rfl]), (by show 2 ≤ sizeLine; decide), fun t1 h1 => ?_⟩
      refine ⟨t1, _, rfl, .inr (SqT.of upd_same), rfl, rfl, _, rfl, iteTD (by decide +kernel) ?_⟩
      have s1 := (Same.new (o := .tup [.str "skip", .str "set"]) h1)
      generalize upd _ t1 (.tup [.str "skip", .str "set"]) = H1 at s1 ⊢
      have ha1 := s1 a _ ha
      refine ⟨_, rfl, a, T.skip.C, dx, _, .str c, rfl, ha1, T.skip.cl, T.skip.noC, (by rw [lookup_putF, if_neg (by decide +kernel), lookup_putF, if_pos rfl]), _, rfl, a, T.skip.C, dx, _, .str "skip", rfl, ha1, T.skip.cl, T.skip.noW, (by rw [lookup_putF, if_neg (by decide +kernel), lookup_putF, if_neg (by decide +kernel), lookup_putF, if_pos rfl]), rfl, _, rfl, iteTD (by decide +kernel) ?_⟩
      refine ⟨_, rfl, a, T.skip.C, dx, _, .int (n : Int), rfl, ha1, T.skip.cl, T.skip.noF, (by rw [lookup_putF, if_pos rfl]), (by show 2 ≤ sizeLine; decide), fun p hp => q p _ (s1.trans (Same.new hp)) (SqT.of upd_same)⟩
    | set c n =>
      refine ⟨_, rfl, a, T.set.C, dx, _, .str "set", rfl, ha, T.set.cl, T.set.noW, (by rw [lookup_putF, if_neg (by decide +kernel), lookup_putF, if_neg (by decide +kernel), lookup_putF, if_pos rfl]), rfl, _, rfl, iteFD (by decide +kernel) ?_⟩
      refine ⟨_, rfl, a, T.set.C, dx, _, .str "set", rfl, ha, T.set.cl, T.set.noW, (by rw [lookup_putF, if_neg (by decide +kernel), lookup_putF, if_neg (by decide +kernel), lookup_putF, if_pos rfl]), (by show 2 ≤ sizeLine; decide), fun t1 h1 => ?_⟩
      refine ⟨t1, _, rfl, .inr (SqT.of upd_same), rfl, rfl, _, rfl, iteTD (by decide +kernel) ?_⟩
      have s1 := (Same.new (o := .tup [.str "skip", .str "set"]) h1)
      generalize upd _ t1 (.tup [.str "skip", .str "set"]) = H1 at s1 ⊢
      have ha1 := s1 a _ ha
      refine ⟨_, rfl, a, T.set.C, dx, _, .str c, rfl, ha1, T.set.cl, T.set.noC, (by rw [lookup_putF, if_neg (by decide +kernel), lookup_putF, if_pos rfl]), _, rfl, a, T.set.C, dx, _, .str "set", rfl, ha1, T.set.cl, T.set.noW, (by rw [lookup_putF, if_neg (by decide +kernel), lookup_putF, if_neg (by decide +kernel), lookup_putF, if_pos rfl]), rfl, _, rfl, iteFD (by decide +kernel) ?_⟩
      refine ⟨_, rfl, a, T.set.C, dx, _, .int (n : Int), rfl, ha1, T.set.cl, T.set.noF, (by rw [lookup_putF, if_pos rfl]), (by show 2 ≤ sizeLine; decide), fun p hp => q p _ (s1.trans (Same.new hp)) (SqT.of upd_same)⟩
    | keep c =>
      refine ⟨_, rfl, a, T.keep.C, dx, _, .str "keep", rfl, ha, T.keep.cl, T.keep.noW, (by rw [lookup_putF, if_neg (by decide +kernel), lookup_putF, if_pos rfl]), rfl, _, rfl, iteFD (by decide +kernel) ?_⟩
      refine ⟨_, rfl, a, T.keep.C, dx, _, .str "keep", rfl, ha, T.keep.cl, T.keep.noW, (by rw [lookup_putF, if_neg (by decide +kernel), lookup_putF, if_pos rfl]), (by show 2 ≤ sizeLine; decide), fun t1 h1 => ?_⟩
      refine ⟨t1, _, rfl, .inr (SqT.of upd_same), rfl, rfl, _, rfl, iteFD (by decide +kernel) ?_⟩
      have s1 := (Same.new (o := .tup [.str "skip", .str "set"]) h1)
      generalize upd _ t1 (.tup [.str "skip", .str "set"]) = H1 at s1 ⊢
      have ha1 := s1 a _ ha
      refine ⟨_, rfl, a, T.keep.C, dx, _, .str "keep", rfl, ha1, T.keep.cl, T.keep.noW, (by rw [lookup_putF, if_neg (by decide +kernel), lookup_putF, if_pos rfl]), (by show 2 ≤ sizeLine; decide), fun t2 h2 => ?_⟩
      refine ⟨t2, _, rfl, .inr (SqT.of upd_same), rfl, rfl, _, rfl, iteTD (by decide +kernel) ?_⟩
      have s2 := s1.trans (Same.new (o := .tup [.str "keep", .str "back"]) h2)
      generalize upd _ t2 (.tup [.str "keep", .str "back"]) = H2 at s2 ⊢
      have ha2 := s2 a _ ha
      refine ⟨_, rfl, a, T.keep.C, dx, _, .str c, rfl, ha2, T.keep.cl, T.keep.noF, (by rw [lookup_putF, if_pos rfl]), (by show 1 ≤ sizeLine; decide), fun p hp => q p _ (s2.trans (Same.new hp)) (SqT.of upd_same)⟩
    | back c =>
      refine ⟨_, rfl, a, T.back.C, dx, _, .str "back", rfl, ha, T.back.cl, T.back.noW, (by rw [lookup_putF, if_neg (by decide +kernel), lookup_putF, if_pos rfl]), rfl, _, rfl, iteFD (by decide +kernel) ?_⟩
      refine ⟨_, rfl, a, T.back.C, dx, _, .str "back", rfl, ha, T.back.cl, T.back.noW, (by rw [lookup_putF, if_neg (by decide +kernel), lookup_putF, if_pos rfl]), (by show 2 ≤ sizeLine; decide), fun t1 h1 => ?_⟩
      refine ⟨t1, _, rfl, .inr (SqT.of upd_same), rfl, rfl, _, rfl, iteFD (by decide +kernel) ?_⟩
      have s1 := (Same.new (o := .tup [.str "skip", .str "set"]) h1)
      generalize upd _ t1 (.tup [.str "skip", .str "set"]) = H1 at s1 ⊢
      have ha1 := s1 a _ ha
      refine ⟨_, rfl, a, T.back.C, dx, _, .str "back", rfl, ha1, T.back.cl, T.back.noW, (by rw [lookup_putF, if_neg (by decide +kernel), lookup_putF, if_pos rfl]), (by show 2 ≤ sizeLine; decide), fun t2 h2 => ?_⟩
      refine ⟨t2, _, rfl, .inr (SqT.of upd_same), rfl, rfl, _, rfl, iteTD (by decide +kernel) ?_⟩
      have s2 := s1.trans (Same.new (o := .tup [.str "keep", .str "back"]) h2)
      generalize upd _ t2 (.tup [.str "keep", .str "back"]) = H2 at s2 ⊢
      have ha2 := s2 a _ ha
      refine ⟨_, rfl, a, T.back.C, dx, _, .str c, rfl, ha2, T.back.cl, T.back.noF, (by rw [lookup_putF, if_pos rfl]), (by show 1 ≤ sizeLine; decide), fun p hp => q p _ (s2.trans (Same.new hp)) (SqT.of upd_same)⟩
    | ref c =>
      refine ⟨_, rfl, a, T.ref.C, dx, _, .str "ref", rfl, ha, T.ref.cl, T.ref.noW, (by rw [lookup_putF, if_neg (by decide +kernel), lookup_putF, if_pos rfl]), rfl, _, rfl, iteFD (by decide +kernel) ?_⟩
      refine ⟨_, rfl, a, T.ref.C, dx, _, .str "ref", rfl, ha, T.ref.cl, T.ref.noW, (by rw [lookup_putF, if_neg (by decide +kernel), lookup_putF, if_pos rfl]), (by show 2 ≤ sizeLine; decide), fun t1 h1 => ?_⟩
      refine ⟨t1, _, rfl, .inr (SqT.of upd_same), rfl, rfl, _, rfl, iteFD (by decide +kernel) ?_⟩
      have s1 := (Same.new (o := .tup [.str "skip", .str "set"]) h1)
      generalize upd _ t1 (.tup [.str "skip", .str "set"]) = H1 at s1 ⊢
      have ha1 := s1 a _ ha
      refine ⟨_, rfl, a, T.ref.C, dx, _, .str "ref", rfl, ha1, T.ref.cl, T.ref.noW, (by rw [lookup_putF, if_neg (by decide +kernel), lookup_putF, if_pos rfl]), (by show 2 ≤ sizeLine; decide), fun t2 h2 => ?_⟩
      refine ⟨t2, _, rfl, .inr (SqT.of upd_same), rfl, rfl, _, rfl, iteFD (by decide +kernel) ?_⟩
      have s2 := s1.trans (Same.new (o := .tup [.str "keep", .str "back"]) h2)
      generalize upd _ t2 (.tup [.str "keep", .str "back"]) = H2 at s2 ⊢
      have ha2 := s2 a _ ha
      refine ⟨_, rfl, a, T.ref.C, dx, _, .str "ref", rfl, ha2, T.ref.cl, T.ref.noW, (by rw [lookup_putF, if_neg (by decide +kernel), lookup_putF, if_pos rfl]), rfl, _, rfl, iteTD (by decide +kernel) ?_⟩
      refine ⟨_, rfl, a, T.ref.C, dx, _, .str c, rfl, ha2, T.ref.cl, T.ref.noF, (by rw [lookup_putF, if_pos rfl]), (by show 1 ≤ sizeLine; decide), fun p hp => q p _ (s2.trans (Same.new hp)) (SqT.of upd_same)⟩
    | put c =>
      refine ⟨_, rfl, a, T.put.C, dx, _, .str "put", rfl, ha, T.put.cl, T.put.noW, (by rw [lookup_putF, if_neg (by decide +kernel), lookup_putF, if_pos rfl]), rfl, _, rfl, iteFD (by decide +kernel) ?_⟩
      refine ⟨_, rfl, a, T.put.C, dx, _, .str "put", rfl, ha, T.put.cl, T.put.noW, (by rw [lookup_putF, if_neg (by decide +kernel), lookup_putF, if_pos rfl]), (by show 2 ≤ sizeLine; decide), fun t1 h1 => ?_⟩
      refine ⟨t1, _, rfl, .inr (SqT.of upd_same), rfl, rfl, _, rfl, iteFD (by decide +kernel) ?_⟩
      have s1 := (Same.new (o := .tup [.str "skip", .str "set"]) h1)
      generalize upd _ t1 (.tup [.str "skip", .str "set"]) = H1 at s1 ⊢
      have ha1 := s1 a _ ha
      refine ⟨_, rfl, a, T.put.C, dx, _, .str "put", rfl, ha1, T.put.cl, T.put.noW, (by rw [lookup_putF, if_neg (by decide +kernel), lookup_putF, if_pos rfl]), (by show 2 ≤ sizeLine; decide), fun t2 h2 => ?_⟩
      refine ⟨t2, _, rfl, .inr (SqT.of upd_same), rfl, rfl, _, rfl, iteFD (by decide +kernel) ?_⟩
      have s2 := s1.trans (Same.new (o := .tup [.str "keep", .str "back"]) h2)
      generalize upd _ t2 (.tup [.str "keep", .str "back"]) = H2 at s2 ⊢
      have ha2 := s2 a _ ha
      refine ⟨_, rfl, a, T.put.C, dx, _, .str "put", rfl, ha2, T.put.cl, T.put.noW, (by rw [lookup_putF, if_neg (by decide +kernel), lookup_putF, if_pos rfl]), rfl, _, rfl, iteFD (by decide +kernel) ?_⟩
      refine ⟨_, rfl, a, T.put.C, dx, _, .str "put", rfl, ha2, T.put.cl, T.put.noW, (by rw [lookup_putF, if_neg (by decide +kernel), lookup_putF, if_pos rfl]), rfl, _, rfl, iteTD (by decide +kernel) ?_⟩
      refine ⟨_, rfl, a, T.put.C, dx, _, .str c, rfl, ha2, T.put.cl, T.put.noF, (by rw [lookup_putF, if_pos rfl]), (by show 1 ≤ sizeLine; decide), fun p hp => q p _ (s2.trans (Same.new hp)) (SqT.of upd_same)⟩
    | opn c =>
      refine ⟨_, rfl, a, T.open_.C, dx, _, .str "open", rfl, ha, T.open_.cl, T.open_.noW, (by rw [lookup_putF, if_neg (by decide +kernel), lookup_putF, if_pos rfl]), rfl, _, rfl, iteFD (by decide +kernel) ?_⟩
      refine ⟨_, rfl, a, T.open_.C, dx, _, .str "open", rfl, ha, T.open_.cl, T.open_.noW, (by rw [lookup_putF, if_neg (by decide +kernel), lookup_putF, if_pos rfl]), (by show 2 ≤ sizeLine; decide), fun t1 h1 => ?_⟩
      refine ⟨t1, _, rfl, .inr (SqT.of upd_same), rfl, rfl, _, rfl, iteFD (by decide +kernel) ?_⟩
      have s1 := (Same.new (o := .tup [.str "skip", .str "set"]) h1)
      generalize upd _ t1 (.tup [.str "skip", .str "set"]) = H1 at s1 ⊢
      have ha1 := s1 a _ ha
      refine ⟨_, rfl, a, T.open_.C, dx, _, .str "open", rfl, ha1, T.open_.cl, T.open_.noW, (by rw [lookup_putF, if_neg (by decide +kernel), lookup_putF, if_pos rfl]), (by show 2 ≤ sizeLine; decide), fun t2 h2 => ?_⟩
      refine ⟨t2, _, rfl, .inr (SqT.of upd_same), rfl, rfl, _, rfl, iteFD (by decide +kernel) ?_⟩
      have s2 := s1.trans (Same.new (o := .tup [.str "keep", .str "back"]) h2)
      generalize upd _ t2 (.tup [.str "keep", .str "back"]) = H2 at s2 ⊢
      have ha2 := s2 a _ ha
      refine ⟨_, rfl, a, T.open_.C, dx, _, .str "open", rfl, ha2, T.open_.cl, T.open_.noW, (by rw [lookup_putF, if_neg (by decide +kernel), lookup_putF, if_pos rfl]), rfl, _, rfl, iteFD (by decide +kernel) ?_⟩
      refine ⟨_, rfl, a, T.open_.C, dx, _, .str "open", rfl, ha2, T.open_.cl, T.open_.noW, (by rw [lookup_putF, if_neg (by decide +kernel), lookup_putF, if_pos rfl]), rfl, _, rfl, iteFD (by decide +kernel) ?_⟩
      refine ⟨_, rfl, a, T.open_.C, dx, _, .str c, rfl, ha2, T.open_.cl, T.open_.noF, (by rw [lookup_putF, if_pos rfl]), (by show 1 ≤ sizeLine; decide), fun p hp => q p _ (s2.trans (Same.new hp)) (SqT.of upd_same)⟩
end
end Pn

namespace Pn
open PySem L2 TL
/-! ### a row's text, read back -/
theorem numL_head (n : Nat) : (numL n).head? = some 48 → n = 0 := by
  induction n using Nat.strongRecOn with
  | _ n ih =>
    intro h
    by_cases h10 : n < 10
    · rw [numL_lt h10] at h
      have := Option.some.inj h
      omega
    · rw [numL_step (by omega), List.head?_append] at h
      cases e : (numL (n / 10)).head? with
      | none => exact absurd (List.head?_eq_none_iff.mp e) (numL_ne _)
      | some c =>
        rw [e] at h
        have q := ih (n / 10) (by omega) (by rw [e]; exact h)
        omega
theorem tl_numStr (n : Nat) : tl (numStr n) = numL n := tl_num n
theorem num_ok {n : Nat} (h : n < 10 ^ 10) : numOk (numStr n) = true := by
  have e : (numStr n).cps.toList = numL n := tl_numStr n
  have hl : (numStr n).length = (numL n).length := by rw [len_tl, tl_numStr]
  have h1 := numL_len (n := n) (k := 10) (by decide) h
  have h0 : 0 < (numL n).length := List.length_pos_iff.mpr (numL_ne n)
  unfold numOk
  rw [decide_eq_true (show (1 : Int) ≤ ((numStr n).length : Int) by rw [hl]; omega), decide_eq_true (show ((numStr n).length : Int) ≤ 10 by rw [hl]; omega), e]
  have hd : (numL n).all dok = true := List.all_eq_true.mpr fun c hc => by
    have q := numL_digits n c hc
    unfold dok
    rw [decide_eq_true q.1, decide_eq_true q.2]
    rfl
  rw [hd]
  by_cases hh : (numL n).head? = some 48
  · have hz := numL_head n hh
    have hs : numStr n = ("0" : Str) := by rw [hz]; decide +kernel
    rw [decide_eq_true hs, decide_eq_true hh]
    rfl
  · rw [decide_eq_false hh]
    rfl
theorem num_val (n : Nat) : numVal (numStr n) = n := by
  unfold numVal
  rw [tl_numStr]
  exact numL_val n
theorem name_free {z : Str} (h : nameS z = true) : 32 ∉ tl z := fun hc => by
  unfold nameS at h
  rw [Bool.and_eq_true] at h
  have q := List.all_eq_true.mp h.2 32 hc
  exact absurd q (by decide)
theorem num_free (n : Nat) : 32 ∉ tl (numStr n) := by
  rw [tl_numStr]
  exact numL_free (.inl (by decide))
theorem words_back {r : RowD} (h : rowValid r) : (∀ x ∈ rowWords r, 32 ∉ tl x) ∧ rowOf (rowWords r) = some r := by
  have one : ∀ {a : Str}, 32 ∉ tl a → ∀ {l : List Str}, (∀ x ∈ l, 32 ∉ tl x) → ∀ x ∈ a :: l, 32 ∉ tl x := fun ha _ hl x hx => by
    rcases List.mem_cons.mp hx with rfl | hx
    · exact ha
    · exact hl x hx
  have no : ∀ x ∈ ([] : List Str), 32 ∉ tl x := fun x hx => by cases hx
  cases r with
  | note c l =>
    by_cases hl : l = ""
    · subst hl
      refine ⟨one (by decide +kernel) (one (name_free h.1) no), ?_⟩
      show row2 "note" c = _
      unfold row2
      rw [if_pos h.1, if_pos rfl]
    · have hn := h.2.resolve_left hl
      have e : rowWords (.note c l) = (["note", c, l] : List Str) := if_neg hl
      rw [e]
      refine ⟨one (by decide +kernel) (one (name_free h.1) (one (name_free hn) no)), ?_⟩
      show row3 "note" c l = _
      unfold row3
      rw [if_pos ⟨rfl, hl⟩, if_pos ⟨h.1, lab_of (.inr hn)⟩]
  | skip c n =>
    refine ⟨one (by decide +kernel) (one (name_free h.1) (one (num_free n) no)), ?_⟩
    show row3 "skip" c (numStr n) = _
    unfold row3
    rw [if_neg (fun z => absurd z.1 (by decide +kernel)), if_pos rfl, if_pos ⟨num_ok h.2.2, h.1, by rw [num_val]; have := h.2.1; omega⟩, num_val]
  | set c n =>
    refine ⟨one (by decide +kernel) (one (name_free h.1) (one (num_free n) no)), ?_⟩
    show row3 "set" c (numStr n) = _
    unfold row3
    rw [if_neg (fun z => absurd z.1 (by decide +kernel)), if_neg (by decide +kernel), if_pos rfl, if_pos ⟨num_ok h.2, h.1⟩, num_val]
  | keep c =>
    have h : nameS c = true := h
    refine ⟨one (by decide +kernel) (one (name_free h) no), ?_⟩
    show row2 "keep" c = _
    unfold row2
    rw [if_pos h, if_neg (by decide +kernel), if_pos rfl]
  | back c =>
    have h : nameS c = true := h
    refine ⟨one (by decide +kernel) (one (name_free h) no), ?_⟩
    show row2 "back" c = _
    unfold row2
    rw [if_pos h, if_neg (by decide +kernel), if_neg (by decide +kernel), if_pos rfl]
  | ref c =>
    have h : nameS c = true := h
    refine ⟨one (by decide +kernel) (one (name_free h) no), ?_⟩
    show row2 "ref" c = _
    unfold row2
    rw [if_pos h, if_neg (by decide +kernel), if_neg (by decide +kernel), if_neg (by decide +kernel), if_pos rfl]
  | put c =>
    have h : nameS c = true := h
    refine ⟨one (by decide +kernel) (one (name_free h) no), ?_⟩
    show row2 "put" c = _
    unfold row2
    rw [if_pos h, if_neg (by decide +kernel), if_neg (by decide +kernel), if_neg (by decide +kernel), if_neg (by decide +kernel), if_pos rfl]
  | opn c =>
    have h : nameS c = true := h
    refine ⟨one (by decide +kernel) (one (name_free h) no), ?_⟩
    show row2 "open" c = _
    unfold row2
    rw [if_pos h, if_neg (by decide +kernel), if_neg (by decide +kernel), if_neg (by decide +kernel), if_neg (by decide +kernel), if_neg (by decide +kernel), if_pos rfl]
theorem row_back {r : RowD} (h : rowValid r) : rowOf (Txt.split (rowText r) " ") = some r := by
  obtain ⟨h1, h2⟩ := words_back h
  have e : Txt.split (rowText r) " " = rowWords r := split_join (s := 32) (S := []) (by decide +kernel) (by decide +kernel) (fun z => by have := (words_small h).2.1; rw [z] at this; exact absurd this (by decide)) h1
  rw [e]
  exact h2
end Pn

namespace Pn
open PySem L2 TL
/-! ### texts put together of words: their size -/
def sz1 (l : List Str) : Nat := (l.map fun x => x.length + 1).sum
theorem sz1_cons (x : Str) (l : List Str) : sz1 (x :: l) = x.length + 1 + sz1 l := by
  unfold sz1
  rw [List.map_cons, List.sum_cons]
theorem sz1_app : ∀ l m : List Str, sz1 (l ++ m) = sz1 l + sz1 m
  | [], m => by
    rw [List.nil_append, show sz1 [] = 0 from rfl]
    omega
  | x :: l, m => by
    rw [List.cons_append, sz1_cons, sz1_cons, sz1_app l m]
    omega
theorem sz1_sub {l m : List Str} (h : l.Sublist m) : sz1 l ≤ sz1 m := by
  induction h with
  | slnil => exact Nat.le_refl _
  | cons a _ ih => rw [sz1_cons]; omega
  | cons_cons a _ ih => rw [sz1_cons, sz1_cons]; omega
/-- words of at most n signs with as many blanks, all of good signs -/
def Sm (n : Nat) (l : List Str) : Prop := sz1 l ≤ n ∧ ∀ x ∈ l, PyData.strOk x = true
theorem Sm.sub {n : Nat} {l m : List Str} (h : Sm n m) (s : l.Sublist m) : Sm n l := ⟨Nat.le_trans (sz1_sub s) h.1, fun x hx => h.2 x (s.subset hx)⟩
theorem Sm.app {n k : Nat} {l m : List Str} (h : Sm n l) (g : Sm k m) : Sm (n + k) (l ++ m) := ⟨by rw [sz1_app]; exact Nat.add_le_add h.1 g.1, fun x hx => (List.mem_append.mp hx).elim (h.2 x) (g.2 x)⟩
theorem joinL_len : ∀ l : List Str, (joinL (tl " ") (l.map tl)).length ≤ sz1 l ∧ sz1 l ≤ (joinL (tl " ") (l.map tl)).length + 1
  | [] => ⟨Nat.le_refl _, Nat.zero_le _⟩
  | [a] => by
    show (tl a).length ≤ sz1 [a] ∧ sz1 [a] ≤ (tl a).length + 1
    rw [sz1_cons, ← len_tl, show sz1 [] = 0 from rfl]
    omega
  | a :: b :: r => by
    have q := joinL_len (b :: r)
    rw [sz1_cons]
    show (tl a ++ (tl " " ++ joinL (tl " ") ((b :: r).map tl))).length ≤ _ ∧ _ ≤ (tl a ++ (tl " " ++ joinL (tl " ") ((b :: r).map tl))).length + 1
    rw [List.length_append, List.length_append, ← len_tl, show (tl " ").length = 1 from by decide +kernel]
    omega
theorem joinL_mem : ∀ (l : List Str) (c : Nat), c ∈ joinL (tl " ") (l.map tl) → c ∈ tl " " ∨ ∃ x ∈ l, c ∈ tl x
  | [], c, h => by cases h
  | [a], c, h => .inr ⟨a, by simp, h⟩
  | a :: b :: r, c, h => by
    rcases List.mem_append.mp h with h | h
    · exact .inr ⟨a, by simp, h⟩
    · rcases List.mem_append.mp h with h | h
      · exact .inl h
      · rcases joinL_mem (b :: r) c h with h | ⟨x, hx, hc⟩
        · exact .inl h
        · exact .inr ⟨x, List.mem_cons_of_mem _ hx, hc⟩
theorem Sm.join {n : Nat} {l : List Str} (h : Sm n l) : (Txt.join " " l).length ≤ n ∧ PyData.strOk (Txt.join " " l) = true := by
  have e : tl (Txt.join " " l) = joinL (tl " ") (l.map tl) := by rw [join_eq]; exact tl_join " " l
  refine ⟨?_, strOk_tl.mpr fun c hc => ?_⟩
  · rw [len_tl, e]
    exact Nat.le_trans (joinL_len l).1 h.1
  · rw [e] at hc
    rcases joinL_mem l c hc with hc | ⟨x, hx, hc⟩
    · exact strOk_tl.mp (show PyData.strOk " " = true by decide +kernel) c hc
    · exact strOk_tl.mp (h.2 x hx) c hc
theorem sz1_lens : ∀ l : List Str, (l.map (·.length)).sum + l.length * (" " : Str).length = sz1 l
  | [] => rfl
  | x :: l => by
    have q := sz1_lens l
    rw [show (" " : Str).length = 1 from by decide +kernel] at q ⊢
    rw [sz1_cons, List.map_cons, List.sum_cons, List.length_cons]
    omega
theorem Sm.fits {n : Nat} {l : List Str} (h : Sm n l) (hn : n ≤ 16777216) : (l.map (·.length)).sum + l.length * (" " : Str).length ≤ 16777216 := by
  rw [sz1_lens]
  exact Nat.le_trans h.1 hn
theorem sm_split {z : Str} {n : Nat} (hl : z.length ≤ n) (hok : PyData.strOk z = true) : Sm (n + 1) (Txt.split z " ") := by
  have e := PySem.StrLaws.join_split z " "
  have e2 : tl (Txt.join " " (Txt.split z " ")) = joinL (tl " ") ((Txt.split z " ").map tl) := by rw [join_eq]; exact tl_join " " _
  have e3 : (joinL (tl " ") ((Txt.split z " ").map tl)).length = z.length := by
    rw [← e2, ← len_tl, join_eq]
    exact congrArg Str.length e
  refine ⟨?_, fun x hx => strOk_tl.mpr fun c hc => strOk_tl.mp hok c ((split_len (z := z) rfl x hx).2 c hc)⟩
  have := (joinL_len (Txt.split z " ")).2
  omega
theorem sm_row {r : RowD} (h : rowValid r) : (rowText r).length ≤ 63 ∧ PyData.strOk (rowText r) = true := by
  obtain ⟨h1, _, h2⟩ := words_small h
  have h3 : Sm 63 (rowWords r) := by
    refine ⟨?_, fun x hx => (h2 x hx).2⟩
    have key : ∀ l : List Str, (∀ x ∈ l, x.length ≤ 20) → sz1 l ≤ 21 * l.length := by
      intro l
      induction l with
      | nil => intro _; exact Nat.le_refl _
      | cons x l ih =>
        intro hx
        have q1 := hx x List.mem_cons_self
        have q2 := ih fun y hy => hx y (List.mem_cons_of_mem _ hy)
        rw [sz1_cons, List.length_cons]
        omega
    have := key (rowWords r) fun x hx => (h2 x hx).1
    omega
  exact h3.join
theorem cut_sub (ws : List Str) (lo hi : Option Int) : ∃ us : List Str, cutV (ws.map V.str) lo hi = us.map V.str ∧ us.Sublist ws := by
  refine ⟨(ws.drop (HT.sIx (ws.map V.str).length 0 lo)).take (HT.sIx (ws.map V.str).length (ws.map V.str).length hi - HT.sIx (ws.map V.str).length 0 lo), ?_, (List.take_sublist _ _).trans (List.drop_sublist _ _)⟩
  unfold cutV
  rw [List.map_take, List.map_drop]
/-- repr of a text or an integer -/
def rReprF : List V → Hp → VK → Prop := fun xs H Q => (∃ z : Str, xs = [.str z] ∧ z.length ≤ 1000 ∧ PyData.strOk z = true ∧ Q (.str (PySem.reprText z)) H) ∨ ∃ i : Int, xs = [.int i] ∧ i.natAbs.log2 < 1920 ∧ Q (.str (Str.ofString (toString i))) H
theorem repr_fits {z : Str} (hl : z.length ≤ 1000) (hok : PyData.strOk z = true) : (PySem.reprText z).length ≤ sizeLine := by
  have q := StrLaws.reprText_len z fun c hc => by
    have q := strOk_tl.mp hok c hc
    have e : (16 : Nat) ^ 8 = 4294967296 := by decide
    omega
  have e : (1000000 : Nat) ≤ sizeLine := by decide
  omega
theorem call_reprF {X : Cx} : CallR X (.builtin "repr") rReprF := fun pins s σ H xs us Q I r h => by
  rcases h with ⟨z, rfl, hl, hok, q⟩ | h
  · obtain ⟨u, rfl, ru⟩ := r.one
    obtain ⟨t, rfl⟩ := ru
    exact PySem.P.repr_of_str ⟨.str _, H, I.tok _, ⟨_, rfl⟩, q⟩ (repr_fits hl hok)
  · exact SkE.call_repr_int pins s σ H xs us Q I r h
end Pn

namespace Pn
open PySem L2 TL
/-! ### what the law asks of a made row -/
/-- plain data that is small -/
def smallD : PyData → Prop
  | .str z => z.length ≤ 20 ∧ PyData.strOk z = true
  | .int i => ∃ n : Nat, i = (n : Int) ∧ n < 10 ^ 20
  | _ => False
theorem small_shown {d : PyData} (h : smallD d) : (PyData.shown d).length ≤ 300 := by
  cases d with
  | str z =>
    rw [PyData.shown_str]
    have q := StrLaws.reprText_len z fun c hc => by
      have q := strOk_tl.mp h.2 c hc
      have e : (16 : Nat) ^ 8 = 4294967296 := by decide
      omega
    have := h.1
    omega
  | int i =>
    obtain ⟨n, rfl, hn⟩ := h
    rw [PyData.shown_int]
    exact Nat.le_trans (numStr_len hn) (by decide)
  | _ => exact False.elim h
theorem small_showable {d : PyData} (h : smallD d) : PyData.showable d = true ∧ PyData.hasDict d = false ∧ PyData.depth d = 0 := by
  cases d with
  | str z => exact ⟨by simp only [PyData.showable], by simp only [PyData.hasDict], by simp only [PyData.depth]⟩
  | int i =>
    obtain ⟨n, rfl, hn⟩ := h
    refine ⟨?_, by simp only [PyData.hasDict], by simp only [PyData.depth]⟩
    simp only [PyData.showable]
    refine decide_eq_true ?_
    rw [Int.natAbs_natCast]
    by_cases h0 : n = 0
    · subst h0; decide
    · exact (Nat.log2_lt h0).mpr (Nat.lt_of_lt_of_le hn (by decide))
  | _ => exact False.elim h
theorem small_all : ∀ {ds : List PyData}, (∀ d ∈ ds, smallD d) → PyData.showableAll ds = true ∧ PyData.hasDictAll ds = false ∧ PyData.depthAll ds = 0 ∧ ((PyData.shownAll ds).map (·.length)).sum ≤ 300 * ds.length
  | [], _ => ⟨by simp only [PyData.showableAll], by simp only [PyData.hasDictAll], by simp only [PyData.depthAll], by simp only [PyData.shownAll]; exact Nat.zero_le _⟩
  | d :: ds, h => by
    obtain ⟨a1, a2, a3⟩ := small_showable (h d List.mem_cons_self)
    obtain ⟨b1, b2, b3, b4⟩ := small_all fun x hx => h x (List.mem_cons_of_mem _ hx)
    have a4 := small_shown (h d List.mem_cons_self)
    refine ⟨by simp only [PyData.showableAll, a1, b1, Bool.and_self], by simp only [PyData.hasDictAll, a2, b2, Bool.or_self], by simp only [PyData.depthAll, a3, b3, Nat.max_self], ?_⟩
    simp only [PyData.shownAll, List.map_cons, List.sum_cons, List.length_cons]
    omega
theorem small_tuple {ds : List PyData} (h : ∀ d ∈ ds, smallD d) (hl : ds.length ≤ 1000) : PyData.showable (.tuple ds) = true ∧ PyData.hasDict (.tuple ds) = false ∧ PyData.depth (.tuple ds) ≤ 10 ∧ (PyData.shown (.tuple ds)).length ≤ sizeLine := by
  obtain ⟨b1, b2, b3, b4⟩ := small_all h
  refine ⟨by simp only [PyData.showable, b1], by simp only [PyData.hasDict, b2], by simp only [PyData.depth, b3]; decide, ?_⟩
  simp only [PyData.shown]
  have q := tupleText_len_le (PyData.shownAll ds)
  rw [PyData.shownAll_length] at q
  have e : (400000 : Nat) ≤ sizeLine := by decide
  omega
def rowWord : RowD → Str
  | .note _ _ => "note"
  | .skip _ _ => "skip"
  | .set _ _ => "set"
  | .keep _ => "keep"
  | .back _ => "back"
  | .ref _ => "ref"
  | .put _ => "put"
  | .opn _ => "open"
theorem tup_word (r : RowD) : (rowTup r)[0]? = some (.str (rowWord r)) := by cases r <;> rfl
/-- what a row tells but for its word, as data -/
theorem tail_data {r : RowD} (h : rowValid r) : ∃ ds, Fl (rowTup r).tail ds ∧ PyData.showable (.tuple ds) = true ∧ PyData.hasDict (.tuple ds) = false ∧ PyData.depth (.tuple ds) ≤ 10 ∧ (PyData.shown (.tuple ds)).length ≤ sizeLine := by
  have nm : ∀ {z : Str}, nameS z = true → smallD (.str z) := fun h => ⟨Nat.le_trans (name_ok h).2 (by decide), (name_ok h).1⟩
  have one : ∀ {c : Str}, nameS c = true → ∃ ds, Fl [.str c] ds ∧ PyData.showable (.tuple ds) = true ∧ PyData.hasDict (.tuple ds) = false ∧ PyData.depth (.tuple ds) ≤ 10 ∧ (PyData.shown (.tuple ds)).length ≤ sizeLine := fun {c} hc =>
    ⟨[.str c], .str c .nil, small_tuple (fun d hd => by rw [List.mem_singleton.mp hd]; exact nm hc) (by show 1 ≤ 1000; decide)⟩
  have two : ∀ {c : Str} {n : Nat}, nameS c = true → n < 10 ^ 10 → ∃ ds, Fl [.str c, .int (n : Int)] ds ∧ PyData.showable (.tuple ds) = true ∧ PyData.hasDict (.tuple ds) = false ∧ PyData.depth (.tuple ds) ≤ 10 ∧ (PyData.shown (.tuple ds)).length ≤ sizeLine := fun {c n} hc hn =>
    ⟨[.str c, .int (n : Int)], .str c (.int _ .nil), small_tuple (fun d hd => by
      rcases List.mem_cons.mp hd with rfl | hd
      · exact nm hc
      · rw [List.mem_singleton.mp hd]; exact ⟨n, rfl, Nat.lt_trans hn (by decide)⟩) (by show 2 ≤ 1000; decide)⟩
  cases r with
  | note c l => exact ⟨[.str c, .str l], .str c (.str l .nil), small_tuple (fun d hd => by
      rcases List.mem_cons.mp hd with rfl | hd
      · exact nm h.1
      · rw [List.mem_singleton.mp hd]
        rcases h.2 with rfl | h2
        · exact ⟨by decide +kernel, by decide +kernel⟩
        · exact nm h2) (by show 2 ≤ 1000; decide)⟩
  | skip c n => exact two h.1 h.2.2
  | set c n => exact two h.1 h.2
  | keep c => exact one h
  | back c => exact one h
  | ref c => exact one h
  | put c => exact one h
  | opn c => exact one h
theorem tail_cut (r : RowD) : cutV (rowTup r) (some 1) none = (rowTup r).tail ∧ ¬ (HT.sIx (rowTup r).length 0 (some 1) = 0 ∧ HT.sIx (rowTup r).length (rowTup r).length none = (rowTup r).length) := by
  cases r <;> exact ⟨rfl, fun z => absurd (show (1 : Nat) = 0 from z.1) (by decide)⟩
theorem valid_small {r : RowD} (h : rowValid r) : rowSmall r := by
  have b : ∀ {n : Nat}, n < 10 ^ 10 → n < 10 ^ 20 := fun h => Nat.lt_trans h (by decide)
  cases r with
  | note c l => exact ⟨name_small h.1, by rcases h.2 with rfl | z; exact (by decide +kernel : ("" : Str).length ≤ 100); exact name_small z⟩
  | skip c n => exact ⟨name_small h.1, b h.2.2⟩
  | set c n => exact ⟨name_small h.1, b h.2⟩
  | keep c => exact name_small h
  | back c => exact name_small h
  | ref c => exact name_small h
  | put c => exact name_small h
  | opn c => exact name_small h
section
variable {P : Program} {w : World} {K : PySem.W.Frag} {mg : Str → Option Value} {base : Heap}
/-- the word of an instance of a row -/
theorem row_word (T : TRows K mg) {H : Hp} {a : Addr} {r : RowD} (h : RowAt T H a r) : ∃ dx fs, H a = some (.ins (clsOf T r) dx fs) ∧ Cls K (clsOf T r) ∧ NoAttr K (clsOf T r) "word" ∧ fs.lookup ("word" : Str) = some (V.str (rowWord r)) := by
  obtain ⟨dx, ha⟩ := h
  cases r with
  | note c l => exact ⟨dx, _, ha, T.note.cl, T.note.noW, by rw [lookup_putF, if_neg (by decide +kernel), lookup_putF, if_neg (by decide +kernel), lookup_putF, if_pos rfl]; rfl⟩
  | skip c n => exact ⟨dx, _, ha, T.skip.cl, T.skip.noW, by rw [lookup_putF, if_neg (by decide +kernel), lookup_putF, if_neg (by decide +kernel), lookup_putF, if_pos rfl]; rfl⟩
  | set c n => exact ⟨dx, _, ha, T.set.cl, T.set.noW, by rw [lookup_putF, if_neg (by decide +kernel), lookup_putF, if_neg (by decide +kernel), lookup_putF, if_pos rfl]; rfl⟩
  | keep c => exact ⟨dx, _, ha, T.keep.cl, T.keep.noW, by rw [lookup_putF, if_neg (by decide +kernel), lookup_putF, if_pos rfl]; rfl⟩
  | back c => exact ⟨dx, _, ha, T.back.cl, T.back.noW, by rw [lookup_putF, if_neg (by decide +kernel), lookup_putF, if_pos rfl]; rfl⟩
  | ref c => exact ⟨dx, _, ha, T.ref.cl, T.ref.noW, by rw [lookup_putF, if_neg (by decide +kernel), lookup_putF, if_pos rfl]; rfl⟩
  | put c => exact ⟨dx, _, ha, T.put.cl, T.put.noW, by rw [lookup_putF, if_neg (by decide +kernel), lookup_putF, if_pos rfl]; rfl⟩
  | opn c => exact ⟨dx, _, ha, T.open_.cl, T.open_.noW, by rw [lookup_putF, if_neg (by decide +kernel), lookup_putF, if_pos rfl]; rfl⟩
theorem RowAt.same {T : TRows K mg} {H H' : Hp} {a : Addr} {r : RowD} (h : RowAt T H a r) (s : Same H H') : RowAt T H' a r := h.elim fun dx e => ⟨dx, s _ _ e⟩
end
end Pn

namespace Pn
open PySem L2 TL
abbrev sLaw2 : Stmt := top 37
theorem passX0 {P : Program} {w : World} {X : Cx} : Passes (L2.CX P w) X E0 := fun _ _ _ _ _ _ _ ⟨_, _, _, _, _, _, _, _, _, _, _, _, h⟩ => h.elim
theorem stepMay {tt : TT} {te : TE} {C : TS} {D : Ends} {σ : L2.St} {H : Hp} {i : Nat} {v0 : V} (hσ : σ.set i (some v0) = σ) (G : V → Hp → Prop)
    (h1 : ∀ Q : VK, (∀ v H', G v H' → Q v H') → tt σ H fun c H1 => if c = true then te σ H1 Q else Q v0 H1) (h2 : ∀ v H', G v H' → C D (σ.set i (some v)) H') : tSeq (tIfS tt (tAsg te (gName i)) tNext) C D σ H := by
  have q := h1 (fun v H' => C D (σ.set i (some v)) H') h2
  rw [hσ] at q
  exact q
theorem hid_free {b : Addr} {H0 H : Hp} (s : Same H0 H) (h : H0 b = none) : Same H0 (hid H b) := fun a o e => hid_get (s a o e) (ne_of_none e h)
theorem hid_rl {H : Hp} {r : Addr} {o : HO} : Same (hid H r) (hid (upd H r o) r) := hid_kp (Kp.box (Kp.refl r H))
theorem hid2_rl {H : Hp} {b r : Addr} {o : HO} : Same (hid (hid H b) r) (hid (hid (upd H r o) b) r) := fun a u e => by
  have n : a ≠ r := hid_ne e
  have e1 := hid_sub _ _ e
  have n2 : a ≠ b := hid_ne e1
  exact hid_get (hid_get (by rw [upd_ne n]; exact hid_sub _ _ e1) n2) n
theorem hid_mono {H H' : Hp} {r : Addr} (s : Same H H') : Same (hid H r) (hid H' r) := hid_kp (Kp.same s)
theorem paired_len2 {α β : Type} {R : α → β → Prop} {l : List α} {m : List β} (h : Paired R l m) : l.length = m.length := paired_len h
def spLaw2 (K : PySem.W.Frag) : Sp := fun vs H Q _ => ∃ (a : Addr) (ns : List Int), vs = [.ref a] ∧ SqL K H a (ns.map V.int) ∧ ns.length ≤ 63 ∧ ∀ H', Q (.bl true) H'
section
variable {P : Program} {w : World} {K : PySem.W.Frag} {mg : Str → Option Value} {base : Heap}
structure TK02 (K : PySem.W.Frag) (mg : Str → Option Value) : Type where
  D : TDRow K mg
  R : TRead K mg
  S : TSame R.R
  hsub : PySem.W.exmOne K (.ref R.M.IT.C) (.ref R.R.N.IR.C) = some false
  rowtext : At K mg "_law_row_text" sRowText ["_law_row_here"]
  made : At K mg "_law_made_row" sMadeRow ["_law_row_here"]
  kept : At K mg "_law_kept" sKept ["_law_row_here"]
  mMax : mg "max" = none
  mMin : mg "min" = none
  mRepr : mg "repr" = none
  mZip : mg "zip" = none
theorem scLaw2 : FnScope ["_law_script", "_law_k", "_law_box", "_law_rows", "_law_turn", "_law_pools_here", "_law_told", "_law_made", "_law_one", "_law_other", "_law_text"] ["_law_script"] (defScope sLaw2) := ⟨rfl, rfl, rfl, by decide +kernel, rfl, by decide +kernel, by decide +kernel⟩
theorem ok_law2 (T : TK02 K mg) {f : Addr} {fd : FuncData} (F : Fun K "law" "law" sLaw2 f fd) {A : Around} (hrA : Room 13 A) (hgA : A.guards = some []) : RunAt P w K mg base A f fd ["_law_script"] (spLaw2 K) := by
  refine fun_at (k := 12) F scLaw2 hrA (fun vs H Q E h => ?_) (fun cdv s H vs Q E hr h => ?_)
  · obtain ⟨a, ns, rfl, _⟩ := h
    rfl
  · obtain ⟨a, ns, rfl, hS, hl, q⟩ := h
    have hgd : (A.deeper (PyProof.Rows.envOfC "law" (defScope sLaw2) s.heap.objs.size f cdv)).guards = some [] := hgA
    refine ⟨_, pss_cons (ps_for PassesOwn.never rfl (pi_range1 rfl T.D.mR (pa_cons (pe_callB (call_max2 rfl) (by rfl) T.mMax (by decide +kernel) (pa_cons pe_int (pa_cons (pe_callB (call_min2 rfl) (by rfl) T.mMin (by decide +kernel) (pa_cons pe_int (pa_cons (pe_callB call_len_seq (by rfl) T.R.M.mLen PySem.boot_len (pa_cons (pv 0) pa_nil)) pa_nil))) pa_nil))) pa_nil)) (pg_name (i := 1) scLaw2.nd rfl (Or.inl rfl))
        (pss_cons (ps_par (i := 2) (j := 3) (by rfl) scLaw2.nd rfl rfl (by decide) rfl rfl (pa_cons (pe_call T.D.okSeed (hr.mono (by decide)) rfl T.D.seed.m T.D.seed.F.kp T.D.seed.b .nil pass0 (pa_cons (pv 0) (pa_cons (pv 1) pa_nil))) (pa_cons (pe_lst pa_nil) pa_nil)) (by rfl))
        (pss_cons (ps_for PassesOwn.never rfl (pi_range1 rfl T.D.mR (pa_cons pe_int pa_nil)) (pg_name (i := 4) scLaw2.nd rfl (Or.inl rfl))
          (pss_cons (ps_set (i := 5) scLaw2.nd rfl (Or.inl rfl) (pe_call (ok_pools T.D.pools.F T.D.toTDraw) (hr.mono (by decide)) rfl T.D.pools.m T.D.pools.F.kp T.D.pools.b .nil pass0 (pa_cons (pv 2) pa_nil)))
          (pss_cons (ps_set (i := 6) scLaw2.nd rfl (Or.inl rfl) (pe_call (ok_drow T.D) (hr.mono (by decide)) rfl T.D.row.m T.D.row.F.kp T.D.row.b .nil pass0 (pa_cons (pv 2) (pa_cons (pv 5) (pa_cons (pe_call (ok_counters T.D.toTCnt) (hr.mono (by decide)) rfl T.D.counters.m T.D.counters.F.kp T.D.counters.b .nil pass0 (pa_cons (pv 2) (pa_cons (pe_ix ix_list (pv 5) pe_int (fun _ _ => rfl)) (pa_cons pe_int pa_nil)))) (pa_cons (pe_ix ix_list (pv 5) pe_int (fun _ _ => rfl)) pa_nil))))))
          (pss_cons (ps_if (pt_cmpR op_eq (pe_call T.D.okChoose (hr.mono (by decide)) rfl T.D.choose.m T.D.choose.F.kp T.D.choose.b .nil pass0 (pa_cons (pv 2) (pa_cons pe_int pa_nil))) pe_int (nomark _))
            (pss_one (ps_set (i := 6) scLaw2.nd rfl (Or.inl rfl) (pe_tup (pa_cons pe_str (pa_cons (pe_call T.D.okOne (hr.mono (by decide)) rfl T.D.one.m T.D.one.F.kp T.D.one.b .nil pass0 (pa_cons (pv 2) (pa_cons (pe_ix ix_list (pv 5) pe_int (fun _ _ => rfl)) pa_nil))) pa_nil))))) pss_nil)
          (pss_one (ps_expr (pe_bm PySem.F.plainAttrs_list PySem.F.slot_list_append PySem.F.type_list_append mt_append (pv 3) (pa_cons (pv 6) pa_nil))))))))
        (pss_cons (ps_setLc (i := 7) (own := [("_law_told", 6)]) (g := gName 6) (tt := tYes) (by rfl) scLaw2.nd rfl rfl (sw_true rfl rfl rfl (by decide +kernel)) (pi_list (pv 3))
          (blkOk_by (N := ["_law_script", "_law_k", "_law_box", "_law_rows", "_law_turn", "_law_pools_here", "_law_told", "_law_made", "_law_one", "_law_other", "_law_text"]) (sc := defScope sLaw2) (by decide +kernel)) (fun _ _ _ _ _ => pg_name (i := 6) scLaw2.nd rfl (Or.inl rfl)) (fun _ _ _ _ _ => pts_nil) (fun _ _ _ _ _ => pe_call (ok_made T.R.R T.made.F) (hr.mono (by decide)) rfl T.made.m T.made.F.kp T.made.b .nil pass0 (pa_cons (pv 6) pa_nil)))
        (pss_one (ps_for PassesOwn.never rfl (pi_zip (by rfl) T.mZip (pa_cons (pv 7) (pa_cons (pv 3) pa_nil))) (pg_tup (by rfl) (pgs_cons (pg_name (i := 8) scLaw2.nd rfl (Or.inl rfl)) (pgs_cons (pg_name (i := 6) scLaw2.nd rfl (Or.inl rfl)) pgs_nil)))
          (pss_cons (ps_if (PW.pt (pw_or (pt_not (pt_val (pe_callB call_isi (by rfl) T.R.R.N.mIsi (by decide +kernel) (pa_cons (pv 8) (pa_cons (pe_glob (v := .ref T.S.CR) (by rfl) T.S.mR rfl) pa_nil))))) (pw_or (pt_cmpR op_ne (pe_fld (pv 8) rfl) (pe_ix ix_tup (pv 6) pe_int (fun _ _ => rfl)) (nomark _))
            (pw_or1 (pt_cmpR op_ne (pe_callB (call_reprT hgd hr) (by rfl) T.mRepr (by decide +kernel) (pa_cons (pe_call (ok_kept T.R.R T.kept.F) (hr.mono (by decide)) rfl T.kept.m T.kept.F.kp T.kept.b .nil pass0 (pa_cons (pv 8) pa_nil)) pa_nil)) (pe_callB (call_reprT hgd hr) (by rfl) T.mRepr (by decide +kernel) (pa_cons (pe_slice sl_tup (pv 6) (po_some pe_int) po_none) pa_nil)) (nomark _)))))) (pss_one (ps_ret pe_bl)) pss_nil)
          (pss_cons (ps_if (PW.pt (pw_or (pt_cmpR op_ne (pe_callTy (call_strRowK (K := K) (mg := mg) rfl rfl T.R.R T.S.S (hr.mono (show 3 ≤ 12 by decide))) (by rfl) T.S.mStr (by decide +kernel) (pa_cons (pv 8) pa_nil)) (pe_call (ok_rowtext T.rowtext.F T.S.mStr) (hr.mono (by decide)) rfl T.rowtext.m T.rowtext.F.kp T.rowtext.b .nil pass0 (pa_cons (pv 6) pa_nil)) (nomark _))
            (pw_or (pt_cmpR (op_neRow T.S (hr.mono (show 6 ≤ 12 by decide))) (pe_call (okReadRow T.R T.hsub) (hr.mono (by decide)) rfl T.R.read.m T.R.read.F.kp T.R.read.b .nil passX0 (pa_cons (pe_callTy (call_strRowK (K := K) (mg := mg) rfl rfl T.R.R T.S.S (hr.mono (show 3 ≤ 12 by decide))) (by rfl) T.S.mStr (by decide +kernel) (pa_cons (pv 8) pa_nil)) pa_nil)) (pv 8) (nomark _))
            (pw_or1 (pt_cmpR (op_eqRow T.S (hr.mono (show 5 ≤ 12 by decide))) (pv 8) (pe_callTy (call_strRowK (K := K) (mg := mg) rfl rfl T.R.R T.S.S (hr.mono (show 3 ≤ 12 by decide))) (by rfl) T.S.mStr (by decide +kernel) (pa_cons (pv 8) pa_nil)) (nomark _)))))) (pss_one (ps_ret pe_bl)) pss_nil)
          (pss_one (ps_for PassesOwn.never rfl (pi_zip (by rfl) T.mZip (pa_cons (pv 7) (pa_cons (pv 3) pa_nil))) (pg_tup (by rfl) (pgs_cons (pg_name (i := 9) scLaw2.nd rfl (Or.inl rfl)) (pgs_cons (pg_name (i := 10) scLaw2.nd rfl (Or.inl rfl)) pgs_nil)))
            (pss_one (ps_if (PW.pt (pw_or (pt_cmpR op_ne (pe_cmpR (op_eqRow T.S (hr.mono (show 5 ≤ 12 by decide))) (pv 8) (pv 9) (nomark _)) (pe_cmpR op_eq (pe_call (ok_rowtext T.rowtext.F T.S.mStr) (hr.mono (by decide)) rfl T.rowtext.m T.rowtext.F.kp T.rowtext.b .nil pass0 (pa_cons (pv 6) pa_nil)) (pe_call (ok_rowtext T.rowtext.F T.S.mStr) (hr.mono (by decide)) rfl T.rowtext.m T.rowtext.F.kp T.rowtext.b .nil pass0 (pa_cons (pv 10) pa_nil)) (nomark _)) (nomark _))
              (pw_or1 (pt_cmpR op_eq (pe_cmpR (op_neRow T.S (hr.mono (show 6 ≤ 12 by decide))) (pv 8) (pv 9) (nomark _)) (pe_cmpR (op_eqRow T.S (hr.mono (show 5 ≤ 12 by decide))) (pv 8) (pv 9) (nomark _)) (nomark _))))) (pss_one (ps_ret pe_bl)) pss_nil))))))))))))
      (pss_one (ps_ret (pe_and (pe_cmpR (op_eqRow T.S (hr.mono (show 5 ≤ 12 by decide))) (pe_make T.R.R.note.M (okNoteInit T.R.R.note T.R.R.N) (hr.mono (by decide)) rfl T.R.R.note.m T.R.bN T.R.vN passN0 (pa_cons pe_str pa_nil)) (pe_make T.R.R.note.M (okNoteInit T.R.R.note T.R.R.N) (hr.mono (by decide)) rfl T.R.R.note.m T.R.R.note.b .nil passN0 (pa_cons pe_str (pa_cons pe_str pa_nil))) (nomark _))
        (pe_and (pe_cmpR op_eq (pe_callTy (call_strRowK (K := K) (mg := mg) rfl rfl T.R.R T.S.S (hr.mono (show 3 ≤ 12 by decide))) (by rfl) T.S.mStr (by decide +kernel) (pa_cons (pe_make T.R.R.note.M (okNoteInit T.R.R.note T.R.R.N) (hr.mono (by decide)) rfl T.R.R.note.m T.R.bN T.R.vN passN0 (pa_cons pe_str pa_nil)) pa_nil)) pe_str (nomark _))
        (pe_one (pe_cmpR op_eq (pe_callTy (call_strRowK (K := K) (mg := mg) rfl rfl T.R.R T.S.S (hr.mono (show 3 ≤ 12 by decide))) (by rfl) T.S.mStr (by decide +kernel) (pa_cons (pe_make T.R.R.set.M (okSetInit T.R.R.set T.R.R.N) (hr.mono (by decide)) rfl T.R.R.set.m T.R.R.set.b .nil passN0 (pa_cons pe_str (pa_cons pe_int pa_nil))) pa_nil)) pe_str (nomark _))))))), ?_⟩
    have hlen : ((ns.map V.int).length : Int) ≤ 63 := by rw [List.length_map]; omega
    refine ⟨_, rfl, a, _, rfl, .inl hS, _, _, rfl, _, _, rfl, _, rfl, ?b1, ?b2,
      for_range (lo := 0) (fun i σ Hc => ∃ x1 x2 x3 x4 x5 x6 x7 x8 x9 x10, σ = [some (.ref a), x1, x2, x3, x4, x5, x6, x7, x8, x9, x10] ∧ Same H Hc) ⟨_, _, _, _, _, _, _, _, _, _, rfl, Same.refl _⟩ (fun i σ Hc hi hP => ?turn) (fun σ Hc hP => ?fin)⟩
    case b1 => split <;> (try split) <;> omega
    case b2 => split <;> (try split) <;> omega
    case fin =>
      obtain ⟨x1, x2, x3, x4, x5, x6, x7, x8, x9, x10, rfl, hs0⟩ := hP
      have fN : nameS "f" = true := by decide +kernel
      have vN : rowValid (.note "f" "") := ⟨fN, .inl rfl⟩
      have vS : rowValid (.set "f" 0) := ⟨fN, by decide⟩
      have nlf : dlen (.str "f") := by show ("f" : Str).length ≤ 900; decide +kernel
      have nle : dlen (.str "") := by show ("" : Str).length ≤ 900; decide +kernel
      have shE : SeqAt.shaped (.str "") = true := str_shaped (by decide +kernel)
      have no1 : ∀ {p : Prop}, nameD (.str "f") = false → p := fun hn => absurd fN (by rw [show nameS "f" = false from hn]; decide)
      have no2 : ∀ {p : Prop}, labD (.str "") = false → p := fun hg => absurd (lab_of (.inl rfl)) (by rw [hg]; decide)
      refine fun x dx hx hdx ne => ⟨x, dx, .str "f", .str "", .str "f", .str "", rfl, upd_same, .str _, nlf, .str _, nle, shE, fun hn hg H1 kp m hi => ⟨rfl, ?_⟩, fun hn => no1 hn, fun _ hg => no2 hg⟩
      refine fun x2 dx2 hx2 hdx2 ne2 => ⟨x2, dx2, .str "f", .str "", .str "f", .str "", rfl, upd_same, .str _, nlf, .str _, nle, shE, fun hn2 hg2 H2 kp2 m2 hi2 => ⟨rfl, ?_⟩, fun hn => no1 hn, fun _ hg => no2 hg⟩
      refine ⟨x, .note "f" "", rfl, RowAt.same ⟨dx, hi⟩ (kpi_same2 hx2 hdx2 kp2), valid_small vN, .inr ⟨x2, .note "f" "", rfl, ⟨dx2, hi2⟩, valid_small vN, ?_⟩⟩
      rw [decide_eq_true rfl]
      refine ⟨true, rfl, iteT ?_⟩
      refine fun x3 dx3 hx3 hdx3 ne3 => ⟨x3, dx3, .str "f", .str "", .str "f", .str "", rfl, upd_same, .str _, nlf, .str _, nle, shE, fun hn3 hg3 H3 kp3 m3 hi3 => ⟨rfl, ?_⟩, fun hn => no1 hn, fun _ hg => no2 hg⟩
      refine ⟨x3, .note "f" "", rfl, ⟨dx3, hi3⟩, valid_small vN, rfl, ?_⟩
      rw [show decide (V.str (rowText (.note "f" "")) = V.str (Str.ofString "note f")) = true from by decide +kernel]
      refine ⟨true, rfl, iteT ?_⟩
      refine fun x4 dx4 hx4 hdx4 ne4 => ⟨x4, dx4, .str "f", .int ((0 : Nat) : Int), .str "f", .int ((0 : Nat) : Int), rfl, upd_same, .str _, nlf, .int _, fun hn4 hg4 H4 kp4 m4 hi4 => ⟨rfl, ?_⟩, fun hn => no1 hn, fun _ hg => absurd (set_of (n := 0)) (by rw [hg]; decide)⟩
      refine ⟨x4, .set "f" 0, rfl, ⟨dx4, hi4⟩, valid_small vS, rfl, ?_⟩
      rw [show decide (V.str (rowText (.set "f" 0)) = V.str (Str.ofString "set f 0")) = true from by decide +kernel]
      exact q H4
    case turn =>
      obtain ⟨x1, x2, x3, x4, x5, x6, x7, x8, x9, x10, rfl, hs0⟩ := hP
      have hi2 : i ≤ 100 := by
        have : (if (if ((ns.map V.int).length : Int) < 5 then ((ns.map V.int).length : Int) else 5) > 2 then (if ((ns.map V.int).length : Int) < 5 then ((ns.map V.int).length : Int) else 5) else 2).toNat ≤ 63 := by split <;> (try split) <;> omega
        have hi3 := Nat.lt_of_lt_of_le hi this
        omega
      have hSc : SqL K Hc a (ns.map V.int) := hs0.seq hS
      refine ⟨_, rfl, _, rfl, a, ns, i, by rw [Int.zero_add]; rfl, hSc, hi2, fun b x y hb hB => ?_⟩
      refine ⟨by show 0 ≤ sizeLine; decide, fun rl hrl => ?_⟩
      have hbS : Same Hc (upd (upd Hc b (.lst [.int x, .int y])) rl (.lst [])) := (Same.new hb).trans (Same.new hrl)
      have hrlc : Hc rl = none := (Same.new (o := .lst [.int x, .int y]) hb).free hrl
      have hbr : b ≠ rl := fun z => by
        rw [← z, upd_same] at hrl
        cases hrl
      have hb0 : BoxAt (upd (upd Hc b (.lst [.int x, .int y])) rl (.lst [])) b := ⟨x, y, hB, by rw [upd_ne hbr]; exact upd_same⟩
      have hr0 : upd (upd Hc b (.lst [.int x, .int y])) rl (.lst []) rl = some (.lst []) := upd_same
      generalize upd (upd Hc b (.lst [.int x, .int y])) rl (.lst []) = H0 at hbS hb0 hr0 ⊢
      refine ⟨_, _, rfl, ?_⟩
      refine ⟨_, rfl, by decide, by decide, for_range (lo := 0) (n := 12) (fun j σ Hd => ∃ x4 x5 x6 x7 x8 x9 x10 ts rs, σ = [some (.ref a), some (.int (0 + (i : Int))), some (.ref b), some (.ref rl), x4, x5, x6, x7, x8, x9, x10] ∧ Hd rl = some (.lst (ts.map V.ref)) ∧ ts.length = j ∧
        Paired (fun t r => hid (hid Hd b) rl t = some (.tup (rowTup r)) ∧ rowValid r) ts rs ∧ Same Hc (hid (hid Hd b) rl) ∧ BoxAt Hd b) ⟨_, _, _, _, _, _, _, [], [], rfl, hr0, rfl, .nil, hid_free (hid_free hbS hb) hrlc, hb0⟩ (fun j σ Hd hj hP => ?turn2) (fun σ Hd hP => ?fin2)⟩
      case turn2 =>
        obtain ⟨x4, x5, x6, x7, x8, x9, x10, ts, rs, rfl, hrd, htl, hpd, hsd, hBd⟩ := hP
        obtain ⟨xb, yb, hxy, hbd⟩ := id hBd
        try dsimp only
        refine stepSet (fun v H' => ∃ pp d, v = .ref pp ∧ d ∈ poolsD ∧ PoolAt (hid H' b) pp d ∧ Kp b Hd H' ∧ BoxAt H' b) (fun Q' hQ => ?pools) (fun v H1 hC => ?rest1)
        case pools =>
          refine ⟨_, rfl, b, rfl, hBd, fun pp d H' hd hB' kp hp => hQ _ _ ⟨pp, d, rfl, hd, hp.mono (dif_hid hbd), kp, hB'⟩⟩
        case rest1 =>
        obtain ⟨pp, d, rfl, hd, hP1, k1, hB1⟩ := hC
        have fl := pool_fine d hd
        have pn : ∀ x ∈ d.p, nameS x = true := fun x hx => fl.names x (by simp only [List.mem_append]; exact .inl (.inl (.inr hx)))
        try dsimp only
        refine stepSet (fun v H' => ∃ t r, v = .ref t ∧ hid (hid H' b) rl t = some (.tup (rowTup r)) ∧ rowValid r ∧ PoolAt (hid H' b) pp d ∧ Kp b Hd H' ∧ BoxAt H' b) (fun Q' hQ => ?told) (fun v H2 hC => ?rest2)
        case told =>
          obtain ⟨a0, a1, a2, a3, e, e0, e1, e2, e3⟩ := id hP1
          obtain ⟨xb1, yb1, hxy1, hb1⟩ := id hB1
          refine ⟨_, rfl, _, rfl, _, rfl, _, rfl, pp, _, _, _, rfl, rfl, SqL.of (hid_sub _ _ e), atI_nat (j := 0) rfl, b, a0, 3, d.c, rfl, hB1, SqL.of (hid_sub _ _ e0), hid_ne e0, by decide, by rw [fl.cl]; exact Nat.le_refl _, by rw [fl.cl]; decide, fun cc cs H3 kp3 hB3 hcs c0 c1 hmap htree => ?_⟩
          have hh := hid_kp kp3
          have hP3 := hP1.mono hh
          refine ⟨_, rfl, pp, _, _, _, rfl, rfl, SqL.of (hid_sub _ _ (hh _ _ e)), atI_nat (j := 1) rfl, b, pp, cc, a1, d, cs, d.p, rfl, hB3, hP3, hd, hcs.mono (dif_hid hb1), c0, Nat.le_trans c1 (by decide), SqL.of (hid_sub _ _ (hh _ _ e1)), hid_ne e1, by rw [fl.pl]; decide, pn, fun t r H4 kp4 hB4 ht hf => ?_⟩
          obtain ⟨xb3, yb3, hxy3, hb3⟩ := id hB3
          have k4 := (k1.trans kp3).trans kp4
          have htr : t ≠ rl := fun z => by
            have q := (dif_eq.mp ht).1
            rw [z] at q
            have q2 := (k1.trans kp3) rl _ hrd hbr.symm
            rw [q] at q2
            cases q2
          refine hQ _ _ ⟨t, r, rfl, hid_get (dif_hid hb3 _ _ ht) htr, fine_valid fl (fun x hx => ?_) pn hf, hP3.mono (hid_kp kp4), k4, hB4⟩
          rw [hmap] at hx
          exact fl.names x (by simp only [List.mem_append]; exact .inl (.inl (.inl (List.mem_of_mem_take hx))))
        case rest2 =>
        obtain ⟨t, r, rfl, ht, hv, hP2, k2, hB2⟩ := hC
        try dsimp only
        refine stepMay (v0 := .ref t) rfl (fun v H' => ∃ t r, v = .ref t ∧ hid (hid H' b) rl t = some (.tup (rowTup r)) ∧ rowValid r ∧ Kp b Hd H' ∧ BoxAt H' b) (fun Q' hQ => ?may) (fun v H3 hC => ?rest3)
        case may =>
          refine ⟨_, rfl, b, 6, rfl, hB2, by decide, by decide, fun k H' _ _ hB' kp _ => ⟨rfl, _, rfl, ?_⟩⟩
          obtain ⟨xb2, yb2, hxy2, hb2⟩ := id hB2
          have k5 := k2.trans kp
          have hP4 := hP2.mono (hid_kp kp)
          refine ite2 (fun _ => ?_) (fun _ => ?_)
          · obtain ⟨a0, a1, a2, a3, e, e0, e1, e2, e3⟩ := id hP4
            refine ⟨_, rfl, _, rfl, pp, _, _, _, rfl, rfl, SqL.of (hid_sub _ _ e), atI_nat (j := 3) rfl, b, a3, d.l.map V.str, rfl, hB', SqL.of (hid_sub _ _ e3), hid_ne e3, by rw [List.length_map, fl.ll]; decide, by rw [List.length_map, fl.ll]; decide, fun v H6 hv6 hB6 kp6 _ => ?_⟩
            obtain ⟨z, hz, rfl⟩ := List.mem_map.mp hv6
            refine ⟨(by show 2 ≤ sizeLine; decide), fun t6 ht6 => hQ _ _ ⟨t6, .ref z, rfl, hid_get (hid_get upd_same (hB6.ne ht6)) (fun zz => ?_), fl.names z (List.mem_append_right _ hz), (k5.trans kp6).new ht6, hB6.new ht6⟩⟩
            have q := (k5.trans kp6) rl _ hrd hbr.symm
            rw [← zz, ht6] at q
            cases q
          · exact hQ _ _ ⟨t, r, rfl, hid_mono (hid_kp kp) _ _ ht, hv, k5, hB'⟩
        case rest3 =>
        obtain ⟨t, r, rfl, ht, hv, k3, hB3⟩ := hC
        have hr3 := k3 rl _ hrd hbr.symm
        have s3 : Same (hid (hid Hd b) rl) (hid (hid H3 b) rl) := hid_mono (hid_kp k3)
        obtain ⟨xb3, yb3, hxy3, hb3⟩ := id hB3
        refine ⟨_, rfl, .inl ⟨rfl, _, SqL.of hr3⟩, _, rfl, rl, _, _, rfl, rfl, hr3, small1000 (by rw [List.length_map, htl]; omega), ?_⟩
        refine ⟨_, _, _, _, _, _, _, ts ++ [t], rs ++ [r], rfl, by rw [upd_same, List.map_append]; rfl, by rw [List.length_append, htl]; rfl, paired_snoc ⟨hid2_rl _ _ ht, hv⟩ (paired_mono (fun _ _ z => ⟨hid2_rl _ _ (s3 _ _ z.1), z.2⟩) hpd), (hsd.trans s3).trans hid2_rl, ⟨xb3, yb3, hxy3, by rw [upd_ne hbr]; exact hb3⟩⟩
      case fin2 =>
        obtain ⟨x4, x5, x6, x7, x8, x9, x10, ts, rs, rfl, hrd, htl, hpd, hsd, hBd⟩ := hP
        have hpd2 : Paired (fun t r => Hd t = some (.tup (rowTup r)) ∧ rowValid r) ts rs := paired_mono (fun _ _ z => ⟨hid_sub _ _ (hid_sub _ _ z.1), z.2⟩) hpd
        have hsd2 : Same Hc Hd := hsd.trans (fun a o e => hid_sub _ _ (hid_sub _ _ e))
        have hrl2 := paired_len hpd2
        clear hpd hsd
        try dsimp only
        refine stepSet (fun v H' => ∃ mp ms, v = .ref mp ∧ H' mp = some (.lst (ms.map V.ref)) ∧ Paired (fun m r => RowAt T.R.R H' m r) ms rs ∧ Same Hd H') (fun Q' hQ => ?mk) (fun v H1 hC => ?rest4)
        case mk =>
          refine ⟨_, rfl, rl, rfl, ⟨_, SqL.of hrd⟩, fun D hD => lc_it (walk_list (xs := ts.map V.ref)) (fun m Hm => ∃ ms : List Addr, Hm D = some (.lst (ms.map V.ref)) ∧ ms.length ≤ m ∧ Paired (fun x r => RowAt T.R.R Hm x r) ms (rs.take m) ∧ Same Hd Hm) ⟨[], upd_same, Nat.zero_le _, .nil, Same.new hD⟩ (fun m Hm _ hP => ?stays) (fun m z Hm Hn hm hP hY => ?turnm) (fun Hm hP => ?donem)⟩
          case stays =>
            obtain ⟨_, _, _, _, sm⟩ := hP
            exact SqL.of (sm _ _ hrd)
          case donem =>
            obtain ⟨ms, hD2, _, hpm, sm⟩ := hP
            refine hQ _ _ ⟨D, ms, rfl, hD2, ?_, sm⟩
            rw [List.length_map, hrl2, List.take_length] at hpm
            exact hpm
          case turnm =>
            obtain ⟨rfl, hz⟩ := hY
            obtain ⟨ms, hD2, hml, hpm, sm⟩ := hP
            rw [List.getElem?_map] at hz
            cases hzt : ts[m]? with
            | none => rw [hzt] at hz; cases hz
            | some t =>
              rw [hzt] at hz
              cases hz
              obtain ⟨r, hr1, hr2, hr3⟩ := paired_at hpd2 hzt
              have hm12 : m < 12 := by
                rw [List.length_map, htl] at hm
                exact hm
              refine ⟨rfl, _, rfl, t, r, rfl, SqT.of (sm _ _ hr2), hr3, fun x Hr s7 hx => ?_⟩
              have hDr := s7 D _ hD2
              obtain ⟨dx, hx2⟩ := id hx
              obtain ⟨gs, eg⟩ := insRow_ins T.R.R dx r
              have keep : ∀ {y : Addr} {q : RowD}, RowAt T.R.R Hr y q → RowAt T.R.R (upd Hr D (.lst (ms.map V.ref ++ [V.ref x]))) y q := fun {y q} ⟨dy, hy⟩ => ⟨dy, by
                obtain ⟨gs, eg⟩ := insRow_ins T.R.R dy q
                rw [upd_ne (fun z => by rw [z, hDr, eg] at hy; cases hy)]
                exact hy⟩
              refine ⟨_, hDr, small1000 (by rw [List.length_map]; omega), ms ++ [x], by rw [upd_same, List.map_append]; rfl, by rw [List.length_append]; exact Nat.add_le_add_right hml 1, ?_, fun b' o' e' => ?_⟩
              · rw [List.take_add_one, hr1]
                exact paired_snoc (keep hx) (paired_mono (fun _ _ ⟨dy, hy⟩ => keep ⟨dy, s7 _ _ hy⟩) hpm)
              · rw [upd_ne (ne_of_none e' hD)]
                exact s7 _ _ (sm _ _ e')
        case rest4 =>
        obtain ⟨mp, ms, rfl, hmp, hms, s1⟩ := hC
        have hrd1 := s1 _ _ hrd
        have hts1 : Paired (fun t r => H1 t = some (.tup (rowTup r)) ∧ rowValid r) ts rs := paired_mono (fun _ _ z => ⟨s1 _ _ z.1, z.2⟩) hpd2
        have hml : (ms.map V.ref).length = (ts.map V.ref).length := by rw [List.length_map, List.length_map, hrl2]; exact paired_len hms
        refine ⟨_, rfl, _, rfl, mp, rl, ms.map V.ref, ts.map V.ref, rfl, SqL.of hmp, SqL.of hrd1, RZ.for_zipL hml (fun m σ Hx => ∃ y6 y8 y9 y10, σ = [some (.ref a), some (.int (0 + (i : Int))), some (.ref b), some (.ref rl), x4, x5, y6, some (.ref mp), y8, y9, y10] ∧ Same H1 Hx)
          ⟨_, _, _, _, rfl, Same.refl _⟩ (fun m σ Hx hP => ?both) (fun m xv yv Tz σ Hx hx hy hP hT => ?turn3) (fun σ Hx hP => ?after)⟩
        case both =>
          obtain ⟨_, _, _, _, _, sx⟩ := hP
          exact ⟨SqL.of (sx _ _ hmp), SqL.of (sx _ _ hrd1)⟩
        case after =>
          obtain ⟨_, _, _, _, rfl, sx⟩ := hP
          exact ⟨_, _, _, _, _, _, _, _, _, _, rfl, hs0.trans (hsd2.trans (s1.trans sx))⟩
        case turn3 =>
          obtain ⟨y6, y8, y9, y10, rfl, sx⟩ := hP
          rw [List.getElem?_map] at hx hy
          cases hxm : ms[m]? with
          | none => rw [hxm] at hx; cases hx
          | some x =>
          cases hyt : ts[m]? with
          | none => rw [hyt] at hy; cases hy
          | some t =>
          rw [hxm] at hx
          rw [hyt] at hy
          cases hx
          cases hy
          obtain ⟨r, hr1, hrow⟩ := paired_at hms hxm
          obtain ⟨r', hr2, htup, hval⟩ := paired_at hts1 hyt
          rw [hr1] at hr2
          cases hr2
          refine ⟨Tz, _, rfl, SqT.of upd_same, rfl, _, _, rfl, _, _, rfl, rfl, ?_⟩
          have sT : Same H1 (upd Hx Tz (.tup [.ref x, .ref t])) := sx.trans (Same.new hT)
          generalize upd Hx Tz (.tup [V.ref x, V.ref t]) = H2 at sT ⊢
          try dsimp only
          refine stepNo (fun H' => Same H2 H') (fun Q' hQ => ?t1) (fun H3 s3 => ?r3)
          case t1 =>
            obtain ⟨dx, hx2⟩ := id hrow
            obtain ⟨gs, eg⟩ := insRow_ins T.R.R dx r
            rw [eg] at hx2
            obtain ⟨dx', fs, hx3, hcl, hnoW, hlk⟩ := row_word T.R.R (hrow.same sT)
            have htT : SqT K H2 t (rowTup r) := SqT.of (sT _ _ htup)
            obtain ⟨ds, hf, g1, g2, g3, g4⟩ := tail_data hval
            obtain ⟨tc1, tc2⟩ := tail_cut r
            refine ⟨_, rfl, .ref x, .ref T.S.CR, _, _, true, rfl, .own _, .base (.ins (sT _ _ hx2) (cls_of T.R.R r) (T.S.cA r) T.S.cN T.S.cT (T.S.cM r)), T.S.kR r, _, rfl, iteF ?_⟩
            refine ⟨_, rfl, x, _, dx', fs, _, rfl, hx3, hcl, hnoW, hlk, _, rfl, t, _, _, _, rfl, rfl, htT, atI_nat (j := 0) (tup_word r), rfl, _, rfl, iteFD (by simp) ?_⟩
            refine ⟨_, rfl, x, r, rfl, hrow.same sT, fun p H4 s4 hp4 => ?_⟩
            refine ⟨p, _, ds, rfl, hp4, hf, g1, g2, g3, g4, ?_⟩
            refine ⟨_, rfl, 1, rfl, t, _, rfl, Same.sqt s4 htT, tc2, fun p2 hp2 => ?_⟩
            refine ⟨p2, _, ds, rfl, SqT.of upd_same, by rw [tc1]; exact hf, g1, g2, g3, g4, rfl, _, rfl, ?_⟩
            rw [show (!decide (V.str (PyData.shown (.tuple ds)) = V.str (PyData.shown (.tuple ds)))) = false by simp]
            exact hQ _ (s4.trans (Same.new hp2))
          case r3 =>
          have sT3 := sT.trans s3
          have hvs := valid_small hval
          try dsimp only
          refine stepNo (fun H' => Same H3 H') (fun Q' hQ => ?t2) (fun H4 s4 => ?r4)
          case t2 =>
            have hr3 : RowAt T.R.R H3 x r := hrow.same sT3
            have ht3 : SqT K H3 t (rowTup r) := SqT.of (sT3 _ _ htup)
            refine ⟨_, rfl, x, r, rfl, hr3, hvs, _, rfl, t, r, rfl, ht3, hval, fun H5 s5 => ?_⟩
            refine ⟨rfl, _, rfl, iteFD (by simp) ?_⟩
            refine ⟨_, rfl, x, r, rfl, hr3.same s5, hvs, rowText r, rfl, Nat.le_trans (sm_row hval).1 (by decide), (sm_row hval).2, fun r' e a' H6 s6 m6 ha' => ?_, fun e => ?_⟩
            · rw [row_back hval] at e
              cases e
              have hr6 := (hr3.same s5).same s6
              refine ⟨_, rfl, a', r, rfl, ha', hvs, .inr ⟨x, r, rfl, hr6, hvs, _, rfl, iteFD (by simp) ?_⟩⟩
              refine ⟨_, rfl, _, rfl, x, r, rfl, hr6, hvs, x, r, rfl, hr6, hvs, .inl ⟨_, rfl, _, rfl, ?_⟩⟩
              exact hQ _ (s5.trans s6)
            · rw [row_back hval] at e
              cases e
          case r4 =>
          have sT4 := sT3.trans s4
          have hmp4 := sT4 _ _ hmp
          have hrd4 := sT4 _ _ hrd1
          refine ⟨_, rfl, _, rfl, mp, rl, ms.map V.ref, ts.map V.ref, rfl, SqL.of hmp4, SqL.of hrd4, RZ.for_zipL hml (fun m σ Hy => ∃ z9 z10, σ = [some (.ref a), some (.int (0 + (i : Int))), some (.ref b), some (.ref rl), x4, x5, some (.ref t), some (.ref mp), some (.ref x), z9, z10] ∧ Same H4 Hy)
            ⟨_, _, rfl, Same.refl _⟩ (fun m2 σ Hy hP => ?both4) (fun m2 xv2 yv2 Tz2 σ Hy hx2 hy2 hP hT2 => ?turn4) (fun σ Hy hP => ?after4)⟩
          case both4 =>
            obtain ⟨_, _, _, sy⟩ := hP
            exact ⟨SqL.of (sy _ _ hmp4), SqL.of (sy _ _ hrd4)⟩
          case after4 =>
            obtain ⟨_, _, rfl, sy⟩ := hP
            exact ⟨_, _, _, _, rfl, sT4.trans sy⟩
          case turn4 =>
            obtain ⟨z9, z10, rfl, sy⟩ := hP
            rw [List.getElem?_map] at hx2 hy2
            cases hxm2 : ms[m2]? with
            | none => rw [hxm2] at hx2; cases hx2
            | some x2 =>
            cases hyt2 : ts[m2]? with
            | none => rw [hyt2] at hy2; cases hy2
            | some t2 =>
            rw [hxm2] at hx2
            rw [hyt2] at hy2
            cases hx2
            cases hy2
            obtain ⟨r2, hr12, hrow2⟩ := paired_at hms hxm2
            obtain ⟨r2', hr22, htup2, hval2⟩ := paired_at hts1 hyt2
            rw [hr12] at hr22
            cases hr22
            have hvs2 := valid_small hval2
            refine ⟨Tz2, _, rfl, SqT.of upd_same, rfl, _, _, rfl, _, _, rfl, rfl, ?_⟩
            have sY : Same H4 (upd Hy Tz2 (.tup [.ref x2, .ref t2])) := sy.trans (Same.new hT2)
            generalize upd Hy Tz2 (.tup [V.ref x2, V.ref t2]) = H5 at sY ⊢
            have s5 := sT4.trans sY
            have ha5 : RowAt T.R.R H5 x r := hrow.same s5
            have hb5 : RowAt T.R.R H5 x2 r2 := hrow2.same s5
            refine ⟨_, rfl, _, rfl, x, r, rfl, ha5, hvs, .inr ⟨x2, r2, rfl, hb5, hvs2, ?_⟩⟩
            refine ⟨_, rfl, t, r, rfl, SqT.of (s5 _ _ htup), hval, fun H6 s6 => ?_⟩
            refine ⟨_, rfl, t2, r2, rfl, SqT.of (s6 _ _ (s5 _ _ htup2)), hval2, fun H7 s7 => ?_⟩
            refine ⟨rfl, rfl, _, rfl, iteFD (by simp) ?_⟩
            have ha7 := (ha5.same s6).same s7
            have hb7 := (hb5.same s6).same s7
            refine ⟨_, rfl, _, rfl, x, r, rfl, ha7, hvs, .inr ⟨x2, r2, rfl, hb7, hvs2, ?_⟩⟩
            refine ⟨_, rfl, _, rfl, x, r, rfl, ha7, hvs, .inr ⟨x2, r2, rfl, hb7, hvs2, ?_⟩⟩
            refine ⟨rfl, _, rfl, ?_⟩
            refine iteFD (by cases decide (rowText r = rowText r2) <;> simp) ?_
            exact ⟨_, _, rfl, sY.trans (s6.trans s7)⟩
end
end Pn

namespace Pn
open PySem L2
theorem refs_one (a : Addr) : PySem.HandSPX.refsVE [.ref a, .type "ValueError", .type "Exception", .type "BaseException", .type "object"] = true := by
  show PySem.HandSPX.refsVE [.type "ValueError", .type "Exception", .type "BaseException", .type "object"] = true
  decide +kernel
theorem all_mk {P : Program} {w : World} {K : PySem.W.Frag} {h : Heap} {mg : Str → Option Value} {fa : Addr} (X : K.In h) (G : h.Ns mainGlobals mg) (hfa : mg "law" = some (.ref fa))
    {wROWWORDS : Addr} {ddROWWORDS : Option Addr} {nROWWORDS : Nat} {slROWWORDS : Array (Option Value)} {uROWWORDS0 uROWWORDS1 uROWWORDS2 uROWWORDS3 uROWWORDS4 uROWWORDS5 uROWWORDS6 uROWWORDS7 uROWWORDS8 : Tok}
    {tkLONGESTNAME : Tok}
    {tkMOSTDIGITS : Tok}
    {fisinteger : Addr}
    {odisinteger anisinteger : Option Addr} {slisinteger : Array (Option Value)} {ocisinteger kVisinteger dcisinteger pmisinteger cdisinteger ctisinteger : Value}
    {fisnumber : Addr}
    {odisnumber anisnumber : Option Addr} {slisnumber : Array (Option Value)} {ocisnumber kVisnumber dcisnumber pmisnumber cdisnumber ctisnumber : Value}
    {fisname : Addr}
    {odisname anisname : Option Addr} {slisname : Array (Option Value)} {ocisname kVisname dcisname pmisname cdisname ctisname : Value}
    {CNoteError : Addr}
    {CInvalidRow fInvalidRow : Addr} {nmInvalidRow qInvalidRow : Str} {NInvalidRow : Addr} {bsInvalidRow : List Value} {snInvalidRow : List Str} {subInvalidRow : List Value} {abInvalidRow : Bool} {colInvalidRow : Option Bool} {ddcInvalidRow : Option Addr} {maInvalidRow mbInvalidRow mcInvalidRow mdInvalidRow meInvalidRow : Option Value}
    {odInvalidRow anInvalidRow : Option Addr} {slInvalidRow : Array (Option Value)} {ocInvalidRow kVInvalidRow dcInvalidRow pmInvalidRow cdInvalidRow ctInvalidRow : Value}
    {CInvalidText fInvalidText : Addr} {nmInvalidText qInvalidText : Str} {NInvalidText : Addr} {bsInvalidText : List Value} {snInvalidText : List Str} {subInvalidText : List Value} {abInvalidText : Bool} {colInvalidText : Option Bool} {ddcInvalidText : Option Addr} {maInvalidText mbInvalidText mcInvalidText mdInvalidText meInvalidText : Option Value}
    {odInvalidText anInvalidText : Option Addr} {slInvalidText : Array (Option Value)} {ocInvalidText kVInvalidText dcInvalidText pmInvalidText cdInvalidText ctInvalidText : Value}
    {fneedname : Addr}
    {odneedname anneedname : Option Addr} {slneedname : Array (Option Value)} {ocneedname kVneedname dcneedname pmneedname cdneedname ctneedname : Value}
    {CNote fNote : Addr}
    {TdNote : Addr} {cTNote : Value} {oTNote : Option Addr} {nTNote : Nat} {sTNote : Array (Option Value)} {tkTNote : Tok}
    {odNote anNote : Option Addr} {slNote : Array (Option Value)} {ocNote kVNote dcNote pmNote cdNote ctNote : Value}
    {fSNote : Addr}
    {odSNote anSNote : Option Addr} {slSNote : Array (Option Value)} {ocSNote kVSNote dcSNote pmSNote cdSNote ctSNote : Value}
    {CSkip fSkip : Addr}
    {odSkip anSkip : Option Addr} {slSkip : Array (Option Value)} {ocSkip kVSkip dcSkip pmSkip cdSkip ctSkip : Value}
    {fSSkip : Addr}
    {odSSkip anSSkip : Option Addr} {slSSkip : Array (Option Value)} {ocSSkip kVSSkip dcSSkip pmSSkip cdSSkip ctSSkip : Value}
    {CSet fSet : Addr}
    {odSet anSet : Option Addr} {slSet : Array (Option Value)} {ocSet kVSet dcSet pmSet cdSet ctSet : Value}
    {fSSet : Addr}
    {odSSet anSSet : Option Addr} {slSSet : Array (Option Value)} {ocSSet kVSSet dcSSet pmSSet cdSSet ctSSet : Value}
    {CKeep fKeep : Addr}
    {odKeep anKeep : Option Addr} {slKeep : Array (Option Value)} {ocKeep kVKeep dcKeep pmKeep cdKeep ctKeep : Value}
    {fSKeep : Addr}
    {odSKeep anSKeep : Option Addr} {slSKeep : Array (Option Value)} {ocSKeep kVSKeep dcSKeep pmSKeep cdSKeep ctSKeep : Value}
    {CBack fBack : Addr}
    {odBack anBack : Option Addr} {slBack : Array (Option Value)} {ocBack kVBack dcBack pmBack cdBack ctBack : Value}
    {fSBack : Addr}
    {odSBack anSBack : Option Addr} {slSBack : Array (Option Value)} {ocSBack kVSBack dcSBack pmSBack cdSBack ctSBack : Value}
    {CRef fRef : Addr}
    {odRef anRef : Option Addr} {slRef : Array (Option Value)} {ocRef kVRef dcRef pmRef cdRef ctRef : Value}
    {fSRef : Addr}
    {odSRef anSRef : Option Addr} {slSRef : Array (Option Value)} {ocSRef kVSRef dcSRef pmSRef cdSRef ctSRef : Value}
    {CPut fPut : Addr}
    {odPut anPut : Option Addr} {slPut : Array (Option Value)} {ocPut kVPut dcPut pmPut cdPut ctPut : Value}
    {fSPut : Addr}
    {odSPut anSPut : Option Addr} {slSPut : Array (Option Value)} {ocSPut kVSPut dcSPut pmSPut cdSPut ctSPut : Value}
    {COpen fOpen : Addr}
    {odOpen anOpen : Option Addr} {slOpen : Array (Option Value)} {ocOpen kVOpen dcOpen pmOpen cdOpen ctOpen : Value}
    {fSOpen : Addr}
    {odSOpen anSOpen : Option Addr} {slSOpen : Array (Option Value)} {ocSOpen kVSOpen dcSOpen pmSOpen cdSOpen ctSOpen : Value}
    {freadnumber : Addr}
    {odreadnumber anreadnumber : Option Addr} {slreadnumber : Array (Option Value)} {ocreadnumber kVreadnumber dcreadnumber pmreadnumber cdreadnumber ctreadnumber : Value}
    {frowoftwo : Addr}
    {odrowoftwo anrowoftwo : Option Addr} {slrowoftwo : Array (Option Value)} {ocrowoftwo kVrowoftwo dcrowoftwo pmrowoftwo cdrowoftwo ctrowoftwo : Value}
    {frowofthree : Addr}
    {odrowofthree anrowofthree : Option Addr} {slrowofthree : Array (Option Value)} {ocrowofthree kVrowofthree dcrowofthree pmrowofthree cdrowofthree ctrowofthree : Value}
    {freadrow : Addr}
    {odreadrow anreadrow : Option Addr} {slreadrow : Array (Option Value)} {ocreadrow kVreadrow dcreadrow pmreadrow cdreadrow ctreadrow : Value}
    {flawseed : Addr}
    {odlawseed anlawseed : Option Addr} {sllawseed : Array (Option Value)} {oclawseed kVlawseed dclawseed pmlawseed cdlawseed ctlawseed : Value}
    {flawchoose : Addr}
    {odlawchoose anlawchoose : Option Addr} {sllawchoose : Array (Option Value)} {oclawchoose kVlawchoose dclawchoose pmlawchoose cdlawchoose ctlawchoose : Value}
    {flawoneof : Addr}
    {odlawoneof anlawoneof : Option Addr} {sllawoneof : Array (Option Value)} {oclawoneof kVlawoneof dclawoneof pmlawoneof cdlawoneof ctlawoneof : Value}
    {flawpools : Addr}
    {odlawpools anlawpools : Option Addr} {sllawpools : Array (Option Value)} {oclawpools kVlawpools dclawpools pmlawpools cdlawpools ctlawpools : Value}
    {flawcounters : Addr}
    {odlawcounters anlawcounters : Option Addr} {sllawcounters : Array (Option Value)} {oclawcounters kVlawcounters dclawcounters pmlawcounters cdlawcounters ctlawcounters : Value}
    {flawrow : Addr}
    {odlawrow anlawrow : Option Addr} {sllawrow : Array (Option Value)} {oclawrow kVlawrow dclawrow pmlawrow cdlawrow ctlawrow : Value}
    {CRow : Addr}
    {fsamerow : Addr}
    {odsamerow ansamerow : Option Addr} {slsamerow : Array (Option Value)} {ocsamerow kVsamerow dcsamerow pmsamerow cdsamerow ctsamerow : Value}
    {fQNote : Addr}
    {odQNote anQNote : Option Addr} {slQNote : Array (Option Value)} {ocQNote kVQNote dcQNote pmQNote cdQNote ctQNote : Value}
    {fQSkip : Addr}
    {odQSkip anQSkip : Option Addr} {slQSkip : Array (Option Value)} {ocQSkip kVQSkip dcQSkip pmQSkip cdQSkip ctQSkip : Value}
    {fQSet : Addr}
    {odQSet anQSet : Option Addr} {slQSet : Array (Option Value)} {ocQSet kVQSet dcQSet pmQSet cdQSet ctQSet : Value}
    {fQKeep : Addr}
    {odQKeep anQKeep : Option Addr} {slQKeep : Array (Option Value)} {ocQKeep kVQKeep dcQKeep pmQKeep cdQKeep ctQKeep : Value}
    {fQBack : Addr}
    {odQBack anQBack : Option Addr} {slQBack : Array (Option Value)} {ocQBack kVQBack dcQBack pmQBack cdQBack ctQBack : Value}
    {fQRef : Addr}
    {odQRef anQRef : Option Addr} {slQRef : Array (Option Value)} {ocQRef kVQRef dcQRef pmQRef cdQRef ctQRef : Value}
    {fQPut : Addr}
    {odQPut anQPut : Option Addr} {slQPut : Array (Option Value)} {ocQPut kVQPut dcQPut pmQPut cdQPut ctQPut : Value}
    {fQOpen : Addr}
    {odQOpen anQOpen : Option Addr} {slQOpen : Array (Option Value)} {ocQOpen kVQOpen dcQOpen pmQOpen cdQOpen ctQOpen : Value}
    {flawrowtext : Addr}
    {odlawrowtext anlawrowtext : Option Addr} {sllawrowtext : Array (Option Value)} {oclawrowtext kVlawrowtext dclawrowtext pmlawrowtext cdlawrowtext ctlawrowtext : Value}
    {flawmaderow : Addr}
    {odlawmaderow anlawmaderow : Option Addr} {sllawmaderow : Array (Option Value)} {oclawmaderow kVlawmaderow dclawmaderow pmlawmaderow cdlawmaderow ctlawmaderow : Value}
    {flawkept : Addr}
    {odlawkept anlawkept : Option Addr} {sllawkept : Array (Option Value)} {oclawkept kVlawkept dclawkept pmlawkept cdlawkept ctlawkept : Value}
    {flaw : Addr}
    {odlaw anlaw : Option Addr} {sllaw : Array (Option Value)} {oclaw kVlaw dclaw pmlaw cdlaw ctlaw : Value}
    (zint : PySem.W.nsIn K mainGlobals "int" = some none)
    (zbool : PySem.W.nsIn K mainGlobals "bool" = some none)
    (zstr : PySem.W.nsIn K mainGlobals "str" = some none)
    (zisinstance : PySem.W.nsIn K mainGlobals "isinstance" = some none)
    (zlen : PySem.W.nsIn K mainGlobals "len" = some none)
    (zall : PySem.W.nsIn K mainGlobals "all" = some none)
    (zabs : PySem.W.nsIn K mainGlobals "abs" = some none)
    (zrange : PySem.W.nsIn K mainGlobals "range" = some none)
    (zmax : PySem.W.nsIn K mainGlobals "max" = some none)
    (zmin : PySem.W.nsIn K mainGlobals "min" = some none)
    (zrepr : PySem.W.nsIn K mainGlobals "repr" = some none)
    (zzip : PySem.W.nsIn K mainGlobals "zip" = some none)
    (aROWWORDS : PySem.W.nsIn K mainGlobals "ROW_WORDS" = some (some (.ref wROWWORDS)))
    (lROWWORDS : K.lookup wROWWORDS = some ⟨.type "tuple", ddROWWORDS, .seq #[.str "note" uROWWORDS0, .str "skip" uROWWORDS1, .str "set" uROWWORDS2, .str "keep" uROWWORDS3, .str "back" uROWWORDS4, .str "ref" uROWWORDS5, .str "put" uROWWORDS6, .str "open" uROWWORDS7, .str "part" uROWWORDS8] nROWWORDS, slROWWORDS⟩)
    (aLONGESTNAME : PySem.W.nsIn K mainGlobals "LONGEST_NAME" = some (some (.int 4 tkLONGESTNAME)))
    (aMOSTDIGITS : PySem.W.nsIn K mainGlobals "MOST_DIGITS" = some (some (.int 10 tkMOSTDIGITS)))
    (aisinteger : PySem.W.nsIn K mainGlobals "is_integer" = some (some (.ref fisinteger)))
    (lisinteger : K.lookup fisinteger = some ⟨ocisinteger, odisinteger, .func (PySem.W.fnOf "is_integer" "is_integer" (defArgs sIsInteger) (defBody sIsInteger) (defScope sIsInteger) .none kVisinteger dcisinteger pmisinteger anisinteger cdisinteger ctisinteger), slisinteger⟩)
    (cisinteger : PySem.W.codeIn K cdisinteger "is_integer" = true)
    (kisinteger : PySem.W.keepIn K (.ref fisinteger) = true)
    (aisnumber : PySem.W.nsIn K mainGlobals "is_number" = some (some (.ref fisnumber)))
    (lisnumber : K.lookup fisnumber = some ⟨ocisnumber, odisnumber, .func (PySem.W.fnOf "is_number" "is_number" (defArgs sIsNumber) (defBody sIsNumber) (defScope sIsNumber) .none kVisnumber dcisnumber pmisnumber anisnumber cdisnumber ctisnumber), slisnumber⟩)
    (cisnumber : PySem.W.codeIn K cdisnumber "is_number" = true)
    (kisnumber : PySem.W.keepIn K (.ref fisnumber) = true)
    (aisname : PySem.W.nsIn K mainGlobals "is_name" = some (some (.ref fisname)))
    (lisname : K.lookup fisname = some ⟨ocisname, odisname, .func (PySem.W.fnOf "is_name" "is_name" (defArgs sIsName) (defBody sIsName) (defScope sIsName) .none kVisname dcisname pmisname anisname cdisname ctisname), slisname⟩)
    (cisname : PySem.W.codeIn K cdisname "is_name" = true)
    (kisname : PySem.W.keepIn K (.ref fisname) = true)
    (aNoteError : PySem.W.nsIn K mainGlobals "NoteError" = some (some (.ref CNoteError)))
    (aInvalidRow : PySem.W.nsIn K mainGlobals "InvalidRow" = some (some (.ref CInvalidRow)))
    (xInvalidRow : K.lookup CInvalidRow = some (excClassObj nmInvalidRow qInvalidRow CInvalidRow NInvalidRow bsInvalidRow [.ref CNoteError, .type "ValueError", .type "Exception", .type "BaseException", .type "object"] true snInvalidRow subInvalidRow abInvalidRow colInvalidRow ddcInvalidRow maInvalidRow mbInvalidRow mcInvalidRow mdInvalidRow meInvalidRow "ValueError.__new__"))
    (saInvalidRow : PySem.W.findIn K (.ref CInvalidRow) "__setattr__" = some (some (.builtin "object.__setattr__")))
    (gaInvalidRow : PySem.W.findIn K (.ref CInvalidRow) "__getattribute__" = some (some (.builtin "BaseException.__getattribute__")))
    (ggInvalidRow : PySem.W.findIn K (.ref CInvalidRow) "__getattr__" = some (none))
    (nfInvalidRow : PySem.W.findIn K (.ref CInvalidRow) "word" = some (none))
    (inInvalidRow : PySem.W.findIn K (.ref CInvalidRow) "__init__" = some (some (.ref fInvalidRow)))
    (haInvalidRow : PySem.W.findIn K (.ref CInvalidRow) "__class__" = some (some (.builtin "object.__class__")))
    (tiInvalidRow : PySem.W.typeIn K (.ref fInvalidRow) = some (.type "function"))
    (lInvalidRow : K.lookup fInvalidRow = some ⟨ocInvalidRow, odInvalidRow, .func (PySem.W.fnOf "__init__" "InvalidRow.__init__" (defArgs sIRInit) (defBody sIRInit) (defScope sIRInit) .none kVInvalidRow dcInvalidRow pmInvalidRow anInvalidRow cdInvalidRow ctInvalidRow), slInvalidRow⟩)
    (cInvalidRow : PySem.W.codeIn K cdInvalidRow "InvalidRow.__init__" = true)
    (kInvalidRow : PySem.W.keepIn K (.ref fInvalidRow) = true)
    (kcInvalidRow : PySem.W.keepIn K (.ref CInvalidRow) = true)
    (eCInvalidRow : PySem.W.subIn K (.ref CInvalidRow) (.type "BaseException") = some true)
    (tCInvalidRow : PySem.W.typeIn K (.ref CInvalidRow) = some (.type "type"))
    (hCInvalidRow : PySem.W.hasDictIn K CInvalidRow = true)
    (iCInvalidRow : PySem.W.isClsIn K CInvalidRow = true)
    (sCInvalidRow : PySem.W.subIn K (.ref CInvalidRow) (.ref CInvalidRow) = some true)
    (hmInvalidRow : PySem.W.mroIn K CInvalidRow (.type "object") = some true)
    (aInvalidText : PySem.W.nsIn K mainGlobals "InvalidText" = some (some (.ref CInvalidText)))
    (xInvalidText : K.lookup CInvalidText = some (excClassObj nmInvalidText qInvalidText CInvalidText NInvalidText bsInvalidText [.ref CNoteError, .type "ValueError", .type "Exception", .type "BaseException", .type "object"] true snInvalidText subInvalidText abInvalidText colInvalidText ddcInvalidText maInvalidText mbInvalidText mcInvalidText mdInvalidText meInvalidText "ValueError.__new__"))
    (saInvalidText : PySem.W.findIn K (.ref CInvalidText) "__setattr__" = some (some (.builtin "object.__setattr__")))
    (gaInvalidText : PySem.W.findIn K (.ref CInvalidText) "__getattribute__" = some (some (.builtin "BaseException.__getattribute__")))
    (ggInvalidText : PySem.W.findIn K (.ref CInvalidText) "__getattr__" = some (none))
    (nfInvalidText : PySem.W.findIn K (.ref CInvalidText) "at" = some (none))
    (inInvalidText : PySem.W.findIn K (.ref CInvalidText) "__init__" = some (some (.ref fInvalidText)))
    (haInvalidText : PySem.W.findIn K (.ref CInvalidText) "__class__" = some (some (.builtin "object.__class__")))
    (tiInvalidText : PySem.W.typeIn K (.ref fInvalidText) = some (.type "function"))
    (lInvalidText : K.lookup fInvalidText = some ⟨ocInvalidText, odInvalidText, .func (PySem.W.fnOf "__init__" "InvalidText.__init__" (defArgs sITInit) (defBody sITInit) (defScope sITInit) .none kVInvalidText dcInvalidText pmInvalidText anInvalidText cdInvalidText ctInvalidText), slInvalidText⟩)
    (cInvalidText : PySem.W.codeIn K cdInvalidText "InvalidText.__init__" = true)
    (kInvalidText : PySem.W.keepIn K (.ref fInvalidText) = true)
    (kcInvalidText : PySem.W.keepIn K (.ref CInvalidText) = true)
    (eCInvalidText : PySem.W.subIn K (.ref CInvalidText) (.type "BaseException") = some true)
    (tCInvalidText : PySem.W.typeIn K (.ref CInvalidText) = some (.type "type"))
    (hCInvalidText : PySem.W.hasDictIn K CInvalidText = true)
    (iCInvalidText : PySem.W.isClsIn K CInvalidText = true)
    (sCInvalidText : PySem.W.subIn K (.ref CInvalidText) (.ref CInvalidText) = some true)
    (hmInvalidText : PySem.W.mroIn K CInvalidText (.type "object") = some true)
    (aneedname : PySem.W.nsIn K mainGlobals "need_name" = some (some (.ref fneedname)))
    (lneedname : K.lookup fneedname = some ⟨ocneedname, odneedname, .func (PySem.W.fnOf "need_name" "need_name" (defArgs sNeedName) (defBody sNeedName) (defScope sNeedName) .none kVneedname dcneedname pmneedname anneedname cdneedname ctneedname), slneedname⟩)
    (cneedname : PySem.W.codeIn K cdneedname "need_name" = true)
    (kneedname : PySem.W.keepIn K (.ref fneedname) = true)
    (aNote : PySem.W.nsIn K mainGlobals "Note" = some (some (.ref CNote)))
    (inNote : PySem.W.findIn K (.ref CNote) "__init__" = some (some (.ref fNote)))
    (iNote : PySem.W.isFn K (.ref fNote) = true)
    (lNote : K.lookup fNote = some ⟨ocNote, odNote, .func (PySem.W.fnOf "__init__" "Note.__init__" (defArgs sNoteInit) (defBody sNoteInit) (defScope sNoteInit) (.ref TdNote) kVNote dcNote pmNote anNote cdNote ctNote), slNote⟩)
    (cNote : PySem.W.codeIn K cdNote "Note.__init__" = true)
    (kNote : PySem.W.keepIn K (.ref fNote) = true)
    (lTNote : K.lookup TdNote = some ⟨cTNote, oTNote, .seq #[.str "" tkTNote] nTNote, sTNote⟩)
    (pgNote : PySem.W.plainGet K CNote Str.empty = true)
    (hdNote : PySem.W.hasDictIn K CNote = true)
    (poNote : PySem.W.plainOver K CNote = true)
    (saNote : PySem.W.findIn K (.ref CNote) "__setattr__" = some (some (.builtin "object.__setattr__")))
    (mkNote : PySem.W.makesIn K CNote = true)
    (kcNote : PySem.W.keepIn K (.ref CNote) = true)
    (nNote0 : PySem.W.findIn K (.ref CNote) "word" = some none)
    (nNote1 : PySem.W.findIn K (.ref CNote) "counter" = some none)
    (nNote2 : PySem.W.findIn K (.ref CNote) "label" = some none)
    (inSNote : PySem.W.findIn K (.ref CNote) "__str__" = some (some (.ref fSNote)))
    (iSNote : PySem.W.isFn K (.ref fSNote) = true)
    (lSNote : K.lookup fSNote = some ⟨ocSNote, odSNote, .func (PySem.W.fnOf "__str__" "Note.__str__" (defArgs sNoteStr) (defBody sNoteStr) (defScope sNoteStr) .none kVSNote dcSNote pmSNote anSNote cdSNote ctSNote), slSNote⟩)
    (cSNote : PySem.W.codeIn K cdSNote "Note.__str__" = true)
    (kSNote : PySem.W.keepIn K (.ref fSNote) = true)
    (aSkip : PySem.W.nsIn K mainGlobals "Skip" = some (some (.ref CSkip)))
    (inSkip : PySem.W.findIn K (.ref CSkip) "__init__" = some (some (.ref fSkip)))
    (iSkip : PySem.W.isFn K (.ref fSkip) = true)
    (lSkip : K.lookup fSkip = some ⟨ocSkip, odSkip, .func (PySem.W.fnOf "__init__" "Skip.__init__" (defArgs sSkipInit) (defBody sSkipInit) (defScope sSkipInit) .none kVSkip dcSkip pmSkip anSkip cdSkip ctSkip), slSkip⟩)
    (cSkip : PySem.W.codeIn K cdSkip "Skip.__init__" = true)
    (kSkip : PySem.W.keepIn K (.ref fSkip) = true)
    (pgSkip : PySem.W.plainGet K CSkip Str.empty = true)
    (hdSkip : PySem.W.hasDictIn K CSkip = true)
    (poSkip : PySem.W.plainOver K CSkip = true)
    (saSkip : PySem.W.findIn K (.ref CSkip) "__setattr__" = some (some (.builtin "object.__setattr__")))
    (mkSkip : PySem.W.makesIn K CSkip = true)
    (kcSkip : PySem.W.keepIn K (.ref CSkip) = true)
    (nSkip0 : PySem.W.findIn K (.ref CSkip) "word" = some none)
    (nSkip1 : PySem.W.findIn K (.ref CSkip) "counter" = some none)
    (nSkip2 : PySem.W.findIn K (.ref CSkip) "by" = some none)
    (inSSkip : PySem.W.findIn K (.ref CSkip) "__str__" = some (some (.ref fSSkip)))
    (iSSkip : PySem.W.isFn K (.ref fSSkip) = true)
    (lSSkip : K.lookup fSSkip = some ⟨ocSSkip, odSSkip, .func (PySem.W.fnOf "__str__" "Skip.__str__" (defArgs sSkipStr) (defBody sSkipStr) (defScope sSkipStr) .none kVSSkip dcSSkip pmSSkip anSSkip cdSSkip ctSSkip), slSSkip⟩)
    (cSSkip : PySem.W.codeIn K cdSSkip "Skip.__str__" = true)
    (kSSkip : PySem.W.keepIn K (.ref fSSkip) = true)
    (aSet : PySem.W.nsIn K mainGlobals "Set" = some (some (.ref CSet)))
    (inSet : PySem.W.findIn K (.ref CSet) "__init__" = some (some (.ref fSet)))
    (iSet : PySem.W.isFn K (.ref fSet) = true)
    (lSet : K.lookup fSet = some ⟨ocSet, odSet, .func (PySem.W.fnOf "__init__" "Set.__init__" (defArgs sSetInit) (defBody sSetInit) (defScope sSetInit) .none kVSet dcSet pmSet anSet cdSet ctSet), slSet⟩)
    (cSet : PySem.W.codeIn K cdSet "Set.__init__" = true)
    (kSet : PySem.W.keepIn K (.ref fSet) = true)
    (pgSet : PySem.W.plainGet K CSet Str.empty = true)
    (hdSet : PySem.W.hasDictIn K CSet = true)
    (poSet : PySem.W.plainOver K CSet = true)
    (saSet : PySem.W.findIn K (.ref CSet) "__setattr__" = some (some (.builtin "object.__setattr__")))
    (mkSet : PySem.W.makesIn K CSet = true)
    (kcSet : PySem.W.keepIn K (.ref CSet) = true)
    (nSet0 : PySem.W.findIn K (.ref CSet) "word" = some none)
    (nSet1 : PySem.W.findIn K (.ref CSet) "counter" = some none)
    (nSet2 : PySem.W.findIn K (.ref CSet) "to" = some none)
    (inSSet : PySem.W.findIn K (.ref CSet) "__str__" = some (some (.ref fSSet)))
    (iSSet : PySem.W.isFn K (.ref fSSet) = true)
    (lSSet : K.lookup fSSet = some ⟨ocSSet, odSSet, .func (PySem.W.fnOf "__str__" "Set.__str__" (defArgs sSetStr) (defBody sSetStr) (defScope sSetStr) .none kVSSet dcSSet pmSSet anSSet cdSSet ctSSet), slSSet⟩)
    (cSSet : PySem.W.codeIn K cdSSet "Set.__str__" = true)
    (kSSet : PySem.W.keepIn K (.ref fSSet) = true)
    (aKeep : PySem.W.nsIn K mainGlobals "Keep" = some (some (.ref CKeep)))
    (inKeep : PySem.W.findIn K (.ref CKeep) "__init__" = some (some (.ref fKeep)))
    (iKeep : PySem.W.isFn K (.ref fKeep) = true)
    (lKeep : K.lookup fKeep = some ⟨ocKeep, odKeep, .func (PySem.W.fnOf "__init__" "Keep.__init__" (defArgs sKeepInit) (defBody sKeepInit) (defScope sKeepInit) .none kVKeep dcKeep pmKeep anKeep cdKeep ctKeep), slKeep⟩)
    (cKeep : PySem.W.codeIn K cdKeep "Keep.__init__" = true)
    (kKeep : PySem.W.keepIn K (.ref fKeep) = true)
    (pgKeep : PySem.W.plainGet K CKeep Str.empty = true)
    (hdKeep : PySem.W.hasDictIn K CKeep = true)
    (poKeep : PySem.W.plainOver K CKeep = true)
    (saKeep : PySem.W.findIn K (.ref CKeep) "__setattr__" = some (some (.builtin "object.__setattr__")))
    (mkKeep : PySem.W.makesIn K CKeep = true)
    (kcKeep : PySem.W.keepIn K (.ref CKeep) = true)
    (nKeep0 : PySem.W.findIn K (.ref CKeep) "word" = some none)
    (nKeep1 : PySem.W.findIn K (.ref CKeep) "counter" = some none)
    (inSKeep : PySem.W.findIn K (.ref CKeep) "__str__" = some (some (.ref fSKeep)))
    (iSKeep : PySem.W.isFn K (.ref fSKeep) = true)
    (lSKeep : K.lookup fSKeep = some ⟨ocSKeep, odSKeep, .func (PySem.W.fnOf "__str__" "Keep.__str__" (defArgs sKeepStr) (defBody sKeepStr) (defScope sKeepStr) .none kVSKeep dcSKeep pmSKeep anSKeep cdSKeep ctSKeep), slSKeep⟩)
    (cSKeep : PySem.W.codeIn K cdSKeep "Keep.__str__" = true)
    (kSKeep : PySem.W.keepIn K (.ref fSKeep) = true)
    (aBack : PySem.W.nsIn K mainGlobals "Back" = some (some (.ref CBack)))
    (inBack : PySem.W.findIn K (.ref CBack) "__init__" = some (some (.ref fBack)))
    (iBack : PySem.W.isFn K (.ref fBack) = true)
    (lBack : K.lookup fBack = some ⟨ocBack, odBack, .func (PySem.W.fnOf "__init__" "Back.__init__" (defArgs sBackInit) (defBody sBackInit) (defScope sBackInit) .none kVBack dcBack pmBack anBack cdBack ctBack), slBack⟩)
    (cBack : PySem.W.codeIn K cdBack "Back.__init__" = true)
    (kBack : PySem.W.keepIn K (.ref fBack) = true)
    (pgBack : PySem.W.plainGet K CBack Str.empty = true)
    (hdBack : PySem.W.hasDictIn K CBack = true)
    (poBack : PySem.W.plainOver K CBack = true)
    (saBack : PySem.W.findIn K (.ref CBack) "__setattr__" = some (some (.builtin "object.__setattr__")))
    (mkBack : PySem.W.makesIn K CBack = true)
    (kcBack : PySem.W.keepIn K (.ref CBack) = true)
    (nBack0 : PySem.W.findIn K (.ref CBack) "word" = some none)
    (nBack1 : PySem.W.findIn K (.ref CBack) "counter" = some none)
    (inSBack : PySem.W.findIn K (.ref CBack) "__str__" = some (some (.ref fSBack)))
    (iSBack : PySem.W.isFn K (.ref fSBack) = true)
    (lSBack : K.lookup fSBack = some ⟨ocSBack, odSBack, .func (PySem.W.fnOf "__str__" "Back.__str__" (defArgs sBackStr) (defBody sBackStr) (defScope sBackStr) .none kVSBack dcSBack pmSBack anSBack cdSBack ctSBack), slSBack⟩)
    (cSBack : PySem.W.codeIn K cdSBack "Back.__str__" = true)
    (kSBack : PySem.W.keepIn K (.ref fSBack) = true)
    (aRef : PySem.W.nsIn K mainGlobals "Ref" = some (some (.ref CRef)))
    (inRef : PySem.W.findIn K (.ref CRef) "__init__" = some (some (.ref fRef)))
    (iRef : PySem.W.isFn K (.ref fRef) = true)
    (lRef : K.lookup fRef = some ⟨ocRef, odRef, .func (PySem.W.fnOf "__init__" "Ref.__init__" (defArgs sRefInit) (defBody sRefInit) (defScope sRefInit) .none kVRef dcRef pmRef anRef cdRef ctRef), slRef⟩)
    (cRef : PySem.W.codeIn K cdRef "Ref.__init__" = true)
    (kRef : PySem.W.keepIn K (.ref fRef) = true)
    (pgRef : PySem.W.plainGet K CRef Str.empty = true)
    (hdRef : PySem.W.hasDictIn K CRef = true)
    (poRef : PySem.W.plainOver K CRef = true)
    (saRef : PySem.W.findIn K (.ref CRef) "__setattr__" = some (some (.builtin "object.__setattr__")))
    (mkRef : PySem.W.makesIn K CRef = true)
    (kcRef : PySem.W.keepIn K (.ref CRef) = true)
    (nRef0 : PySem.W.findIn K (.ref CRef) "word" = some none)
    (nRef1 : PySem.W.findIn K (.ref CRef) "label" = some none)
    (inSRef : PySem.W.findIn K (.ref CRef) "__str__" = some (some (.ref fSRef)))
    (iSRef : PySem.W.isFn K (.ref fSRef) = true)
    (lSRef : K.lookup fSRef = some ⟨ocSRef, odSRef, .func (PySem.W.fnOf "__str__" "Ref.__str__" (defArgs sRefStr) (defBody sRefStr) (defScope sRefStr) .none kVSRef dcSRef pmSRef anSRef cdSRef ctSRef), slSRef⟩)
    (cSRef : PySem.W.codeIn K cdSRef "Ref.__str__" = true)
    (kSRef : PySem.W.keepIn K (.ref fSRef) = true)
    (aPut : PySem.W.nsIn K mainGlobals "Put" = some (some (.ref CPut)))
    (inPut : PySem.W.findIn K (.ref CPut) "__init__" = some (some (.ref fPut)))
    (iPut : PySem.W.isFn K (.ref fPut) = true)
    (lPut : K.lookup fPut = some ⟨ocPut, odPut, .func (PySem.W.fnOf "__init__" "Put.__init__" (defArgs sPutInit) (defBody sPutInit) (defScope sPutInit) .none kVPut dcPut pmPut anPut cdPut ctPut), slPut⟩)
    (cPut : PySem.W.codeIn K cdPut "Put.__init__" = true)
    (kPut : PySem.W.keepIn K (.ref fPut) = true)
    (pgPut : PySem.W.plainGet K CPut Str.empty = true)
    (hdPut : PySem.W.hasDictIn K CPut = true)
    (poPut : PySem.W.plainOver K CPut = true)
    (saPut : PySem.W.findIn K (.ref CPut) "__setattr__" = some (some (.builtin "object.__setattr__")))
    (mkPut : PySem.W.makesIn K CPut = true)
    (kcPut : PySem.W.keepIn K (.ref CPut) = true)
    (nPut0 : PySem.W.findIn K (.ref CPut) "word" = some none)
    (nPut1 : PySem.W.findIn K (.ref CPut) "part" = some none)
    (inSPut : PySem.W.findIn K (.ref CPut) "__str__" = some (some (.ref fSPut)))
    (iSPut : PySem.W.isFn K (.ref fSPut) = true)
    (lSPut : K.lookup fSPut = some ⟨ocSPut, odSPut, .func (PySem.W.fnOf "__str__" "Put.__str__" (defArgs sPutStr) (defBody sPutStr) (defScope sPutStr) .none kVSPut dcSPut pmSPut anSPut cdSPut ctSPut), slSPut⟩)
    (cSPut : PySem.W.codeIn K cdSPut "Put.__str__" = true)
    (kSPut : PySem.W.keepIn K (.ref fSPut) = true)
    (aOpen : PySem.W.nsIn K mainGlobals "Open" = some (some (.ref COpen)))
    (inOpen : PySem.W.findIn K (.ref COpen) "__init__" = some (some (.ref fOpen)))
    (iOpen : PySem.W.isFn K (.ref fOpen) = true)
    (lOpen : K.lookup fOpen = some ⟨ocOpen, odOpen, .func (PySem.W.fnOf "__init__" "Open.__init__" (defArgs sOpenInit) (defBody sOpenInit) (defScope sOpenInit) .none kVOpen dcOpen pmOpen anOpen cdOpen ctOpen), slOpen⟩)
    (cOpen : PySem.W.codeIn K cdOpen "Open.__init__" = true)
    (kOpen : PySem.W.keepIn K (.ref fOpen) = true)
    (pgOpen : PySem.W.plainGet K COpen Str.empty = true)
    (hdOpen : PySem.W.hasDictIn K COpen = true)
    (poOpen : PySem.W.plainOver K COpen = true)
    (saOpen : PySem.W.findIn K (.ref COpen) "__setattr__" = some (some (.builtin "object.__setattr__")))
    (mkOpen : PySem.W.makesIn K COpen = true)
    (kcOpen : PySem.W.keepIn K (.ref COpen) = true)
    (nOpen0 : PySem.W.findIn K (.ref COpen) "word" = some none)
    (nOpen1 : PySem.W.findIn K (.ref COpen) "name" = some none)
    (inSOpen : PySem.W.findIn K (.ref COpen) "__str__" = some (some (.ref fSOpen)))
    (iSOpen : PySem.W.isFn K (.ref fSOpen) = true)
    (lSOpen : K.lookup fSOpen = some ⟨ocSOpen, odSOpen, .func (PySem.W.fnOf "__str__" "Open.__str__" (defArgs sOpenStr) (defBody sOpenStr) (defScope sOpenStr) .none kVSOpen dcSOpen pmSOpen anSOpen cdSOpen ctSOpen), slSOpen⟩)
    (cSOpen : PySem.W.codeIn K cdSOpen "Open.__str__" = true)
    (kSOpen : PySem.W.keepIn K (.ref fSOpen) = true)
    (areadnumber : PySem.W.nsIn K mainGlobals "read_number" = some (some (.ref freadnumber)))
    (lreadnumber : K.lookup freadnumber = some ⟨ocreadnumber, odreadnumber, .func (PySem.W.fnOf "read_number" "read_number" (defArgs sReadNum) (defBody sReadNum) (defScope sReadNum) .none kVreadnumber dcreadnumber pmreadnumber anreadnumber cdreadnumber ctreadnumber), slreadnumber⟩)
    (creadnumber : PySem.W.codeIn K cdreadnumber "read_number" = true)
    (kreadnumber : PySem.W.keepIn K (.ref freadnumber) = true)
    (arowoftwo : PySem.W.nsIn K mainGlobals "row_of_two" = some (some (.ref frowoftwo)))
    (lrowoftwo : K.lookup frowoftwo = some ⟨ocrowoftwo, odrowoftwo, .func (PySem.W.fnOf "row_of_two" "row_of_two" (defArgs sRow2) (defBody sRow2) (defScope sRow2) .none kVrowoftwo dcrowoftwo pmrowoftwo anrowoftwo cdrowoftwo ctrowoftwo), slrowoftwo⟩)
    (crowoftwo : PySem.W.codeIn K cdrowoftwo "row_of_two" = true)
    (krowoftwo : PySem.W.keepIn K (.ref frowoftwo) = true)
    (arowofthree : PySem.W.nsIn K mainGlobals "row_of_three" = some (some (.ref frowofthree)))
    (lrowofthree : K.lookup frowofthree = some ⟨ocrowofthree, odrowofthree, .func (PySem.W.fnOf "row_of_three" "row_of_three" (defArgs sRow3) (defBody sRow3) (defScope sRow3) .none kVrowofthree dcrowofthree pmrowofthree anrowofthree cdrowofthree ctrowofthree), slrowofthree⟩)
    (crowofthree : PySem.W.codeIn K cdrowofthree "row_of_three" = true)
    (krowofthree : PySem.W.keepIn K (.ref frowofthree) = true)
    (areadrow : PySem.W.nsIn K mainGlobals "read_row" = some (some (.ref freadrow)))
    (lreadrow : K.lookup freadrow = some ⟨ocreadrow, odreadrow, .func (PySem.W.fnOf "read_row" "read_row" (defArgs sReadRow) (defBody sReadRow) (defScope sReadRow) .none kVreadrow dcreadrow pmreadrow anreadrow cdreadrow ctreadrow), slreadrow⟩)
    (creadrow : PySem.W.codeIn K cdreadrow "read_row" = true)
    (kreadrow : PySem.W.keepIn K (.ref freadrow) = true)
    (alawseed : PySem.W.nsIn K mainGlobals "_law_seed" = some (some (.ref flawseed)))
    (llawseed : K.lookup flawseed = some ⟨oclawseed, odlawseed, .func (PySem.W.fnOf "_law_seed" "_law_seed" (defArgs sSeed) (defBody sSeed) (defScope sSeed) .none kVlawseed dclawseed pmlawseed anlawseed cdlawseed ctlawseed), sllawseed⟩)
    (clawseed : PySem.W.codeIn K cdlawseed "_law_seed" = true)
    (klawseed : PySem.W.keepIn K (.ref flawseed) = true)
    (alawchoose : PySem.W.nsIn K mainGlobals "_law_choose" = some (some (.ref flawchoose)))
    (llawchoose : K.lookup flawchoose = some ⟨oclawchoose, odlawchoose, .func (PySem.W.fnOf "_law_choose" "_law_choose" (defArgs sChoose) (defBody sChoose) (defScope sChoose) .none kVlawchoose dclawchoose pmlawchoose anlawchoose cdlawchoose ctlawchoose), sllawchoose⟩)
    (clawchoose : PySem.W.codeIn K cdlawchoose "_law_choose" = true)
    (klawchoose : PySem.W.keepIn K (.ref flawchoose) = true)
    (alawoneof : PySem.W.nsIn K mainGlobals "_law_one_of" = some (some (.ref flawoneof)))
    (llawoneof : K.lookup flawoneof = some ⟨oclawoneof, odlawoneof, .func (PySem.W.fnOf "_law_one_of" "_law_one_of" (defArgs sOne) (defBody sOne) (defScope sOne) .none kVlawoneof dclawoneof pmlawoneof anlawoneof cdlawoneof ctlawoneof), sllawoneof⟩)
    (clawoneof : PySem.W.codeIn K cdlawoneof "_law_one_of" = true)
    (klawoneof : PySem.W.keepIn K (.ref flawoneof) = true)
    (alawpools : PySem.W.nsIn K mainGlobals "_law_pools" = some (some (.ref flawpools)))
    (llawpools : K.lookup flawpools = some ⟨oclawpools, odlawpools, .func (PySem.W.fnOf "_law_pools" "_law_pools" (defArgs sPools) (defBody sPools) (defScope sPools) .none kVlawpools dclawpools pmlawpools anlawpools cdlawpools ctlawpools), sllawpools⟩)
    (clawpools : PySem.W.codeIn K cdlawpools "_law_pools" = true)
    (klawpools : PySem.W.keepIn K (.ref flawpools) = true)
    (alawcounters : PySem.W.nsIn K mainGlobals "_law_counters" = some (some (.ref flawcounters)))
    (llawcounters : K.lookup flawcounters = some ⟨oclawcounters, odlawcounters, .func (PySem.W.fnOf "_law_counters" "_law_counters" (defArgs sCounters) (defBody sCounters) (defScope sCounters) .none kVlawcounters dclawcounters pmlawcounters anlawcounters cdlawcounters ctlawcounters), sllawcounters⟩)
    (clawcounters : PySem.W.codeIn K cdlawcounters "_law_counters" = true)
    (klawcounters : PySem.W.keepIn K (.ref flawcounters) = true)
    (alawrow : PySem.W.nsIn K mainGlobals "_law_row" = some (some (.ref flawrow)))
    (llawrow : K.lookup flawrow = some ⟨oclawrow, odlawrow, .func (PySem.W.fnOf "_law_row" "_law_row" (defArgs sLRow) (defBody sLRow) (defScope sLRow) .none kVlawrow dclawrow pmlawrow anlawrow cdlawrow ctlawrow), sllawrow⟩)
    (clawrow : PySem.W.codeIn K cdlawrow "_law_row" = true)
    (klawrow : PySem.W.keepIn K (.ref flawrow) = true)
    (aRow : PySem.W.nsIn K mainGlobals "Row" = some (some (.ref CRow)))
    (asamerow : PySem.W.nsIn K mainGlobals "same_row" = some (some (.ref fsamerow)))
    (lsamerow : K.lookup fsamerow = some ⟨ocsamerow, odsamerow, .func (PySem.W.fnOf "same_row" "same_row" (defArgs sSameRow) (defBody sSameRow) (defScope sSameRow) .none kVsamerow dcsamerow pmsamerow ansamerow cdsamerow ctsamerow), slsamerow⟩)
    (csamerow : PySem.W.codeIn K cdsamerow "same_row" = true)
    (ksamerow : PySem.W.keepIn K (.ref fsamerow) = true)
    (inQNote : PySem.W.findIn K (.ref CNote) "__eq__" = some (some (.ref fQNote)))
    (iQNote : PySem.W.isFn K (.ref fQNote) = true)
    (lQNote : K.lookup fQNote = some ⟨ocQNote, odQNote, .func (PySem.W.fnOf "__eq__" "Note.__eq__" (defArgs sNoteEq) (defBody sNoteEq) (defScope sNoteEq) .none kVQNote dcQNote pmQNote anQNote cdQNote ctQNote), slQNote⟩)
    (cQNote : PySem.W.codeIn K cdQNote "Note.__eq__" = true)
    (kQNote : PySem.W.keepIn K (.ref fQNote) = true)
    (inQSkip : PySem.W.findIn K (.ref CSkip) "__eq__" = some (some (.ref fQSkip)))
    (iQSkip : PySem.W.isFn K (.ref fQSkip) = true)
    (lQSkip : K.lookup fQSkip = some ⟨ocQSkip, odQSkip, .func (PySem.W.fnOf "__eq__" "Skip.__eq__" (defArgs sSkipEq) (defBody sSkipEq) (defScope sSkipEq) .none kVQSkip dcQSkip pmQSkip anQSkip cdQSkip ctQSkip), slQSkip⟩)
    (cQSkip : PySem.W.codeIn K cdQSkip "Skip.__eq__" = true)
    (kQSkip : PySem.W.keepIn K (.ref fQSkip) = true)
    (inQSet : PySem.W.findIn K (.ref CSet) "__eq__" = some (some (.ref fQSet)))
    (iQSet : PySem.W.isFn K (.ref fQSet) = true)
    (lQSet : K.lookup fQSet = some ⟨ocQSet, odQSet, .func (PySem.W.fnOf "__eq__" "Set.__eq__" (defArgs sSetEq) (defBody sSetEq) (defScope sSetEq) .none kVQSet dcQSet pmQSet anQSet cdQSet ctQSet), slQSet⟩)
    (cQSet : PySem.W.codeIn K cdQSet "Set.__eq__" = true)
    (kQSet : PySem.W.keepIn K (.ref fQSet) = true)
    (inQKeep : PySem.W.findIn K (.ref CKeep) "__eq__" = some (some (.ref fQKeep)))
    (iQKeep : PySem.W.isFn K (.ref fQKeep) = true)
    (lQKeep : K.lookup fQKeep = some ⟨ocQKeep, odQKeep, .func (PySem.W.fnOf "__eq__" "Keep.__eq__" (defArgs sKeepEq) (defBody sKeepEq) (defScope sKeepEq) .none kVQKeep dcQKeep pmQKeep anQKeep cdQKeep ctQKeep), slQKeep⟩)
    (cQKeep : PySem.W.codeIn K cdQKeep "Keep.__eq__" = true)
    (kQKeep : PySem.W.keepIn K (.ref fQKeep) = true)
    (inQBack : PySem.W.findIn K (.ref CBack) "__eq__" = some (some (.ref fQBack)))
    (iQBack : PySem.W.isFn K (.ref fQBack) = true)
    (lQBack : K.lookup fQBack = some ⟨ocQBack, odQBack, .func (PySem.W.fnOf "__eq__" "Back.__eq__" (defArgs sBackEq) (defBody sBackEq) (defScope sBackEq) .none kVQBack dcQBack pmQBack anQBack cdQBack ctQBack), slQBack⟩)
    (cQBack : PySem.W.codeIn K cdQBack "Back.__eq__" = true)
    (kQBack : PySem.W.keepIn K (.ref fQBack) = true)
    (inQRef : PySem.W.findIn K (.ref CRef) "__eq__" = some (some (.ref fQRef)))
    (iQRef : PySem.W.isFn K (.ref fQRef) = true)
    (lQRef : K.lookup fQRef = some ⟨ocQRef, odQRef, .func (PySem.W.fnOf "__eq__" "Ref.__eq__" (defArgs sRefEq) (defBody sRefEq) (defScope sRefEq) .none kVQRef dcQRef pmQRef anQRef cdQRef ctQRef), slQRef⟩)
    (cQRef : PySem.W.codeIn K cdQRef "Ref.__eq__" = true)
    (kQRef : PySem.W.keepIn K (.ref fQRef) = true)
    (inQPut : PySem.W.findIn K (.ref CPut) "__eq__" = some (some (.ref fQPut)))
    (iQPut : PySem.W.isFn K (.ref fQPut) = true)
    (lQPut : K.lookup fQPut = some ⟨ocQPut, odQPut, .func (PySem.W.fnOf "__eq__" "Put.__eq__" (defArgs sPutEq) (defBody sPutEq) (defScope sPutEq) .none kVQPut dcQPut pmQPut anQPut cdQPut ctQPut), slQPut⟩)
    (cQPut : PySem.W.codeIn K cdQPut "Put.__eq__" = true)
    (kQPut : PySem.W.keepIn K (.ref fQPut) = true)
    (inQOpen : PySem.W.findIn K (.ref COpen) "__eq__" = some (some (.ref fQOpen)))
    (iQOpen : PySem.W.isFn K (.ref fQOpen) = true)
    (lQOpen : K.lookup fQOpen = some ⟨ocQOpen, odQOpen, .func (PySem.W.fnOf "__eq__" "Open.__eq__" (defArgs sOpenEq) (defBody sOpenEq) (defScope sOpenEq) .none kVQOpen dcQOpen pmQOpen anQOpen cdQOpen ctQOpen), slQOpen⟩)
    (cQOpen : PySem.W.codeIn K cdQOpen "Open.__eq__" = true)
    (kQOpen : PySem.W.keepIn K (.ref fQOpen) = true)
    (alawrowtext : PySem.W.nsIn K mainGlobals "_law_row_text" = some (some (.ref flawrowtext)))
    (llawrowtext : K.lookup flawrowtext = some ⟨oclawrowtext, odlawrowtext, .func (PySem.W.fnOf "_law_row_text" "_law_row_text" (defArgs sRowText) (defBody sRowText) (defScope sRowText) .none kVlawrowtext dclawrowtext pmlawrowtext anlawrowtext cdlawrowtext ctlawrowtext), sllawrowtext⟩)
    (clawrowtext : PySem.W.codeIn K cdlawrowtext "_law_row_text" = true)
    (klawrowtext : PySem.W.keepIn K (.ref flawrowtext) = true)
    (alawmaderow : PySem.W.nsIn K mainGlobals "_law_made_row" = some (some (.ref flawmaderow)))
    (llawmaderow : K.lookup flawmaderow = some ⟨oclawmaderow, odlawmaderow, .func (PySem.W.fnOf "_law_made_row" "_law_made_row" (defArgs sMadeRow) (defBody sMadeRow) (defScope sMadeRow) .none kVlawmaderow dclawmaderow pmlawmaderow anlawmaderow cdlawmaderow ctlawmaderow), sllawmaderow⟩)
    (clawmaderow : PySem.W.codeIn K cdlawmaderow "_law_made_row" = true)
    (klawmaderow : PySem.W.keepIn K (.ref flawmaderow) = true)
    (alawkept : PySem.W.nsIn K mainGlobals "_law_kept" = some (some (.ref flawkept)))
    (llawkept : K.lookup flawkept = some ⟨oclawkept, odlawkept, .func (PySem.W.fnOf "_law_kept" "_law_kept" (defArgs sKept) (defBody sKept) (defScope sKept) .none kVlawkept dclawkept pmlawkept anlawkept cdlawkept ctlawkept), sllawkept⟩)
    (clawkept : PySem.W.codeIn K cdlawkept "_law_kept" = true)
    (klawkept : PySem.W.keepIn K (.ref flawkept) = true)
    (alaw : PySem.W.nsIn K mainGlobals "law" = some (some (.ref flaw)))
    (llaw : K.lookup flaw = some ⟨oclaw, odlaw, .func (PySem.W.fnOf "law" "law" (defArgs sLaw2) (defBody sLaw2) (defScope sLaw2) .none kVlaw dclaw pmlaw anlaw cdlaw ctlaw), sllaw⟩)
    (claw : PySem.W.codeIn K cdlaw "law" = true)
    (klaw : PySem.W.keepIn K (.ref flaw) = true)
    (hsub : PySem.W.exmOne K (.ref CInvalidText) (.ref CInvalidRow) = some false)
    (kSR : PySem.W.kitOne K (.type "str") (.ref CRow) = some false)
    (kRNote : PySem.W.kitOne K (.ref CNote) (.ref CRow) = some true)
    (nSNote : PySem.W.notFirst K CNote (.type "str") = true)
    (cANote : PySem.W.findIn K (.ref CNote) "__class__" = some (some (.builtin "object.__class__")))
    (cMNote : PySem.W.mroIn K CNote (.type "object") = some true)
    (neNote : PySem.W.findIn K (.ref CNote) "__ne__" = some (some (.builtin "object.__ne__")))
    (nRNoteNote : PySem.W.notFirst K CNote (.ref CNote) = true)
    (nRNoteSkip : PySem.W.notFirst K CNote (.ref CSkip) = true)
    (nRNoteSet : PySem.W.notFirst K CNote (.ref CSet) = true)
    (nRNoteKeep : PySem.W.notFirst K CNote (.ref CKeep) = true)
    (nRNoteBack : PySem.W.notFirst K CNote (.ref CBack) = true)
    (nRNoteRef : PySem.W.notFirst K CNote (.ref CRef) = true)
    (nRNotePut : PySem.W.notFirst K CNote (.ref CPut) = true)
    (nRNoteOpen : PySem.W.notFirst K CNote (.ref COpen) = true)
    (kRSkip : PySem.W.kitOne K (.ref CSkip) (.ref CRow) = some true)
    (nSSkip : PySem.W.notFirst K CSkip (.type "str") = true)
    (cASkip : PySem.W.findIn K (.ref CSkip) "__class__" = some (some (.builtin "object.__class__")))
    (cMSkip : PySem.W.mroIn K CSkip (.type "object") = some true)
    (neSkip : PySem.W.findIn K (.ref CSkip) "__ne__" = some (some (.builtin "object.__ne__")))
    (nRSkipNote : PySem.W.notFirst K CSkip (.ref CNote) = true)
    (nRSkipSkip : PySem.W.notFirst K CSkip (.ref CSkip) = true)
    (nRSkipSet : PySem.W.notFirst K CSkip (.ref CSet) = true)
    (nRSkipKeep : PySem.W.notFirst K CSkip (.ref CKeep) = true)
    (nRSkipBack : PySem.W.notFirst K CSkip (.ref CBack) = true)
    (nRSkipRef : PySem.W.notFirst K CSkip (.ref CRef) = true)
    (nRSkipPut : PySem.W.notFirst K CSkip (.ref CPut) = true)
    (nRSkipOpen : PySem.W.notFirst K CSkip (.ref COpen) = true)
    (kRSet : PySem.W.kitOne K (.ref CSet) (.ref CRow) = some true)
    (nSSet : PySem.W.notFirst K CSet (.type "str") = true)
    (cASet : PySem.W.findIn K (.ref CSet) "__class__" = some (some (.builtin "object.__class__")))
    (cMSet : PySem.W.mroIn K CSet (.type "object") = some true)
    (neSet : PySem.W.findIn K (.ref CSet) "__ne__" = some (some (.builtin "object.__ne__")))
    (nRSetNote : PySem.W.notFirst K CSet (.ref CNote) = true)
    (nRSetSkip : PySem.W.notFirst K CSet (.ref CSkip) = true)
    (nRSetSet : PySem.W.notFirst K CSet (.ref CSet) = true)
    (nRSetKeep : PySem.W.notFirst K CSet (.ref CKeep) = true)
    (nRSetBack : PySem.W.notFirst K CSet (.ref CBack) = true)
    (nRSetRef : PySem.W.notFirst K CSet (.ref CRef) = true)
    (nRSetPut : PySem.W.notFirst K CSet (.ref CPut) = true)
    (nRSetOpen : PySem.W.notFirst K CSet (.ref COpen) = true)
    (kRKeep : PySem.W.kitOne K (.ref CKeep) (.ref CRow) = some true)
    (nSKeep : PySem.W.notFirst K CKeep (.type "str") = true)
    (cAKeep : PySem.W.findIn K (.ref CKeep) "__class__" = some (some (.builtin "object.__class__")))
    (cMKeep : PySem.W.mroIn K CKeep (.type "object") = some true)
    (neKeep : PySem.W.findIn K (.ref CKeep) "__ne__" = some (some (.builtin "object.__ne__")))
    (nRKeepNote : PySem.W.notFirst K CKeep (.ref CNote) = true)
    (nRKeepSkip : PySem.W.notFirst K CKeep (.ref CSkip) = true)
    (nRKeepSet : PySem.W.notFirst K CKeep (.ref CSet) = true)
    (nRKeepKeep : PySem.W.notFirst K CKeep (.ref CKeep) = true)
    (nRKeepBack : PySem.W.notFirst K CKeep (.ref CBack) = true)
    (nRKeepRef : PySem.W.notFirst K CKeep (.ref CRef) = true)
    (nRKeepPut : PySem.W.notFirst K CKeep (.ref CPut) = true)
    (nRKeepOpen : PySem.W.notFirst K CKeep (.ref COpen) = true)
    (kRBack : PySem.W.kitOne K (.ref CBack) (.ref CRow) = some true)
    (nSBack : PySem.W.notFirst K CBack (.type "str") = true)
    (cABack : PySem.W.findIn K (.ref CBack) "__class__" = some (some (.builtin "object.__class__")))
    (cMBack : PySem.W.mroIn K CBack (.type "object") = some true)
    (neBack : PySem.W.findIn K (.ref CBack) "__ne__" = some (some (.builtin "object.__ne__")))
    (nRBackNote : PySem.W.notFirst K CBack (.ref CNote) = true)
    (nRBackSkip : PySem.W.notFirst K CBack (.ref CSkip) = true)
    (nRBackSet : PySem.W.notFirst K CBack (.ref CSet) = true)
    (nRBackKeep : PySem.W.notFirst K CBack (.ref CKeep) = true)
    (nRBackBack : PySem.W.notFirst K CBack (.ref CBack) = true)
    (nRBackRef : PySem.W.notFirst K CBack (.ref CRef) = true)
    (nRBackPut : PySem.W.notFirst K CBack (.ref CPut) = true)
    (nRBackOpen : PySem.W.notFirst K CBack (.ref COpen) = true)
    (kRRef : PySem.W.kitOne K (.ref CRef) (.ref CRow) = some true)
    (nSRef : PySem.W.notFirst K CRef (.type "str") = true)
    (cARef : PySem.W.findIn K (.ref CRef) "__class__" = some (some (.builtin "object.__class__")))
    (cMRef : PySem.W.mroIn K CRef (.type "object") = some true)
    (neRef : PySem.W.findIn K (.ref CRef) "__ne__" = some (some (.builtin "object.__ne__")))
    (nRRefNote : PySem.W.notFirst K CRef (.ref CNote) = true)
    (nRRefSkip : PySem.W.notFirst K CRef (.ref CSkip) = true)
    (nRRefSet : PySem.W.notFirst K CRef (.ref CSet) = true)
    (nRRefKeep : PySem.W.notFirst K CRef (.ref CKeep) = true)
    (nRRefBack : PySem.W.notFirst K CRef (.ref CBack) = true)
    (nRRefRef : PySem.W.notFirst K CRef (.ref CRef) = true)
    (nRRefPut : PySem.W.notFirst K CRef (.ref CPut) = true)
    (nRRefOpen : PySem.W.notFirst K CRef (.ref COpen) = true)
    (kRPut : PySem.W.kitOne K (.ref CPut) (.ref CRow) = some true)
    (nSPut : PySem.W.notFirst K CPut (.type "str") = true)
    (cAPut : PySem.W.findIn K (.ref CPut) "__class__" = some (some (.builtin "object.__class__")))
    (cMPut : PySem.W.mroIn K CPut (.type "object") = some true)
    (nePut : PySem.W.findIn K (.ref CPut) "__ne__" = some (some (.builtin "object.__ne__")))
    (nRPutNote : PySem.W.notFirst K CPut (.ref CNote) = true)
    (nRPutSkip : PySem.W.notFirst K CPut (.ref CSkip) = true)
    (nRPutSet : PySem.W.notFirst K CPut (.ref CSet) = true)
    (nRPutKeep : PySem.W.notFirst K CPut (.ref CKeep) = true)
    (nRPutBack : PySem.W.notFirst K CPut (.ref CBack) = true)
    (nRPutRef : PySem.W.notFirst K CPut (.ref CRef) = true)
    (nRPutPut : PySem.W.notFirst K CPut (.ref CPut) = true)
    (nRPutOpen : PySem.W.notFirst K CPut (.ref COpen) = true)
    (kROpen : PySem.W.kitOne K (.ref COpen) (.ref CRow) = some true)
    (nSOpen : PySem.W.notFirst K COpen (.type "str") = true)
    (cAOpen : PySem.W.findIn K (.ref COpen) "__class__" = some (some (.builtin "object.__class__")))
    (cMOpen : PySem.W.mroIn K COpen (.type "object") = some true)
    (neOpen : PySem.W.findIn K (.ref COpen) "__ne__" = some (some (.builtin "object.__ne__")))
    (nROpenNote : PySem.W.notFirst K COpen (.ref CNote) = true)
    (nROpenSkip : PySem.W.notFirst K COpen (.ref CSkip) = true)
    (nROpenSet : PySem.W.notFirst K COpen (.ref CSet) = true)
    (nROpenKeep : PySem.W.notFirst K COpen (.ref CKeep) = true)
    (nROpenBack : PySem.W.notFirst K COpen (.ref CBack) = true)
    (nROpenRef : PySem.W.notFirst K COpen (.ref CRef) = true)
    (nROpenPut : PySem.W.notFirst K COpen (.ref CPut) = true)
    (nROpenOpen : PySem.W.notFirst K COpen (.ref COpen) = true)
    (hnGet : PySem.W.specialIn K (.builtin "object.__class__") "__get__" = some (some (.builtin "getset_descriptor.__get__")))
    (htGet : PySem.W.takesIn K (.builtin "object.__class__") = some true)
    : ∃ fd : FuncData, (∀ (s : Shared) (v : Value), BindsTo s fd ⟨[v], []⟩ [("_law_script", v)]) ∧ ∀ base : Heap, K.In base → base.Ns mainGlobals mg → RunAt P w K mg base callerA fa fd ["_law_script"] (spLaw2 K) := by
  have e := hfa.symm.trans (PySem.W.mg_of X G alaw)
  cases e
  have Mint : mg "int" = none := PySem.W.mg_none_of X G zint
  have Mbool : mg "bool" = none := PySem.W.mg_none_of X G zbool
  have Mstr : mg "str" = none := PySem.W.mg_none_of X G zstr
  have Misinstance : mg "isinstance" = none := PySem.W.mg_none_of X G zisinstance
  have Mlen : mg "len" = none := PySem.W.mg_none_of X G zlen
  have Mall : mg "all" = none := PySem.W.mg_none_of X G zall
  have Mabs : mg "abs" = none := PySem.W.mg_none_of X G zabs
  have Mrange : mg "range" = none := PySem.W.mg_none_of X G zrange
  have Mmax : mg "max" = none := PySem.W.mg_none_of X G zmax
  have Mmin : mg "min" = none := PySem.W.mg_none_of X G zmin
  have Mrepr : mg "repr" = none := PySem.W.mg_none_of X G zrepr
  have Mzip : mg "zip" = none := PySem.W.mg_none_of X G zzip
  have SROWWORDS : ∀ H : Hp, SqT K H wROWWORDS [.str "note", .str "skip", .str "set", .str "keep", .str "back", .str "ref", .str "put", .str "open", .str "part"] := fun H => .inr ⟨_, _, _, lROWWORDS, rfl, rfl, (by show 9 ≤ sizeLine; decide), (.cons ⟨_, rfl⟩ (.cons ⟨_, rfl⟩ (.cons ⟨_, rfl⟩ (.cons ⟨_, rfl⟩ (.cons ⟨_, rfl⟩ (.cons ⟨_, rfl⟩ (.cons ⟨_, rfl⟩ (.cons ⟨_, rfl⟩ (.cons ⟨_, rfl⟩ .nil)))))))))⟩
  have ILONGESTNAME := PySem.W.mg_of X G aLONGESTNAME
  have IMOSTDIGITS := PySem.W.mg_of X G aMOSTDIGITS
  let Disinteger : At K mg "is_integer" sIsInteger ["value"] := ⟨fisinteger, _, fun_mk (st := sIsInteger) lisinteger cisinteger kisinteger, (fun_mk (st := sIsInteger) lisinteger cisinteger kisinteger).binds (ps := ["value"]) fun _ _ _ _ _ _ us hl => match us, hl with | [_], _ => rfl, PySem.W.mg_of X G aisinteger⟩
  let Disnumber : At K mg "is_number" sIsNumber ["value"] := ⟨fisnumber, _, fun_mk (st := sIsNumber) lisnumber cisnumber kisnumber, (fun_mk (st := sIsNumber) lisnumber cisnumber kisnumber).binds (ps := ["value"]) fun _ _ _ _ _ _ us hl => match us, hl with | [_], _ => rfl, PySem.W.mg_of X G aisnumber⟩
  let Disname : At K mg "is_name" sIsName ["value"] := ⟨fisname, _, fun_mk (st := sIsName) lisname cisname kisname, (fun_mk (st := sIsName) lisname cisname kisname).binds (ps := ["value"]) fun _ _ _ _ _ _ us hl => match us, hl with | [_], _ => rfl, PySem.W.mg_of X G aisname⟩
  have OInvalidRow : OexC K CInvalidRow := ⟨⟨nmInvalidRow, qInvalidRow, NInvalidRow, bsInvalidRow, _, snInvalidRow, subInvalidRow, abInvalidRow, colInvalidRow, ddcInvalidRow, maInvalidRow, mbInvalidRow, mcInvalidRow, mdInvalidRow, meInvalidRow, xInvalidRow, refs_one _⟩, saInvalidRow, eCInvalidRow, tCInvalidRow, kcInvalidRow⟩
  let EInvalidRow : TExc K mg "InvalidRow" "InvalidRow.__init__" "word" sIRInit := { C := CInvalidRow, fI := fInvalidRow, fd := _, F := fun_mk (st := sIRInit) lInvalidRow cInvalidRow kInvalidRow, b := (fun_mk (st := sIRInit) lInvalidRow cInvalidRow kInvalidRow).binds (ps := ["self", "word"]) fun _ _ _ _ _ _ us hl => match us, hl with | [_, _], _ => rfl, m := PySem.W.mg_of X G aInvalidRow, O := OInvalidRow, iC := inInvalidRow, tI := tiInvalidRow, noF := nfInvalidRow, E := ⟨gaInvalidRow, ggInvalidRow, eCInvalidRow, hCInvalidRow, haInvalidRow, hnGet, htGet, hmInvalidRow⟩, isC := iCInvalidRow, te := PySem.W.exm_ref eCInvalidRow hCInvalidRow tCInvalidRow sCInvalidRow, xf := ⟨gaInvalidRow, ggInvalidRow, eCInvalidRow, hCInvalidRow⟩ }
  have OInvalidText : OexC K CInvalidText := ⟨⟨nmInvalidText, qInvalidText, NInvalidText, bsInvalidText, _, snInvalidText, subInvalidText, abInvalidText, colInvalidText, ddcInvalidText, maInvalidText, mbInvalidText, mcInvalidText, mdInvalidText, meInvalidText, xInvalidText, refs_one _⟩, saInvalidText, eCInvalidText, tCInvalidText, kcInvalidText⟩
  let EInvalidText : TExc K mg "InvalidText" "InvalidText.__init__" "at" sITInit := { C := CInvalidText, fI := fInvalidText, fd := _, F := fun_mk (st := sITInit) lInvalidText cInvalidText kInvalidText, b := (fun_mk (st := sITInit) lInvalidText cInvalidText kInvalidText).binds (ps := ["self", "at"]) fun _ _ _ _ _ _ us hl => match us, hl with | [_, _], _ => rfl, m := PySem.W.mg_of X G aInvalidText, O := OInvalidText, iC := inInvalidText, tI := tiInvalidText, noF := nfInvalidText, E := ⟨gaInvalidText, ggInvalidText, eCInvalidText, hCInvalidText, haInvalidText, hnGet, htGet, hmInvalidText⟩, isC := iCInvalidText, te := PySem.W.exm_ref eCInvalidText hCInvalidText tCInvalidText sCInvalidText, xf := ⟨gaInvalidText, ggInvalidText, eCInvalidText, hCInvalidText⟩ }
  let Dneedname : At K mg "need_name" sNeedName ["value", "word"] := ⟨fneedname, _, fun_mk (st := sNeedName) lneedname cneedname kneedname, (fun_mk (st := sNeedName) lneedname cneedname kneedname).binds (ps := ["value", "word"]) fun _ _ _ _ _ _ us hl => match us, hl with | [_, _], _ => rfl, PySem.W.mg_of X G aneedname⟩
  let MSNote : TStr K CNote "Note.__str__" sNoteStr := ⟨fSNote, _, fun_mk (st := sNoteStr) lSNote cSNote kSNote, (fun_mk (st := sNoteStr) lSNote cSNote kSNote).binds (ps := ["self"]) fun _ _ _ _ _ _ us hl => match us, hl with | [_], _ => rfl, inSNote, iSNote⟩
  let MSSkip : TStr K CSkip "Skip.__str__" sSkipStr := ⟨fSSkip, _, fun_mk (st := sSkipStr) lSSkip cSSkip kSSkip, (fun_mk (st := sSkipStr) lSSkip cSSkip kSSkip).binds (ps := ["self"]) fun _ _ _ _ _ _ us hl => match us, hl with | [_], _ => rfl, inSSkip, iSSkip⟩
  let MSSet : TStr K CSet "Set.__str__" sSetStr := ⟨fSSet, _, fun_mk (st := sSetStr) lSSet cSSet kSSet, (fun_mk (st := sSetStr) lSSet cSSet kSSet).binds (ps := ["self"]) fun _ _ _ _ _ _ us hl => match us, hl with | [_], _ => rfl, inSSet, iSSet⟩
  let MSKeep : TStr K CKeep "Keep.__str__" sKeepStr := ⟨fSKeep, _, fun_mk (st := sKeepStr) lSKeep cSKeep kSKeep, (fun_mk (st := sKeepStr) lSKeep cSKeep kSKeep).binds (ps := ["self"]) fun _ _ _ _ _ _ us hl => match us, hl with | [_], _ => rfl, inSKeep, iSKeep⟩
  let MSBack : TStr K CBack "Back.__str__" sBackStr := ⟨fSBack, _, fun_mk (st := sBackStr) lSBack cSBack kSBack, (fun_mk (st := sBackStr) lSBack cSBack kSBack).binds (ps := ["self"]) fun _ _ _ _ _ _ us hl => match us, hl with | [_], _ => rfl, inSBack, iSBack⟩
  let MSRef : TStr K CRef "Ref.__str__" sRefStr := ⟨fSRef, _, fun_mk (st := sRefStr) lSRef cSRef kSRef, (fun_mk (st := sRefStr) lSRef cSRef kSRef).binds (ps := ["self"]) fun _ _ _ _ _ _ us hl => match us, hl with | [_], _ => rfl, inSRef, iSRef⟩
  let MSPut : TStr K CPut "Put.__str__" sPutStr := ⟨fSPut, _, fun_mk (st := sPutStr) lSPut cSPut kSPut, (fun_mk (st := sPutStr) lSPut cSPut kSPut).binds (ps := ["self"]) fun _ _ _ _ _ _ us hl => match us, hl with | [_], _ => rfl, inSPut, iSPut⟩
  let MSOpen : TStr K COpen "Open.__str__" sOpenStr := ⟨fSOpen, _, fun_mk (st := sOpenStr) lSOpen cSOpen kSOpen, (fun_mk (st := sOpenStr) lSOpen cSOpen kSOpen).binds (ps := ["self"]) fun _ _ _ _ _ _ us hl => match us, hl with | [_], _ => rfl, inSOpen, iSOpen⟩
  let Dreadnumber : At K mg "read_number" sReadNum ["text"] := ⟨freadnumber, _, fun_mk (st := sReadNum) lreadnumber creadnumber kreadnumber, (fun_mk (st := sReadNum) lreadnumber creadnumber kreadnumber).binds (ps := ["text"]) fun _ _ _ _ _ _ us hl => match us, hl with | [_], _ => rfl, PySem.W.mg_of X G areadnumber⟩
  let Drowoftwo : At K mg "row_of_two" sRow2 ["word", "name"] := ⟨frowoftwo, _, fun_mk (st := sRow2) lrowoftwo crowoftwo krowoftwo, (fun_mk (st := sRow2) lrowoftwo crowoftwo krowoftwo).binds (ps := ["word", "name"]) fun _ _ _ _ _ _ us hl => match us, hl with | [_, _], _ => rfl, PySem.W.mg_of X G arowoftwo⟩
  let Drowofthree : At K mg "row_of_three" sRow3 ["word", "counter", "last"] := ⟨frowofthree, _, fun_mk (st := sRow3) lrowofthree crowofthree krowofthree, (fun_mk (st := sRow3) lrowofthree crowofthree krowofthree).binds (ps := ["word", "counter", "last"]) fun _ _ _ _ _ _ us hl => match us, hl with | [_, _, _], _ => rfl, PySem.W.mg_of X G arowofthree⟩
  let Dreadrow : At K mg "read_row" sReadRow ["text"] := ⟨freadrow, _, fun_mk (st := sReadRow) lreadrow creadrow kreadrow, (fun_mk (st := sReadRow) lreadrow creadrow kreadrow).binds (ps := ["text"]) fun _ _ _ _ _ _ us hl => match us, hl with | [_], _ => rfl, PySem.W.mg_of X G areadrow⟩
  let Dlawseed : At K mg "_law_seed" sSeed ["_law_script", "_law_k"] := ⟨flawseed, _, fun_mk (st := sSeed) llawseed clawseed klawseed, (fun_mk (st := sSeed) llawseed clawseed klawseed).binds (ps := ["_law_script", "_law_k"]) fun _ _ _ _ _ _ us hl => match us, hl with | [_, _], _ => rfl, PySem.W.mg_of X G alawseed⟩
  let Dlawchoose : At K mg "_law_choose" sChoose ["_law_box", "_law_many"] := ⟨flawchoose, _, fun_mk (st := sChoose) llawchoose clawchoose klawchoose, (fun_mk (st := sChoose) llawchoose clawchoose klawchoose).binds (ps := ["_law_box", "_law_many"]) fun _ _ _ _ _ _ us hl => match us, hl with | [_, _], _ => rfl, PySem.W.mg_of X G alawchoose⟩
  let Dlawoneof : At K mg "_law_one_of" sOne ["_law_box", "_law_some"] := ⟨flawoneof, _, fun_mk (st := sOne) llawoneof clawoneof klawoneof, (fun_mk (st := sOne) llawoneof clawoneof klawoneof).binds (ps := ["_law_box", "_law_some"]) fun _ _ _ _ _ _ us hl => match us, hl with | [_, _], _ => rfl, PySem.W.mg_of X G alawoneof⟩
  let Dlawpools : At K mg "_law_pools" sPools ["_law_box"] := ⟨flawpools, _, fun_mk (st := sPools) llawpools clawpools klawpools, (fun_mk (st := sPools) llawpools clawpools klawpools).binds (ps := ["_law_box"]) fun _ _ _ _ _ _ us hl => match us, hl with | [_], _ => rfl, PySem.W.mg_of X G alawpools⟩
  let Dlawcounters : At K mg "_law_counters" sCounters ["_law_box", "_law_pool", "_law_many"] := ⟨flawcounters, _, fun_mk (st := sCounters) llawcounters clawcounters klawcounters, (fun_mk (st := sCounters) llawcounters clawcounters klawcounters).binds (ps := ["_law_box", "_law_pool", "_law_many"]) fun _ _ _ _ _ _ us hl => match us, hl with | [_, _, _], _ => rfl, PySem.W.mg_of X G alawcounters⟩
  let Dlawrow : At K mg "_law_row" sLRow ["_law_box", "_law_pools_here", "_law_counters_here", "_law_parts"] := ⟨flawrow, _, fun_mk (st := sLRow) llawrow clawrow klawrow, (fun_mk (st := sLRow) llawrow clawrow klawrow).binds (ps := ["_law_box", "_law_pools_here", "_law_counters_here", "_law_parts"]) fun _ _ _ _ _ _ us hl => match us, hl with | [_, _, _, _], _ => rfl, PySem.W.mg_of X G alawrow⟩
  let Dsamerow : At K mg "same_row" sSameRow ["row", "other"] := ⟨fsamerow, _, fun_mk (st := sSameRow) lsamerow csamerow ksamerow, (fun_mk (st := sSameRow) lsamerow csamerow ksamerow).binds (ps := ["row", "other"]) fun _ _ _ _ _ _ us hl => match us, hl with | [_, _], _ => rfl, PySem.W.mg_of X G asamerow⟩
  let MQNote : TEq K CNote "Note.__eq__" sNoteEq := ⟨fQNote, _, fun_mk (st := sNoteEq) lQNote cQNote kQNote, (fun_mk (st := sNoteEq) lQNote cQNote kQNote).binds (ps := ["self", "other"]) fun _ _ _ _ _ _ us hl => match us, hl with | [_, _], _ => rfl, inQNote, iQNote⟩
  let MQSkip : TEq K CSkip "Skip.__eq__" sSkipEq := ⟨fQSkip, _, fun_mk (st := sSkipEq) lQSkip cQSkip kQSkip, (fun_mk (st := sSkipEq) lQSkip cQSkip kQSkip).binds (ps := ["self", "other"]) fun _ _ _ _ _ _ us hl => match us, hl with | [_, _], _ => rfl, inQSkip, iQSkip⟩
  let MQSet : TEq K CSet "Set.__eq__" sSetEq := ⟨fQSet, _, fun_mk (st := sSetEq) lQSet cQSet kQSet, (fun_mk (st := sSetEq) lQSet cQSet kQSet).binds (ps := ["self", "other"]) fun _ _ _ _ _ _ us hl => match us, hl with | [_, _], _ => rfl, inQSet, iQSet⟩
  let MQKeep : TEq K CKeep "Keep.__eq__" sKeepEq := ⟨fQKeep, _, fun_mk (st := sKeepEq) lQKeep cQKeep kQKeep, (fun_mk (st := sKeepEq) lQKeep cQKeep kQKeep).binds (ps := ["self", "other"]) fun _ _ _ _ _ _ us hl => match us, hl with | [_, _], _ => rfl, inQKeep, iQKeep⟩
  let MQBack : TEq K CBack "Back.__eq__" sBackEq := ⟨fQBack, _, fun_mk (st := sBackEq) lQBack cQBack kQBack, (fun_mk (st := sBackEq) lQBack cQBack kQBack).binds (ps := ["self", "other"]) fun _ _ _ _ _ _ us hl => match us, hl with | [_, _], _ => rfl, inQBack, iQBack⟩
  let MQRef : TEq K CRef "Ref.__eq__" sRefEq := ⟨fQRef, _, fun_mk (st := sRefEq) lQRef cQRef kQRef, (fun_mk (st := sRefEq) lQRef cQRef kQRef).binds (ps := ["self", "other"]) fun _ _ _ _ _ _ us hl => match us, hl with | [_, _], _ => rfl, inQRef, iQRef⟩
  let MQPut : TEq K CPut "Put.__eq__" sPutEq := ⟨fQPut, _, fun_mk (st := sPutEq) lQPut cQPut kQPut, (fun_mk (st := sPutEq) lQPut cQPut kQPut).binds (ps := ["self", "other"]) fun _ _ _ _ _ _ us hl => match us, hl with | [_, _], _ => rfl, inQPut, iQPut⟩
  let MQOpen : TEq K COpen "Open.__eq__" sOpenEq := ⟨fQOpen, _, fun_mk (st := sOpenEq) lQOpen cQOpen kQOpen, (fun_mk (st := sOpenEq) lQOpen cQOpen kQOpen).binds (ps := ["self", "other"]) fun _ _ _ _ _ _ us hl => match us, hl with | [_, _], _ => rfl, inQOpen, iQOpen⟩
  let Dlawrowtext : At K mg "_law_row_text" sRowText ["_law_row_here"] := ⟨flawrowtext, _, fun_mk (st := sRowText) llawrowtext clawrowtext klawrowtext, (fun_mk (st := sRowText) llawrowtext clawrowtext klawrowtext).binds (ps := ["_law_row_here"]) fun _ _ _ _ _ _ us hl => match us, hl with | [_], _ => rfl, PySem.W.mg_of X G alawrowtext⟩
  let Dlawmaderow : At K mg "_law_made_row" sMadeRow ["_law_row_here"] := ⟨flawmaderow, _, fun_mk (st := sMadeRow) llawmaderow clawmaderow klawmaderow, (fun_mk (st := sMadeRow) llawmaderow clawmaderow klawmaderow).binds (ps := ["_law_row_here"]) fun _ _ _ _ _ _ us hl => match us, hl with | [_], _ => rfl, PySem.W.mg_of X G alawmaderow⟩
  let Dlawkept : At K mg "_law_kept" sKept ["_law_row_here"] := ⟨flawkept, _, fun_mk (st := sKept) llawkept clawkept klawkept, (fun_mk (st := sKept) llawkept clawkept klawkept).binds (ps := ["_law_row_here"]) fun _ _ _ _ _ _ us hl => match us, hl with | [_], _ => rfl, PySem.W.mg_of X G alawkept⟩
  let N : TNeed K mg := { mInt := Mint, mBool := Mbool, mStr := Mstr, mIsi := Misinstance, mLen := Mlen, mAll := Mall, words := wROWWORDS, mWords := PySem.W.mg_of X G aROWWORDS, hWords := SROWWORDS, tok := tkLONGESTNAME, mLong := ILONGESTNAME, isInteger := Disinteger, isNumber := Disnumber, isName := Disname, IR := EInvalidRow, need := Dneedname }
  have FN : FunD K "__init__" "Note.__init__" (defArgs sNoteInit) (defBody sNoteInit) (defScope sNoteInit) [.str ""] [] fNote _ := ⟨⟨_, _, _, _, _, _, _, _, _, _, rfl, lNote, cNote, .inr ⟨by simp, TdNote, _, [.str "" tkTNote], _, rfl, lTNote, rfl, .cons ⟨_, rfl⟩ .nil⟩, .inl rfl⟩, kNote⟩
  obtain ⟨dsN, vN, bN⟩ := FN.binds1 (ps := ["self", "counter", "label"]) 3 1 (by simp) rfl fun _ _ _ _ _ _ _ us its hl hi => match us, its, hl, hi with | [_, _, _], [_], _, _ => ⟨_, rfl, rfl⟩
  have eN : dsN = [] := by cases vN; rfl
  subst eN
  obtain ⟨dsM, vM, bM⟩ := FN.binds1 (ps := ["self", "counter", "label"]) 2 0 (by simp) rfl fun _ _ _ _ _ _ _ us its hl hi => match us, its, hl, hi with | [_, _], [_], _, _ => ⟨_, rfl, rfl⟩
  let KNote : TNote K mg := { C := CNote, fI := fNote, fd := _, F := FN, b := bN, m := PySem.W.mg_of X G aNote, M := ⟨mkNote, inNote, iNote, kcNote⟩, cl := ⟨pgNote, hdNote, poNote, saNote⟩, noW := nNote0, noC := nNote1, noL := nNote2 }
  let KSkip : TSkip K mg := { C := CSkip, fI := fSkip, fd := _, F := fun_mk (st := sSkipInit) lSkip cSkip kSkip, b := (fun_mk (st := sSkipInit) lSkip cSkip kSkip).binds (ps := ["self", "counter", "by"]) fun _ _ _ _ _ _ us hl => match us, hl with | [_, _, _], _ => rfl, m := PySem.W.mg_of X G aSkip, M := ⟨mkSkip, inSkip, iSkip, kcSkip⟩, cl := ⟨pgSkip, hdSkip, poSkip, saSkip⟩, noW := nSkip0, noC := nSkip1, noF := nSkip2 }
  let KSet : TSet K mg := { C := CSet, fI := fSet, fd := _, F := fun_mk (st := sSetInit) lSet cSet kSet, b := (fun_mk (st := sSetInit) lSet cSet kSet).binds (ps := ["self", "counter", "to"]) fun _ _ _ _ _ _ us hl => match us, hl with | [_, _, _], _ => rfl, m := PySem.W.mg_of X G aSet, M := ⟨mkSet, inSet, iSet, kcSet⟩, cl := ⟨pgSet, hdSet, poSet, saSet⟩, noW := nSet0, noC := nSet1, noF := nSet2 }
  let KKeep : TKeep K mg := { C := CKeep, fI := fKeep, fd := _, F := fun_mk (st := sKeepInit) lKeep cKeep kKeep, b := (fun_mk (st := sKeepInit) lKeep cKeep kKeep).binds (ps := ["self", "counter"]) fun _ _ _ _ _ _ us hl => match us, hl with | [_, _], _ => rfl, m := PySem.W.mg_of X G aKeep, M := ⟨mkKeep, inKeep, iKeep, kcKeep⟩, cl := ⟨pgKeep, hdKeep, poKeep, saKeep⟩, noW := nKeep0, noF := nKeep1 }
  let KBack : TBack K mg := { C := CBack, fI := fBack, fd := _, F := fun_mk (st := sBackInit) lBack cBack kBack, b := (fun_mk (st := sBackInit) lBack cBack kBack).binds (ps := ["self", "counter"]) fun _ _ _ _ _ _ us hl => match us, hl with | [_, _], _ => rfl, m := PySem.W.mg_of X G aBack, M := ⟨mkBack, inBack, iBack, kcBack⟩, cl := ⟨pgBack, hdBack, poBack, saBack⟩, noW := nBack0, noF := nBack1 }
  let KRef : TRef K mg := { C := CRef, fI := fRef, fd := _, F := fun_mk (st := sRefInit) lRef cRef kRef, b := (fun_mk (st := sRefInit) lRef cRef kRef).binds (ps := ["self", "label"]) fun _ _ _ _ _ _ us hl => match us, hl with | [_, _], _ => rfl, m := PySem.W.mg_of X G aRef, M := ⟨mkRef, inRef, iRef, kcRef⟩, cl := ⟨pgRef, hdRef, poRef, saRef⟩, noW := nRef0, noF := nRef1 }
  let KPut : TPut K mg := { C := CPut, fI := fPut, fd := _, F := fun_mk (st := sPutInit) lPut cPut kPut, b := (fun_mk (st := sPutInit) lPut cPut kPut).binds (ps := ["self", "part"]) fun _ _ _ _ _ _ us hl => match us, hl with | [_, _], _ => rfl, m := PySem.W.mg_of X G aPut, M := ⟨mkPut, inPut, iPut, kcPut⟩, cl := ⟨pgPut, hdPut, poPut, saPut⟩, noW := nPut0, noF := nPut1 }
  let KOpen : TOpen K mg := { C := COpen, fI := fOpen, fd := _, F := fun_mk (st := sOpenInit) lOpen cOpen kOpen, b := (fun_mk (st := sOpenInit) lOpen cOpen kOpen).binds (ps := ["self", "name"]) fun _ _ _ _ _ _ us hl => match us, hl with | [_, _], _ => rfl, m := PySem.W.mg_of X G aOpen, M := ⟨mkOpen, inOpen, iOpen, kcOpen⟩, cl := ⟨pgOpen, hdOpen, poOpen, saOpen⟩, noW := nOpen0, noF := nOpen1 }
  let R : TRows K mg := { N := N, note := KNote, skip := KSkip, set := KSet, keep := KKeep, back := KBack, ref := KRef, put := KPut, open_ := KOpen }
  let S : TStrs R := { note := MSNote, skip := MSSkip, set := MSSet, keep := MSKeep, back := MSBack, ref := MSRef, put := MSPut, open_ := MSOpen }
  let NU : TNum K mg := { IT := EInvalidText, mInt := Mint, mLen := Mlen, mAll := Mall, tok := tkMOSTDIGITS, mMost := IMOSTDIGITS, num := Dreadnumber }
  let RD : TRead K mg := { R := R, M := NU, dsN := dsM, vN := vM, bN := bM, two := Drowoftwo, three := Drowofthree, read := Dreadrow }
  let DD : TDRow K mg := { mI := Mint, mL := Mlen, mA := Mabs, seed := Dlawseed, choose := Dlawchoose, one := Dlawoneof, mR := Mrange, counters := Dlawcounters, pools := Dlawpools, row := Dlawrow }
  let SS : TSame R := { S := S, CR := CRow, mR := PySem.W.mg_of X G aRow, kS := kSR, kR := fun r => match r with | .note _ _ => kRNote | .skip _ _ => kRSkip | .set _ _ => kRSet | .keep _ => kRKeep | .back _ => kRBack | .ref _ => kRRef | .put _ => kRPut | .opn _ => kROpen, nS := fun r => match r with | .note _ _ => nSNote | .skip _ _ => nSSkip | .set _ _ => nSSet | .keep _ => nSKeep | .back _ => nSBack | .ref _ => nSRef | .put _ => nSPut | .opn _ => nSOpen, nR := fun r r' => match r, r' with | .note _ _, .note _ _ => nRNoteNote | .note _ _, .skip _ _ => nRNoteSkip | .note _ _, .set _ _ => nRNoteSet | .note _ _, .keep _ => nRNoteKeep | .note _ _, .back _ => nRNoteBack | .note _ _, .ref _ => nRNoteRef | .note _ _, .put _ => nRNotePut | .note _ _, .opn _ => nRNoteOpen | .skip _ _, .note _ _ => nRSkipNote | .skip _ _, .skip _ _ => nRSkipSkip | .skip _ _, .set _ _ => nRSkipSet | .skip _ _, .keep _ => nRSkipKeep | .skip _ _, .back _ => nRSkipBack | .skip _ _, .ref _ => nRSkipRef | .skip _ _, .put _ => nRSkipPut | .skip _ _, .opn _ => nRSkipOpen | .set _ _, .note _ _ => nRSetNote | .set _ _, .skip _ _ => nRSetSkip | .set _ _, .set _ _ => nRSetSet | .set _ _, .keep _ => nRSetKeep | .set _ _, .back _ => nRSetBack | .set _ _, .ref _ => nRSetRef | .set _ _, .put _ => nRSetPut | .set _ _, .opn _ => nRSetOpen | .keep _, .note _ _ => nRKeepNote | .keep _, .skip _ _ => nRKeepSkip | .keep _, .set _ _ => nRKeepSet | .keep _, .keep _ => nRKeepKeep | .keep _, .back _ => nRKeepBack | .keep _, .ref _ => nRKeepRef | .keep _, .put _ => nRKeepPut | .keep _, .opn _ => nRKeepOpen | .back _, .note _ _ => nRBackNote | .back _, .skip _ _ => nRBackSkip | .back _, .set _ _ => nRBackSet | .back _, .keep _ => nRBackKeep | .back _, .back _ => nRBackBack | .back _, .ref _ => nRBackRef | .back _, .put _ => nRBackPut | .back _, .opn _ => nRBackOpen | .ref _, .note _ _ => nRRefNote | .ref _, .skip _ _ => nRRefSkip | .ref _, .set _ _ => nRRefSet | .ref _, .keep _ => nRRefKeep | .ref _, .back _ => nRRefBack | .ref _, .ref _ => nRRefRef | .ref _, .put _ => nRRefPut | .ref _, .opn _ => nRRefOpen | .put _, .note _ _ => nRPutNote | .put _, .skip _ _ => nRPutSkip | .put _, .set _ _ => nRPutSet | .put _, .keep _ => nRPutKeep | .put _, .back _ => nRPutBack | .put _, .ref _ => nRPutRef | .put _, .put _ => nRPutPut | .put _, .opn _ => nRPutOpen | .opn _, .note _ _ => nROpenNote | .opn _, .skip _ _ => nROpenSkip | .opn _, .set _ _ => nROpenSet | .opn _, .keep _ => nROpenKeep | .opn _, .back _ => nROpenBack | .opn _, .ref _ => nROpenRef | .opn _, .put _ => nROpenPut | .opn _, .opn _ => nROpenOpen, cA := fun r => match r with | .note _ _ => cANote | .skip _ _ => cASkip | .set _ _ => cASet | .keep _ => cAKeep | .back _ => cABack | .ref _ => cARef | .put _ => cAPut | .opn _ => cAOpen, cN := hnGet, cT := htGet, cM := fun r => match r with | .note _ _ => cMNote | .skip _ _ => cMSkip | .set _ _ => cMSet | .keep _ => cMKeep | .back _ => cMBack | .ref _ => cMRef | .put _ => cMPut | .opn _ => cMOpen, ne := fun r => match r with | .note _ _ => neNote | .skip _ _ => neSkip | .set _ _ => neSet | .keep _ => neKeep | .back _ => neBack | .ref _ => neRef | .put _ => nePut | .opn _ => neOpen, mStr := Mstr, same := Dsamerow, note := MQNote, skip := MQSkip, set := MQSet, keep := MQKeep, back := MQBack, ref := MQRef, put := MQPut, open_ := MQOpen }
  let T : TK02 K mg := { D := DD, R := RD, S := SS, hsub := hsub, rowtext := Dlawrowtext, made := Dlawmaderow, kept := Dlawkept, mMax := Mmax, mMin := Mmin, mRepr := Mrepr, mZip := Mzip }
  exact ⟨_, fun s v => .of_eq rfl, fun base _ _ => ok_law2 T (fun_mk (st := sLaw2) llaw claw klaw) ⟨rfl, by decide, by decide⟩ rfl⟩
theorem walk {l : PySem.W.OpenLaw} {q : Program} {loose : List Str} {XP : (Str → Option Value) → Heap → Prop} {YP : World → Heap → Prop} {d : DefRec} {K : Params → PySem.W.Frag} (hn : l.most = some 63) (hdf : d.params.defaults = [])
    (hY : ∀ (w : World) (h : Heap), YP w h → (K w.params).In h)
    (F : ∀ (w : World) (mg : Str → Option Value) (fa : Addr) (h : Heap), (K w.params).In h → h.Ns mainGlobals mg → mg d.name = some (.ref fa) →
      ∃ fd : FuncData, (∀ (s : Shared) (u : Value), BindsTo s fd ⟨[u], []⟩ [("_law_script", u)]) ∧ ∀ base : Heap, (K w.params).In base → base.Ns mainGlobals mg → RunAt l.prog w (K w.params) mg base callerA fa fd ["_law_script"] (spLaw2 (K w.params))) :
    PySem.W.WalkO q loose XP YP l.row.toRowW d [] (fun f vs => PySem.call f vs) :=
  walk_g (n := 63) (x := "_law_script") (sp := spLaw2) hn (by decide) hdf hY F (fun _ _ a ns hl hS => ⟨a, ns, rfl, hS, hl, fun _ => rfl⟩)
end Pn

open PySem PySem.W PyProof.Rows
set_option maxRecDepth 100000 in
set_option maxHeartbeats 0 in
theorem PySem.Challenge.cw_partnotes_k02_rows_made_holds : PySem.Challenge.rw_partnotes_k02_rows_made.Holds := by
  w_on; o_law; k_head; (case hw => w_witness2)
  k_fill
  refine Pn.walk (l := PySem.Challenge.rw_partnotes_k02_rows_made) rfl rfl (fun w h Y => PySem.W.kIn_of Y) ?F
  case F =>
    intro w mg fa h KX G hmg
    refine' Pn.all_mk KX G hmg ?zint ?zbool ?zstr ?zisinstance ?zlen ?zall ?zabs ?zrange ?zmax ?zmin ?zrepr ?zzip ?aROWWORDS ?lROWWORDS ?aLONGESTNAME ?aMOSTDIGITS ?aisinteger ?lisinteger ?cisinteger ?kisinteger ?aisnumber ?lisnumber ?cisnumber ?kisnumber ?aisname ?lisname ?cisname ?kisname ?aNoteError ?aInvalidRow ?xInvalidRow ?saInvalidRow ?gaInvalidRow ?ggInvalidRow ?nfInvalidRow ?inInvalidRow ?haInvalidRow ?tiInvalidRow ?lInvalidRow ?cInvalidRow ?kInvalidRow ?kcInvalidRow ?eCInvalidRow ?tCInvalidRow ?hCInvalidRow ?iCInvalidRow ?sCInvalidRow ?hmInvalidRow ?aInvalidText ?xInvalidText ?saInvalidText ?gaInvalidText ?ggInvalidText ?nfInvalidText ?inInvalidText ?haInvalidText ?tiInvalidText ?lInvalidText ?cInvalidText ?kInvalidText ?kcInvalidText ?eCInvalidText ?tCInvalidText ?hCInvalidText ?iCInvalidText ?sCInvalidText ?hmInvalidText ?aneedname ?lneedname ?cneedname ?kneedname ?aNote ?inNote ?iNote ?lNote ?cNote ?kNote ?lTNote ?pgNote ?hdNote ?poNote ?saNote ?mkNote ?kcNote ?nNote0 ?nNote1 ?nNote2 ?inSNote ?iSNote ?lSNote ?cSNote ?kSNote ?aSkip ?inSkip ?iSkip ?lSkip ?cSkip ?kSkip ?pgSkip ?hdSkip ?poSkip ?saSkip ?mkSkip ?kcSkip ?nSkip0 ?nSkip1 ?nSkip2 ?inSSkip ?iSSkip ?lSSkip ?cSSkip ?kSSkip ?aSet ?inSet ?iSet ?lSet ?cSet ?kSet ?pgSet ?hdSet ?poSet ?saSet ?mkSet ?kcSet ?nSet0 ?nSet1 ?nSet2 ?inSSet ?iSSet ?lSSet ?cSSet ?kSSet ?aKeep ?inKeep ?iKeep ?lKeep ?cKeep ?kKeep ?pgKeep ?hdKeep ?poKeep ?saKeep ?mkKeep ?kcKeep ?nKeep0 ?nKeep1 ?inSKeep ?iSKeep ?lSKeep ?cSKeep ?kSKeep ?aBack ?inBack ?iBack ?lBack ?cBack ?kBack ?pgBack ?hdBack ?poBack ?saBack ?mkBack ?kcBack ?nBack0 ?nBack1 ?inSBack ?iSBack ?lSBack ?cSBack ?kSBack ?aRef ?inRef ?iRef ?lRef ?cRef ?kRef ?pgRef ?hdRef ?poRef ?saRef ?mkRef ?kcRef ?nRef0 ?nRef1 ?inSRef ?iSRef ?lSRef ?cSRef ?kSRef ?aPut ?inPut ?iPut ?lPut ?cPut ?kPut ?pgPut ?hdPut ?poPut ?saPut ?mkPut ?kcPut ?nPut0 ?nPut1 ?inSPut ?iSPut ?lSPut ?cSPut ?kSPut ?aOpen ?inOpen ?iOpen ?lOpen ?cOpen ?kOpen ?pgOpen ?hdOpen ?poOpen ?saOpen ?mkOpen ?kcOpen ?nOpen0 ?nOpen1 ?inSOpen ?iSOpen ?lSOpen ?cSOpen ?kSOpen ?areadnumber ?lreadnumber ?creadnumber ?kreadnumber ?arowoftwo ?lrowoftwo ?crowoftwo ?krowoftwo ?arowofthree ?lrowofthree ?crowofthree ?krowofthree ?areadrow ?lreadrow ?creadrow ?kreadrow ?alawseed ?llawseed ?clawseed ?klawseed ?alawchoose ?llawchoose ?clawchoose ?klawchoose ?alawoneof ?llawoneof ?clawoneof ?klawoneof ?alawpools ?llawpools ?clawpools ?klawpools ?alawcounters ?llawcounters ?clawcounters ?klawcounters ?alawrow ?llawrow ?clawrow ?klawrow ?aRow ?asamerow ?lsamerow ?csamerow ?ksamerow ?inQNote ?iQNote ?lQNote ?cQNote ?kQNote ?inQSkip ?iQSkip ?lQSkip ?cQSkip ?kQSkip ?inQSet ?iQSet ?lQSet ?cQSet ?kQSet ?inQKeep ?iQKeep ?lQKeep ?cQKeep ?kQKeep ?inQBack ?iQBack ?lQBack ?cQBack ?kQBack ?inQRef ?iQRef ?lQRef ?cQRef ?kQRef ?inQPut ?iQPut ?lQPut ?cQPut ?kQPut ?inQOpen ?iQOpen ?lQOpen ?cQOpen ?kQOpen ?alawrowtext ?llawrowtext ?clawrowtext ?klawrowtext ?alawmaderow ?llawmaderow ?clawmaderow ?klawmaderow ?alawkept ?llawkept ?clawkept ?klawkept ?alaw ?llaw ?claw ?klaw ?hsub ?kSR ?kRNote ?nSNote ?cANote ?cMNote ?neNote ?nRNoteNote ?nRNoteSkip ?nRNoteSet ?nRNoteKeep ?nRNoteBack ?nRNoteRef ?nRNotePut ?nRNoteOpen ?kRSkip ?nSSkip ?cASkip ?cMSkip ?neSkip ?nRSkipNote ?nRSkipSkip ?nRSkipSet ?nRSkipKeep ?nRSkipBack ?nRSkipRef ?nRSkipPut ?nRSkipOpen ?kRSet ?nSSet ?cASet ?cMSet ?neSet ?nRSetNote ?nRSetSkip ?nRSetSet ?nRSetKeep ?nRSetBack ?nRSetRef ?nRSetPut ?nRSetOpen ?kRKeep ?nSKeep ?cAKeep ?cMKeep ?neKeep ?nRKeepNote ?nRKeepSkip ?nRKeepSet ?nRKeepKeep ?nRKeepBack ?nRKeepRef ?nRKeepPut ?nRKeepOpen ?kRBack ?nSBack ?cABack ?cMBack ?neBack ?nRBackNote ?nRBackSkip ?nRBackSet ?nRBackKeep ?nRBackBack ?nRBackRef ?nRBackPut ?nRBackOpen ?kRRef ?nSRef ?cARef ?cMRef ?neRef ?nRRefNote ?nRRefSkip ?nRRefSet ?nRRefKeep ?nRRefBack ?nRRefRef ?nRRefPut ?nRRefOpen ?kRPut ?nSPut ?cAPut ?cMPut ?nePut ?nRPutNote ?nRPutSkip ?nRPutSet ?nRPutKeep ?nRPutBack ?nRPutRef ?nRPutPut ?nRPutOpen ?kROpen ?nSOpen ?cAOpen ?cMOpen ?neOpen ?nROpenNote ?nROpenSkip ?nROpenSet ?nROpenKeep ?nROpenBack ?nROpenRef ?nROpenPut ?nROpenOpen ?hnGet ?htGet
    (case zint => first | k_is | rfl)
    (case zbool => first | k_is | rfl)
    (case zstr => first | k_is | rfl)
    (case zisinstance => first | k_is | rfl)
    (case zlen => first | k_is | rfl)
    (case zall => first | k_is | rfl)
    (case zabs => first | k_is | rfl)
    (case zrange => first | k_is | rfl)
    (case zmax => first | k_is | rfl)
    (case zmin => first | k_is | rfl)
    (case zrepr => first | k_is | rfl)
    (case zzip => first | k_is | rfl)
    (case aROWWORDS => first | k_is | rfl)
    (case lROWWORDS => first | k_is | rfl)
    (case aLONGESTNAME => first | k_is | rfl)
    (case aMOSTDIGITS => first | k_is | rfl)
    (case aisinteger => first | k_is | rfl)
    (case lisinteger => first | k_is | rfl)
    (case cisinteger => first | k_is | rfl)
    (case kisinteger => first | k_is | rfl)
    (case aisnumber => first | k_is | rfl)
    (case lisnumber => first | k_is | rfl)
    (case cisnumber => first | k_is | rfl)
    (case kisnumber => first | k_is | rfl)
    (case aisname => first | k_is | rfl)
    (case lisname => first | k_is | rfl)
    (case cisname => first | k_is | rfl)
    (case kisname => first | k_is | rfl)
    (case aNoteError => first | k_is | rfl)
    (case aInvalidRow => first | k_is | rfl)
    (case xInvalidRow => first | k_is | rfl)
    (case saInvalidRow => first | k_is | rfl)
    (case gaInvalidRow => first | k_is | rfl)
    (case ggInvalidRow => first | k_is | rfl)
    (case nfInvalidRow => first | k_is | rfl)
    (case inInvalidRow => first | k_is | rfl)
    (case haInvalidRow => first | k_is | rfl)
    (case tiInvalidRow => first | k_is | rfl)
    (case lInvalidRow => first | k_is | rfl)
    (case cInvalidRow => first | k_is | rfl)
    (case kInvalidRow => first | k_is | rfl)
    (case kcInvalidRow => first | k_is | rfl)
    (case eCInvalidRow => first | k_is | rfl)
    (case tCInvalidRow => first | k_is | rfl)
    (case hCInvalidRow => first | k_is | rfl)
    (case iCInvalidRow => first | k_is | rfl)
    (case sCInvalidRow => first | k_is | rfl)
    (case hmInvalidRow => first | k_is | rfl)
    (case aInvalidText => first | k_is | rfl)
    (case xInvalidText => first | k_is | rfl)
    (case saInvalidText => first | k_is | rfl)
    (case gaInvalidText => first | k_is | rfl)
    (case ggInvalidText => first | k_is | rfl)
    (case nfInvalidText => first | k_is | rfl)
    (case inInvalidText => first | k_is | rfl)
    (case haInvalidText => first | k_is | rfl)
    (case tiInvalidText => first | k_is | rfl)
    (case lInvalidText => first | k_is | rfl)
    (case cInvalidText => first | k_is | rfl)
    (case kInvalidText => first | k_is | rfl)
    (case kcInvalidText => first | k_is | rfl)
    (case eCInvalidText => first | k_is | rfl)
    (case tCInvalidText => first | k_is | rfl)
    (case hCInvalidText => first | k_is | rfl)
    (case iCInvalidText => first | k_is | rfl)
    (case sCInvalidText => first | k_is | rfl)
    (case hmInvalidText => first | k_is | rfl)
    (case aneedname => first | k_is | rfl)
    (case lneedname => first | k_is | rfl)
    (case cneedname => first | k_is | rfl)
    (case kneedname => first | k_is | rfl)
    (case aNote => first | k_is | rfl)
    (case inNote => first | k_is | rfl)
    (case iNote => first | k_is | rfl)
    (case lNote => first | k_is | rfl)
    (case cNote => first | k_is | rfl)
    (case kNote => first | k_is | rfl)
    (case lTNote => first | k_is | rfl)
    (case pgNote => first | k_is | rfl)
    (case hdNote => first | k_is | rfl)
    (case poNote => first | k_is | rfl)
    (case saNote => first | k_is | rfl)
    (case mkNote => first | k_is | rfl)
    (case kcNote => first | k_is | rfl)
    (case nNote0 => first | k_is | rfl)
    (case nNote1 => first | k_is | rfl)
    (case nNote2 => first | k_is | rfl)
    (case inSNote => first | k_is | rfl)
    (case iSNote => first | k_is | rfl)
    (case lSNote => first | k_is | rfl)
    (case cSNote => first | k_is | rfl)
    (case kSNote => first | k_is | rfl)
    (case aSkip => first | k_is | rfl)
    (case inSkip => first | k_is | rfl)
    (case iSkip => first | k_is | rfl)
    (case lSkip => first | k_is | rfl)
    (case cSkip => first | k_is | rfl)
    (case kSkip => first | k_is | rfl)
    (case pgSkip => first | k_is | rfl)
    (case hdSkip => first | k_is | rfl)
    (case poSkip => first | k_is | rfl)
    (case saSkip => first | k_is | rfl)
    (case mkSkip => first | k_is | rfl)
    (case kcSkip => first | k_is | rfl)
    (case nSkip0 => first | k_is | rfl)
    (case nSkip1 => first | k_is | rfl)
    (case nSkip2 => first | k_is | rfl)
    (case inSSkip => first | k_is | rfl)
    (case iSSkip => first | k_is | rfl)
    (case lSSkip => first | k_is | rfl)
    (case cSSkip => first | k_is | rfl)
    (case kSSkip => first | k_is | rfl)
    (case aSet => first | k_is | rfl)
    (case inSet => first | k_is | rfl)
    (case iSet => first | k_is | rfl)
    (case lSet => first | k_is | rfl)
    (case cSet => first | k_is | rfl)
    (case kSet => first | k_is | rfl)
    (case pgSet => first | k_is | rfl)
    (case hdSet => first | k_is | rfl)
    (case poSet => first | k_is | rfl)
    (case saSet => first | k_is | rfl)
    (case mkSet => first | k_is | rfl)
    (case kcSet => first | k_is | rfl)
    (case nSet0 => first | k_is | rfl)
    (case nSet1 => first | k_is | rfl)
    (case nSet2 => first | k_is | rfl)
    (case inSSet => first | k_is | rfl)
    (case iSSet => first | k_is | rfl)
    (case lSSet => first | k_is | rfl)
    (case cSSet => first | k_is | rfl)
    (case kSSet => first | k_is | rfl)
    (case aKeep => first | k_is | rfl)
    (case inKeep => first | k_is | rfl)
    (case iKeep => first | k_is | rfl)
    (case lKeep => first | k_is | rfl)
    (case cKeep => first | k_is | rfl)
    (case kKeep => first | k_is | rfl)
    (case pgKeep => first | k_is | rfl)
    (case hdKeep => first | k_is | rfl)
    (case poKeep => first | k_is | rfl)
    (case saKeep => first | k_is | rfl)
    (case mkKeep => first | k_is | rfl)
    (case kcKeep => first | k_is | rfl)
    (case nKeep0 => first | k_is | rfl)
    (case nKeep1 => first | k_is | rfl)
    (case inSKeep => first | k_is | rfl)
    (case iSKeep => first | k_is | rfl)
    (case lSKeep => first | k_is | rfl)
    (case cSKeep => first | k_is | rfl)
    (case kSKeep => first | k_is | rfl)
    (case aBack => first | k_is | rfl)
    (case inBack => first | k_is | rfl)
    (case iBack => first | k_is | rfl)
    (case lBack => first | k_is | rfl)
    (case cBack => first | k_is | rfl)
    (case kBack => first | k_is | rfl)
    (case pgBack => first | k_is | rfl)
    (case hdBack => first | k_is | rfl)
    (case poBack => first | k_is | rfl)
    (case saBack => first | k_is | rfl)
    (case mkBack => first | k_is | rfl)
    (case kcBack => first | k_is | rfl)
    (case nBack0 => first | k_is | rfl)
    (case nBack1 => first | k_is | rfl)
    (case inSBack => first | k_is | rfl)
    (case iSBack => first | k_is | rfl)
    (case lSBack => first | k_is | rfl)
    (case cSBack => first | k_is | rfl)
    (case kSBack => first | k_is | rfl)
    (case aRef => first | k_is | rfl)
    (case inRef => first | k_is | rfl)
    (case iRef => first | k_is | rfl)
    (case lRef => first | k_is | rfl)
    (case cRef => first | k_is | rfl)
    (case kRef => first | k_is | rfl)
    (case pgRef => first | k_is | rfl)
    (case hdRef => first | k_is | rfl)
    (case poRef => first | k_is | rfl)
    (case saRef => first | k_is | rfl)
    (case mkRef => first | k_is | rfl)
    (case kcRef => first | k_is | rfl)
    (case nRef0 => first | k_is | rfl)
    (case nRef1 => first | k_is | rfl)
    (case inSRef => first | k_is | rfl)
    (case iSRef => first | k_is | rfl)
    (case lSRef => first | k_is | rfl)
    (case cSRef => first | k_is | rfl)
    (case kSRef => first | k_is | rfl)
    (case aPut => first | k_is | rfl)
    (case inPut => first | k_is | rfl)
    (case iPut => first | k_is | rfl)
    (case lPut => first | k_is | rfl)
    (case cPut => first | k_is | rfl)
    (case kPut => first | k_is | rfl)
    (case pgPut => first | k_is | rfl)
    (case hdPut => first | k_is | rfl)
    (case poPut => first | k_is | rfl)
    (case saPut => first | k_is | rfl)
    (case mkPut => first | k_is | rfl)
    (case kcPut => first | k_is | rfl)
    (case nPut0 => first | k_is | rfl)
    (case nPut1 => first | k_is | rfl)
    (case inSPut => first | k_is | rfl)
    (case iSPut => first | k_is | rfl)
    (case lSPut => first | k_is | rfl)
    (case cSPut => first | k_is | rfl)
    (case kSPut => first | k_is | rfl)
    (case aOpen => first | k_is | rfl)
    (case inOpen => first | k_is | rfl)
    (case iOpen => first | k_is | rfl)
    (case lOpen => first | k_is | rfl)
    (case cOpen => first | k_is | rfl)
    (case kOpen => first | k_is | rfl)
    (case pgOpen => first | k_is | rfl)
    (case hdOpen => first | k_is | rfl)
    (case poOpen => first | k_is | rfl)
    (case saOpen => first | k_is | rfl)
    (case mkOpen => first | k_is | rfl)
    (case kcOpen => first | k_is | rfl)
    (case nOpen0 => first | k_is | rfl)
    (case nOpen1 => first | k_is | rfl)
    (case inSOpen => first | k_is | rfl)
    (case iSOpen => first | k_is | rfl)
    (case lSOpen => first | k_is | rfl)
    (case cSOpen => first | k_is | rfl)
    (case kSOpen => first | k_is | rfl)
    (case areadnumber => first | k_is | rfl)
    (case lreadnumber => first | k_is | rfl)
    (case creadnumber => first | k_is | rfl)
    (case kreadnumber => first | k_is | rfl)
    (case arowoftwo => first | k_is | rfl)
    (case lrowoftwo => first | k_is | rfl)
    (case crowoftwo => first | k_is | rfl)
    (case krowoftwo => first | k_is | rfl)
    (case arowofthree => first | k_is | rfl)
    (case lrowofthree => first | k_is | rfl)
    (case crowofthree => first | k_is | rfl)
    (case krowofthree => first | k_is | rfl)
    (case areadrow => first | k_is | rfl)
    (case lreadrow => first | k_is | rfl)
    (case creadrow => first | k_is | rfl)
    (case kreadrow => first | k_is | rfl)
    (case alawseed => first | k_is | rfl)
    (case llawseed => first | k_is | rfl)
    (case clawseed => first | k_is | rfl)
    (case klawseed => first | k_is | rfl)
    (case alawchoose => first | k_is | rfl)
    (case llawchoose => first | k_is | rfl)
    (case clawchoose => first | k_is | rfl)
    (case klawchoose => first | k_is | rfl)
    (case alawoneof => first | k_is | rfl)
    (case llawoneof => first | k_is | rfl)
    (case clawoneof => first | k_is | rfl)
    (case klawoneof => first | k_is | rfl)
    (case alawpools => first | k_is | rfl)
    (case llawpools => first | k_is | rfl)
    (case clawpools => first | k_is | rfl)
    (case klawpools => first | k_is | rfl)
    (case alawcounters => first | k_is | rfl)
    (case llawcounters => first | k_is | rfl)
    (case clawcounters => first | k_is | rfl)
    (case klawcounters => first | k_is | rfl)
    (case alawrow => first | k_is | rfl)
    (case llawrow => first | k_is | rfl)
    (case clawrow => first | k_is | rfl)
    (case klawrow => first | k_is | rfl)
    (case aRow => first | k_is | rfl)
    (case asamerow => first | k_is | rfl)
    (case lsamerow => first | k_is | rfl)
    (case csamerow => first | k_is | rfl)
    (case ksamerow => first | k_is | rfl)
    (case inQNote => first | k_is | rfl)
    (case iQNote => first | k_is | rfl)
    (case lQNote => first | k_is | rfl)
    (case cQNote => first | k_is | rfl)
    (case kQNote => first | k_is | rfl)
    (case inQSkip => first | k_is | rfl)
    (case iQSkip => first | k_is | rfl)
    (case lQSkip => first | k_is | rfl)
    (case cQSkip => first | k_is | rfl)
    (case kQSkip => first | k_is | rfl)
    (case inQSet => first | k_is | rfl)
    (case iQSet => first | k_is | rfl)
    (case lQSet => first | k_is | rfl)
    (case cQSet => first | k_is | rfl)
    (case kQSet => first | k_is | rfl)
    (case inQKeep => first | k_is | rfl)
    (case iQKeep => first | k_is | rfl)
    (case lQKeep => first | k_is | rfl)
    (case cQKeep => first | k_is | rfl)
    (case kQKeep => first | k_is | rfl)
    (case inQBack => first | k_is | rfl)
    (case iQBack => first | k_is | rfl)
    (case lQBack => first | k_is | rfl)
    (case cQBack => first | k_is | rfl)
    (case kQBack => first | k_is | rfl)
    (case inQRef => first | k_is | rfl)
    (case iQRef => first | k_is | rfl)
    (case lQRef => first | k_is | rfl)
    (case cQRef => first | k_is | rfl)
    (case kQRef => first | k_is | rfl)
    (case inQPut => first | k_is | rfl)
    (case iQPut => first | k_is | rfl)
    (case lQPut => first | k_is | rfl)
    (case cQPut => first | k_is | rfl)
    (case kQPut => first | k_is | rfl)
    (case inQOpen => first | k_is | rfl)
    (case iQOpen => first | k_is | rfl)
    (case lQOpen => first | k_is | rfl)
    (case cQOpen => first | k_is | rfl)
    (case kQOpen => first | k_is | rfl)
    (case alawrowtext => first | k_is | rfl)
    (case llawrowtext => first | k_is | rfl)
    (case clawrowtext => first | k_is | rfl)
    (case klawrowtext => first | k_is | rfl)
    (case alawmaderow => first | k_is | rfl)
    (case llawmaderow => first | k_is | rfl)
    (case clawmaderow => first | k_is | rfl)
    (case klawmaderow => first | k_is | rfl)
    (case alawkept => first | k_is | rfl)
    (case llawkept => first | k_is | rfl)
    (case clawkept => first | k_is | rfl)
    (case klawkept => first | k_is | rfl)
    (case alaw => first | k_is | rfl)
    (case llaw => first | k_is | rfl)
    (case claw => first | k_is | rfl)
    (case klaw => first | k_is | rfl)
    (case hsub => first | k_is | rfl)
    (case kSR => first | k_is | rfl)
    (case kRNote => first | k_is | rfl)
    (case nSNote => first | k_is | rfl)
    (case cANote => first | k_is | rfl)
    (case cMNote => first | k_is | rfl)
    (case neNote => first | k_is | rfl)
    (case nRNoteNote => first | k_is | rfl)
    (case nRNoteSkip => first | k_is | rfl)
    (case nRNoteSet => first | k_is | rfl)
    (case nRNoteKeep => first | k_is | rfl)
    (case nRNoteBack => first | k_is | rfl)
    (case nRNoteRef => first | k_is | rfl)
    (case nRNotePut => first | k_is | rfl)
    (case nRNoteOpen => first | k_is | rfl)
    (case kRSkip => first | k_is | rfl)
    (case nSSkip => first | k_is | rfl)
    (case cASkip => first | k_is | rfl)
    (case cMSkip => first | k_is | rfl)
    (case neSkip => first | k_is | rfl)
    (case nRSkipNote => first | k_is | rfl)
    (case nRSkipSkip => first | k_is | rfl)
    (case nRSkipSet => first | k_is | rfl)
    (case nRSkipKeep => first | k_is | rfl)
    (case nRSkipBack => first | k_is | rfl)
    (case nRSkipRef => first | k_is | rfl)
    (case nRSkipPut => first | k_is | rfl)
    (case nRSkipOpen => first | k_is | rfl)
    (case kRSet => first | k_is | rfl)
    (case nSSet => first | k_is | rfl)
    (case cASet => first | k_is | rfl)
    (case cMSet => first | k_is | rfl)
    (case neSet => first | k_is | rfl)
    (case nRSetNote => first | k_is | rfl)
    (case nRSetSkip => first | k_is | rfl)
    (case nRSetSet => first | k_is | rfl)
    (case nRSetKeep => first | k_is | rfl)
    (case nRSetBack => first | k_is | rfl)
    (case nRSetRef => first | k_is | rfl)
    (case nRSetPut => first | k_is | rfl)
    (case nRSetOpen => first | k_is | rfl)
    (case kRKeep => first | k_is | rfl)
    (case nSKeep => first | k_is | rfl)
    (case cAKeep => first | k_is | rfl)
    (case cMKeep => first | k_is | rfl)
    (case neKeep => first | k_is | rfl)
    (case nRKeepNote => first | k_is | rfl)
    (case nRKeepSkip => first | k_is | rfl)
    (case nRKeepSet => first | k_is | rfl)
    (case nRKeepKeep => first | k_is | rfl)
    (case nRKeepBack => first | k_is | rfl)
    (case nRKeepRef => first | k_is | rfl)
    (case nRKeepPut => first | k_is | rfl)
    (case nRKeepOpen => first | k_is | rfl)
    (case kRBack => first | k_is | rfl)
    (case nSBack => first | k_is | rfl)
    (case cABack => first | k_is | rfl)
    (case cMBack => first | k_is | rfl)
    (case neBack => first | k_is | rfl)
    (case nRBackNote => first | k_is | rfl)
    (case nRBackSkip => first | k_is | rfl)
    (case nRBackSet => first | k_is | rfl)
    (case nRBackKeep => first | k_is | rfl)
    (case nRBackBack => first | k_is | rfl)
    (case nRBackRef => first | k_is | rfl)
    (case nRBackPut => first | k_is | rfl)
    (case nRBackOpen => first | k_is | rfl)
    (case kRRef => first | k_is | rfl)
    (case nSRef => first | k_is | rfl)
    (case cARef => first | k_is | rfl)
    (case cMRef => first | k_is | rfl)
    (case neRef => first | k_is | rfl)
    (case nRRefNote => first | k_is | rfl)
    (case nRRefSkip => first | k_is | rfl)
    (case nRRefSet => first | k_is | rfl)
    (case nRRefKeep => first | k_is | rfl)
    (case nRRefBack => first | k_is | rfl)
    (case nRRefRef => first | k_is | rfl)
    (case nRRefPut => first | k_is | rfl)
    (case nRRefOpen => first | k_is | rfl)
    (case kRPut => first | k_is | rfl)
    (case nSPut => first | k_is | rfl)
    (case cAPut => first | k_is | rfl)
    (case cMPut => first | k_is | rfl)
    (case nePut => first | k_is | rfl)
    (case nRPutNote => first | k_is | rfl)
    (case nRPutSkip => first | k_is | rfl)
    (case nRPutSet => first | k_is | rfl)
    (case nRPutKeep => first | k_is | rfl)
    (case nRPutBack => first | k_is | rfl)
    (case nRPutRef => first | k_is | rfl)
    (case nRPutPut => first | k_is | rfl)
    (case nRPutOpen => first | k_is | rfl)
    (case kROpen => first | k_is | rfl)
    (case nSOpen => first | k_is | rfl)
    (case cAOpen => first | k_is | rfl)
    (case cMOpen => first | k_is | rfl)
    (case neOpen => first | k_is | rfl)
    (case nROpenNote => first | k_is | rfl)
    (case nROpenSkip => first | k_is | rfl)
    (case nROpenSet => first | k_is | rfl)
    (case nROpenKeep => first | k_is | rfl)
    (case nROpenBack => first | k_is | rfl)
    (case nROpenRef => first | k_is | rfl)
    (case nROpenPut => first | k_is | rfl)
    (case nROpenOpen => first | k_is | rfl)
    (case hnGet => first | k_is | rfl)
    (case htGet => first | k_is | rfl)
