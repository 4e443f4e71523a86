import PyProof.Rows.All
import Wide.All
import OpenK.AllK
import Wide.FinOn
import HandS.ForMost
import HandS.Wide
import HandS.Conv
import HandS.IsInst
import HandS.Walk
import HandS.Text
import HandS.Exc
import HandS.ExcInit
import HandS.ExcField
import HandS.ExcIs
import HandS.WordsExc
import HandS.TryOnly
import KE.KExcIs
import HandS.Defaults
import HandS.Flow
import PySem.Challenge.RW_partnotes_k03_rows_refused
set_option Elab.async false
set_option maxRecDepth 100000
set_option maxHeartbeats 4000000
namespace Pn
open PySem L2
/-! the text by places -/
def top (i : Nat) : Stmt := PySem.Challenge.pw_partnotes_k03_rows_refused.main.body.getD i (.Pass ⟨0, 0, 0, 0⟩)
/-- a def of the top: where it stands, what binds its arguments -/
structure At (K : PySem.W.Frag) (mg : Str → Option Value) (x : Str) (st : Stmt) (ps : List Str) : Type where
  f : Addr
  fd : FuncData
  F : Fun K x x st f fd
  b : Binds K fd ps []
  m : mg x = some (.ref f)
/-- all but what stands at b is as it was -/
def Kp (b : Addr) (H H' : Hp) : Prop := ∀ a o, H a = some o → a ≠ b → H' a = some o
theorem Kp.refl (b : Addr) (H : Hp) : Kp b H H := fun _ _ h _ => h
theorem Kp.trans {b : Addr} {H H1 H2 : Hp} (h : Kp b H H1) (g : Kp b H1 H2) : Kp b H H2 := fun a o e n => g a o (h a o e n) n
theorem Kp.new {b p : Addr} {H H1 : Hp} {o : HO} (h : Kp b H H1) (hp : H1 p = none) : Kp b H (upd H1 p o) := fun a u e n => by
  have z := h a u e n
  rw [upd_ne (ne_of_none z hp)]
  exact z
theorem Kp.box {b : Addr} {H H1 : Hp} {o : HO} (h : Kp b H H1) : Kp b H (upd H1 b o) := fun a u e n => by
  rw [upd_ne n]
  exact h a u e n
theorem Kp.sql {K : PySem.W.Frag} {b a : Addr} {xs : List V} {H H1 : Hp} (h : Kp b H H1) (n : a ≠ b) (s : SqL K H a xs) : SqL K H1 a xs := by
  rcases s with (s | ⟨o, s⟩) | s
  · exact .inl (.inl (h _ _ s n))
  · exact .inl (.inr ⟨o, h _ _ s n⟩)
  · exact .inr s
theorem Kp.sqt {K : PySem.W.Frag} {b a : Addr} {xs : List V} {H H1 : Hp} (h : Kp b H H1) (n : a ≠ b) (s : SqT K H a xs) : SqT K H1 a xs := by
  rcases s with (s | ⟨o, s⟩) | s
  · exact .inl (.inl (h _ _ s n))
  · exact .inl (.inr ⟨o, h _ _ s n⟩)
  · exact .inr s
theorem Kp.same {b : Addr} {H H1 : Hp} (h : Same H H1) : Kp b H H1 := fun a o e _ => h a o e
/-- the heap but for what stands at b -/
def hid (H : Hp) (b : Addr) : Hp := fun a => if a = b then none else H a
theorem hid_sub {H : Hp} {b : Addr} : Same (hid H b) H := fun a o e => by
  unfold hid at e
  by_cases h : a = b
  · rw [if_pos h] at e
    cases e
  · rw [if_neg h] at e
    exact e
theorem hid_kp {b : Addr} {H H1 : Hp} (h : Kp b H H1) : Same (hid H b) (hid H1 b) := fun a o e => by
  unfold hid at e ⊢
  by_cases n : a = b
  · rw [if_pos n] at e
    cases e
  · rw [if_neg n] at e ⊢
    exact h a o e n
theorem hid_get {b a : Addr} {H : Hp} {o : HO} (h : H a = some o) (n : a ≠ b) : hid H b a = some o := by
  unfold hid
  rw [if_neg n]
  exact h
theorem Same.sqt {K : PySem.W.Frag} {H H' : Hp} {a : Addr} {xs : List V} (e : Same H H') (h : SqT K H a xs) : SqT K H' a xs := by
  rcases h with (h | ⟨o, h⟩) | h
  · exact .inl (.inl (e _ _ h))
  · exact .inl (.inr ⟨o, e _ _ h⟩)
  · exact .inr h
theorem Same.new {H : Hp} {p : Addr} {o : HO} (h : H p = none) : Same H (upd H p o) := fun a u e => by
  rw [upd_ne (ne_of_none e h)]
  exact e
/-- what is new in H' -/
def dif (H H' : Hp) : Hp := fun a => match H a with
  | none => H' a
  | some _ => none
theorem dif_eq {H H' : Hp} {a : Addr} {o : HO} : dif H H' a = some o ↔ H a = none ∧ H' a = some o := by
  unfold dif
  cases h : H a with
  | none => exact ⟨fun e => ⟨rfl, e⟩, fun e => e.2⟩
  | some u => exact ⟨fun e => (nomatch (show (none : Option HO) = some o from e)), fun e => by cases e.1⟩
theorem dif_sub {H H' : Hp} : Same (dif H H') H' := fun _ _ e => (dif_eq.mp e).2
theorem dif_new {H H' : Hp} {a : Addr} {o : HO} (h : H a = none) (h' : H' a = some o) : dif H H' a = some o := dif_eq.mpr ⟨h, h'⟩
/-- what is tracked stays tracked -/
def Mo (H H' : Hp) : Prop := ∀ a, H' a = none → H a = none
theorem Mo.refl (H : Hp) : Mo H H := fun _ h => h
theorem Mo.trans {H H1 H2 : Hp} (h : Mo H H1) (g : Mo H1 H2) : Mo H H2 := fun a e => h a (g a e)
theorem Mo.upd {H : Hp} {p : Addr} {o : HO} : Mo H (upd H p o) := fun a e => by
  by_cases h : a = p
  · subst h
    rw [upd_same] at e
    cases e
  · rw [upd_ne h] at e
    exact e
theorem Kp.mo {b : Addr} {H H' : Hp} {o : HO} (h : Kp b H H') (hb : H' b = some o) : Mo H H' := fun a e => by
  cases q : H a with
  | none => rfl
  | some u =>
    have n : a ≠ b := fun z => by rw [z, hb] at e; cases e
    rw [h a u q n] at e
    cases e
/-- what was new stays: all of H1 but b, which stood in H -/
theorem dif_kp {b : Addr} {H H1 H2 : Hp} {o : HO} (hb : H b = some o) (k : Kp b H1 H2) : Same (dif H H1) (dif H H2) := fun a u e => by
  obtain ⟨e1, e2⟩ := dif_eq.mp e
  exact dif_new e1 (k a u e2 (fun z => by rw [z, hb] at e1; cases e1))
theorem dif_mo {H0 H H1 : Hp} (m : Mo H0 H) : Same (dif H H1) (dif H0 H1) := fun a u e => by
  obtain ⟨e1, e2⟩ := dif_eq.mp e
  exact dif_new (m a e1) e2
mutual
theorem dp_same {K : PySem.W.Frag} {H H' : Hp} (e : Same H H') : ∀ (d : PyData) (v : V), Dp K H v d → Dp K H' v d
  | .none, _, h => by cases h; exact .non
  | .bool _, _, h => by cases h; exact .bl _
  | .int _, _, h => by cases h; exact .int _
  | .str _, _, h => by cases h; exact .str _
  | .list ds, _, h => by
    cases h with
    | lst s a => exact .lst (e.seq s) (dpAll_same e ds _ a)
  | .tuple ds, _, h => by
    cases h with
    | tup s a => exact .tup (Same.sqt e s) (dpAll_same e ds _ a)
  | .dict _, _, h => by cases h
theorem dpAll_same {K : PySem.W.Frag} {H H' : Hp} (e : Same H H') : ∀ (ds : List PyData) (vs : List V), DpAll K H vs ds → DpAll K H' vs ds
  | [], _, h => by cases h; exact .nil
  | d :: ds, _, h => by
    cases h with
    | cons a b => exact .cons (dp_same e d _ a) (dpAll_same e ds _ b)
end
theorem dpAll_append {K : PySem.W.Frag} {H : Hp} : ∀ {vs : List V} {ds : List PyData} {ws : List V} {es : List PyData}, DpAll K H vs ds → DpAll K H ws es → DpAll K H (vs ++ ws) (ds ++ es)
  | _, _, _, _, .nil, g => g
  | _, _, _, _, .cons a b, g => .cons a (dpAll_append b g)
end Pn

namespace Pn
open PySem L2
/-! ### one statement, with what it comes to -/
theorem joinOn {t : TE} {σ : L2.St} {H : Hp} {Q : VK} (C : V → Hp → Prop) (h1 : ∀ Q' : VK, (∀ v H', C v H' → Q' v H') → t σ H Q') (h2 : ∀ v H', C v H' → Q v H') : t σ H Q := h1 Q h2
/-- x = e, where what e comes to is said by C -/
theorem stepSet {te : TE} {i : Nat} {B : TS} {D : Ends} {σ : L2.St} {H : Hp} (C : V → Hp → Prop) (h1 : ∀ Q' : VK, (∀ v H', C v H' → Q' v H') → te σ H Q') (h2 : ∀ v H', C v H' → B D (σ.set i (some v)) H') : tSeq (tAsg te (gName i)) B D σ H := h1 _ h2
theorem stepDrop {te : TE} {B : TS} {D : Ends} {σ : L2.St} {H : Hp} (C : Hp → Prop) (h1 : ∀ Q' : VK, (∀ v H', C H' → Q' v H') → te σ H Q') (h2 : ∀ H', C H' → B D σ H') : tSeq (tDrop te) B D σ H := h1 (fun _ H1 => B D σ H1) fun _ H' c => h2 H' c
theorem stepIfF {tt : TT} {A C : TS} {D : Ends} {σ : L2.St} {H : Hp} (h1 : ∀ Q : Bool → Hp → Prop, Q false H → tt σ H Q) (h2 : C D σ H) : tSeq (tIfS tt A tNext) C D σ H := h1 _ (by rw [if_neg Bool.false_ne_true]; exact h2)
theorem stepNo {tt : TT} {A C : TS} {D : Ends} {σ : L2.St} {H : Hp} (G : Hp → Prop) (h1 : ∀ Q : Bool → Hp → Prop, (∀ H', G H' → Q false H') → tt σ H Q) (h2 : ∀ H', G H' → C D σ H') : tSeq (tIfS tt A tNext) C D σ H := h1 _ fun H' g => by
  rw [if_neg Bool.false_ne_true]
  exact h2 H' g
theorem stepYes {tt : TT} {A B C : TS} {D : Ends} {σ : L2.St} {H : Hp} (G : Hp → Prop) (h1 : ∀ Q : Bool → Hp → Prop, (∀ H', G H' → Q true H') → tt σ H Q) (h2 : ∀ H', G H' → A { D with nx := C D } σ H') : tSeq (tIfS tt A B) C D σ H := h1 _ fun H' g => by
  rw [if_pos rfl]
  exact h2 H' g
theorem Same.mo {H H' : Hp} (s : Same H H') : Mo H H' := fun _ e => s.free e
end Pn

namespace Pn
open PySem L2
abbrev sSeed : Stmt := top 23
abbrev sChoose : Stmt := top 24
abbrev sOne : Stmt := top 25

/-- the two ints of a box of draws -/
def Bx (x y : Int) : Prop := 0 ≤ x ∧ 1 ≤ y ∧ y ≤ 2147483629
def spChoose : Sp := fun vs H Q _ => ∃ (b : Addr) (x y m : Int), vs = [.ref b, .int m] ∧ H b = some (.lst [.int x, .int y]) ∧ Bx x y ∧ 0 < m ∧ m < 1000000 ∧
  ∀ r x' y', 0 ≤ r → r < m → Bx x' y' → Q (.int r) (upd H b (.lst [.int x', .int y']))
section
variable {P : Program} {w : World} {K : PySem.W.Frag} {mg : Str → Option Value} {base : Heap}
theorem scChoose : FnScope ["_law_box", "_law_many", "_law_digit", "_law_raw"] ["_law_box", "_law_many"] (defScope sChoose) := ⟨rfl, rfl, rfl, by decide +kernel, rfl, by decide +kernel, by decide +kernel⟩
theorem ok_choose {f : Addr} {fd : FuncData} (F : Fun K "_law_choose" "_law_choose" sChoose f fd) (mI : mg "int" = none) : FnOk P w K mg base CX0 1 f fd ["_law_box", "_law_many"] spChoose := by
  refine F.ok scChoose (fun vs H Q E h => ?_) (fun cdv A outer s H vs Q E hr h => ?_)
  · obtain ⟨b, x, y, m, rfl, _⟩ := h
    rfl
  · obtain ⟨b, x, y, m, rfl, hb, ⟨hx, hy, hz⟩, h0, h1, k⟩ := h
    refine ⟨_, pss_cons (ps_if (pt_cmpR op_gt (pe_ix ix_list (pv 0) pe_int (fun _ _ => rfl)) pe_int (nomark _))
        (pss_cons (ps_set (i := 2) scChoose.nd rfl (Or.inl rfl) (pe_op op_mod (pe_callTy call_int1 (by rfl) mI (by decide +kernel) (pa_cons (pe_ix ix_list (pv 0) pe_int (fun _ _ => rfl)) pa_nil)) (pv 1)))
        (pss_cons (ps_asg (pe_op op_fdivW (pe_ix ix_list (pv 0) pe_int (fun _ _ => rfl)) (pv 1)) (pg_sub (pv 0) pe_int set_list))
        (pss_one (ps_ret (pv 2))))) pss_nil)
      (pss_cons (ps_set (i := 3) scChoose.nd rfl (Or.inl rfl) (pe_op op_mod (pe_callTy call_int1 (by rfl) mI (by decide +kernel) (pa_cons (pe_op op_add (pe_op op_mul (pe_ix ix_list (pv 0) pe_int (fun _ _ => rfl)) pe_int) pe_int) pa_nil)) pe_int))
      (pss_cons (ps_asg (pe_op op_add (pe_op op_mod (pe_callTy call_int1 (by rfl) mI (by decide +kernel) (pa_cons (pe_op op_add (pe_op op_mul (pv 3) pe_int) pe_int) pa_nil)) pe_int) pe_int) (pg_sub (pv 0) pe_int set_list))
      (pss_one (ps_ret (pe_op op_mod (pe_callTy call_int1 (by rfl) mI (by decide +kernel) (pa_cons (pe_op op_fdiv (pe_op op_add (pe_op op_mul (pv 3) pe_int) (pe_ix ix_list (pv 0) pe_int (fun _ _ => rfl))) pe_int) pa_nil)) (pv 1)))))), ?_⟩
    refine ⟨_, rfl, _, _, _, _, rfl, rfl, SqL.of hb, rfl, _, _, rfl, rfl, _, rfl, ?_⟩
    refine ite2 (fun hc => ?_) (fun hc => ?_)
    · refine ⟨_, rfl, _, _, _, _, rfl, rfl, SqL.of hb, rfl, .inl ⟨_, rfl, _, rfl, _, _, rfl, rfl, h0, ?_⟩⟩
      refine ⟨_, rfl, _, _, _, _, rfl, rfl, SqL.of hb, rfl, _, rfl, _, _, rfl, rfl, wide_div (b := 20) h0 (by omega) (by decide) (by decide), ?_⟩
      refine ⟨_, rfl, _, _, _, _, rfl, rfl, hb, rfl, ?_⟩
      refine ⟨_, rfl, ?_⟩
      exact k _ _ _ (Int.emod_nonneg _ (by omega)) (Int.emod_lt_of_pos _ h0) ⟨Int.ediv_nonneg hx (by omega), hy, hz⟩
    · refine ⟨_, rfl, _, _, _, _, rfl, rfl, SqL.of hb, rfl, _, _, rfl, rfl, .inl ⟨by omega, by omega⟩, _, _, rfl, rfl, .inl ⟨_, rfl, _, _, rfl, rfl, (by show (0 : Int) < 2147483563; decide), ?_⟩⟩
      have hr1 : 0 ≤ (y * 40014 + 61) % 2147483563 ∧ (y * 40014 + 61) % 2147483563 < 2147483563 := ⟨by omega, by omega⟩
      refine ⟨_, rfl, _, _, rfl, rfl, .inl ⟨by show _ < (y * 40014 + 61) % 2147483563; omega, by show (y * 40014 + 61) % 2147483563 < _; omega⟩, _, _, rfl, rfl, .inl ⟨_, rfl, _, _, rfl, rfl, (by show (0 : Int) < 2147483629; decide), _, _, rfl, rfl, ?_⟩⟩
      refine ⟨_, rfl, _, _, _, _, rfl, rfl, hb, rfl, ?_⟩
      have hr2 : 0 ≤ ((y * 40014 + 61) % 2147483563 * 40692 + 4409) % 2147483629 ∧ ((y * 40014 + 61) % 2147483563 * 40692 + 4409) % 2147483629 < 2147483629 := ⟨by omega, by omega⟩
      refine ⟨_, rfl, _, _, rfl, rfl, .inl ⟨by show _ < (y * 40014 + 61) % 2147483563; omega, by show (y * 40014 + 61) % 2147483563 < _; omega⟩, _, rfl, _, _, _, _, rfl, rfl, SqL.of upd_same, rfl, _, _, rfl, rfl, _, _, rfl, rfl, ⟨by decide, by decide⟩, .inl ⟨_, rfl, _, rfl, _, _, rfl, rfl, h0, ?_⟩⟩
      exact k _ _ _ (Int.emod_nonneg _ (by omega)) (Int.emod_lt_of_pos _ h0) ⟨hx, by omega, by omega⟩
/-- the box for a round -/
def spSeed (K : PySem.W.Frag) : Sp := fun vs H Q _ => ∃ (a : Addr) (ns : List Int) (k : Nat), vs = [.ref a, .int k] ∧ SqL K H a (ns.map V.int) ∧ k ≤ 100 ∧
  ∀ (p : Addr) (x y : Int), H p = none → Bx x y → Q (.ref p) (upd H p (.lst [.int x, .int y]))
theorem scSeed : FnScope ["_law_script", "_law_k", "_law_cell"] ["_law_script", "_law_k"] (defScope sSeed) := ⟨rfl, rfl, rfl, by decide +kernel, rfl, by decide +kernel, by decide +kernel⟩
theorem ok_seed {f : Addr} {fd : FuncData} (F : Fun K "_law_seed" "_law_seed" sSeed f fd) (mI : mg "int" = none) (mL : mg "len" = none) (mA : mg "abs" = none) : FnOk P w K mg base CX0 1 f fd ["_law_script", "_law_k"] (spSeed K) := by
  refine F.ok scSeed (fun vs H Q E h => ?_) (fun cdv A outer s H vs Q E hr h => ?_)
  · obtain ⟨a, ns, k, rfl, _⟩ := h
    rfl
  · obtain ⟨a, ns, k, rfl, hS, hk, q⟩ := h
    refine ⟨_, pss_cons (ps_set (i := 2) scSeed.nd rfl (Or.inl rfl) (pe_op op_add (pe_op op_mul pe_int (pv 1)) pe_int))
      (pss_cons (ps_if (pt_cmpR op_lt (pv 1) (pe_callB call_len_seq (by rfl) mL PySem.boot_len (pa_cons (pv 0) pa_nil)) (nomark _))
          (pss_one (ps_set (i := 2) scSeed.nd rfl (Or.inl rfl) (pe_callB call_abs (by rfl) mA (by decide +kernel) (pa_cons (pe_ix ix_list (pv 0) (pv 1) (fun _ _ => rfl)) pa_nil))))
          (pss_one (ps_if (pt_cmpR op_gt (pe_callB call_len_seq (by rfl) mL PySem.boot_len (pa_cons (pv 0) pa_nil)) pe_int (nomark _))
            (pss_one (ps_set (i := 2) scSeed.nd rfl (Or.inl rfl) (pe_op op_add (pv 2) (pe_op op_mul (pe_op op_mod (pe_callTy call_int1 (by rfl) mI (by decide +kernel) (pa_cons (pe_callB call_abs (by rfl) mA (by decide +kernel) (pa_cons (pe_ix ix_list (pv 0) (pe_op op_mod (pe_callTy call_int1 (by rfl) mI (by decide +kernel) (pa_cons (pv 1) pa_nil)) (pe_callB call_len_seq (by rfl) mL PySem.boot_len (pa_cons (pv 0) pa_nil))) (fun _ _ => rfl)) pa_nil)) pa_nil)) pe_int) pe_int))))
            pss_nil)))
      (pss_one (ps_ret (pe_lst (pa_cons (pe_ifExp (pt_cmpR op_ge (pv 2) (pe_op op_pow pe_int pe_int) (nomark _)) (pv 2) pe_int)
        (pa_cons (pe_op op_add (pe_op op_mod (pe_callTy call_int1 (by rfl) mI (by decide +kernel) (pa_cons (pe_op op_add (pe_op op_mul (pe_op op_mod (pe_callTy call_int1 (by rfl) mI (by decide +kernel) (pa_cons (pv 2) pa_nil)) pe_int) pe_int) (pe_op op_mul pe_int (pv 1))) pa_nil)) pe_int) pe_int) pa_nil)))))), ?_⟩
    have hlen : ((ns.map V.int).length : Int) = (ns.length : Int) := by rw [List.length_map]
    have hz : ∀ z : Int, 1 ≤ z % 2147483629 + 1 ∧ z % 2147483629 + 1 ≤ 2147483629 := fun z => ⟨by omega, by omega⟩
    have at_ : ∀ j : Nat, (hj : j < ns.length) → (ns.map V.int)[j]? = some (.int ns[j]) := fun j hj => by
      rw [List.getElem?_map, List.getElem?_eq_getElem hj]
      rfl
    refine ⟨_, rfl, _, _, rfl, rfl, .inl ⟨by decide, by decide⟩, _, _, rfl, rfl, ?_⟩
    refine ⟨_, rfl, _, rfl, _, _, rfl, .inl hS, _, _, rfl, rfl, _, rfl, ?_⟩
    refine ite2 (fun hc => ?_) (fun hc => ?_)
    · have hc1 := of_decide_eq_true hc
      rw [hlen] at hc1
      have hk2 : k < ns.length := by omega
      refine ⟨_, rfl, _, rfl, _, _, _, _, rfl, rfl, hS, atI_nat (at_ k hk2), _, rfl, ?_⟩
      have c0 : 0 ≤ (if ns[k] < 0 then -ns[k] else ns[k]) := by split <;> omega
      generalize (if ns[k] < 0 then -ns[k] else ns[k]) = c at c0 ⊢
      refine ⟨_, rfl, _, _, rfl, rfl, ⟨by decide, by decide, by decide⟩, _, _, rfl, rfl, _, rfl, ?_⟩
      refine ite2 (fun hg => ?_) (fun hg => ?_)
      · refine ⟨_, rfl, ?_⟩
        refine ⟨_, rfl, .inl ⟨_, rfl, _, _, rfl, rfl, (by show (0 : Int) < 2147483629; decide), _, _, rfl, rfl, .inr ⟨by decide, by decide⟩, _, rfl, _, _, rfl, rfl, .inl ⟨by decide, by decide⟩, _, _, rfl, rfl, .inl ⟨_, rfl, _, _, rfl, rfl, (by show (0 : Int) < 2147483629; decide), _, _, rfl, rfl, (by show 2 ≤ sizeLine; decide), fun l hl => ?_⟩⟩⟩
        exact q l _ _ hl ⟨c0, (hz _).1, (hz _).2⟩
      · refine ⟨_, rfl, .inl ⟨_, rfl, _, _, rfl, rfl, (by show (0 : Int) < 2147483629; decide), _, _, rfl, rfl, .inr ⟨by decide, by decide⟩, _, rfl, _, _, rfl, rfl, .inl ⟨by decide, by decide⟩, _, _, rfl, rfl, .inl ⟨_, rfl, _, _, rfl, rfl, (by show (0 : Int) < 2147483629; decide), _, _, rfl, rfl, (by show 2 ≤ sizeLine; decide), fun l hl => ?_⟩⟩⟩
        exact q l _ _ hl ⟨by decide, (hz _).1, (hz _).2⟩
    · refine ⟨_, rfl, _, _, rfl, .inl hS, _, _, rfl, rfl, _, rfl, ?_⟩
      refine ite2 (fun hc2 => ?_) (fun hc2 => ?_)
      · have hc3 := of_decide_eq_true hc2
        rw [hlen] at hc3
        have hm : (k : Int) % ((ns.map V.int).length : Int) = ((k % ns.length : Nat) : Int) := by rw [hlen]; rfl
        have hk3 : k % ns.length < ns.length := Nat.mod_lt _ (by omega)
        refine ⟨_, rfl, _, rfl, _, rfl, .inl ⟨_, rfl, _, rfl, _, _, rfl, .inl hS, _, _, rfl, rfl, (by rw [hlen]; exact hc3), _, _, _, _, rfl, rfl, hS, (by show atI _ ((k : Int) % ((ns.map V.int).length : Int)) = _; rw [hm]; exact atI_nat (at_ _ hk3)), _, rfl, .inl ⟨_, rfl, _, _, rfl, rfl, (by show (0 : Int) < 2147483629; decide), _, _, rfl, rfl, .inr ⟨by decide, by decide⟩, _, _, rfl, rfl, ?_⟩⟩⟩
        have c0 : 0 ≤ 7177 * (k : Int) + 89 + (if ns[k % ns.length] < 0 then -ns[k % ns.length] else ns[k % ns.length]) % 2147483629 * 40093 := by omega
        refine ⟨_, rfl, _, _, rfl, rfl, ⟨by decide, by decide, by decide⟩, _, _, rfl, rfl, _, rfl, ?_⟩
        refine ite2 (fun hg => ?_) (fun hg => ?_)
        · refine ⟨_, rfl, ?_⟩
          refine ⟨_, rfl, .inl ⟨_, rfl, _, _, rfl, rfl, (by show (0 : Int) < 2147483629; decide), _, _, rfl, rfl, .inr ⟨by decide, by decide⟩, _, rfl, _, _, rfl, rfl, .inl ⟨by decide, by decide⟩, _, _, rfl, rfl, .inl ⟨_, rfl, _, _, rfl, rfl, (by show (0 : Int) < 2147483629; decide), _, _, rfl, rfl, (by show 2 ≤ sizeLine; decide), fun l hl => ?_⟩⟩⟩
          exact q l _ _ hl ⟨c0, (hz _).1, (hz _).2⟩
        · refine ⟨_, rfl, .inl ⟨_, rfl, _, _, rfl, rfl, (by show (0 : Int) < 2147483629; decide), _, _, rfl, rfl, .inr ⟨by decide, by decide⟩, _, rfl, _, _, rfl, rfl, .inl ⟨by decide, by decide⟩, _, _, rfl, rfl, .inl ⟨_, rfl, _, _, rfl, rfl, (by show (0 : Int) < 2147483629; decide), _, _, rfl, rfl, (by show 2 ≤ sizeLine; decide), fun l hl => ?_⟩⟩⟩
          exact q l _ _ hl ⟨by decide, (hz _).1, (hz _).2⟩
      · have c0 : 0 ≤ 7177 * (k : Int) + 89 := by omega
        refine ⟨_, rfl, _, _, rfl, rfl, ⟨by decide, by decide, by decide⟩, _, _, rfl, rfl, _, rfl, ?_⟩
        refine ite2 (fun hg => ?_) (fun hg => ?_)
        · refine ⟨_, rfl, ?_⟩
          refine ⟨_, rfl, .inl ⟨_, rfl, _, _, rfl, rfl, (by show (0 : Int) < 2147483629; decide), _, _, rfl, rfl, .inr ⟨by decide, by decide⟩, _, rfl, _, _, rfl, rfl, .inl ⟨by decide, by decide⟩, _, _, rfl, rfl, .inl ⟨_, rfl, _, _, rfl, rfl, (by show (0 : Int) < 2147483629; decide), _, _, rfl, rfl, (by show 2 ≤ sizeLine; decide), fun l hl => ?_⟩⟩⟩
          exact q l _ _ hl ⟨c0, (hz _).1, (hz _).2⟩
        · refine ⟨_, rfl, .inl ⟨_, rfl, _, _, rfl, rfl, (by show (0 : Int) < 2147483629; decide), _, _, rfl, rfl, .inr ⟨by decide, by decide⟩, _, rfl, _, _, rfl, rfl, .inl ⟨by decide, by decide⟩, _, _, rfl, rfl, .inl ⟨_, rfl, _, _, rfl, rfl, (by show (0 : Int) < 2147483629; decide), _, _, rfl, rfl, (by show 2 ≤ sizeLine; decide), fun l hl => ?_⟩⟩⟩
          exact q l _ _ hl ⟨by decide, (hz _).1, (hz _).2⟩
/-- what a box is, by its place -/
def BoxAt (H : Hp) (b : Addr) : Prop := ∃ x y : Int, Bx x y ∧ H b = some (.lst [.int x, .int y])
theorem sql_upd {H : Hp} {a b : Addr} {o : HO} {xs : List V} (h : SqL K H a xs) (hne : a ≠ b) : SqL K (upd H b o) a xs := by
  rcases h with (h | ⟨u, h⟩) | h
  · exact .inl (.inl (by rw [upd_ne hne]; exact h))
  · exact .inl (.inr ⟨u, by rw [upd_ne hne]; exact h⟩)
  · exact .inr h
theorem sqt_upd {H : Hp} {a b : Addr} {o : HO} {xs : List V} (h : SqT K H a xs) (hne : a ≠ b) : SqT K (upd H b o) a xs := by
  rcases h with (h | ⟨u, h⟩) | h
  · exact .inl (.inl (by rw [upd_ne hne]; exact h))
  · exact .inl (.inr ⟨u, by rw [upd_ne hne]; exact h⟩)
  · exact .inr h
/-- one of several things -/
def spOne (K : PySem.W.Frag) : Sp := fun vs H Q _ => ∃ (b a : Addr) (x y : Int) (xs : List V), vs = [.ref b, .ref a] ∧ H b = some (.lst [.int x, .int y]) ∧ Bx x y ∧ SqL K H a xs ∧ a ≠ b ∧ 0 < xs.length ∧ xs.length < 1000000 ∧
  ∀ (i : Nat) (x' y' : Int) (hi : i < xs.length), Bx x' y' → Q xs[i] (upd H b (.lst [.int x', .int y']))
theorem scOne : FnScope ["_law_box", "_law_some"] ["_law_box", "_law_some"] (defScope sOne) := ⟨rfl, rfl, rfl, by decide +kernel, rfl, by decide +kernel, by decide +kernel⟩
theorem ok_one {f fC : Addr} {fd fdC : FuncData} (F : Fun K "_law_one_of" "_law_one_of" sOne f fd) (mL : mg "len" = none) (mC : mg "_law_choose" = some (.ref fC)) (FC : Fun K "_law_choose" "_law_choose" sChoose fC fdC) (bC : Binds K fdC ["_law_box", "_law_many"] [])
    (mI : mg "int" = none) : FnOk P w K mg base CX0 2 f fd ["_law_box", "_law_some"] (spOne K) := by
  refine F.ok scOne (fun vs H Q E h => ?_) (fun cdv A outer s H vs Q E hr h => ?_)
  · obtain ⟨b, a, x, y, xs, rfl, _⟩ := h
    rfl
  · obtain ⟨b, a, x, y, xs, rfl, hb, hB, hS, hne, h0, h1, q⟩ := h
    refine ⟨_, pss_one (ps_ret (pe_ix ix_list (pv 1) (pe_call (ok_choose FC mI) hr rfl mC FC.kp bC .nil pass0 (pa_cons (pv 0) (pa_cons (pe_callB call_len_seq (by rfl) mL PySem.boot_len (pa_cons (pv 1) pa_nil)) pa_nil))) (fun _ _ => rfl))), ?_⟩
    refine ⟨_, rfl, _, rfl, _, rfl, _, _, rfl, .inl hS, ?_⟩
    refine ⟨b, x, y, _, rfl, hb, hB, by omega, by omega, fun r x' y' r0 r1 hB' => ?_⟩
    obtain ⟨i, rfl⟩ : ∃ i : Nat, r = (i : Int) := ⟨r.toNat, by omega⟩
    have hi : i < xs.length := by omega
    exact ⟨_, _, _, _, rfl, rfl, sql_upd hS hne, atI_nat (List.getElem?_eq_getElem hi), q i x' y' hi hB'⟩
/-- the facts of the draws' defs -/
structure TDraw (K : PySem.W.Frag) (mg : Str → Option Value) : Type where
  mI : mg "int" = none
  mL : mg "len" = none
  mA : mg "abs" = none
  seed : At K mg "_law_seed" sSeed ["_law_script", "_law_k"]
  choose : At K mg "_law_choose" sChoose ["_law_box", "_law_many"]
  one : At K mg "_law_one_of" sOne ["_law_box", "_law_some"]
theorem TDraw.okSeed (T : TDraw K mg) : FnOk P w K mg base CX0 1 T.seed.f T.seed.fd ["_law_script", "_law_k"] (spSeed K) := ok_seed T.seed.F T.mI T.mL T.mA
/-- the same, of a box by its place -/
def spChooseB : Sp := fun vs H Q _ => ∃ (b : Addr) (m : Int), vs = [.ref b, .int m] ∧ BoxAt H b ∧ 0 < m ∧ m < 1000000 ∧ ∀ (r : Int) (H' : Hp), 0 ≤ r → r < m → BoxAt H' b → Kp b H H' → (∀ a, H a = none → H' a = none) → Q (.int r) H'
theorem TDraw.okChoose (T : TDraw K mg) : FnOk P w K mg base CX0 1 T.choose.f T.choose.fd ["_law_box", "_law_many"] spChooseB :=
  (ok_choose T.choose.F T.mI).imp fun vs H Q E h => by
    obtain ⟨b, m, rfl, ⟨x, y, hB, hb⟩, h0, h1, k⟩ := h
    refine ⟨b, x, y, m, rfl, hb, hB, h0, h1, fun r x' y' r0 r1 hB' => k r _ r0 r1 ⟨x', y', hB', upd_same⟩ (Kp.refl b H).box fun a ha => ?_⟩
    rw [upd_ne (fun z => by rw [z, hb] at ha; cases ha)]
    exact ha
def spOneB (K : PySem.W.Frag) : Sp := fun vs H Q _ => ∃ (b a : Addr) (xs : List V), vs = [.ref b, .ref a] ∧ BoxAt H b ∧ SqL K H a xs ∧ a ≠ b ∧ 0 < xs.length ∧ xs.length < 1000000 ∧
  ∀ (v : V) (H' : Hp), v ∈ xs → BoxAt H' b → Kp b H H' → (∀ a, H a = none → H' a = none) → Q v H'
theorem TDraw.okOne (T : TDraw K mg) : FnOk P w K mg base CX0 2 T.one.f T.one.fd ["_law_box", "_law_some"] (spOneB K) :=
  (ok_one T.one.F T.mL T.choose.m T.choose.F T.choose.b T.mI).imp fun vs H Q E h => by
    obtain ⟨b, a, xs, rfl, ⟨x, y, hB, hb⟩, hS, ne, h0, h1, k⟩ := h
    refine ⟨b, a, x, y, xs, rfl, hb, hB, hS, ne, h0, h1, fun i x' y' hi hB' => k _ _ (List.getElem_mem hi) ⟨x', y', hB', upd_same⟩ (Kp.refl b H).box fun a ha => ?_⟩
    rw [upd_ne (fun z => by rw [z, hb] at ha; cases ha)]
    exact ha
end
end Pn

namespace Pn
open PySem L2
abbrev sLeaf : Stmt := top 27
abbrev sAny : Stmt := top 28
/-! ### drawn values: what they are as data -/
/-- the data of a value that is no object -/
def pd : V → Option PyData
  | .non => some .none
  | .bl b => some (.bool b)
  | .int i => some (.int i)
  | .str x => some (.str x)
  | _ => none
theorem pd_dp {K : PySem.W.Frag} {H : Hp} : ∀ {v : V} {d : PyData}, pd v = some d → Dp K H v d
  | .non, _, h => by cases h; exact .non
  | .bl _, _, h => by cases h; exact .bl _
  | .int _, _, h => by cases h; exact .int _
  | .str _, _, h => by cases h; exact .str _
  | .ref _, _, h => by cases h
  | .byt _, _, h => by cases h
  | .flt _, _, h => by cases h
  | .ty _, _, h => by cases h
/-- the values that are no sequences -/
def leafV : List V := [.non, .bl true, .bl false, .int 0, .int 1, .int (-1), .int 5, .int 1000000000000, .str "", .str "a", .str "note", .str "set", .str "part", .str "cat", .str "abcd", .str "abcde", .str "A", .str "a b", .str "a1", .str " a", .str "one", .str "under"]
def leafD : List PyData := leafV.filterMap pd
theorem leaf_pd : ∀ v ∈ leafV, ∃ d, pd v = some d ∧ d ∈ leafD := fun v hv => by
  have h : ∀ u ∈ leafV, (pd u).isSome = true := List.all_eq_true.mp (by decide +kernel)
  obtain ⟨d, e⟩ := Option.isSome_iff_exists.mp (h v hv)
  exact ⟨d, e, List.mem_filterMap.mpr ⟨v, hv, e⟩⟩
/-- data nested at most n deep over these -/
def Dt : Nat → PyData → Prop
  | 0, d => d ∈ leafD
  | n + 1, d => d ∈ leafD ∨ ∃ ds : List PyData, ds.length ≤ 2 ∧ (∀ e ∈ ds, Dt n e) ∧ (d = .list ds ∨ d = .tuple ds)
theorem Dt.leaf {n : Nat} {d : PyData} (h : d ∈ leafD) : Dt n d := by
  cases n with
  | zero => exact h
  | succ n => exact .inl h
theorem Dt.up {d : PyData} : ∀ {n m : Nat}, n ≤ m → Dt n d → Dt m d
  | 0, _, _, h => Dt.leaf h
  | n + 1, 0, l, _ => absurd l (by omega)
  | n + 1, m + 1, l, h => by
    rcases h with h | ⟨ds, h1, h2, h3⟩
    · exact .inl h
    · exact .inr ⟨ds, h1, fun e he => Dt.up (Nat.le_of_succ_le_succ l) (h2 e he), h3⟩
section
variable {P : Program} {w : World} {K : PySem.W.Frag} {mg : Str → Option Value} {base : Heap}
def spLeaf : Sp := fun vs H Q _ => ∃ b : Addr, vs = [.ref b] ∧ BoxAt H b ∧ ∀ (v : V) (d : PyData) (H' : Hp), pd v = some d → d ∈ leafD → BoxAt H' b → Kp b H H' → Q v H'
theorem scLeaf : FnScope ["_law_box", "_law_some"] ["_law_box"] (defScope sLeaf) := ⟨rfl, rfl, rfl, by decide +kernel, rfl, by decide +kernel, by decide +kernel⟩
theorem ok_leaf {f : Addr} {fd : FuncData} (F : Fun K "_law_leaf" "_law_leaf" sLeaf f fd) (T : TDraw K mg) : FnOk P w K mg base CX0 3 f fd ["_law_box"] spLeaf := by
  refine F.ok scLeaf (fun vs H Q E h => ?_) (fun cdv A outer s H vs Q E hr h => ?_)
  · obtain ⟨b, rfl, _⟩ := h
    rfl
  · obtain ⟨b, rfl, ⟨x, y, hB, hb⟩, k⟩ := h
    refine ⟨_, pss_cons (ps_set (i := 1) scLeaf.nd rfl (Or.inl rfl) (pe_lst (pa_cons pe_non (pa_cons pe_bl (pa_cons pe_bl (pa_cons pe_int (pa_cons pe_int (pa_cons (pe_op op_sub pe_int pe_int) (pa_cons pe_int (pa_cons (pe_op op_pow pe_int pe_int)
        (pa_cons pe_str (pa_cons pe_str (pa_cons pe_str (pa_cons pe_str (pa_cons pe_str (pa_cons pe_str (pa_cons pe_str (pa_cons pe_str (pa_cons pe_str pa_nil)))))))))))))))))))
      (pss_one (ps_ret (pe_call T.okOne hr rfl T.one.m T.one.F.kp T.one.b .nil pass0 (pa_cons (pv 0) (pa_cons (pe_op op_cat (pv 1) (pe_lst (pa_cons pe_str (pa_cons pe_str (pa_cons pe_str (pa_cons pe_str (pa_cons pe_str pa_nil))))))) pa_nil))))), ?_⟩
    refine ⟨_, _, rfl, rfl, _, _, rfl, rfl, ⟨by decide, by decide, by decide⟩, (by show 17 ≤ sizeLine; decide), fun l hl => ?_⟩
    refine ⟨_, rfl, _, rfl, (by show 5 ≤ sizeLine; decide), fun m hm => ?_⟩
    refine ⟨l, m, _, _, rfl, rfl, Same.new hm l _ upd_same, upd_same, (by show 22 ≤ sizeLine; decide), fun p hp => ?_⟩
    have hb2 := fun o => Same.new (o := o) hm b _ (Same.new hl b _ hb)
    have hbp : b ≠ p := ne_of_none (hb2 _) hp
    refine ⟨b, p, _, rfl, ⟨x, y, hB, Same.new hp b _ (hb2 _)⟩, SqL.of upd_same, hbp.symm, (by show 0 < 22; decide), (by show 22 < 1000000; decide), fun v H' hv hB' hk _ => ?_⟩
    obtain ⟨d, hd, hd2⟩ := leaf_pd v hv
    exact k v d H' hd hd2 hB' ((((Kp.refl b H).new hl).new hm).new hp |>.trans hk)
/-! ### a drawn value -/
def spAny (K : PySem.W.Frag) (n : Nat) : Sp := fun vs H Q _ => ∃ (b : Addr) (k : Int), vs = [.ref b, .int k] ∧ 0 ≤ k ∧ k ≤ (n : Int) ∧ BoxAt H b ∧
  ∀ (v : V) (d : PyData) (H' : Hp), Kp b H H' → BoxAt H' b → Dp K (dif H H') v d → Dt n d → Q v H'
theorem scAny : FnScope ["_law_box", "_law_deep", "_law_form", "_law_found", "_law_turn"] ["_law_box", "_law_deep"] (defScope sAny) := ⟨rfl, rfl, rfl, by decide +kernel, rfl, by decide +kernel, by decide +kernel⟩
structure TAny (K : PySem.W.Frag) (mg : Str → Option Value) : Type extends TDraw K mg where
  mR : mg "range" = none
  mT : mg "tuple" = none
  leaf : At K mg "_law_leaf" sLeaf ["_law_box"]
  any : At K mg "_law_any" sAny ["_law_box", "_law_deep"]
/-- the list that a comprehension has made so far, over what stood ahead of it -/
def Made (K : PySem.W.Frag) (b D : Addr) (H0 : Hp) (n i : Nat) (H : Hp) : Prop := (∀ a o, H0 a = some o → a ≠ b → a ≠ D → H a = some o) ∧ BoxAt H b ∧
  ∃ (acc : List V) (ds : List PyData), H D = some (.lst acc) ∧ acc.length = i ∧ ds.length = i ∧ DpAll K (dif H0 H) acc ds ∧ ∀ e ∈ ds, Dt n e
theorem made_turn {b D : Addr} {H0 H H1 : Hp} {n i : Nat} {v : V} {d : PyData} {o0 o1 : HO} (hb : H0 b = some o0) (hD : H0 D = some o1) (ne : D ≠ b) (h : Made K b D H0 n i H) (k : Kp b H H1) (hB : BoxAt H1 b) (hv : Dp K (dif H H1) v d) (hd : Dt n d) :
    ∃ acc, H1 D = some (.lst acc) ∧ acc.length = i ∧ Made K b D H0 n (i + 1) (upd H1 D (.lst (acc ++ [v]))) := by
  obtain ⟨h1, hb1, acc, ds, e, l1, l2, hA, hT⟩ := h
  have mo : Mo H0 H := fun a z => by
    cases q : H0 a with
    | none => rfl
    | some u =>
      have n1 : a ≠ b := fun y => by
        obtain ⟨_, _, _, g⟩ := hb1
        rw [y, g] at z
        cases z
      have n2 : a ≠ D := fun y => by rw [y, e] at z; cases z
      rw [h1 a u q n1 n2] at z
      cases z
  have toN : ∀ {a : Addr} {u : HO}, H0 a = none → H1 a = some u → dif H0 (upd H1 D (.lst (acc ++ [v]))) a = some u := fun {a u} e0 e1 => by
    refine dif_new e0 ?_
    rw [upd_ne (fun y => by rw [y, hD] at e0; cases e0)]
    exact e1
  refine ⟨acc, k D _ e ne, l1, ⟨fun a u q n1 n2 => by rw [upd_ne n2]; exact k a u (h1 a u q n1 n2) n1, ?_, acc ++ [v], ds ++ [d], upd_same, by rw [List.length_append, l1]; rfl, by rw [List.length_append, l2]; rfl, ?_, ?_⟩⟩
  · obtain ⟨x, y, hB, g⟩ := hB
    exact ⟨x, y, hB, by rw [upd_ne ne.symm]; exact g⟩
  · refine dpAll_append (dpAll_same (fun a u q => ?_) _ _ hA) (.cons (dp_same (fun a u q => ?_) _ _ hv) .nil)
    · obtain ⟨e0, e1⟩ := dif_eq.mp q
      exact toN e0 (k a u e1 (fun y => by rw [y, hb] at e0; cases e0))
    · obtain ⟨e0, e1⟩ := dif_eq.mp q
      exact toN (mo a e0) e1
  · intro e' he
    rcases List.mem_append.mp he with q | q
    · exact hT e' q
    · rw [List.mem_singleton.mp q]
      exact hd
theorem ok_any (T : TAny K mg) : ∀ n : Nat, FnOk P w K mg base CX0 (n + 4) T.any.f T.any.fd ["_law_box", "_law_deep"] (spAny K n) := by
  intro n
  induction n with
  | zero =>
    refine T.any.F.ok scAny (fun vs H Q E h => ?_) (fun cdv A outer s H vs Q E hr h => ?_)
    · obtain ⟨b, k, rfl, _⟩ := h
      rfl
    · obtain ⟨b, k, rfl, k0, k1, hB, q⟩ := h
      obtain rfl : k = 0 := by omega
      refine ⟨_, pss_cons (ps_set (i := 2) scAny.nd rfl (Or.inl rfl) (pe_ifExp (pt_cmpR op_gt (pv 1) pe_int (nomark _)) (pe_call T.okChoose (hr.mono (by omega)) rfl T.choose.m T.choose.F.kp T.choose.b .nil pass0 (pa_cons (pv 0) (pa_cons pe_int pa_nil))) pe_int))
        (pss_cons (ps_if (pt_cmpR op_gt (pv 2) pe_int (nomark _)) (pss_one (ps_ret (pe_call (ok_leaf T.leaf.F T.toTDraw) (hr.mono (by omega)) rfl T.leaf.m T.leaf.F.kp T.leaf.b .nil pass0 (pa_cons (pv 0) pa_nil)))) pss_nil)
        pss_never), ?_⟩
      refine ⟨_, rfl, _, _, rfl, rfl, _, rfl, ?_⟩
      refine iteF ?_
      refine ⟨_, rfl, _, _, rfl, rfl, _, rfl, ?_⟩
      refine iteT ?_
      refine ⟨_, rfl, b, rfl, hB, fun v d H' hp hd hB' hk => ?_⟩
      exact q v d H' hk hB' (pd_dp hp) (Dt.leaf hd)
  | succ n ih =>
    refine T.any.F.ok scAny (fun vs H Q E h => ?_) (fun cdv A outer s H vs Q E hr h => ?_)
    · obtain ⟨b, k, rfl, _⟩ := h
      rfl
    · obtain ⟨b, k, rfl, k0, k1, hB, q⟩ := h
      refine ⟨_, pss_cons (ps_set (i := 2) scAny.nd rfl (Or.inl rfl) (pe_ifExp (pt_cmpR op_gt (pv 1) pe_int (nomark _)) (pe_call T.okChoose (hr.mono (by omega)) rfl T.choose.m T.choose.F.kp T.choose.b .nil pass0 (pa_cons (pv 0) (pa_cons pe_int pa_nil))) pe_int))
        (pss_cons (ps_if (pt_cmpR op_gt (pv 2) pe_int (nomark _)) (pss_one (ps_ret (pe_call (ok_leaf T.leaf.F T.toTDraw) (hr.mono (by omega)) rfl T.leaf.m T.leaf.F.kp T.leaf.b .nil pass0 (pa_cons (pv 0) pa_nil)))) pss_nil)
        (pss_cons (ps_setLc (i := 3) (own := [("_law_turn", 4)]) (g := gName 4) (tt := tYes) (by rfl) scAny.nd rfl rfl (sw_true rfl rfl rfl (by decide +kernel)) (pi_range1 rfl T.mR (pa_cons (pe_call T.okChoose (hr.mono (by omega)) rfl T.choose.m T.choose.F.kp T.choose.b .nil pass0 (pa_cons (pv 0) (pa_cons pe_int pa_nil))) pa_nil))
            (blkOk_by (N := ["_law_box", "_law_deep", "_law_form", "_law_found", "_law_turn"]) (sc := defScope sAny) (by decide +kernel)) (fun _ _ _ _ _ => pg_name (i := 4) scAny.nd rfl (Or.inl rfl)) (fun _ _ _ _ _ => pts_nil)
            (fun _ _ _ _ _ => pe_call ih hr rfl T.any.m T.any.F.kp T.any.b .nil pass0 (pa_cons (pv 0) (pa_cons (pe_op op_sub (pv 1) pe_int) pa_nil))))
        (pss_one (ps_ret (pe_ifExp (pt_cmpR op_eq (pv 2) pe_int (nomark _)) (pe_tupleOf rfl T.mT (pv 3)) (pv 3)))))), ?_⟩
      refine ⟨_, rfl, _, _, rfl, rfl, _, rfl, ?_⟩
      refine ite2 (fun hc => ?_) (fun hc => ?_)
      · refine ⟨_, rfl, b, 6, rfl, hB, by decide, by decide, fun r H1 r0 r1 hB1 hk1 _ => ?_⟩
        refine ⟨_, rfl, _, _, rfl, rfl, _, rfl, ?_⟩
        refine ite2 (fun hc2 => ?_) (fun hc2 => ?_)
        · refine ⟨_, rfl, b, rfl, hB1, fun v d H' hp hd hB' hk => ?_⟩
          exact q v d H' (hk1.trans hk) hB' (pd_dp hp) (Dt.leaf hd)
        · refine ⟨_, rfl, b, 3, rfl, hB1, by decide, by decide, fun m H2 m0 m1 hB2 hk2 _ => ?_⟩
          have mo1 : Mo H H1 := by
            obtain ⟨_, _, _, g⟩ := hB1
            exact hk1.mo g
          have mo2 : Mo H H2 := by
            obtain ⟨_, _, _, g⟩ := hB2
            exact (hk1.trans hk2).mo g
          obtain ⟨x2, y2, hx2, g2⟩ := id hB2
          refine ⟨_, rfl, by omega, by omega, fun D hD => lc_range (lo := 0) (n := m.toNat) (fun i Hi => Made K b D (upd H2 D (.lst [])) n i Hi) ?_ (fun i Hi hi hM => ?_) (fun Hi hM => ?_)⟩
          · exact ⟨fun a o e _ _ => e, ⟨x2, y2, hx2, Same.new hD b _ g2⟩, [], [], upd_same, rfl, rfl, .nil, fun _ z => absurd z List.not_mem_nil⟩
          · have hDb : D ≠ b := (ne_of_none g2 hD).symm
            refine ⟨rfl, _, rfl, _, rfl, _, _, rfl, rfl, b, k - 1, rfl, by have := of_decide_eq_true hc; omega, by omega, hM.2.1, fun v d H' hk hB' hv hd => ?_⟩
            obtain ⟨acc, e1, e2, e3⟩ := made_turn (Same.new hD b _ g2) upd_same hDb hM hk hB' hv hd
            exact ⟨acc, e1, small1000 (by omega), e3⟩
          · have hDb : D ≠ b := (ne_of_none g2 hD).symm
            obtain ⟨hk3, hB3, acc, ds, e, l1, l2, hA, hT⟩ := hM
            have kp3 : Kp b H Hi := fun a o z nb => hk3 a o (Same.new hD a _ ((hk1.trans hk2) a o z nb)) nb (fun y => by
              have z2 := (hk1.trans hk2) a o z nb
              rw [y, hD] at z2
              cases z2)
            have hA2 : DpAll K (dif H Hi) acc ds := dpAll_same (dif_mo (mo2.trans Mo.upd)) _ _ hA
            have hDH : H D = none := mo2 D hD
            refine ⟨_, rfl, rfl, _, rfl, ?_⟩
            refine ite2 (fun hz => ?_) (fun hz => ?_)
            · refine ⟨_, rfl, .inl ⟨D, acc, rfl, SqL.of e, fun t ht => ?_⟩⟩
              have hto : H t = none := by
                obtain ⟨_, _, _, g⟩ := hB3
                exact kp3.mo g t ht
              have hA3 : DpAll K (dif H (upd Hi t (.tup acc))) acc ds := dpAll_same (fun a u z => dif_new (dif_eq.mp z).1 (Same.new ht a u (dif_eq.mp z).2)) _ _ hA2
              refine q _ (.tuple ds) _ (kp3.new ht) ?_ (.tup (SqT.of (dif_new hto upd_same)) hA3) (.inr ⟨ds, by omega, hT, .inr rfl⟩)
              obtain ⟨x3, y3, h3, g3⟩ := hB3
              exact ⟨x3, y3, h3, Same.new ht b _ g3⟩
            · refine ⟨_, rfl, ?_⟩
              exact q _ (.list ds) _ kp3 hB3 (.lst (SqL.of (dif_new hDH e)) hA2) (.inr ⟨ds, by omega, hT, .inl rfl⟩)
      · refine ⟨_, rfl, _, _, rfl, rfl, _, rfl, ?_⟩
        refine iteT ?_
        refine ⟨_, rfl, b, rfl, hB, fun v d H' hp hd hB' hk => ?_⟩
        exact q v d H' hk hB' (pd_dp hp) (Dt.leaf hd)
end
end Pn

namespace Pn
open PySem L2
abbrev sIsInteger : Stmt := top 3
abbrev sIsNumber : Stmt := top 4
abbrev sIsName : Stmt := top 5
/-! ### what these checks tell of data -/
def rowV : List V := [.str "note", .str "skip", .str "set", .str "keep", .str "back", .str "ref", .str "put", .str "open", .str "part"]
/-- a letter of a name -/
def lok (c : Nat) : Bool := decide (97 ≤ c) && decide (c ≤ 122)
def nameS (z : Str) : Bool := !inV (.str z) rowV && (decide (1 ≤ (z.length : Int)) && decide ((z.length : Int) ≤ 4)) && z.cps.toList.all lok
def nameD : PyData → Bool
  | .str z => nameS z
  | _ => false
def intD : PyData → Bool
  | .int _ => true
  | _ => false
def numD : PyData → Bool
  | .int i => decide (0 ≤ i)
  | _ => false
/-- the type of data -/
def tyD : PyData → String
  | .none => "NoneType"
  | .bool _ => "bool"
  | .int _ => "int"
  | .str _ => "str"
  | .list _ => "list"
  | .tuple _ => "tuple"
  | .dict _ => "dict"
theorem dp_ty {K : PySem.W.Frag} {H : Hp} {v : V} {d : PyData} (h : Dp K H v d) : TyX K H v (.type (tyD d)) := by
  cases h with
  | non => exact .base .non
  | bl b => exact .base (.bl b)
  | int i => exact .base (.int i)
  | str x => exact .base (.str x)
  | lst s _ =>
    rcases s with (s | ⟨o, s⟩) | ⟨o, _, _, e, c, _⟩
    · exact .base (.lst s)
    · exact .base (.frz s)
    · exact .kList e c
  | tup s _ =>
    rcases s with (s | ⟨o, s⟩) | ⟨o, _, _, e, c, _⟩
    · exact .base (.tup s)
    · exact .fTuple s
    · exact .kTuple e c
def strT : PyData → Bool
  | .str _ => true
  | _ => false
def intT : PyData → Bool
  | .bool _ => true
  | .int _ => true
  | _ => false
def boolT : PyData → Bool
  | .bool _ => true
  | _ => false
theorem kit_str : ∀ d : PyData, kitB (tyD d) "str" = some (strT d)
  | .none => (by decide +kernel : kitB "NoneType" "str" = some false)
  | .bool _ => (by decide +kernel : kitB "bool" "str" = some false)
  | .int _ => (by decide +kernel : kitB "int" "str" = some false)
  | .str _ => (by decide +kernel : kitB "str" "str" = some true)
  | .list _ => (by decide +kernel : kitB "list" "str" = some false)
  | .tuple _ => (by decide +kernel : kitB "tuple" "str" = some false)
  | .dict _ => (by decide +kernel : kitB "dict" "str" = some false)
theorem kit_int : ∀ d : PyData, kitB (tyD d) "int" = some (intT d)
  | .none => (by decide +kernel : kitB "NoneType" "int" = some false)
  | .bool _ => (by decide +kernel : kitB "bool" "int" = some true)
  | .int _ => (by decide +kernel : kitB "int" "int" = some true)
  | .str _ => (by decide +kernel : kitB "str" "int" = some false)
  | .list _ => (by decide +kernel : kitB "list" "int" = some false)
  | .tuple _ => (by decide +kernel : kitB "tuple" "int" = some false)
  | .dict _ => (by decide +kernel : kitB "dict" "int" = some false)
theorem kit_bool : ∀ d : PyData, kitB (tyD d) "bool" = some (boolT d)
  | .none => (by decide +kernel : kitB "NoneType" "bool" = some false)
  | .bool _ => (by decide +kernel : kitB "bool" "bool" = some true)
  | .int _ => (by decide +kernel : kitB "int" "bool" = some false)
  | .str _ => (by decide +kernel : kitB "str" "bool" = some false)
  | .list _ => (by decide +kernel : kitB "list" "bool" = some false)
  | .tuple _ => (by decide +kernel : kitB "tuple" "bool" = some false)
  | .dict _ => (by decide +kernel : kitB "dict" "bool" = some false)
/-! ### a comprehension whose items are told by their places -/
theorem lc_step {H1 : Hp} {D : Addr} {f : Nat → V} {i : Nat} (hi : i < 1000) : ∃ acc, (upd H1 D (.lst ((List.range i).map f))) D = some (.lst acc) ∧ acc.length < sizeLine ∧
    upd (upd H1 D (.lst ((List.range i).map f))) D (.lst (acc ++ [f i])) = upd H1 D (.lst ((List.range (i + 1)).map f)) := by
  refine ⟨_, upd_same, by rw [List.length_map, List.length_range]; exact small1000 (by omega), ?_⟩
  rw [List.range_succ, List.map_append]
  funext b
  by_cases e : b = D
  · rw [e, upd_same, upd_same]
    rfl
  · rw [upd_ne e, upd_ne e, upd_ne e]
theorem range_getD {f : Nat → Bool} : ∀ l : List Nat, (((List.range l.length).map fun i => f (l.getD i 0)).all id) = l.all f := by
  intro l
  have e : (List.range l.length).map (fun i => f (l.getD i 0)) = l.map f := by
    apply List.ext_getElem
    · simp
    · intro i h1 h2
      have h3 : i < l.length := by simpa using h2
      simp [List.getD_eq_getElem?_getD, List.getElem?_eq_getElem h3]
  rw [e]
  simp
theorem lt_one {a b : Nat} : decide ([a] < [b]) = decide (a < b) := by
  by_cases h : a < b
  · rw [decide_eq_true h, decide_eq_true]
    exact List.Lex.rel h
  · rw [decide_eq_false h, decide_eq_false]
    intro z
    cases z with
    | rel r => exact h r
    | cons r => cases r
theorem lok_eq (c : Nat) : (if (!decide ([c] < [97])) = true then (!decide ([122] < [c])) else false) = lok c := by
  rw [lt_one, lt_one]
  unfold lok
  by_cases h1 : c < 97
  · rw [decide_eq_true h1, decide_eq_false (show ¬ 97 ≤ c by omega)]
    rfl
  · rw [decide_eq_false h1, decide_eq_true (show 97 ≤ c by omega)]
    by_cases h2 : 122 < c
    · rw [decide_eq_true h2, decide_eq_false (show ¬ c ≤ 122 by omega)]
      rfl
    · rw [decide_eq_false h2, decide_eq_true (show c ≤ 122 by omega)]
      rfl
section
variable {P : Program} {w : World} {K : PySem.W.Frag} {mg : Str → Option Value} {base : Heap}
structure TChk (K : PySem.W.Frag) (mg : Str → Option Value) : Type where
  mInt : mg "int" = none
  mBool : mg "bool" = none
  mStr : mg "str" = none
  mIsi : mg "isinstance" = none
  mLen : mg "len" = none
  mAll : mg "all" = none
  words : Addr
  mWords : mg "ROW_WORDS" = some (.ref words)
  hWords : ∀ H, SqT K H words rowV
  tok : Tok
  mLong : mg "LONGEST_NAME" = some (.int 4 tok)
  isInteger : At K mg "is_integer" sIsInteger ["value"]
  isNumber : At K mg "is_number" sIsNumber ["value"]
  isName : At K mg "is_name" sIsName ["value"]
def spIsInteger (K : PySem.W.Frag) : Sp := fun vs H Q _ => ∃ (v : V) (d : PyData), vs = [v] ∧ Dp K H v d ∧ Q (.bl (intD d)) H
theorem scIsInteger : FnScope ["value"] ["value"] (defScope sIsInteger) := ⟨rfl, rfl, rfl, by decide +kernel, rfl, by decide +kernel, by decide +kernel⟩
theorem TChk.okInteger (T : TChk K mg) : FnOk P w K mg base CX0 1 T.isInteger.f T.isInteger.fd ["value"] (spIsInteger K) := by
  refine T.isInteger.F.ok scIsInteger (fun vs H Q E h => ?_) (fun cdv A outer s H vs Q E hr h => ?_)
  · obtain ⟨v, d, rfl, _⟩ := h
    rfl
  · obtain ⟨v, d, rfl, hd, q⟩ := h
    refine ⟨_, pss_one (ps_ret (pe_and (pe_callB call_isi (by rfl) T.mIsi (by decide +kernel) (pa_cons (pv 0) (pa_cons (pe_bltn (v := .ty "int") (by rfl) T.mInt (by decide +kernel) rfl) pa_nil)))
      (pe_one (pe_not (pe_callB call_isi (by rfl) T.mIsi (by decide +kernel) (pa_cons (pv 0) (pa_cons (pe_bltn (v := .ty "bool") (by rfl) T.mBool (by decide +kernel) rfl) pa_nil))))))), ?_⟩
    refine ⟨_, rfl, v, _, _, _, _, rfl, .ty _, dp_ty hd, kit_ty (kit_int d), _, rfl, ?_⟩
    cases d with
    | none => exact q
    | str z => exact q
    | list ds => exact q
    | tuple ds => exact q
    | dict ds => exact q
    | int i => exact ⟨_, rfl, v, _, _, _, _, rfl, .ty _, dp_ty hd, kit_ty (kit_bool _), _, rfl, q⟩
    | bool i => exact ⟨_, rfl, v, _, _, _, _, rfl, .ty _, dp_ty hd, kit_ty (kit_bool _), _, rfl, q⟩
def spIsNumber (K : PySem.W.Frag) : Sp := fun vs H Q _ => ∃ (v : V) (d : PyData), vs = [v] ∧ Dp K H v d ∧ Q (.bl (numD d)) H
theorem scIsNumber : FnScope ["value"] ["value"] (defScope sIsNumber) := ⟨rfl, rfl, rfl, by decide +kernel, rfl, by decide +kernel, by decide +kernel⟩
theorem TChk.okNumber (T : TChk K mg) : FnOk P w K mg base CX0 2 T.isNumber.f T.isNumber.fd ["value"] (spIsNumber K) := by
  refine T.isNumber.F.ok scIsNumber (fun vs H Q E h => ?_) (fun cdv A outer s H vs Q E hr h => ?_)
  · obtain ⟨v, d, rfl, _⟩ := h
    rfl
  · obtain ⟨v, d, rfl, hd, q⟩ := h
    refine ⟨_, pss_one (ps_ret (pe_and (pe_call T.okInteger hr rfl T.isInteger.m T.isInteger.F.kp T.isInteger.b .nil pass0 (pa_cons (pv 0) pa_nil)) (pe_one (pe_cmpR op_ge (pv 0) pe_int (nomark _))))), ?_⟩
    refine ⟨_, rfl, v, d, rfl, hd, _, rfl, ?_⟩
    cases d with
    | none => exact q
    | str z => exact q
    | list ds => exact q
    | tuple ds => exact q
    | dict ds => exact q
    | bool i => exact q
    | int i =>
      cases hd
      exact ⟨_, rfl, _, _, rfl, rfl, q⟩
def dlen : PyData → Prop
  | .str z => z.length ≤ 900
  | _ => True
def spIsName (K : PySem.W.Frag) : Sp := fun vs H Q _ => ∃ (v : V) (d : PyData), vs = [v] ∧ Dp K H v d ∧ dlen d ∧ ∀ H', Same H H' → Mo H H' → Q (.bl (nameD d)) H'
theorem scIsName : FnScope ["value", "letter"] ["value"] (defScope sIsName) := ⟨rfl, rfl, rfl, by decide +kernel, rfl, by decide +kernel, by decide +kernel⟩
theorem TChk.okName (T : TChk K mg) : FnOk P w K mg base CX0 1 T.isName.f T.isName.fd ["value"] (spIsName K) := by
  refine T.isName.F.ok scIsName (fun vs H Q E h => ?_) (fun cdv A outer s H vs Q E hr h => ?_)
  · obtain ⟨v, d, rfl, _⟩ := h
    rfl
  · obtain ⟨v, d, rfl, hd, hl, q⟩ := h
    refine ⟨_, pss_cons (ps_if (PW.pt (pw_or (pt_not (pt_val (pe_callB call_isi (by rfl) T.mIsi (by decide +kernel) (pa_cons (pv 0) (pa_cons (pe_bltn (v := .ty "str") (by rfl) T.mStr (by decide +kernel) rfl) pa_nil)))))
        (pw_or1 (pt_cmpR op_in_seq (pv 0) (pe_glob (v := .ref T.words) (by rfl) T.mWords rfl) rfl)))) (pss_one (ps_ret pe_bl)) pss_nil)
      (pss_one (ps_ret (pe_and (pe_chain op_le op_le pe_int (pe_callB call_len_str (by rfl) T.mLen PySem.boot_len (pa_cons (pv 0) pa_nil)) (pe_glob (v := .int 4) (by rfl) T.mLong ⟨_, rfl⟩))
        (pe_one (pe_callB (cr_all rfl) (by rfl) T.mAll (by decide +kernel) (pa_cons (pe_lc (own := [("letter", 1)]) (g := gName 1) (tt := tYes) (by rfl) scIsName.nd (pi_str (pv 0))
          (blkOk_by (N := ["value", "letter"]) (sc := defScope sIsName) (by decide +kernel)) (fun _ _ _ _ _ => pg_name (i := 1) scIsName.nd rfl (Or.inl rfl)) (fun _ _ _ _ _ => pts_nil)
          (fun _ _ _ _ _ => pe_chain op_le_str op_le_str pe_str (pv 1) pe_str)) pa_nil)))))), ?_⟩
    refine ⟨_, rfl, v, _, _, _, _, rfl, .ty _, dp_ty hd, kit_ty (kit_str d), _, rfl, ?_⟩
    cases d with
    | str z =>
      cases hd
      refine ⟨_, rfl, T.words, rowV, rfl, .inr (T.hWords H), rfl, rfl, _, rfl, ?_⟩
      have hl' : z.length ≤ 900 := hl
      cases e : inV (.str z) rowV with
      | true =>
        have e2 : nameD (.str z) = false := by show nameS z = false; unfold nameS; rw [e]; rfl
        rw [e2] at q
        refine iteT ?_
        exact q H (Same.refl H) (Mo.refl H)
      | false =>
        refine iteF ?_
        refine ⟨_, rfl, z, rfl, Nat.le_trans hl' (by decide), _, _, rfl, rfl, _, rfl, ?_⟩
        have e2 : nameD (.str z) = ((decide (1 ≤ (z.length : Int)) && decide ((z.length : Int) ≤ 4)) && z.cps.toList.all lok) := by show nameS z = _; unfold nameS; rw [e]; rfl
        rw [e2] at q
        cases h1 : decide (1 ≤ (z.length : Int)) with
        | false =>
          rw [h1] at q
          refine iteF ?_
          exact ⟨false, rfl, iteF (q H (Same.refl H) (Mo.refl H))⟩
        | true =>
          rw [h1] at q
          refine iteT ?_
          refine ⟨_, _, rfl, rfl, _, rfl, ?_⟩
          cases h2 : decide ((z.length : Int) ≤ 4) with
          | false =>
            rw [h2] at q
            exact iteF (q H (Same.refl H) (Mo.refl H))
          | true =>
            rw [h2] at q
            refine iteT ?_
            refine ⟨_, rfl, z, rfl, fun D hD => lc_it walk_str (fun i Hi => Hi = upd H D (.lst ((List.range i).map fun j => .bl (lok (z.cps.toList.getD j 0))))) rfl (fun _ _ _ _ => trivial) (fun i x Hi Hj hi hP hY => ?_) (fun Hi hP => ?_)⟩
            · obtain ⟨rfl, c, hc, rfl⟩ := hY
              subst hP
              have hi2 : i < 1000 := by
                have : z.cps.size = z.length := rfl
                omega
              have hg : z.cps.toList.getD i 0 = c := by
                rw [List.getD_eq_getElem?_getD, Array.getElem?_toList, hc]
                rfl
              have fin := lc_step (H1 := H) (D := D) (f := fun j => .bl (lok (z.cps.toList.getD j 0))) (i := i) hi2
              rw [hg, ← lok_eq] at fin
              refine ⟨rfl, _, rfl, _, _, rfl, rfl, _, rfl, ?_⟩
              cases h3 : (!decide ([c] < [97])) with
              | false =>
                have h4 : (!decide (({ cps := #[c] } : Str).cps.toList < (Str.ofString "a").cps.toList)) = false := h3
                rw [h3] at fin
                rw [h4]
                exact fin
              | true =>
                have h4 : (!decide (({ cps := #[c] } : Str).cps.toList < (Str.ofString "a").cps.toList)) = true := h3
                rw [h3] at fin
                rw [h4]
                exact ⟨_, _, rfl, rfl, fin⟩
            · subst hP
              refine ⟨D, (List.range z.cps.size).map fun j => lok (z.cps.toList.getD j 0), rfl, ?_, ?_⟩
              · refine SqL.of ?_
                rw [upd_same, List.map_map]
                rfl
              · have e3 := range_getD (f := lok) z.cps.toList
                rw [Array.length_toList] at e3
                rw [e3]
                exact q _ (Same.new hD) Mo.upd
    | none => exact q H (Same.refl H) (Mo.refl H)
    | list ds => exact q H (Same.refl H) (Mo.refl H)
    | tuple ds => exact q H (Same.refl H) (Mo.refl H)
    | dict ds => exact q H (Same.refl H) (Mo.refl H)
    | int i => exact q H (Same.refl H) (Mo.refl H)
    | bool i => exact q H (Same.refl H) (Mo.refl H)
end
end Pn

namespace Pn
open PySem L2
theorem iteTD {c : Bool} {A B : Prop} (hc : c = true) (h : A) : if c = true then A else B := by
  rw [if_pos hc]
  exact h
theorem iteFD {c : Bool} {A B : Prop} (hc : c = false) (h : B) : if c = true then A else B := by
  rw [hc, if_neg Bool.false_ne_true]
  exact h
/-! ### own exceptions that keep one thing -/
theorem same_made {H1 : Hp} {a d : Addr} {y : V} {f : Str} {o1 o2 o3 : HO} (ha : H1 a = none) (hd : H1 d = none) : Same H1 (upd (del (upd (upd (upd H1 a o1) d o2) a o3) a) d (.xd [(f, y)])) := fun b o e => by
  have n1 : b ≠ a := ne_of_none e ha
  have n2 : b ≠ d := ne_of_none e hd
  rw [upd_ne n2, del_ne n1, upd_ne n1, upd_ne n2, upd_ne n1]
  exact e
/-- an own exception class of the text whose __init__ keeps one thing under the name fld -/
structure TExc (K : PySem.W.Frag) (mg : Str → Option Value) (x : Str) (qual fld : Str) (st : Stmt) : Type where
  C : Addr
  fI : Addr
  fd : FuncData
  F : Fun K "__init__" qual st fI fd
  b : Binds K fd ["self", fld] []
  m : mg x = some (.ref C)
  O : OexC K C
  iC : PySem.W.findIn K (.ref C) "__init__" = some (some (.ref fI))
  tI : PySem.W.typeIn K (.ref fI) = some (.type "function")
  noF : PySem.W.findIn K (.ref C) fld = some none
  E : ExcC K C
  isC : PySem.W.isClsIn K C = true
  te : PySem.W.exmOne K (.ref C) (.ref C) = some true
  xf : XfC K C
def spXInit (K : PySem.W.Frag) (fld : Str) : Sp := fun vs H Q _ => ∃ (a C : Addr) (v : V), vs = [.ref a, v] ∧ H a = some (exo a C none) ∧ OexC K C ∧ PySem.W.findIn K (.ref C) fld = some none ∧
  ∀ dx, H dx = none → dx ≠ a → Q .non (upd (upd H dx (exd dx [(fld, v)])) a (exo a C (some dx)))
/-- isinstance of the exception that a suite holds -/
def rIsX (K : PySem.W.Frag) (D a : Addr) (cls : Value) (d : Option Addr) : List V → Hp → VK → Prop := fun xs H Q => ∃ (c : V) (cv : Value) (b : Bool) (dd : Addr) (fs : List (Str × V)), xs = [.ref a, c] ∧ cls = .ref D ∧ ClsV c cv ∧ PySem.W.kitOne K (.ref D) cv = some b ∧ d = some dd ∧ H dd = some (.xd fs) ∧ Q (.bl b) H
theorem call_isX {X : Cx} {a D : Addr} {cls : Value} {d : Option Addr} {oe : Obj} {pn : List (Addr × Obj)} (C : ExcC X.K D) (hz : Zc cls d oe) (hf : ∃ vs, oe.data = .fields vs) : CallR (X.suite a ((a, oe) :: pn)) (.builtin "isinstance") (rIsX X.K D a cls d) := by
  intro pins s σ H xs us Q I r h
  obtain ⟨c, cv, b, dd, fs, rfl, rfl, hcv, e, rfl, hdd, q⟩ := h
  obtain ⟨u1, u2, rfl, r1, r2⟩ := vals2 r
  obtain rfl : u1 = Value.ref a := r1
  obtain rfl : u2 = cv := hcv.eq r2
  obtain ⟨hget, _⟩ := I.pin (a, oe) (List.mem_append.mpr (.inl List.mem_cons_self))
  obtain ⟨mA, hns, _⟩ : ObjOk X.prog X.w H s.heap dd (.xd fs) := I.hok dd _ hdd
  obtain ⟨od, ho, _⟩ := lookIn_ns hns
  obtain ⟨vs, hv⟩ := hf
  have J : PySem.W.InstAt s.heap a oe D (some od) := ⟨hget, hz.1, by unfold PySem.W.notCls; rw [hv] <;> rfl, by rw [hz.2]; exact ho⟩
  have hcl : (PySem.W.clsIn X.K D).isSome = true := by
    have q := C.hd
    unfold PySem.W.hasDictIn at q
    cases z : PySem.W.clsIn X.K D with
    | some cd => rfl
    | none => rw [z] at q; cases q
  exact PySem.W.kia_one (PySem.W.kitx_exc hcl C.hg C.hk C.hs C.ha C.hn C.ht C.hm) I.kIn J e (fun z => nomatch z) fun tk => ⟨.bl b, H, I.tok tk, rfl, q⟩
end Pn

namespace Pn
open PySem L2
abbrev sNeedName : Stmt := top 13
abbrev sIRInit : Stmt := inClass (top 8) 0
section
variable {P : Program} {w : World} {K : PySem.W.Frag} {mg : Str → Option Value} {base : Heap}
theorem scIRInit : FnScope ["self", "word"] ["self", "word"] (defScope sIRInit) := ⟨rfl, rfl, rfl, by decide +kernel, rfl, by decide +kernel, by decide +kernel⟩
abbrev TIR (K : PySem.W.Frag) (mg : Str → Option Value) := TExc K mg "InvalidRow" "InvalidRow.__init__" "word" sIRInit
theorem okIRInit (T : TIR K mg) : FnOk P w K mg base CX0 1 T.fI T.fd ["self", "word"] (spXInit K "word") := by
  refine T.F.ok scIRInit (fun vs H Q E h => ?_) (fun cdv A outer s H vs Q E hr h => ?_)
  · obtain ⟨a, C, v, rfl, _⟩ := h
    rfl
  · obtain ⟨a, C, v, rfl, ha, O, no, q⟩ := h
    refine ⟨_, pss_one (ps_ost (pv 0) (pv 1)), ?_⟩
    exact ⟨_, rfl, _, rfl, a, C, rfl, O, no, .inl ⟨ha, fun dx h1 h2 => q dx h1 h2⟩⟩
/-- InvalidRow(wd) leaves the def -/
def RaiseW (C : Addr) (H : Hp) (E : XK) (wd : V) : Prop := ∀ (e : Addr) (H' : Hp), Same H H' → Mo H H' → H e = none → H' e = some (.xd [("word", wd)]) → E (.ref C) (some e) H'
theorem RaiseW.back {C : Addr} {H H1 : Hp} {E : XK} {wd : V} (h : RaiseW C H E wd) (s : Same H H1) (m : Mo H H1) : RaiseW C H1 E wd := fun e H' h1 h2 h3 h4 => h e H' (s.trans h1) (m.trans h2) (m e h3) h4
def spNeed (K : PySem.W.Frag) (C : Addr) : Sp := fun vs H Q E => ∃ (v wd : V) (d : PyData), vs = [v, wd] ∧ Dp K H v d ∧ dlen d ∧ (nameD d = true → ∀ H', Same H H' → Mo H H' → Q .non H') ∧ (nameD d = false → RaiseW C H E wd)
structure TNeed (K : PySem.W.Frag) (mg : Str → Option Value) : Type extends TChk K mg where
  IR : TIR K mg
  need : At K mg "need_name" sNeedName ["value", "word"]
theorem scNeed : FnScope ["value", "word"] ["value", "word"] (defScope sNeedName) := ⟨rfl, rfl, rfl, by decide +kernel, rfl, by decide +kernel, by decide +kernel⟩
/-- a new exception of InvalidRow, as its making leaves it -/
theorem ir_made {C : Addr} {H H1 : Hp} {E : XK} {wd : V} (s : Same H H1) (m : Mo H H1) (h : RaiseW C H E wd) {a : Addr} (ha : H1 a = none) (dx : Addr) (h1 : (upd H1 a (exo a C none)) dx = none) (h2 : dx ≠ a) :
    E (.ref C) (some dx) (upd (del (upd (upd (upd H1 a (exo a C none)) dx (exd dx [("word", wd)])) a (exo a C (some dx))) a) dx (.xd [("word", wd)])) := by
  have hd : H1 dx = none := by rw [upd_ne h2] at h1; exact h1
  refine h dx _ (s.trans (same_made ha hd)) (m.trans fun b e => ?_) (m dx hd) upd_same
  by_cases n2 : b = dx
  · rw [n2]; exact hd
  · by_cases n1 : b = a
    · rw [n1]; exact ha
    · rw [upd_ne n2, del_ne n1, upd_ne n1, upd_ne n2, upd_ne n1] at e
      exact e
theorem okNeed (T : TNeed K mg) : FnOk P w K mg base (L2.CX P w) 3 T.need.f T.need.fd ["value", "word"] (spNeed K T.IR.C) := by
  refine T.need.F.okX scNeed (fun vs H Q E h => ?_) (fun cdv A outer s H vs Q E hr h => ?_)
  · obtain ⟨v, wd, d, rfl, _⟩ := h
    rfl
  · obtain ⟨v, wd, d, rfl, hd, hl, q1, q2⟩ := h
    refine ⟨_, pss_one (ps_if (pt_not (pt_val (pe_call (T.okName) (hr.mono (by decide)) rfl T.isName.m T.isName.F.kp T.isName.b .nil pass0 (pa_cons (pv 0) pa_nil))))
      (pss_one (ps_raise rfl (takes_of rfl rfl rfl rfl) (pmk_oex T.IR.O T.IR.iC T.IR.tI (okIRInit T.IR) (hr.mono (by decide)) T.IR.b .nil pass0 rfl T.IR.m (pa_cons (pv 1) pa_nil)))) pss_nil), ?_⟩
    refine ⟨_, rfl, v, d, rfl, hd, hl, fun H1 hs hm => ?_⟩
    cases hn : nameD d with
    | true => exact ⟨true, rfl, iteF (q1 hn H1 hs hm)⟩
    | false =>
      refine ⟨false, rfl, iteT ?_⟩
      refine ⟨_, rfl, (by show 1 ≤ 1000; decide), fun a ha => ⟨a, T.IR.C, wd, rfl, upd_same, T.IR.O, T.IR.noF, fun dx h1 h2 => ?_⟩⟩
      have hd1 : H1 dx = none := by rw [upd_ne h2] at h1; exact h1
      exact ⟨rfl, dx, _, upd_same, by rw [upd_ne h2, upd_same], hd1, ir_made hs hm (q2 hn) ha dx h1 h2⟩
/-- an own class with an __init__ -/
structure TCls (K : PySem.W.Frag) (mg : Str → Option Value) (x qual : Str) (st : Stmt) (ps : List Str) : Type where
  C : Addr
  fI : Addr
  fd : FuncData
  F : Fun K "__init__" qual st fI fd
  b : Binds K fd ps []
  m : mg x = some (.ref C)
  M : Mk K C fI
  cl : Cls K C
  noW : NoAttr K C "word"
theorem small2 {f g : Str} {v u : V} : (putF g u (putF f v ([] : List (Str × V)))).length < 1000 := by
  unfold putF putF
  simp only
  split
  · show 1 < 1000
    decide
  · show 2 < 1000
    decide
/-- all but the new instance is as it was -/
def KpI (x : Addr) (H H' : Hp) : Prop := ∀ b o, H b = some o → b ≠ x → H' b = some o
/-! ### Keep -/
abbrev sKeepInit : Stmt := inClass (top 17) 0
theorem scKeepInit : FnScope ["self", "counter"] ["self", "counter"] (defScope sKeepInit) := ⟨rfl, rfl, rfl, by decide +kernel, rfl, by decide +kernel, by decide +kernel⟩
structure TKeep (K : PySem.W.Frag) (mg : Str → Option Value) : Type extends TCls K mg "Keep" "Keep.__init__" sKeepInit ["self", "counter"] where
  noF : NoAttr K C "counter"
def insKeep (C dx : Addr) (v : V) : HO := .ins C dx (putF "counter" v (putF "word" (.str "keep") []))
def spKeepInit (K : PySem.W.Frag) (C CR : Addr) : Sp := fun vs H Q E => ∃ (x dx : Addr) (v : V) (d : PyData), vs = [.ref x, v] ∧ H x = some (.ins C dx []) ∧ Dp K H v d ∧ dlen d ∧
  (nameD d = true → ∀ H', KpI x H H' → Mo H H' → H' x = some (insKeep C dx v) → Q .non H') ∧ (nameD d = false → RaiseW CR H E (.str "counter"))
theorem okKeepInit (T : TKeep K mg) (N : TNeed K mg) : FnOk P w K mg base (L2.CX P w) 4 T.fI T.fd ["self", "counter"] (spKeepInit K T.C N.IR.C) := by
  refine T.F.okX scKeepInit (fun vs H Q E h => ?_) (fun cdv A outer s H vs Q E hr h => ?_)
  · obtain ⟨x, dx, v, d, rfl, _⟩ := h
    rfl
  · obtain ⟨x, dx, v, d, rfl, hx, hd, hl, q1, q2⟩ := h
    refine ⟨_, pss_cons (ps_expr (pe_callS (okNeed N) hr rfl N.need.m N.need.F.kp N.need.b (fun σ => passAt (takes_of rfl rfl rfl rfl) σ) (pa_cons (pv 1) (pa_cons pe_str pa_nil))))
      (pss_cons (ps_fld (pv 0) pe_str rfl) (pss_one (ps_fld (pv 0) (pv 1) rfl))), ?_⟩
    refine ⟨_, rfl, v, _, d, rfl, hd, hl, fun hn H1 hs hm => ?_, fun hn => q2 hn⟩
    refine ⟨_, rfl, x, T.C, dx, [], rfl, hs x _ hx, T.cl, T.noW, (by show 0 < 1000; decide), _, rfl, _, rfl, x, T.C, dx, _, rfl, upd_same, T.cl, T.noF, (by show 1 < 1000; decide), ?_⟩
    refine q1 hn _ (fun b o e n => ?_) (hm.trans (Mo.upd.trans Mo.upd)) upd_same
    rw [upd_ne n, upd_ne n]
    exact hs b o e
/-! ### Back -/
abbrev sBackInit : Stmt := inClass (top 18) 0
theorem scBackInit : FnScope ["self", "counter"] ["self", "counter"] (defScope sBackInit) := ⟨rfl, rfl, rfl, by decide +kernel, rfl, by decide +kernel, by decide +kernel⟩
structure TBack (K : PySem.W.Frag) (mg : Str → Option Value) : Type extends TCls K mg "Back" "Back.__init__" sBackInit ["self", "counter"] where
  noF : NoAttr K C "counter"
def insBack (C dx : Addr) (v : V) : HO := .ins C dx (putF "counter" v (putF "word" (.str "back") []))
def spBackInit (K : PySem.W.Frag) (C CR : Addr) : Sp := fun vs H Q E => ∃ (x dx : Addr) (v : V) (d : PyData), vs = [.ref x, v] ∧ H x = some (.ins C dx []) ∧ Dp K H v d ∧ dlen d ∧
  (nameD d = true → ∀ H', KpI x H H' → Mo H H' → H' x = some (insBack C dx v) → Q .non H') ∧ (nameD d = false → RaiseW CR H E (.str "counter"))
theorem okBackInit (T : TBack K mg) (N : TNeed K mg) : FnOk P w K mg base (L2.CX P w) 4 T.fI T.fd ["self", "counter"] (spBackInit K T.C N.IR.C) := by
  refine T.F.okX scBackInit (fun vs H Q E h => ?_) (fun cdv A outer s H vs Q E hr h => ?_)
  · obtain ⟨x, dx, v, d, rfl, _⟩ := h
    rfl
  · obtain ⟨x, dx, v, d, rfl, hx, hd, hl, q1, q2⟩ := h
    refine ⟨_, pss_cons (ps_expr (pe_callS (okNeed N) hr rfl N.need.m N.need.F.kp N.need.b (fun σ => passAt (takes_of rfl rfl rfl rfl) σ) (pa_cons (pv 1) (pa_cons pe_str pa_nil))))
      (pss_cons (ps_fld (pv 0) pe_str rfl) (pss_one (ps_fld (pv 0) (pv 1) rfl))), ?_⟩
    refine ⟨_, rfl, v, _, d, rfl, hd, hl, fun hn H1 hs hm => ?_, fun hn => q2 hn⟩
    refine ⟨_, rfl, x, T.C, dx, [], rfl, hs x _ hx, T.cl, T.noW, (by show 0 < 1000; decide), _, rfl, _, rfl, x, T.C, dx, _, rfl, upd_same, T.cl, T.noF, (by show 1 < 1000; decide), ?_⟩
    refine q1 hn _ (fun b o e n => ?_) (hm.trans (Mo.upd.trans Mo.upd)) upd_same
    rw [upd_ne n, upd_ne n]
    exact hs b o e
/-! ### Ref -/
abbrev sRefInit : Stmt := inClass (top 19) 0
theorem scRefInit : FnScope ["self", "label"] ["self", "label"] (defScope sRefInit) := ⟨rfl, rfl, rfl, by decide +kernel, rfl, by decide +kernel, by decide +kernel⟩
structure TRef (K : PySem.W.Frag) (mg : Str → Option Value) : Type extends TCls K mg "Ref" "Ref.__init__" sRefInit ["self", "label"] where
  noF : NoAttr K C "label"
def insRef (C dx : Addr) (v : V) : HO := .ins C dx (putF "label" v (putF "word" (.str "ref") []))
def spRefInit (K : PySem.W.Frag) (C CR : Addr) : Sp := fun vs H Q E => ∃ (x dx : Addr) (v : V) (d : PyData), vs = [.ref x, v] ∧ H x = some (.ins C dx []) ∧ Dp K H v d ∧ dlen d ∧
  (nameD d = true → ∀ H', KpI x H H' → Mo H H' → H' x = some (insRef C dx v) → Q .non H') ∧ (nameD d = false → RaiseW CR H E (.str "label"))
theorem okRefInit (T : TRef K mg) (N : TNeed K mg) : FnOk P w K mg base (L2.CX P w) 4 T.fI T.fd ["self", "label"] (spRefInit K T.C N.IR.C) := by
  refine T.F.okX scRefInit (fun vs H Q E h => ?_) (fun cdv A outer s H vs Q E hr h => ?_)
  · obtain ⟨x, dx, v, d, rfl, _⟩ := h
    rfl
  · obtain ⟨x, dx, v, d, rfl, hx, hd, hl, q1, q2⟩ := h
    refine ⟨_, pss_cons (ps_expr (pe_callS (okNeed N) hr rfl N.need.m N.need.F.kp N.need.b (fun σ => passAt (takes_of rfl rfl rfl rfl) σ) (pa_cons (pv 1) (pa_cons pe_str pa_nil))))
      (pss_cons (ps_fld (pv 0) pe_str rfl) (pss_one (ps_fld (pv 0) (pv 1) rfl))), ?_⟩
    refine ⟨_, rfl, v, _, d, rfl, hd, hl, fun hn H1 hs hm => ?_, fun hn => q2 hn⟩
    refine ⟨_, rfl, x, T.C, dx, [], rfl, hs x _ hx, T.cl, T.noW, (by show 0 < 1000; decide), _, rfl, _, rfl, x, T.C, dx, _, rfl, upd_same, T.cl, T.noF, (by show 1 < 1000; decide), ?_⟩
    refine q1 hn _ (fun b o e n => ?_) (hm.trans (Mo.upd.trans Mo.upd)) upd_same
    rw [upd_ne n, upd_ne n]
    exact hs b o e
/-! ### Put -/
abbrev sPutInit : Stmt := inClass (top 20) 0
theorem scPutInit : FnScope ["self", "part"] ["self", "part"] (defScope sPutInit) := ⟨rfl, rfl, rfl, by decide +kernel, rfl, by decide +kernel, by decide +kernel⟩
structure TPut (K : PySem.W.Frag) (mg : Str → Option Value) : Type extends TCls K mg "Put" "Put.__init__" sPutInit ["self", "part"] where
  noF : NoAttr K C "part"
def insPut (C dx : Addr) (v : V) : HO := .ins C dx (putF "part" v (putF "word" (.str "put") []))
def spPutInit (K : PySem.W.Frag) (C CR : Addr) : Sp := fun vs H Q E => ∃ (x dx : Addr) (v : V) (d : PyData), vs = [.ref x, v] ∧ H x = some (.ins C dx []) ∧ Dp K H v d ∧ dlen d ∧
  (nameD d = true → ∀ H', KpI x H H' → Mo H H' → H' x = some (insPut C dx v) → Q .non H') ∧ (nameD d = false → RaiseW CR H E (.str "part"))
theorem okPutInit (T : TPut K mg) (N : TNeed K mg) : FnOk P w K mg base (L2.CX P w) 4 T.fI T.fd ["self", "part"] (spPutInit K T.C N.IR.C) := by
  refine T.F.okX scPutInit (fun vs H Q E h => ?_) (fun cdv A outer s H vs Q E hr h => ?_)
  · obtain ⟨x, dx, v, d, rfl, _⟩ := h
    rfl
  · obtain ⟨x, dx, v, d, rfl, hx, hd, hl, q1, q2⟩ := h
    refine ⟨_, pss_cons (ps_expr (pe_callS (okNeed N) hr rfl N.need.m N.need.F.kp N.need.b (fun σ => passAt (takes_of rfl rfl rfl rfl) σ) (pa_cons (pv 1) (pa_cons pe_str pa_nil))))
      (pss_cons (ps_fld (pv 0) pe_str rfl) (pss_one (ps_fld (pv 0) (pv 1) rfl))), ?_⟩
    refine ⟨_, rfl, v, _, d, rfl, hd, hl, fun hn H1 hs hm => ?_, fun hn => q2 hn⟩
    refine ⟨_, rfl, x, T.C, dx, [], rfl, hs x _ hx, T.cl, T.noW, (by show 0 < 1000; decide), _, rfl, _, rfl, x, T.C, dx, _, rfl, upd_same, T.cl, T.noF, (by show 1 < 1000; decide), ?_⟩
    refine q1 hn _ (fun b o e n => ?_) (hm.trans (Mo.upd.trans Mo.upd)) upd_same
    rw [upd_ne n, upd_ne n]
    exact hs b o e
/-! ### Open -/
abbrev sOpenInit : Stmt := inClass (top 21) 0
theorem scOpenInit : FnScope ["self", "name"] ["self", "name"] (defScope sOpenInit) := ⟨rfl, rfl, rfl, by decide +kernel, rfl, by decide +kernel, by decide +kernel⟩
structure TOpen (K : PySem.W.Frag) (mg : Str → Option Value) : Type extends TCls K mg "Open" "Open.__init__" sOpenInit ["self", "name"] where
  noF : NoAttr K C "name"
def insOpen (C dx : Addr) (v : V) : HO := .ins C dx (putF "name" v (putF "word" (.str "open") []))
def spOpenInit (K : PySem.W.Frag) (C CR : Addr) : Sp := fun vs H Q E => ∃ (x dx : Addr) (v : V) (d : PyData), vs = [.ref x, v] ∧ H x = some (.ins C dx []) ∧ Dp K H v d ∧ dlen d ∧
  (nameD d = true → ∀ H', KpI x H H' → Mo H H' → H' x = some (insOpen C dx v) → Q .non H') ∧ (nameD d = false → RaiseW CR H E (.str "name"))
theorem okOpenInit (T : TOpen K mg) (N : TNeed K mg) : FnOk P w K mg base (L2.CX P w) 4 T.fI T.fd ["self", "name"] (spOpenInit K T.C N.IR.C) := by
  refine T.F.okX scOpenInit (fun vs H Q E h => ?_) (fun cdv A outer s H vs Q E hr h => ?_)
  · obtain ⟨x, dx, v, d, rfl, _⟩ := h
    rfl
  · obtain ⟨x, dx, v, d, rfl, hx, hd, hl, q1, q2⟩ := h
    refine ⟨_, pss_cons (ps_expr (pe_callS (okNeed N) hr rfl N.need.m N.need.F.kp N.need.b (fun σ => passAt (takes_of rfl rfl rfl rfl) σ) (pa_cons (pv 1) (pa_cons pe_str pa_nil))))
      (pss_cons (ps_fld (pv 0) pe_str rfl) (pss_one (ps_fld (pv 0) (pv 1) rfl))), ?_⟩
    refine ⟨_, rfl, v, _, d, rfl, hd, hl, fun hn H1 hs hm => ?_, fun hn => q2 hn⟩
    refine ⟨_, rfl, x, T.C, dx, [], rfl, hs x _ hx, T.cl, T.noW, (by show 0 < 1000; decide), _, rfl, _, rfl, x, T.C, dx, _, rfl, upd_same, T.cl, T.noF, (by show 1 < 1000; decide), ?_⟩
    refine q1 hn _ (fun b o e n => ?_) (hm.trans (Mo.upd.trans Mo.upd)) upd_same
    rw [upd_ne n, upd_ne n]
    exact hs b o e
/-! ### Note, Skip, Set -/
abbrev sNoteInit : Stmt := inClass (top 14) 0
theorem scNoteInit : FnScope ["self", "counter", "label"] ["self", "counter", "label"] (defScope sNoteInit) := ⟨rfl, rfl, rfl, by decide +kernel, rfl, by decide +kernel, by decide +kernel⟩
structure TNote (K : PySem.W.Frag) (mg : Str → Option Value) : Type where
  C : Addr
  fI : Addr
  fd : FuncData
  F : FunD K "__init__" "Note.__init__" (defArgs sNoteInit) (defBody sNoteInit) (defScope sNoteInit) [.str ""] [] fI fd
  b : Binds K fd ["self", "counter", "label"] []
  m : mg "Note" = some (.ref C)
  M : Mk K C fI
  cl : Cls K C
  noW : NoAttr K C "word"
  noC : NoAttr K C "counter"
  noL : NoAttr K C "label"
def insNote (C dx : Addr) (v u : V) : HO := .ins C dx (putF "label" u (putF "counter" v (putF "word" (.str "note") [])))
/-- the label of a note -/
def labD (d : PyData) : Bool := PyData.eqv d (.str "") || nameD d
def spNoteInit (K : PySem.W.Frag) (C CR : Addr) : Sp := fun vs H Q E => ∃ (x dx : Addr) (v u : V) (d e : PyData), vs = [.ref x, v, u] ∧ H x = some (.ins C dx []) ∧ Dp K H v d ∧ dlen d ∧ Dp K H u e ∧ dlen e ∧ SeqAt.shaped e = true ∧
  (nameD d = true → labD e = true → ∀ H', KpI x H H' → Mo H H' → H' x = some (insNote C dx v u) → Q .non H') ∧ (nameD d = false → RaiseW CR H E (.str "counter")) ∧ (nameD d = true → labD e = false → RaiseW CR H E (.str "label"))
theorem okNoteInit (T : TNote K mg) (N : TNeed K mg) : FnOk P w K mg base (L2.CX P w) 4 T.fI T.fd ["self", "counter", "label"] (spNoteInit K T.C N.IR.C) := by
  refine T.F.ok scNoteInit (fun vs H Q E h => ?_) (fun cdv A outer s H vs Q E hr h => ?_)
  · obtain ⟨x, dx, v, u, d, e, rfl, _⟩ := h
    rfl
  · obtain ⟨x, dx, v, u, d, e, rfl, hx, hd, hl, he, hl2, hsh, q1, q2, q3⟩ := h
    refine ⟨_, pss_cons (ps_expr (pe_callS (okNeed N) hr rfl N.need.m N.need.F.kp N.need.b (fun σ => passAt (takes_of rfl rfl rfl rfl) σ) (pa_cons (pv 1) (pa_cons pe_str pa_nil))))
      (pss_cons (ps_if (pt_cmpR (op_neD hr.units) (pv 2) pe_str (nomark _)) (pss_one (ps_expr (pe_callS (okNeed N) hr rfl N.need.m N.need.F.kp N.need.b (fun σ => passAt (takes_of rfl rfl rfl rfl) σ) (pa_cons (pv 2) (pa_cons pe_str pa_nil))))) pss_nil)
      (pss_cons (ps_fld (pv 0) pe_str rfl) (pss_cons (ps_fld (pv 0) (pv 1) rfl) (pss_one (ps_fld (pv 0) (pv 2) rfl))))), ?_⟩
    refine ⟨_, rfl, v, _, d, rfl, hd, hl, fun hn H1 hs hm => ?_, fun hn => q2 hn⟩
    refine ⟨_, rfl, e, .str "", dp_same hs e u he, .str "", hsh, (by decide +kernel), _, rfl, ?_⟩
    have fin : ∀ (H2 : Hp) (o1 o2 : HO), labD e = true → Same H H2 → Mo H H2 → Q .non (upd (upd (upd H2 x o1) x o2) x (insNote T.C dx v u)) := fun H2 o1 o2 hlab hs2 hm2 => q1 hn hlab _ (fun b o eb n => by
      rw [upd_ne n, upd_ne n, upd_ne n]
      exact hs2 b o eb) (hm2.trans (Mo.upd.trans (Mo.upd.trans Mo.upd))) upd_same
    cases h1 : PyData.eqv e (.str "") with
    | true =>
      refine iteF ?_
      have hlab : labD e = true := by unfold labD; rw [h1]; rfl
      refine ⟨_, rfl, x, T.C, dx, [], rfl, hs x _ hx, T.cl, T.noW, (by show 0 < 1000; decide), _, rfl, _, rfl, x, T.C, dx, _, rfl, upd_same, T.cl, T.noC, (by show 1 < 1000; decide), _, rfl, _, rfl, x, T.C, dx, _, rfl, upd_same, T.cl, T.noL, ?_, ?_⟩
      · exact small2
      · exact fin H1 _ _ hlab hs hm
    | false =>
      refine iteT ?_
      refine ⟨_, rfl, u, _, e, rfl, dp_same hs e u he, hl2, fun hn2 H2 hs2 hm2 => ?_, fun hn2 => ?_⟩
      · have hlab : labD e = true := by unfold labD; rw [hn2, Bool.or_true]
        refine ⟨_, rfl, x, T.C, dx, [], rfl, hs2 x _ (hs x _ hx), T.cl, T.noW, (by show 0 < 1000; decide), _, rfl, _, rfl, x, T.C, dx, _, rfl, upd_same, T.cl, T.noC, (by show 1 < 1000; decide), _, rfl, _, rfl, x, T.C, dx, _, rfl, upd_same, T.cl, T.noL, ?_, ?_⟩
        · exact small2
        · exact fin H2 _ _ hlab (hs.trans hs2) (hm.trans hm2)
      · have hlab : labD e = false := by unfold labD; rw [h1, hn2]; rfl
        exact (q3 hn hlab).back hs hm
abbrev sSkipInit : Stmt := inClass (top 15) 0
theorem scSkipInit : FnScope ["self", "counter", "by"] ["self", "counter", "by"] (defScope sSkipInit) := ⟨rfl, rfl, rfl, by decide +kernel, rfl, by decide +kernel, by decide +kernel⟩
structure TSkip (K : PySem.W.Frag) (mg : Str → Option Value) : Type extends TCls K mg "Skip" "Skip.__init__" sSkipInit ["self", "counter", "by"] where
  noC : NoAttr K C "counter"
  noF : NoAttr K C "by"
def insSkip (C dx : Addr) (v u : V) : HO := .ins C dx (putF "by" u (putF "counter" v (putF "word" (.str "skip") [])))
def skipD (d : PyData) : Bool := numD d && (match d with | .int i => decide (i ≠ 0) | _ => false)
def spSkipInit (K : PySem.W.Frag) (C CR : Addr) : Sp := fun vs H Q E => ∃ (x dx : Addr) (v u : V) (d e : PyData), vs = [.ref x, v, u] ∧ H x = some (.ins C dx []) ∧ Dp K H v d ∧ dlen d ∧ Dp K H u e ∧
  (nameD d = true → skipD e = true → ∀ H', KpI x H H' → Mo H H' → H' x = some (insSkip C dx v u) → Q .non H') ∧ (nameD d = false → RaiseW CR H E (.str "counter")) ∧ (nameD d = true → skipD e = false → RaiseW CR H E (.str "by"))
theorem okSkipInit (T : TSkip K mg) (N : TNeed K mg) : FnOk P w K mg base (L2.CX P w) 4 T.fI T.fd ["self", "counter", "by"] (spSkipInit K T.C N.IR.C) := by
  refine T.F.okX scSkipInit (fun vs H Q E h => ?_) (fun cdv A outer s H vs Q E hr h => ?_)
  · obtain ⟨x, dx, v, u, d, e, rfl, _⟩ := h
    rfl
  · obtain ⟨x, dx, v, u, d, e, rfl, hx, hd, hl, he, q1, q2, q3⟩ := h
    refine ⟨_, pss_cons (ps_expr (pe_callS (okNeed N) hr rfl N.need.m N.need.F.kp N.need.b (fun σ => passAt (takes_of rfl rfl rfl rfl) σ) (pa_cons (pv 1) (pa_cons pe_str pa_nil))))
      (pss_cons (ps_if (PW.pt (pw_or (pt_not (pt_val (pe_call N.okNumber (hr.mono (by decide)) rfl N.isNumber.m N.isNumber.F.kp N.isNumber.b .nil pass0 (pa_cons (pv 2) pa_nil)))) (pw_or1 (pt_cmpR op_eq (pv 2) pe_int (nomark _)))))
        (pss_one (ps_raise rfl (takes_of rfl rfl rfl rfl) (pmk_oex N.IR.O N.IR.iC N.IR.tI (okIRInit N.IR) (hr.mono (by decide)) N.IR.b .nil pass0 rfl N.IR.m (pa_cons pe_str pa_nil)))) pss_nil)
      (pss_cons (ps_fld (pv 0) pe_str rfl) (pss_cons (ps_fld (pv 0) (pv 1) rfl) (pss_one (ps_fld (pv 0) (pv 2) rfl))))), ?_⟩
    refine ⟨_, rfl, v, _, d, rfl, hd, hl, fun hn H1 hs hm => ?_, fun hn => q2 hn⟩
    have he1 := dp_same hs e u he
    have raises : skipD e = false → ∀ a, H1 a = none → ∀ dx2, (upd H1 a (exo a N.IR.C none)) dx2 = none → dx2 ≠ a → _ := fun hf a ha dx2 h1 h2 => ir_made hs hm (q3 hn hf) ha dx2 h1 h2
    refine ⟨_, rfl, u, e, rfl, he1, ?_⟩
    cases h1 : numD e with
    | false =>
      have hg : skipD e = false := by unfold skipD; rw [h1]; rfl
      refine ⟨_, rfl, ?_⟩
      refine iteT ?_
      refine iteT ?_
      refine ⟨(by show 1 ≤ 1000; decide), fun a ha => ⟨a, N.IR.C, _, rfl, upd_same, N.IR.O, N.IR.noF, fun dx2 h1 h2 => ?_⟩⟩
      have hd1 : H1 dx2 = none := by rw [upd_ne h2] at h1; exact h1
      exact ⟨rfl, dx2, _, upd_same, by rw [upd_ne h2, upd_same], hd1, raises hg a ha dx2 h1 h2⟩
    | true =>
      refine ⟨_, rfl, ?_⟩
      refine iteF ?_
      obtain ⟨i, rfl⟩ : ∃ i : Int, e = .int i := by
        cases e <;> first | exact ⟨_, rfl⟩ | (exact absurd h1 (by decide)) | cases h1
      cases he1
      refine ⟨_, rfl, rfl, _, rfl, ?_⟩
      refine ite2 (fun hz => ?_) (fun hz => ?_)
      · have hz2 : V.int i = V.int 0 := of_decide_eq_true hz
        have hg : skipD (.int i) = false := by
          cases hz2
          rfl
        refine ⟨(by show 1 ≤ 1000; decide), fun a ha => ⟨a, N.IR.C, _, rfl, upd_same, N.IR.O, N.IR.noF, fun dx2 h1 h2 => ?_⟩⟩
        have hd1 : H1 dx2 = none := by rw [upd_ne h2] at h1; exact h1
        exact ⟨rfl, dx2, _, upd_same, by rw [upd_ne h2, upd_same], hd1, raises hg a ha dx2 h1 h2⟩
      · have hz2 : ¬ V.int i = V.int 0 := fun z => hz (decide_eq_true z)
        have hg : skipD (.int i) = true := by
          unfold skipD
          rw [h1]
          exact decide_eq_true (fun z => hz2 (by cases z; rfl))
        refine ⟨_, rfl, x, T.C, dx, [], rfl, hs x _ hx, T.cl, T.noW, (by show 0 < 1000; decide), _, rfl, _, rfl, x, T.C, dx, _, rfl, upd_same, T.cl, T.noC, (by show 1 < 1000; decide), _, rfl, _, rfl, x, T.C, dx, _, rfl, upd_same, T.cl, T.noF, small2, ?_⟩
        refine q1 hn hg _ (fun b o eb n => ?_) (hm.trans (Mo.upd.trans (Mo.upd.trans Mo.upd))) upd_same
        rw [upd_ne n, upd_ne n, upd_ne n]
        exact hs b o eb
abbrev sSetInit : Stmt := inClass (top 16) 0
theorem scSetInit : FnScope ["self", "counter", "to"] ["self", "counter", "to"] (defScope sSetInit) := ⟨rfl, rfl, rfl, by decide +kernel, rfl, by decide +kernel, by decide +kernel⟩
structure TSet (K : PySem.W.Frag) (mg : Str → Option Value) : Type extends TCls K mg "Set" "Set.__init__" sSetInit ["self", "counter", "to"] where
  noC : NoAttr K C "counter"
  noF : NoAttr K C "to"
def insSet (C dx : Addr) (v u : V) : HO := .ins C dx (putF "to" u (putF "counter" v (putF "word" (.str "set") [])))
def setD (d : PyData) : Bool := numD d
def spSetInit (K : PySem.W.Frag) (C CR : Addr) : Sp := fun vs H Q E => ∃ (x dx : Addr) (v u : V) (d e : PyData), vs = [.ref x, v, u] ∧ H x = some (.ins C dx []) ∧ Dp K H v d ∧ dlen d ∧ Dp K H u e ∧
  (nameD d = true → setD e = true → ∀ H', KpI x H H' → Mo H H' → H' x = some (insSet C dx v u) → Q .non H') ∧ (nameD d = false → RaiseW CR H E (.str "counter")) ∧ (nameD d = true → setD e = false → RaiseW CR H E (.str "to"))
theorem okSetInit (T : TSet K mg) (N : TNeed K mg) : FnOk P w K mg base (L2.CX P w) 4 T.fI T.fd ["self", "counter", "to"] (spSetInit K T.C N.IR.C) := by
  refine T.F.okX scSetInit (fun vs H Q E h => ?_) (fun cdv A outer s H vs Q E hr h => ?_)
  · obtain ⟨x, dx, v, u, d, e, rfl, _⟩ := h
    rfl
  · obtain ⟨x, dx, v, u, d, e, rfl, hx, hd, hl, he, q1, q2, q3⟩ := h
    refine ⟨_, pss_cons (ps_expr (pe_callS (okNeed N) hr rfl N.need.m N.need.F.kp N.need.b (fun σ => passAt (takes_of rfl rfl rfl rfl) σ) (pa_cons (pv 1) (pa_cons pe_str pa_nil))))
      (pss_cons (ps_if ((pt_not (pt_val (pe_call N.okNumber (hr.mono (by decide)) rfl N.isNumber.m N.isNumber.F.kp N.isNumber.b .nil pass0 (pa_cons (pv 2) pa_nil)))))
        (pss_one (ps_raise rfl (takes_of rfl rfl rfl rfl) (pmk_oex N.IR.O N.IR.iC N.IR.tI (okIRInit N.IR) (hr.mono (by decide)) N.IR.b .nil pass0 rfl N.IR.m (pa_cons pe_str pa_nil)))) pss_nil)
      (pss_cons (ps_fld (pv 0) pe_str rfl) (pss_cons (ps_fld (pv 0) (pv 1) rfl) (pss_one (ps_fld (pv 0) (pv 2) rfl))))), ?_⟩
    refine ⟨_, rfl, v, _, d, rfl, hd, hl, fun hn H1 hs hm => ?_, fun hn => q2 hn⟩
    have he1 := dp_same hs e u he
    have raises : setD e = false → ∀ a, H1 a = none → ∀ dx2, (upd H1 a (exo a N.IR.C none)) dx2 = none → dx2 ≠ a → _ := fun hf a ha dx2 h1 h2 => ir_made hs hm (q3 hn hf) ha dx2 h1 h2
    refine ⟨_, rfl, u, e, rfl, he1, ?_⟩
    cases hg : setD e with
    | true =>
      have hg2 : numD e = true := hg
      refine ⟨_, by rw [hg2], ?_⟩
      refine iteF ?_
      refine ⟨_, rfl, x, T.C, dx, [], rfl, hs x _ hx, T.cl, T.noW, (by show 0 < 1000; decide), _, rfl, _, rfl, x, T.C, dx, _, rfl, upd_same, T.cl, T.noC, (by show 1 < 1000; decide), _, rfl, _, rfl, x, T.C, dx, _, rfl, upd_same, T.cl, T.noF, small2, ?_⟩
      refine q1 hn hg _ (fun b o eb n => ?_) (hm.trans (Mo.upd.trans (Mo.upd.trans Mo.upd))) upd_same
      rw [upd_ne n, upd_ne n, upd_ne n]
      exact hs b o eb
    | false =>
      have hg2 : numD e = false := hg
      refine ⟨_, by rw [hg2], ?_⟩
      refine iteT ?_
      refine ⟨(by show 1 ≤ 1000; decide), fun a ha => ⟨a, N.IR.C, _, rfl, upd_same, N.IR.O, N.IR.noF, fun dx2 h1 h2 => ?_⟩⟩
      have hd1 : H1 dx2 = none := by rw [upd_ne h2] at h1; exact h1
      exact ⟨rfl, dx2, _, upd_same, by rw [upd_ne h2, upd_same], hd1, raises hg a ha dx2 h1 h2⟩
end
end Pn

namespace Pn
open PySem L2
abbrev sLIsName : Stmt := top 26
def alpha : Str := "abcdefghijklmnopqrstuvwxyz"
theorem alpha_mem (c : Nat) : (!decide (c ∈ alpha.cps.toList)) = !lok c := by
  have h1 : ∀ x ∈ alpha.cps.toList, lok x = true := List.all_eq_true.mp (by decide +kernel)
  have h2 : ∀ x ∈ List.range 123, lok x = true → x ∈ alpha.cps.toList := by
    have : ((List.range 123).all fun x => !lok x || decide (x ∈ alpha.cps.toList)) = true := by decide +kernel
    intro x hx hl
    have q := List.all_eq_true.mp this x hx
    rw [hl] at q
    simpa using q
  cases h : lok c with
  | true =>
    have h3 : c < 123 := by
      unfold lok at h
      have := (Bool.and_eq_true_iff.mp h).2
      have := of_decide_eq_true this
      omega
    rw [decide_eq_true (h2 c (List.mem_range.mpr h3) h)]
  | false =>
    rw [decide_eq_false fun z => by rw [h1 c z] at h; cases h]
def badL (z : Str) (i : Nat) : List Nat := (z.cps.toList.take i).filter fun c => !lok c
theorem badL_all (z : Str) : (badL z z.cps.size).isEmpty = z.cps.toList.all lok := by
  unfold badL
  rw [show z.cps.size = z.cps.toList.length from Array.length_toList.symm, List.take_length]
  cases h : z.cps.toList.all lok with
  | true =>
    have : z.cps.toList.filter (fun c => !lok c) = [] := List.filter_eq_nil_iff.mpr fun c hc => by
      have := List.all_eq_true.mp h c hc
      rw [this]
      decide
    rw [this]
    rfl
  | false =>
    rw [Bool.eq_false_iff]
    intro q
    have q2 : z.cps.toList.filter (fun c => !lok c) = [] := List.isEmpty_iff.mp q
    have q3 := List.filter_eq_nil_iff.mp q2
    have : z.cps.toList.all lok = true := List.all_eq_true.mpr fun c hc => by
      have := q3 c hc
      simpa using this
    rw [this] at h
    cases h
theorem badL_succ {z : Str} {i c : Nat} (h : z.cps[i]? = some c) : badL z (i + 1) = if lok c then badL z i else badL z i ++ [c] := by
  unfold badL
  have h2 : z.cps.toList[i]? = some c := by rw [Array.getElem?_toList]; exact h
  have h3 : z.cps.toList.take (i + 1) = z.cps.toList.take i ++ [c] := by
    rw [List.take_add_one, h2]
    rfl
  rw [h3, List.filter_append]
  cases h4 : lok c <;> simp [h4]
def sgV (c : Nat) : V := .str ⟨#[c]⟩
def sgD (c : Nat) : PyData := .str ⟨#[c]⟩
theorem sg_all {K : PySem.W.Frag} {H : Hp} : ∀ l : List Nat, DpAll K H (l.map sgV) (l.map sgD)
  | [] => .nil
  | c :: l => .cons (.str _) (sg_all l)
theorem sg_lay : ∀ l : List Nat, (∀ c ∈ l, c < 0x110000) → PyData.canLayAll0 (l.map sgD) = true
  | [], _ => by simp [PyData.canLayAll0]
  | c :: l, h => by
    have h1 : PyData.strOk ⟨#[c]⟩ = true := by
      unfold PyData.strOk
      simp only [Array.all_eq_true']
      intro x hx
      have : x = c := by simpa using hx
      rw [this]
      exact decide_eq_true (h c List.mem_cons_self)
    show (PyData.strOk ⟨#[c]⟩ && PyData.canLayAll0 (l.map sgD)) = true
    rw [h1, sg_lay l fun x hx => h x (List.mem_cons_of_mem _ hx)]
    rfl
theorem sg_depth : ∀ l : List Nat, PyData.depthAll (l.map sgD) = 0
  | [] => by simp [PyData.depthAll]
  | c :: l => by simp [PyData.depthAll, sgD, PyData.depth, sg_depth l]
theorem sg_shaped (l : List Nat) (h : ∀ c ∈ l, c < 0x110000) : SeqAt.shaped (.list (l.map sgD)) = true := by
  show (PyData.canLay0 (.list (l.map sgD)) && decide (PyData.depth (.list (l.map sgD)) ≤ 64)) = true
  rw [Bool.and_eq_true]
  refine ⟨by simp only [PyData.canLay0]; exact sg_lay l h, decide_eq_true ?_⟩
  simp only [PyData.depth, sg_depth]
  decide
theorem sg_nil (l : List Nat) : PyData.eqv (.list (l.map sgD)) (.list []) = l.isEmpty := by
  cases l <;> simp [PyData.eqv, PyData.eqvAll]
theorem codes_ok {z : Str} (h : SeqAt.shaped (.str z) = true) : ∀ c ∈ z.cps.toList, c < 0x110000 := fun c hc => by
  have h1 := SeqAt.canLay_of_shaped h
  have h2 : PyData.strOk z = true := h1
  unfold PyData.strOk at h2
  simp only [Array.all_eq_true'] at h2
  exact of_decide_eq_true (h2 c (by simpa using hc))
def spLIsName (K : PySem.W.Frag) : Sp := fun vs H Q _ => ∃ (v : V) (d : PyData), vs = [v] ∧ Dp K H v d ∧ dlen d ∧ SeqAt.shaped d = true ∧ ∀ H', Same H H' → Mo H H' → Q (.bl (nameD d)) H'
section
variable {P : Program} {w : World} {K : PySem.W.Frag} {mg : Str → Option Value} {base : Heap}
theorem scLIsName : FnScope ["_law_value", "_law_barred", "_law_letter"] ["_law_value"] (defScope sLIsName) := ⟨rfl, rfl, rfl, by decide +kernel, rfl, by decide +kernel, by decide +kernel⟩
theorem ok_lisname {f : Addr} {fd : FuncData} (F : Fun K "_law_is_name" "_law_is_name" sLIsName f fd) (T : TChk K mg) : FnOk P w K mg base CX0 1 f fd ["_law_value"] (spLIsName K) := by
  refine F.ok scLIsName (fun vs H Q E h => ?_) (fun cdv A outer s H vs Q E hr h => ?_)
  · obtain ⟨v, d, rfl, _⟩ := h
    rfl
  · obtain ⟨v, d, rfl, hd, hl, hsh, q⟩ := h
    refine ⟨_, pss_cons (ps_set (i := 1) scLIsName.nd rfl (Or.inl rfl) (pe_tup (pa_cons pe_str (pa_cons pe_str (pa_cons pe_str (pa_cons pe_str (pa_cons pe_str (pa_cons pe_str (pa_cons pe_str (pa_cons pe_str (pa_cons pe_str pa_nil)))))))))))
      (pss_cons (ps_if (PW.pt (pw_or (pt_not (pt_val (pe_callB call_isi (by rfl) T.mIsi (by decide +kernel) (pa_cons (pv 0) (pa_cons (pe_bltn (v := .ty "str") (by rfl) T.mStr (by decide +kernel) rfl) pa_nil)))))
        (pw_or (pt_cmpR op_in_seq (pv 0) (pv 1) rfl) (pw_or1 (pt_not (pt_chain op_lt op_lt pe_int (pe_callB call_len_str (by rfl) T.mLen PySem.boot_len (pa_cons (pv 0) pa_nil)) pe_int)))))) (pss_one (ps_ret pe_bl)) pss_nil)
      (pss_one (ps_ret (pe_cmpR (op_eqD hr.units) (pe_lc (own := [("_law_letter", 2)]) (g := gName 2) (by rfl) scLIsName.nd (pi_str (pv 0))
          (blkOk_by (N := ["_law_value", "_law_barred", "_law_letter"]) (sc := defScope sLIsName) (by decide +kernel)) (fun _ _ _ _ _ => pg_name (i := 2) scLIsName.nd rfl (Or.inl rfl))
          (fun _ _ _ _ _ => pts_one (pt_cmpR op_notIn_sign (pv 2) pe_str rfl)) (fun _ _ _ _ _ => pv 2)) (pe_lst pa_nil) (nomark _))))), ?_⟩
    refine ⟨(by show 9 ≤ sizeLine; decide), fun p hp => ?_⟩
    have s1 : Same H (upd H p (.tup rowV)) := Same.new hp
    have m1 : Mo H (upd H p (.tup rowV)) := Mo.upd
    have hd1 := dp_same s1 d v hd
    refine ⟨_, rfl, v, _, _, _, _, rfl, .ty _, dp_ty hd1, kit_ty (kit_str d), _, rfl, ?_⟩
    cases d with
    | str z =>
      cases hd
      have hl' : z.length ≤ 900 := hl
      refine ⟨_, rfl, _, rfl, p, rowV, rfl, .inr (SqT.of upd_same), rfl, rfl, _, rfl, ?_⟩
      cases e : inV (.str z) rowV with
      | true =>
        have e2 : nameD (.str z) = false := by show nameS z = false; unfold nameS; rw [e]; rfl
        rw [e2] at q
        refine iteT ?_
        exact q _ s1 m1
      | false =>
        refine iteF ?_
        have e2 : nameD (.str z) = ((decide (1 ≤ (z.length : Int)) && decide ((z.length : Int) ≤ 4)) && z.cps.toList.all lok) := by show nameS z = _; unfold nameS; rw [e]; rfl
        rw [e2] at q
        refine ⟨_, rfl, z, rfl, Nat.le_trans hl' (by decide), _, _, rfl, rfl, _, rfl, ?_⟩
        cases h1 : decide ((0 : Int) < (z.length : Int)) with
        | false =>
          have h2 : decide (1 ≤ (z.length : Int)) = false := decide_eq_false (by have := of_decide_eq_false h1; omega)
          rw [h2] at q
          refine iteF ?_
          refine ⟨false, rfl, ?_⟩
          exact iteT (q _ s1 m1)
        | true =>
          have h2 : decide (1 ≤ (z.length : Int)) = true := decide_eq_true (by have := of_decide_eq_true h1; omega)
          rw [h2] at q
          refine iteT ?_
          refine ⟨_, _, rfl, rfl, _, rfl, ?_⟩
          cases h3 : decide ((z.length : Int) < 5) with
          | false =>
            have h4 : decide ((z.length : Int) ≤ 4) = false := decide_eq_false (by have := of_decide_eq_false h3; omega)
            rw [h4] at q
            exact iteT (q _ s1 m1)
          | true =>
            have h4 : decide ((z.length : Int) ≤ 4) = true := decide_eq_true (by have := of_decide_eq_true h3; omega)
            rw [h4] at q
            refine iteF ?_
            refine ⟨_, rfl, z, rfl, fun D hD => lc_it walk_str (fun i Hi => Hi = upd (upd H p (.tup rowV)) D (.lst ((badL z i).map sgV))) rfl (fun _ _ _ _ => trivial) (fun i x Hi Hj hi hP hY => ?_) (fun Hi hP => ?_)⟩
            · obtain ⟨rfl, c, hc, rfl⟩ := hY
              subst hP
              have hi2 : i < 5 := by
                have : z.cps.size = z.length := rfl
                have := of_decide_eq_true h3
                omega
              have hsz : (badL z i).length ≤ 5 := Nat.le_trans (List.length_filter_le _ _) (by rw [List.length_take]; omega)
              refine ⟨rfl, _, rfl, c, alpha, rfl, rfl, _, rfl, ?_⟩
              rw [badL_succ hc]
              cases h5 : lok c with
              | true =>
                have h6 : (!decide (c ∈ alpha.cps.toList)) = false := by rw [alpha_mem, h5]; rfl
                rw [h6]
                exact rfl
              | false =>
                have h6 : (!decide (c ∈ alpha.cps.toList)) = true := by rw [alpha_mem, h5]; rfl
                rw [h6]
                refine ⟨_, rfl, (badL z i).map sgV, upd_same, small1000 (by rw [List.length_map]; omega), ?_⟩
                funext b
                by_cases eb : b = D
                · rw [eb, upd_same, if_neg (by decide), upd_same, List.map_append]
                  rfl
                · rw [upd_ne eb, upd_ne eb, upd_ne eb]
            · subst hP
              have hall := badL_all z
              refine ⟨by show 0 ≤ sizeLine; decide, fun l hl2 => ?_⟩
              have s2 : Same (upd H p (.tup rowV)) (upd (upd H p (.tup rowV)) D (.lst ((badL z z.cps.size).map sgV))) := Same.new hD
              refine ⟨.list ((badL z z.cps.size).map sgD), .list [], .lst (SqL.of (Same.new hl2 D _ upd_same)) (sg_all _), .lst (SqL.of upd_same) .nil, sg_shaped _ (fun c hc => codes_ok hsh c (List.mem_of_mem_take (List.mem_filter.mp hc).1)), by decide +kernel, ?_⟩
              rw [sg_nil, hall]
              exact q _ ((s1.trans s2).trans (Same.new hl2)) ((m1.trans Mo.upd).trans Mo.upd)
    | none => exact q _ s1 m1
    | list ds => exact q _ s1 m1
    | tuple ds => exact q _ s1 m1
    | dict ds => exact q _ s1 m1
    | int i => exact q _ s1 m1
    | bool i => exact q _ s1 m1
end
end Pn

namespace Pn
open PySem L2
abbrev sLTry : Stmt := top 29
abbrev sLHeard : Stmt := top 30
abbrev sLIsNumber : Stmt := top 31
abbrev sLaw : Stmt := top 32
/-- the kinds of rows -/
inductive Kd where
  | note | skip | set | keep | back | ref | put | opn
def Kd.nm : Kd → Str
  | .note => "note"
  | .skip => "skip"
  | .set => "set"
  | .keep => "keep"
  | .back => "back"
  | .ref => "ref"
  | .put => "put"
  | .opn => "open"
/-- the word that the constructor of a kind raises -/
def dueW : Kd → PyData → PyData → Option Str
  | .note, d, e => if nameD d = true then (if labD e = true then none else some "label") else some "counter"
  | .skip, d, e => if nameD d = true then (if skipD e = true then none else some "by") else some "counter"
  | .set, d, e => if nameD d = true then (if setD e = true then none else some "to") else some "counter"
  | .keep, d, _ => if nameD d = true then none else some "counter"
  | .back, d, _ => if nameD d = true then none else some "counter"
  | .ref, d, _ => if nameD d = true then none else some "label"
  | .put, d, _ => if nameD d = true then none else some "part"
  | .opn, d, _ => if nameD d = true then none else some "name"
structure TRows (K : PySem.W.Frag) (mg : Str → Option Value) : Type where
  N : TNeed K mg
  note : TNote K mg
  skip : TSkip K mg
  set : TSet K mg
  keep : TKeep K mg
  back : TBack K mg
  ref : TRef K mg
  put : TPut K mg
  open_ : TOpen K mg
def spTry (K : PySem.W.Frag) (CR : Addr) : Sp := fun vs H Q E => ∃ (kd : Kd) (v u : V) (d e : PyData), vs = [.str kd.nm, v, u] ∧ Dp K H v d ∧ dlen d ∧ Dp K H u e ∧ dlen e ∧ SeqAt.shaped e = true ∧
  (dueW kd d e = none → ∀ (r : Addr) (H' : Hp), Same H H' → Mo H H' → Q (.ref r) H') ∧ (∀ wd, dueW kd d e = some wd → RaiseW CR H E (.str wd))
section
variable {P : Program} {w : World} {K : PySem.W.Frag} {mg : Str → Option Value} {base : Heap}
theorem scLTry : FnScope ["_law_kind", "_law_first", "_law_second"] ["_law_kind", "_law_first", "_law_second"] (defScope sLTry) := ⟨rfl, rfl, rfl, by decide +kernel, rfl, by decide +kernel, by decide +kernel⟩
theorem kpi_same {H H1 : Hp} {x dx : Addr} {o o2 : HO} (hx : H x = none) (hdx : H dx = none) (k : KpI x (upd (upd H dx o) x o2) H1) : Same H H1 := fun b u e => by
  have n1 : b ≠ x := ne_of_none e hx
  have n2 : b ≠ dx := ne_of_none e hdx
  exact k b u (by rw [upd_ne n1, upd_ne n2]; exact e) n1
theorem ins_same {H : Hp} {x dx : Addr} {o o2 : HO} (hx : H x = none) (hdx : H dx = none) : Same H (upd (upd H dx o) x o2) := fun b u e => by
  rw [upd_ne (ne_of_none e hx), upd_ne (ne_of_none e hdx)]
  exact e
theorem mo_new {H : Hp} {p : Addr} {o : HO} (_ : H p = none) : Mo H (upd H p o) := Mo.upd
theorem ins_mo {H : Hp} {x dx : Addr} {o o2 : HO} (_ : H x = none) (_ : H dx = none) : Mo H (upd (upd H dx o) x o2) := Mo.upd.trans Mo.upd
theorem ok_ltry {f : Addr} {fd : FuncData} (F : Fun K "_law_try" "_law_try" sLTry f fd) (T : TRows K mg) : FnOk P w K mg base (L2.CX P w) 6 f fd ["_law_kind", "_law_first", "_law_second"] (spTry K T.N.IR.C) := by
  refine F.okX scLTry (fun vs H Q E h => ?_) (fun cdv A outer s H vs Q E hr h => ?_)
  · obtain ⟨kd, v, u, d, e, rfl, _⟩ := h
    rfl
  · obtain ⟨kd, v, u, d, e, rfl, hd, hl, he, hl2, hsh, q1, q2⟩ := h
    refine ⟨_, pss_cons (ps_if (pt_cmpR op_in_seq (pv 0) (pe_tup (pa_cons pe_str (pa_cons pe_str (pa_cons pe_str pa_nil)))) rfl) (pss_one (ps_ret (pe_ifExp  (pt_cmpR op_eq (pv 0) pe_str (nomark _)) (pe_make T.note.M (okNoteInit T.note T.N) (hr.mono (by decide)) rfl T.note.m T.note.b .nil (passes_call (takes_of rfl rfl rfl rfl) fun _ _ _ _ h => h) (pa_cons (pv 1) (pa_cons (pv 2) pa_nil))) (pe_ifExp  (pt_cmpR op_eq (pv 0) pe_str (nomark _)) (pe_make T.skip.M (okSkipInit T.skip T.N) (hr.mono (by decide)) rfl T.skip.m T.skip.b .nil (passes_call (takes_of rfl rfl rfl rfl) fun _ _ _ _ h => h) (pa_cons (pv 1) (pa_cons (pv 2) pa_nil))) (pe_make T.set.M (okSetInit T.set T.N) (hr.mono (by decide)) rfl T.set.m T.set.b .nil (passes_call (takes_of rfl rfl rfl rfl) fun _ _ _ _ h => h) (pa_cons (pv 1) (pa_cons (pv 2) pa_nil))))))) pss_nil)
      (pss_cons (ps_if (pt_cmpR op_in_seq (pv 0) (pe_tup (pa_cons pe_str (pa_cons pe_str pa_nil))) rfl) (pss_one (ps_ret (pe_ifExp  (pt_cmpR op_eq (pv 0) pe_str (nomark _)) (pe_make T.keep.M (okKeepInit T.keep T.N) (hr.mono (by decide)) rfl T.keep.m T.keep.b .nil (passes_call (takes_of rfl rfl rfl rfl) fun _ _ _ _ h => h) (pa_cons (pv 1) pa_nil)) (pe_make T.back.M (okBackInit T.back T.N) (hr.mono (by decide)) rfl T.back.m T.back.b .nil (passes_call (takes_of rfl rfl rfl rfl) fun _ _ _ _ h => h) (pa_cons (pv 1) pa_nil))))) pss_nil)
      (pss_one (ps_ret (pe_ifExp  (pt_cmpR op_eq (pv 0) pe_str (nomark _)) (pe_make T.ref.M (okRefInit T.ref T.N) (hr.mono (by decide)) rfl T.ref.m T.ref.b .nil (passes_call (takes_of rfl rfl rfl rfl) fun _ _ _ _ h => h) (pa_cons (pv 1) pa_nil)) (pe_ifExp  (pt_cmpR op_eq (pv 0) pe_str (nomark _)) (pe_make T.put.M (okPutInit T.put T.N) (hr.mono (by decide)) rfl T.put.m T.put.b .nil (passes_call (takes_of rfl rfl rfl rfl) fun _ _ _ _ h => h) (pa_cons (pv 1) pa_nil)) (pe_make T.open_.M (okOpenInit T.open_ T.N) (hr.mono (by decide)) rfl T.open_.m T.open_.b .nil (passes_call (takes_of rfl rfl rfl rfl) fun _ _ _ _ h => h) (pa_cons (pv 1) pa_nil))))))), ?_⟩
    cases kd
    case note =>
      refine ⟨_, rfl, (by show 3 ≤ sizeLine; decide), fun p3 hp3 => ⟨p3, _, rfl, .inr (SqT.of upd_same), rfl, rfl, _, rfl, iteTD (by decide +kernel) ?_⟩⟩
      refine ⟨_, rfl, rfl, _, rfl, iteTD (by decide +kernel) ?_⟩
      have s1 := fun o => Same.new (o := o) hp3
      have m1 := fun o => mo_new (o := o) hp3
      refine ⟨_, rfl, _, rfl, fun x dx hx hdx ne => ?_⟩
      have s2 := (s1 _).trans (ins_same (o := .own x) (o2 := .ins T.note.C dx []) hx hdx)
      have m2 := (m1 _).trans (ins_mo (o := .own x) (o2 := .ins T.note.C dx []) hx hdx)
      refine ⟨x, dx, v, u, d, e, rfl, upd_same, dp_same s2 d v hd, hl, dp_same s2 e u he, hl2, hsh, fun hn hg H1 kp m _ => ⟨rfl, q1 (by simp [dueW, hn, hg]) x H1 ((s1 _).trans (kpi_same hx hdx kp)) (m2.trans m)⟩, fun hn => (q2 "counter" (by simp [dueW, hn])).back s2 m2, fun hn hg => (q2 "label" (by simp [dueW, hn, hg])).back s2 m2⟩
    case skip =>
      refine ⟨_, rfl, (by show 3 ≤ sizeLine; decide), fun p3 hp3 => ⟨p3, _, rfl, .inr (SqT.of upd_same), rfl, rfl, _, rfl, iteTD (by decide +kernel) ?_⟩⟩
      refine ⟨_, rfl, rfl, _, rfl, iteFD (by decide +kernel) ?_⟩
      refine ⟨_, rfl, rfl, _, rfl, iteTD (by decide +kernel) ?_⟩
      have s1 := fun o => Same.new (o := o) hp3
      have m1 := fun o => mo_new (o := o) hp3
      refine ⟨_, rfl, _, rfl, fun x dx hx hdx ne => ?_⟩
      have s2 := (s1 _).trans (ins_same (o := .own x) (o2 := .ins T.skip.C dx []) hx hdx)
      have m2 := (m1 _).trans (ins_mo (o := .own x) (o2 := .ins T.skip.C dx []) hx hdx)
      refine ⟨x, dx, v, u, d, e, rfl, upd_same, dp_same s2 d v hd, hl, dp_same s2 e u he, fun hn hg H1 kp m _ => ⟨rfl, q1 (by simp [dueW, hn, hg]) x H1 ((s1 _).trans (kpi_same hx hdx kp)) (m2.trans m)⟩, fun hn => (q2 "counter" (by simp [dueW, hn])).back s2 m2, fun hn hg => (q2 "by" (by simp [dueW, hn, hg])).back s2 m2⟩
    case set =>
      refine ⟨_, rfl, (by show 3 ≤ sizeLine; decide), fun p3 hp3 => ⟨p3, _, rfl, .inr (SqT.of upd_same), rfl, rfl, _, rfl, iteTD (by decide +kernel) ?_⟩⟩
      refine ⟨_, rfl, rfl, _, rfl, iteFD (by decide +kernel) ?_⟩
      refine ⟨_, rfl, rfl, _, rfl, iteFD (by decide +kernel) ?_⟩
      have s1 := fun o => Same.new (o := o) hp3
      have m1 := fun o => mo_new (o := o) hp3
      refine ⟨_, rfl, _, rfl, fun x dx hx hdx ne => ?_⟩
      have s2 := (s1 _).trans (ins_same (o := .own x) (o2 := .ins T.set.C dx []) hx hdx)
      have m2 := (m1 _).trans (ins_mo (o := .own x) (o2 := .ins T.set.C dx []) hx hdx)
      refine ⟨x, dx, v, u, d, e, rfl, upd_same, dp_same s2 d v hd, hl, dp_same s2 e u he, fun hn hg H1 kp m _ => ⟨rfl, q1 (by simp [dueW, hn, hg]) x H1 ((s1 _).trans (kpi_same hx hdx kp)) (m2.trans m)⟩, fun hn => (q2 "counter" (by simp [dueW, hn])).back s2 m2, fun hn hg => (q2 "to" (by simp [dueW, hn, hg])).back s2 m2⟩
    case keep =>
      refine ⟨_, rfl, (by show 3 ≤ sizeLine; decide), fun p3 hp3 => ⟨p3, _, rfl, .inr (SqT.of upd_same), rfl, rfl, _, rfl, iteFD (by decide +kernel) ?_⟩⟩
      refine ⟨_, rfl, (by show 2 ≤ sizeLine; decide), fun p2 hp2 => ⟨p2, _, rfl, .inr (SqT.of upd_same), rfl, rfl, _, rfl, iteTD (by decide +kernel) ?_⟩⟩
      refine ⟨_, rfl, rfl, _, rfl, iteTD (by decide +kernel) ?_⟩
      have s1 := fun o => (Same.new hp3).trans (Same.new (o := o) hp2)
      have m1 := fun o => (mo_new hp3).trans (mo_new (o := o) hp2)
      refine ⟨_, rfl, fun x dx hx hdx ne => ?_⟩
      have s2 := (s1 _).trans (ins_same (o := .own x) (o2 := .ins T.keep.C dx []) hx hdx)
      have m2 := (m1 _).trans (ins_mo (o := .own x) (o2 := .ins T.keep.C dx []) hx hdx)
      refine ⟨x, dx, v, d, rfl, upd_same, dp_same s2 d v hd, hl, fun hn H1 kp m _ => ⟨rfl, q1 (by simp [dueW, hn]) x H1 ((s1 _).trans (kpi_same hx hdx kp)) (m2.trans m)⟩, fun hn => (q2 "counter" (by simp [dueW, hn])).back s2 m2⟩
    case back =>
      refine ⟨_, rfl, (by show 3 ≤ sizeLine; decide), fun p3 hp3 => ⟨p3, _, rfl, .inr (SqT.of upd_same), rfl, rfl, _, rfl, iteFD (by decide +kernel) ?_⟩⟩
      refine ⟨_, rfl, (by show 2 ≤ sizeLine; decide), fun p2 hp2 => ⟨p2, _, rfl, .inr (SqT.of upd_same), rfl, rfl, _, rfl, iteTD (by decide +kernel) ?_⟩⟩
      refine ⟨_, rfl, rfl, _, rfl, iteFD (by decide +kernel) ?_⟩
      have s1 := fun o => (Same.new hp3).trans (Same.new (o := o) hp2)
      have m1 := fun o => (mo_new hp3).trans (mo_new (o := o) hp2)
      refine ⟨_, rfl, fun x dx hx hdx ne => ?_⟩
      have s2 := (s1 _).trans (ins_same (o := .own x) (o2 := .ins T.back.C dx []) hx hdx)
      have m2 := (m1 _).trans (ins_mo (o := .own x) (o2 := .ins T.back.C dx []) hx hdx)
      refine ⟨x, dx, v, d, rfl, upd_same, dp_same s2 d v hd, hl, fun hn H1 kp m _ => ⟨rfl, q1 (by simp [dueW, hn]) x H1 ((s1 _).trans (kpi_same hx hdx kp)) (m2.trans m)⟩, fun hn => (q2 "counter" (by simp [dueW, hn])).back s2 m2⟩
    case ref =>
      refine ⟨_, rfl, (by show 3 ≤ sizeLine; decide), fun p3 hp3 => ⟨p3, _, rfl, .inr (SqT.of upd_same), rfl, rfl, _, rfl, iteFD (by decide +kernel) ?_⟩⟩
      refine ⟨_, rfl, (by show 2 ≤ sizeLine; decide), fun p2 hp2 => ⟨p2, _, rfl, .inr (SqT.of upd_same), rfl, rfl, _, rfl, iteFD (by decide +kernel) ?_⟩⟩
      refine ⟨_, rfl, rfl, _, rfl, iteTD (by decide +kernel) ?_⟩
      have s1 := fun o => (Same.new hp3).trans (Same.new (o := o) hp2)
      have m1 := fun o => (mo_new hp3).trans (mo_new (o := o) hp2)
      refine ⟨_, rfl, fun x dx hx hdx ne => ?_⟩
      have s2 := (s1 _).trans (ins_same (o := .own x) (o2 := .ins T.ref.C dx []) hx hdx)
      have m2 := (m1 _).trans (ins_mo (o := .own x) (o2 := .ins T.ref.C dx []) hx hdx)
      refine ⟨x, dx, v, d, rfl, upd_same, dp_same s2 d v hd, hl, fun hn H1 kp m _ => ⟨rfl, q1 (by simp [dueW, hn]) x H1 ((s1 _).trans (kpi_same hx hdx kp)) (m2.trans m)⟩, fun hn => (q2 "label" (by simp [dueW, hn])).back s2 m2⟩
    case put =>
      refine ⟨_, rfl, (by show 3 ≤ sizeLine; decide), fun p3 hp3 => ⟨p3, _, rfl, .inr (SqT.of upd_same), rfl, rfl, _, rfl, iteFD (by decide +kernel) ?_⟩⟩
      refine ⟨_, rfl, (by show 2 ≤ sizeLine; decide), fun p2 hp2 => ⟨p2, _, rfl, .inr (SqT.of upd_same), rfl, rfl, _, rfl, iteFD (by decide +kernel) ?_⟩⟩
      refine ⟨_, rfl, rfl, _, rfl, iteFD (by decide +kernel) ?_⟩
      refine ⟨_, rfl, rfl, _, rfl, iteTD (by decide +kernel) ?_⟩
      have s1 := fun o => (Same.new hp3).trans (Same.new (o := o) hp2)
      have m1 := fun o => (mo_new hp3).trans (mo_new (o := o) hp2)
      refine ⟨_, rfl, fun x dx hx hdx ne => ?_⟩
      have s2 := (s1 _).trans (ins_same (o := .own x) (o2 := .ins T.put.C dx []) hx hdx)
      have m2 := (m1 _).trans (ins_mo (o := .own x) (o2 := .ins T.put.C dx []) hx hdx)
      refine ⟨x, dx, v, d, rfl, upd_same, dp_same s2 d v hd, hl, fun hn H1 kp m _ => ⟨rfl, q1 (by simp [dueW, hn]) x H1 ((s1 _).trans (kpi_same hx hdx kp)) (m2.trans m)⟩, fun hn => (q2 "part" (by simp [dueW, hn])).back s2 m2⟩
    case opn =>
      refine ⟨_, rfl, (by show 3 ≤ sizeLine; decide), fun p3 hp3 => ⟨p3, _, rfl, .inr (SqT.of upd_same), rfl, rfl, _, rfl, iteFD (by decide +kernel) ?_⟩⟩
      refine ⟨_, rfl, (by show 2 ≤ sizeLine; decide), fun p2 hp2 => ⟨p2, _, rfl, .inr (SqT.of upd_same), rfl, rfl, _, rfl, iteFD (by decide +kernel) ?_⟩⟩
      refine ⟨_, rfl, rfl, _, rfl, iteFD (by decide +kernel) ?_⟩
      refine ⟨_, rfl, rfl, _, rfl, iteFD (by decide +kernel) ?_⟩
      have s1 := fun o => (Same.new hp3).trans (Same.new (o := o) hp2)
      have m1 := fun o => (mo_new hp3).trans (mo_new (o := o) hp2)
      refine ⟨_, rfl, fun x dx hx hdx ne => ?_⟩
      have s2 := (s1 _).trans (ins_same (o := .own x) (o2 := .ins T.open_.C dx []) hx hdx)
      have m2 := (m1 _).trans (ins_mo (o := .own x) (o2 := .ins T.open_.C dx []) hx hdx)
      refine ⟨x, dx, v, d, rfl, upd_same, dp_same s2 d v hd, hl, fun hn H1 kp m _ => ⟨rfl, q1 (by simp [dueW, hn]) x H1 ((s1 _).trans (kpi_same hx hdx kp)) (m2.trans m)⟩, fun hn => (q2 "name" (by simp [dueW, hn])).back s2 m2⟩
end
end Pn

namespace Pn
open PySem L2
section
variable {P : Program} {w : World} {K : PySem.W.Frag} {mg : Str → Option Value} {base : Heap}
structure TK03 (K : PySem.W.Frag) (mg : Str → Option Value) : Type extends TRows K mg where
  A : TAny K mg
  try_ : At K mg "_law_try" sLTry ["_law_kind", "_law_first", "_law_second"]
  heard : At K mg "_law_heard" sLHeard ["_law_kind", "_law_first", "_law_second"]
  isnum : At K mg "_law_is_number" sLIsNumber ["_law_value", "_law_least"]
  isname : At K mg "_law_is_name" sLIsName ["_law_value"]
  CN : Addr
  mCN : mg "NoteError" = some (.ref CN)
  kCN : PySem.W.kitOne K (.ref N.IR.C) (.ref CN) = some true
  CP : Addr
  mCP : mg "InvalidPart" = some (.ref CP)
  kCP : PySem.W.kitOne K (.ref N.IR.C) (.ref CP) = some false
  mMax : mg "max" = none
  mMin : mg "min" = none
def spHeard (K : PySem.W.Frag) : Sp := fun vs H Q _ => ∃ (kd : Kd) (v u : V) (d e : PyData), vs = [.str kd.nm, v, u] ∧ Dp K H v d ∧ dlen d ∧ Dp K H u e ∧ dlen e ∧ SeqAt.shaped e = true ∧
  ∀ H', Same H H' → Mo H H' → Q (.str ((dueW kd d e).getD "")) H'
theorem scLHeard : FnScope ["_law_kind", "_law_first", "_law_second", "_law_heard_here", "e"] ["_law_kind", "_law_first", "_law_second"] (defScope sLHeard) := ⟨rfl, rfl, rfl, by decide +kernel, rfl, by decide +kernel, by decide +kernel⟩
theorem ok_lheard (T : TK03 K mg) : FnOk P w K mg base CX0 7 T.heard.f T.heard.fd ["_law_kind", "_law_first", "_law_second"] (spHeard K) := by
  refine T.heard.F.ok scLHeard (fun vs H Q E h => ?_) (fun cdv A outer s H vs Q E hr h => ?_)
  · obtain ⟨kd, v, u, d, e, rfl, _⟩ := h
    rfl
  · obtain ⟨kd, v, u, d, e, rfl, hd, hl, he, hl2, hsh, q⟩ := h
    refine ⟨_, pss_cons (ps_set (i := 3) scLHeard.nd rfl (Or.inl rfl) pe_str)
      (pss_cons (ps_try_as (i := 4) rfl rfl scLHeard.nd rfl rfl ⟨rfl, by decide, .inl T.N.IR.m⟩ takes0
        (fun W pn xe tk _ => pss_one (ps_expr (pe_callS (ok_ltry T.try_.F T.toTRows) hr rfl T.try_.m T.try_.F.kp T.try_.b (fun σ => passAt tk σ) (pa_cons (pv 0) (pa_cons (pv 1) (pa_cons (pv 2) pa_nil))))))
        (fun a oe cls d pn hz hf => pss_one (ps_set (i := 3) scLHeard.nd rfl (Or.inl rfl) (pe_ifExp (PW.pt (pw_and (pt_val (pe_callB (call_isX T.N.IR.E hz hf) (by rfl) T.N.mIsi (by decide +kernel) (pa_cons (pv 4) (pa_cons (pe_glob (v := .ref T.CN) (by rfl) T.mCN rfl) pa_nil))))
          (pw_and1 (pt_not (pt_val (pe_callB (call_isX T.N.IR.E hz hf) (by rfl) T.N.mIsi (by decide +kernel) (pa_cons (pv 4) (pa_cons (pe_glob (v := .ref T.CP) (by rfl) T.mCP rfl) pa_nil))))))))
          (pe_xf T.N.IR.xf T.N.IR.noF hz hf (pv 4)) pe_str))))
      (pss_one (ps_ret (pv 3)))), ?_⟩
    refine ⟨_, rfl, _, rfl, _, rfl, kd, v, u, d, e, rfl, hd, hl, he, hl2, hsh, fun hn r H1 hs hm => ?_, fun wd hw x H1 hs hm hx1 hx2 => ?_⟩
    · refine ⟨_, rfl, ?_⟩
      rw [hn] at q
      exact q H1 hs hm
    · refine ⟨true, T.N.IR.te, fun _ a ha => ?_, fun z => nomatch z⟩
      refine ⟨_, rfl, .ref T.CN, _, true, x, _, rfl, rfl, .own _, T.kCN, rfl, hx2, _, rfl, iteT ?_⟩
      refine ⟨_, rfl, .ref T.CP, _, false, x, _, rfl, rfl, .own _, T.kCP, rfl, hx2, _, rfl, iteT ?_⟩
      refine ⟨_, rfl, rfl, rfl, x, _, .str wd, rfl, hx2, rfl, _, rfl, ?_⟩
      rw [hw] at q
      exact q H1 hs hm
def numAt (n : Int) : PyData → Bool
  | .int i => decide (n ≤ i)
  | _ => false
def spLIsNum (K : PySem.W.Frag) : Sp := fun vs H Q _ => ∃ (v : V) (d : PyData) (n : Int), vs = [v, .int n] ∧ Dp K H v d ∧ Q (.bl (numAt n d)) H
theorem scLIsNum : FnScope ["_law_value", "_law_least"] ["_law_value", "_law_least"] (defScope sLIsNumber) := ⟨rfl, rfl, rfl, by decide +kernel, rfl, by decide +kernel, by decide +kernel⟩
theorem ok_lisnum (T : TK03 K mg) : FnOk P w K mg base CX0 1 T.isnum.f T.isnum.fd ["_law_value", "_law_least"] (spLIsNum K) := by
  refine T.isnum.F.ok scLIsNum (fun vs H Q E h => ?_) (fun cdv A outer s H vs Q E hr h => ?_)
  · obtain ⟨v, d, n, rfl, _⟩ := h
    rfl
  · obtain ⟨v, d, n, rfl, hd, q⟩ := h
    refine ⟨_, pss_one (ps_ret (pe_and (pe_callB call_isi (by rfl) T.N.mIsi (by decide +kernel) (pa_cons (pv 0) (pa_cons (pe_bltn (v := .ty "int") (by rfl) T.N.mInt (by decide +kernel) rfl) pa_nil)))
      (pe_and (pe_not (pe_callB call_isi (by rfl) T.N.mIsi (by decide +kernel) (pa_cons (pv 0) (pa_cons (pe_bltn (v := .ty "bool") (by rfl) T.N.mBool (by decide +kernel) rfl) pa_nil)))) (pe_one (pe_cmpR op_ge (pv 0) (pv 1) (nomark _)))))), ?_⟩
    refine ⟨_, rfl, v, _, _, _, _, rfl, .ty _, dp_ty hd, kit_ty (kit_int d), _, rfl, ?_⟩
    cases d with
    | none => exact q
    | str z => exact q
    | list ds => exact q
    | tuple ds => exact q
    | dict ds => exact q
    | bool i => exact ⟨_, rfl, v, _, _, _, _, rfl, .ty _, dp_ty hd, kit_ty (kit_bool _), _, rfl, _, rfl, q⟩
    | int i =>
      have hd0 := hd
      cases hd
      exact ⟨_, rfl, _, _, _, _, _, rfl, .ty _, dp_ty hd0, kit_ty (kit_bool _), _, rfl, _, rfl, _, rfl, _, rfl, _, _, rfl, rfl, q⟩
end
end Pn

namespace Pn
open PySem L2
/-! ### drawn data is small -/
theorem leaf_dlen : ∀ d ∈ leafD, dlen d ∧ PyData.canLay0 d = true ∧ PyData.depth d = 0 := by
  have h : leafD.all (fun d => (match d with | .str z => decide (z.length ≤ 900) | _ => true) && PyData.canLay0 d && decide (PyData.depth d = 0)) = true := by decide +kernel
  intro d hd
  have q := List.all_eq_true.mp h d hd
  rw [Bool.and_eq_true, Bool.and_eq_true] at q
  obtain ⟨⟨q1, q2⟩, q3⟩ := q
  refine ⟨?_, q2, of_decide_eq_true q3⟩
  cases d with
  | str z =>
    have h9 : z.length ≤ 900 := of_decide_eq_true q1
    exact h9
  | _ => trivial
theorem dt_lay : ∀ (n : Nat) (d : PyData), Dt n d → PyData.canLay0 d = true ∧ PyData.depth d ≤ n
  | 0, d, h => ⟨(leaf_dlen d h).2.1, by rw [(leaf_dlen d h).2.2]; exact Nat.le_refl _⟩
  | n + 1, d, h => by
    rcases h with h | ⟨ds, h1, h2, h3⟩
    · exact ⟨(leaf_dlen d h).2.1, by rw [(leaf_dlen d h).2.2]; exact Nat.zero_le _⟩
    · have hall : ∀ es : List PyData, (∀ e ∈ es, Dt n e) → PyData.canLayAll0 es = true ∧ PyData.depthAll es ≤ n := by
        intro es
        induction es with
        | nil => intro _; exact ⟨by simp [PyData.canLayAll0], by simp [PyData.depthAll]⟩
        | cons e es ih =>
          intro he
          have q1 := dt_lay n e (he e List.mem_cons_self)
          have q2 := ih fun x hx => he x (List.mem_cons_of_mem _ hx)
          exact ⟨by simp [PyData.canLayAll0, q1.1, q2.1], by simp only [PyData.depthAll]; omega⟩
      have q := hall ds h2
      rcases h3 with rfl | rfl
      · exact ⟨by simp only [PyData.canLay0]; exact q.1, by simp only [PyData.depth]; omega⟩
      · exact ⟨by simp only [PyData.canLay0]; exact q.1, by simp only [PyData.depth]; omega⟩
theorem dt_shaped {n : Nat} {d : PyData} (hn : n ≤ 64) (h : Dt n d) : SeqAt.shaped d = true := by
  have q := dt_lay n d h
  show (PyData.canLay0 d && decide (PyData.depth d ≤ 64)) = true
  rw [Bool.and_eq_true]
  exact ⟨q.1, decide_eq_true (by omega)⟩
theorem dt_dlen : ∀ {n : Nat} {d : PyData}, Dt n d → dlen d
  | 0, d, h => (leaf_dlen d h).1
  | n + 1, d, h => by
    rcases h with h | ⟨ds, _, _, h3⟩
    · exact (leaf_dlen d h).1
    · rcases h3 with rfl | rfl
      · trivial
      · trivial
theorem dif_keep {b : Addr} {H H1 H2 : Hp} {o : HO} (hb : H b = some o) (k : Kp b H1 H2) : Same (dif H H1) H2 := fun a u e => by
  obtain ⟨e1, e2⟩ := dif_eq.mp e
  exact k a u e2 (fun z => by rw [z, hb] at e1; cases e1)
theorem labD_str {d : PyData} (h : labD d = true) : strT d = true := by
  cases d with
  | str z => rfl
  | none => exact absurd h (by decide)
  | bool b => exact absurd h (by simp [labD, nameD, PyData.eqv])
  | int i => exact absurd h (by simp [labD, nameD, PyData.eqv])
  | list ds => exact absurd h (by simp [labD, nameD, PyData.eqv])
  | tuple ds => exact absurd h (by simp [labD, nameD, PyData.eqv])
  | dict ds => exact absurd h (by simp [labD, nameD, PyData.eqv])
theorem setD_num (d : PyData) : setD d = numAt 0 d := by
  cases d <;> rfl
theorem skipD_num (d : PyData) : skipD d = numAt 1 d := by
  cases d with
  | int i =>
    show (decide (0 ≤ i) && decide (i ≠ 0)) = decide (1 ≤ i)
    by_cases h : 1 ≤ i
    · rw [decide_eq_true h, decide_eq_true (show 0 ≤ i by omega), decide_eq_true (show i ≠ 0 by omega)]
      rfl
    · by_cases h0 : 0 ≤ i
      · rw [decide_eq_false h, decide_eq_true h0, decide_eq_false (show ¬ i ≠ 0 by omega)]
        rfl
      · rw [decide_eq_false h, decide_eq_false h0]
        rfl
  | _ => rfl
def spLaw (K : PySem.W.Frag) : Sp := fun vs H Q _ => ∃ (a : Addr) (ns : List Int), vs = [.ref a] ∧ SqL K H a (ns.map V.int) ∧ ns.length ≤ 63 ∧ ∀ H', Q (.bl true) H'
section
variable {P : Program} {w : World} {K : PySem.W.Frag} {mg : Str → Option Value} {base : Heap}
theorem same_kp {b : Addr} {H0 H H' : Hp} (s : Same H0 H) (k : Kp b H H') (hb : H0 b = none) : Same H0 H' := fun a o e => k a o (s a o e) (ne_of_none e hb)
theorem two_mem : ∀ v ∈ ([.str "a", .str "abcd", .str "one"] : List V), v ∈ leafV := fun v hv => by
  have h : (([.str "a", .str "abcd", .str "one"] : List V).all fun x => decide (x ∈ leafV)) = true := by decide +kernel
  exact of_decide_eq_true (List.all_eq_true.mp h v hv)
/-- what stands in the list of plain kinds -/
theorem plain_at {H : Hp} {t1 t2 t3 t4 t5 : Addr} (g1 : H t1 = some (.tup [.str "keep", .str "counter"])) (g2 : H t2 = some (.tup [.str "back", .str "counter"])) (g3 : H t3 = some (.tup [.str "ref", .str "label"])) (g4 : H t4 = some (.tup [.str "put", .str "part"]))
    (g5 : H t5 = some (.tup [.str "open", .str "name"])) {x : V} (hx : x ∈ ([.ref t1, .ref t2, .ref t3, .ref t4, .ref t5] : List V)) :
    ∃ (kd : Kd) (t : Addr) (f : Str), x = .ref t ∧ H t = some (.tup [.str kd.nm, .str f]) ∧ ∀ d e, (dueW kd d e).getD "" = if nameD d = true then ("" : Str) else f := by
  have due : ∀ (b : Bool) (f : Str), (if b = true then (none : Option Str) else some f).getD "" = if b = true then ("" : Str) else f := fun b f => by cases b <;> rfl
  simp only [List.mem_cons, List.not_mem_nil, or_false] at hx
  rcases hx with rfl | rfl | rfl | rfl | rfl
  · exact ⟨.keep, t1, "counter", rfl, g1, fun d _ => due _ _⟩
  · exact ⟨.back, t2, "counter", rfl, g2, fun d _ => due _ _⟩
  · exact ⟨.ref, t3, "label", rfl, g3, fun d _ => due _ _⟩
  · exact ⟨.put, t4, "part", rfl, g4, fun d _ => due _ _⟩
  · exact ⟨.opn, t5, "name", rfl, g5, fun d _ => due _ _⟩
/-- the words that are due for note, skip and set -/
def ks3 : List Kd := [.note, .skip, .set]
def dw (d e : PyData) (k : Kd) : Str := (dueW k d e).getD ""
theorem dw_note (d e : PyData) : dw d e .note = if nameD d = true then (if labD e = true then ("" : Str) else "label") else "counter" := by
  show (if nameD d = true then (if labD e = true then (none : Option Str) else some "label") else some "counter").getD "" = _
  cases nameD d <;> cases labD e <;> rfl
theorem dw_skip (d e : PyData) : dw d e .skip = if nameD d = true then (if skipD e = true then ("" : Str) else "by") else "counter" := by
  show (if nameD d = true then (if skipD e = true then (none : Option Str) else some "by") else some "counter").getD "" = _
  cases nameD d <;> cases skipD e <;> rfl
theorem dw_set (d e : PyData) : dw d e .set = if nameD d = true then (if setD e = true then ("" : Str) else "to") else "counter" := by
  show (if nameD d = true then (if setD e = true then (none : Option Str) else some "to") else some "counter").getD "" = _
  cases nameD d <;> cases setD e <;> rfl
theorem dw_ok (d e : PyData) (k : Kd) : PyData.strOk (dw d e k) = true := by
  unfold dw
  cases k <;> simp only [dueW] <;> (repeat' split) <;> decide +kernel
theorem dp_strs {K : PySem.W.Frag} {H : Hp} : ∀ l : List Str, DpAll K H (l.map V.str) (l.map PyData.str)
  | [] => .nil
  | x :: l => .cons (.str x) (dp_strs l)
theorem strs_eqv : ∀ l : List Str, PyData.eqvAll (l.map PyData.str) (l.map PyData.str) = true
  | [] => by simp [PyData.eqvAll]
  | x :: l => by simp [PyData.eqvAll, PyData.eqv, strs_eqv l]
theorem strs_shaped : ∀ l : List Str, (∀ x ∈ l, PyData.strOk x = true) → PyData.canLayAll0 (l.map PyData.str) = true ∧ PyData.depthAll (l.map PyData.str) = 0
  | [], _ => ⟨by simp [PyData.canLayAll0], by simp [PyData.depthAll]⟩
  | x :: l, h => by
    have q := strs_shaped l fun y hy => h y (List.mem_cons_of_mem _ hy)
    refine ⟨?_, by simp [PyData.depthAll, PyData.depth, q.2]⟩
    show (PyData.strOk x && PyData.canLayAll0 (l.map PyData.str)) = true
    rw [h x List.mem_cons_self, q.1]
    rfl
theorem strs_sh {l : List Str} (h : ∀ x ∈ l, PyData.strOk x = true) : SeqAt.shaped (.list (l.map PyData.str)) = true := by
  have q := strs_shaped l h
  show (PyData.canLay0 (.list (l.map PyData.str)) && decide (PyData.depth (.list (l.map PyData.str)) ≤ 64)) = true
  rw [Bool.and_eq_true]
  refine ⟨by simp only [PyData.canLay0]; exact q.1, decide_eq_true ?_⟩
  simp only [PyData.depth, q.2]
  decide
theorem scLaw : FnScope ["_law_script", "_law_plain", "_law_k", "_law_box", "_law_turn", "_law_first", "_law_second", "_law_kind", "_law_word", "_law_bad", "_law_is_label", "_law_due"] ["_law_script"] (defScope sLaw) := ⟨rfl, rfl, rfl, by decide +kernel, rfl, by decide +kernel, by decide +kernel⟩
theorem ok_law (T : TK03 K mg) {f : Addr} {fd : FuncData} (F : Fun K "law" "law" sLaw f fd) : FnOk P w K mg base CX0 8 f fd ["_law_script"] (spLaw K) := by
  refine F.ok scLaw (fun vs H Q E h => ?_) (fun cdv A outer s H vs Q E hr h => ?_)
  · obtain ⟨a, ns, rfl, _⟩ := h
    rfl
  · obtain ⟨a, ns, rfl, hS, hl, q⟩ := h
    refine ⟨_, pss_cons (ps_set (i := 1) scLaw.nd rfl (Or.inl rfl) (pe_lst (pa_cons (pe_tup (pa_cons pe_str (pa_cons pe_str pa_nil))) (pa_cons (pe_tup (pa_cons pe_str (pa_cons pe_str pa_nil))) (pa_cons (pe_tup (pa_cons pe_str (pa_cons pe_str pa_nil))) (pa_cons (pe_tup (pa_cons pe_str (pa_cons pe_str pa_nil))) (pa_cons (pe_tup (pa_cons pe_str (pa_cons pe_str pa_nil))) pa_nil)))))))
        (pss_cons (ps_for PassesOwn.never rfl (pi_range1 rfl T.A.mR (pa_cons (pe_callB (call_max2 rfl) (by rfl) T.mMax (by decide +kernel) (pa_cons pe_int (pa_cons (pe_callB (call_min2 rfl) (by rfl) T.mMin (by decide +kernel) (pa_cons pe_int (pa_cons (pe_callB call_len_seq (by rfl) T.A.mL PySem.boot_len (pa_cons (pv 0) pa_nil)) pa_nil))) pa_nil))) pa_nil)) (pg_name (i := 2) scLaw.nd rfl (Or.inl rfl))
        (pss_cons (ps_set (i := 3) scLaw.nd rfl (Or.inl rfl) (pe_call T.A.okSeed (hr.mono (by decide)) rfl T.A.seed.m T.A.seed.F.kp T.A.seed.b .nil pass0 (pa_cons (pv 0) (pa_cons (pv 2) pa_nil))))
        (pss_one (ps_for PassesOwn.never rfl (pi_range1 rfl T.A.mR (pa_cons pe_int pa_nil)) (pg_name (i := 4) scLaw.nd rfl (Or.inl rfl))
        (pss_cons (ps_asg (pe_tup (pa_cons (pe_call (ok_any T.A 3) (hr.mono (by decide)) rfl T.A.any.m T.A.any.F.kp T.A.any.b .nil pass0 (pa_cons (pv 3) (pa_cons pe_int pa_nil))) (pa_cons (pe_call (ok_any T.A 3) (hr.mono (by decide)) rfl T.A.any.m T.A.any.F.kp T.A.any.b .nil pass0 (pa_cons (pv 3) (pa_cons pe_int pa_nil))) pa_nil))) (pg_tup (by rfl) (pgs_cons (pg_name (i := 5) scLaw.nd rfl (Or.inr rfl)) (pgs_cons (pg_name (i := 6) scLaw.nd rfl (Or.inr rfl)) pgs_nil))))
        (pss_cons (ps_set (i := 5) scLaw.nd rfl (Or.inr rfl) (pe_ifExp (pt_cmpR op_eq (pe_call T.A.okChoose (hr.mono (by decide)) rfl T.A.choose.m T.A.choose.F.kp T.A.choose.b .nil pass0 (pa_cons (pv 3) (pa_cons pe_int pa_nil))) pe_int (nomark _)) (pv 5) (pe_call T.A.okOne (hr.mono (by decide)) rfl T.A.one.m T.A.one.F.kp T.A.one.b .nil pass0 (pa_cons (pv 3) (pa_cons (pe_lst (pa_cons pe_str (pa_cons pe_str (pa_cons pe_str pa_nil)))) pa_nil)))))
        (pss_cons (ps_for PassesOwn.never rfl (pi_list (pv 1)) (pg_tup (by rfl) (pgs_cons (pg_name (i := 7) scLaw.nd rfl (Or.inl rfl)) (pgs_cons (pg_name (i := 8) scLaw.nd rfl (Or.inl rfl)) pgs_nil))) (pss_one (ps_if (pt_cmpR op_ne (pe_call (ok_lheard T) (hr.mono (by decide)) rfl T.heard.m T.heard.F.kp T.heard.b .nil pass0 (pa_cons (pv 7) (pa_cons (pv 5) (pa_cons pe_non pa_nil)))) (pe_ifExp (pt_val (pe_call (ok_lisname T.isname.F T.N.toTChk) (hr.mono (by decide)) rfl T.isname.m T.isname.F.kp T.isname.b .nil pass0 (pa_cons (pv 5) pa_nil))) pe_str (pv 8)) (nomark _)) (pss_one (ps_ret pe_bl)) pss_nil)))
        (pss_cons (ps_set (i := 9) scLaw.nd rfl (Or.inl rfl) (pe_ifExp (pt_val (pe_call (ok_lisname T.isname.F T.N.toTChk) (hr.mono (by decide)) rfl T.isname.m T.isname.F.kp T.isname.b .nil pass0 (pa_cons (pv 5) pa_nil))) pe_str pe_str))
        (pss_cons (ps_set (i := 10) scLaw.nd rfl (Or.inl rfl) (pe_and (pe_callB call_isi (by rfl) T.N.mIsi (by decide +kernel) (pa_cons (pv 6) (pa_cons (pe_bltn (v := .ty "str") (by rfl) T.N.mStr (by decide +kernel) rfl) pa_nil))) (pe_one (pe_or (pe_cmpR (op_eqD hr.units) (pv 6) pe_str (nomark _)) (pe_one (pe_call (ok_lisname T.isname.F T.N.toTChk) (hr.mono (by decide)) rfl T.isname.m T.isname.F.kp T.isname.b .nil pass0 (pa_cons (pv 6) pa_nil)))))))
        (pss_cons (ps_set (i := 11) scLaw.nd rfl (Or.inl rfl) (pe_lst (pa_cons (pe_orT (pv 9) (pe_one (pe_ifExp (pt_val (pv 10)) pe_str pe_str))) pa_nil)))
        (pss_cons (ps_expr (pe_bm PySem.F.plainAttrs_list PySem.F.slot_list_append PySem.F.type_list_append mt_append (pv 11) (pa_cons (pe_orT (pv 9) (pe_one (pe_ifExp (pt_val (pe_call (ok_lisnum T) (hr.mono (by decide)) rfl T.isnum.m T.isnum.F.kp T.isnum.b .nil pass0 (pa_cons (pv 6) (pa_cons pe_int pa_nil)))) pe_str pe_str))) pa_nil)))
        (pss_cons (ps_expr (pe_bm PySem.F.plainAttrs_list PySem.F.slot_list_append PySem.F.type_list_append mt_append (pv 11) (pa_cons (pe_orT (pv 9) (pe_one (pe_ifExp (pt_val (pe_call (ok_lisnum T) (hr.mono (by decide)) rfl T.isnum.m T.isnum.F.kp T.isnum.b .nil pass0 (pa_cons (pv 6) (pa_cons pe_int pa_nil)))) pe_str pe_str))) pa_nil)))
        (pss_one (ps_if (pt_cmpR (op_neD hr.units) (pe_lc (own := [("_law_kind", 7)]) (g := gName 7) (tt := tYes) (by rfl) scLaw.nd (pi_tup (pe_tup (pa_cons pe_str (pa_cons pe_str (pa_cons pe_str pa_nil)))))
          (blkOk_by (N := ["_law_script", "_law_plain", "_law_k", "_law_box", "_law_turn", "_law_first", "_law_second", "_law_kind", "_law_word", "_law_bad", "_law_is_label", "_law_due"]) (sc := defScope sLaw) (by decide +kernel)) (fun _ _ _ _ _ => pg_name (i := 7) scLaw.nd rfl (Or.inl rfl)) (fun _ _ _ _ _ => pts_nil) (fun _ _ _ _ _ => (pe_call (ok_lheard T) (hr.mono (by decide)) rfl T.heard.m T.heard.F.kp T.heard.b .nil pass0 (pa_cons (pv 7) (pa_cons (pv 5) (pa_cons (pv 6) pa_nil)))))) (pv 11) (nomark _)) (pss_one (ps_ret pe_bl)) pss_nil))))))))))))))
        (pss_one (ps_ret pe_bl))), ?_⟩
    have z2 : 2 ≤ sizeLine := by decide
    refine ⟨z2, fun t1 h1 => ⟨z2, fun t2 h2 => ⟨z2, fun t3 h3 => ⟨z2, fun t4 h4 => ⟨z2, fun t5 h5 => ⟨(by show 5 ≤ sizeLine; decide), fun pl hpl => ?_⟩⟩⟩⟩⟩⟩
    have hlen : ((ns.map V.int).length : Int) ≤ 63 := by rw [List.length_map]; omega
    refine ⟨_, rfl, a, _, rfl, .inl (((((((Same.new h1).trans (Same.new h2)).trans (Same.new h3)).trans (Same.new h4)).trans (Same.new h5)).trans (Same.new hpl)).seq hS), _, _, rfl, _, _, rfl, _, rfl, ?b1, ?b2,
      for_range (lo := 0) (fun i σ Hc => ∃ x2 x3 x4 x5 x6 x7 x8 x9 x10 x11, σ = [some (.ref a), some (.ref pl), x2, x3, x4, x5, x6, x7, x8, x9, x10, x11] ∧ Same _ Hc) ⟨_, _, _, _, _, _, _, _, _, _, rfl, Same.refl _⟩ (fun i σ Hc hi hP => ?turn) (fun σ Hc hP => ?fin)⟩
    case b1 => split <;> (try split) <;> omega
    case b2 => split <;> (try split) <;> omega
    case fin => exact q Hc
    case turn =>
      obtain ⟨x2, x3, x4, x5, x6, x7, x8, x9, x10, x11, rfl, hs0⟩ := hP
      have hi2 : i ≤ 100 := by
        have : (if (if ((ns.map V.int).length : Int) < 5 then ((ns.map V.int).length : Int) else 5) > 2 then (if ((ns.map V.int).length : Int) < 5 then ((ns.map V.int).length : Int) else 5) else 2).toNat ≤ 63 := by split <;> (try split) <;> omega
        have hi3 := Nat.lt_of_lt_of_le hi this
        omega
      have hSc : SqL K Hc a (ns.map V.int) := hs0.seq ((((((((Same.new h1).trans (Same.new h2)).trans (Same.new h3)).trans (Same.new h4)).trans (Same.new h5)).trans (Same.new hpl)).seq hS))
      have g0 := hs0 pl _ upd_same
      have g5 := hs0 t5 _ (Same.new hpl t5 _ upd_same)
      have g4 := hs0 t4 _ (Same.new hpl t4 _ (Same.new h5 t4 _ upd_same))
      have g3 := hs0 t3 _ (Same.new hpl t3 _ (Same.new h5 t3 _ (Same.new h4 t3 _ upd_same)))
      have g2 := hs0 t2 _ (Same.new hpl t2 _ (Same.new h5 t2 _ (Same.new h4 t2 _ (Same.new h3 t2 _ upd_same))))
      have g1 := hs0 t1 _ (Same.new hpl t1 _ (Same.new h5 t1 _ (Same.new h4 t1 _ (Same.new h3 t1 _ (Same.new h2 t1 _ upd_same)))))
      refine ⟨_, rfl, _, rfl, a, ns, i, by rw [Int.zero_add]; rfl, hSc, hi2, fun b x y hb hB => ?_⟩
      have hbS : Same Hc (upd Hc b (.lst [.int x, .int y])) := Same.new hb
      refine ⟨_, rfl, by decide, by decide, for_range (lo := 0) (n := 14) (fun j σ Hd => ∃ x4 x5 x6 x7 x8 x9 x10 x11, σ = [some (.ref a), some (.ref pl), some (.int (0 + (i : Int))), some (.ref b), x4, x5, x6, x7, x8, x9, x10, x11] ∧ Same Hc Hd ∧ BoxAt Hd b) ⟨_, _, _, _, _, _, _, _, rfl, hbS, ⟨x, y, hB, upd_same⟩⟩ (fun j σ Hd hj hP => ?turn2) (fun σ Hd hP => ?fin2)⟩
      case fin2 =>
        obtain ⟨x4, x5, x6, x7, x8, x9, x10, x11, rfl, s1, _⟩ := hP
        exact ⟨_, _, _, _, _, _, _, _, _, _, rfl, hs0.trans s1⟩
      case turn2 =>
        obtain ⟨x4, x5, x6, x7, x8, x9, x10, x11, rfl, s1, hBd⟩ := hP
        obtain ⟨xb, yb, hxy, hb1⟩ := id hBd
        have hbc : Hc b = none := hb
        refine ⟨_, rfl, b, 3, rfl, by decide, by decide, hBd, fun v d H2 kp1 hB2 hv hd => ?_⟩
        obtain ⟨xb2, yb2, hxy2, hb2⟩ := id hB2
        refine ⟨_, rfl, b, 3, rfl, by decide, by decide, hB2, fun u e H3 kp2 hB3 hu he => ?_⟩
        obtain ⟨xb3, yb3, hxy3, hb3⟩ := id hB3
        refine ⟨z2, fun t ht => ⟨t, _, rfl, SqT.of upd_same, rfl, _, _, rfl, _, _, rfl, rfl, ?_⟩⟩
        have kp3 := (kp1.trans kp2).new (o := .tup [v, u]) ht
        have hv4 := dp_same (dif_keep hb1 (kp2.new (o := .tup [v, u]) ht)) d v hv
        have hu4 := dp_same (dif_keep hb2 ((Kp.refl b H3).new (o := .tup [v, u]) ht)) e u hu
        have s4 := same_kp s1 kp3 hbc
        have hb4 := Same.new (o := .tup [v, u]) ht b _ hb3
        try dsimp only
        refine stepSet (fun v' Hx => ∃ d', Dt 3 d' ∧ Dp K Hx v' d' ∧ Dp K Hx u e ∧ Same Hc Hx ∧ BoxAt Hx b) (fun Q' hQ => ?choose) (fun v1 Hx hC => ?rest)
        case choose =>
          refine ⟨_, rfl, b, 2, rfl, ⟨xb3, yb3, hxy3, hb4⟩, by decide, by decide, fun r H5 r0 r1 hB5 kp5 _ => ⟨rfl, _, rfl, ?_⟩⟩
          have hv5 := dp_same (dif_keep hb1 ((kp2.new (o := .tup [v, u]) ht).trans kp5)) d v hv
          have hu5 := dp_same (dif_keep hb2 (((Kp.refl b H3).new (o := .tup [v, u]) ht).trans kp5)) e u hu
          refine ite2 (fun hc => ?_) (fun hc => ?_)
          · exact ⟨_, rfl, hQ v H5 ⟨d, hd, hv5, hu5, same_kp s4 kp5 hbc, hB5⟩⟩
          · refine ⟨_, rfl, (by show 3 ≤ sizeLine; decide), fun l hl => ?_⟩
            obtain ⟨xb5, yb5, hxy5, hb5⟩ := id hB5
            refine ⟨b, l, _, rfl, ⟨xb5, yb5, hxy5, Same.new hl b _ hb5⟩, SqL.of upd_same, (ne_of_none hb5 hl).symm, by decide, by decide, fun v' H7 hv' hB7 kp7 _ => ?_⟩
            obtain ⟨d', hd', hl'⟩ := leaf_pd v' (two_mem v' hv')
            have kp8 := ((Kp.refl b H5).new hl).trans kp7
            exact hQ v' H7 ⟨d', Dt.leaf hl', pd_dp hd', dp_same (dif_keep hb2 ((((Kp.refl b H3).new (o := .tup [v, u]) ht).trans kp5).trans kp8)) e u hu, same_kp (same_kp s4 kp5 hbc) kp8 hbc, hB7⟩
        case rest =>
          obtain ⟨d1, hd1, hv1, hu1, hsx, hBx⟩ := hC
          have hdl := dt_dlen hd1
          have hds := dt_shaped (by decide) hd1
          have hel := dt_dlen he
          have hes := dt_shaped (by decide) he
          clear hv4 hu4 s4 hb4 kp3 hv hu
          have gp := fun {z : V} (hz : z ∈ ([.ref t1, .ref t2, .ref t3, .ref t4, .ref t5] : List V)) => plain_at g1 g2 g3 g4 g5 hz
          have gl := hsx pl _ g0
          clear g0 g1 g2 g3 g4 g5 hS hs0
          refine ⟨_, rfl, pl, rfl, ⟨_, SqL.of gl⟩, for_list (K := K) (a := pl) (xs := [.ref t1, .ref t2, .ref t3, .ref t4, .ref t5]) (fun _ σ Hy => ∃ y7 y8, σ = [some (.ref a), some (.ref pl), some (.int (0 + (i : Int))), some (.ref b), some (.int (0 + (j : Int))), some v1, some u, y7, y8, x9, x10, x11] ∧ Same Hx Hy)
            ⟨_, _, rfl, Same.refl _⟩ (fun m σ Hy _ hP => ?stays) (fun m z σ Hy hz hP => ?turn3) (fun σ Hy hP => ?after)⟩
          case stays =>
            obtain ⟨_, _, _, s⟩ := hP
            exact SqL.of (s pl _ gl)
          case turn3 =>
            obtain ⟨y7, y8, rfl, s⟩ := hP
            obtain ⟨kd, tk, fw, rfl, htk, hdue⟩ := gp (List.mem_of_getElem? hz)
            refine ⟨tk, _, rfl, SqT.of (s tk _ (hsx tk _ htk)), rfl, _, _, rfl, _, _, rfl, rfl, ?_⟩
            refine ⟨_, rfl, _, rfl, kd, v1, .non, d1, .none, rfl, dp_same s d1 v1 hv1, hdl, .non, trivial, by decide, fun Hz s5 m5 => ?_⟩
            refine ⟨_, rfl, v1, d1, rfl, dp_same (s.trans s5) d1 v1 hv1, hdl, hds, fun Hw s6 m6 => ⟨_, rfl, ?_⟩⟩
            rw [hdue]
            cases hn : nameD d1 with
            | true =>
              refine iteT ?_
              refine ⟨rfl, _, rfl, iteNS rfl ?_⟩
              exact ⟨_, _, rfl, (s.trans s5).trans s6⟩
            | false =>
              refine iteF ?_
              refine ⟨_, rfl, rfl, _, rfl, iteNS rfl ?_⟩
              exact ⟨_, _, rfl, (s.trans s5).trans s6⟩
          case after =>
            obtain ⟨y7, y8, rfl, sy⟩ := hP
            try dsimp only
            refine stepSet (fun v' Hz => v' = .str (if nameD d1 = true then "" else "counter") ∧ Same Hy Hz) (fun Q' hQ => ?bad) (fun vb Hz hC => ?rest2)
            case bad =>
              refine ⟨_, rfl, v1, d1, rfl, dp_same sy d1 v1 hv1, hdl, hds, fun Hw s6 m6 => ⟨_, rfl, ?_⟩⟩
              cases hn : nameD d1 with
              | true => exact iteT (hQ _ _ ⟨by rw [hn]; rfl, s6⟩)
              | false => exact iteF (hQ _ _ ⟨by rw [hn]; rfl, s6⟩)
            case rest2 =>
              obtain ⟨rfl, sz⟩ := hC
              have su := sy.trans sz
              try dsimp only
              refine stepSet (fun v' Hw => v' = .bl (labD e) ∧ Same Hz Hw) (fun Q' hQ => ?lab) (fun vb Hw hC => ?rest3)
              case lab =>
                have hu2 := dp_same su e u hu1
                refine ⟨_, rfl, u, _, _, _, _, rfl, .ty _, dp_ty hu2, kit_ty (kit_str e), _, rfl, ?_⟩
                cases hst : strT e with
                | false =>
                  have : labD e = false := by
                    cases hl2 : labD e with
                    | false => rfl
                    | true => rw [labD_str hl2] at hst; cases hst
                  exact iteF (hQ _ _ ⟨by rw [this], Same.refl _⟩)
                | true =>
                  refine iteT ?_
                  refine ⟨_, rfl, e, .str "", hu2, .str "", hes, by decide +kernel, _, rfl, ?_⟩
                  cases h1 : PyData.eqv e (.str "") with
                  | true => exact iteT (hQ _ _ ⟨by unfold labD; rw [h1]; rfl, Same.refl _⟩)
                  | false =>
                    refine iteF ?_
                    refine ⟨_, rfl, u, e, rfl, hu2, hel, hes, fun Hw s6 m6 => hQ _ _ ⟨by unfold labD; rw [h1]; rfl, s6⟩⟩
              case rest3 =>
                obtain ⟨rfl, sw⟩ := hC
                try dsimp only
                have sx := su.trans sw
                clear gp gl
                have dnote := dw_note d1 e
                have dskip := dw_skip d1 e
                have dset := dw_set d1 e
                refine stepSet (fun v' Hv => ∃ L, v' = .ref L ∧ Hw L = none ∧ Hv = upd Hw L (.lst [.str (dw d1 e .note)])) (fun Q' hQ => ?lst) (fun vl Hv hC => ?rest4)
                case lst =>
                  cases hn : nameD d1 with
                  | true =>
                    refine ⟨_, rfl, false, ⟨by decide, rfl⟩, iteF ?_⟩
                    cases hb : labD e with
                    | true =>
                      refine ⟨_, rfl, _, rfl, iteT ?_⟩
                      exact ⟨by show 1 ≤ sizeLine; decide, fun L hL => hQ _ _ ⟨L, rfl, hL, by rw [dnote, hn, hb]; rfl⟩⟩
                    | false =>
                      refine ⟨_, rfl, _, rfl, iteF ?_⟩
                      exact ⟨by show 1 ≤ sizeLine; decide, fun L hL => hQ _ _ ⟨L, rfl, hL, by rw [dnote, hn, hb]; rfl⟩⟩
                  | false =>
                    refine ⟨_, rfl, true, ⟨by decide, rfl⟩, iteT ?_⟩
                    exact ⟨by show 1 ≤ sizeLine; decide, fun L hL => hQ _ _ ⟨L, rfl, hL, by rw [dnote, hn]; rfl⟩⟩
                case rest4 =>
                  obtain ⟨L, rfl, hL, rfl⟩ := hC
                  try dsimp only
                  refine stepDrop (fun Hv => Hv = upd (upd Hw L (.lst [.str (dw d1 e .note)])) L (.lst [.str (dw d1 e .note), .str (dw d1 e .skip)])) (fun Q' hQ => ?app1) (fun Hv hC => ?rest5)
                  case app1 =>
                    refine ⟨_, rfl, .inl ⟨rfl, _, SqL.of upd_same⟩, ?_⟩
                    cases hn : nameD d1 with
                    | true =>
                      refine ⟨_, rfl, false, ⟨by decide, rfl⟩, iteF ?_⟩
                      refine ⟨_, rfl, u, e, _, rfl, (dp_same (sx.trans (Same.new hL)) e u hu1), ?_⟩
                      rw [← skipD_num]
                      cases hb : skipD e with
                      | true =>
                        refine ⟨_, rfl, iteT ?_⟩
                        exact ⟨L, _, _, rfl, rfl, upd_same, by show 1 < sizeLine; decide, hQ _ _ (by rw [dskip, hn, hb]; rfl)⟩
                      | false =>
                        refine ⟨_, rfl, iteF ?_⟩
                        exact ⟨L, _, _, rfl, rfl, upd_same, by show 1 < sizeLine; decide, hQ _ _ (by rw [dskip, hn, hb]; rfl)⟩
                    | false =>
                      refine ⟨_, rfl, true, ⟨by decide, rfl⟩, iteT ?_⟩
                      exact ⟨L, _, _, rfl, rfl, upd_same, by show 1 < sizeLine; decide, hQ _ _ (by rw [dskip, hn]; rfl)⟩
                  case rest5 =>
                  subst hC
                  have hsame : Same Hx (upd (upd Hw L (.lst [.str (dw d1 e .note)])) L (.lst [.str (dw d1 e .note), .str (dw d1 e .skip)])) := fun b' o' e' => by
                    have z := sx b' o' e'
                    rw [upd_ne (ne_of_none z hL), upd_ne (ne_of_none z hL)]
                    exact z
                  try dsimp only
                  refine stepDrop (fun Hv => Hv = upd (upd (upd Hw L (.lst [.str (dw d1 e .note)])) L (.lst [.str (dw d1 e .note), .str (dw d1 e .skip)])) L (.lst (ks3.map fun k => .str (dw d1 e k)))) (fun Q' hQ => ?app2) (fun Hv hC => ?rest6)
                  case app2 =>
                    refine ⟨_, rfl, .inl ⟨rfl, _, SqL.of upd_same⟩, ?_⟩
                    cases hn : nameD d1 with
                    | true =>
                      refine ⟨_, rfl, false, ⟨by decide, rfl⟩, iteF ?_⟩
                      refine ⟨_, rfl, u, e, _, rfl, (dp_same hsame e u hu1), ?_⟩
                      rw [← setD_num]
                      cases hb : setD e with
                      | true =>
                        refine ⟨_, rfl, iteT ?_⟩
                        exact ⟨L, _, _, rfl, rfl, upd_same, by show 2 < sizeLine; decide, hQ _ _ (by rw [show (ks3.map fun k => V.str (dw d1 e k)) = [.str (dw d1 e .note), .str (dw d1 e .skip), .str (dw d1 e .set)] from rfl, dset, hn, hb]; rfl)⟩
                      | false =>
                        refine ⟨_, rfl, iteF ?_⟩
                        exact ⟨L, _, _, rfl, rfl, upd_same, by show 2 < sizeLine; decide, hQ _ _ (by rw [show (ks3.map fun k => V.str (dw d1 e k)) = [.str (dw d1 e .note), .str (dw d1 e .skip), .str (dw d1 e .set)] from rfl, dset, hn, hb]; rfl)⟩
                    | false =>
                      refine ⟨_, rfl, true, ⟨by decide, rfl⟩, iteT ?_⟩
                      exact ⟨L, _, _, rfl, rfl, upd_same, by show 2 < sizeLine; decide, hQ _ _ (by rw [show (ks3.map fun k => V.str (dw d1 e k)) = [.str (dw d1 e .note), .str (dw d1 e .skip), .str (dw d1 e .set)] from rfl, dset, hn]; rfl)⟩
                  case rest6 =>
                  subst hC
                  have hsame3 : Same Hx (upd (upd (upd Hw L (.lst [.str (dw d1 e .note)])) L (.lst [.str (dw d1 e .note), .str (dw d1 e .skip)])) L (.lst (ks3.map fun k => .str (dw d1 e k)))) := fun b' o' e' => by
                    have z := sx b' o' e'
                    rw [upd_ne (ne_of_none z hL), upd_ne (ne_of_none z hL), upd_ne (ne_of_none z hL)]
                    exact z
                  have hL3 := upd_same (H := upd (upd Hw L (.lst [.str (dw d1 e .note)])) L (.lst [.str (dw d1 e .note), .str (dw d1 e .skip)])) (a := L) (o := .lst (ks3.map fun k => .str (dw d1 e k)))
                  generalize upd (upd (upd Hw L (.lst [.str (dw d1 e .note)])) L (.lst [.str (dw d1 e .note), .str (dw d1 e .skip)])) L (.lst (ks3.map fun k => .str (dw d1 e k))) = G at hsame3 hL3 ⊢
                  try dsimp only
                  refine ⟨(by show 3 ≤ sizeLine; decide), fun tp htp => ⟨tp, rfl, ⟨_, SqT.of upd_same⟩, fun D hD => lc_it (walk_tup (xs := ks3.map fun k => V.str k.nm)) (fun m Hm => Same G Hm ∧ Hm tp = some (.tup (ks3.map fun k => V.str k.nm)) ∧ Hm D = some (.lst ((ks3.map fun k => V.str (dw d1 e k)).take m))) ?s0 (fun m Hm _ hP => SqT.of hP.2.1) (fun m z Hm Hn hm hP hY => ?turn4) (fun Hm hP => ?done)⟩⟩
                  case s0 => exact ⟨(Same.new htp).trans (Same.new hD), Same.new hD tp _ upd_same, upd_same⟩
                  case turn4 =>
                    obtain ⟨rfl, hz⟩ := hY
                    obtain ⟨sG, htp2, hD2⟩ := hP
                    obtain ⟨kd, hkd, rfl⟩ : ∃ kd, ks3[m]? = some kd ∧ z = V.str kd.nm := by
                      rw [List.getElem?_map] at hz
                      cases hk : ks3[m]? with
                      | none => rw [hk] at hz; cases hz
                      | some kd => rw [hk] at hz; exact ⟨kd, rfl, (Option.some.inj hz).symm⟩
                    have sH := hsame3.trans sG
                    refine ⟨rfl, _, rfl, _, rfl, _, rfl, kd, v1, u, d1, e, rfl, dp_same sH d1 v1 hv1, hdl, dp_same sH e u hu1, hel, hes, fun Hr s7 m7 => ?_⟩
                    have hnD : tp ≠ D := fun zz => by rw [zz, hD2] at htp2; cases htp2
                    refine ⟨_, s7 D _ hD2, small1000 (by rw [List.length_take]; have : (ks3.map fun k => V.str (dw d1 e k)).length = 3 := rfl; omega), fun b' o' e' => ?_, by rw [upd_ne hnD]; exact s7 tp _ htp2, ?_⟩
                    · have hnb : b' ≠ D := fun zz => by
                        have z1 := Same.new (o := .tup (ks3.map fun k => V.str k.nm)) htp b' o' e'
                        rw [zz] at z1
                        have z2 : upd G tp (.tup (ks3.map fun k => V.str k.nm)) D = none := hD
                        rw [z1] at z2
                        cases z2
                      rw [upd_ne hnb]
                      exact s7 b' o' (sG b' o' e')
                    · rw [upd_same, List.take_add_one, List.getElem?_map, hkd]
                      rfl
                  case done =>
                    obtain ⟨sG, htp2, hD2⟩ := hP
                    have hD3 : Hm D = some (.lst ((ks3.map (dw d1 e)).map V.str)) := hD2
                    have hL4 : Hm L = some (.lst ((ks3.map (dw d1 e)).map V.str)) := sG L _ hL3
                    have hok : ∀ x ∈ ks3.map (dw d1 e), PyData.strOk x = true := fun x hx => by
                      obtain ⟨k, _, rfl⟩ := List.mem_map.mp hx
                      exact dw_ok d1 e k
                    refine ⟨_, rfl, .list ((ks3.map (dw d1 e)).map PyData.str), .list ((ks3.map (dw d1 e)).map PyData.str), .lst (SqL.of hD3) (dp_strs _), .lst (SqL.of hL4) (dp_strs _), strs_sh hok, strs_sh hok, _, rfl, ?_⟩
                    have heq : PyData.eqv (.list ((ks3.map (dw d1 e)).map PyData.str)) (.list ((ks3.map (dw d1 e)).map PyData.str)) = true := by
                      simp only [PyData.eqv]
                      exact strs_eqv _
                    rw [heq]
                    refine iteF ?_
                    obtain ⟨xe, ye, hxye, hbe⟩ := hBx
                    exact ⟨_, _, _, _, _, _, _, _, rfl, hsx.trans (hsame3.trans sG), ⟨xe, ye, hxye, sG b _ (hsame3 b _ hbe)⟩⟩
end
end Pn

namespace Pn
open PySem L2
theorem refs_one (a : Addr) : PySem.HandSPX.refsVE [.ref a, .type "ValueError", .type "Exception", .type "BaseException", .type "object"] = true := by
  show PySem.HandSPX.refsVE [.type "ValueError", .type "Exception", .type "BaseException", .type "object"] = true
  decide +kernel
theorem all_mk {P : Program} {w : World} {K : PySem.W.Frag} {h : Heap} {mg : Str → Option Value} {fa : Addr} (X : K.In h) (G : h.Ns mainGlobals mg) (hfa : mg "law" = some (.ref fa))
    {wROWWORDS : Addr} {ddROWWORDS : Option Addr} {nROWWORDS : Nat} {slROWWORDS : Array (Option Value)} {uROWWORDS0 uROWWORDS1 uROWWORDS2 uROWWORDS3 uROWWORDS4 uROWWORDS5 uROWWORDS6 uROWWORDS7 uROWWORDS8 : Tok}
    {tkLONGESTNAME : Tok}
    {fisinteger : Addr}
    {odisinteger anisinteger : Option Addr} {slisinteger : Array (Option Value)} {ocisinteger kVisinteger dcisinteger pmisinteger cdisinteger ctisinteger : Value}
    {fisnumber : Addr}
    {odisnumber anisnumber : Option Addr} {slisnumber : Array (Option Value)} {ocisnumber kVisnumber dcisnumber pmisnumber cdisnumber ctisnumber : Value}
    {fisname : Addr}
    {odisname anisname : Option Addr} {slisname : Array (Option Value)} {ocisname kVisname dcisname pmisname cdisname ctisname : Value}
    {CNoteError : Addr}
    {CInvalidPart : Addr}
    {CInvalidRow fInvalidRow : Addr} {nmInvalidRow qInvalidRow : Str} {NInvalidRow : Addr} {bsInvalidRow : List Value} {snInvalidRow : List Str} {subInvalidRow : List Value} {abInvalidRow : Bool} {colInvalidRow : Option Bool} {ddcInvalidRow : Option Addr} {maInvalidRow mbInvalidRow mcInvalidRow mdInvalidRow meInvalidRow : Option Value}
    {odInvalidRow anInvalidRow : Option Addr} {slInvalidRow : Array (Option Value)} {ocInvalidRow kVInvalidRow dcInvalidRow pmInvalidRow cdInvalidRow ctInvalidRow : Value}
    {fneedname : Addr}
    {odneedname anneedname : Option Addr} {slneedname : Array (Option Value)} {ocneedname kVneedname dcneedname pmneedname cdneedname ctneedname : Value}
    {CNote fNote : Addr}
    {TdNote : Addr} {cTNote : Value} {oTNote : Option Addr} {nTNote : Nat} {sTNote : Array (Option Value)} {tkTNote : Tok}
    {odNote anNote : Option Addr} {slNote : Array (Option Value)} {ocNote kVNote dcNote pmNote cdNote ctNote : Value}
    {CSkip fSkip : Addr}
    {odSkip anSkip : Option Addr} {slSkip : Array (Option Value)} {ocSkip kVSkip dcSkip pmSkip cdSkip ctSkip : Value}
    {CSet fSet : Addr}
    {odSet anSet : Option Addr} {slSet : Array (Option Value)} {ocSet kVSet dcSet pmSet cdSet ctSet : Value}
    {CKeep fKeep : Addr}
    {odKeep anKeep : Option Addr} {slKeep : Array (Option Value)} {ocKeep kVKeep dcKeep pmKeep cdKeep ctKeep : Value}
    {CBack fBack : Addr}
    {odBack anBack : Option Addr} {slBack : Array (Option Value)} {ocBack kVBack dcBack pmBack cdBack ctBack : Value}
    {CRef fRef : Addr}
    {odRef anRef : Option Addr} {slRef : Array (Option Value)} {ocRef kVRef dcRef pmRef cdRef ctRef : Value}
    {CPut fPut : Addr}
    {odPut anPut : Option Addr} {slPut : Array (Option Value)} {ocPut kVPut dcPut pmPut cdPut ctPut : Value}
    {COpen fOpen : Addr}
    {odOpen anOpen : Option Addr} {slOpen : Array (Option Value)} {ocOpen kVOpen dcOpen pmOpen cdOpen ctOpen : Value}
    {flawseed : Addr}
    {odlawseed anlawseed : Option Addr} {sllawseed : Array (Option Value)} {oclawseed kVlawseed dclawseed pmlawseed cdlawseed ctlawseed : Value}
    {flawchoose : Addr}
    {odlawchoose anlawchoose : Option Addr} {sllawchoose : Array (Option Value)} {oclawchoose kVlawchoose dclawchoose pmlawchoose cdlawchoose ctlawchoose : Value}
    {flawoneof : Addr}
    {odlawoneof anlawoneof : Option Addr} {sllawoneof : Array (Option Value)} {oclawoneof kVlawoneof dclawoneof pmlawoneof cdlawoneof ctlawoneof : Value}
    {flawleaf : Addr}
    {odlawleaf anlawleaf : Option Addr} {sllawleaf : Array (Option Value)} {oclawleaf kVlawleaf dclawleaf pmlawleaf cdlawleaf ctlawleaf : Value}
    {flawany : Addr}
    {odlawany anlawany : Option Addr} {sllawany : Array (Option Value)} {oclawany kVlawany dclawany pmlawany cdlawany ctlawany : Value}
    {flawtry : Addr}
    {odlawtry anlawtry : Option Addr} {sllawtry : Array (Option Value)} {oclawtry kVlawtry dclawtry pmlawtry cdlawtry ctlawtry : Value}
    {flawheard : Addr}
    {odlawheard anlawheard : Option Addr} {sllawheard : Array (Option Value)} {oclawheard kVlawheard dclawheard pmlawheard cdlawheard ctlawheard : Value}
    {flawisnumber : Addr}
    {odlawisnumber anlawisnumber : Option Addr} {sllawisnumber : Array (Option Value)} {oclawisnumber kVlawisnumber dclawisnumber pmlawisnumber cdlawisnumber ctlawisnumber : Value}
    {flawisname : Addr}
    {odlawisname anlawisname : Option Addr} {sllawisname : Array (Option Value)} {oclawisname kVlawisname dclawisname pmlawisname cdlawisname ctlawisname : Value}
    {flaw : Addr}
    {odlaw anlaw : Option Addr} {sllaw : Array (Option Value)} {oclaw kVlaw dclaw pmlaw cdlaw ctlaw : Value}
    (zint : PySem.W.nsIn K mainGlobals "int" = some none)
    (zbool : PySem.W.nsIn K mainGlobals "bool" = some none)
    (zstr : PySem.W.nsIn K mainGlobals "str" = some none)
    (zisinstance : PySem.W.nsIn K mainGlobals "isinstance" = some none)
    (zlen : PySem.W.nsIn K mainGlobals "len" = some none)
    (zall : PySem.W.nsIn K mainGlobals "all" = some none)
    (zabs : PySem.W.nsIn K mainGlobals "abs" = some none)
    (zrange : PySem.W.nsIn K mainGlobals "range" = some none)
    (ztuple : PySem.W.nsIn K mainGlobals "tuple" = some none)
    (zmax : PySem.W.nsIn K mainGlobals "max" = some none)
    (zmin : PySem.W.nsIn K mainGlobals "min" = some none)
    (aROWWORDS : PySem.W.nsIn K mainGlobals "ROW_WORDS" = some (some (.ref wROWWORDS)))
    (lROWWORDS : K.lookup wROWWORDS = some ⟨.type "tuple", ddROWWORDS, .seq #[.str "note" uROWWORDS0, .str "skip" uROWWORDS1, .str "set" uROWWORDS2, .str "keep" uROWWORDS3, .str "back" uROWWORDS4, .str "ref" uROWWORDS5, .str "put" uROWWORDS6, .str "open" uROWWORDS7, .str "part" uROWWORDS8] nROWWORDS, slROWWORDS⟩)
    (aLONGESTNAME : PySem.W.nsIn K mainGlobals "LONGEST_NAME" = some (some (.int 4 tkLONGESTNAME)))
    (aisinteger : PySem.W.nsIn K mainGlobals "is_integer" = some (some (.ref fisinteger)))
    (lisinteger : K.lookup fisinteger = some ⟨ocisinteger, odisinteger, .func (PySem.W.fnOf "is_integer" "is_integer" (defArgs sIsInteger) (defBody sIsInteger) (defScope sIsInteger) .none kVisinteger dcisinteger pmisinteger anisinteger cdisinteger ctisinteger), slisinteger⟩)
    (cisinteger : PySem.W.codeIn K cdisinteger "is_integer" = true)
    (kisinteger : PySem.W.keepIn K (.ref fisinteger) = true)
    (aisnumber : PySem.W.nsIn K mainGlobals "is_number" = some (some (.ref fisnumber)))
    (lisnumber : K.lookup fisnumber = some ⟨ocisnumber, odisnumber, .func (PySem.W.fnOf "is_number" "is_number" (defArgs sIsNumber) (defBody sIsNumber) (defScope sIsNumber) .none kVisnumber dcisnumber pmisnumber anisnumber cdisnumber ctisnumber), slisnumber⟩)
    (cisnumber : PySem.W.codeIn K cdisnumber "is_number" = true)
    (kisnumber : PySem.W.keepIn K (.ref fisnumber) = true)
    (aisname : PySem.W.nsIn K mainGlobals "is_name" = some (some (.ref fisname)))
    (lisname : K.lookup fisname = some ⟨ocisname, odisname, .func (PySem.W.fnOf "is_name" "is_name" (defArgs sIsName) (defBody sIsName) (defScope sIsName) .none kVisname dcisname pmisname anisname cdisname ctisname), slisname⟩)
    (cisname : PySem.W.codeIn K cdisname "is_name" = true)
    (kisname : PySem.W.keepIn K (.ref fisname) = true)
    (aNoteError : PySem.W.nsIn K mainGlobals "NoteError" = some (some (.ref CNoteError)))
    (aInvalidPart : PySem.W.nsIn K mainGlobals "InvalidPart" = some (some (.ref CInvalidPart)))
    (aInvalidRow : PySem.W.nsIn K mainGlobals "InvalidRow" = some (some (.ref CInvalidRow)))
    (xInvalidRow : K.lookup CInvalidRow = some (excClassObj nmInvalidRow qInvalidRow CInvalidRow NInvalidRow bsInvalidRow [.ref CNoteError, .type "ValueError", .type "Exception", .type "BaseException", .type "object"] true snInvalidRow subInvalidRow abInvalidRow colInvalidRow ddcInvalidRow maInvalidRow mbInvalidRow mcInvalidRow mdInvalidRow meInvalidRow "ValueError.__new__"))
    (saInvalidRow : PySem.W.findIn K (.ref CInvalidRow) "__setattr__" = some (some (.builtin "object.__setattr__")))
    (gaInvalidRow : PySem.W.findIn K (.ref CInvalidRow) "__getattribute__" = some (some (.builtin "BaseException.__getattribute__")))
    (ggInvalidRow : PySem.W.findIn K (.ref CInvalidRow) "__getattr__" = some (none))
    (nfInvalidRow : PySem.W.findIn K (.ref CInvalidRow) "word" = some (none))
    (inInvalidRow : PySem.W.findIn K (.ref CInvalidRow) "__init__" = some (some (.ref fInvalidRow)))
    (haInvalidRow : PySem.W.findIn K (.ref CInvalidRow) "__class__" = some (some (.builtin "object.__class__")))
    (tiInvalidRow : PySem.W.typeIn K (.ref fInvalidRow) = some (.type "function"))
    (lInvalidRow : K.lookup fInvalidRow = some ⟨ocInvalidRow, odInvalidRow, .func (PySem.W.fnOf "__init__" "InvalidRow.__init__" (defArgs sIRInit) (defBody sIRInit) (defScope sIRInit) .none kVInvalidRow dcInvalidRow pmInvalidRow anInvalidRow cdInvalidRow ctInvalidRow), slInvalidRow⟩)
    (cInvalidRow : PySem.W.codeIn K cdInvalidRow "InvalidRow.__init__" = true)
    (kInvalidRow : PySem.W.keepIn K (.ref fInvalidRow) = true)
    (kcInvalidRow : PySem.W.keepIn K (.ref CInvalidRow) = true)
    (eCInvalidRow : PySem.W.subIn K (.ref CInvalidRow) (.type "BaseException") = some true)
    (tCInvalidRow : PySem.W.typeIn K (.ref CInvalidRow) = some (.type "type"))
    (hCInvalidRow : PySem.W.hasDictIn K CInvalidRow = true)
    (iCInvalidRow : PySem.W.isClsIn K CInvalidRow = true)
    (sCInvalidRow : PySem.W.subIn K (.ref CInvalidRow) (.ref CInvalidRow) = some true)
    (hmInvalidRow : PySem.W.mroIn K CInvalidRow (.type "object") = some true)
    (aneedname : PySem.W.nsIn K mainGlobals "need_name" = some (some (.ref fneedname)))
    (lneedname : K.lookup fneedname = some ⟨ocneedname, odneedname, .func (PySem.W.fnOf "need_name" "need_name" (defArgs sNeedName) (defBody sNeedName) (defScope sNeedName) .none kVneedname dcneedname pmneedname anneedname cdneedname ctneedname), slneedname⟩)
    (cneedname : PySem.W.codeIn K cdneedname "need_name" = true)
    (kneedname : PySem.W.keepIn K (.ref fneedname) = true)
    (aNote : PySem.W.nsIn K mainGlobals "Note" = some (some (.ref CNote)))
    (inNote : PySem.W.findIn K (.ref CNote) "__init__" = some (some (.ref fNote)))
    (iNote : PySem.W.isFn K (.ref fNote) = true)
    (lNote : K.lookup fNote = some ⟨ocNote, odNote, .func (PySem.W.fnOf "__init__" "Note.__init__" (defArgs sNoteInit) (defBody sNoteInit) (defScope sNoteInit) (.ref TdNote) kVNote dcNote pmNote anNote cdNote ctNote), slNote⟩)
    (cNote : PySem.W.codeIn K cdNote "Note.__init__" = true)
    (kNote : PySem.W.keepIn K (.ref fNote) = true)
    (lTNote : K.lookup TdNote = some ⟨cTNote, oTNote, .seq #[.str "" tkTNote] nTNote, sTNote⟩)
    (pgNote : PySem.W.plainGet K CNote Str.empty = true)
    (hdNote : PySem.W.hasDictIn K CNote = true)
    (poNote : PySem.W.plainOver K CNote = true)
    (saNote : PySem.W.findIn K (.ref CNote) "__setattr__" = some (some (.builtin "object.__setattr__")))
    (mkNote : PySem.W.makesIn K CNote = true)
    (kcNote : PySem.W.keepIn K (.ref CNote) = true)
    (nNote0 : PySem.W.findIn K (.ref CNote) "word" = some none)
    (nNote1 : PySem.W.findIn K (.ref CNote) "counter" = some none)
    (nNote2 : PySem.W.findIn K (.ref CNote) "label" = some none)
    (aSkip : PySem.W.nsIn K mainGlobals "Skip" = some (some (.ref CSkip)))
    (inSkip : PySem.W.findIn K (.ref CSkip) "__init__" = some (some (.ref fSkip)))
    (iSkip : PySem.W.isFn K (.ref fSkip) = true)
    (lSkip : K.lookup fSkip = some ⟨ocSkip, odSkip, .func (PySem.W.fnOf "__init__" "Skip.__init__" (defArgs sSkipInit) (defBody sSkipInit) (defScope sSkipInit) .none kVSkip dcSkip pmSkip anSkip cdSkip ctSkip), slSkip⟩)
    (cSkip : PySem.W.codeIn K cdSkip "Skip.__init__" = true)
    (kSkip : PySem.W.keepIn K (.ref fSkip) = true)
    (pgSkip : PySem.W.plainGet K CSkip Str.empty = true)
    (hdSkip : PySem.W.hasDictIn K CSkip = true)
    (poSkip : PySem.W.plainOver K CSkip = true)
    (saSkip : PySem.W.findIn K (.ref CSkip) "__setattr__" = some (some (.builtin "object.__setattr__")))
    (mkSkip : PySem.W.makesIn K CSkip = true)
    (kcSkip : PySem.W.keepIn K (.ref CSkip) = true)
    (nSkip0 : PySem.W.findIn K (.ref CSkip) "word" = some none)
    (nSkip1 : PySem.W.findIn K (.ref CSkip) "counter" = some none)
    (nSkip2 : PySem.W.findIn K (.ref CSkip) "by" = some none)
    (aSet : PySem.W.nsIn K mainGlobals "Set" = some (some (.ref CSet)))
    (inSet : PySem.W.findIn K (.ref CSet) "__init__" = some (some (.ref fSet)))
    (iSet : PySem.W.isFn K (.ref fSet) = true)
    (lSet : K.lookup fSet = some ⟨ocSet, odSet, .func (PySem.W.fnOf "__init__" "Set.__init__" (defArgs sSetInit) (defBody sSetInit) (defScope sSetInit) .none kVSet dcSet pmSet anSet cdSet ctSet), slSet⟩)
    (cSet : PySem.W.codeIn K cdSet "Set.__init__" = true)
    (kSet : PySem.W.keepIn K (.ref fSet) = true)
    (pgSet : PySem.W.plainGet K CSet Str.empty = true)
    (hdSet : PySem.W.hasDictIn K CSet = true)
    (poSet : PySem.W.plainOver K CSet = true)
    (saSet : PySem.W.findIn K (.ref CSet) "__setattr__" = some (some (.builtin "object.__setattr__")))
    (mkSet : PySem.W.makesIn K CSet = true)
    (kcSet : PySem.W.keepIn K (.ref CSet) = true)
    (nSet0 : PySem.W.findIn K (.ref CSet) "word" = some none)
    (nSet1 : PySem.W.findIn K (.ref CSet) "counter" = some none)
    (nSet2 : PySem.W.findIn K (.ref CSet) "to" = some none)
    (aKeep : PySem.W.nsIn K mainGlobals "Keep" = some (some (.ref CKeep)))
    (inKeep : PySem.W.findIn K (.ref CKeep) "__init__" = some (some (.ref fKeep)))
    (iKeep : PySem.W.isFn K (.ref fKeep) = true)
    (lKeep : K.lookup fKeep = some ⟨ocKeep, odKeep, .func (PySem.W.fnOf "__init__" "Keep.__init__" (defArgs sKeepInit) (defBody sKeepInit) (defScope sKeepInit) .none kVKeep dcKeep pmKeep anKeep cdKeep ctKeep), slKeep⟩)
    (cKeep : PySem.W.codeIn K cdKeep "Keep.__init__" = true)
    (kKeep : PySem.W.keepIn K (.ref fKeep) = true)
    (pgKeep : PySem.W.plainGet K CKeep Str.empty = true)
    (hdKeep : PySem.W.hasDictIn K CKeep = true)
    (poKeep : PySem.W.plainOver K CKeep = true)
    (saKeep : PySem.W.findIn K (.ref CKeep) "__setattr__" = some (some (.builtin "object.__setattr__")))
    (mkKeep : PySem.W.makesIn K CKeep = true)
    (kcKeep : PySem.W.keepIn K (.ref CKeep) = true)
    (nKeep0 : PySem.W.findIn K (.ref CKeep) "word" = some none)
    (nKeep1 : PySem.W.findIn K (.ref CKeep) "counter" = some none)
    (aBack : PySem.W.nsIn K mainGlobals "Back" = some (some (.ref CBack)))
    (inBack : PySem.W.findIn K (.ref CBack) "__init__" = some (some (.ref fBack)))
    (iBack : PySem.W.isFn K (.ref fBack) = true)
    (lBack : K.lookup fBack = some ⟨ocBack, odBack, .func (PySem.W.fnOf "__init__" "Back.__init__" (defArgs sBackInit) (defBody sBackInit) (defScope sBackInit) .none kVBack dcBack pmBack anBack cdBack ctBack), slBack⟩)
    (cBack : PySem.W.codeIn K cdBack "Back.__init__" = true)
    (kBack : PySem.W.keepIn K (.ref fBack) = true)
    (pgBack : PySem.W.plainGet K CBack Str.empty = true)
    (hdBack : PySem.W.hasDictIn K CBack = true)
    (poBack : PySem.W.plainOver K CBack = true)
    (saBack : PySem.W.findIn K (.ref CBack) "__setattr__" = some (some (.builtin "object.__setattr__")))
    (mkBack : PySem.W.makesIn K CBack = true)
    (kcBack : PySem.W.keepIn K (.ref CBack) = true)
    (nBack0 : PySem.W.findIn K (.ref CBack) "word" = some none)
    (nBack1 : PySem.W.findIn K (.ref CBack) "counter" = some none)
    (aRef : PySem.W.nsIn K mainGlobals "Ref" = some (some (.ref CRef)))
    (inRef : PySem.W.findIn K (.ref CRef) "__init__" = some (some (.ref fRef)))
    (iRef : PySem.W.isFn K (.ref fRef) = true)
    (lRef : K.lookup fRef = some ⟨ocRef, odRef, .func (PySem.W.fnOf "__init__" "Ref.__init__" (defArgs sRefInit) (defBody sRefInit) (defScope sRefInit) .none kVRef dcRef pmRef anRef cdRef ctRef), slRef⟩)
    (cRef : PySem.W.codeIn K cdRef "Ref.__init__" = true)
    (kRef : PySem.W.keepIn K (.ref fRef) = true)
    (pgRef : PySem.W.plainGet K CRef Str.empty = true)
    (hdRef : PySem.W.hasDictIn K CRef = true)
    (poRef : PySem.W.plainOver K CRef = true)
    (saRef : PySem.W.findIn K (.ref CRef) "__setattr__" = some (some (.builtin "object.__setattr__")))
    (mkRef : PySem.W.makesIn K CRef = true)
    (kcRef : PySem.W.keepIn K (.ref CRef) = true)
    (nRef0 : PySem.W.findIn K (.ref CRef) "word" = some none)
    (nRef1 : PySem.W.findIn K (.ref CRef) "label" = some none)
    (aPut : PySem.W.nsIn K mainGlobals "Put" = some (some (.ref CPut)))
    (inPut : PySem.W.findIn K (.ref CPut) "__init__" = some (some (.ref fPut)))
    (iPut : PySem.W.isFn K (.ref fPut) = true)
    (lPut : K.lookup fPut = some ⟨ocPut, odPut, .func (PySem.W.fnOf "__init__" "Put.__init__" (defArgs sPutInit) (defBody sPutInit) (defScope sPutInit) .none kVPut dcPut pmPut anPut cdPut ctPut), slPut⟩)
    (cPut : PySem.W.codeIn K cdPut "Put.__init__" = true)
    (kPut : PySem.W.keepIn K (.ref fPut) = true)
    (pgPut : PySem.W.plainGet K CPut Str.empty = true)
    (hdPut : PySem.W.hasDictIn K CPut = true)
    (poPut : PySem.W.plainOver K CPut = true)
    (saPut : PySem.W.findIn K (.ref CPut) "__setattr__" = some (some (.builtin "object.__setattr__")))
    (mkPut : PySem.W.makesIn K CPut = true)
    (kcPut : PySem.W.keepIn K (.ref CPut) = true)
    (nPut0 : PySem.W.findIn K (.ref CPut) "word" = some none)
    (nPut1 : PySem.W.findIn K (.ref CPut) "part" = some none)
    (aOpen : PySem.W.nsIn K mainGlobals "Open" = some (some (.ref COpen)))
    (inOpen : PySem.W.findIn K (.ref COpen) "__init__" = some (some (.ref fOpen)))
    (iOpen : PySem.W.isFn K (.ref fOpen) = true)
    (lOpen : K.lookup fOpen = some ⟨ocOpen, odOpen, .func (PySem.W.fnOf "__init__" "Open.__init__" (defArgs sOpenInit) (defBody sOpenInit) (defScope sOpenInit) .none kVOpen dcOpen pmOpen anOpen cdOpen ctOpen), slOpen⟩)
    (cOpen : PySem.W.codeIn K cdOpen "Open.__init__" = true)
    (kOpen : PySem.W.keepIn K (.ref fOpen) = true)
    (pgOpen : PySem.W.plainGet K COpen Str.empty = true)
    (hdOpen : PySem.W.hasDictIn K COpen = true)
    (poOpen : PySem.W.plainOver K COpen = true)
    (saOpen : PySem.W.findIn K (.ref COpen) "__setattr__" = some (some (.builtin "object.__setattr__")))
    (mkOpen : PySem.W.makesIn K COpen = true)
    (kcOpen : PySem.W.keepIn K (.ref COpen) = true)
    (nOpen0 : PySem.W.findIn K (.ref COpen) "word" = some none)
    (nOpen1 : PySem.W.findIn K (.ref COpen) "name" = some none)
    (alawseed : PySem.W.nsIn K mainGlobals "_law_seed" = some (some (.ref flawseed)))
    (llawseed : K.lookup flawseed = some ⟨oclawseed, odlawseed, .func (PySem.W.fnOf "_law_seed" "_law_seed" (defArgs sSeed) (defBody sSeed) (defScope sSeed) .none kVlawseed dclawseed pmlawseed anlawseed cdlawseed ctlawseed), sllawseed⟩)
    (clawseed : PySem.W.codeIn K cdlawseed "_law_seed" = true)
    (klawseed : PySem.W.keepIn K (.ref flawseed) = true)
    (alawchoose : PySem.W.nsIn K mainGlobals "_law_choose" = some (some (.ref flawchoose)))
    (llawchoose : K.lookup flawchoose = some ⟨oclawchoose, odlawchoose, .func (PySem.W.fnOf "_law_choose" "_law_choose" (defArgs sChoose) (defBody sChoose) (defScope sChoose) .none kVlawchoose dclawchoose pmlawchoose anlawchoose cdlawchoose ctlawchoose), sllawchoose⟩)
    (clawchoose : PySem.W.codeIn K cdlawchoose "_law_choose" = true)
    (klawchoose : PySem.W.keepIn K (.ref flawchoose) = true)
    (alawoneof : PySem.W.nsIn K mainGlobals "_law_one_of" = some (some (.ref flawoneof)))
    (llawoneof : K.lookup flawoneof = some ⟨oclawoneof, odlawoneof, .func (PySem.W.fnOf "_law_one_of" "_law_one_of" (defArgs sOne) (defBody sOne) (defScope sOne) .none kVlawoneof dclawoneof pmlawoneof anlawoneof cdlawoneof ctlawoneof), sllawoneof⟩)
    (clawoneof : PySem.W.codeIn K cdlawoneof "_law_one_of" = true)
    (klawoneof : PySem.W.keepIn K (.ref flawoneof) = true)
    (alawleaf : PySem.W.nsIn K mainGlobals "_law_leaf" = some (some (.ref flawleaf)))
    (llawleaf : K.lookup flawleaf = some ⟨oclawleaf, odlawleaf, .func (PySem.W.fnOf "_law_leaf" "_law_leaf" (defArgs sLeaf) (defBody sLeaf) (defScope sLeaf) .none kVlawleaf dclawleaf pmlawleaf anlawleaf cdlawleaf ctlawleaf), sllawleaf⟩)
    (clawleaf : PySem.W.codeIn K cdlawleaf "_law_leaf" = true)
    (klawleaf : PySem.W.keepIn K (.ref flawleaf) = true)
    (alawany : PySem.W.nsIn K mainGlobals "_law_any" = some (some (.ref flawany)))
    (llawany : K.lookup flawany = some ⟨oclawany, odlawany, .func (PySem.W.fnOf "_law_any" "_law_any" (defArgs sAny) (defBody sAny) (defScope sAny) .none kVlawany dclawany pmlawany anlawany cdlawany ctlawany), sllawany⟩)
    (clawany : PySem.W.codeIn K cdlawany "_law_any" = true)
    (klawany : PySem.W.keepIn K (.ref flawany) = true)
    (alawtry : PySem.W.nsIn K mainGlobals "_law_try" = some (some (.ref flawtry)))
    (llawtry : K.lookup flawtry = some ⟨oclawtry, odlawtry, .func (PySem.W.fnOf "_law_try" "_law_try" (defArgs sLTry) (defBody sLTry) (defScope sLTry) .none kVlawtry dclawtry pmlawtry anlawtry cdlawtry ctlawtry), sllawtry⟩)
    (clawtry : PySem.W.codeIn K cdlawtry "_law_try" = true)
    (klawtry : PySem.W.keepIn K (.ref flawtry) = true)
    (alawheard : PySem.W.nsIn K mainGlobals "_law_heard" = some (some (.ref flawheard)))
    (llawheard : K.lookup flawheard = some ⟨oclawheard, odlawheard, .func (PySem.W.fnOf "_law_heard" "_law_heard" (defArgs sLHeard) (defBody sLHeard) (defScope sLHeard) .none kVlawheard dclawheard pmlawheard anlawheard cdlawheard ctlawheard), sllawheard⟩)
    (clawheard : PySem.W.codeIn K cdlawheard "_law_heard" = true)
    (klawheard : PySem.W.keepIn K (.ref flawheard) = true)
    (alawisnumber : PySem.W.nsIn K mainGlobals "_law_is_number" = some (some (.ref flawisnumber)))
    (llawisnumber : K.lookup flawisnumber = some ⟨oclawisnumber, odlawisnumber, .func (PySem.W.fnOf "_law_is_number" "_law_is_number" (defArgs sLIsNumber) (defBody sLIsNumber) (defScope sLIsNumber) .none kVlawisnumber dclawisnumber pmlawisnumber anlawisnumber cdlawisnumber ctlawisnumber), sllawisnumber⟩)
    (clawisnumber : PySem.W.codeIn K cdlawisnumber "_law_is_number" = true)
    (klawisnumber : PySem.W.keepIn K (.ref flawisnumber) = true)
    (alawisname : PySem.W.nsIn K mainGlobals "_law_is_name" = some (some (.ref flawisname)))
    (llawisname : K.lookup flawisname = some ⟨oclawisname, odlawisname, .func (PySem.W.fnOf "_law_is_name" "_law_is_name" (defArgs sLIsName) (defBody sLIsName) (defScope sLIsName) .none kVlawisname dclawisname pmlawisname anlawisname cdlawisname ctlawisname), sllawisname⟩)
    (clawisname : PySem.W.codeIn K cdlawisname "_law_is_name" = true)
    (klawisname : PySem.W.keepIn K (.ref flawisname) = true)
    (alaw : PySem.W.nsIn K mainGlobals "law" = some (some (.ref flaw)))
    (llaw : K.lookup flaw = some ⟨oclaw, odlaw, .func (PySem.W.fnOf "law" "law" (defArgs sLaw) (defBody sLaw) (defScope sLaw) .none kVlaw dclaw pmlaw anlaw cdlaw ctlaw), sllaw⟩)
    (claw : PySem.W.codeIn K cdlaw "law" = true)
    (klaw : PySem.W.keepIn K (.ref flaw) = true)
    (kCN : PySem.W.kitOne K (.ref CInvalidRow) (.ref CNoteError) = some true)
    (kCP : PySem.W.kitOne K (.ref CInvalidRow) (.ref CInvalidPart) = some false)
    (hnGet : PySem.W.specialIn K (.builtin "object.__class__") "__get__" = some (some (.builtin "getset_descriptor.__get__")))
    (htGet : PySem.W.takesIn K (.builtin "object.__class__") = some true)
    : ∃ fd : FuncData, (∀ (s : Shared) (v : Value), BindsTo s fd ⟨[v], []⟩ [("_law_script", v)]) ∧ ∀ base : Heap, K.In base → base.Ns mainGlobals mg → FnOk P w K mg base CX0 8 fa fd ["_law_script"] (spLaw K) := by
  have e := hfa.symm.trans (PySem.W.mg_of X G alaw)
  cases e
  have Mint : mg "int" = none := PySem.W.mg_none_of X G zint
  have Mbool : mg "bool" = none := PySem.W.mg_none_of X G zbool
  have Mstr : mg "str" = none := PySem.W.mg_none_of X G zstr
  have Misinstance : mg "isinstance" = none := PySem.W.mg_none_of X G zisinstance
  have Mlen : mg "len" = none := PySem.W.mg_none_of X G zlen
  have Mall : mg "all" = none := PySem.W.mg_none_of X G zall
  have Mabs : mg "abs" = none := PySem.W.mg_none_of X G zabs
  have Mrange : mg "range" = none := PySem.W.mg_none_of X G zrange
  have Mtuple : mg "tuple" = none := PySem.W.mg_none_of X G ztuple
  have Mmax : mg "max" = none := PySem.W.mg_none_of X G zmax
  have Mmin : mg "min" = none := PySem.W.mg_none_of X G zmin
  have SROWWORDS : ∀ H : Hp, SqT K H wROWWORDS [.str "note", .str "skip", .str "set", .str "keep", .str "back", .str "ref", .str "put", .str "open", .str "part"] := fun H => .inr ⟨_, _, _, lROWWORDS, rfl, rfl, (by show 9 ≤ sizeLine; decide), (.cons ⟨_, rfl⟩ (.cons ⟨_, rfl⟩ (.cons ⟨_, rfl⟩ (.cons ⟨_, rfl⟩ (.cons ⟨_, rfl⟩ (.cons ⟨_, rfl⟩ (.cons ⟨_, rfl⟩ (.cons ⟨_, rfl⟩ (.cons ⟨_, rfl⟩ .nil)))))))))⟩
  have ILONGESTNAME := PySem.W.mg_of X G aLONGESTNAME
  let Disinteger : At K mg "is_integer" sIsInteger ["value"] := ⟨fisinteger, _, fun_mk (st := sIsInteger) lisinteger cisinteger kisinteger, (fun_mk (st := sIsInteger) lisinteger cisinteger kisinteger).binds (ps := ["value"]) fun _ _ _ _ _ _ us hl => match us, hl with | [_], _ => rfl, PySem.W.mg_of X G aisinteger⟩
  let Disnumber : At K mg "is_number" sIsNumber ["value"] := ⟨fisnumber, _, fun_mk (st := sIsNumber) lisnumber cisnumber kisnumber, (fun_mk (st := sIsNumber) lisnumber cisnumber kisnumber).binds (ps := ["value"]) fun _ _ _ _ _ _ us hl => match us, hl with | [_], _ => rfl, PySem.W.mg_of X G aisnumber⟩
  let Disname : At K mg "is_name" sIsName ["value"] := ⟨fisname, _, fun_mk (st := sIsName) lisname cisname kisname, (fun_mk (st := sIsName) lisname cisname kisname).binds (ps := ["value"]) fun _ _ _ _ _ _ us hl => match us, hl with | [_], _ => rfl, PySem.W.mg_of X G aisname⟩
  have OInvalidRow : OexC K CInvalidRow := ⟨⟨nmInvalidRow, qInvalidRow, NInvalidRow, bsInvalidRow, _, snInvalidRow, subInvalidRow, abInvalidRow, colInvalidRow, ddcInvalidRow, maInvalidRow, mbInvalidRow, mcInvalidRow, mdInvalidRow, meInvalidRow, xInvalidRow, refs_one _⟩, saInvalidRow, eCInvalidRow, tCInvalidRow, kcInvalidRow⟩
  let EInvalidRow : TExc K mg "InvalidRow" "InvalidRow.__init__" "word" sIRInit := { C := CInvalidRow, fI := fInvalidRow, fd := _, F := fun_mk (st := sIRInit) lInvalidRow cInvalidRow kInvalidRow, b := (fun_mk (st := sIRInit) lInvalidRow cInvalidRow kInvalidRow).binds (ps := ["self", "word"]) fun _ _ _ _ _ _ us hl => match us, hl with | [_, _], _ => rfl, m := PySem.W.mg_of X G aInvalidRow, O := OInvalidRow, iC := inInvalidRow, tI := tiInvalidRow, noF := nfInvalidRow, E := ⟨gaInvalidRow, ggInvalidRow, eCInvalidRow, hCInvalidRow, haInvalidRow, hnGet, htGet, hmInvalidRow⟩, isC := iCInvalidRow, te := PySem.W.exm_ref eCInvalidRow hCInvalidRow tCInvalidRow sCInvalidRow, xf := ⟨gaInvalidRow, ggInvalidRow, eCInvalidRow, hCInvalidRow⟩ }
  let Dneedname : At K mg "need_name" sNeedName ["value", "word"] := ⟨fneedname, _, fun_mk (st := sNeedName) lneedname cneedname kneedname, (fun_mk (st := sNeedName) lneedname cneedname kneedname).binds (ps := ["value", "word"]) fun _ _ _ _ _ _ us hl => match us, hl with | [_, _], _ => rfl, PySem.W.mg_of X G aneedname⟩
  let Dlawseed : At K mg "_law_seed" sSeed ["_law_script", "_law_k"] := ⟨flawseed, _, fun_mk (st := sSeed) llawseed clawseed klawseed, (fun_mk (st := sSeed) llawseed clawseed klawseed).binds (ps := ["_law_script", "_law_k"]) fun _ _ _ _ _ _ us hl => match us, hl with | [_, _], _ => rfl, PySem.W.mg_of X G alawseed⟩
  let Dlawchoose : At K mg "_law_choose" sChoose ["_law_box", "_law_many"] := ⟨flawchoose, _, fun_mk (st := sChoose) llawchoose clawchoose klawchoose, (fun_mk (st := sChoose) llawchoose clawchoose klawchoose).binds (ps := ["_law_box", "_law_many"]) fun _ _ _ _ _ _ us hl => match us, hl with | [_, _], _ => rfl, PySem.W.mg_of X G alawchoose⟩
  let Dlawoneof : At K mg "_law_one_of" sOne ["_law_box", "_law_some"] := ⟨flawoneof, _, fun_mk (st := sOne) llawoneof clawoneof klawoneof, (fun_mk (st := sOne) llawoneof clawoneof klawoneof).binds (ps := ["_law_box", "_law_some"]) fun _ _ _ _ _ _ us hl => match us, hl with | [_, _], _ => rfl, PySem.W.mg_of X G alawoneof⟩
  let Dlawleaf : At K mg "_law_leaf" sLeaf ["_law_box"] := ⟨flawleaf, _, fun_mk (st := sLeaf) llawleaf clawleaf klawleaf, (fun_mk (st := sLeaf) llawleaf clawleaf klawleaf).binds (ps := ["_law_box"]) fun _ _ _ _ _ _ us hl => match us, hl with | [_], _ => rfl, PySem.W.mg_of X G alawleaf⟩
  let Dlawany : At K mg "_law_any" sAny ["_law_box", "_law_deep"] := ⟨flawany, _, fun_mk (st := sAny) llawany clawany klawany, (fun_mk (st := sAny) llawany clawany klawany).binds (ps := ["_law_box", "_law_deep"]) fun _ _ _ _ _ _ us hl => match us, hl with | [_, _], _ => rfl, PySem.W.mg_of X G alawany⟩
  let Dlawtry : At K mg "_law_try" sLTry ["_law_kind", "_law_first", "_law_second"] := ⟨flawtry, _, fun_mk (st := sLTry) llawtry clawtry klawtry, (fun_mk (st := sLTry) llawtry clawtry klawtry).binds (ps := ["_law_kind", "_law_first", "_law_second"]) fun _ _ _ _ _ _ us hl => match us, hl with | [_, _, _], _ => rfl, PySem.W.mg_of X G alawtry⟩
  let Dlawheard : At K mg "_law_heard" sLHeard ["_law_kind", "_law_first", "_law_second"] := ⟨flawheard, _, fun_mk (st := sLHeard) llawheard clawheard klawheard, (fun_mk (st := sLHeard) llawheard clawheard klawheard).binds (ps := ["_law_kind", "_law_first", "_law_second"]) fun _ _ _ _ _ _ us hl => match us, hl with | [_, _, _], _ => rfl, PySem.W.mg_of X G alawheard⟩
  let Dlawisnumber : At K mg "_law_is_number" sLIsNumber ["_law_value", "_law_least"] := ⟨flawisnumber, _, fun_mk (st := sLIsNumber) llawisnumber clawisnumber klawisnumber, (fun_mk (st := sLIsNumber) llawisnumber clawisnumber klawisnumber).binds (ps := ["_law_value", "_law_least"]) fun _ _ _ _ _ _ us hl => match us, hl with | [_, _], _ => rfl, PySem.W.mg_of X G alawisnumber⟩
  let Dlawisname : At K mg "_law_is_name" sLIsName ["_law_value"] := ⟨flawisname, _, fun_mk (st := sLIsName) llawisname clawisname klawisname, (fun_mk (st := sLIsName) llawisname clawisname klawisname).binds (ps := ["_law_value"]) fun _ _ _ _ _ _ us hl => match us, hl with | [_], _ => rfl, PySem.W.mg_of X G alawisname⟩
  let N : TNeed K mg := { mInt := Mint, mBool := Mbool, mStr := Mstr, mIsi := Misinstance, mLen := Mlen, mAll := Mall, words := wROWWORDS, mWords := PySem.W.mg_of X G aROWWORDS, hWords := SROWWORDS, tok := tkLONGESTNAME, mLong := ILONGESTNAME, isInteger := Disinteger, isNumber := Disnumber, isName := Disname, IR := EInvalidRow, need := Dneedname }
  have FN : FunD K "__init__" "Note.__init__" (defArgs sNoteInit) (defBody sNoteInit) (defScope sNoteInit) [.str ""] [] fNote _ := ⟨⟨_, _, _, _, _, _, _, _, _, _, rfl, lNote, cNote, .inr ⟨by simp, TdNote, _, [.str "" tkTNote], _, rfl, lTNote, rfl, .cons ⟨_, rfl⟩ .nil⟩, .inl rfl⟩, kNote⟩
  obtain ⟨dsN, vN, bN⟩ := FN.binds1 (ps := ["self", "counter", "label"]) 3 1 (by simp) rfl fun _ _ _ _ _ _ _ us its hl hi => match us, its, hl, hi with | [_, _, _], [_], _, _ => ⟨_, rfl, rfl⟩
  have eN : dsN = [] := by cases vN; rfl
  subst eN
  let KNote : TNote K mg := { C := CNote, fI := fNote, fd := _, F := FN, b := bN, m := PySem.W.mg_of X G aNote, M := ⟨mkNote, inNote, iNote, kcNote⟩, cl := ⟨pgNote, hdNote, poNote, saNote⟩, noW := nNote0, noC := nNote1, noL := nNote2 }
  let KSkip : TSkip K mg := { C := CSkip, fI := fSkip, fd := _, F := fun_mk (st := sSkipInit) lSkip cSkip kSkip, b := (fun_mk (st := sSkipInit) lSkip cSkip kSkip).binds (ps := ["self", "counter", "by"]) fun _ _ _ _ _ _ us hl => match us, hl with | [_, _, _], _ => rfl, m := PySem.W.mg_of X G aSkip, M := ⟨mkSkip, inSkip, iSkip, kcSkip⟩, cl := ⟨pgSkip, hdSkip, poSkip, saSkip⟩, noW := nSkip0, noC := nSkip1, noF := nSkip2 }
  let KSet : TSet K mg := { C := CSet, fI := fSet, fd := _, F := fun_mk (st := sSetInit) lSet cSet kSet, b := (fun_mk (st := sSetInit) lSet cSet kSet).binds (ps := ["self", "counter", "to"]) fun _ _ _ _ _ _ us hl => match us, hl with | [_, _, _], _ => rfl, m := PySem.W.mg_of X G aSet, M := ⟨mkSet, inSet, iSet, kcSet⟩, cl := ⟨pgSet, hdSet, poSet, saSet⟩, noW := nSet0, noC := nSet1, noF := nSet2 }
  let KKeep : TKeep K mg := { C := CKeep, fI := fKeep, fd := _, F := fun_mk (st := sKeepInit) lKeep cKeep kKeep, b := (fun_mk (st := sKeepInit) lKeep cKeep kKeep).binds (ps := ["self", "counter"]) fun _ _ _ _ _ _ us hl => match us, hl with | [_, _], _ => rfl, m := PySem.W.mg_of X G aKeep, M := ⟨mkKeep, inKeep, iKeep, kcKeep⟩, cl := ⟨pgKeep, hdKeep, poKeep, saKeep⟩, noW := nKeep0, noF := nKeep1 }
  let KBack : TBack K mg := { C := CBack, fI := fBack, fd := _, F := fun_mk (st := sBackInit) lBack cBack kBack, b := (fun_mk (st := sBackInit) lBack cBack kBack).binds (ps := ["self", "counter"]) fun _ _ _ _ _ _ us hl => match us, hl with | [_, _], _ => rfl, m := PySem.W.mg_of X G aBack, M := ⟨mkBack, inBack, iBack, kcBack⟩, cl := ⟨pgBack, hdBack, poBack, saBack⟩, noW := nBack0, noF := nBack1 }
  let KRef : TRef K mg := { C := CRef, fI := fRef, fd := _, F := fun_mk (st := sRefInit) lRef cRef kRef, b := (fun_mk (st := sRefInit) lRef cRef kRef).binds (ps := ["self", "label"]) fun _ _ _ _ _ _ us hl => match us, hl with | [_, _], _ => rfl, m := PySem.W.mg_of X G aRef, M := ⟨mkRef, inRef, iRef, kcRef⟩, cl := ⟨pgRef, hdRef, poRef, saRef⟩, noW := nRef0, noF := nRef1 }
  let KPut : TPut K mg := { C := CPut, fI := fPut, fd := _, F := fun_mk (st := sPutInit) lPut cPut kPut, b := (fun_mk (st := sPutInit) lPut cPut kPut).binds (ps := ["self", "part"]) fun _ _ _ _ _ _ us hl => match us, hl with | [_, _], _ => rfl, m := PySem.W.mg_of X G aPut, M := ⟨mkPut, inPut, iPut, kcPut⟩, cl := ⟨pgPut, hdPut, poPut, saPut⟩, noW := nPut0, noF := nPut1 }
  let KOpen : TOpen K mg := { C := COpen, fI := fOpen, fd := _, F := fun_mk (st := sOpenInit) lOpen cOpen kOpen, b := (fun_mk (st := sOpenInit) lOpen cOpen kOpen).binds (ps := ["self", "name"]) fun _ _ _ _ _ _ us hl => match us, hl with | [_, _], _ => rfl, m := PySem.W.mg_of X G aOpen, M := ⟨mkOpen, inOpen, iOpen, kcOpen⟩, cl := ⟨pgOpen, hdOpen, poOpen, saOpen⟩, noW := nOpen0, noF := nOpen1 }
  let A : TAny K mg := { mI := Mint, mL := Mlen, mA := Mabs, seed := Dlawseed, choose := Dlawchoose, one := Dlawoneof, mR := Mrange, mT := Mtuple, leaf := Dlawleaf, any := Dlawany }
  let T : TK03 K mg := { N := N, note := KNote, skip := KSkip, set := KSet, keep := KKeep, back := KBack, ref := KRef, put := KPut, open_ := KOpen, A := A, try_ := Dlawtry, heard := Dlawheard, isnum := Dlawisnumber, isname := Dlawisname, CN := CNoteError, mCN := PySem.W.mg_of X G aNoteError, kCN := kCN, CP := CInvalidPart, mCP := PySem.W.mg_of X G aInvalidPart, kCP := kCP, mMax := Mmax, mMin := Mmin }
  exact ⟨_, fun s v => .of_eq rfl, fun base _ _ => ok_law T (fun_mk (st := sLaw) llaw claw klaw)⟩
theorem walk {l : PySem.W.OpenLaw} {q : Program} {loose : List Str} {XP : (Str → Option Value) → Heap → Prop} {YP : World → Heap → Prop} {d : DefRec} {K : Params → PySem.W.Frag} (hn : l.most = some 63) (hdf : d.params.defaults = [])
    (hY : ∀ (w : World) (h : Heap), YP w h → (K w.params).In h)
    (F : ∀ (w : World) (mg : Str → Option Value) (fa : Addr) (h : Heap), (K w.params).In h → h.Ns mainGlobals mg → mg d.name = some (.ref fa) →
      ∃ fd : FuncData, (∀ (s : Shared) (u : Value), BindsTo s fd ⟨[u], []⟩ [("_law_script", u)]) ∧ ∀ base : Heap, (K w.params).In base → base.Ns mainGlobals mg → FnOk l.prog w (K w.params) mg base CX0 8 fa fd ["_law_script"] (spLaw (K w.params))) :
    PySem.W.WalkO q loose XP YP l.row.toRowW d [] (fun f vs => PySem.call f vs) :=
  L2.walk_of (n := 63) (k := 8) (x := "_law_script") (CX := fun _ => CX0) (sp := fun w => spLaw (K w.params)) hn (by decide) hdf ⟨rfl, by decide, by decide⟩ hY F (fun _ _ a ns hl _ hS => ⟨a, ns, rfl, hS, hl, fun _ => rfl⟩) fun _ _ _ _ _ z => z
end Pn

open PySem PySem.W PyProof.Rows
set_option maxRecDepth 100000 in
set_option maxHeartbeats 0 in
theorem PySem.Challenge.cw_partnotes_k03_rows_refused_holds : PySem.Challenge.rw_partnotes_k03_rows_refused.Holds := by
  w_on; o_law; k_head; (case hw => w_witness2)
  k_fill
  refine Pn.walk (l := PySem.Challenge.rw_partnotes_k03_rows_refused) rfl rfl (fun w h Y => PySem.W.kIn_of Y) ?F
  case F =>
    intro w mg fa h KX G hmg
    refine' Pn.all_mk KX G hmg ?zint ?zbool ?zstr ?zisinstance ?zlen ?zall ?zabs ?zrange ?ztuple ?zmax ?zmin ?aROWWORDS ?lROWWORDS ?aLONGESTNAME ?aisinteger ?lisinteger ?cisinteger ?kisinteger ?aisnumber ?lisnumber ?cisnumber ?kisnumber ?aisname ?lisname ?cisname ?kisname ?aNoteError ?aInvalidPart ?aInvalidRow ?xInvalidRow ?saInvalidRow ?gaInvalidRow ?ggInvalidRow ?nfInvalidRow ?inInvalidRow ?haInvalidRow ?tiInvalidRow ?lInvalidRow ?cInvalidRow ?kInvalidRow ?kcInvalidRow ?eCInvalidRow ?tCInvalidRow ?hCInvalidRow ?iCInvalidRow ?sCInvalidRow ?hmInvalidRow ?aneedname ?lneedname ?cneedname ?kneedname ?aNote ?inNote ?iNote ?lNote ?cNote ?kNote ?lTNote ?pgNote ?hdNote ?poNote ?saNote ?mkNote ?kcNote ?nNote0 ?nNote1 ?nNote2 ?aSkip ?inSkip ?iSkip ?lSkip ?cSkip ?kSkip ?pgSkip ?hdSkip ?poSkip ?saSkip ?mkSkip ?kcSkip ?nSkip0 ?nSkip1 ?nSkip2 ?aSet ?inSet ?iSet ?lSet ?cSet ?kSet ?pgSet ?hdSet ?poSet ?saSet ?mkSet ?kcSet ?nSet0 ?nSet1 ?nSet2 ?aKeep ?inKeep ?iKeep ?lKeep ?cKeep ?kKeep ?pgKeep ?hdKeep ?poKeep ?saKeep ?mkKeep ?kcKeep ?nKeep0 ?nKeep1 ?aBack ?inBack ?iBack ?lBack ?cBack ?kBack ?pgBack ?hdBack ?poBack ?saBack ?mkBack ?kcBack ?nBack0 ?nBack1 ?aRef ?inRef ?iRef ?lRef ?cRef ?kRef ?pgRef ?hdRef ?poRef ?saRef ?mkRef ?kcRef ?nRef0 ?nRef1 ?aPut ?inPut ?iPut ?lPut ?cPut ?kPut ?pgPut ?hdPut ?poPut ?saPut ?mkPut ?kcPut ?nPut0 ?nPut1 ?aOpen ?inOpen ?iOpen ?lOpen ?cOpen ?kOpen ?pgOpen ?hdOpen ?poOpen ?saOpen ?mkOpen ?kcOpen ?nOpen0 ?nOpen1 ?alawseed ?llawseed ?clawseed ?klawseed ?alawchoose ?llawchoose ?clawchoose ?klawchoose ?alawoneof ?llawoneof ?clawoneof ?klawoneof ?alawleaf ?llawleaf ?clawleaf ?klawleaf ?alawany ?llawany ?clawany ?klawany ?alawtry ?llawtry ?clawtry ?klawtry ?alawheard ?llawheard ?clawheard ?klawheard ?alawisnumber ?llawisnumber ?clawisnumber ?klawisnumber ?alawisname ?llawisname ?clawisname ?klawisname ?alaw ?llaw ?claw ?klaw ?kCN ?kCP ?hnGet ?htGet
    (case zint => first | k_is | rfl)
    (case zbool => first | k_is | rfl)
    (case zstr => first | k_is | rfl)
    (case zisinstance => first | k_is | rfl)
    (case zlen => first | k_is | rfl)
    (case zall => first | k_is | rfl)
    (case zabs => first | k_is | rfl)
    (case zrange => first | k_is | rfl)
    (case ztuple => first | k_is | rfl)
    (case zmax => first | k_is | rfl)
    (case zmin => first | k_is | rfl)
    (case aROWWORDS => first | k_is | rfl)
    (case lROWWORDS => first | k_is | rfl)
    (case aLONGESTNAME => first | k_is | rfl)
    (case aisinteger => first | k_is | rfl)
    (case lisinteger => first | k_is | rfl)
    (case cisinteger => first | k_is | rfl)
    (case kisinteger => first | k_is | rfl)
    (case aisnumber => first | k_is | rfl)
    (case lisnumber => first | k_is | rfl)
    (case cisnumber => first | k_is | rfl)
    (case kisnumber => first | k_is | rfl)
    (case aisname => first | k_is | rfl)
    (case lisname => first | k_is | rfl)
    (case cisname => first | k_is | rfl)
    (case kisname => first | k_is | rfl)
    (case aNoteError => first | k_is | rfl)
    (case aInvalidPart => first | k_is | rfl)
    (case aInvalidRow => first | k_is | rfl)
    (case xInvalidRow => first | k_is | rfl)
    (case saInvalidRow => first | k_is | rfl)
    (case gaInvalidRow => first | k_is | rfl)
    (case ggInvalidRow => first | k_is | rfl)
    (case nfInvalidRow => first | k_is | rfl)
    (case inInvalidRow => first | k_is | rfl)
    (case haInvalidRow => first | k_is | rfl)
    (case tiInvalidRow => first | k_is | rfl)
    (case lInvalidRow => first | k_is | rfl)
    (case cInvalidRow => first | k_is | rfl)
    (case kInvalidRow => first | k_is | rfl)
    (case kcInvalidRow => first | k_is | rfl)
    (case eCInvalidRow => first | k_is | rfl)
    (case tCInvalidRow => first | k_is | rfl)
    (case hCInvalidRow => first | k_is | rfl)
    (case iCInvalidRow => first | k_is | rfl)
    (case sCInvalidRow => first | k_is | rfl)
    (case hmInvalidRow => first | k_is | rfl)
    (case aneedname => first | k_is | rfl)
    (case lneedname => first | k_is | rfl)
    (case cneedname => first | k_is | rfl)
    (case kneedname => first | k_is | rfl)
    (case aNote => first | k_is | rfl)
    (case inNote => first | k_is | rfl)
    (case iNote => first | k_is | rfl)
    (case lNote => first | k_is | rfl)
    (case cNote => first | k_is | rfl)
    (case kNote => first | k_is | rfl)
    (case lTNote => first | k_is | rfl)
    (case pgNote => first | k_is | rfl)
    (case hdNote => first | k_is | rfl)
    (case poNote => first | k_is | rfl)
    (case saNote => first | k_is | rfl)
    (case mkNote => first | k_is | rfl)
    (case kcNote => first | k_is | rfl)
    (case nNote0 => first | k_is | rfl)
    (case nNote1 => first | k_is | rfl)
    (case nNote2 => first | k_is | rfl)
    (case aSkip => first | k_is | rfl)
    (case inSkip => first | k_is | rfl)
    (case iSkip => first | k_is | rfl)
    (case lSkip => first | k_is | rfl)
    (case cSkip => first | k_is | rfl)
    (case kSkip => first | k_is | rfl)
    (case pgSkip => first | k_is | rfl)
    (case hdSkip => first | k_is | rfl)
    (case poSkip => first | k_is | rfl)
    (case saSkip => first | k_is | rfl)
    (case mkSkip => first | k_is | rfl)
    (case kcSkip => first | k_is | rfl)
    (case nSkip0 => first | k_is | rfl)
    (case nSkip1 => first | k_is | rfl)
    (case nSkip2 => first | k_is | rfl)
    (case aSet => first | k_is | rfl)
    (case inSet => first | k_is | rfl)
    (case iSet => first | k_is | rfl)
    (case lSet => first | k_is | rfl)
    (case cSet => first | k_is | rfl)
    (case kSet => first | k_is | rfl)
    (case pgSet => first | k_is | rfl)
    (case hdSet => first | k_is | rfl)
    (case poSet => first | k_is | rfl)
    (case saSet => first | k_is | rfl)
    (case mkSet => first | k_is | rfl)
    (case kcSet => first | k_is | rfl)
    (case nSet0 => first | k_is | rfl)
    (case nSet1 => first | k_is | rfl)
    (case nSet2 => first | k_is | rfl)
    (case aKeep => first | k_is | rfl)
    (case inKeep => first | k_is | rfl)
    (case iKeep => first | k_is | rfl)
    (case lKeep => first | k_is | rfl)
    (case cKeep => first | k_is | rfl)
    (case kKeep => first | k_is | rfl)
    (case pgKeep => first | k_is | rfl)
    (case hdKeep => first | k_is | rfl)
    (case poKeep => first | k_is | rfl)
    (case saKeep => first | k_is | rfl)
    (case mkKeep => first | k_is | rfl)
    (case kcKeep => first | k_is | rfl)
    (case nKeep0 => first | k_is | rfl)
    (case nKeep1 => first | k_is | rfl)
    (case aBack => first | k_is | rfl)
    (case inBack => first | k_is | rfl)
    (case iBack => first | k_is | rfl)
    (case lBack => first | k_is | rfl)
    (case cBack => first | k_is | rfl)
    (case kBack => first | k_is | rfl)
    (case pgBack => first | k_is | rfl)
    (case hdBack => first | k_is | rfl)
    (case poBack => first | k_is | rfl)
    (case saBack => first | k_is | rfl)
    (case mkBack => first | k_is | rfl)
    (case kcBack => first | k_is | rfl)
    (case nBack0 => first | k_is | rfl)
    (case nBack1 => first | k_is | rfl)
    (case aRef => first | k_is | rfl)
    (case inRef => first | k_is | rfl)
    (case iRef => first | k_is | rfl)
    (case lRef => first | k_is | rfl)
    (case cRef => first | k_is | rfl)
    (case kRef => first | k_is | rfl)
    (case pgRef => first | k_is | rfl)
    (case hdRef => first | k_is | rfl)
    (case poRef => first | k_is | rfl)
    (case saRef => first | k_is | rfl)
    (case mkRef => first | k_is | rfl)
    (case kcRef => first | k_is | rfl)
    (case nRef0 => first | k_is | rfl)
    (case nRef1 => first | k_is | rfl)
    (case aPut => first | k_is | rfl)
    (case inPut => first | k_is | rfl)
    (case iPut => first | k_is | rfl)
    (case lPut => first | k_is | rfl)
    (case cPut => first | k_is | rfl)
    (case kPut => first | k_is | rfl)
    (case pgPut => first | k_is | rfl)
    (case hdPut => first | k_is | rfl)
    (case poPut => first | k_is | rfl)
    (case saPut => first | k_is | rfl)
    (case mkPut => first | k_is | rfl)
    (case kcPut => first | k_is | rfl)
    (case nPut0 => first | k_is | rfl)
    (case nPut1 => first | k_is | rfl)
    (case aOpen => first | k_is | rfl)
    (case inOpen => first | k_is | rfl)
    (case iOpen => first | k_is | rfl)
    (case lOpen => first | k_is | rfl)
    (case cOpen => first | k_is | rfl)
    (case kOpen => first | k_is | rfl)
    (case pgOpen => first | k_is | rfl)
    (case hdOpen => first | k_is | rfl)
    (case poOpen => first | k_is | rfl)
    (case saOpen => first | k_is | rfl)
    (case mkOpen => first | k_is | rfl)
    (case kcOpen => first | k_is | rfl)
    (case nOpen0 => first | k_is | rfl)
    (case nOpen1 => first | k_is | rfl)
    (case alawseed => first | k_is | rfl)
    (case llawseed => first | k_is | rfl)
    (case clawseed => first | k_is | rfl)
    (case klawseed => first | k_is | rfl)
    (case alawchoose => first | k_is | rfl)
    (case llawchoose => first | k_is | rfl)
    (case clawchoose => first | k_is | rfl)
    (case klawchoose => first | k_is | rfl)
    (case alawoneof => first | k_is | rfl)
    (case llawoneof => first | k_is | rfl)
    (case clawoneof => first | k_is | rfl)
    (case klawoneof => first | k_is | rfl)
    (case alawleaf => first | k_is | rfl)
    (case llawleaf => first | k_is | rfl)
    (case clawleaf => first | k_is | rfl)
    (case klawleaf => first | k_is | rfl)
    (case alawany => first | k_is | rfl)
    (case llawany => first | k_is | rfl)
    (case clawany => first | k_is | rfl)
    (case klawany => first | k_is | rfl)
    (case alawtry => first | k_is | rfl)
    (case llawtry => first | k_is | rfl)
    (case clawtry => first | k_is | rfl)
    (case klawtry => first | k_is | rfl)
    (case alawheard => first | k_is | rfl)
    (case llawheard => first | k_is | rfl)
    (case clawheard => first | k_is | rfl)
    (case klawheard => first | k_is | rfl)
    (case alawisnumber => first | k_is | rfl)
    (case llawisnumber => first | k_is | rfl)
    (case clawisnumber => first | k_is | rfl)
    (case klawisnumber => first | k_is | rfl)
    (case alawisname => first | k_is | rfl)
    (case llawisname => first | k_is | rfl)
    (case clawisname => first | k_is | rfl)
    (case klawisname => first | k_is | rfl)
    (case alaw => first | k_is | rfl)
    (case llaw => first | k_is | rfl)
    (case claw => first | k_is | rfl)
    (case klaw => first | k_is | rfl)
    (case kCN => first | k_is | rfl)
    (case kCP => first | k_is | rfl)
    (case hnGet => first | k_is | rfl)
    (case htGet => first | k_is | rfl)
