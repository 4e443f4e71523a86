import PyProof.Rows.All
import Wide.All
import OpenK.AllK
import Wide.FinOn
import HandS.ForMost
import HandS.Wide
import HandS.Conv
import HandS.IsInst
import HandS.Walk
import HandS.Text
import HandS.Exc
import HandS.ExcInit
import HandS.ExcField
import HandS.ExcIs
import HandS.WordsExc
import HandS.TryOnly
import KE.KExcIs
import HandS.Ends
import PyProof.ReprLen
import KE.KExcPX
import PyProof.ExcBaseAll.LookupError
import PyProof.ExcBaseAll.IndexError
import HandS.ExcOwn
import HandS.MakeKwOnly
import KE.KStateDown
import HandS.Head0
import HandS.Head1
import HandS.Head2
import HandS.HeadEnd
import HandS.HeadHook1
import HandS.HeadHook2
import HandS.Property
import PySem.Challenge.RW_partnotes_k01_errors_and_what_they_keep
set_option Elab.async false
set_option maxRecDepth 100000
set_option maxHeartbeats 4000000
namespace Pn
open PySem L2
/-! the text by places -/
def top (i : Nat) : Stmt := PySem.Challenge.pw_partnotes_k01_errors_and_what_they_keep.main.body.getD i (.Pass ⟨0, 0, 0, 0⟩)
/-- a def of the top: where it stands, what binds its arguments -/
structure At (K : PySem.W.Frag) (mg : Str → Option Value) (x : Str) (st : Stmt) (ps : List Str) : Type where
  f : Addr
  fd : FuncData
  F : Fun K x x st f fd
  b : Binds K fd ps []
  m : mg x = some (.ref f)
/-- all but what stands at b is as it was -/
def Kp (b : Addr) (H H' : Hp) : Prop := ∀ a o, H a = some o → a ≠ b → H' a = some o
theorem Kp.refl (b : Addr) (H : Hp) : Kp b H H := fun _ _ h _ => h
theorem Kp.trans {b : Addr} {H H1 H2 : Hp} (h : Kp b H H1) (g : Kp b H1 H2) : Kp b H H2 := fun a o e n => g a o (h a o e n) n
theorem Kp.new {b p : Addr} {H H1 : Hp} {o : HO} (h : Kp b H H1) (hp : H1 p = none) : Kp b H (upd H1 p o) := fun a u e n => by
  have z := h a u e n
  rw [upd_ne (ne_of_none z hp)]
  exact z
theorem Kp.box {b : Addr} {H H1 : Hp} {o : HO} (h : Kp b H H1) : Kp b H (upd H1 b o) := fun a u e n => by
  rw [upd_ne n]
  exact h a u e n
theorem Kp.sql {K : PySem.W.Frag} {b a : Addr} {xs : List V} {H H1 : Hp} (h : Kp b H H1) (n : a ≠ b) (s : SqL K H a xs) : SqL K H1 a xs := by
  rcases s with (s | ⟨o, s⟩) | s
  · exact .inl (.inl (h _ _ s n))
  · exact .inl (.inr ⟨o, h _ _ s n⟩)
  · exact .inr s
theorem Kp.sqt {K : PySem.W.Frag} {b a : Addr} {xs : List V} {H H1 : Hp} (h : Kp b H H1) (n : a ≠ b) (s : SqT K H a xs) : SqT K H1 a xs := by
  rcases s with (s | ⟨o, s⟩) | s
  · exact .inl (.inl (h _ _ s n))
  · exact .inl (.inr ⟨o, h _ _ s n⟩)
  · exact .inr s
theorem Kp.same {b : Addr} {H H1 : Hp} (h : Same H H1) : Kp b H H1 := fun a o e _ => h a o e
/-- the heap but for what stands at b -/
def hid (H : Hp) (b : Addr) : Hp := fun a => if a = b then none else H a
theorem hid_sub {H : Hp} {b : Addr} : Same (hid H b) H := fun a o e => by
  unfold hid at e
  by_cases h : a = b
  · rw [if_pos h] at e
    cases e
  · rw [if_neg h] at e
    exact e
theorem hid_kp {b : Addr} {H H1 : Hp} (h : Kp b H H1) : Same (hid H b) (hid H1 b) := fun a o e => by
  unfold hid at e ⊢
  by_cases n : a = b
  · rw [if_pos n] at e
    cases e
  · rw [if_neg n] at e ⊢
    exact h a o e n
theorem hid_get {b a : Addr} {H : Hp} {o : HO} (h : H a = some o) (n : a ≠ b) : hid H b a = some o := by
  unfold hid
  rw [if_neg n]
  exact h
theorem Same.sqt {K : PySem.W.Frag} {H H' : Hp} {a : Addr} {xs : List V} (e : Same H H') (h : SqT K H a xs) : SqT K H' a xs := by
  rcases h with (h | ⟨o, h⟩) | h
  · exact .inl (.inl (e _ _ h))
  · exact .inl (.inr ⟨o, e _ _ h⟩)
  · exact .inr h
theorem Same.new {H : Hp} {p : Addr} {o : HO} (h : H p = none) : Same H (upd H p o) := fun a u e => by
  rw [upd_ne (ne_of_none e h)]
  exact e
/-- what is new in H' -/
def dif (H H' : Hp) : Hp := fun a => match H a with
  | none => H' a
  | some _ => none
theorem dif_eq {H H' : Hp} {a : Addr} {o : HO} : dif H H' a = some o ↔ H a = none ∧ H' a = some o := by
  unfold dif
  cases h : H a with
  | none => exact ⟨fun e => ⟨rfl, e⟩, fun e => e.2⟩
  | some u => exact ⟨fun e => (nomatch (show (none : Option HO) = some o from e)), fun e => by cases e.1⟩
theorem dif_sub {H H' : Hp} : Same (dif H H') H' := fun _ _ e => (dif_eq.mp e).2
theorem dif_new {H H' : Hp} {a : Addr} {o : HO} (h : H a = none) (h' : H' a = some o) : dif H H' a = some o := dif_eq.mpr ⟨h, h'⟩
/-- what is tracked stays tracked -/
def Mo (H H' : Hp) : Prop := ∀ a, H' a = none → H a = none
theorem Mo.refl (H : Hp) : Mo H H := fun _ h => h
theorem Mo.trans {H H1 H2 : Hp} (h : Mo H H1) (g : Mo H1 H2) : Mo H H2 := fun a e => h a (g a e)
theorem Mo.upd {H : Hp} {p : Addr} {o : HO} : Mo H (upd H p o) := fun a e => by
  by_cases h : a = p
  · subst h
    rw [upd_same] at e
    cases e
  · rw [upd_ne h] at e
    exact e
theorem Kp.mo {b : Addr} {H H' : Hp} {o : HO} (h : Kp b H H') (hb : H' b = some o) : Mo H H' := fun a e => by
  cases q : H a with
  | none => rfl
  | some u =>
    have n : a ≠ b := fun z => by rw [z, hb] at e; cases e
    rw [h a u q n] at e
    cases e
/-- what was new stays: all of H1 but b, which stood in H -/
theorem dif_kp {b : Addr} {H H1 H2 : Hp} {o : HO} (hb : H b = some o) (k : Kp b H1 H2) : Same (dif H H1) (dif H H2) := fun a u e => by
  obtain ⟨e1, e2⟩ := dif_eq.mp e
  exact dif_new e1 (k a u e2 (fun z => by rw [z, hb] at e1; cases e1))
theorem dif_mo {H0 H H1 : Hp} (m : Mo H0 H) : Same (dif H H1) (dif H0 H1) := fun a u e => by
  obtain ⟨e1, e2⟩ := dif_eq.mp e
  exact dif_new (m a e1) e2
mutual
theorem dp_same {K : PySem.W.Frag} {H H' : Hp} (e : Same H H') : ∀ (d : PyData) (v : V), Dp K H v d → Dp K H' v d
  | .none, _, h => by cases h; exact .non
  | .bool _, _, h => by cases h; exact .bl _
  | .int _, _, h => by cases h; exact .int _
  | .str _, _, h => by cases h; exact .str _
  | .list ds, _, h => by
    cases h with
    | lst s a => exact .lst (e.seq s) (dpAll_same e ds _ a)
  | .tuple ds, _, h => by
    cases h with
    | tup s a => exact .tup (Same.sqt e s) (dpAll_same e ds _ a)
  | .dict _, _, h => by cases h
theorem dpAll_same {K : PySem.W.Frag} {H H' : Hp} (e : Same H H') : ∀ (ds : List PyData) (vs : List V), DpAll K H vs ds → DpAll K H' vs ds
  | [], _, h => by cases h; exact .nil
  | d :: ds, _, h => by
    cases h with
    | cons a b => exact .cons (dp_same e d _ a) (dpAll_same e ds _ b)
end
theorem dpAll_append {K : PySem.W.Frag} {H : Hp} : ∀ {vs : List V} {ds : List PyData} {ws : List V} {es : List PyData}, DpAll K H vs ds → DpAll K H ws es → DpAll K H (vs ++ ws) (ds ++ es)
  | _, _, _, _, .nil, g => g
  | _, _, _, _, .cons a b, g => .cons a (dpAll_append b g)
end Pn

namespace Pn
open PySem L2
/-! ### one statement, with what it comes to -/
theorem joinOn {t : TE} {σ : L2.St} {H : Hp} {Q : VK} (C : V → Hp → Prop) (h1 : ∀ Q' : VK, (∀ v H', C v H' → Q' v H') → t σ H Q') (h2 : ∀ v H', C v H' → Q v H') : t σ H Q := h1 Q h2
/-- x = e, where what e comes to is said by C -/
theorem stepSet {te : TE} {i : Nat} {B : TS} {D : Ends} {σ : L2.St} {H : Hp} (C : V → Hp → Prop) (h1 : ∀ Q' : VK, (∀ v H', C v H' → Q' v H') → te σ H Q') (h2 : ∀ v H', C v H' → B D (σ.set i (some v)) H') : tSeq (tAsg te (gName i)) B D σ H := h1 _ h2
theorem stepDrop {te : TE} {B : TS} {D : Ends} {σ : L2.St} {H : Hp} (C : Hp → Prop) (h1 : ∀ Q' : VK, (∀ v H', C H' → Q' v H') → te σ H Q') (h2 : ∀ H', C H' → B D σ H') : tSeq (tDrop te) B D σ H := h1 (fun _ H1 => B D σ H1) fun _ H' c => h2 H' c
theorem stepIfF {tt : TT} {A C : TS} {D : Ends} {σ : L2.St} {H : Hp} (h1 : ∀ Q : Bool → Hp → Prop, Q false H → tt σ H Q) (h2 : C D σ H) : tSeq (tIfS tt A tNext) C D σ H := h1 _ (by rw [if_neg Bool.false_ne_true]; exact h2)
theorem stepNo {tt : TT} {A C : TS} {D : Ends} {σ : L2.St} {H : Hp} (G : Hp → Prop) (h1 : ∀ Q : Bool → Hp → Prop, (∀ H', G H' → Q false H') → tt σ H Q) (h2 : ∀ H', G H' → C D σ H') : tSeq (tIfS tt A tNext) C D σ H := h1 _ fun H' g => by
  rw [if_neg Bool.false_ne_true]
  exact h2 H' g
theorem stepYes {tt : TT} {A B C : TS} {D : Ends} {σ : L2.St} {H : Hp} (G : Hp → Prop) (h1 : ∀ Q : Bool → Hp → Prop, (∀ H', G H' → Q true H') → tt σ H Q) (h2 : ∀ H', G H' → A { D with nx := C D } σ H') : tSeq (tIfS tt A B) C D σ H := h1 _ fun H' g => by
  rw [if_pos rfl]
  exact h2 H' g
theorem Same.mo {H H' : Hp} (s : Same H H') : Mo H H' := fun _ e => s.free e
end Pn

namespace Pn
open PySem L2
abbrev sSeed : Stmt := top 16
abbrev sChoose : Stmt := top 17
abbrev sOne : Stmt := top 18

/-- the two ints of a box of draws -/
def Bx (x y : Int) : Prop := 0 ≤ x ∧ 1 ≤ y ∧ y ≤ 2147483629
def spChoose : Sp := fun vs H Q _ => ∃ (b : Addr) (x y m : Int), vs = [.ref b, .int m] ∧ H b = some (.lst [.int x, .int y]) ∧ Bx x y ∧ 0 < m ∧ m < 1000000 ∧
  ∀ r x' y', 0 ≤ r → r < m → Bx x' y' → Q (.int r) (upd H b (.lst [.int x', .int y']))
section
variable {P : Program} {w : World} {K : PySem.W.Frag} {mg : Str → Option Value} {base : Heap}
theorem scChoose : FnScope ["_law_box", "_law_many", "_law_digit", "_law_raw"] ["_law_box", "_law_many"] (defScope sChoose) := ⟨rfl, rfl, rfl, by decide +kernel, rfl, by decide +kernel, by decide +kernel⟩
theorem ok_choose {f : Addr} {fd : FuncData} (F : Fun K "_law_choose" "_law_choose" sChoose f fd) (mI : mg "int" = none) : FnOk P w K mg base CX0 1 f fd ["_law_box", "_law_many"] spChoose := by
  refine F.ok scChoose (fun vs H Q E h => ?_) (fun cdv A outer s H vs Q E hr h => ?_)
  · obtain ⟨b, x, y, m, rfl, _⟩ := h
    rfl
  · obtain ⟨b, x, y, m, rfl, hb, ⟨hx, hy, hz⟩, h0, h1, k⟩ := h
    refine ⟨_, pss_cons (ps_if (pt_cmpR op_gt (pe_ix ix_list (pv 0) pe_int (fun _ _ => rfl)) pe_int (nomark _))
        (pss_cons (ps_set (i := 2) scChoose.nd rfl (Or.inl rfl) (pe_op op_mod (pe_callTy call_int1 (by rfl) mI (by decide +kernel) (pa_cons (pe_ix ix_list (pv 0) pe_int (fun _ _ => rfl)) pa_nil)) (pv 1)))
        (pss_cons (ps_asg (pe_op op_fdivW (pe_ix ix_list (pv 0) pe_int (fun _ _ => rfl)) (pv 1)) (pg_sub (pv 0) pe_int set_list))
        (pss_one (ps_ret (pv 2))))) pss_nil)
      (pss_cons (ps_set (i := 3) scChoose.nd rfl (Or.inl rfl) (pe_op op_mod (pe_callTy call_int1 (by rfl) mI (by decide +kernel) (pa_cons (pe_op op_add (pe_op op_mul (pe_ix ix_list (pv 0) pe_int (fun _ _ => rfl)) pe_int) pe_int) pa_nil)) pe_int))
      (pss_cons (ps_asg (pe_op op_add (pe_op op_mod (pe_callTy call_int1 (by rfl) mI (by decide +kernel) (pa_cons (pe_op op_add (pe_op op_mul (pv 3) pe_int) pe_int) pa_nil)) pe_int) pe_int) (pg_sub (pv 0) pe_int set_list))
      (pss_one (ps_ret (pe_op op_mod (pe_callTy call_int1 (by rfl) mI (by decide +kernel) (pa_cons (pe_op op_fdiv (pe_op op_add (pe_op op_mul (pv 3) pe_int) (pe_ix ix_list (pv 0) pe_int (fun _ _ => rfl))) pe_int) pa_nil)) (pv 1)))))), ?_⟩
    refine ⟨_, rfl, _, _, _, _, rfl, rfl, SqL.of hb, rfl, _, _, rfl, rfl, _, rfl, ?_⟩
    refine ite2 (fun hc => ?_) (fun hc => ?_)
    · refine ⟨_, rfl, _, _, _, _, rfl, rfl, SqL.of hb, rfl, .inl ⟨_, rfl, _, rfl, _, _, rfl, rfl, h0, ?_⟩⟩
      refine ⟨_, rfl, _, _, _, _, rfl, rfl, SqL.of hb, rfl, _, rfl, _, _, rfl, rfl, wide_div (b := 20) h0 (by omega) (by decide) (by decide), ?_⟩
      refine ⟨_, rfl, _, _, _, _, rfl, rfl, hb, rfl, ?_⟩
      refine ⟨_, rfl, ?_⟩
      exact k _ _ _ (Int.emod_nonneg _ (by omega)) (Int.emod_lt_of_pos _ h0) ⟨Int.ediv_nonneg hx (by omega), hy, hz⟩
    · refine ⟨_, rfl, _, _, _, _, rfl, rfl, SqL.of hb, rfl, _, _, rfl, rfl, .inl ⟨by omega, by omega⟩, _, _, rfl, rfl, .inl ⟨_, rfl, _, _, rfl, rfl, (by show (0 : Int) < 2147483563; decide), ?_⟩⟩
      have hr1 : 0 ≤ (y * 40014 + 61) % 2147483563 ∧ (y * 40014 + 61) % 2147483563 < 2147483563 := ⟨by omega, by omega⟩
      refine ⟨_, rfl, _, _, rfl, rfl, .inl ⟨by show _ < (y * 40014 + 61) % 2147483563; omega, by show (y * 40014 + 61) % 2147483563 < _; omega⟩, _, _, rfl, rfl, .inl ⟨_, rfl, _, _, rfl, rfl, (by show (0 : Int) < 2147483629; decide), _, _, rfl, rfl, ?_⟩⟩
      refine ⟨_, rfl, _, _, _, _, rfl, rfl, hb, rfl, ?_⟩
      have hr2 : 0 ≤ ((y * 40014 + 61) % 2147483563 * 40692 + 4409) % 2147483629 ∧ ((y * 40014 + 61) % 2147483563 * 40692 + 4409) % 2147483629 < 2147483629 := ⟨by omega, by omega⟩
      refine ⟨_, rfl, _, _, rfl, rfl, .inl ⟨by show _ < (y * 40014 + 61) % 2147483563; omega, by show (y * 40014 + 61) % 2147483563 < _; omega⟩, _, rfl, _, _, _, _, rfl, rfl, SqL.of upd_same, rfl, _, _, rfl, rfl, _, _, rfl, rfl, ⟨by decide, by decide⟩, .inl ⟨_, rfl, _, rfl, _, _, rfl, rfl, h0, ?_⟩⟩
      exact k _ _ _ (Int.emod_nonneg _ (by omega)) (Int.emod_lt_of_pos _ h0) ⟨hx, by omega, by omega⟩
/-- the box for a round -/
def spSeed (K : PySem.W.Frag) : Sp := fun vs H Q _ => ∃ (a : Addr) (ns : List Int) (k : Nat), vs = [.ref a, .int k] ∧ SqL K H a (ns.map V.int) ∧ k ≤ 100 ∧
  ∀ (p : Addr) (x y : Int), H p = none → Bx x y → Q (.ref p) (upd H p (.lst [.int x, .int y]))
theorem scSeed : FnScope ["_law_script", "_law_k", "_law_cell"] ["_law_script", "_law_k"] (defScope sSeed) := ⟨rfl, rfl, rfl, by decide +kernel, rfl, by decide +kernel, by decide +kernel⟩
theorem ok_seed {f : Addr} {fd : FuncData} (F : Fun K "_law_seed" "_law_seed" sSeed f fd) (mI : mg "int" = none) (mL : mg "len" = none) (mA : mg "abs" = none) : FnOk P w K mg base CX0 1 f fd ["_law_script", "_law_k"] (spSeed K) := by
  refine F.ok scSeed (fun vs H Q E h => ?_) (fun cdv A outer s H vs Q E hr h => ?_)
  · obtain ⟨a, ns, k, rfl, _⟩ := h
    rfl
  · obtain ⟨a, ns, k, rfl, hS, hk, q⟩ := h
    refine ⟨_, pss_cons (ps_set (i := 2) scSeed.nd rfl (Or.inl rfl) (pe_op op_add (pe_op op_mul pe_int (pv 1)) pe_int))
      (pss_cons (ps_if (pt_cmpR op_lt (pv 1) (pe_callB call_len_seq (by rfl) mL PySem.boot_len (pa_cons (pv 0) pa_nil)) (nomark _))
          (pss_one (ps_set (i := 2) scSeed.nd rfl (Or.inl rfl) (pe_callB call_abs (by rfl) mA (by decide +kernel) (pa_cons (pe_ix ix_list (pv 0) (pv 1) (fun _ _ => rfl)) pa_nil))))
          (pss_one (ps_if (pt_cmpR op_gt (pe_callB call_len_seq (by rfl) mL PySem.boot_len (pa_cons (pv 0) pa_nil)) pe_int (nomark _))
            (pss_one (ps_set (i := 2) scSeed.nd rfl (Or.inl rfl) (pe_op op_add (pv 2) (pe_op op_mul (pe_op op_mod (pe_callTy call_int1 (by rfl) mI (by decide +kernel) (pa_cons (pe_callB call_abs (by rfl) mA (by decide +kernel) (pa_cons (pe_ix ix_list (pv 0) (pe_op op_mod (pe_callTy call_int1 (by rfl) mI (by decide +kernel) (pa_cons (pv 1) pa_nil)) (pe_callB call_len_seq (by rfl) mL PySem.boot_len (pa_cons (pv 0) pa_nil))) (fun _ _ => rfl)) pa_nil)) pa_nil)) pe_int) pe_int))))
            pss_nil)))
      (pss_one (ps_ret (pe_lst (pa_cons (pe_ifExp (pt_cmpR op_ge (pv 2) (pe_op op_pow pe_int pe_int) (nomark _)) (pv 2) pe_int)
        (pa_cons (pe_op op_add (pe_op op_mod (pe_callTy call_int1 (by rfl) mI (by decide +kernel) (pa_cons (pe_op op_add (pe_op op_mul (pe_op op_mod (pe_callTy call_int1 (by rfl) mI (by decide +kernel) (pa_cons (pv 2) pa_nil)) pe_int) pe_int) (pe_op op_mul pe_int (pv 1))) pa_nil)) pe_int) pe_int) pa_nil)))))), ?_⟩
    have hlen : ((ns.map V.int).length : Int) = (ns.length : Int) := by rw [List.length_map]
    have hz : ∀ z : Int, 1 ≤ z % 2147483629 + 1 ∧ z % 2147483629 + 1 ≤ 2147483629 := fun z => ⟨by omega, by omega⟩
    have at_ : ∀ j : Nat, (hj : j < ns.length) → (ns.map V.int)[j]? = some (.int ns[j]) := fun j hj => by
      rw [List.getElem?_map, List.getElem?_eq_getElem hj]
      rfl
    refine ⟨_, rfl, _, _, rfl, rfl, .inl ⟨by decide, by decide⟩, _, _, rfl, rfl, ?_⟩
    refine ⟨_, rfl, _, rfl, _, _, rfl, .inl hS, _, _, rfl, rfl, _, rfl, ?_⟩
    refine ite2 (fun hc => ?_) (fun hc => ?_)
    · have hc1 := of_decide_eq_true hc
      rw [hlen] at hc1
      have hk2 : k < ns.length := by omega
      refine ⟨_, rfl, _, rfl, _, _, _, _, rfl, rfl, hS, atI_nat (at_ k hk2), _, rfl, ?_⟩
      have c0 : 0 ≤ (if ns[k] < 0 then -ns[k] else ns[k]) := by split <;> omega
      generalize (if ns[k] < 0 then -ns[k] else ns[k]) = c at c0 ⊢
      refine ⟨_, rfl, _, _, rfl, rfl, ⟨by decide, by decide, by decide⟩, _, _, rfl, rfl, _, rfl, ?_⟩
      refine ite2 (fun hg => ?_) (fun hg => ?_)
      · refine ⟨_, rfl, ?_⟩
        refine ⟨_, rfl, .inl ⟨_, rfl, _, _, rfl, rfl, (by show (0 : Int) < 2147483629; decide), _, _, rfl, rfl, .inr ⟨by decide, by decide⟩, _, rfl, _, _, rfl, rfl, .inl ⟨by decide, by decide⟩, _, _, rfl, rfl, .inl ⟨_, rfl, _, _, rfl, rfl, (by show (0 : Int) < 2147483629; decide), _, _, rfl, rfl, (by show 2 ≤ sizeLine; decide), fun l hl => ?_⟩⟩⟩
        exact q l _ _ hl ⟨c0, (hz _).1, (hz _).2⟩
      · refine ⟨_, rfl, .inl ⟨_, rfl, _, _, rfl, rfl, (by show (0 : Int) < 2147483629; decide), _, _, rfl, rfl, .inr ⟨by decide, by decide⟩, _, rfl, _, _, rfl, rfl, .inl ⟨by decide, by decide⟩, _, _, rfl, rfl, .inl ⟨_, rfl, _, _, rfl, rfl, (by show (0 : Int) < 2147483629; decide), _, _, rfl, rfl, (by show 2 ≤ sizeLine; decide), fun l hl => ?_⟩⟩⟩
        exact q l _ _ hl ⟨by decide, (hz _).1, (hz _).2⟩
    · refine ⟨_, rfl, _, _, rfl, .inl hS, _, _, rfl, rfl, _, rfl, ?_⟩
      refine ite2 (fun hc2 => ?_) (fun hc2 => ?_)
      · have hc3 := of_decide_eq_true hc2
        rw [hlen] at hc3
        have hm : (k : Int) % ((ns.map V.int).length : Int) = ((k % ns.length : Nat) : Int) := by rw [hlen]; rfl
        have hk3 : k % ns.length < ns.length := Nat.mod_lt _ (by omega)
        refine ⟨_, rfl, _, rfl, _, rfl, .inl ⟨_, rfl, _, rfl, _, _, rfl, .inl hS, _, _, rfl, rfl, (by rw [hlen]; exact hc3), _, _, _, _, rfl, rfl, hS, (by show atI _ ((k : Int) % ((ns.map V.int).length : Int)) = _; rw [hm]; exact atI_nat (at_ _ hk3)), _, rfl, .inl ⟨_, rfl, _, _, rfl, rfl, (by show (0 : Int) < 2147483629; decide), _, _, rfl, rfl, .inr ⟨by decide, by decide⟩, _, _, rfl, rfl, ?_⟩⟩⟩
        have c0 : 0 ≤ 7177 * (k : Int) + 89 + (if ns[k % ns.length] < 0 then -ns[k % ns.length] else ns[k % ns.length]) % 2147483629 * 40093 := by omega
        refine ⟨_, rfl, _, _, rfl, rfl, ⟨by decide, by decide, by decide⟩, _, _, rfl, rfl, _, rfl, ?_⟩
        refine ite2 (fun hg => ?_) (fun hg => ?_)
        · refine ⟨_, rfl, ?_⟩
          refine ⟨_, rfl, .inl ⟨_, rfl, _, _, rfl, rfl, (by show (0 : Int) < 2147483629; decide), _, _, rfl, rfl, .inr ⟨by decide, by decide⟩, _, rfl, _, _, rfl, rfl, .inl ⟨by decide, by decide⟩, _, _, rfl, rfl, .inl ⟨_, rfl, _, _, rfl, rfl, (by show (0 : Int) < 2147483629; decide), _, _, rfl, rfl, (by show 2 ≤ sizeLine; decide), fun l hl => ?_⟩⟩⟩
          exact q l _ _ hl ⟨c0, (hz _).1, (hz _).2⟩
        · refine ⟨_, rfl, .inl ⟨_, rfl, _, _, rfl, rfl, (by show (0 : Int) < 2147483629; decide), _, _, rfl, rfl, .inr ⟨by decide, by decide⟩, _, rfl, _, _, rfl, rfl, .inl ⟨by decide, by decide⟩, _, _, rfl, rfl, .inl ⟨_, rfl, _, _, rfl, rfl, (by show (0 : Int) < 2147483629; decide), _, _, rfl, rfl, (by show 2 ≤ sizeLine; decide), fun l hl => ?_⟩⟩⟩
          exact q l _ _ hl ⟨by decide, (hz _).1, (hz _).2⟩
      · have c0 : 0 ≤ 7177 * (k : Int) + 89 := by omega
        refine ⟨_, rfl, _, _, rfl, rfl, ⟨by decide, by decide, by decide⟩, _, _, rfl, rfl, _, rfl, ?_⟩
        refine ite2 (fun hg => ?_) (fun hg => ?_)
        · refine ⟨_, rfl, ?_⟩
          refine ⟨_, rfl, .inl ⟨_, rfl, _, _, rfl, rfl, (by show (0 : Int) < 2147483629; decide), _, _, rfl, rfl, .inr ⟨by decide, by decide⟩, _, rfl, _, _, rfl, rfl, .inl ⟨by decide, by decide⟩, _, _, rfl, rfl, .inl ⟨_, rfl, _, _, rfl, rfl, (by show (0 : Int) < 2147483629; decide), _, _, rfl, rfl, (by show 2 ≤ sizeLine; decide), fun l hl => ?_⟩⟩⟩
          exact q l _ _ hl ⟨c0, (hz _).1, (hz _).2⟩
        · refine ⟨_, rfl, .inl ⟨_, rfl, _, _, rfl, rfl, (by show (0 : Int) < 2147483629; decide), _, _, rfl, rfl, .inr ⟨by decide, by decide⟩, _, rfl, _, _, rfl, rfl, .inl ⟨by decide, by decide⟩, _, _, rfl, rfl, .inl ⟨_, rfl, _, _, rfl, rfl, (by show (0 : Int) < 2147483629; decide), _, _, rfl, rfl, (by show 2 ≤ sizeLine; decide), fun l hl => ?_⟩⟩⟩
          exact q l _ _ hl ⟨by decide, (hz _).1, (hz _).2⟩
/-- what a box is, by its place -/
def BoxAt (H : Hp) (b : Addr) : Prop := ∃ x y : Int, Bx x y ∧ H b = some (.lst [.int x, .int y])
theorem sql_upd {H : Hp} {a b : Addr} {o : HO} {xs : List V} (h : SqL K H a xs) (hne : a ≠ b) : SqL K (upd H b o) a xs := by
  rcases h with (h | ⟨u, h⟩) | h
  · exact .inl (.inl (by rw [upd_ne hne]; exact h))
  · exact .inl (.inr ⟨u, by rw [upd_ne hne]; exact h⟩)
  · exact .inr h
theorem sqt_upd {H : Hp} {a b : Addr} {o : HO} {xs : List V} (h : SqT K H a xs) (hne : a ≠ b) : SqT K (upd H b o) a xs := by
  rcases h with (h | ⟨u, h⟩) | h
  · exact .inl (.inl (by rw [upd_ne hne]; exact h))
  · exact .inl (.inr ⟨u, by rw [upd_ne hne]; exact h⟩)
  · exact .inr h
/-- one of several things -/
def spOne (K : PySem.W.Frag) : Sp := fun vs H Q _ => ∃ (b a : Addr) (x y : Int) (xs : List V), vs = [.ref b, .ref a] ∧ H b = some (.lst [.int x, .int y]) ∧ Bx x y ∧ SqL K H a xs ∧ a ≠ b ∧ 0 < xs.length ∧ xs.length < 1000000 ∧
  ∀ (i : Nat) (x' y' : Int) (hi : i < xs.length), Bx x' y' → Q xs[i] (upd H b (.lst [.int x', .int y']))
theorem scOne : FnScope ["_law_box", "_law_some"] ["_law_box", "_law_some"] (defScope sOne) := ⟨rfl, rfl, rfl, by decide +kernel, rfl, by decide +kernel, by decide +kernel⟩
theorem ok_one {f fC : Addr} {fd fdC : FuncData} (F : Fun K "_law_one_of" "_law_one_of" sOne f fd) (mL : mg "len" = none) (mC : mg "_law_choose" = some (.ref fC)) (FC : Fun K "_law_choose" "_law_choose" sChoose fC fdC) (bC : Binds K fdC ["_law_box", "_law_many"] [])
    (mI : mg "int" = none) : FnOk P w K mg base CX0 2 f fd ["_law_box", "_law_some"] (spOne K) := by
  refine F.ok scOne (fun vs H Q E h => ?_) (fun cdv A outer s H vs Q E hr h => ?_)
  · obtain ⟨b, a, x, y, xs, rfl, _⟩ := h
    rfl
  · obtain ⟨b, a, x, y, xs, rfl, hb, hB, hS, hne, h0, h1, q⟩ := h
    refine ⟨_, pss_one (ps_ret (pe_ix ix_list (pv 1) (pe_call (ok_choose FC mI) hr rfl mC FC.kp bC .nil pass0 (pa_cons (pv 0) (pa_cons (pe_callB call_len_seq (by rfl) mL PySem.boot_len (pa_cons (pv 1) pa_nil)) pa_nil))) (fun _ _ => rfl))), ?_⟩
    refine ⟨_, rfl, _, rfl, _, rfl, _, _, rfl, .inl hS, ?_⟩
    refine ⟨b, x, y, _, rfl, hb, hB, by omega, by omega, fun r x' y' r0 r1 hB' => ?_⟩
    obtain ⟨i, rfl⟩ : ∃ i : Nat, r = (i : Int) := ⟨r.toNat, by omega⟩
    have hi : i < xs.length := by omega
    exact ⟨_, _, _, _, rfl, rfl, sql_upd hS hne, atI_nat (List.getElem?_eq_getElem hi), q i x' y' hi hB'⟩
/-- the facts of the draws' defs -/
structure TDraw (K : PySem.W.Frag) (mg : Str → Option Value) : Type where
  mI : mg "int" = none
  mL : mg "len" = none
  mA : mg "abs" = none
  seed : At K mg "_law_seed" sSeed ["_law_script", "_law_k"]
  choose : At K mg "_law_choose" sChoose ["_law_box", "_law_many"]
  one : At K mg "_law_one_of" sOne ["_law_box", "_law_some"]
theorem TDraw.okSeed (T : TDraw K mg) : FnOk P w K mg base CX0 1 T.seed.f T.seed.fd ["_law_script", "_law_k"] (spSeed K) := ok_seed T.seed.F T.mI T.mL T.mA
/-- the same, of a box by its place -/
def spChooseB : Sp := fun vs H Q _ => ∃ (b : Addr) (m : Int), vs = [.ref b, .int m] ∧ BoxAt H b ∧ 0 < m ∧ m < 1000000 ∧ ∀ (r : Int) (H' : Hp), 0 ≤ r → r < m → BoxAt H' b → Kp b H H' → (∀ a, H a = none → H' a = none) → Q (.int r) H'
theorem TDraw.okChoose (T : TDraw K mg) : FnOk P w K mg base CX0 1 T.choose.f T.choose.fd ["_law_box", "_law_many"] spChooseB :=
  (ok_choose T.choose.F T.mI).imp fun vs H Q E h => by
    obtain ⟨b, m, rfl, ⟨x, y, hB, hb⟩, h0, h1, k⟩ := h
    refine ⟨b, x, y, m, rfl, hb, hB, h0, h1, fun r x' y' r0 r1 hB' => k r _ r0 r1 ⟨x', y', hB', upd_same⟩ (Kp.refl b H).box fun a ha => ?_⟩
    rw [upd_ne (fun z => by rw [z, hb] at ha; cases ha)]
    exact ha
def spOneB (K : PySem.W.Frag) : Sp := fun vs H Q _ => ∃ (b a : Addr) (xs : List V), vs = [.ref b, .ref a] ∧ BoxAt H b ∧ SqL K H a xs ∧ a ≠ b ∧ 0 < xs.length ∧ xs.length < 1000000 ∧
  ∀ (v : V) (H' : Hp), v ∈ xs → BoxAt H' b → Kp b H H' → (∀ a, H a = none → H' a = none) → Q v H'
theorem TDraw.okOne (T : TDraw K mg) : FnOk P w K mg base CX0 2 T.one.f T.one.fd ["_law_box", "_law_some"] (spOneB K) :=
  (ok_one T.one.F T.mL T.choose.m T.choose.F T.choose.b T.mI).imp fun vs H Q E h => by
    obtain ⟨b, a, xs, rfl, ⟨x, y, hB, hb⟩, hS, ne, h0, h1, k⟩ := h
    refine ⟨b, a, x, y, xs, rfl, hb, hB, hS, ne, h0, h1, fun i x' y' hi hB' => k _ _ (List.getElem_mem hi) ⟨x', y', hB', upd_same⟩ (Kp.refl b H).box fun a ha => ?_⟩
    rw [upd_ne (fun z => by rw [z, hb] at ha; cases ha)]
    exact ha
end
end Pn

namespace Pn
open PySem L2
abbrev sLeaf : Stmt := top 19
abbrev sAny : Stmt := top 20
/-! ### drawn values: what they are as data -/
/-- the data of a value that is no object -/
def pd : V → Option PyData
  | .non => some .none
  | .bl b => some (.bool b)
  | .int i => some (.int i)
  | .str x => some (.str x)
  | _ => none
theorem pd_dp {K : PySem.W.Frag} {H : Hp} : ∀ {v : V} {d : PyData}, pd v = some d → Dp K H v d
  | .non, _, h => by cases h; exact .non
  | .bl _, _, h => by cases h; exact .bl _
  | .int _, _, h => by cases h; exact .int _
  | .str _, _, h => by cases h; exact .str _
  | .ref _, _, h => by cases h
  | .byt _, _, h => by cases h
  | .flt _, _, h => by cases h
  | .ty _, _, h => by cases h
/-- the values that are no sequences -/
def leafV : List V := [.non, .bl true, .bl false, .int 0, .int 1, .int (-1), .int 5, .int 1000000000000, .str "", .str "a", .str "note", .str "set", .str "part", .str "cat", .str "abcd", .str "abcde", .str "A", .str "a b", .str "a1", .str " a", .str "one", .str "under"]
def leafD : List PyData := leafV.filterMap pd
theorem leaf_pd : ∀ v ∈ leafV, ∃ d, pd v = some d ∧ d ∈ leafD := fun v hv => by
  have h : ∀ u ∈ leafV, (pd u).isSome = true := List.all_eq_true.mp (by decide +kernel)
  obtain ⟨d, e⟩ := Option.isSome_iff_exists.mp (h v hv)
  exact ⟨d, e, List.mem_filterMap.mpr ⟨v, hv, e⟩⟩
/-- data nested at most n deep over these -/
def Dt : Nat → PyData → Prop
  | 0, d => d ∈ leafD
  | n + 1, d => d ∈ leafD ∨ ∃ ds : List PyData, ds.length ≤ 2 ∧ (∀ e ∈ ds, Dt n e) ∧ (d = .list ds ∨ d = .tuple ds)
theorem Dt.leaf {n : Nat} {d : PyData} (h : d ∈ leafD) : Dt n d := by
  cases n with
  | zero => exact h
  | succ n => exact .inl h
theorem Dt.up {d : PyData} : ∀ {n m : Nat}, n ≤ m → Dt n d → Dt m d
  | 0, _, _, h => Dt.leaf h
  | n + 1, 0, l, _ => absurd l (by omega)
  | n + 1, m + 1, l, h => by
    rcases h with h | ⟨ds, h1, h2, h3⟩
    · exact .inl h
    · exact .inr ⟨ds, h1, fun e he => Dt.up (Nat.le_of_succ_le_succ l) (h2 e he), h3⟩
section
variable {P : Program} {w : World} {K : PySem.W.Frag} {mg : Str → Option Value} {base : Heap}
def spLeaf : Sp := fun vs H Q _ => ∃ b : Addr, vs = [.ref b] ∧ BoxAt H b ∧ ∀ (v : V) (d : PyData) (H' : Hp), pd v = some d → d ∈ leafD → BoxAt H' b → Kp b H H' → Q v H'
theorem scLeaf : FnScope ["_law_box", "_law_some"] ["_law_box"] (defScope sLeaf) := ⟨rfl, rfl, rfl, by decide +kernel, rfl, by decide +kernel, by decide +kernel⟩
theorem ok_leaf {f : Addr} {fd : FuncData} (F : Fun K "_law_leaf" "_law_leaf" sLeaf f fd) (T : TDraw K mg) : FnOk P w K mg base CX0 3 f fd ["_law_box"] spLeaf := by
  refine F.ok scLeaf (fun vs H Q E h => ?_) (fun cdv A outer s H vs Q E hr h => ?_)
  · obtain ⟨b, rfl, _⟩ := h
    rfl
  · obtain ⟨b, rfl, ⟨x, y, hB, hb⟩, k⟩ := h
    refine ⟨_, pss_cons (ps_set (i := 1) scLeaf.nd rfl (Or.inl rfl) (pe_lst (pa_cons pe_non (pa_cons pe_bl (pa_cons pe_bl (pa_cons pe_int (pa_cons pe_int (pa_cons (pe_op op_sub pe_int pe_int) (pa_cons pe_int (pa_cons (pe_op op_pow pe_int pe_int)
        (pa_cons pe_str (pa_cons pe_str (pa_cons pe_str (pa_cons pe_str (pa_cons pe_str (pa_cons pe_str (pa_cons pe_str (pa_cons pe_str (pa_cons pe_str pa_nil)))))))))))))))))))
      (pss_one (ps_ret (pe_call T.okOne hr rfl T.one.m T.one.F.kp T.one.b .nil pass0 (pa_cons (pv 0) (pa_cons (pe_op op_cat (pv 1) (pe_lst (pa_cons pe_str (pa_cons pe_str (pa_cons pe_str (pa_cons pe_str (pa_cons pe_str pa_nil))))))) pa_nil))))), ?_⟩
    refine ⟨_, _, rfl, rfl, _, _, rfl, rfl, ⟨by decide, by decide, by decide⟩, (by show 17 ≤ sizeLine; decide), fun l hl => ?_⟩
    refine ⟨_, rfl, _, rfl, (by show 5 ≤ sizeLine; decide), fun m hm => ?_⟩
    refine ⟨l, m, _, _, rfl, rfl, Same.new hm l _ upd_same, upd_same, (by show 22 ≤ sizeLine; decide), fun p hp => ?_⟩
    have hb2 := fun o => Same.new (o := o) hm b _ (Same.new hl b _ hb)
    have hbp : b ≠ p := ne_of_none (hb2 _) hp
    refine ⟨b, p, _, rfl, ⟨x, y, hB, Same.new hp b _ (hb2 _)⟩, SqL.of upd_same, hbp.symm, (by show 0 < 22; decide), (by show 22 < 1000000; decide), fun v H' hv hB' hk _ => ?_⟩
    obtain ⟨d, hd, hd2⟩ := leaf_pd v hv
    exact k v d H' hd hd2 hB' ((((Kp.refl b H).new hl).new hm).new hp |>.trans hk)
/-! ### a drawn value -/
def spAny (K : PySem.W.Frag) (n : Nat) : Sp := fun vs H Q _ => ∃ (b : Addr) (k : Int), vs = [.ref b, .int k] ∧ 0 ≤ k ∧ k ≤ (n : Int) ∧ BoxAt H b ∧
  ∀ (v : V) (d : PyData) (H' : Hp), Kp b H H' → BoxAt H' b → Dp K (dif H H') v d → Dt n d → Q v H'
theorem scAny : FnScope ["_law_box", "_law_deep", "_law_form", "_law_found", "_law_turn"] ["_law_box", "_law_deep"] (defScope sAny) := ⟨rfl, rfl, rfl, by decide +kernel, rfl, by decide +kernel, by decide +kernel⟩
structure TAny (K : PySem.W.Frag) (mg : Str → Option Value) : Type extends TDraw K mg where
  mR : mg "range" = none
  mT : mg "tuple" = none
  leaf : At K mg "_law_leaf" sLeaf ["_law_box"]
  any : At K mg "_law_any" sAny ["_law_box", "_law_deep"]
/-- the list that a comprehension has made so far, over what stood ahead of it -/
def Made (K : PySem.W.Frag) (b D : Addr) (H0 : Hp) (n i : Nat) (H : Hp) : Prop := (∀ a o, H0 a = some o → a ≠ b → a ≠ D → H a = some o) ∧ BoxAt H b ∧
  ∃ (acc : List V) (ds : List PyData), H D = some (.lst acc) ∧ acc.length = i ∧ ds.length = i ∧ DpAll K (dif H0 H) acc ds ∧ ∀ e ∈ ds, Dt n e
theorem made_turn {b D : Addr} {H0 H H1 : Hp} {n i : Nat} {v : V} {d : PyData} {o0 o1 : HO} (hb : H0 b = some o0) (hD : H0 D = some o1) (ne : D ≠ b) (h : Made K b D H0 n i H) (k : Kp b H H1) (hB : BoxAt H1 b) (hv : Dp K (dif H H1) v d) (hd : Dt n d) :
    ∃ acc, H1 D = some (.lst acc) ∧ acc.length = i ∧ Made K b D H0 n (i + 1) (upd H1 D (.lst (acc ++ [v]))) := by
  obtain ⟨h1, hb1, acc, ds, e, l1, l2, hA, hT⟩ := h
  have mo : Mo H0 H := fun a z => by
    cases q : H0 a with
    | none => rfl
    | some u =>
      have n1 : a ≠ b := fun y => by
        obtain ⟨_, _, _, g⟩ := hb1
        rw [y, g] at z
        cases z
      have n2 : a ≠ D := fun y => by rw [y, e] at z; cases z
      rw [h1 a u q n1 n2] at z
      cases z
  have toN : ∀ {a : Addr} {u : HO}, H0 a = none → H1 a = some u → dif H0 (upd H1 D (.lst (acc ++ [v]))) a = some u := fun {a u} e0 e1 => by
    refine dif_new e0 ?_
    rw [upd_ne (fun y => by rw [y, hD] at e0; cases e0)]
    exact e1
  refine ⟨acc, k D _ e ne, l1, ⟨fun a u q n1 n2 => by rw [upd_ne n2]; exact k a u (h1 a u q n1 n2) n1, ?_, acc ++ [v], ds ++ [d], upd_same, by rw [List.length_append, l1]; rfl, by rw [List.length_append, l2]; rfl, ?_, ?_⟩⟩
  · obtain ⟨x, y, hB, g⟩ := hB
    exact ⟨x, y, hB, by rw [upd_ne ne.symm]; exact g⟩
  · refine dpAll_append (dpAll_same (fun a u q => ?_) _ _ hA) (.cons (dp_same (fun a u q => ?_) _ _ hv) .nil)
    · obtain ⟨e0, e1⟩ := dif_eq.mp q
      exact toN e0 (k a u e1 (fun y => by rw [y, hb] at e0; cases e0))
    · obtain ⟨e0, e1⟩ := dif_eq.mp q
      exact toN (mo a e0) e1
  · intro e' he
    rcases List.mem_append.mp he with q | q
    · exact hT e' q
    · rw [List.mem_singleton.mp q]
      exact hd
theorem ok_any (T : TAny K mg) : ∀ n : Nat, FnOk P w K mg base CX0 (n + 4) T.any.f T.any.fd ["_law_box", "_law_deep"] (spAny K n) := by
  intro n
  induction n with
  | zero =>
    refine T.any.F.ok scAny (fun vs H Q E h => ?_) (fun cdv A outer s H vs Q E hr h => ?_)
    · obtain ⟨b, k, rfl, _⟩ := h
      rfl
    · obtain ⟨b, k, rfl, k0, k1, hB, q⟩ := h
      obtain rfl : k = 0 := by omega
      refine ⟨_, pss_cons (ps_set (i := 2) scAny.nd rfl (Or.inl rfl) (pe_ifExp (pt_cmpR op_gt (pv 1) pe_int (nomark _)) (pe_call T.okChoose (hr.mono (by omega)) rfl T.choose.m T.choose.F.kp T.choose.b .nil pass0 (pa_cons (pv 0) (pa_cons pe_int pa_nil))) pe_int))
        (pss_cons (ps_if (pt_cmpR op_gt (pv 2) pe_int (nomark _)) (pss_one (ps_ret (pe_call (ok_leaf T.leaf.F T.toTDraw) (hr.mono (by omega)) rfl T.leaf.m T.leaf.F.kp T.leaf.b .nil pass0 (pa_cons (pv 0) pa_nil)))) pss_nil)
        pss_never), ?_⟩
      refine ⟨_, rfl, _, _, rfl, rfl, _, rfl, ?_⟩
      refine iteF ?_
      refine ⟨_, rfl, _, _, rfl, rfl, _, rfl, ?_⟩
      refine iteT ?_
      refine ⟨_, rfl, b, rfl, hB, fun v d H' hp hd hB' hk => ?_⟩
      exact q v d H' hk hB' (pd_dp hp) (Dt.leaf hd)
  | succ n ih =>
    refine T.any.F.ok scAny (fun vs H Q E h => ?_) (fun cdv A outer s H vs Q E hr h => ?_)
    · obtain ⟨b, k, rfl, _⟩ := h
      rfl
    · obtain ⟨b, k, rfl, k0, k1, hB, q⟩ := h
      refine ⟨_, pss_cons (ps_set (i := 2) scAny.nd rfl (Or.inl rfl) (pe_ifExp (pt_cmpR op_gt (pv 1) pe_int (nomark _)) (pe_call T.okChoose (hr.mono (by omega)) rfl T.choose.m T.choose.F.kp T.choose.b .nil pass0 (pa_cons (pv 0) (pa_cons pe_int pa_nil))) pe_int))
        (pss_cons (ps_if (pt_cmpR op_gt (pv 2) pe_int (nomark _)) (pss_one (ps_ret (pe_call (ok_leaf T.leaf.F T.toTDraw) (hr.mono (by omega)) rfl T.leaf.m T.leaf.F.kp T.leaf.b .nil pass0 (pa_cons (pv 0) pa_nil)))) pss_nil)
        (pss_cons (ps_setLc (i := 3) (own := [("_law_turn", 4)]) (g := gName 4) (tt := tYes) (by rfl) scAny.nd rfl rfl (sw_true rfl rfl rfl (by decide +kernel)) (pi_range1 rfl T.mR (pa_cons (pe_call T.okChoose (hr.mono (by omega)) rfl T.choose.m T.choose.F.kp T.choose.b .nil pass0 (pa_cons (pv 0) (pa_cons pe_int pa_nil))) pa_nil))
            (blkOk_by (N := ["_law_box", "_law_deep", "_law_form", "_law_found", "_law_turn"]) (sc := defScope sAny) (by decide +kernel)) (fun _ _ _ _ _ => pg_name (i := 4) scAny.nd rfl (Or.inl rfl)) (fun _ _ _ _ _ => pts_nil)
            (fun _ _ _ _ _ => pe_call ih hr rfl T.any.m T.any.F.kp T.any.b .nil pass0 (pa_cons (pv 0) (pa_cons (pe_op op_sub (pv 1) pe_int) pa_nil))))
        (pss_one (ps_ret (pe_ifExp (pt_cmpR op_eq (pv 2) pe_int (nomark _)) (pe_tupleOf rfl T.mT (pv 3)) (pv 3)))))), ?_⟩
      refine ⟨_, rfl, _, _, rfl, rfl, _, rfl, ?_⟩
      refine ite2 (fun hc => ?_) (fun hc => ?_)
      · refine ⟨_, rfl, b, 6, rfl, hB, by decide, by decide, fun r H1 r0 r1 hB1 hk1 _ => ?_⟩
        refine ⟨_, rfl, _, _, rfl, rfl, _, rfl, ?_⟩
        refine ite2 (fun hc2 => ?_) (fun hc2 => ?_)
        · refine ⟨_, rfl, b, rfl, hB1, fun v d H' hp hd hB' hk => ?_⟩
          exact q v d H' (hk1.trans hk) hB' (pd_dp hp) (Dt.leaf hd)
        · refine ⟨_, rfl, b, 3, rfl, hB1, by decide, by decide, fun m H2 m0 m1 hB2 hk2 _ => ?_⟩
          have mo1 : Mo H H1 := by
            obtain ⟨_, _, _, g⟩ := hB1
            exact hk1.mo g
          have mo2 : Mo H H2 := by
            obtain ⟨_, _, _, g⟩ := hB2
            exact (hk1.trans hk2).mo g
          obtain ⟨x2, y2, hx2, g2⟩ := id hB2
          refine ⟨_, rfl, by omega, by omega, fun D hD => lc_range (lo := 0) (n := m.toNat) (fun i Hi => Made K b D (upd H2 D (.lst [])) n i Hi) ?_ (fun i Hi hi hM => ?_) (fun Hi hM => ?_)⟩
          · exact ⟨fun a o e _ _ => e, ⟨x2, y2, hx2, Same.new hD b _ g2⟩, [], [], upd_same, rfl, rfl, .nil, fun _ z => absurd z List.not_mem_nil⟩
          · have hDb : D ≠ b := (ne_of_none g2 hD).symm
            refine ⟨rfl, _, rfl, _, rfl, _, _, rfl, rfl, b, k - 1, rfl, by have := of_decide_eq_true hc; omega, by omega, hM.2.1, fun v d H' hk hB' hv hd => ?_⟩
            obtain ⟨acc, e1, e2, e3⟩ := made_turn (Same.new hD b _ g2) upd_same hDb hM hk hB' hv hd
            exact ⟨acc, e1, small1000 (by omega), e3⟩
          · have hDb : D ≠ b := (ne_of_none g2 hD).symm
            obtain ⟨hk3, hB3, acc, ds, e, l1, l2, hA, hT⟩ := hM
            have kp3 : Kp b H Hi := fun a o z nb => hk3 a o (Same.new hD a _ ((hk1.trans hk2) a o z nb)) nb (fun y => by
              have z2 := (hk1.trans hk2) a o z nb
              rw [y, hD] at z2
              cases z2)
            have hA2 : DpAll K (dif H Hi) acc ds := dpAll_same (dif_mo (mo2.trans Mo.upd)) _ _ hA
            have hDH : H D = none := mo2 D hD
            refine ⟨_, rfl, rfl, _, rfl, ?_⟩
            refine ite2 (fun hz => ?_) (fun hz => ?_)
            · refine ⟨_, rfl, .inl ⟨D, acc, rfl, SqL.of e, fun t ht => ?_⟩⟩
              have hto : H t = none := by
                obtain ⟨_, _, _, g⟩ := hB3
                exact kp3.mo g t ht
              have hA3 : DpAll K (dif H (upd Hi t (.tup acc))) acc ds := dpAll_same (fun a u z => dif_new (dif_eq.mp z).1 (Same.new ht a u (dif_eq.mp z).2)) _ _ hA2
              refine q _ (.tuple ds) _ (kp3.new ht) ?_ (.tup (SqT.of (dif_new hto upd_same)) hA3) (.inr ⟨ds, by omega, hT, .inr rfl⟩)
              obtain ⟨x3, y3, h3, g3⟩ := hB3
              exact ⟨x3, y3, h3, Same.new ht b _ g3⟩
            · refine ⟨_, rfl, ?_⟩
              exact q _ (.list ds) _ kp3 hB3 (.lst (SqL.of (dif_new hDH e)) hA2) (.inr ⟨ds, by omega, hT, .inl rfl⟩)
      · refine ⟨_, rfl, _, _, rfl, rfl, _, rfl, ?_⟩
        refine iteT ?_
        refine ⟨_, rfl, b, rfl, hB, fun v d H' hp hd hB' hk => ?_⟩
        exact q v d H' hk hB' (pd_dp hp) (Dt.leaf hd)
end
end Pn

namespace Pn
open PySem L2
theorem paired_mono {α β : Type} {R S : α → β → Prop} (h : ∀ a b, R a b → S a b) : ∀ {l : List α} {m : List β}, Paired R l m → Paired S l m
  | _, _, .nil => .nil
  | _, _, .cons a b => .cons (h _ _ a) (paired_mono h b)
theorem paired_snoc {α β : Type} {R : α → β → Prop} {x : α} {y : β} (h : R x y) : ∀ {l : List α} {m : List β}, Paired R l m → Paired R (l ++ [x]) (m ++ [y])
  | _, _, .nil => .cons h .nil
  | _, _, .cons a b => .cons a (paired_snoc h b)
theorem paired_at {α β : Type} {R : α → β → Prop} : ∀ {l : List α} {m : List β} {i : Nat} {x : α}, Paired R l m → l[i]? = some x → ∃ y, m[i]? = some y ∧ R x y
  | _, _, _, _, .nil, h => by simp at h
  | _, _, 0, _, .cons a _, h => by
    have e := Option.some.inj h
    subst e
    exact ⟨_, rfl, a⟩
  | _, _, i + 1, _, .cons _ b, h => paired_at (i := i) b h
theorem paired_len {α β : Type} {R : α → β → Prop} : ∀ {l : List α} {m : List β}, Paired R l m → l.length = m.length
  | _, _, .nil => rfl
  | _, _, .cons _ b => by rw [List.length_cons, List.length_cons, paired_len b]
end Pn

namespace Pn
open PySem L2
/-! ### what these checks tell of data -/
def rowV : List V := [.str "note", .str "skip", .str "set", .str "keep", .str "back", .str "ref", .str "put", .str "open", .str "part"]
/-- a letter of a name -/
def lok (c : Nat) : Bool := decide (97 ≤ c) && decide (c ≤ 122)
def nameS (z : Str) : Bool := !inV (.str z) rowV && (decide (1 ≤ (z.length : Int)) && decide ((z.length : Int) ≤ 4)) && z.cps.toList.all lok
def nameD : PyData → Bool
  | .str z => nameS z
  | _ => false
def intD : PyData → Bool
  | .int _ => true
  | _ => false
def numD : PyData → Bool
  | .int i => decide (0 ≤ i)
  | _ => false
/-- the type of data -/
def tyD : PyData → String
  | .none => "NoneType"
  | .bool _ => "bool"
  | .int _ => "int"
  | .str _ => "str"
  | .list _ => "list"
  | .tuple _ => "tuple"
  | .dict _ => "dict"
theorem dp_ty {K : PySem.W.Frag} {H : Hp} {v : V} {d : PyData} (h : Dp K H v d) : TyX K H v (.type (tyD d)) := by
  cases h with
  | non => exact .base .non
  | bl b => exact .base (.bl b)
  | int i => exact .base (.int i)
  | str x => exact .base (.str x)
  | lst s _ =>
    rcases s with (s | ⟨o, s⟩) | ⟨o, _, _, e, c, _⟩
    · exact .base (.lst s)
    · exact .base (.frz s)
    · exact .kList e c
  | tup s _ =>
    rcases s with (s | ⟨o, s⟩) | ⟨o, _, _, e, c, _⟩
    · exact .base (.tup s)
    · exact .fTuple s
    · exact .kTuple e c
def strT : PyData → Bool
  | .str _ => true
  | _ => false
def intT : PyData → Bool
  | .bool _ => true
  | .int _ => true
  | _ => false
def boolT : PyData → Bool
  | .bool _ => true
  | _ => false
theorem kit_str : ∀ d : PyData, kitB (tyD d) "str" = some (strT d)
  | .none => (by decide +kernel : kitB "NoneType" "str" = some false)
  | .bool _ => (by decide +kernel : kitB "bool" "str" = some false)
  | .int _ => (by decide +kernel : kitB "int" "str" = some false)
  | .str _ => (by decide +kernel : kitB "str" "str" = some true)
  | .list _ => (by decide +kernel : kitB "list" "str" = some false)
  | .tuple _ => (by decide +kernel : kitB "tuple" "str" = some false)
  | .dict _ => (by decide +kernel : kitB "dict" "str" = some false)
theorem kit_int : ∀ d : PyData, kitB (tyD d) "int" = some (intT d)
  | .none => (by decide +kernel : kitB "NoneType" "int" = some false)
  | .bool _ => (by decide +kernel : kitB "bool" "int" = some true)
  | .int _ => (by decide +kernel : kitB "int" "int" = some true)
  | .str _ => (by decide +kernel : kitB "str" "int" = some false)
  | .list _ => (by decide +kernel : kitB "list" "int" = some false)
  | .tuple _ => (by decide +kernel : kitB "tuple" "int" = some false)
  | .dict _ => (by decide +kernel : kitB "dict" "int" = some false)
theorem kit_bool : ∀ d : PyData, kitB (tyD d) "bool" = some (boolT d)
  | .none => (by decide +kernel : kitB "NoneType" "bool" = some false)
  | .bool _ => (by decide +kernel : kitB "bool" "bool" = some true)
  | .int _ => (by decide +kernel : kitB "int" "bool" = some false)
  | .str _ => (by decide +kernel : kitB "str" "bool" = some false)
  | .list _ => (by decide +kernel : kitB "list" "bool" = some false)
  | .tuple _ => (by decide +kernel : kitB "tuple" "bool" = some false)
  | .dict _ => (by decide +kernel : kitB "dict" "bool" = some false)
/-! ### a comprehension whose items are told by their places -/
theorem lc_step {H1 : Hp} {D : Addr} {f : Nat → V} {i : Nat} (hi : i < 1000) : ∃ acc, (upd H1 D (.lst ((List.range i).map f))) D = some (.lst acc) ∧ acc.length < sizeLine ∧
    upd (upd H1 D (.lst ((List.range i).map f))) D (.lst (acc ++ [f i])) = upd H1 D (.lst ((List.range (i + 1)).map f)) := by
  refine ⟨_, upd_same, by rw [List.length_map, List.length_range]; exact small1000 (by omega), ?_⟩
  rw [List.range_succ, List.map_append]
  funext b
  by_cases e : b = D
  · rw [e, upd_same, upd_same]
    rfl
  · rw [upd_ne e, upd_ne e, upd_ne e]
theorem range_getD {f : Nat → Bool} : ∀ l : List Nat, (((List.range l.length).map fun i => f (l.getD i 0)).all id) = l.all f := by
  intro l
  have e : (List.range l.length).map (fun i => f (l.getD i 0)) = l.map f := by
    apply List.ext_getElem
    · simp
    · intro i h1 h2
      have h3 : i < l.length := by simpa using h2
      simp [List.getD_eq_getElem?_getD, List.getElem?_eq_getElem h3]
  rw [e]
  simp
theorem lt_one {a b : Nat} : decide ([a] < [b]) = decide (a < b) := by
  by_cases h : a < b
  · rw [decide_eq_true h, decide_eq_true]
    exact List.Lex.rel h
  · rw [decide_eq_false h, decide_eq_false]
    intro z
    cases z with
    | rel r => exact h r
    | cons r => cases r
theorem lok_eq (c : Nat) : (if (!decide ([c] < [97])) = true then (!decide ([122] < [c])) else false) = lok c := by
  rw [lt_one, lt_one]
  unfold lok
  by_cases h1 : c < 97
  · rw [decide_eq_true h1, decide_eq_false (show ¬ 97 ≤ c by omega)]
    rfl
  · rw [decide_eq_false h1, decide_eq_true (show 97 ≤ c by omega)]
    by_cases h2 : 122 < c
    · rw [decide_eq_true h2, decide_eq_false (show ¬ c ≤ 122 by omega)]
      rfl
    · rw [decide_eq_false h2, decide_eq_true (show c ≤ 122 by omega)]
      rfl
section
variable {P : Program} {w : World} {K : PySem.W.Frag} {mg : Str → Option Value} {base : Heap}
def spIsInteger (K : PySem.W.Frag) : Sp := fun vs H Q _ => ∃ (v : V) (d : PyData), vs = [v] ∧ Dp K H v d ∧ Q (.bl (intD d)) H
def spIsNumber (K : PySem.W.Frag) : Sp := fun vs H Q _ => ∃ (v : V) (d : PyData), vs = [v] ∧ Dp K H v d ∧ Q (.bl (numD d)) H
def dlen : PyData → Prop
  | .str z => z.length ≤ 900
  | _ => True
def spIsName (K : PySem.W.Frag) : Sp := fun vs H Q _ => ∃ (v : V) (d : PyData), vs = [v] ∧ Dp K H v d ∧ dlen d ∧ ∀ H', Same H H' → Mo H H' → Q (.bl (nameD d)) H'
end
end Pn

namespace Pn
open PySem L2
theorem iteTD {c : Bool} {A B : Prop} (hc : c = true) (h : A) : if c = true then A else B := by
  rw [if_pos hc]
  exact h
theorem iteFD {c : Bool} {A B : Prop} (hc : c = false) (h : B) : if c = true then A else B := by
  rw [hc, if_neg Bool.false_ne_true]
  exact h
/-! ### own exceptions that keep one thing -/
theorem same_made {H1 : Hp} {a d : Addr} {y : V} {f : Str} {o1 o2 o3 : HO} (ha : H1 a = none) (hd : H1 d = none) : Same H1 (upd (del (upd (upd (upd H1 a o1) d o2) a o3) a) d (.xd [(f, y)])) := fun b o e => by
  have n1 : b ≠ a := ne_of_none e ha
  have n2 : b ≠ d := ne_of_none e hd
  rw [upd_ne n2, del_ne n1, upd_ne n1, upd_ne n2, upd_ne n1]
  exact e
/-- an own exception class of the text whose __init__ keeps one thing under the name fld -/
structure TExc (K : PySem.W.Frag) (mg : Str → Option Value) (x : Str) (qual fld : Str) (st : Stmt) : Type where
  C : Addr
  fI : Addr
  fd : FuncData
  F : Fun K "__init__" qual st fI fd
  b : Binds K fd ["self", fld] []
  m : mg x = some (.ref C)
  O : OexC K C
  iC : PySem.W.findIn K (.ref C) "__init__" = some (some (.ref fI))
  tI : PySem.W.typeIn K (.ref fI) = some (.type "function")
  noF : PySem.W.findIn K (.ref C) fld = some none
  E : ExcC K C
  isC : PySem.W.isClsIn K C = true
  te : PySem.W.exmOne K (.ref C) (.ref C) = some true
  xf : XfC K C
def spXInit (K : PySem.W.Frag) (fld : Str) : Sp := fun vs H Q _ => ∃ (a C : Addr) (v : V), vs = [.ref a, v] ∧ H a = some (exo a C none) ∧ OexC K C ∧ PySem.W.findIn K (.ref C) fld = some none ∧
  ∀ dx, H dx = none → dx ≠ a → Q .non (upd (upd H dx (exd dx [(fld, v)])) a (exo a C (some dx)))
/-- isinstance of the exception that a suite holds -/
def rIsX (K : PySem.W.Frag) (D a : Addr) (cls : Value) (d : Option Addr) : List V → Hp → VK → Prop := fun xs H Q => ∃ (c : V) (cv : Value) (b : Bool) (dd : Addr) (fs : List (Str × V)), xs = [.ref a, c] ∧ cls = .ref D ∧ ClsV c cv ∧ PySem.W.kitOne K (.ref D) cv = some b ∧ d = some dd ∧ H dd = some (.xd fs) ∧ Q (.bl b) H
theorem call_isX {X : Cx} {a D : Addr} {cls : Value} {d : Option Addr} {oe : Obj} {pn : List (Addr × Obj)} (C : ExcC X.K D) (hz : Zc cls d oe) (hf : ∃ vs, oe.data = .fields vs) : CallR (X.suite a ((a, oe) :: pn)) (.builtin "isinstance") (rIsX X.K D a cls d) := by
  intro pins s σ H xs us Q I r h
  obtain ⟨c, cv, b, dd, fs, rfl, rfl, hcv, e, rfl, hdd, q⟩ := h
  obtain ⟨u1, u2, rfl, r1, r2⟩ := vals2 r
  obtain rfl : u1 = Value.ref a := r1
  obtain rfl : u2 = cv := hcv.eq r2
  obtain ⟨hget, _⟩ := I.pin (a, oe) (List.mem_append.mpr (.inl List.mem_cons_self))
  obtain ⟨mA, hns, _⟩ : ObjOk X.prog X.w H s.heap dd (.xd fs) := I.hok dd _ hdd
  obtain ⟨od, ho, _⟩ := lookIn_ns hns
  obtain ⟨vs, hv⟩ := hf
  have J : PySem.W.InstAt s.heap a oe D (some od) := ⟨hget, hz.1, by unfold PySem.W.notCls; rw [hv] <;> rfl, by rw [hz.2]; exact ho⟩
  have hcl : (PySem.W.clsIn X.K D).isSome = true := by
    have q := C.hd
    unfold PySem.W.hasDictIn at q
    cases z : PySem.W.clsIn X.K D with
    | some cd => rfl
    | none => rw [z] at q; cases q
  exact PySem.W.kia_one (PySem.W.kitx_exc hcl C.hg C.hk C.hs C.ha C.hn C.ht C.hm) I.kIn J e (fun z => nomatch z) fun tk => ⟨.bl b, H, I.tok tk, rfl, q⟩
end Pn

namespace Pn
open PySem L2
/-! ### drawn data is small -/
theorem leaf_dlen : ∀ d ∈ leafD, dlen d ∧ PyData.canLay0 d = true ∧ PyData.depth d = 0 := by
  have h : leafD.all (fun d => (match d with | .str z => decide (z.length ≤ 900) | _ => true) && PyData.canLay0 d && decide (PyData.depth d = 0)) = true := by decide +kernel
  intro d hd
  have q := List.all_eq_true.mp h d hd
  rw [Bool.and_eq_true, Bool.and_eq_true] at q
  obtain ⟨⟨q1, q2⟩, q3⟩ := q
  refine ⟨?_, q2, of_decide_eq_true q3⟩
  cases d with
  | str z =>
    have h9 : z.length ≤ 900 := of_decide_eq_true q1
    exact h9
  | _ => trivial
theorem dt_lay : ∀ (n : Nat) (d : PyData), Dt n d → PyData.canLay0 d = true ∧ PyData.depth d ≤ n
  | 0, d, h => ⟨(leaf_dlen d h).2.1, by rw [(leaf_dlen d h).2.2]; exact Nat.le_refl _⟩
  | n + 1, d, h => by
    rcases h with h | ⟨ds, h1, h2, h3⟩
    · exact ⟨(leaf_dlen d h).2.1, by rw [(leaf_dlen d h).2.2]; exact Nat.zero_le _⟩
    · have hall : ∀ es : List PyData, (∀ e ∈ es, Dt n e) → PyData.canLayAll0 es = true ∧ PyData.depthAll es ≤ n := by
        intro es
        induction es with
        | nil => intro _; exact ⟨by simp [PyData.canLayAll0], by simp [PyData.depthAll]⟩
        | cons e es ih =>
          intro he
          have q1 := dt_lay n e (he e List.mem_cons_self)
          have q2 := ih fun x hx => he x (List.mem_cons_of_mem _ hx)
          exact ⟨by simp [PyData.canLayAll0, q1.1, q2.1], by simp only [PyData.depthAll]; omega⟩
      have q := hall ds h2
      rcases h3 with rfl | rfl
      · exact ⟨by simp only [PyData.canLay0]; exact q.1, by simp only [PyData.depth]; omega⟩
      · exact ⟨by simp only [PyData.canLay0]; exact q.1, by simp only [PyData.depth]; omega⟩
theorem dt_shaped {n : Nat} {d : PyData} (hn : n ≤ 64) (h : Dt n d) : SeqAt.shaped d = true := by
  have q := dt_lay n d h
  show (PyData.canLay0 d && decide (PyData.depth d ≤ 64)) = true
  rw [Bool.and_eq_true]
  exact ⟨q.1, decide_eq_true (by omega)⟩
theorem dt_dlen : ∀ {n : Nat} {d : PyData}, Dt n d → dlen d
  | 0, d, h => (leaf_dlen d h).1
  | n + 1, d, h => by
    rcases h with h | ⟨ds, _, _, h3⟩
    · exact (leaf_dlen d h).1
    · rcases h3 with rfl | rfl
      · trivial
      · trivial
theorem dif_keep {b : Addr} {H H1 H2 : Hp} {o : HO} (hb : H b = some o) (k : Kp b H1 H2) : Same (dif H H1) H2 := fun a u e => by
  obtain ⟨e1, e2⟩ := dif_eq.mp e
  exact k a u e2 (fun z => by rw [z, hb] at e1; cases e1)
end Pn

namespace Pn
open PySem L2
/-! ### comprehensions that keep what stands: what each turn puts out -/
section
variable {K : PySem.W.Frag} {tl : TE} {g : TG} {tt : TT} {te : TE} {vs : List Nat} {σ : L2.St} {H : Hp} {Q : VK} {p : Addr} {xs : List V}
/-- one turn of a comprehension that puts out what out says -/
def LcTurn (xs : List V) (H : Hp) (g : TG) (tt : TT) (te : TE) (vs : List Nat) (σ : L2.St) (out : Nat → Option V) : Prop :=
  ∀ (i : Nat) (x : V) (Hi : Hp) (S : Hp → Prop) (Y : VK), xs[i]? = some x → Same H Hi → (out i = none → ∀ H', Same Hi H' → S H') → (∀ v, out i = some v → ∀ H', Same Hi H' → Y v H') →
    g x (wipe σ vs) Hi fun σ2 H2 => wipe σ2 vs = wipe σ vs ∧ tt σ2 H2 fun b H3 => if b = true then te σ2 H3 Y else S H3
theorem range_out (out : Nat → Option V) (i : Nat) : (List.range (i + 1)).filterMap out = (List.range i).filterMap out ++ (match out i with | none => [] | some v => [v]) := by
  rw [List.range_succ, List.filterMap_append]
  cases h : out i with
  | none => simp [h]
  | some v => simp [h]
theorem lc_keep (hl : xs.length ≤ 10000) {out : Nat → Option V} (turn : LcTurn xs H g tt te vs σ out) {D : Addr} (hD : H D = none) (i : Nat) (x : V) (Hi : Hp) (hx : xs[i]? = some x) (hP : Same H Hi ∧ Hi D = some (.lst ((List.range i).filterMap out))) :
    g x (wipe σ vs) Hi fun σ2 H2 => wipe σ2 vs = wipe σ vs ∧ tt σ2 H2 fun b H3 =>
      if b = true then te σ2 H3 fun y H4 => ∃ acc, H4 D = some (.lst acc) ∧ acc.length < sizeLine ∧ (Same H (upd H4 D (.lst (acc ++ [y]))) ∧ upd H4 D (.lst (acc ++ [y])) D = some (.lst ((List.range (i + 1)).filterMap out)))
      else (Same H H3 ∧ H3 D = some (.lst ((List.range (i + 1)).filterMap out))) := by
  obtain ⟨s, hd⟩ := hP
  have hi : i < xs.length := (List.getElem?_eq_some_iff.mp hx).1
  refine turn i x Hi (fun H3 => Same H H3 ∧ H3 D = some (.lst ((List.range (i + 1)).filterMap out))) _ hx s (fun h0 H' s' => ⟨s.trans s', ?_⟩) (fun v hv H' s' => ⟨_, s' _ _ hd, ?_, ?_, ?_⟩)
  · rw [range_out, h0, List.append_nil]
    exact s' _ _ hd
  · have h1 : ((List.range i).filterMap out).length ≤ (List.range i).length := List.length_filterMap_le _ _
    rw [List.length_range] at h1
    have h2 : (10001 : Nat) ≤ sizeLine := by decide
    omega
  · exact fun a o e => by
      rw [upd_ne (ne_of_none e hD)]
      exact s' _ _ (s _ _ e)
  · rw [upd_same, range_out, hv]
theorem lcw_list (h0 : ∀ R : VK, R (.ref p) H → tl σ H R) (hp : SqL K H p xs) (hl : xs.length ≤ 10000) {out : Nat → Option V} (turn : LcTurn xs H g tt te vs σ out)
    (fin : ∀ (D : Addr) (H' : Hp), H D = none → Same H H' → H' D = some (.lst ((List.range xs.length).filterMap out)) → Q (.ref D) H') : tLc (iList K tl) g tt te vs σ H Q :=
  h0 _ ⟨p, rfl, ⟨_, hp⟩, fun D hD => lc_list (xs := xs) (fun i Hi => Same H Hi ∧ Hi D = some (.lst ((List.range i).filterMap out))) ⟨Same.new hD, upd_same⟩ (fun _ _ _ hP => hP.1.seq hp) (lc_keep hl turn hD) (fun Hi hP => fin D Hi hD hP.1 hP.2)⟩
/-- what is put out, by a list beside -/
theorem out_map {α β : Type} {l : List α} {f : α → β} : (List.range l.length).filterMap (fun i => (l[i]?).map f) = l.map f := by
  induction l with
  | nil => rfl
  | cons a l ih =>
    rw [List.length_cons, List.range_succ_eq_map, List.filterMap_cons]
    simp only [List.getElem?_cons_zero, Option.map_some, List.filterMap_map, List.map_cons]
    congr 1
end
end Pn

namespace Pn
open PySem PySem.Spec PyProof.Rows L2
/-! ### comprehensions that make objects; what stands although lists change -/
def SameN (H H' : Hp) : Prop := ∀ a o, H a = some o → (∀ xs, o ≠ HO.lst xs) → H' a = some o
theorem SameN.of {H H' : Hp} (s : Same H H') : SameN H H' := fun a o e _ => s a o e
theorem SameN.trans {H H1 H2 : Hp} (s : SameN H H1) (t : SameN H1 H2) : SameN H H2 := fun a o e n => t a o (s a o e n) n
theorem SameN.upd {H : Hp} {D : Addr} {xs : List V} {o : HO} (h : H D = some (.lst xs)) : SameN H (upd H D o) := fun a u e n => by
  rw [upd_ne (fun z => by rw [z, h] at e; cases e; exact n _ rfl)]
  exact e
theorem paired_cat {α β : Type} {R : α → β → Prop} {l2 : List α} {m2 : List β} (h2 : Paired R l2 m2) : ∀ {l : List α} {m : List β}, Paired R l m → Paired R (l ++ l2) (m ++ m2)
  | _, _, .nil => h2
  | _, _, .cons a b => .cons a (paired_cat h2 b)
theorem lcw_objs {K : PySem.W.Frag} {tl : TE} {g : TG} {tt : TT} {te : TE} {vs : List Nat} {σ : L2.St} {H : Hp} {Q : VK} {p : Addr} {xs : List V} {α : Type} {R : Hp → Addr → α → Prop} {cs : List α} (hR : ∀ {H H' : Hp} {t : Addr} {c : α}, SameN H H' → R H t c → R H' t c)
    (h0 : ∀ R : VK, R (.ref p) H → tl σ H R) (hp : SqL K H p xs) (hl : xs.length ≤ 1000) (hc : xs.length = cs.length)
    (turn : ∀ (i : Nat) (x : V) (c : α) (Hi : Hp) (S : Hp → Prop) (Y : VK), xs[i]? = some x → cs[i]? = some c → Same H Hi → (∀ t H', Same Hi H' → R H' t c → Y (.ref t) H') → g x (wipe σ vs) Hi fun σ2 H2 => wipe σ2 vs = wipe σ vs ∧ tt σ2 H2 fun b H3 => if b = true then te σ2 H3 Y else S H3)
    (fin : ∀ (D : Addr) (H' : Hp) (ts : List Addr), H D = none → Same H H' → H' D = some (.lst (ts.map V.ref)) → Paired (R H') ts cs → Q (.ref D) H') : tLc (iList K tl) g tt te vs σ H Q := by
  refine h0 _ ⟨p, rfl, ⟨_, hp⟩, fun D hD => lc_list (xs := xs) (fun i Hi => Same H Hi ∧ ∃ ts : List Addr, Hi D = some (.lst (ts.map V.ref)) ∧ ts.length ≤ i ∧ Paired (R Hi) ts (cs.take i)) ⟨Same.new hD, [], upd_same, Nat.le_refl _, .nil⟩ (fun _ _ _ hP => hP.1.seq hp) (fun i x Hi hx hP => ?_) (fun Hi hP => ?_)⟩
  · obtain ⟨s, ts, hd, hn, pd⟩ := hP
    have hi : i < xs.length := (List.getElem?_eq_some_iff.mp hx).1
    have hi2 : i < cs.length := by omega
    have hc2 : cs[i]? = some cs[i] := List.getElem?_eq_getElem hi2
    refine turn i x _ Hi _ _ hx hc2 s fun t H' s' r => ⟨_, s' _ _ hd, small1000 (by rw [List.length_map]; omega), (fun a o e => ?_), ts ++ [t], by rw [upd_same, List.map_append]; rfl, by rw [List.length_append]; exact Nat.add_le_add_right hn 1, ?_⟩
    · rw [upd_ne (ne_of_none e hD)]
      exact s' _ _ (s _ _ e)
    · have n2 : SameN H' (upd H' D (.lst (ts.map V.ref ++ [V.ref t]))) := SameN.upd (s' _ _ hd)
      rw [List.take_add_one, hc2]
      exact paired_snoc (hR n2 r) (paired_mono (fun _ _ z => hR ((SameN.of s').trans n2) z) pd)
  · obtain ⟨s, ts, hd, _, pd⟩ := hP
    rw [hc, List.take_length] at pd
    exact fin D Hi ts hD s hd pd
end Pn

namespace Pn
open PySem PySem.Spec PyProof.Rows L2
/-! ### the law's def at the surrounding that the judge calls it from: there no repr is under way -/
section
variable {P : Program} {w : World} {K : PySem.W.Frag} {mg mb : Str → Option Value} {s₁ : Shared} {a : Addr} {vs : List Value} {ns : List Int}
/-- a tracking of the script alone -/
theorem law_track (KX : K.In s₁.heap) (ha : s₁.heap.get? a = some { cls := .type "list", data := .seq vs.toArray }) (hi : IntsAre vs ns) (hl : ns.length ≤ sizeLine) :
    ∃ H : Hp, Only H ∧ SqL K H a (ns.map V.int) ∧ HOk P w H s₁.heap ∧ ∀ b, H b ≠ none → b = a ∧ K.lookup a = none := by
  have rv := vals_ints hi
  cases hk : K.lookup a with
  | some o =>
    have e := (KX a o hk).symm.trans ha
    cases e
    exact ⟨fun _ => none, fun _ => .inl rfl, .inr ⟨_, vs.toArray, _, hk, rfl, rfl, rfl, by rw [List.size_toArray, hi.length]; exact hl, by simpa using rv⟩, fun b u z => (nomatch (show (none : Option HO) = some u from z)), fun b z => absurd rfl z⟩
  | none =>
    let o : HO := .frz { cls := .type "list", data := .seq vs.toArray } (.lst (ns.map V.int))
    have at_ : upd (fun _ => none) a o a = some o := upd_same
    refine ⟨upd (fun _ => none) a o, fun b => ?_, .inl (.inr ⟨_, at_⟩), fun b u z => ?_, fun b z => ⟨?_, rfl⟩⟩
    · by_cases h : b = a
      · exact .inr ⟨_, _, by rw [h]; exact at_⟩
      · exact .inl (by rw [upd_ne h])
    · by_cases h : b = a
      · rw [h, at_] at z
        cases z
        rw [h]
        exact ⟨ha, by rw [List.length_map]; exact hl, vs, _, rv, ha⟩
      · rw [upd_ne h] at z
        cases z
    · by_cases h : b = a
      · exact h
      · rw [upd_ne h] at z
        exact absurd rfl z
/-- what stands behind it is the module's -/
theorem law_env (KX : K.In s₁.heap) (hns : s₁.heap.Ns mainGlobals mg) (hb : s₁.heap.Ns builtinsNs mb) (hbb : ∀ x : Str, x ≠ "__name__" → mb x = bootBuiltins x) (hlim : s₁.heap.NoLimit) (hg : s₁.gens = #[])
    (ha : s₁.heap.get? a = some { cls := .type "list", data := .seq vs.toArray }) {H : Hp} (hok : HOk P w H s₁.heap) (hA : ∀ b, H b ≠ none → b = a ∧ K.lookup a = none) :
    K.In (hidT s₁.heap H) ∧ (hidT s₁.heap H).Ns mainGlobals mg ∧ Env0 P w K mg (hidT s₁.heap H) callerA [] s₁ H := by
  have free : ∀ {b : Addr}, (b = a → K.lookup a = none → False) → H b = none := fun {b} h => by
    cases q : H b with
    | none => rfl
    | some u =>
      obtain ⟨e1, e2⟩ := hA b (by rw [q]; simp)
      exact (h e1 e2).elim
  have ns_ : ∀ {b : Addr} {m : Str → Option Value}, s₁.heap.Ns b m → (hidT s₁.heap H).Ns b m := fun {b m} ⟨o, es, ep, e, d, r⟩ => ⟨o, es, ep, hidT_get e (free fun z _ => by
    rw [z, ha] at e
    cases e
    exact Data.noConfusion d), d, r⟩
  have kin : K.In (hidT s₁.heap H) := fun b o e => hidT_get (KX b o e) (free fun z n => by
    rw [z, n] at e
    cases e)
  obtain ⟨mc, l1, l2⟩ := hlim
  exact ⟨kin, ns_ hns, rfl, ⟨kin, ns_ hns, ⟨mb, ns_ hb, hbb⟩, ⟨mc, ns_ l1, l2⟩⟩, fun b o e => of_hidT e, Nat.le_of_eq (hidT_size _ _), trivial, fun b h => (by cases (show b ∈ ([] : List Addr) from h)), hok, .of_eq hg⟩
end
end Pn
namespace Pn
open PySem PySem.Spec PyProof.Rows L2
section
variable {P : Program} {w : World} {K : PySem.W.Frag} {mg : Str → Option Value} {base : Heap} {A : Around}
/-- a def's promise at one surrounding, with no frame below -/
def RunAt (P : Program) (w : World) (K : PySem.W.Frag) (mg : Str → Option Value) (base : Heap) (A : Around) (f : Addr) (fd : FuncData) (ps : List Str) (sp : Sp) : Prop :=
  ∀ (s : Shared) (H : Hp) (us : List Value) (vs : List V) (Q : VK) (E : XK), Env0 P w K mg base A [] s H → BindsTo s fd ⟨us, []⟩ (ps.zip us) → Vals vs us → sp vs H Q E → codeAny (model P w) A (.call (.ref f) ⟨us, []⟩) (CR CX0 [] P w H s Q E) s
theorem fun_at {x qual : Str} {st : Stmt} {f : Addr} {fd : FuncData} {N ps : List Str} {k : Nat} {sp : Sp} (F : Fun K x qual st f fd) (S : FnScope N ps (defScope st)) (hr : Room (k + 1) A) (len : ∀ vs H Q E, sp vs H Q E → vs.length = ps.length)
    (hbody : ∀ (cdv : Value) (s : Shared) (H : Hp) (vs : List V) (Q : VK) (E : XK), Room k (A.deeper (envOfC qual (defScope st) s.heap.objs.size f cdv)) → sp vs H Q E →
      ∃ t, PSs (cxOf CX0 P w K mg base N qual (defScope st) f cdv A [] s H E).nox (defBody st) t ∧ t { nx := fun _ H' => Q .non H', rt := Q } (L2.start N vs) H) : RunAt P w K mg base A f fd ps sp := by
  obtain ⟨oc, od, kV, doc, pm, an, cdv, ct, osl, rfl, lk, hcd⟩ := F.ex
  intro s H us vs Q E e0 hb r hsp
  have keep : ∀ b o, base.get? b = some o → s.heap.get? b = some o := fun b o e => (e0.bs b o e).1
  have kin := e0.mod.kin.keeps keep
  have par : ∀ y ∈ ps.zip us, (defScope st).names.lookup y.1 = some .local ∨ ((defScope st).names.lookup y.1 = some .cell ∧ ((cellsFrom (s.heap.objs.size + 1) (defScope st).names []).lookup y.1).isSome = true) := fun y hy =>
    (S.par y.1 (List.of_mem_zip (a := y.1) (b := y.2) hy).1).imp id fun q => ⟨q, PySem.W.cellsFrom_some _ _ _ (.inl q)⟩
  refine codeAny_call_function hr.depth (kin _ _ lk) rfl S.co S.gen rfl (PySem.W.codeRec_of kin hcd) (hb _ _ _ _ (wpAny_newFunctionEnv_cells S.kind par fun env he s1 x => ?_))
  subst he
  obtain ⟨t, ht, hq⟩ := hbody cdv s H vs Q E (hr.deeper _) hsp
  refine ⟨(e0.mod.nolimit.keeps keep).keeps x.toInCall.keep, codeAny_func (wpAny_mono (ht.nox.run [] s1 (L2.start N vs) H _ (inv_start S hr.hd e0 (len _ _ _ _ hsp) r x) hq) (fun fl s' hs => ?_) fun e s' hs => hs)⟩
  cases fl with
  | ret u =>
    obtain ⟨v, σ', H', J, rv, q⟩ := hs
    exact ⟨v, H', J.os, J.bare, J.base, J.hok, rv, q⟩
  | next =>
    obtain ⟨σ', H', J, q⟩ := hs
    exact ⟨V.non, H', J.os, J.bare, J.base, J.hok, rfl, q⟩
  | brk =>
    obtain ⟨_, _, _, q⟩ := hs
    exact False.elim q
  | cont =>
    obtain ⟨_, _, _, q⟩ := hs
    exact False.elim q
end
/-- the goal that k_head leaves, from the law's promise at callerA -/
theorem walk_g {l : PySem.W.OpenLaw} {n : Nat} {q : Program} {loose : List Str} {XP : (Str → Option Value) → Heap → Prop} {YP : World → Heap → Prop} {d : DefRec} {K : Params → PySem.W.Frag} {sp : PySem.W.Frag → Sp} {x : Str}
    (hn : l.most = some n) (hn2 : n ≤ sizeLine) (hdf : d.params.defaults = []) (hY : ∀ (w : World) (h : Heap), YP w h → (K w.params).In h)
    (F : ∀ (w : World) (mg : Str → Option Value) (fa : Addr) (h : Heap), (K w.params).In h → h.Ns mainGlobals mg → mg d.name = some (.ref fa) →
      ∃ fd : FuncData, (∀ (s : Shared) (u : Value), BindsTo s fd ⟨[u], []⟩ [(x, u)]) ∧
        ∀ base : Heap, (K w.params).In base → base.Ns mainGlobals mg → RunAt l.prog w (K w.params) mg base callerA fa fd [x] (sp (K w.params)))
    (hsp : ∀ (K : PySem.W.Frag) (H : Hp) (a : Addr) (ns : List Int), ns.length ≤ n → SqL K H a (ns.map V.int) → sp K [.ref a] H (fun v _ => v = .bl true) fun _ _ _ => False) :
    PySem.W.WalkO q loose XP YP l.row.toRowW d [] (fun f vs => PySem.call f vs) := by
  refine Att.attach_call hn hdf fun w s₀ s₁ mg mb fa o pm cd doc a vs ns G Y ho hd hcd hmg hobj hints hlen hg => ?_
  have KX := hY w _ Y
  obtain ⟨fd, hb, hF⟩ := F w mg fa _ KX G.T.g hmg
  obtain ⟨H, hO, hS, hok, hA⟩ := law_track (P := l.prog) (w := w) KX hobj hints (Nat.le_trans hlen hn2)
  obtain ⟨kin, hns, e0⟩ := law_env KX G.T.g G.T.b G.T.builtins G.T.nolimit hg hobj hok hA
  refine codeAny_mono (hF _ kin hns s₁ H [.ref a] [.ref a] (fun v _ => v = .bl true) (fun _ _ _ => False) e0 (hb s₁ (.ref a)) (.cons rfl .nil) (hsp _ H a ns hlen hS)) fun r s' h => ?_
  cases r with
  | error e => exact False.elim h
  | ok fl =>
    cases fl with
    | next => exact False.elim h
    | brk => exact False.elim h
    | cont => exact False.elim h
    | ret u =>
      obtain ⟨v, H', os, bare, un, hok', rv, hv⟩ := h
      cases (show v = V.bl true from hv)
      cases (show u = Value.bool true from rv)
      refine ⟨rfl, OldK.of_keep fun b o e => ?_, os, bare⟩
      rcases hO b with z | ⟨ob, xs, z⟩
      · exact un.keep b o e z (by intro z; cases (show b ∈ ([] : List Addr) from z)) (by simp)
      · obtain ⟨e1, _⟩ := hok b _ z
        obtain ⟨e2, _⟩ := hok' b _ (un.frzs b ob _ z)
        cases e.symm.trans e1
        exact e2
end Pn

namespace Pn
open PySem PySem.Spec PyProof.Rows L2
/-- the goal that the short head leaves, from the law's promise at callerA -/
theorem walk_gE {l : PySem.W.OpenLaw} {n : Nat} {q : Program} {loose : List Str} {XP : (Str → Option Value) → Heap → Prop} {YP : World → Heap → Prop} {d : DefRec} {x : Str}
    (hn : l.most = some n) (hn2 : n ≤ sizeLine) (hdf : d.params.defaults = [])
    (F : ∀ (w : World) (mg : Str → Option Value) (fa : Addr) (h : Heap), YP w h → h.Ns mainGlobals mg → mg d.name = some (.ref fa) →
      ∃ (K : PySem.W.Frag) (fd : FuncData) (sp : Sp), K.In h ∧ (∀ (s : Shared) (u : Value), BindsTo s fd ⟨[u], []⟩ [(x, u)]) ∧
        (∀ (H : Hp) (a : Addr) (ns : List Int), ns.length ≤ n → SqL K H a (ns.map V.int) → sp [.ref a] H (fun v _ => v = .bl true) fun _ _ _ => False) ∧
        ∀ base : Heap, K.In base → base.Ns mainGlobals mg → RunAt l.prog w K mg base callerA fa fd [x] sp) :
    PySem.W.WalkO q loose XP YP l.row.toRowW d [] (fun f vs => PySem.call f vs) := by
  refine Att.attach_call hn hdf fun w s₀ s₁ mg mb fa o pm cd doc a vs ns G Y ho hd hcd hmg hobj hints hlen hg => ?_
  obtain ⟨K, fd, sp, KX, hb, hsp, hF⟩ := F w mg fa _ Y G.T.g hmg
  obtain ⟨H, hO, hS, hok, hA⟩ := law_track (P := l.prog) (w := w) KX hobj hints (Nat.le_trans hlen hn2)
  obtain ⟨kin, hns, e0⟩ := law_env KX G.T.g G.T.b G.T.builtins G.T.nolimit hg hobj hok hA
  refine codeAny_mono (hF _ kin hns s₁ H [.ref a] [.ref a] (fun v _ => v = .bl true) (fun _ _ _ => False) e0 (hb s₁ (.ref a)) (.cons rfl .nil) (hsp H a ns hlen hS)) fun r s' h => ?_
  cases r with
  | error e => exact False.elim h
  | ok fl =>
    cases fl with
    | next => exact False.elim h
    | brk => exact False.elim h
    | cont => exact False.elim h
    | ret u =>
      obtain ⟨v, H', os, bare, un, hok', rv, hv⟩ := h
      cases (show v = V.bl true from hv)
      cases (show u = Value.bool true from rv)
      refine ⟨rfl, OldK.of_keep fun b o e => ?_, os, bare⟩
      rcases hO b with z | ⟨ob, xs, z⟩
      · exact un.keep b o e z (by intro z; cases (show b ∈ ([] : List Addr) from z)) (by simp)
      · obtain ⟨e1, _⟩ := hok b _ z
        obtain ⟨e2, _⟩ := hok' b _ (un.frzs b ob _ z)
        cases e.symm.trans e1
        exact e2
end Pn

namespace Pn
open PySem PySem.Spec PyProof.Rows L2
/-! ### repr of any data, where no repr is under way -/
section
variable {X : Cx} {pins : List (Addr × Obj)} {σ : L2.St} {H : Hp} {s : Shared}
mutual
theorem dp_reads (I : Inv X pins σ H s) : ∀ (d : PyData) (v : V) (u : Value), Dp X.K H v d → RelV v u → ∃ as, Reads s.heap u d as
  | .none, _, u, h, r => by
    cases h
    cases (show u = Value.none from r)
    exact ⟨_, .none⟩
  | .bool b, _, u, h, r => by
    cases h
    cases (show u = Value.bool b from r)
    exact ⟨_, .bool b⟩
  | .int i, _, u, h, r => by
    cases h
    obtain ⟨t, rfl⟩ := r
    exact ⟨_, .int i t⟩
  | .str x, _, u, h, r => by
    cases h
    obtain ⟨t, rfl⟩ := r
    exact ⟨_, .str x t⟩
  | .list ds, _, u, h, r => by
    cases h with
    | @lst a vs _ sq al =>
      cases (show u = Value.ref a from r)
      obtain ⟨its, rv, ⟨o, n, e, c, dn, dd⟩, _⟩ := I.list sq
      obtain ⟨as, ra⟩ := dpAll_reads I ds _ _ al rv
      exact ⟨_, .list e c dd (by simpa using ra)⟩
  | .tuple ds, _, u, h, r => by
    cases h with
    | @tup a vs _ sq al =>
      cases (show u = Value.ref a from r)
      obtain ⟨its, rv, ⟨o, ho, hcl, n, hd⟩, _⟩ := I.tuple sq
      obtain ⟨as, ra⟩ := dpAll_reads I ds _ _ al rv
      exact ⟨_, .tuple ho hcl hd (by simpa using ra)⟩
  | .dict _, _, _, h, _ => by cases h
theorem dpAll_reads (I : Inv X pins σ H s) : ∀ (ds : List PyData) (vs : List V) (us : List Value), DpAll X.K H vs ds → Vals vs us → ∃ as, ReadsAll s.heap us ds as
  | [], _, us, h, r => by
    cases h
    cases r
    exact ⟨_, .nil⟩
  | d :: ds, _, us, h, r => by
    cases h with
    | cons a b =>
      cases r with
      | cons r1 r2 =>
        obtain ⟨as, x⟩ := dp_reads I d _ _ a r1
        obtain ⟨bs, y⟩ := dpAll_reads I ds _ _ b r2
        exact ⟨_, .cons x y⟩
end
end
section
variable {X : Cx}
/-- data whose repr is told -/
structure Telling (d : PyData) : Prop where
  sh : PyData.showable d = true
  nd : PyData.hasDict d = false
  dp : PyData.depth d ≤ 10
  len : (PyData.shown d).length ≤ sizeLine
@[irreducible] def rReprD (K : PySem.W.Frag) : List V → Hp → VK → Prop := fun xs H Q => ∃ (a : Addr) (d : PyData), xs = [.ref a] ∧ Dp K H (.ref a) d ∧ Telling d ∧ Q (.str (PyData.shown d)) H
theorem call_reprD (hg : X.A.guards = some []) {k : Nat} (hr : Room k X.A) : CallR X (.builtin "repr") (rReprD X.K) := by
  intro pins s σ H xs us Q I r h
  unfold rReprD at h
  obtain ⟨a, d, rfl, hd, T, q⟩ := h
  obtain ⟨u, rfl, ru⟩ := r.one
  cases (show u = Value.ref a from ru)
  obtain ⟨as, rd⟩ := dp_reads I d _ _ hd (show RelV (.ref a) (Value.ref a) from rfl)
  have hu := hr.units
  have dp := T.dp
  refine repr_of_reads' (h₀ := s.heap) (d := d) (as := as) rd T.sh (fun e => by rw [T.nd] at e; cases e) hg (by omega) (fun _ _ e => e) (fun h' u tk hk => ?_) T.len
  exact ⟨.str _, H, I.kept hk, ⟨u, rfl⟩, q⟩
theorem reprD_go {K : PySem.W.Frag} {H : Hp} {a : Addr} {d : PyData} {Q : VK} (hd : Dp K H (.ref a) d) (T : Telling d) (q : Q (.str (PyData.shown d)) H) : rReprD K [.ref a] H Q := by
  unfold rReprD
  exact ⟨a, d, rfl, hd, T, q⟩
end
end Pn

namespace Pn
open PySem PySem.Spec PyProof.Rows L2
/-! ### drawn data is told in few letters -/
theorem leaf_tell : ∀ d ∈ leafD, PyData.showable d = true ∧ PyData.hasDict d = false ∧ (PyData.shown d).length ≤ 20 := by
  have h : leafD.all (fun d => PyData.showable d && (!PyData.hasDict d && decide ((PyData.shown d).length ≤ 20))) = true := by decide +kernel
  intro d hd
  have q := List.all_eq_true.mp h d hd
  rw [Bool.and_eq_true, Bool.and_eq_true] at q
  exact ⟨q.1, by simpa using q.2.1, of_decide_eq_true q.2.2⟩
def Told (B : Nat) (d : PyData) : Prop := PyData.showable d = true ∧ PyData.hasDict d = false ∧ (PyData.shown d).length ≤ B
theorem Told.mono {B B' : Nat} {d : PyData} (h : Told B d) (l : B ≤ B') : Told B' d := ⟨h.1, h.2.1, Nat.le_trans h.2.2 l⟩
theorem tell_all {B : Nat} : ∀ ds : List PyData, (∀ e ∈ ds, Told B e) → PyData.showableAll ds = true ∧ PyData.hasDictAll ds = false ∧ ((PyData.shownAll ds).map (·.length)).sum ≤ ds.length * B
  | [], _ => by simp [PyData.showableAll, PyData.hasDictAll, PyData.shownAll]
  | d :: ds, h => by
    obtain ⟨a, b, c⟩ := tell_all ds fun e he => h e (List.mem_cons_of_mem _ he)
    obtain ⟨a1, b1, c1⟩ := h d List.mem_cons_self
    refine ⟨by simp [PyData.showableAll, a, a1], by simp [PyData.hasDictAll, b, b1], ?_⟩
    have e : (d :: ds).length * B = ds.length * B + B := by rw [List.length_cons, Nat.add_mul, Nat.one_mul]
    simp only [PyData.shownAll, List.map_cons, List.sum_cons]
    omega
theorem tell_list {B : Nat} {ds : List PyData} (h : ∀ e ∈ ds, Told B e) : Told (ds.length * B + 2 * ds.length + 3) (.list ds) := by
  obtain ⟨a, b, c⟩ := tell_all ds h
  have l := listText_len_le (PyData.shownAll ds)
  have n := PyData.shownAll_length ds
  refine ⟨by simpa only [PyData.showable] using a, by simpa only [PyData.hasDict] using b, ?_⟩
  simp only [PyData.shown]
  omega
theorem tell_tup {B : Nat} {ds : List PyData} (h : ∀ e ∈ ds, Told B e) : Told (ds.length * B + 2 * ds.length + 3) (.tuple ds) := by
  obtain ⟨a, b, c⟩ := tell_all ds h
  have l := tupleText_len_le (PyData.shownAll ds)
  have n := PyData.shownAll_length ds
  refine ⟨by simpa only [PyData.showable] using a, by simpa only [PyData.hasDict] using b, ?_⟩
  simp only [PyData.shown]
  omega
theorem dt_tell : ∀ (n : Nat) (d : PyData), Dt n d → Told (27 * 2 ^ n - 7) d
  | 0, d, h => leaf_tell d h
  | n + 1, d, h => by
    have two : 2 ^ (n + 1) = 2 * 2 ^ n := by rw [Nat.pow_succ, Nat.mul_comm]
    have one : 1 ≤ 2 ^ n := Nat.one_le_two_pow
    have key : ∀ ds : List PyData, ds.length ≤ 2 → ds.length * (27 * 2 ^ n - 7) + 2 * ds.length + 3 ≤ 27 * 2 ^ (n + 1) - 7 := fun ds h1 => by
      have m := Nat.mul_le_mul_right (27 * 2 ^ n - 7) h1
      omega
    rcases h with h | ⟨ds, h1, h2, h3⟩
    · exact (leaf_tell d h |> fun z => (show Told 20 d from z)).mono (by omega)
    · rcases h3 with rfl | rfl
      · exact (tell_list fun e he => dt_tell n e (h2 e he)).mono (key ds h1)
      · exact (tell_tup fun e he => dt_tell n e (h2 e he)).mono (key ds h1)
theorem depth_rep {n m : Nat} {d : PyData} (h : PyData.depth d ≤ n) : PyData.depthAll (List.replicate m d) ≤ n := by
  induction m with
  | zero => simp [PyData.depthAll]
  | succ m ih =>
    rw [List.replicate_succ]
    simp only [PyData.depthAll]
    omega
/-- the values ten times -/
theorem telling10 {d : PyData} (h : Dt 4 d) : Telling (.list (List.replicate 10 d)) := by
  have t := dt_tell 4 d h
  have q := tell_list (ds := List.replicate 10 d) (B := 425) fun e he => by rw [(List.mem_replicate.mp he).2]; exact t
  have e := depth_rep (m := 10) (dt_lay 4 d h).2
  exact ⟨q.1, q.2.1, by simp only [PyData.depth]; omega, Nat.le_trans q.2.2 (by rw [List.length_replicate]; decide)⟩
theorem five_told : Told 425 (.int 5) := ⟨by decide +kernel, by decide +kernel, by decide +kernel⟩
/-- the values with 5 behind, twice -/
theorem telling2 {d : PyData} (h : Dt 4 d) : Telling (.list (List.replicate 2 (.list [d, .int 5]))) := by
  have t := dt_tell 4 d h
  have q1 := tell_list (ds := [d, .int 5]) (B := 425) fun e he => by
    rcases List.mem_cons.mp he with rfl | he
    · exact t
    · rw [List.mem_singleton.mp he]
      exact five_told
  have q := tell_list (ds := List.replicate 2 (PyData.list [d, .int 5])) (B := 900) fun e he => by rw [(List.mem_replicate.mp he).2]; exact q1.mono (by show 2 * 425 + 2 * 2 + 3 ≤ 900; decide)
  have d5 : PyData.depth (.list [d, .int 5]) ≤ 5 := by
    have e := (dt_lay 4 d h).2
    simp only [PyData.depth, PyData.depthAll]
    omega
  have e := depth_rep (m := 2) d5
  exact ⟨q.1, q.2.1, by simp only [PyData.depth]; omega, Nat.le_trans q.2.2 (by rw [List.length_replicate]; decide)⟩
theorem dpAll_rep {K : PySem.W.Frag} {H : Hp} {v : V} {d : PyData} (h : Dp K H v d) : ∀ m : Nat, DpAll K H (List.replicate m v) (List.replicate m d)
  | 0 => .nil
  | m + 1 => .cons h (dpAll_rep h m)
theorem dpAll_bools {K : PySem.W.Frag} {H : Hp} : ∀ bs : List Bool, DpAll K H (bs.map V.bl) (bs.map PyData.bool)
  | [] => .nil
  | b :: bs => .cons (.bl b) (dpAll_bools bs)
/-- which one of eleven -/
def at11 (i : Nat) : List Bool := (List.range 11).map fun s => decide (s = i)
theorem at11_ok : ∀ i ∈ List.range 11, SeqAt.shaped (.list ((at11 i).map PyData.bool)) = true ∧ PyData.eqv (.list ((at11 i).map PyData.bool)) (.list ((at11 i).map PyData.bool)) = true := by decide +kernel
end Pn

namespace Pn
open PySem PySem.Spec PyProof.Rows PySem.W PySem.Calls PySem.HandSPX
/-! ### own exceptions over any base whose making is told: made, their first attribute stored -/
/-- the classes above, as far as the making of an exception asks for them -/
structure Above (up : List Value) (B : String) : Prop where
  base : up.contains (.type B) = true
  noA : up.contains (.type "AttributeError") = false
  noN : up.contains (.type "NameError") = false
  obj : up.contains (.type "object") = true
  calm : ∀ me : Value, refuseLoop me "__setattr__" up = pure ()
section
variable {M : Model} {A : Around} {E : Value → Shared → Prop} {hp : Heap} {gs : Array GenState} {dw : Drawn} {tk : Nat} {os : OsState}
variable {cn cq : Str} {C ns : Addr} {bases up upB : List Value} {slots : List Str} {subs : List Value} {abst : Bool} {coll : Option Bool} {own : Option Addr} {z0 z1 z2 z3 z5 : Option Value} {B nid iid : String}
theorem gen_check_new (F : ExcBaseFacts B nid iid upB) (T : Above up B) {args : List Value} {kw : List (Str × Value)} {Q : Unit → Shared → Prop}
    (at_ : hp.get? C = some (excClassObj cn cq C ns bases up true slots subs abst coll own z0 z1 z2 z3 z5 nid)) (q : Q () ⟨hp, gs, dw, tk, os⟩) : wpAny M A (checkBuiltinCall nid ⟨.ref C :: args, kw⟩) Q E ⟨hp, gs, dw, tk, os⟩ := by
  have has : (Value.ref C :: up).contains (.type B) = true := by
    rw [List.contains_cons, T.base, Bool.or_true]
  have notStar := F.noStar
  simp only [checkBuiltinCall, F.newKind, F.newSplit, F.newRow]
  repeat (first
    | refine wpAny_loadPart_at at_ ?_
    | (refine wpAny_isSubtype_exc at_ ?_; rw [has])
    | refine wpAny_staticBase_exc at_ ?_
    | refine wpAny_madeBy_exc at_ ?_
    | simp only [bne_self_eq_false, Bool.false_eq_true, if_false]
    | wp_step)
  exact q
end
section
variable {prog : Program} {w : World} {A : Around} {E : Value → Shared → Prop} {R : Result → Shared → Prop} {hp : Heap} {gs : Array GenState} {dw : Drawn} {tk : Nat} {os : OsState}
variable {cn cq : Str} {C ns : Addr} {bases up upB : List Value} {slots : List Str} {subs : List Value} {abst : Bool} {coll : Option Bool} {own : Option Addr} {z0 z1 z2 z3 z5 : Option Value} {B nid iid : String}
theorem gen_new (F : ExcBaseFacts B nid iid upB) (T : Above up B) {args : List Value} {kw : List (Str × Value)} (at_ : hp.get? C = some (excClassObj cn cq C ns bases up true slots subs abst coll own z0 z1 z2 z3 z5 nid)) (few : args.length ≤ sizeLine)
    (q : R (.ok (.ret (.ref (hp.objs.size + 1)))) ⟨(hp.push (W.kdv_tup args)).push (excO C hp.objs.size), gs, dw, tk, os⟩) : codeAny (model prog w) A (.builtin nid ⟨.ref C :: args, kw⟩) R ⟨hp, gs, dw, tk, os⟩ := by
  have ends := F.ends
  have isB : (Value.ref C :: up).contains (.type B) = true := by
    rw [List.contains_cons, T.base, Bool.or_true]
  have isA : (Value.ref C :: up).contains (.type "AttributeError") = false := by
    rw [List.contains_cons, T.noA]
    rfl
  have isN : (Value.ref C :: up).contains (.type "NameError") = false := by
    rw [List.contains_cons, T.noN]
    rfl
  refine codeAny_builtinAt F.entry ?_
  unfold Builtin.«BaseException.__new__»
  refine PySem.wpAt_bind ?_
  show PySem.wpAt _ _ _ (stack >>= _) _ _ _
  refine PySem.wpAt_bind (PySem.wpAt_stack fun top rest => PySem.wpAt_of_wpAny ?_)
  wp_walk
  refine PySem.wpAt_of_wpAny ?_
  rw [F.owner]
  repeat (first
    | with_reducible refine wpAny_madeHere_exc F.canon at_ ?_
    | with_reducible refine wpAny_loadPart_at at_ ?_
    | (with_reducible refine wpAny_isSubtype_exc at_ ?_; first | rw [isB] | rw [isA] | rw [isN])
    | wp_step)
  show R _ _
  rw [Heap.size_push]
  exact q
theorem gen_type_call (F : ExcBaseFacts B nid iid upB) (T : Above up B) {args : List Value} {kw : List (Str × Value)} {fn : Value} {Q : Fin → Shared → Prop}
    (at_ : hp.get? C = some (excClassObj cn cq C ns bases up true slots subs abst coll own z0 z1 z2 z3 z5 nid)) (ini : W.Looks (model prog w) hp (typeLookup (.ref C) "__init__") (some fn))
    (bnd : ∀ me, W.Looks (model prog w) hp (bindSpecial fn me) (fn, [me])) (few : args.length ≤ sizeLine)
    (go : codeAny (model prog w) A (.call fn ⟨.ref (hp.objs.size + 1) :: args, kw⟩)
      (fun r s2 => match r with
        | .ok (.ret u) => u = .none ∧ Q (.done (.ret (.ref (hp.objs.size + 1)))) s2
        | .ok _ => False
        | .error er => E er s2) ⟨(hp.push (W.kdv_tup args)).push (excO C hp.objs.size), gs, dw, tk, os⟩) :
    wpAny (model prog w) A (Builtin.«type.__call__» ⟨.ref C :: args, kw⟩) Q E ⟨hp, gs, dw, tk, os⟩ := by
  repeat (first
    | with_reducible refine wpAny_loadPart_at at_ ?_
    | with_reducible refine wpAny_madeBy_exc at_ ?_
    | wp_step)
  refine codeAny_call_builtin_code (Code.quiet_builtin _ F.quiet) (gen_check_new F T at_ (gen_new F T at_ few ?_))
  show wpAny _ _ _ _ _ _
  have kept : ∀ b o, hp.get? b = some o → ((hp.push (W.kdv_tup args)).push (excO C hp.objs.size)).get? b = some o := fun b o z => Heap.get?_push_of_some _ (Heap.get?_push_of_some _ z)
  have at2 := kept _ _ at_
  have made : ((hp.push (W.kdv_tup args)).push (excO C hp.objs.size)).get? (hp.objs.size + 1) = some (excO C hp.objs.size) := by
    heap_get
  have self_ : (Value.ref C :: up).contains (.ref C) = true := by
    simp
  have ini2 := ini.keeps kept
  have bnd2 := (bnd (.ref (hp.objs.size + 1))).keeps kept
  unfold isInstance
  repeat (first
    | with_reducible refine wpAny_loadPart_at made ?_
    | (with_reducible refine wpAny_isSubtype_exc at2 ?_; rw [self_])
    | wp_step)
  show wpAny _ _ (typeLookup (.ref C) _) _ _ _
  refine ini2.at ?_
  refine wpAny_holding (wpAny_bind (bnd2.at ?_))
  refine wpAny_bind (wpAny_call (codeAny_mono go fun r s2 z => ?_))
  match r, z with
  | .error er, z => exact z
  | .ok (.ret u), z =>
    obtain ⟨rfl, z⟩ := z
    first
      | exact wpAny_pure (wpAny_pure z)
      | (wp_walk; exact z)
  | .ok .next, z => exact False.elim z
  | .ok .brk, z => exact False.elim z
  | .ok .cont, z => exact False.elim z
theorem gen_call (F : ExcBaseFacts B nid iid upB) (T : Above up B) {args : List Value} {kw : List (Str × Value)} {fn : Value} (at_ : hp.get? C = some (excClassObj cn cq C ns bases up true slots subs abst coll own z0 z1 z2 z3 z5 nid))
    (ini : W.Looks (model prog w) hp (typeLookup (.ref C) "__init__") (some fn)) (bnd : ∀ me, W.Looks (model prog w) hp (bindSpecial fn me) (fn, [me])) (few : args.length ≤ sizeLine)
    (go : codeAny (model prog w) (A.under (.builtin "type.__call__" ⟨.ref C :: args, kw⟩)) (.call fn ⟨.ref (hp.objs.size + 1) :: args, kw⟩) (W.InitBack (hp.objs.size + 1) R) ⟨(hp.push (W.kdv_tup args)).push (excO C hp.objs.size), gs, dw, tk, os⟩) :
    codeAny (model prog w) A (.call (.ref C) ⟨args, kw⟩) R ⟨hp, gs, dw, tk, os⟩ := by
  have a1 := tc_lookup
  have a2 := tc_bind (.ref C)
  have ty : (⟨hp, gs, dw, tk, os⟩ : Shared).TypeIs (.ref C) "type" := ⟨_, at_, rfl⟩
  refine codeAny_of_tree ?_
  show wpAny _ _ (callAny (.ref C) _) _ _ _
  repeat (any_goals (first
    | assumption
    | with_reducible refine wpAny_loadPart_at at_ ?_
    | wp_step))
  refine ⟨rfl, ?_⟩
  refine codeAny_call_builtin_at (Code.quiet_builtin _ (by decide +kernel)) entry_typeCall (wpAny_check_type_call_sub at_ (gen_type_call F T at_ ini bnd few ?_))
  refine codeAny_mono go fun r s2 z => ?_
  match r, z with
  | .error er, z => exact z
  | .ok (.ret u), z => exact z
  | .ok .next, z => exact z
  | .ok .brk, z => exact z
  | .ok .cont, z => exact z
end
end Pn

namespace Pn
open PySem PySem.Spec PyProof.Rows L2
/-! ### own exceptions over any base: attributes stored and read, held as values, raised -/
/-- what the written part tells of such a class -/
structure OexG (K : PySem.W.Frag) (C : Addr) : Prop where
  cls : ∃ (B nid iid : String) (upB : List Value) (cn cq : Str) (ns : Addr) (bases up : List Value) (slots : List Str) (subs : List Value) (abst : Bool) (coll : Option Bool) (own : Option Addr) (z0 z1 z2 z3 z5 : Option Value),
    ExcBaseFacts B nid iid upB ∧ Above up B ∧ K.lookup C = some (excClassObj cn cq C ns bases up true slots subs abst coll own z0 z1 z2 z3 z5 nid)
  sa : PySem.W.findIn K (.ref C) "__setattr__" = some (some (.builtin "object.__setattr__"))
  exC : PySem.W.subIn K (.ref C) (.type "BaseException") = some true
  tyC : PySem.W.typeIn K (.ref C) = some (.type "type")
  kC : PySem.W.keepIn K (.ref C) = true
theorem oexG_of {K : PySem.W.Frag} {C : Addr} (T : OexC K C) : OexG K C := by
  obtain ⟨⟨nm, q, N, bs, bm, sn, sub, ab, col, dd, k0, k1, k2, k3, k5, hC, hm⟩, h1, h2, h3, h4⟩ := T
  refine ⟨⟨_, _, _, _, nm, q, N, bs, bm, sn, sub, ab, col, dd, k0, k1, k2, k3, k5, F.excBase_ValueError, ⟨?_, ?_, ?_, ?_, fun me => PySem.HandSPX.refsVE_pass me _ hm⟩, hC⟩, h1, h2, h3, h4⟩
  all_goals (rw [PySem.HandSPX.refsVE_contains _ _ hm]; decide +kernel)
section
variable {prog : Program} {w : World} {A : Around} {R : Result → Shared → Prop} {hp : Heap} {gs : Array GenState} {dw : Drawn} {tk : Nat} {os : OsState}
open Builtin Builtin.ObjectAttr in
theorem gen_store {K : PySem.W.Frag} {f : Str} {tf : Tok} {u : Value} {e C : Addr} {fv : Array Value} {cd : ClassData} {up : List Value} {B : String} (X : K.In hp) (at_ : hp.get? e = some { cls := .ref C, data := .fields fv }) (lk : PySem.W.clsIn K C = some cd) (mr : cd.mro = .ref C :: up) (T : Above up B) (dct : cd.hasDict = true)
    (no : PySem.W.findIn K (.ref C) f = some none)
    (go : ∀ h2 t2 dx, (∀ b o, b ≠ e → hp.get? b = some o → h2.get? b = some o) → hp.objs.size ≤ dx → dx ≠ e → h2.get? e = some { cls := .ref C, dict := some dx, data := .fields fv } → h2.Ns1 dx (fun y => if y = f then some u else none) → R (.ok (.ret .none)) ⟨h2, gs, dw, t2, os⟩) :
    codeAny (model prog w) A (.call (.builtin "object.__setattr__") ⟨[.ref e, .str f tf, u], []⟩) R ⟨hp, gs, dw, tk, os⟩ := by
  have here : PySem.W.InstAt hp e { cls := .ref C, data := .fields fv } C none := ⟨at_, rfl, rfl, trivial⟩
  have so := F.store_object
  have some_ : cd.mro.isEmpty = false := by rw [mr]; rfl
  have obj_ : cd.mro.contains (.type "object") = true := by rw [mr, List.contains_cons, T.obj, Bool.or_true]
  have calm_ : ∀ me : Value, refuseLoop me "__setattr__" cd.mro = pure () := fun me => by rw [mr, refuseLoop_ref]; exact T.calm me
  have apart : e ≠ hp.objs.size := Nat.ne_of_lt (Heap.lt_size at_)
  have sub_ : PySem.W.Looks (model prog w) hp (isInstance (.ref e) (.type "object")) true := here.type.andThen (PySem.W.looks_mroIn X (by unfold PySem.W.mroIn; rw [lk, Option.bind_some, if_neg (by rw [some_]; decide), obj_]))
  refine codeAny_call_builtin so.slot.plain so.entry (@PySem.W.check_slot (model prog w) _ _ ⟨hp, gs, dw, tk, os⟩ "object.__setattr__" "object" "__setattr__" (.ref e) [.str f tf, u] [] _ so.kind so.split sub_ (so.args (.ref e) (.str f tf) u) ?_)
  have mro_ : PySem.W.Looks (model prog w) hp (mroOf (.ref C)) cd.mro := (PySem.W.looks_clsIn X lk).andThen .now
  have take_ : PySem.W.Looks (model prog w) hp (storeTaker? none) none := .now
  have cls_ : PySem.W.Looks (model prog w) hp (classData C) cd := PySem.W.looks_clsIn X lk
  rw [PySem.W.osa_eq, refuse_eq]
  refine wpAny_bind (wpAny_bind (here.type.at (wpAny_bind (mro_.at ?_))))
  rw [calm_]
  refine wpAny_pure (wpAny_bind (here.type.at (wpAny_bind ((PySem.W.looks_findIn X no).at (wpAny_bind (take_.at ?_))))))
  show wpAny _ _ (storeInOwnDict (.ref e) (.ref C) (.str f tf) f u false) _ _ _
  obtain ⟨c1, c2, c3, c4, c5, c6, c7, c8, c9, d0, d1⟩ := cd
  dsimp only at dct
  subst dct
  unfold storeInOwnDict ownDictForStores
  repeat (first
    | with_reducible refine PySem.HandSPX.store_in_new ?_ ?_
    | with_reducible refine wpAny_loadPart_at at_ ?_
    | with_reducible refine cls_.at ?_
    | wp_step)
  · exact ⟨_, #[], _, (Heap.get?_update_ne _ _ _ _ apart.symm).trans (Heap.get?_push_at rfl rfl), rfl, fun z hz => absurd hz (by simp), fun _ => rfl⟩
  · intro h2 t2 n1 same
    have at2 : (hp.push { cls := .type "dict", data := .dict #[] }).get? e = some { cls := .ref C, data := .fields fv } := Heap.get?_push_of_some _ at_
    refine go h2 t2 hp.objs.size (fun b o nb ob => ?_) (Nat.le_refl _) apart.symm ?_ n1
    · exact (same.2 b (Nat.ne_of_lt (Heap.lt_size ob))).trans ((Heap.get?_update_ne _ _ _ _ nb).trans (Heap.get?_push_of_some _ ob))
    · exact (same.2 e apart).trans (Heap.get?_update_self _ at2 rfl)
end
end Pn

namespace Pn
open PySem PySem.Spec PyProof.Rows L2
section
variable {X : Cx} {pins : List (Addr × Obj)} {σ : L2.St} {H : Hp} {s : Shared} {a C : Addr} {f : Str} {y : V} {u : Value} {Q : Unit → Shared → Prop} {E : Value → Shared → Prop} {A : Around}
/-- the first attribute of an exception -/
theorem gen_set (T : OexG X.K C) (I : Inv X pins σ H s) (at_ : H a = some (exo a C none)) (no : PySem.W.findIn X.K (.ref C) f = some none) (ry : RelV y u)
    (go : ∀ dx s2, H dx = none → dx ≠ a → Inv X pins σ (upd (upd H dx (exd dx [(f, y)])) a (exo a C (some dx))) s2 → Q () s2) : wpAny (model X.prog X.w) A (setAttr (.ref a) f u) Q E s := by
  obtain ⟨B, nid, iid, upB, cn, cq, ns, bases, up, slots, subs, abst, coll, own, z0, z1, z2, z3, z5, F, U, lk⟩ := T.cls
  have cl : PySem.W.clsIn X.K C = some { name := cn, bases := bases, mro := .ref C :: up, ns := ns, qualname := cq, hasDict := true, slotNames := slots, subclasses := subs, abstract := abst, collection := coll, hasDel := false } := by
    unfold PySem.W.clsIn
    rw [lk] <;> rfl
  obtain ⟨t1, here⟩ := exo_at I.hok at_
  obtain ⟨hp, gs, dw, tk, os⟩ := s
  refine PySem.W.set_plain I.kIn (ox := { cls := .ref C, dict := none, data := .fields #[.ref t1, .none, .none, .none, .bool false, .none] }) (od := none) ⟨here, rfl, rfl, trivial⟩ T.sa ?_
  refine gen_store I.kIn here cl rfl U rfl no (fun h2 t2 dx kept big dne me n1 => ?_)
  have hnd : H dx = none := I.hok.fresh big
  have old_ne : ∀ {b : Addr} {o : Obj}, hp.get? b = some o → b ≠ dx := fun {b o} q => Nat.ne_of_lt (Nat.lt_of_lt_of_le (Heap.lt_size q) big)
  have free_ne : ∀ {b : Addr}, H b = none → b ≠ a := fun {b} n z => by
    rw [z, at_] at n
    cases n
  have step : Un X.fs [] H (upd (upd H dx (exd dx [(f, y)])) a (exo a C (some dx))) hp h2 := {
    keep := fun b o q n _ _ => kept b o (free_ne n) q
    slot := fun b o q n _ _ => ⟨o.slots, kept b o (free_ne n) q⟩
    free := fun b o q n _ => by
      rw [upd_ne (free_ne n), upd_ne (old_ne q)]
      exact n
    there := fun b o q _ => by
      by_cases e : b = a
      · exact ⟨_, by rw [e]; exact me⟩
      · exact ⟨o, kept b o e q⟩
    tups := fun b xs q => by
      rw [upd_ne (at_ne at_ q exo_tup), upd_ne (ne_of_none q hnd)]
      exact q
    frzs := fun b o v q => by
      rw [upd_ne (at_ne at_ q exo_frz), upd_ne (ne_of_none q hnd)]
      exact q
    tbls := fun b ps q => ⟨#[], by rw [upd_ne (at_ne at_ q exo_tbl), upd_ne (ne_of_none q hnd), q]; simp⟩ }
  refine go dx _ hnd dne (I.un (t' := t2) step fun b o q => ?_)
  by_cases e : b = a
  · subst e
    rw [upd_same] at q
    cases q
    exact exo_ok me
  rw [upd_ne e] at q
  by_cases e2 : b = dx
  · subst e2
    rw [upd_same] at q
    cases q
    exact exd_ok n1 (relO_put (fs := []) ry fun g => True.intro)
  rw [upd_ne e2] at q
  refine (I.hok b o q).stay (fun c v hc z => kept c v ?_ z) (fun c hc => ?_) (fun c xs hc => ?_)
  · rcases hc with hc | hc
    · rw [hc]
      exact e
    · exact at_ne at_ hc exo_own
  · rw [upd_ne (at_ne at_ hc exo_own), upd_ne (ne_of_none hc hnd)]
    exact hc
  · rw [upd_ne (at_ne at_ hc exo_tup), upd_ne (ne_of_none hc hnd)]
    exact hc
end
/-- self.f = e, the first attribute of an exception -/
def tSetG (K : PySem.W.Frag) (f : Str) (to te : TE) : TS := fun D σ H => te σ H fun y H1 => to σ H1 fun x H2 => ∃ a C : Addr, x = .ref a ∧ OexG K C ∧ PySem.W.findIn K (.ref C) f = some none ∧
  H2 a = some (exo a C none) ∧ ∀ dx, H2 dx = none → dx ≠ a → D.nx σ (upd (upd H2 dx (exd dx [(f, y)])) a (exo a C (some dx)))
section
variable {X : Cx} {o e : Expr} {es : List Expr} {to te : TE} {ta : TA} {f : Str} {p p' p1 p2 pos : Pos}
theorem ps_setG (ho : PE X o to) (he : PE X e te) (hs : swapsWith e (some (.Attribute o f p')) pos.line X.env = pure false := by rfl) : PS X (.Assign [.Attribute o f p'] e pos) (tSetG X.K f to te) := by
  refine ⟨fun pins s σ H D I h => ?_⟩
  refine plainObj_wpAny_Assign_Attribute ?_ hs
  refine thn (he.run pins s σ H _ I h) ?_
  rintro v s1 ⟨y, H1, I1, r1, q1⟩
  refine thn (ho.run pins s1 σ H1 _ I1 q1) ?_
  rintro u s2 ⟨x, H2, I2, r2, a, C, rfl, T, no, at_, q⟩
  obtain rfl : u = Value.ref a := r2
  exact gen_set T I2 at_ no r1 fun dx s' n ne J => ⟨σ, _, J, q dx n ne⟩
end
/-- C(..): the exception, held as a value -/
def tMkG (C : Addr) (sp : Sp) (gV : List V → List V → List V) (ta tk : TA) : TE := fun σ H Q => ta σ H fun vs H1 => tk σ H1 fun zs H2 => vs.length + zs.length ≤ 1000 ∧ ∀ a, H2 a = none → sp (gV (.ref a :: vs) zs) (upd H2 a (exo a C none)) (fun v H3 => v = .non ∧ Q (.ref a) H3) (fun _ _ _ => False)
section
variable {X : Cx} {CX : CXT} {C fI : Addr} {k n : Nat} {fd : FuncData} {ps ks : List Str} {sp : Sp} {ta tk : TA} {g : List Value → List Value → List Value} {gV : List V → List V → List V}
theorem run_mkG {pins : List (Addr × Obj)} {σ : L2.St} {H : Hp} {s : Shared} {Q : VK} {us ws : List Value} {vs zs : List V} (T : OexG X.K C) (iC : PySem.W.findIn X.K (.ref C) "__init__" = some (some (.ref fI))) (tI : PySem.W.typeIn X.K (.ref fI) = some (.type "function"))
    (F1 : FnOk X.prog X.w X.K X.mg X.base CX k fI fd ps sp) (room : Room (k + 1) X.A) (hb : KBn X.K fd ps (n + 1) ks g gV) (noE : Passes CX X (fun _ _ _ => False))
    (I : Inv X pins σ H s) (r : Vals vs us) (rz : Vals zs ws) (l1 : vs.length = n) (l2 : zs.length = ks.length) (few : vs.length ≤ 1000)
    (go : ∀ a, H a = none → sp (gV (.ref a :: vs) zs) (upd H a (exo a C none)) (fun v H3 => v = .non ∧ Q (.ref a) H3) (fun _ _ _ => False)) :
    wpAny (model X.prog X.w) X.A (call (.ref C) us (ks.zip ws)) (EP X pins σ Q) X.xe s := by
  obtain ⟨B, nid, iid, upB, cn, cq, ns, bases, up, slots, subs, abst, coll, own, z0, z1, z2, z3, z5, F, U, lk⟩ := T.cls
  obtain ⟨hp, gs, dw, t, os⟩ := s
  let a := hp.objs.size + 1
  let hp2 := (hp.push (PySem.W.kdv_tup us)).push (PySem.HandSPX.excO C hp.objs.size)
  have old : ∀ b o, hp.get? b = some o → hp2.get? b = some o := fun b o z => Heap.get?_push_of_some _ (Heap.get?_push_of_some _ z)
  have fresh : H a = none := I.hok.fresh (Nat.le_succ _)
  have there : hp2.get? a = some (PySem.HandSPX.excO C hp.objs.size) := by
    show ((hp.push (PySem.W.kdv_tup us)).push (PySem.HandSPX.excO C hp.objs.size)).get? (hp.objs.size + 1) = _
    heap_get
  have J : Inv X pins σ (upd H a (exo a C none)) ⟨hp2, gs, dw, t, os⟩ := I.laid (t' := t) (a := a) (o := exo a C none) (h' := hp2) old (Nat.le_succ _) (exo_ok there)
  have want := go a fresh
  have r1 : Vals (V.ref a :: vs) (Value.ref a :: us) := .cons (show RelV (.ref a) (Value.ref a) from rfl) r
  have r2 := hb.rel r1 rz
  have n1 : (Value.ref a :: us).length = n + 1 := by
    rw [List.length_cons, ← r.length, l1]
  have lim : us.length ≤ sizeLine := by
    rw [← Paired.length r, sizeLine_eq]
    omega
  refine wpAny_call (gen_call F U (I.kIn _ _ lk) (PySem.W.looks_findIn I.kIn iC) (fun me => PySem.W.bind_fn I.kIn me tI) lim ?_)
  have ran := F1.run _ X.stack _ _ ⟨Value.ref a :: us, ks.zip ws⟩ (g (Value.ref a :: us) ws) _ _ (fun _ _ _ => False) (room.make C us (ks.zip ws)) (J.env0.make C us (ks.zip ws)) (hb.to _ (Value.ref a :: us) ws J.kIn n1 (rz.length.symm.trans l2)) r2 want
  refine codeAny_mono ran ?_
  intro rr s' out
  match rr, out with
  | .error er, out => exact noE pins σ _ _ er s' J out
  | .ok .next, out => exact False.elim out
  | .ok .brk, out => exact False.elim out
  | .ok .cont, out => exact False.elim out
  | .ok (.ret u), out =>
    obtain ⟨v, H', I3, rv, ev, q3⟩ := J.after out
    subst ev
    exact ⟨rv, V.ref a, H', I3, rfl, q3⟩
variable {x : Str} {p pos : Pos} {e : Expr} {es : List Expr} {kws : List Keyword}
/-- C(e, ..) -/
theorem pe_mkG (T : OexG X.K C) (iC : PySem.W.findIn X.K (.ref C) "__init__" = some (some (.ref fI))) (tI : PySem.W.typeIn X.K (.ref fI) = some (.type "function"))
    (F1 : FnOk X.prog X.w X.K X.mg X.base CX k fI fd ps sp) (room : Room (k + 1) X.A) (bnd : Binds X.K fd ps []) (noE : Passes CX X (fun _ _ _ => False)) (gl : Gl X x) (at_ : X.mg x = some (.ref C)) (ha : PA X (e :: es) ta)
    (hdb : (x == ("__debug__" : Str)) = false := by decide) (he : starEach (e :: es) X.env = (false, eval e X.env) :: starEach es X.env := by rfl) (hpl : (backTo pos (starEach es X.env)).any (·.1) = false := by rfl) :
    PE X (.Call (.Name x p) (e :: es) [] pos) (fun σ H Q => ta σ H fun vs H1 => vs.length ≤ 1000 ∧ vs.length + 1 = ps.length ∧ ∀ a, H1 a = none → sp (.ref a :: vs) (upd H1 a (exo a C none)) (fun v H3 => v = .non ∧ Q (.ref a) H3) (fun _ _ _ => False)) := by
  refine ⟨fun pins s σ H Q I h => ?_⟩
  refine wpAny_Call_Name_kw ?_
  refine ld_glob I gl at_ ?_ hdb
  refine PySem.W.callWith_K (h₀ := X.base) I.ok.mod.kin T.kC ?_ he hpl
  refine thn (ha.run pos pins s σ H _ I h) ?_
  rintro us s1 ⟨vs, H1, J, rel, few, len, made⟩
  refine ⟨J.kIn, ?_⟩
  have kb : KBn X.K fd ps (vs.length + 1) [] (fun us _ => us) (fun vs _ => vs) := ⟨fun s us ws hK l1 _ => by
    have q := bnd s us hK (by rw [List.append_nil, l1]; exact len)
    rw [List.append_nil] at q
    exact q, fun r1 _ => r1⟩
  exact run_mkG T iC tI F1 room kb noE J rel .nil rfl rfl few made
/-- C(k = e, ..) -/
theorem pe_mkGK (T : OexG X.K C) (iC : PySem.W.findIn X.K (.ref C) "__init__" = some (some (.ref fI))) (tI : PySem.W.typeIn X.K (.ref fI) = some (.type "function"))
    (F1 : FnOk X.prog X.w X.K X.mg X.base CX k fI fd ps sp) (room : Room (k + 1) X.A) (hb : KBn X.K fd ps 1 ks g gV) (noE : Passes CX X (fun _ _ _ => False)) (gl : Gl X x) (at_ : X.mg x = some (.ref C)) (hkw : PK X kws tk)
    (hall : (backToKw pos (keywordEach kws X.env)).all (·.1.isSome) = true := by rfl) (hks : (backToKw pos (keywordEach kws X.env)).filterMap (·.1) = ks := by rfl) (hdb : (x == ("__debug__" : Str)) = false := by decide)
    (hpl : ((backTo pos (starEach [] X.env)).any (·.1) || (backToKw pos (keywordEach kws X.env)).any (·.1.isNone)) = false := by rfl) :
    PE X (.Call (.Name x p) [] kws pos) (fun σ H Q => tk σ H fun zs H1 => zs.length = ks.length ∧ ∀ a, H1 a = none → sp (gV [.ref a] zs) (upd H1 a (exo a C none)) (fun v H3 => v = .non ∧ Q (.ref a) H3) (fun _ _ _ => False)) := by
  refine ⟨fun pins s σ H Q I h => ?_⟩
  refine wpAny_Call_Name_kw ?_
  refine ld_glob I gl at_ ?_ hdb
  refine PySem.W.callWith_KW0 (h₀ := X.base) I.ok.mod.kin T.kC hall ?_ hpl
  refine thn (hkw.run pos pins s σ H _ I h) ?_
  rintro ws s1 ⟨zs, H1, J, rz, len, made⟩
  refine ⟨J.kIn, ?_⟩
  rw [hks]
  exact run_mkG (us := []) (vs := []) T iC tI F1 room hb noE J .nil rz rfl len (Nat.zero_le _) made
end
/-- e.f of an exception that is held -/
def tExf (K : PySem.W.Frag) (f : Str) (te : TE) : TE := fun σ H Q => te σ H fun x H1 => ∃ (a C dx : Addr) (fs : List (Str × V)) (v : V), x = .ref a ∧ H1 a = some (exo a C (some dx)) ∧ H1 dx = some (exd dx fs) ∧ XfC K C ∧ PySem.W.findIn K (.ref C) f = some none ∧ fs.lookup f = some v ∧ Q v H1
theorem pe_exf {X : Cx} {e : Expr} {te : TE} {f : Str} {pos : Pos} (he : PE X e te) (hb : attributeBase e f X.env (eval e X.env) = eval e X.env := by rfl) : PE X (.Attribute e f pos) (tExf X.K f te) := by
  refine ⟨fun pins s σ H Q I h => ?_⟩
  refine attr_of hb (thn (he.run pins s σ H _ I h) fun u s1 out => ?_)
  obtain ⟨x, H1, J, rx, a, C, dx, fs, v, rfl, at_, atd, T, no, l, q⟩ := out
  obtain rfl : u = Value.ref a := rx
  obtain ⟨t1, here⟩ := exo_at J.hok at_
  obtain ⟨mA, ns, rel⟩ := exd_at J.hok atd
  obtain ⟨od, hod, look⟩ := lookIn_ns ns
  have rf : RelO (some v) (mA f) := by
    rw [← l]
    exact rel f
  obtain ⟨uv, hu, ru⟩ := RelO.some_of rf
  have inst : PySem.W.InstAt s1.heap a { cls := .ref C, dict := some dx, data := .fields #[.ref t1, .none, .none, .none, .bool false, .none] } C (some od) := ⟨here, rfl, rfl, hod⟩
  exact HandSPX.exc_get J.kIn inst T.ga T.gg T.exC (PySem.W.findObj_own T.hdC no rfl (by rw [look, hu])) (handed_of ru) ⟨v, H1, J.tok _, ru, q⟩
end Pn

namespace Pn
open PySem PySem.Spec PyProof.Rows L2
/-! ### exceptions without anything of their own; isinstance of exceptions that are held -/
theorem above_VE {bm : List Value} (hm : PySem.HandSPX.refsVE bm = true) : Above bm "ValueError" := by
  refine ⟨?_, ?_, ?_, ?_, fun me => PySem.HandSPX.refsVE_pass me _ hm⟩
  all_goals (rw [PySem.HandSPX.refsVE_contains _ _ hm]; decide +kernel)
theorem ve_init_binds (me : Value) : bindSpecial (.builtin "ValueError.__init__") me = pure (.builtin "ValueError.__init__", [me]) := by
  have n1 : withoutEnding? "ValueError.__init__" "#opaque" = none := by decide +kernel
  have n2 : withoutEnding? "ValueError.__init__" "#data" = none := by decide +kernel
  have kd : builtinKind "ValueError.__init__" = some .slot := by decide +kernel
  simp only [bindSpecial, typeOf, builtinType, n1, n2, kd]
  rfl
section
variable {X : Cx} {C : Addr} {x : Str} {p pos : Pos}
/-- C() -/
theorem pe_mk0 (T : OexC X.K C) (iN : PySem.W.findIn X.K (.ref C) "__init__" = some (some (.builtin "ValueError.__init__"))) (gl : Gl X x) (at_ : X.mg x = some (.ref C)) (hdb : (x == ("__debug__" : Str)) = false := by decide) :
    PE X (.Call (.Name x p) [] [] pos) (fun _ H Q => ∀ a, H a = none → Q (.ref a) (upd H a (exo a C none))) := by
  refine ⟨fun pins s σ H Q I h => ?_⟩
  refine wpAny_Call_Name_kw ?_
  refine ld_glob I gl at_ ?_ hdb
  refine PySem.W.callWith_K0 I.kIn T.kC ?_
  obtain ⟨⟨nm, q, N, bs, bm, sn, sub, ab, col, dd, k0, k1, k2, k3, k5, hC, hbm⟩, _, _, _, _⟩ := T
  have U := above_VE hbm
  have hT := fun Y => PySem.HandSPX.refsVE_contains Y bm hbm
  show wpAny _ _ (call (.ref C) []) _ _ _
  obtain ⟨hp, gs, dw, t, os⟩ := s
  have lk := I.kIn _ _ hC
  let a := hp.objs.size + 1
  let hp2 := (hp.push (PySem.W.kdv_tup [])).push (PySem.HandSPX.excO C hp.objs.size)
  have old : ∀ b o, hp.get? b = some o → hp2.get? b = some o := fun b o z => Heap.get?_push_of_some _ (Heap.get?_push_of_some _ z)
  have fresh : H a = none := I.hok.fresh (Nat.le_succ _)
  have there : hp2.get? a = some (PySem.HandSPX.excO C hp.objs.size) := by
    show ((hp.push (PySem.W.kdv_tup [])).push (PySem.HandSPX.excO C hp.objs.size)).get? (hp.objs.size + 1) = _
    heap_get
  have J : ∀ t, Inv X pins σ (upd H a (exo a C none)) ⟨hp2, gs, dw, t, os⟩ := fun t => I.laid (t' := t) (a := a) (o := exo a C none) (h' := hp2) old (Nat.le_succ _) (exo_ok there)
  refine wpAny_call (gen_call F.excBase_ValueError U lk (PySem.W.looks_findIn I.kIn iN) (fun me => PySem.W.Looks.of_pure (ve_init_binds me)) (Nat.zero_le _) ?_)
  refine PySem.HandSPX.init_base F.excBase_ValueError hT (old _ _ lk) there (Nat.zero_le _) fun h2 t1 kept me => ?_
  have eu : upd (upd H a (exo a C none)) a (exo a C none) = upd H a (exo a C none) := by
    funext c
    by_cases e : c = a
    · rw [e, upd_same, upd_same]
    · rw [upd_ne e]
  refine ⟨rfl, V.ref a, upd H a (exo a C none), ?_, rfl, h a fresh⟩
  have I3 := (J t).write (t' := t) (x := a) (e := a) (o := exo a C none) (by rw [upd_same]; exact True.intro) (.inl rfl) kept ⟨_, me⟩ (exo_ok me)
  rw [eu] at I3
  exact I3
end
/-- isinstance of an exception that is held -/
@[irreducible] def rIsE (K : PySem.W.Frag) : List V → Hp → VK → Prop := fun xs H Q => ∃ (a C : Addr) (d : Option Addr) (c : V) (cv : Value) (b : Bool), xs = [.ref a, c] ∧ H a = some (exo a C d) ∧ (d = none ∨ ∃ dx fs, d = some dx ∧ H dx = some (exd dx fs)) ∧ ExcC K C ∧ ClsV c cv ∧ PySem.W.kitOne K (.ref C) cv = some b ∧ Q (.bl b) H
theorem call_isE {X : Cx} : CallR X (.builtin "isinstance") (rIsE X.K) := by
  intro pins s σ H xs us Q I r h
  unfold rIsE at h
  obtain ⟨a, C, d, c, cv, b, rfl, at_, hd, E, hcv, e, q⟩ := h
  obtain ⟨u1, u2, rfl, r1, r2⟩ := vals2 r
  obtain rfl : u1 = Value.ref a := r1
  obtain rfl : u2 = cv := hcv.eq r2
  obtain ⟨t1, here⟩ := exo_at I.hok at_
  have cl : (PySem.W.clsIn X.K C).isSome = true := by
    have q := E.hd
    unfold PySem.W.hasDictIn at q
    cases z : PySem.W.clsIn X.K C with
    | some cd => rfl
    | none => rw [z] at q; cases q
  have J : ∃ od, PySem.W.InstAt s.heap a { cls := .ref C, dict := d, data := .fields #[.ref t1, .none, .none, .none, .bool false, .none] } C od := by
    rcases hd with rfl | ⟨dx, fs, rfl, atd⟩
    · exact ⟨none, here, rfl, rfl, trivial⟩
    · obtain ⟨mA, ns, _⟩ := exd_at I.hok atd
      obtain ⟨od, ho, _⟩ := lookIn_ns ns
      exact ⟨some od, here, rfl, rfl, ho⟩
  obtain ⟨od, J⟩ := J
  exact PySem.W.kia_one (PySem.W.kitx_exc cl E.hg E.hk E.hs E.ha E.hn E.ht E.hm) I.kIn J e (fun z => nomatch z) fun tk => ⟨.bl b, H, I.tok tk, rfl, q⟩
end Pn

namespace Pn
open PySem PySem.Spec PyProof.Rows L2
abbrev sInvalidRowInit : Stmt := inClass (top 2) 0
abbrev sInvalidPartInit : Stmt := inClass (top 3) 0
abbrev sInvalidBookInit : Stmt := inClass (top 4) 0
abbrev sInvalidFillingInit : Stmt := inClass (top 6) 0
abbrev sInvalidMapInit : Stmt := inClass (top 8) 0
abbrev sInvalidTextInit : Stmt := inClass (top 5) 0
abbrev sInvalidLeavesInit : Stmt := inClass (top 7) 0
abbrev sRefusedInit : Stmt := inClass (top 12) 0
abbrev sNoPlaceInit : Stmt := inClass (top 14) 0
abbrev sNoNameInit : Stmt := inClass (top 13) 0
section
variable {P : Program} {w : World} {K : PySem.W.Frag} {mg : Str → Option Value} {base : Heap}
/-- an own exception class that keeps one thing, over any base -/
structure TExG (K : PySem.W.Frag) (mg : Str → Option Value) (x : Str) (qual fld : Str) (st : Stmt) : Type where
  C : Addr
  fI : Addr
  fd : FuncData
  F : Fun K "__init__" qual st fI fd
  m : mg x = some (.ref C)
  O : OexG K C
  iC : PySem.W.findIn K (.ref C) "__init__" = some (some (.ref fI))
  tI : PySem.W.typeIn K (.ref fI) = some (.type "function")
  noF : PySem.W.findIn K (.ref C) fld = some none
  xf : XfC K C
def TExc.g {x qual fld : Str} {st : Stmt} (T : TExc K mg x qual fld st) : TExG K mg x qual fld st := ⟨T.C, T.fI, T.fd, T.F, T.m, oexG_of T.O, T.iC, T.tI, T.noF, T.xf⟩
def spXG (K : PySem.W.Frag) (fld : Str) : Sp := fun vs H Q _ => ∃ (a C : Addr) (v : V), vs = [.ref a, v] ∧ H a = some (exo a C none) ∧ OexG K C ∧ PySem.W.findIn K (.ref C) fld = some none ∧
  ∀ dx, H dx = none → dx ≠ a → Q .non (upd (upd H dx (exd dx [(fld, v)])) a (exo a C (some dx)))
/-- a made error that keeps v -/
def ErrAt (K : PySem.W.Frag) (H : Hp) (e C : Addr) (fld : Str) (v : V) : Prop := XfC K C ∧ PySem.W.findIn K (.ref C) fld = some none ∧ ∃ dx, H e = some (exo e C (some dx)) ∧ H dx = some (exd dx [(fld, v)])
theorem ErrAt.same {H H' : Hp} {e C : Addr} {fld : Str} {v : V} (s : Same H H') (h : ErrAt K H e C fld v) : ErrAt K H' e C fld v := by
  obtain ⟨a, b, dx, h1, h2⟩ := h
  exact ⟨a, b, dx, s _ _ h1, s _ _ h2⟩
theorem exh_go {x qual fld : Str} {st : Stmt} (T : TExG K mg x qual fld st) {H : Hp} {v : V} {Q : VK} (k : ∀ e H', Same H H' → ErrAt K H' e T.C fld v → Q (.ref e) H') : ∀ a, H a = none → spXG K fld [.ref a, v] (upd H a (exo a T.C none)) (fun z H3 => z = .non ∧ Q (.ref a) H3) (fun _ _ _ => False) := fun a ha => by
  refine ⟨a, T.C, v, rfl, upd_same, T.O, T.noF, fun dx h1 h2 => ⟨rfl, k a _ (fun c o e => ?_) ⟨T.xf, T.noF, dx, upd_same, by rw [upd_ne h2, upd_same]⟩⟩⟩
  have h3 : H dx = none := by rw [upd_ne h2] at h1; exact h1
  have n1 : c ≠ a := ne_of_none e ha
  have n2 : c ≠ dx := ne_of_none e h3
  rw [upd_ne n1, upd_ne n2, upd_ne n1]
  exact e
/-- an error is made with one thing -/
@[irreducible] def tMkE (C : Addr) (sp : Sp) (ps : List Str) (te : TE) : TE := fun σ H Q => te σ H fun u H1 => [u].length ≤ 1000 ∧ [u].length + 1 = ps.length ∧ ∀ a, H1 a = none → sp (.ref a :: [u]) (upd H1 a (exo a C none)) (fun v H3 => v = .non ∧ Q (.ref a) H3) (fun _ _ _ => False)
theorem pe_mkE {X : Cx} {CX : CXT} {C fI : Addr} {k : Nat} {fd : FuncData} {ps : List Str} {sp : Sp} {te : TE} {x : Str} {p pos : Pos} {e : Expr} (T : OexG X.K C) (iC : PySem.W.findIn X.K (.ref C) "__init__" = some (some (.ref fI))) (tI : PySem.W.typeIn X.K (.ref fI) = some (.type "function"))
    (F1 : FnOk X.prog X.w X.K X.mg X.base CX k fI fd ps sp) (room : Room (k + 1) X.A) (bnd : Binds X.K fd ps []) (noE : Passes CX X (fun _ _ _ => False)) (gl : Gl X x) (at_ : X.mg x = some (.ref C)) (he' : PE X e te)
    (hdb : (x == ("__debug__" : Str)) = false := by decide) (he : starEach [e] X.env = (false, eval e X.env) :: starEach [] X.env := by rfl) (hpl : (backTo pos (starEach [] X.env)).any (·.1) = false := by rfl) : PE X (.Call (.Name x p) [e] [] pos) (tMkE C sp ps te) := by
  unfold tMkE
  exact pe_mkG T iC tI F1 room bnd noE gl at_ (pa_cons he' pa_nil he) hdb he hpl
theorem mkE_go {x qual fld : Str} {st : Stmt} (T : TExG K mg x qual fld st) {ps : List Str} {te : TE} {σ : L2.St} {H : Hp} {v : V} {Q : VK} (h0 : ∀ R : VK, R v H → te σ H R) (hn : ps.length = 2) (k : ∀ e H', Same H H' → ErrAt K H' e T.C fld v → Q (.ref e) H') : tMkE T.C (spXG K fld) ps te σ H Q := by
  unfold tMkE
  exact h0 _ ⟨Nat.succ_le_succ (Nat.zero_le _), hn.symm, exh_go T k⟩
/-- the field is read -/
theorem exf_go {te : TE} {fld : Str} {σ : L2.St} {H : Hp} {e C : Addr} {v : V} {Q : VK} (h0 : ∀ R : VK, R (.ref e) H → te σ H R) (h : ErrAt K H e C fld v) (q : Q v H) : tExf K fld te σ H Q := by
  obtain ⟨a, b, dx, h1, h2⟩ := h
  exact h0 _ ⟨e, C, dx, [(fld, v)], v, rfl, h1, h2, a, b, by rw [lookup_put, if_pos rfl], q⟩
theorem scEInvalidRow : FnScope ["self", "word"] ["self", "word"] (defScope sInvalidRowInit) := ⟨rfl, rfl, rfl, by decide +kernel, rfl, by decide +kernel, by decide +kernel⟩
theorem okEInvalidRow (T : TExG K mg "InvalidRow" "InvalidRow.__init__" "word" sInvalidRowInit) : FnOk P w K mg base CX0 1 T.fI T.fd ["self", "word"] (spXG K "word") := by
  refine T.F.ok scEInvalidRow (fun vs H Q E h => ?_) (fun cdv A outer s H vs Q E hr h => ?_)
  · obtain ⟨a, C, v, rfl, _⟩ := h
    rfl
  · obtain ⟨a, C, v, rfl, ha, O, no, q⟩ := h
    refine ⟨_, pss_one (ps_setG (pv 0) (pv 1)), ?_⟩
    exact ⟨_, rfl, _, rfl, a, C, rfl, O, no, ha, fun dx h1 h2 => q dx h1 h2⟩
theorem bEInvalidRow (T : TExG K mg "InvalidRow" "InvalidRow.__init__" "word" sInvalidRowInit) : Binds K T.fd ["self", "word"] [] := T.F.binds (ps := ["self", "word"]) fun _ _ _ _ _ _ us hl => match us, hl with | [_, _], _ => rfl
theorem scEInvalidPart : FnScope ["self", "word"] ["self", "word"] (defScope sInvalidPartInit) := ⟨rfl, rfl, rfl, by decide +kernel, rfl, by decide +kernel, by decide +kernel⟩
theorem okEInvalidPart (T : TExG K mg "InvalidPart" "InvalidPart.__init__" "word" sInvalidPartInit) : FnOk P w K mg base CX0 1 T.fI T.fd ["self", "word"] (spXG K "word") := by
  refine T.F.ok scEInvalidPart (fun vs H Q E h => ?_) (fun cdv A outer s H vs Q E hr h => ?_)
  · obtain ⟨a, C, v, rfl, _⟩ := h
    rfl
  · obtain ⟨a, C, v, rfl, ha, O, no, q⟩ := h
    refine ⟨_, pss_one (ps_setG (pv 0) (pv 1)), ?_⟩
    exact ⟨_, rfl, _, rfl, a, C, rfl, O, no, ha, fun dx h1 h2 => q dx h1 h2⟩
theorem bEInvalidPart (T : TExG K mg "InvalidPart" "InvalidPart.__init__" "word" sInvalidPartInit) : Binds K T.fd ["self", "word"] [] := T.F.binds (ps := ["self", "word"]) fun _ _ _ _ _ _ us hl => match us, hl with | [_, _], _ => rfl
theorem scEInvalidBook : FnScope ["self", "word"] ["self", "word"] (defScope sInvalidBookInit) := ⟨rfl, rfl, rfl, by decide +kernel, rfl, by decide +kernel, by decide +kernel⟩
theorem okEInvalidBook (T : TExG K mg "InvalidBook" "InvalidBook.__init__" "word" sInvalidBookInit) : FnOk P w K mg base CX0 1 T.fI T.fd ["self", "word"] (spXG K "word") := by
  refine T.F.ok scEInvalidBook (fun vs H Q E h => ?_) (fun cdv A outer s H vs Q E hr h => ?_)
  · obtain ⟨a, C, v, rfl, _⟩ := h
    rfl
  · obtain ⟨a, C, v, rfl, ha, O, no, q⟩ := h
    refine ⟨_, pss_one (ps_setG (pv 0) (pv 1)), ?_⟩
    exact ⟨_, rfl, _, rfl, a, C, rfl, O, no, ha, fun dx h1 h2 => q dx h1 h2⟩
theorem bEInvalidBook (T : TExG K mg "InvalidBook" "InvalidBook.__init__" "word" sInvalidBookInit) : Binds K T.fd ["self", "word"] [] := T.F.binds (ps := ["self", "word"]) fun _ _ _ _ _ _ us hl => match us, hl with | [_, _], _ => rfl
theorem scEInvalidFilling : FnScope ["self", "word"] ["self", "word"] (defScope sInvalidFillingInit) := ⟨rfl, rfl, rfl, by decide +kernel, rfl, by decide +kernel, by decide +kernel⟩
theorem okEInvalidFilling (T : TExG K mg "InvalidFilling" "InvalidFilling.__init__" "word" sInvalidFillingInit) : FnOk P w K mg base CX0 1 T.fI T.fd ["self", "word"] (spXG K "word") := by
  refine T.F.ok scEInvalidFilling (fun vs H Q E h => ?_) (fun cdv A outer s H vs Q E hr h => ?_)
  · obtain ⟨a, C, v, rfl, _⟩ := h
    rfl
  · obtain ⟨a, C, v, rfl, ha, O, no, q⟩ := h
    refine ⟨_, pss_one (ps_setG (pv 0) (pv 1)), ?_⟩
    exact ⟨_, rfl, _, rfl, a, C, rfl, O, no, ha, fun dx h1 h2 => q dx h1 h2⟩
theorem bEInvalidFilling (T : TExG K mg "InvalidFilling" "InvalidFilling.__init__" "word" sInvalidFillingInit) : Binds K T.fd ["self", "word"] [] := T.F.binds (ps := ["self", "word"]) fun _ _ _ _ _ _ us hl => match us, hl with | [_, _], _ => rfl
theorem scEInvalidMap : FnScope ["self", "word"] ["self", "word"] (defScope sInvalidMapInit) := ⟨rfl, rfl, rfl, by decide +kernel, rfl, by decide +kernel, by decide +kernel⟩
theorem okEInvalidMap (T : TExG K mg "InvalidMap" "InvalidMap.__init__" "word" sInvalidMapInit) : FnOk P w K mg base CX0 1 T.fI T.fd ["self", "word"] (spXG K "word") := by
  refine T.F.ok scEInvalidMap (fun vs H Q E h => ?_) (fun cdv A outer s H vs Q E hr h => ?_)
  · obtain ⟨a, C, v, rfl, _⟩ := h
    rfl
  · obtain ⟨a, C, v, rfl, ha, O, no, q⟩ := h
    refine ⟨_, pss_one (ps_setG (pv 0) (pv 1)), ?_⟩
    exact ⟨_, rfl, _, rfl, a, C, rfl, O, no, ha, fun dx h1 h2 => q dx h1 h2⟩
theorem bEInvalidMap (T : TExG K mg "InvalidMap" "InvalidMap.__init__" "word" sInvalidMapInit) : Binds K T.fd ["self", "word"] [] := T.F.binds (ps := ["self", "word"]) fun _ _ _ _ _ _ us hl => match us, hl with | [_, _], _ => rfl
theorem scEInvalidText : FnScope ["self", "at"] ["self", "at"] (defScope sInvalidTextInit) := ⟨rfl, rfl, rfl, by decide +kernel, rfl, by decide +kernel, by decide +kernel⟩
theorem okEInvalidText (T : TExG K mg "InvalidText" "InvalidText.__init__" "at" sInvalidTextInit) : FnOk P w K mg base CX0 1 T.fI T.fd ["self", "at"] (spXG K "at") := by
  refine T.F.ok scEInvalidText (fun vs H Q E h => ?_) (fun cdv A outer s H vs Q E hr h => ?_)
  · obtain ⟨a, C, v, rfl, _⟩ := h
    rfl
  · obtain ⟨a, C, v, rfl, ha, O, no, q⟩ := h
    refine ⟨_, pss_one (ps_setG (pv 0) (pv 1)), ?_⟩
    exact ⟨_, rfl, _, rfl, a, C, rfl, O, no, ha, fun dx h1 h2 => q dx h1 h2⟩
theorem bEInvalidText (T : TExG K mg "InvalidText" "InvalidText.__init__" "at" sInvalidTextInit) : Binds K T.fd ["self", "at"] [] := T.F.binds (ps := ["self", "at"]) fun _ _ _ _ _ _ us hl => match us, hl with | [_, _], _ => rfl
theorem scEInvalidLeaves : FnScope ["self", "at"] ["self", "at"] (defScope sInvalidLeavesInit) := ⟨rfl, rfl, rfl, by decide +kernel, rfl, by decide +kernel, by decide +kernel⟩
theorem okEInvalidLeaves (T : TExG K mg "InvalidLeaves" "InvalidLeaves.__init__" "at" sInvalidLeavesInit) : FnOk P w K mg base CX0 1 T.fI T.fd ["self", "at"] (spXG K "at") := by
  refine T.F.ok scEInvalidLeaves (fun vs H Q E h => ?_) (fun cdv A outer s H vs Q E hr h => ?_)
  · obtain ⟨a, C, v, rfl, _⟩ := h
    rfl
  · obtain ⟨a, C, v, rfl, ha, O, no, q⟩ := h
    refine ⟨_, pss_one (ps_setG (pv 0) (pv 1)), ?_⟩
    exact ⟨_, rfl, _, rfl, a, C, rfl, O, no, ha, fun dx h1 h2 => q dx h1 h2⟩
theorem bEInvalidLeaves (T : TExG K mg "InvalidLeaves" "InvalidLeaves.__init__" "at" sInvalidLeavesInit) : Binds K T.fd ["self", "at"] [] := T.F.binds (ps := ["self", "at"]) fun _ _ _ _ _ _ us hl => match us, hl with | [_, _], _ => rfl
theorem scERefused : FnScope ["self", "at"] ["self", "at"] (defScope sRefusedInit) := ⟨rfl, rfl, rfl, by decide +kernel, rfl, by decide +kernel, by decide +kernel⟩
theorem okERefused (T : TExG K mg "Refused" "Refused.__init__" "at" sRefusedInit) : FnOk P w K mg base CX0 1 T.fI T.fd ["self", "at"] (spXG K "at") := by
  refine T.F.ok scERefused (fun vs H Q E h => ?_) (fun cdv A outer s H vs Q E hr h => ?_)
  · obtain ⟨a, C, v, rfl, _⟩ := h
    rfl
  · obtain ⟨a, C, v, rfl, ha, O, no, q⟩ := h
    refine ⟨_, pss_one (ps_setG (pv 0) (pv 1)), ?_⟩
    exact ⟨_, rfl, _, rfl, a, C, rfl, O, no, ha, fun dx h1 h2 => q dx h1 h2⟩
theorem bERefused (T : TExG K mg "Refused" "Refused.__init__" "at" sRefusedInit) : Binds K T.fd ["self", "at"] [] := T.F.binds (ps := ["self", "at"]) fun _ _ _ _ _ _ us hl => match us, hl with | [_, _], _ => rfl
theorem scENoPlace : FnScope ["self", "at"] ["self", "at"] (defScope sNoPlaceInit) := ⟨rfl, rfl, rfl, by decide +kernel, rfl, by decide +kernel, by decide +kernel⟩
theorem okENoPlace (T : TExG K mg "NoPlace" "NoPlace.__init__" "at" sNoPlaceInit) : FnOk P w K mg base CX0 1 T.fI T.fd ["self", "at"] (spXG K "at") := by
  refine T.F.ok scENoPlace (fun vs H Q E h => ?_) (fun cdv A outer s H vs Q E hr h => ?_)
  · obtain ⟨a, C, v, rfl, _⟩ := h
    rfl
  · obtain ⟨a, C, v, rfl, ha, O, no, q⟩ := h
    refine ⟨_, pss_one (ps_setG (pv 0) (pv 1)), ?_⟩
    exact ⟨_, rfl, _, rfl, a, C, rfl, O, no, ha, fun dx h1 h2 => q dx h1 h2⟩
theorem bENoPlace (T : TExG K mg "NoPlace" "NoPlace.__init__" "at" sNoPlaceInit) : Binds K T.fd ["self", "at"] [] := T.F.binds (ps := ["self", "at"]) fun _ _ _ _ _ _ us hl => match us, hl with | [_, _], _ => rfl
theorem scENoName : FnScope ["self", "name"] ["self", "name"] (defScope sNoNameInit) := ⟨rfl, rfl, rfl, by decide +kernel, rfl, by decide +kernel, by decide +kernel⟩
theorem okENoName (T : TExG K mg "NoName" "NoName.__init__" "name" sNoNameInit) : FnOk P w K mg base CX0 1 T.fI T.fd ["self", "name"] (spXG K "name") := by
  refine T.F.ok scENoName (fun vs H Q E h => ?_) (fun cdv A outer s H vs Q E hr h => ?_)
  · obtain ⟨a, C, v, rfl, _⟩ := h
    rfl
  · obtain ⟨a, C, v, rfl, ha, O, no, q⟩ := h
    refine ⟨_, pss_one (ps_setG (pv 0) (pv 1)), ?_⟩
    exact ⟨_, rfl, _, rfl, a, C, rfl, O, no, ha, fun dx h1 h2 => q dx h1 h2⟩
theorem bENoName (T : TExG K mg "NoName" "NoName.__init__" "name" sNoNameInit) : Binds K T.fd ["self", "name"] [] := T.F.binds (ps := ["self", "name"]) fun _ _ _ _ _ _ us hl => match us, hl with | [_, _], _ => rfl
@[irreducible] def tExK (K : PySem.W.Frag) (f : Str) (te : TE) : TE := tExf K f te
theorem pe_exk {X : Cx} {e : Expr} {te : TE} {f : Str} {pos : Pos} (he : PE X e te) (hb : attributeBase e f X.env (eval e X.env) = eval e X.env := by rfl) : PE X (.Attribute e f pos) (tExK X.K f te) := by
  unfold tExK
  exact pe_exf he hb
theorem exk_go {te : TE} {fld : Str} {σ : L2.St} {H : Hp} {e C : Addr} {v : V} {Q : VK} (h0 : ∀ R : VK, R (.ref e) H → te σ H R) (h : ErrAt K H e C fld v) (q : Q v H) : tExK K fld te σ H Q := by
  unfold tExK
  exact exf_go h0 h q
theorem exk_go2 {te : TE} {fld : Str} {σ : L2.St} {H : Hp} {v : V} {Q : VK} (h0 : ∀ R : VK, (∀ e C H', Same H H' → ErrAt K H' e C fld v → R (.ref e) H') → te σ H R) (q : ∀ H', Same H H' → Q v H') : tExK K fld te σ H Q := by
  unfold tExK
  refine h0 _ fun e C H' s h => ?_
  obtain ⟨a, b, dx, h1, h2⟩ := h
  exact ⟨e, C, dx, [(fld, v)], v, rfl, h1, h2, a, b, by rw [lookup_put, if_pos rfl], q H' s⟩
end
end Pn

namespace Pn
open PySem PySem.Spec PyProof.Rows L2 TL
abbrev sMade1 : Stmt := top 21
abbrev sSorts : Stmt := top 22
abbrev sLaw1 : Stmt := top 23
/-- the kit of eleven classes, none below another -/
def kit11 (K : PySem.W.Frag) (cs : List Addr) : Bool := (List.range 11).all fun i => (List.range 11).all fun j => match cs[i]?, cs[j]? with
  | some a, some b => decide (PySem.W.kitOne K (.ref a) (.ref b) = some (decide (j = i)))
  | _, _ => false
theorem kit11_ok {K : PySem.W.Frag} {cs : List Addr} (h : kit11 K cs = true) {i j : Nat} {a b : Addr} (hi : i < 11) (hj : j < 11) (ha : cs[i]? = some a) (hb : cs[j]? = some b) : PySem.W.kitOne K (.ref a) (.ref b) = some (decide (j = i)) := by
  have q := List.all_eq_true.mp (List.all_eq_true.mp h i (List.mem_range.mpr hi)) j (List.mem_range.mpr hj)
  rw [ha, hb] at q
  exact of_decide_eq_true q
section
variable {P : Program} {w : World} {K : PySem.W.Frag} {mg : Str → Option Value} {base : Heap}
/-- an own exception class without anything of its own -/
structure TZ (K : PySem.W.Frag) (mg : Str → Option Value) (x : Str) : Type where
  C : Addr
  O : OexC K C
  iN : PySem.W.findIn K (.ref C) "__init__" = some (some (.builtin "ValueError.__init__"))
  m : mg x = some (.ref C)
  E : ExcC K C
structure TE01 (K : PySem.W.Frag) (mg : Str → Option Value) : Type where
  D : TAny K mg
  x0 : TExG K mg "InvalidRow" "InvalidRow.__init__" "word" sInvalidRowInit
  e0 : ExcC K x0.C
  x1 : TExG K mg "InvalidPart" "InvalidPart.__init__" "word" sInvalidPartInit
  e1 : ExcC K x1.C
  x2 : TExG K mg "InvalidBook" "InvalidBook.__init__" "word" sInvalidBookInit
  e2 : ExcC K x2.C
  x3 : TExG K mg "InvalidFilling" "InvalidFilling.__init__" "word" sInvalidFillingInit
  e3 : ExcC K x3.C
  x4 : TExG K mg "InvalidMap" "InvalidMap.__init__" "word" sInvalidMapInit
  e4 : ExcC K x4.C
  x5 : TExG K mg "InvalidText" "InvalidText.__init__" "at" sInvalidTextInit
  e5 : ExcC K x5.C
  x6 : TExG K mg "InvalidLeaves" "InvalidLeaves.__init__" "at" sInvalidLeavesInit
  e6 : ExcC K x6.C
  x7 : TExG K mg "Refused" "Refused.__init__" "at" sRefusedInit
  e7 : ExcC K x7.C
  x8 : TExG K mg "NoPlace" "NoPlace.__init__" "at" sNoPlaceInit
  e8 : ExcC K x8.C
  x9 : TExG K mg "NoName" "NoName.__init__" "name" sNoNameInit
  e9 : ExcC K x9.C
  z0 : TZ K mg "InvalidFault"
  z1 : TZ K mg "InvalidCommand"
  z2 : TZ K mg "Mismatch"
  cN : Addr
  mN : mg "NoteError" = some (.ref cN)
  mVE : mg "ValueError" = none
  mIE : mg "IndexError" = none
  mKE : mg "KeyError" = none
  mLen : mg "len" = none
  mMax : mg "max" = none
  mMin : mg "min" = none
  mR : mg "range" = none
  mEnum : mg "enumerate" = none
  mIsi : mg "isinstance" = none
  mRepr : mg "repr" = none
  kit : kit11 K [x0.C, x1.C, x2.C, x3.C, x4.C, x5.C, x6.C, x7.C, z0.C, z1.C, z2.C] = true
  kN : ∀ C ∈ [x0.C, x1.C, x2.C, x3.C, x4.C, x5.C, x6.C, x7.C], PySem.W.kitOne K (.ref C) (.ref cN) = some true ∧ PySem.W.kitOne K (.ref C) (.type "ValueError") = some true
  kP : PySem.W.kitOne K (.ref x8.C) (.ref cN) = some false ∧ PySem.W.kitOne K (.ref x8.C) (.type "IndexError") = some true
  kA : PySem.W.kitOne K (.ref x9.C) (.ref cN) = some false ∧ PySem.W.kitOne K (.ref x9.C) (.type "KeyError") = some true
  made : At K mg "_law_made" sMade1 ["_law_value"]
  sorts : At K mg "_law_sorts" sSorts ["_law_error"]
def TE01.c8 (T : TE01 K mg) : List Addr := [T.x0.C, T.x1.C, T.x2.C, T.x3.C, T.x4.C, T.x5.C, T.x6.C, T.x7.C]
def TE01.c10 (T : TE01 K mg) : List Addr := [T.x0.C, T.x1.C, T.x2.C, T.x3.C, T.x4.C, T.x5.C, T.x6.C, T.x7.C, T.x8.C, T.x9.C]
def TE01.c11 (T : TE01 K mg) : List Addr := [T.x0.C, T.x1.C, T.x2.C, T.x3.C, T.x4.C, T.x5.C, T.x6.C, T.x7.C, T.z0.C, T.z1.C, T.z2.C]
theorem TE01.ex8 (T : TE01 K mg) : ∀ C ∈ T.c8, ExcC K C := by
  intro C h
  simp only [TE01.c8, List.mem_cons, List.not_mem_nil, or_false] at h
  rcases h with rfl | rfl | rfl | rfl | rfl | rfl | rfl | rfl
  · exact T.e0
  · exact T.e1
  · exact T.e2
  · exact T.e3
  · exact T.e4
  · exact T.e5
  · exact T.e6
  · exact T.e7
theorem TE01.ex11 (T : TE01 K mg) : ∀ C ∈ T.c11, ExcC K C := by
  intro C h
  simp only [TE01.c11, List.mem_cons, List.not_mem_nil, or_false] at h
  rcases h with rfl | rfl | rfl | rfl | rfl | rfl | rfl | rfl | rfl | rfl | rfl
  · exact T.e0
  · exact T.e1
  · exact T.e2
  · exact T.e3
  · exact T.e4
  · exact T.e5
  · exact T.e6
  · exact T.e7
  · exact T.z0.E
  · exact T.z1.E
  · exact T.z2.E
/-- a tuple of an error of the class and of what it keeps -/
def HeldAt (v : V) (H : Hp) (t C : Addr) : Prop := ∃ (e dx : Addr) (fs : List (Str × V)), H t = some (.tup [.ref e, v]) ∧ H e = some (exo e C (some dx)) ∧ H dx = some (exd dx fs)
theorem exo_lst {e C : Addr} {d : Option Addr} (xs : List V) : exo e C d ≠ HO.lst xs := fun z => by
  unfold exo at z
  cases z
theorem exd_lst {dx : Addr} {fs : List (Str × V)} (xs : List V) : exd dx fs ≠ HO.lst xs := fun z => by
  unfold exd at z
  cases z
theorem HeldAt.same {v : V} {H H' : Hp} {t C : Addr} (s : SameN H H') (h : HeldAt v H t C) : HeldAt v H' t C := by
  obtain ⟨e, dx, fs, h1, h2, h3⟩ := h
  exact ⟨e, dx, fs, s _ _ h1 (fun _ z => nomatch z), s _ _ h2 exo_lst, s _ _ h3 exd_lst⟩
theorem ErrAt.held {H Hi : Hp} {e C : Addr} {fld : Str} {v : V} (h : ErrAt K H e C fld v) (s : Same H Hi) {t : Addr} (ht : Hi t = none) : HeldAt v (upd Hi t (.tup [.ref e, v])) t C := by
  obtain ⟨_, _, dx, h1, h2⟩ := h
  exact ⟨e, dx, _, upd_same, Same.new ht _ _ (s _ _ h1), Same.new ht _ _ (s _ _ h2)⟩
def spMade1 (T : TE01 K mg) : Sp := fun vs H Q _ => ∃ v : V, vs = [v] ∧ ∀ (l : Addr) (ts : List Addr) (H' : Hp), H l = none → Same H H' → H' l = some (.lst (ts.map V.ref)) → Paired (HeldAt v H') ts T.c10 → Q (.ref l) H'
theorem scMade1 : FnScope ["_law_value", "_law_words", "_law_found", "_law_places", "_law_error"] ["_law_value"] (defScope sMade1) := ⟨rfl, rfl, rfl, by decide +kernel, rfl, by decide +kernel, by decide +kernel⟩
theorem ok_made1 (T : TE01 K mg) : FnOk P w K mg base CX0 3 T.made.f T.made.fd ["_law_value"] (spMade1 T) := by
  refine T.made.F.ok scMade1 (fun vs H Q E h => ?_) (fun cdv A outer s H vs Q E hr h => ?_)
  · obtain ⟨v, rfl, _⟩ := h
    rfl
  · obtain ⟨v, rfl, q⟩ := h
    have o1 : (1 : Nat) ≤ 1000 := by decide
    have two : 2 ≤ sizeLine := by decide
    refine ⟨_, (pss_cons (ps_set (i := 1) scMade1.nd rfl (Or.inl rfl) (pe_lst (pa_cons (pe_mkE T.x0.O T.x0.iC T.x0.tI (okEInvalidRow T.x0) (hr.mono (by decide)) (bEInvalidRow T.x0) pass0 rfl T.x0.m (pv 0)) (pa_cons (pe_mkE T.x1.O T.x1.iC T.x1.tI (okEInvalidPart T.x1) (hr.mono (by decide)) (bEInvalidPart T.x1) pass0 rfl T.x1.m (pv 0)) (pa_cons (pe_mkE T.x2.O T.x2.iC T.x2.tI (okEInvalidBook T.x2) (hr.mono (by decide)) (bEInvalidBook T.x2) pass0 rfl T.x2.m (pv 0)) (pa_cons (pe_mkE T.x3.O T.x3.iC T.x3.tI (okEInvalidFilling T.x3) (hr.mono (by decide)) (bEInvalidFilling T.x3) pass0 rfl T.x3.m (pv 0)) (pa_cons (pe_mkE T.x4.O T.x4.iC T.x4.tI (okEInvalidMap T.x4) (hr.mono (by decide)) (bEInvalidMap T.x4) pass0 rfl T.x4.m (pv 0)) pa_nil)))))))
(pss_cons (ps_setLc (i := 2) (own := [("_law_error", 4)]) (g := gName 4) (tt := tYes) (by rfl) scMade1.nd rfl rfl (sw_true rfl rfl rfl (by decide +kernel)) (pi_list (pv 1))
 (blkOk_by (N := ["_law_value", "_law_words", "_law_found", "_law_places", "_law_error"]) (sc := defScope sMade1) (by decide +kernel)) (fun _ _ _ _ _ => (pg_name (i := 4) scMade1.nd rfl (Or.inl rfl))) (fun _ _ _ _ _ => pts_nil) (fun _ _ _ _ _ => (pe_tup (pa_cons (pv 4) (pa_cons (show PE _ _ (tExK K "word" (tVar 4)) from pe_exk (pv 4)) pa_nil)))))
(pss_cons (ps_set (i := 3) scMade1.nd rfl (Or.inl rfl) (pe_lst (pa_cons (pe_mkE T.x5.O T.x5.iC T.x5.tI (okEInvalidText T.x5) (hr.mono (by decide)) (bEInvalidText T.x5) pass0 rfl T.x5.m (pv 0)) (pa_cons (pe_mkE T.x6.O T.x6.iC T.x6.tI (okEInvalidLeaves T.x6) (hr.mono (by decide)) (bEInvalidLeaves T.x6) pass0 rfl T.x6.m (pv 0)) (pa_cons (pe_mkE T.x7.O T.x7.iC T.x7.tI (okERefused T.x7) (hr.mono (by decide)) (bERefused T.x7) pass0 rfl T.x7.m (pv 0)) (pa_cons (pe_mkE T.x8.O T.x8.iC T.x8.tI (okENoPlace T.x8) (hr.mono (by decide)) (bENoPlace T.x8) pass0 rfl T.x8.m (pv 0)) pa_nil))))))
(pss_one (ps_ret (pe_op op_cat (pe_op op_cat (pv 2) (pe_lc (own := [("_law_error", 4)]) (g := gName 4) (tt := tYes) (by rfl) scMade1.nd (pi_list (pv 3))
 (blkOk_by (N := ["_law_value", "_law_words", "_law_found", "_law_places", "_law_error"]) (sc := defScope sMade1) (by decide +kernel)) (fun _ _ _ _ _ => (pg_name (i := 4) scMade1.nd rfl (Or.inl rfl))) (fun _ _ _ _ _ => pts_nil) (fun _ _ _ _ _ => (pe_tup (pa_cons (pv 4) (pa_cons (show PE _ _ (tExK K "at" (tVar 4)) from pe_exk (pv 4)) pa_nil)))))) (pe_lst (pa_cons (pe_tup (pa_cons (pe_mkE T.x9.O T.x9.iC T.x9.tI (okENoName T.x9) (hr.mono (by decide)) (bENoName T.x9) pass0 rfl T.x9.m (pv 0)) (pa_cons (pe_exk (pe_mkE T.x9.O T.x9.iC T.x9.tI (okENoName T.x9) (hr.mono (by decide)) (bENoName T.x9) pass0 rfl T.x9.m (pv 0))) pa_nil))) pa_nil)))))))), ?_⟩
    refine mkE_go T.x0 (fun R z => ⟨_, rfl, z⟩) rfl fun e0 H0 s0 k0 => ?_
    refine mkE_go T.x1 (fun R z => ⟨_, rfl, z⟩) rfl fun e1 H1 s1 k1 => ?_
    refine mkE_go T.x2 (fun R z => ⟨_, rfl, z⟩) rfl fun e2 H2 s2 k2 => ?_
    refine mkE_go T.x3 (fun R z => ⟨_, rfl, z⟩) rfl fun e3 H3 s3 k3 => ?_
    refine mkE_go T.x4 (fun R z => ⟨_, rfl, z⟩) rfl fun e4 H4 s4 k4 => ?_
    refine ⟨(by show 5 ≤ sizeLine; decide), fun p hp => ?_⟩
    have t4 := Same.new (o := .lst [.ref e0, .ref e1, .ref e2, .ref e3, .ref e4]) hp
    have sA : Same H (upd H4 p (.lst [.ref e0, .ref e1, .ref e2, .ref e3, .ref e4])) := ((((s0.trans s1).trans s2).trans s3).trans s4).trans t4
    have pA : Paired (fun e C => ErrAt K (upd H4 p (.lst [.ref e0, .ref e1, .ref e2, .ref e3, .ref e4])) e C "word" v) [e0, e1, e2, e3, e4] [T.x0.C, T.x1.C, T.x2.C, T.x3.C, T.x4.C] :=
      .cons (k0.same ((((s1.trans s2).trans s3).trans s4).trans t4)) (.cons (k1.same (((s2.trans s3).trans s4).trans t4)) (.cons (k2.same ((s3.trans s4).trans t4)) (.cons (k3.same (s4.trans t4)) (.cons (k4.same t4) .nil))))
    have hA : SqL K (upd H4 p (.lst [.ref e0, .ref e1, .ref e2, .ref e3, .ref e4])) p ([e0, e1, e2, e3, e4].map V.ref) := SqL.of upd_same
    generalize upd H4 p (.lst [.ref e0, .ref e1, .ref e2, .ref e3, .ref e4]) = HA at sA pA hA ⊢
    try dsimp only
    refine stepSet (fun v' H' => ∃ (l : Addr) (ts : List Addr), v' = .ref l ∧ Same HA H' ∧ H' l = some (.lst (ts.map V.ref)) ∧ Paired (HeldAt v H') ts [T.x0.C, T.x1.C, T.x2.C, T.x3.C, T.x4.C]) (fun Q' hQ => ?mkA) (fun v' H5 hC => ?restA)
    case mkA =>
      refine lcw_objs (K := K) (tl := tVar 1) (R := HeldAt v) (cs := [T.x0.C, T.x1.C, T.x2.C, T.x3.C, T.x4.C]) HeldAt.same (fun R z => ⟨_, rfl, z⟩) hA (show 5 ≤ 1000 by decide) rfl (fun i x c Hi S Y hx hc s k => ?turnA) (fun l5 H5 ts5 n5 s5 h5 p5 => hQ _ _ ⟨l5, ts5, rfl, s5, h5, p5⟩)
      case turnA =>
        rw [List.getElem?_map] at hx
        obtain ⟨e, he, rfl⟩ := Option.map_eq_some_iff.mp hx
        obtain ⟨c', hc', hE⟩ := paired_at pA he
        cases hc.symm.trans hc'
        have hE2 := hE.same s
        exact ⟨rfl, _, rfl, exk_go (fun R z => ⟨_, rfl, z⟩) hE2 ⟨two, fun t ht => k t _ (Same.new ht) (hE2.held (Same.refl _) ht)⟩⟩
    case restA =>
    obtain ⟨l5, ts5, rfl, s5, h5, p5⟩ := hC
    try dsimp only
    refine mkE_go T.x5 (fun R z => ⟨_, rfl, z⟩) rfl fun e5 G0 s50 k5 => ?_
    refine mkE_go T.x6 (fun R z => ⟨_, rfl, z⟩) rfl fun e6 G1 s51 k6 => ?_
    refine mkE_go T.x7 (fun R z => ⟨_, rfl, z⟩) rfl fun e7 G2 s52 k7 => ?_
    refine mkE_go T.x8 (fun R z => ⟨_, rfl, z⟩) rfl fun e8 G3 s53 k8 => ?_
    refine ⟨(by show 4 ≤ sizeLine; decide), fun p2 hp2 => ?_⟩
    have t5 := Same.new (o := .lst [.ref e5, .ref e6, .ref e7, .ref e8]) hp2
    have sB : Same H5 (upd G3 p2 (.lst [.ref e5, .ref e6, .ref e7, .ref e8])) := (((s50.trans s51).trans s52).trans s53).trans t5
    have pB : Paired (fun e C => ErrAt K (upd G3 p2 (.lst [.ref e5, .ref e6, .ref e7, .ref e8])) e C "at" v) [e5, e6, e7, e8] [T.x5.C, T.x6.C, T.x7.C, T.x8.C] :=
      .cons (k5.same (((s51.trans s52).trans s53).trans t5)) (.cons (k6.same ((s52.trans s53).trans t5)) (.cons (k7.same (s53.trans t5)) (.cons (k8.same t5) .nil)))
    have hB : SqL K (upd G3 p2 (.lst [.ref e5, .ref e6, .ref e7, .ref e8])) p2 ([e5, e6, e7, e8].map V.ref) := SqL.of upd_same
    generalize upd G3 p2 (.lst [.ref e5, .ref e6, .ref e7, .ref e8]) = HB at sB pB hB ⊢
    try dsimp only
    refine ⟨_, rfl, ?_⟩
    refine lcw_objs (K := K) (tl := tVar 3) (R := HeldAt v) (cs := [T.x5.C, T.x6.C, T.x7.C, T.x8.C]) HeldAt.same (fun R z => ⟨_, rfl, z⟩) hB (show 4 ≤ 1000 by decide) rfl (fun i x c Hi S Y hx hc s k => ?turnB) (fun l6 H6 ts6 n6 s6 h6 p6 => ?restB)
    case turnB =>
      rw [List.getElem?_map] at hx
      obtain ⟨e, he, rfl⟩ := Option.map_eq_some_iff.mp hx
      obtain ⟨c', hc', hE⟩ := paired_at pB he
      cases hc.symm.trans hc'
      have hE2 := hE.same s
      exact ⟨rfl, _, rfl, exk_go (fun R z => ⟨_, rfl, z⟩) hE2 ⟨two, fun t ht => k t _ (Same.new ht) (hE2.held (Same.refl _) ht)⟩⟩
    case restB =>
    have l5' := paired_len p5
    have l6' := paired_len p6
    have h56 := s6 _ _ (sB _ _ h5)
    refine ⟨l5, l6, _, _, rfl, rfl, h56, h6, by rw [List.length_map, List.length_map, l5', l6']; show 5 + 4 ≤ sizeLine; decide, fun l7 hl7 => ?_⟩
    have t7 := Same.new (o := .lst (ts5.map V.ref ++ ts6.map V.ref)) hl7
    refine mkE_go T.x9 (fun R z => ⟨_, rfl, z⟩) rfl fun e9 G5 s55 k9 => ?_
    refine exk_go2 (v := v) ?mk2 (fun G6 s56 => ?rest2)
    case mk2 => exact fun R hR => mkE_go T.x9 (fun R z => ⟨_, rfl, z⟩) rfl fun e10 G6 s56 k10 => hR _ _ _ s56 k10
    case rest2 =>
    refine ⟨two, fun t ht => ?_⟩
    refine ⟨(by show 1 ≤ sizeLine; decide), fun l8 hl8 => ?_⟩
    have tt := Same.new (o := .tup [.ref e9, v]) ht
    have t8 := Same.new (o := .lst [.ref t]) hl8
    have s7 : Same (upd H6 l7 (.lst (ts5.map V.ref ++ ts6.map V.ref))) (upd (upd G6 t (.tup [.ref e9, v])) l8 (.lst [.ref t])) := ((s55.trans s56).trans tt).trans t8
    have h7 := s7 _ _ upd_same
    have s06 : Same H H6 := (sA.trans s5).trans (sB.trans s6)
    have sAll : Same H (upd (upd G6 t (.tup [.ref e9, v])) l8 (.lst [.ref t])) := (s06.trans t7).trans s7
    have p9 : HeldAt v (upd (upd G6 t (.tup [.ref e9, v])) l8 (.lst [.ref t])) t T.x9.C := HeldAt.same (SameN.of t8) (k9.held s56 ht)
    have p5' := paired_mono (fun _ _ z => HeldAt.same (SameN.of (((sB.trans s6).trans t7).trans s7)) z) p5
    have p6' := paired_mono (fun _ _ z => HeldAt.same (SameN.of (t7.trans s7)) z) p6
    have h8 : (upd (upd G6 t (.tup [.ref e9, v])) l8 (.lst [.ref t])) l8 = some (.lst [.ref t]) := upd_same
    generalize upd (upd G6 t (.tup [.ref e9, v])) l8 (.lst [.ref t]) = HE at s7 h7 sAll p9 p5' p6' h8 ⊢
    refine ⟨l7, l8, _, _, rfl, rfl, h7, h8, by rw [List.length_append, List.length_map, List.length_map, l5', l6']; show 5 + 4 + 1 ≤ sizeLine; decide, fun l hl => ?_⟩
    have tl' := Same.new (o := .lst (ts5.map V.ref ++ ts6.map V.ref ++ [V.ref t])) hl
    refine q l (ts5 ++ ts6 ++ [t]) _ (sAll.free hl) (sAll.trans tl') (by rw [upd_same, List.map_append, List.map_append]; rfl) ?_
    exact paired_cat (.cons (HeldAt.same (SameN.of tl') p9) .nil) (paired_cat (paired_mono (fun _ _ z => HeldAt.same (SameN.of tl') z) p6') (paired_mono (fun _ _ z => HeldAt.same (SameN.of tl') z) p5'))
def spSorts (T : TE01 K mg) : Sp := fun vs H Q _ => ∃ (e C : Addr) (d : Option Addr) (i : Nat), vs = [.ref e] ∧ H e = some (exo e C d) ∧ (d = none ∨ ∃ dx fs, d = some dx ∧ H dx = some (exd dx fs)) ∧ ExcC K C ∧ i < 11 ∧ T.c11[i]? = some C ∧
  ∀ (l : Addr) (H' : Hp), Same H H' → H' l = some (.lst ((at11 i).map V.bl)) → Q (.ref l) H'
theorem isE_go {H : Hp} {e C D : Addr} {d : Option Addr} {b : Bool} {Q : VK} (he : H e = some (exo e C d)) (hd : d = none ∨ ∃ dx fs, d = some dx ∧ H dx = some (exd dx fs)) (E : ExcC K C) (k : PySem.W.kitOne K (.ref C) (.ref D) = some b) (q : Q (.bl b) H) : rIsE K [.ref e, .ref D] H Q := by
  unfold rIsE
  exact ⟨e, C, d, _, _, b, rfl, he, hd, E, .own _, k, q⟩
theorem scSorts : FnScope ["_law_error", "_law_found"] ["_law_error"] (defScope sSorts) := ⟨rfl, rfl, rfl, by decide +kernel, rfl, by decide +kernel, by decide +kernel⟩
theorem ok_sorts (T : TE01 K mg) : FnOk P w K mg base CX0 3 T.sorts.f T.sorts.fd ["_law_error"] (spSorts T) := by
  refine T.sorts.F.ok scSorts (fun vs H Q E h => ?_) (fun cdv A outer s H vs Q E hr h => ?_)
  · obtain ⟨e, C, d, i, rfl, _⟩ := h
    rfl
  · obtain ⟨e, C, d, i, rfl, he, hd, hE, hi, hC, q⟩ := h
    have k : ∀ {j : Nat} {D : Addr}, j < 11 → T.c11[j]? = some D → PySem.W.kitOne K (.ref C) (.ref D) = some (decide (j = i)) := fun hj hD => kit11_ok T.kit hi hj hC hD
    have mv : ∀ {H' : Hp}, SameN H H' → H' e = some (exo e C d) ∧ (d = none ∨ ∃ dx fs, d = some dx ∧ H' dx = some (exd dx fs)) := fun s => ⟨s _ _ he exo_lst, hd.imp id fun ⟨dx, fs, a, b⟩ => ⟨dx, fs, a, s _ _ b exd_lst⟩⟩
    have s3 : (3 : Nat) ≤ sizeLine := by decide
    refine ⟨_, (pss_cons (ps_set (i := 1) scSorts.nd rfl (Or.inl rfl) (pe_lst (pa_cons (pe_callB call_isE (by rfl) T.mIsi (by decide +kernel) (pa_cons (pv 0) (pa_cons (pe_glob (v := .ref T.x0.C) (by rfl) T.x0.m rfl) pa_nil))) (pa_cons (pe_callB call_isE (by rfl) T.mIsi (by decide +kernel) (pa_cons (pv 0) (pa_cons (pe_glob (v := .ref T.x1.C) (by rfl) T.x1.m rfl) pa_nil))) (pa_cons (pe_callB call_isE (by rfl) T.mIsi (by decide +kernel) (pa_cons (pv 0) (pa_cons (pe_glob (v := .ref T.x2.C) (by rfl) T.x2.m rfl) pa_nil))) pa_nil)))))
(pss_cons (ps_expr (pe_bm PySem.F.plainAttrs_list PySem.F.slot_list_extend PySem.F.type_list_extend mt_extend (pv 1) (pa_cons (pe_lst (pa_cons (pe_callB call_isE (by rfl) T.mIsi (by decide +kernel) (pa_cons (pv 0) (pa_cons (pe_glob (v := .ref T.x3.C) (by rfl) T.x3.m rfl) pa_nil))) (pa_cons (pe_callB call_isE (by rfl) T.mIsi (by decide +kernel) (pa_cons (pv 0) (pa_cons (pe_glob (v := .ref T.x4.C) (by rfl) T.x4.m rfl) pa_nil))) (pa_cons (pe_callB call_isE (by rfl) T.mIsi (by decide +kernel) (pa_cons (pv 0) (pa_cons (pe_glob (v := .ref T.x5.C) (by rfl) T.x5.m rfl) pa_nil))) pa_nil)))) pa_nil)))
(pss_cons (ps_expr (pe_bm PySem.F.plainAttrs_list PySem.F.slot_list_extend PySem.F.type_list_extend mt_extend (pv 1) (pa_cons (pe_lst (pa_cons (pe_callB call_isE (by rfl) T.mIsi (by decide +kernel) (pa_cons (pv 0) (pa_cons (pe_glob (v := .ref T.x6.C) (by rfl) T.x6.m rfl) pa_nil))) (pa_cons (pe_callB call_isE (by rfl) T.mIsi (by decide +kernel) (pa_cons (pv 0) (pa_cons (pe_glob (v := .ref T.x7.C) (by rfl) T.x7.m rfl) pa_nil))) (pa_cons (pe_callB call_isE (by rfl) T.mIsi (by decide +kernel) (pa_cons (pv 0) (pa_cons (pe_glob (v := .ref T.z0.C) (by rfl) T.z0.m rfl) pa_nil))) pa_nil)))) pa_nil)))
(pss_one (ps_ret (pe_op op_cat (pv 1) (pe_lst (pa_cons (pe_callB call_isE (by rfl) T.mIsi (by decide +kernel) (pa_cons (pv 0) (pa_cons (pe_glob (v := .ref T.z1.C) (by rfl) T.z1.m rfl) pa_nil))) (pa_cons (pe_callB call_isE (by rfl) T.mIsi (by decide +kernel) (pa_cons (pv 0) (pa_cons (pe_glob (v := .ref T.z2.C) (by rfl) T.z2.m rfl) pa_nil))) pa_nil))))))))), ?_⟩
    refine ⟨_, rfl, ?_⟩
    refine isE_go he hd hE (k (j := 0) (by decide) rfl) ?_
    refine ⟨_, rfl, ?_⟩
    refine isE_go he hd hE (k (j := 1) (by decide) rfl) ?_
    refine ⟨_, rfl, ?_⟩
    refine isE_go he hd hE (k (j := 2) (by decide) rfl) ?_
    refine ⟨s3, fun p hp => ?_⟩
    obtain ⟨he1, hd1⟩ := mv (SameN.of (Same.new (o := .lst [.bl (decide (0 = i)), .bl (decide (1 = i)), .bl (decide (2 = i))]) hp))
    have h1 : (upd H p (.lst [.bl (decide (0 = i)), .bl (decide (1 = i)), .bl (decide (2 = i))])) p = some (.lst [.bl (decide (0 = i)), .bl (decide (1 = i)), .bl (decide (2 = i))]) := upd_same
    have sm1 : Same H (upd H p (.lst [.bl (decide (0 = i)), .bl (decide (1 = i)), .bl (decide (2 = i))])) := Same.new hp
    generalize upd H p (.lst [.bl (decide (0 = i)), .bl (decide (1 = i)), .bl (decide (2 = i))]) = H1 at he1 hd1 h1 sm1 ⊢
    try dsimp only
    refine ⟨_, rfl, .inl ⟨rfl, _, SqL.of h1⟩, ?_⟩
    refine ⟨_, rfl, ?_⟩
    refine isE_go he1 hd1 hE (k (j := 3) (by decide) rfl) ?_
    refine ⟨_, rfl, ?_⟩
    refine isE_go he1 hd1 hE (k (j := 4) (by decide) rfl) ?_
    refine ⟨_, rfl, ?_⟩
    refine isE_go he1 hd1 hE (k (j := 5) (by decide) rfl) ?_
    refine ⟨s3, fun p2 hp2 => ?_⟩
    have g2 := Same.new (o := .lst [.bl (decide (3 = i)), .bl (decide (4 = i)), .bl (decide (5 = i))]) hp2
    refine ⟨p, p2, _, _, rfl, rfl, g2 _ _ h1, upd_same, (by show 3 + 3 ≤ sizeLine; decide), ?_⟩
    have n2 : SameN H1 (upd (upd H1 p2 (.lst [.bl (decide (3 = i)), .bl (decide (4 = i)), .bl (decide (5 = i))])) p (.lst [.bl (decide (0 = i)), .bl (decide (1 = i)), .bl (decide (2 = i)), .bl (decide (3 = i)), .bl (decide (4 = i)), .bl (decide (5 = i))])) := (SameN.of g2).trans (SameN.upd (g2 _ _ h1))
    have he2 := n2 _ _ he1 exo_lst
    have hd2 : d = none ∨ ∃ dx fs, d = some dx ∧ (upd (upd H1 p2 (.lst [.bl (decide (3 = i)), .bl (decide (4 = i)), .bl (decide (5 = i))])) p (.lst [.bl (decide (0 = i)), .bl (decide (1 = i)), .bl (decide (2 = i)), .bl (decide (3 = i)), .bl (decide (4 = i)), .bl (decide (5 = i))])) dx = some (exd dx fs) := hd1.imp id fun ⟨dx, fs, a, b⟩ => ⟨dx, fs, a, n2 _ _ b exd_lst⟩
    have h2 : (upd (upd H1 p2 (.lst [.bl (decide (3 = i)), .bl (decide (4 = i)), .bl (decide (5 = i))])) p (.lst [.bl (decide (0 = i)), .bl (decide (1 = i)), .bl (decide (2 = i)), .bl (decide (3 = i)), .bl (decide (4 = i)), .bl (decide (5 = i))])) p = some (.lst [.bl (decide (0 = i)), .bl (decide (1 = i)), .bl (decide (2 = i)), .bl (decide (3 = i)), .bl (decide (4 = i)), .bl (decide (5 = i))]) := upd_same
    have sm2 : Same H (upd (upd H1 p2 (.lst [.bl (decide (3 = i)), .bl (decide (4 = i)), .bl (decide (5 = i))])) p (.lst [.bl (decide (0 = i)), .bl (decide (1 = i)), .bl (decide (2 = i)), .bl (decide (3 = i)), .bl (decide (4 = i)), .bl (decide (5 = i))])) := fun a o z => by
      rw [upd_ne (ne_of_none z hp), upd_ne (ne_of_none (sm1 _ _ z) hp2)]
      exact sm1 _ _ z
    simp only [List.cons_append, List.nil_append]
    generalize upd (upd H1 p2 (.lst [.bl (decide (3 = i)), .bl (decide (4 = i)), .bl (decide (5 = i))])) p (.lst [.bl (decide (0 = i)), .bl (decide (1 = i)), .bl (decide (2 = i)), .bl (decide (3 = i)), .bl (decide (4 = i)), .bl (decide (5 = i))]) = H2 at he2 hd2 h2 sm2 ⊢
    try dsimp only
    refine ⟨_, rfl, .inl ⟨rfl, _, SqL.of h2⟩, ?_⟩
    refine ⟨_, rfl, ?_⟩
    refine isE_go he2 hd2 hE (k (j := 6) (by decide) rfl) ?_
    refine ⟨_, rfl, ?_⟩
    refine isE_go he2 hd2 hE (k (j := 7) (by decide) rfl) ?_
    refine ⟨_, rfl, ?_⟩
    refine isE_go he2 hd2 hE (k (j := 8) (by decide) rfl) ?_
    refine ⟨s3, fun p3 hp3 => ?_⟩
    have g3 := Same.new (o := .lst [.bl (decide (6 = i)), .bl (decide (7 = i)), .bl (decide (8 = i))]) hp3
    refine ⟨p, p3, _, _, rfl, rfl, g3 _ _ h2, upd_same, (by show 6 + 3 ≤ sizeLine; decide), ?_⟩
    have n3 : SameN H2 (upd (upd H2 p3 (.lst [.bl (decide (6 = i)), .bl (decide (7 = i)), .bl (decide (8 = i))])) p (.lst [.bl (decide (0 = i)), .bl (decide (1 = i)), .bl (decide (2 = i)), .bl (decide (3 = i)), .bl (decide (4 = i)), .bl (decide (5 = i)), .bl (decide (6 = i)), .bl (decide (7 = i)), .bl (decide (8 = i))])) := (SameN.of g3).trans (SameN.upd (g3 _ _ h2))
    have he3 := n3 _ _ he2 exo_lst
    have hd3 : d = none ∨ ∃ dx fs, d = some dx ∧ (upd (upd H2 p3 (.lst [.bl (decide (6 = i)), .bl (decide (7 = i)), .bl (decide (8 = i))])) p (.lst [.bl (decide (0 = i)), .bl (decide (1 = i)), .bl (decide (2 = i)), .bl (decide (3 = i)), .bl (decide (4 = i)), .bl (decide (5 = i)), .bl (decide (6 = i)), .bl (decide (7 = i)), .bl (decide (8 = i))])) dx = some (exd dx fs) := hd2.imp id fun ⟨dx, fs, a, b⟩ => ⟨dx, fs, a, n3 _ _ b exd_lst⟩
    have h3 : (upd (upd H2 p3 (.lst [.bl (decide (6 = i)), .bl (decide (7 = i)), .bl (decide (8 = i))])) p (.lst [.bl (decide (0 = i)), .bl (decide (1 = i)), .bl (decide (2 = i)), .bl (decide (3 = i)), .bl (decide (4 = i)), .bl (decide (5 = i)), .bl (decide (6 = i)), .bl (decide (7 = i)), .bl (decide (8 = i))])) p = some (.lst [.bl (decide (0 = i)), .bl (decide (1 = i)), .bl (decide (2 = i)), .bl (decide (3 = i)), .bl (decide (4 = i)), .bl (decide (5 = i)), .bl (decide (6 = i)), .bl (decide (7 = i)), .bl (decide (8 = i))]) := upd_same
    have sm3 : Same H (upd (upd H2 p3 (.lst [.bl (decide (6 = i)), .bl (decide (7 = i)), .bl (decide (8 = i))])) p (.lst [.bl (decide (0 = i)), .bl (decide (1 = i)), .bl (decide (2 = i)), .bl (decide (3 = i)), .bl (decide (4 = i)), .bl (decide (5 = i)), .bl (decide (6 = i)), .bl (decide (7 = i)), .bl (decide (8 = i))])) := fun a o z => by
      rw [upd_ne (ne_of_none z hp), upd_ne (ne_of_none (sm2 _ _ z) hp3)]
      exact sm2 _ _ z
    simp only [List.cons_append, List.nil_append]
    generalize upd (upd H2 p3 (.lst [.bl (decide (6 = i)), .bl (decide (7 = i)), .bl (decide (8 = i))])) p (.lst [.bl (decide (0 = i)), .bl (decide (1 = i)), .bl (decide (2 = i)), .bl (decide (3 = i)), .bl (decide (4 = i)), .bl (decide (5 = i)), .bl (decide (6 = i)), .bl (decide (7 = i)), .bl (decide (8 = i))]) = H3 at he3 hd3 h3 sm3 ⊢
    try dsimp only
    refine ⟨_, rfl, ?_⟩
    refine ⟨_, rfl, ?_⟩
    refine isE_go he3 hd3 hE (k (j := 9) (by decide) rfl) ?_
    refine ⟨_, rfl, ?_⟩
    refine isE_go he3 hd3 hE (k (j := 10) (by decide) rfl) ?_
    refine ⟨(by show 2 ≤ sizeLine; decide), fun p4 hp4 => ?_⟩
    have g4 := Same.new (o := .lst [.bl (decide (9 = i)), .bl (decide (10 = i))]) hp4
    refine ⟨p, p4, _, _, rfl, rfl, g4 _ _ h3, upd_same, (by show 9 + 2 ≤ sizeLine; decide), fun l hl => ?_⟩
    exact q l _ ((sm3.trans g4).trans (Same.new hl)) (by rw [upd_same]; rfl)
end
end Pn

namespace Pn
open PySem PySem.Spec PyProof.Rows L2 TL
section
variable {P : Program} {w : World} {K : PySem.W.Frag} {mg : Str → Option Value} {base : Heap}
theorem roomD {k : Nat} {A : Around} (r : Room k A) : A.units + 64 < PySem.cLine := by have := r.un; omega
theorem of8 {p : Addr → Prop} {a0 a1 a2 a3 a4 a5 a6 a7 : Addr} (h0 : p a0) (h1 : p a1) (h2 : p a2) (h3 : p a3) (h4 : p a4) (h5 : p a5) (h6 : p a6) (h7 : p a7) : ∀ C ∈ [a0, a1, a2, a3, a4, a5, a6, a7], p C := by
  intro C h
  simp only [List.mem_cons, List.not_mem_nil, or_false] at h
  rcases h with rfl | rfl | rfl | rfl | rfl | rfl | rfl | rfl <;> assumption
theorem stepPar {i j : Nat} {ta : TA} {B : TS} {D : Ends} {σ : L2.St} {H : Hp} (C : V → V → Hp → Prop) (h1 : ∀ Q' : List V → Hp → Prop, (∀ v w H', C v w H' → Q' [v, w] H') → ta σ H Q') (h2 : ∀ v w H', C v w H' → B D ((σ.set i (some v)).set j (some w)) H') : tSeq (tPar i j ta) B D σ H := h1 _ fun v w H' c => ⟨v, w, rfl, h2 v w H' c⟩
theorem stepEndB {tt : TT} {A : TS} {D : Ends} {σ : L2.St} {H : Hp} (G : Hp → Prop) (h1 : ∀ Q : Bool → Hp → Prop, (∀ H', G H' → Q false H') → tt σ H Q) (h2 : ∀ H', G H' → D.nx σ H') : tIfS tt A tNext D σ H := h1 _ fun H' g => by
  rw [if_neg Bool.false_ne_true]
  exact h2 H' g
theorem isT_go {H : Hp} {e C : Addr} {n : String} {d : Option Addr} {b : Bool} {Q : VK} (he : H e = some (exo e C d)) (hd : d = none ∨ ∃ dx fs, d = some dx ∧ H dx = some (exd dx fs)) (E : ExcC K C) (k : PySem.W.kitOne K (.ref C) (.type n) = some b) (q : Q (.bl b) H) : rIsE K [.ref e, .ty n] H Q := by
  unfold rIsE
  exact ⟨e, C, d, _, _, b, rfl, he, hd, E, .ty n, k, q⟩
theorem lcw_listS {tl : TE} {g : TG} {tt : TT} {te : TE} {vs : List Nat} {σ : L2.St} {H : Hp} {Q : VK} {xs : List V} (h0 : ∀ R : VK, (∀ p, H p = none → R (.ref p) (upd H p (.lst xs))) → tl σ H R) (hl : xs.length ≤ 10000) {out : Nat → Option V} (turn : ∀ p, H p = none → LcTurn xs (upd H p (.lst xs)) g tt te vs σ out)
    (fin : ∀ (D : Addr) (H' : Hp), Same H H' → H' D = some (.lst ((List.range xs.length).filterMap out)) → Q (.ref D) H') : tLc (iList K tl) g tt te vs σ H Q :=
  h0 _ fun p hp => ⟨p, rfl, ⟨_, SqL.of upd_same⟩, fun D hD => lc_list (xs := xs) (fun i Hi => Same (upd H p (.lst xs)) Hi ∧ Hi D = some (.lst ((List.range i).filterMap out))) ⟨Same.new hD, upd_same⟩ (fun _ _ _ hP => hP.1.seq (SqL.of upd_same)) (lc_keep hl (turn p hp) hD) (fun Hi hP => fin D Hi ((Same.new hp).trans hP.1) hP.2)⟩
/-- an error that is held -/
def ExAt (H : Hp) (e C : Addr) : Prop := ∃ d : Option Addr, H e = some (exo e C d) ∧ (d = none ∨ ∃ dx fs, d = some dx ∧ H dx = some (exd dx fs))
theorem ExAt.same {H H' : Hp} {e C : Addr} (s : Same H H') (h : ExAt H e C) : ExAt H' e C := by
  obtain ⟨d, h1, h2⟩ := h
  exact ⟨d, s _ _ h1, h2.imp id fun ⟨dx, fs, a, b⟩ => ⟨dx, fs, a, s _ _ b⟩⟩
theorem HeldAt.ex {v : V} {H : Hp} {t C : Addr} (h : HeldAt v H t C) : ∃ e, H t = some (.tup [.ref e, v]) ∧ ExAt H e C := by
  obtain ⟨e, dx, fs, h1, h2, h3⟩ := h
  exact ⟨e, h1, some dx, h2, .inr ⟨dx, fs, rfl, h3⟩⟩
def spLaw1 (K : PySem.W.Frag) : Sp := fun vs H Q _ => ∃ (a : Addr) (ns : List Int), vs = [.ref a] ∧ SqL K H a (ns.map V.int) ∧ ns.length ≤ 63 ∧ ∀ H', Q (.bl true) H'
theorem scLaw1 : FnScope ["_law_script", "_law_k", "_law_box", "_law_turn", "_law_value", "_law_errors", "_law_held", "_law_row", "_law_place", "_law_error", "_law_kept", "_law_every", "_law_at", "_law_spot"] ["_law_script"] (defScope sLaw1) := ⟨rfl, rfl, rfl, by decide +kernel, rfl, by decide +kernel, by decide +kernel⟩
theorem out10 (T : TE01 K mg) {ts : List Addr} {v : V} (h : ts.length = 10) : (List.range (ts.map V.ref).length).filterMap (fun i => ((List.replicate 10 v)[i]?).map fun x => x) = List.replicate 10 v := by
  rw [List.length_map, h]
  exact (out_map (l := List.replicate 10 v) (f := fun x => x)).trans (List.map_id' _)
theorem held_es {v : V} {H : Hp} : ∀ {ts cs : List Addr}, Paired (HeldAt v H) ts cs → ∃ es : List Addr, Paired (fun t e => H t = some (.tup [.ref e, v])) ts es ∧ Paired (ExAt H) es cs
  | _, _, .nil => ⟨[], .nil, .nil⟩
  | _, _, .cons a b => by
    obtain ⟨e, h1, h2⟩ := HeldAt.ex a
    obtain ⟨es, h3, h4⟩ := held_es b
    exact ⟨e :: es, .cons h1 h3, .cons h2 h4⟩
theorem spot_eq (s m : Nat) : decide (V.int (0 + (s : Int)) = V.int (m : Int)) = decide (s = m) := by
  by_cases h : s = m
  · subst h
    simp
  · rw [decide_eq_false h]
    refine decide_eq_false fun z => h ?_
    have e : (0 + (s : Int)) = (m : Int) := V.int.inj z
    omega
theorem ten (T : TE01 K mg) {R : Addr → Addr → Prop} {ts : List Addr} (pd : Paired R ts T.c10) : ∃ t0 t1 t2 t3 t4 t5 t6 t7 t8 t9, ts = [t0, t1, t2, t3, t4, t5, t6, t7, t8, t9] ∧ Paired R [t0, t1, t2, t3, t4, t5, t6, t7] T.c8 ∧ R t8 T.x8.C ∧ R t9 T.x9.C := by
  have pd : Paired R ts [T.x0.C, T.x1.C, T.x2.C, T.x3.C, T.x4.C, T.x5.C, T.x6.C, T.x7.C, T.x8.C, T.x9.C] := pd
  match pd with
  | .cons a0 (.cons a1 (.cons a2 (.cons a3 (.cons a4 (.cons a5 (.cons a6 (.cons a7 (.cons a8 (.cons a9 .nil))))))))) => exact ⟨_, _, _, _, _, _, _, _, _, _, rfl, .cons a0 (.cons a1 (.cons a2 (.cons a3 (.cons a4 (.cons a5 (.cons a6 (.cons a7 .nil))))))), a8, a9⟩
theorem ok_law1 (T : TE01 K mg) {f : Addr} {fd : FuncData} (F : Fun K "law" "law" sLaw1 f fd) {A : Around} (hrA : Room 13 A) (hgA : A.guards = some []) : RunAt P w K mg base A f fd ["_law_script"] (spLaw1 K) := by
  refine fun_at (k := 12) F scLaw1 hrA (fun vs H Q E h => ?_) (fun cdv s H vs Q E hr h => ?_)
  · obtain ⟨a, ns, rfl, _⟩ := h
    rfl
  · obtain ⟨a, ns, rfl, hS, hl, q⟩ := h
    have hgd : (A.deeper (PyProof.Rows.envOfC "law" (defScope sLaw1) s.heap.objs.size f cdv)).guards = some [] := hgA
    refine ⟨_, (pss_cons (ps_for PassesOwn.never rfl (pi_range1 (by rfl) T.mR (pa_cons (pe_callB (call_max2 rfl) (by rfl) T.mMax (by decide +kernel) (pa_cons pe_int (pa_cons (pe_callB (call_min2 rfl) (by rfl) T.mMin (by decide +kernel) (pa_cons pe_int (pa_cons (pe_callB call_len_seq (by rfl) T.mLen PySem.boot_len (pa_cons (pv 0) pa_nil)) pa_nil))) pa_nil))) pa_nil)) (pg_name (i := 1) scLaw1.nd rfl (Or.inl rfl))
(pss_cons (ps_set (i := 2) scLaw1.nd rfl (Or.inl rfl) (pe_call T.D.okSeed (hr.mono (by decide)) rfl T.D.seed.m T.D.seed.F.kp T.D.seed.b .nil pass0 (pa_cons (pv 0) (pa_cons (pv 1) pa_nil))))
(pss_one (ps_for PassesOwn.never rfl (pi_range1 (by rfl) T.mR (pa_cons pe_int pa_nil)) (pg_name (i := 3) scLaw1.nd rfl (Or.inl rfl))
(pss_cons (ps_set (i := 4) scLaw1.nd rfl (Or.inl rfl) (pe_call (ok_any T.D 4) (hr.mono (by decide)) rfl T.D.any.m T.D.any.F.kp T.D.any.b .nil pass0 (pa_cons (pv 2) (pa_cons pe_int pa_nil))))
(pss_cons (ps_set (i := 5) scLaw1.nd rfl (Or.inl rfl) (pe_call (ok_made1 T) (hr.mono (by decide)) rfl T.made.m T.made.F.kp T.made.b .nil pass0 (pa_cons (pv 4) pa_nil)))
(pss_cons (ps_if (pt_cmpR op_ne (pe_callB (call_reprD hgd hr) (by rfl) T.mRepr (by decide +kernel) (pa_cons (pe_lc (own := [("_law_error", 9), ("_law_kept", 10)]) (g := gTup K 2 (gCons (gName 9) (gCons (gName 10) gNil))) (tt := tYes) (by rfl) scLaw1.nd (pi_list (pv 5))
 (blkOk_by (N := ["_law_script", "_law_k", "_law_box", "_law_turn", "_law_value", "_law_errors", "_law_held", "_law_row", "_law_place", "_law_error", "_law_kept", "_law_every", "_law_at", "_law_spot"]) (sc := defScope sLaw1) (by decide +kernel)) (fun _ _ _ _ _ => (pg_tup (by rfl) (pgs_cons (pg_name (i := 9) scLaw1.nd rfl (Or.inl rfl)) (pgs_cons (pg_name (i := 10) scLaw1.nd rfl (Or.inl rfl)) pgs_nil)))) (fun _ _ _ _ _ => pts_nil) (fun _ _ _ _ _ => (pv 10))) pa_nil)) (pe_callB (call_reprD hgd hr) (by rfl) T.mRepr (by decide +kernel) (pa_cons (pe_op op_rep (pe_lst (pa_cons (pv 4) pa_nil)) pe_int) pa_nil)) (nomark _)) (pss_one (ps_ret pe_bl)) pss_nil)
(pss_cons (ps_set (i := 6) scLaw1.nd rfl (Or.inl rfl) (pe_lst (pa_cons (pv 4) pa_nil)))
(pss_cons (ps_par (i := 7) (j := 8) (by rfl) scLaw1.nd rfl rfl (by decide) rfl rfl (pa_cons (pe_mkE T.x0.O T.x0.iC T.x0.tI (okEInvalidRow T.x0) (hr.mono (by decide)) (bEInvalidRow T.x0) pass0 rfl T.x0.m (pv 6)) (pa_cons (pe_mkE T.x8.O T.x8.iC T.x8.tI (okENoPlace T.x8) (hr.mono (by decide)) (bENoPlace T.x8) pass0 rfl T.x8.m (pv 6)) pa_nil)) (by rfl))
(pss_cons (ps_expr (pe_bm PySem.F.plainAttrs_list PySem.F.slot_list_append PySem.F.type_list_append mt_append (pv 6) (pa_cons pe_int pa_nil)))
(pss_cons (ps_if (pt_cmpR op_ne (pe_callB (call_reprD hgd hr) (by rfl) T.mRepr (by decide +kernel) (pa_cons (pe_lst (pa_cons (show PE _ _ (tExK K "word" (tVar 7)) from pe_exk (pv 7)) (pa_cons (show PE _ _ (tExK K "at" (tVar 8)) from pe_exk (pv 8)) pa_nil))) pa_nil)) (pe_callB (call_reprD hgd hr) (by rfl) T.mRepr (by decide +kernel) (pa_cons (pe_op op_rep (pe_lst (pa_cons (pe_lst (pa_cons (pv 4) (pa_cons pe_int pa_nil))) pa_nil)) pe_int) pa_nil)) (nomark _)) (pss_one (ps_ret pe_bl)) pss_nil)
(pss_cons (ps_for PassesOwn.never rfl (pi_list (pe_slice sl_list (pv 5) po_none (po_some pe_int))) (pg_tup (by rfl) (pgs_cons (pg_name (i := 9) scLaw1.nd rfl (Or.inl rfl)) (pgs_cons (pg_name (i := 10) scLaw1.nd rfl (Or.inl rfl)) pgs_nil)))
(pss_one (ps_if (PW.pt (pw_or (pt_not (pt_val (pe_callB call_isE (by rfl) T.mIsi (by decide +kernel) (pa_cons (pv 9) (pa_cons (pe_glob (v := .ref T.cN) (by rfl) T.mN rfl) pa_nil))))) (pw_or1 (pt_not (pt_val (pe_callB call_isE (by rfl) T.mIsi (by decide +kernel) (pa_cons (pv 9) (pa_cons (pe_bltn (v := .ty "ValueError") (by rfl) T.mVE (by decide +kernel) rfl) pa_nil)))))))) (pss_one (ps_ret pe_bl)) pss_nil)))
(pss_cons (ps_if (PW.pt (pw_or (pt_val (pe_callB call_isE (by rfl) T.mIsi (by decide +kernel) (pa_cons (pe_ix ix_tup (pe_ix ix_list (pv 5) pe_int (fun _ _ => rfl)) pe_int (fun _ _ => rfl)) (pa_cons (pe_glob (v := .ref T.cN) (by rfl) T.mN rfl) pa_nil)))) (pw_or1 (pt_not (pt_val (pe_callB call_isE (by rfl) T.mIsi (by decide +kernel) (pa_cons (pe_ix ix_tup (pe_ix ix_list (pv 5) pe_int (fun _ _ => rfl)) pe_int (fun _ _ => rfl)) (pa_cons (pe_bltn (v := .ty "IndexError") (by rfl) T.mIE (by decide +kernel) rfl) pa_nil)))))))) (pss_one (ps_ret pe_bl)) pss_nil)
(pss_cons (ps_if (PW.pt (pw_or (pt_val (pe_callB call_isE (by rfl) T.mIsi (by decide +kernel) (pa_cons (pe_ix ix_tup (pe_ix ix_list (pv 5) pe_int (fun _ _ => rfl)) pe_int (fun _ _ => rfl)) (pa_cons (pe_glob (v := .ref T.cN) (by rfl) T.mN rfl) pa_nil)))) (pw_or1 (pt_not (pt_val (pe_callB call_isE (by rfl) T.mIsi (by decide +kernel) (pa_cons (pe_ix ix_tup (pe_ix ix_list (pv 5) pe_int (fun _ _ => rfl)) pe_int (fun _ _ => rfl)) (pa_cons (pe_bltn (v := .ty "KeyError") (by rfl) T.mKE (by decide +kernel) rfl) pa_nil)))))))) (pss_one (ps_ret pe_bl)) pss_nil)
(pss_cons (ps_set (i := 11) scLaw1.nd rfl (Or.inl rfl) (pe_op op_cat (pe_lc (own := [("_law_error", 9), ("_law_kept", 10)]) (g := gTup K 2 (gCons (gName 9) (gCons (gName 10) gNil))) (tt := tYes) (by rfl) scLaw1.nd (pi_list (pe_slice sl_list (pv 5) po_none (po_some pe_int)))
 (blkOk_by (N := ["_law_script", "_law_k", "_law_box", "_law_turn", "_law_value", "_law_errors", "_law_held", "_law_row", "_law_place", "_law_error", "_law_kept", "_law_every", "_law_at", "_law_spot"]) (sc := defScope sLaw1) (by decide +kernel)) (fun _ _ _ _ _ => (pg_tup (by rfl) (pgs_cons (pg_name (i := 9) scLaw1.nd rfl (Or.inl rfl)) (pgs_cons (pg_name (i := 10) scLaw1.nd rfl (Or.inl rfl)) pgs_nil)))) (fun _ _ _ _ _ => pts_nil) (fun _ _ _ _ _ => (pv 9))) (pe_lst (pa_cons (pe_mk0 T.z0.O T.z0.iN rfl T.z0.m) (pa_cons (pe_mk0 T.z1.O T.z1.iN rfl T.z1.m) (pa_cons (pe_mk0 T.z2.O T.z2.iN rfl T.z2.m) pa_nil))))))
(pss_one (ps_for PassesOwn.never rfl (pi_enum (by rfl) T.mEnum (pa_cons (pv 11) pa_nil)) (pg_tup (by rfl) (pgs_cons (pg_name (i := 12) scLaw1.nd rfl (Or.inr rfl)) (pgs_cons (pg_name (i := 9) scLaw1.nd rfl (Or.inl rfl)) pgs_nil)))
(pss_one (ps_if (pt_cmpR (op_neD (roomD hr)) (pe_call (ok_sorts T) (hr.mono (by decide)) rfl T.sorts.m T.sorts.F.kp T.sorts.b .nil pass0 (pa_cons (pv 9) pa_nil)) (pe_lc (own := [("_law_spot", 13)]) (g := gName 13) (tt := tYes) (by rfl) scLaw1.nd (pi_range1 (by rfl) T.mR (pa_cons pe_int pa_nil))
 (blkOk_by (N := ["_law_script", "_law_k", "_law_box", "_law_turn", "_law_value", "_law_errors", "_law_held", "_law_row", "_law_place", "_law_error", "_law_kept", "_law_every", "_law_at", "_law_spot"]) (sc := defScope sLaw1) (by decide +kernel)) (fun _ _ _ _ _ => (pg_name (i := 13) scLaw1.nd rfl (Or.inl rfl))) (fun _ _ _ _ _ => pts_nil) (fun _ _ _ _ _ => (pe_cmpR op_eq (pv 13) (pv 12) (nomark _)))) (nomark _)) (pss_one (ps_ret pe_bl)) pss_nil)))))))))))))))))))
(pss_one (ps_ret pe_bl))), ?_⟩
    have hlen : ((ns.map V.int).length : Int) ≤ 63 := by rw [List.length_map]; omega
    have one : 1 ≤ sizeLine := by decide
    have two : 2 ≤ sizeLine := by decide
    refine ⟨_, rfl, a, _, rfl, .inl hS, _, _, rfl, _, _, rfl, _, rfl, ?b1, ?b2,
      for_range (lo := 0) (fun i σ Hc => ∃ x1 x2 x3 x4 x5 x6 x7 x8 x9 x10 x11 x12 x13, σ = [some (.ref a), x1, x2, x3, x4, x5, x6, x7, x8, x9, x10, x11, x12, x13] ∧ Same H Hc) ⟨_, _, _, _, _, _, _, _, _, _, _, _, _, rfl, Same.refl _⟩ (fun i σ Hc hi hP => ?turn) (fun σ Hc hP => ?fin)⟩
    case b1 => split <;> (try split) <;> omega
    case b2 => split <;> (try split) <;> omega
    case fin =>
      exact q Hc
    case turn =>
      obtain ⟨x1, x2, x3, x4, x5, x6, x7, x8, x9, x10, x11, x12, x13, rfl, hs0⟩ := hP
      have hi2 : i ≤ 100 := by
        have : (if (if ((ns.map V.int).length : Int) < 5 then ((ns.map V.int).length : Int) else 5) > 2 then (if ((ns.map V.int).length : Int) < 5 then ((ns.map V.int).length : Int) else 5) else 2).toNat ≤ 63 := by split <;> (try split) <;> omega
        have hi3 := Nat.lt_of_lt_of_le hi this
        omega
      have hSc : SqL K Hc a (ns.map V.int) := hs0.seq hS
      refine ⟨_, rfl, _, rfl, a, ns, i, by rw [Int.zero_add]; rfl, hSc, hi2, fun b x y hb hB => ?_⟩
      have hbS : Same Hc (upd Hc b (.lst [.int x, .int y])) := Same.new hb
      have hb0 : BoxAt (upd Hc b (.lst [.int x, .int y])) b := ⟨x, y, hB, upd_same⟩
      generalize upd Hc b (.lst [.int x, .int y]) = H0 at hbS hb0 ⊢
      try dsimp only [List.set]
      refine ⟨_, rfl, by decide, by decide, for_range (lo := 0) (n := 6) (fun j σ Hd => ∃ y3 y4 y5 y6 y7 y8 y9 y10 y11 y12 y13, σ = [some (.ref a), some (.int (0 + (i : Int))), some (.ref b), y3, y4, y5, y6, y7, y8, y9, y10, y11, y12, y13] ∧ Kp b H0 Hd ∧ BoxAt Hd b) ⟨_, _, _, _, _, _, _, _, _, _, _, rfl, Kp.refl b H0, hb0⟩ (fun j σ Hd hj hP => ?turn2) (fun σ Hd hP => ?fin2)⟩
      case fin2 =>
        obtain ⟨y3, y4, y5, y6, y7, y8, y9, y10, y11, y12, y13, rfl, hk, hB2⟩ := hP
        exact ⟨_, _, _, _, _, _, _, _, _, _, _, _, _, rfl, hs0.trans fun c o e => hk c o (hbS c o e) (ne_of_none e hb)⟩
      case turn2 =>
      obtain ⟨y3, y4, y5, y6, y7, y8, y9, y10, y11, y12, y13, rfl, hk, hB2⟩ := hP
      try dsimp only [List.set]
      refine stepSet (fun v H' => ∃ d, Kp b Hd H' ∧ BoxAt H' b ∧ Dp K H' v d ∧ Dt 4 d) (fun Q' hQ => ⟨_, rfl, b, 4, rfl, by decide, by decide, hB2, fun v d H' kp hB' hv hd => hQ _ _ ⟨d, kp, hB', dp_same (fun a u e => (dif_eq.mp e).2) _ _ hv, hd⟩⟩) (fun v H1 hC => ?rest1)
      case rest1 =>
      obtain ⟨d, k1, hB1, hv, hd⟩ := hC
      try dsimp only [List.set]
      refine stepSet (fun u H' => ∃ (l : Addr) (ts : List Addr), u = .ref l ∧ Same H1 H' ∧ H' l = some (.lst (ts.map V.ref)) ∧ Paired (HeldAt v H') ts T.c10) (fun Q' hQ => ⟨_, rfl, v, rfl, fun l ts H' a b c e => hQ _ _ ⟨l, ts, rfl, b, c, e⟩⟩) (fun u H2 hC => ?rest2)
      case rest2 =>
      obtain ⟨l, ts, rfl, s2, hl2, pd⟩ := hC
      have hts := paired_len pd
      try dsimp only [List.set]
      refine stepNo (fun H' => Same H2 H') (fun Q' hQ => ?t1) (fun H3 s3 => ?rest3)
      case t1 =>
        dsimp only [tTest, tOp, tCB, tCons, tNil]
        refine lcw_list (K := K) (tl := tVar 5) (p := l) (xs := ts.map V.ref) (out := fun i => ((List.replicate 10 v)[i]?).map fun x => x) ?h0 (SqL.of hl2) ?hn ?tn ?fn
        case h0 => exact fun R z => ⟨_, rfl, z⟩
        case hn =>
          rw [List.length_map, hts]
          show 10 ≤ 10000
          decide
        case tn =>
          intro m x Hi S Y hx sI h0 h1
          rw [List.getElem?_map] at hx
          obtain ⟨t, ht, rfl⟩ := Option.map_eq_some_iff.mp hx
          obtain ⟨C, hC, hH⟩ := paired_at pd ht
          obtain ⟨e, g1, _⟩ := hH.ex
          have hm : m < 10 := by
            have := (List.getElem?_eq_some_iff.mp hC).1
            exact this
          refine ⟨t, _, rfl, SqT.of (sI _ _ g1), rfl, _, _, rfl, _, _, rfl, rfl, rfl, _, rfl, h1 v ?_ Hi (Same.refl _)⟩
          show Option.map (fun x => x) (List.replicate 10 v)[m]? = some v
          rw [List.getElem?_replicate, if_pos hm]
          rfl
        case fn =>
          intro D H' hD sD hr1
          rw [out10 T hts] at hr1
          have sDp : Same H1 H' := s2.trans sD
          refine reprD_go (d := .list (List.replicate 10 d)) (.lst (SqL.of hr1) (dpAll_rep (dp_same sDp _ _ hv) 10)) (telling10 hd) ?_
          refine ⟨_, rfl, one, fun p hp => ?_⟩
          refine ⟨p, 10, [v], rfl, rfl, upd_same, by decide, by decide, (by show 1 * 10 ≤ sizeLine; decide), fun p2 hp2 => ?_⟩
          have s12 : Same H' (upd (upd H' p (.lst [v])) p2 (.lst (List.replicate (10 : Int).toNat [v]).flatten)) := (Same.new hp).trans (Same.new hp2)
          have hq : (upd (upd H' p (.lst [v])) p2 (.lst (List.replicate (10 : Int).toNat [v]).flatten)) p2 = some (.lst (List.replicate 10 v)) := upd_same
          generalize upd (upd H' p (.lst [v])) p2 (.lst (List.replicate (10 : Int).toNat [v]).flatten) = H'' at s12 hq ⊢
          refine reprD_go (d := .list (List.replicate 10 d)) (.lst (SqL.of hq) (dpAll_rep (dp_same (sDp.trans s12) _ _ hv) 10)) (telling10 hd) ?_
          refine ⟨rfl, _, rfl, ?_⟩
          rw [show (!decide (V.str (PyData.shown (.list (List.replicate 10 d))) = V.str (PyData.shown (.list (List.replicate 10 d))))) = false by simp]
          exact hQ _ (sD.trans s12)
      case rest3 =>
      have hl3 := s3 _ _ hl2
      have pd3 := paired_mono (fun _ _ z => HeldAt.same (SameN.of s3) z) pd
      have hv3 := dp_same (s2.trans s3) _ _ hv
      have s13 : Same H1 H3 := s2.trans s3
      clear pd hl2 s2 s3
      try dsimp only [List.set]
      refine stepSet (fun u H' => ∃ h, u = .ref h ∧ H3 h = none ∧ Same H3 H' ∧ H' h = some (.lst [v])) (fun Q' hQ => ⟨_, rfl, one, fun p hp => hQ _ _ ⟨p, rfl, hp, Same.new hp, upd_same⟩⟩) (fun u H4 hC => ?rest4)
      case rest4 =>
      obtain ⟨h, rfl, hh3, s4, hh4⟩ := hC
      try dsimp only [List.set]
      refine stepPar (fun v' w' H' => ∃ e f, v' = .ref e ∧ w' = .ref f ∧ Same H4 H' ∧ ErrAt K H' e T.x0.C "word" (.ref h) ∧ ErrAt K H' f T.x8.C "at" (.ref h)) (fun Q' hQ => ?mk) (fun v' w' H5 hC => ?rest5)
      case mk =>
        refine mkE_go T.x0 (fun R z => ⟨_, rfl, z⟩) rfl fun e G s k => ?_
        refine mkE_go T.x8 (fun R z => ⟨_, rfl, z⟩) rfl fun f G2 s' k' => ?_
        exact hQ _ _ _ ⟨e, f, rfl, rfl, s.trans s', k.same s', k'⟩
      case rest5 =>
      obtain ⟨e, f, rfl, rfl, s5, ke, kf⟩ := hC
      have hh5 := s5 _ _ hh4
      try dsimp only [List.set]
      refine stepDrop (fun H' => Same H3 H' ∧ SameN H5 H' ∧ H' h = some (.lst [v, .int 5])) (fun Q' hQ => ?app) (fun H6 hC => ?rest6)
      case app =>
        refine ⟨_, rfl, .inl ⟨rfl, _, SqL.of hh5⟩, h, _, _, rfl, rfl, hh5, small1000 (by show 1 ≤ 1000; decide), hQ _ _ ⟨fun c o z => ?_, SameN.upd hh5, upd_same⟩⟩
        rw [upd_ne (ne_of_none z hh3)]
        exact s5 _ _ (s4 _ _ z)
      case rest6 =>
      obtain ⟨s36, n56, hh6⟩ := hC
      have em : ∀ {g D : Addr} {fld : Str} {u : V}, ErrAt K H5 g D fld u → ErrAt K H6 g D fld u := fun z => by
        obtain ⟨a1, a2, dx, a3, a4⟩ := z
        exact ⟨a1, a2, dx, n56 _ _ a3 exo_lst, n56 _ _ a4 exd_lst⟩
      have ke6 := em ke
      have kf6 := em kf
      have hv6 := dp_same s36 _ _ hv3
      try dsimp only [List.set]
      refine stepNo (fun H' => Same H6 H') (fun Q' hQ => ?t2) (fun H7 s7 => ?rest7)
      case t2 =>
        dsimp only [tTest, tOp, tCB, tLst, tCons, tNil]
        refine exk_go (e := e) (v := .ref h) ?c1 ke6 ?c2
        case c1 => exact fun R z => ⟨_, rfl, z⟩
        case c2 =>
        refine exk_go (e := f) (v := .ref h) ?c3 kf6 ?c4
        case c3 => exact fun R z => ⟨_, rfl, z⟩
        case c4 =>
        have hd5 : Dp K H6 (.ref h) (.list [d, .int 5]) := .lst (SqL.of hh6) (.cons hv6 (.cons (.int 5) .nil))
        refine ⟨two, fun p hp => ?_⟩
        have sp := Same.new (o := .lst [.ref h, .ref h]) hp
        have hp6 : (upd H6 p (.lst [.ref h, .ref h])) p = some (.lst [.ref h, .ref h]) := upd_same
        generalize upd H6 p (.lst [V.ref h, V.ref h]) = G1 at sp hp6 ⊢
        refine reprD_go (d := .list (List.replicate 2 (.list [d, .int 5]))) (.lst (SqL.of hp6) (.cons (dp_same sp _ _ hd5) (.cons (dp_same sp _ _ hd5) .nil))) (telling2 hd) ?_
        refine ⟨_, rfl, two, fun p1 hp1 => ?_⟩
        have g1 := Same.new (o := .lst [v, .int 5]) hp1
        have e1 : (upd G1 p1 (.lst [v, .int 5])) p1 = some (.lst [v, .int 5]) := upd_same
        generalize upd G1 p1 (.lst [v, V.int 5]) = G2 at g1 e1 ⊢
        refine ⟨one, fun p2 hp2 => ?_⟩
        refine ⟨p2, 2, [.ref p1], rfl, rfl, upd_same, by decide, by decide, (by show 1 * 2 ≤ sizeLine; decide), fun p3 hp3 => ?_⟩
        have g3 : Same G2 (upd (upd G2 p2 (.lst [.ref p1])) p3 (.lst (List.replicate (2 : Int).toNat [V.ref p1]).flatten)) := (Same.new hp2).trans (Same.new hp3)
        have e3 : (upd (upd G2 p2 (.lst [.ref p1])) p3 (.lst (List.replicate (2 : Int).toNat [V.ref p1]).flatten)) p3 = some (.lst [.ref p1, .ref p1]) := upd_same
        generalize upd (upd G2 p2 (.lst [.ref p1])) p3 (.lst (List.replicate (2 : Int).toNat [V.ref p1]).flatten) = G3 at g3 e3 ⊢
        have hd5' : Dp K G3 (.ref p1) (.list [d, .int 5]) := dp_same g3 _ _ (.lst (SqL.of e1) (.cons (dp_same (sp.trans g1) _ _ hv6) (.cons (.int 5) .nil)))
        refine reprD_go (d := .list (List.replicate 2 (.list [d, .int 5]))) (.lst (SqL.of e3) (.cons hd5' (.cons hd5' .nil))) (telling2 hd) ?_
        refine ⟨rfl, _, rfl, ?_⟩
        rw [show (!decide (V.str (PyData.shown (.list (List.replicate 2 (.list [d, .int 5])))) = V.str (PyData.shown (.list (List.replicate 2 (.list [d, .int 5])))))) = false by simp]
        exact hQ _ ((sp.trans g1).trans g3)
      case rest7 =>
      have s37 : Same H3 H7 := s36.trans s7
      have hl7 := s37 _ _ hl3
      have pd7 := paired_mono (fun _ _ z => HeldAt.same (SameN.of s37) z) pd3
      have kp7 : Kp b H0 H7 := hk.trans (k1.trans (Kp.same (s13.trans s37)))
      have hB7 : BoxAt H7 b := by
        obtain ⟨x', y', hx', e'⟩ := hB1
        exact ⟨x', y', hx', s37 _ _ (s13 _ _ e')⟩
      clear pd3 hl3 ke kf ke6 kf6 hv3 hv6 hh3 hh4 hh5 hh6 em n56
      obtain ⟨t0, t1, t2, t3, t4, t5, t6, t7, t8, t9, rfl, p8, g8, g9⟩ := ten T pd7
      try dsimp only [List.set]
      refine ⟨_, rfl, 8, rfl, l, _, rfl, SqL.of hl7, fun p hp => ⟨p, rfl, ⟨_, SqL.of upd_same⟩, for_list (xs := [t0, t1, t2, t3, t4, t5, t6, t7].map V.ref) (fun m σ Hx => ∃ z9 z10, σ = [some (.ref a), some (.int (0 + (i : Int))), some (.ref b), some (.int (0 + (j : Int))), some v, some (.ref l), some (.ref h), some (.ref e), some (.ref f), z9, z10, y11, y12, y13] ∧ Same (upd H7 p (.lst ([t0, t1, t2, t3, t4, t5, t6, t7].map V.ref))) Hx)
        ⟨_, _, rfl, Same.refl _⟩ (fun m σ Hx _ hP => ?both) (fun m x σ Hx hx hP => ?turn3) (fun σ Hx hP => ?after)⟩⟩
      case both =>
        obtain ⟨_, _, _, sx⟩ := hP
        exact SqL.of (sx _ _ upd_same)
      case turn3 =>
        obtain ⟨z9, z10, rfl, sx⟩ := hP
        rw [List.getElem?_map] at hx
        obtain ⟨t, ht, rfl⟩ := Option.map_eq_some_iff.mp hx
        obtain ⟨C, hC, hH⟩ := paired_at p8 ht
        have sx7 := (Same.new (o := .lst ([t0, t1, t2, t3, t4, t5, t6, t7].map V.ref)) hp).trans sx
        obtain ⟨e', g1, dd, he', hd'⟩ := (HeldAt.same (SameN.of sx7) hH).ex
        have hm8 := List.mem_of_getElem? hC
        have hE := T.ex8 C hm8
        obtain ⟨k1', k2'⟩ := T.kN C hm8
        refine ⟨t, _, rfl, SqT.of g1, rfl, _, _, rfl, _, _, rfl, rfl, ?_⟩
        try dsimp only [List.set]
        refine stepEndB (fun H' => Hx = H') (fun Q' hQ => ?tt) (fun H' e => ?go)
        case tt =>
          refine ⟨_, rfl, ?_⟩
          refine isE_go he' hd' hE k1' ?_
          refine ⟨_, rfl, iteF ?_⟩
          refine ⟨_, rfl, ?_⟩
          refine isT_go he' hd' hE k2' ?_
          exact ⟨_, rfl, hQ _ rfl⟩
        case go =>
          subst e
          exact ⟨_, _, rfl, sx⟩
      case after =>
      obtain ⟨z9, z10, rfl, sx⟩ := hP
      have s8 := (Same.new (o := .lst ([t0, t1, t2, t3, t4, t5, t6, t7].map V.ref)) hp).trans sx
      have hl8 := s8 _ _ hl7
      have p8' := paired_mono (fun _ _ z => HeldAt.same (SameN.of s8) z) p8
      obtain ⟨e8, g81, d8, he8, hd8⟩ := (HeldAt.same (SameN.of s8) g8).ex
      obtain ⟨e9, g91, d9, he9, hd9⟩ := (HeldAt.same (SameN.of s8) g9).ex
      try dsimp only [List.set]
      refine stepNo (fun H' => Hx = H') (fun Q' hQ => ?t3) (fun H' e => ?rest8)
      case t3 =>
        refine ⟨_, rfl, l, _, _, _, rfl, rfl, SqL.of hl8, atI_nat (j := 8) rfl, t8, _, _, _, rfl, rfl, SqT.of g81, atI_nat (j := 0) rfl, ?_⟩
        refine isE_go he8 hd8 T.e8 T.kP.1 ?_
        refine ⟨_, rfl, iteF ?_⟩
        refine ⟨_, rfl, l, _, _, _, rfl, rfl, SqL.of hl8, atI_nat (j := 8) rfl, t8, _, _, _, rfl, rfl, SqT.of g81, atI_nat (j := 0) rfl, ?_⟩
        refine isT_go he8 hd8 T.e8 T.kP.2 ?_
        exact ⟨_, rfl, hQ _ rfl⟩
      case rest8 =>
      subst e
      try dsimp only [List.set]
      refine stepNo (fun H' => Hx = H') (fun Q' hQ => ?t4) (fun H' e => ?rest9)
      case t4 =>
        refine ⟨_, rfl, l, _, _, _, rfl, rfl, SqL.of hl8, atI_nat (j := 9) rfl, t9, _, _, _, rfl, rfl, SqT.of g91, atI_nat (j := 0) rfl, ?_⟩
        refine isE_go he9 hd9 T.e9 T.kA.1 ?_
        refine ⟨_, rfl, iteF ?_⟩
        refine ⟨_, rfl, l, _, _, _, rfl, rfl, SqL.of hl8, atI_nat (j := 9) rfl, t9, _, _, _, rfl, rfl, SqT.of g91, atI_nat (j := 0) rfl, ?_⟩
        refine isT_go he9 hd9 T.e9 T.kA.2 ?_
        exact ⟨_, rfl, hQ _ rfl⟩
      case rest9 =>
      subst e
      obtain ⟨es, q1, q2⟩ := held_es p8'
      have les : es.length = 8 := paired_len q2
      try dsimp only [List.set]
      refine stepSet (fun u H' => ∃ (r : Addr) (fs : List Addr), u = .ref r ∧ Same H7 H' ∧ H' r = some (.lst (fs.map V.ref)) ∧ Paired (ExAt H') fs T.c11) (fun Q' hQ => ?ev) (fun u H8 hC => ?rest10)
      case ev =>
        dsimp only [tOp]
        refine lcw_listS (K := K) (xs := [t0, t1, t2, t3, t4, t5, t6, t7].map V.ref) (out := fun i => (es[i]?).map V.ref) ?h0 ?hn ?tn ?fn
        case h0 => exact fun R z => ⟨_, rfl, 8, rfl, l, _, rfl, SqL.of hl8, fun p hp => z p hp⟩
        case hn =>
          show 8 ≤ 10000
          decide
        case tn =>
          intro p' hp' m x Hi S Y hx sI h0 h1
          rw [List.getElem?_map] at hx
          obtain ⟨t, ht, rfl⟩ := Option.map_eq_some_iff.mp hx
          obtain ⟨e', he', g1⟩ := paired_at q1 ht
          have g2 := sI _ _ (Same.new (o := .lst ([t0, t1, t2, t3, t4, t5, t6, t7].map V.ref)) hp' _ _ g1)
          refine ⟨t, _, rfl, SqT.of g2, rfl, _, _, rfl, _, _, rfl, rfl, rfl, _, rfl, h1 (.ref e') ?_ Hi (Same.refl _)⟩
          show Option.map V.ref es[m]? = _
          rw [he']
          rfl
        case fn =>
          intro D H' sD hD
          have eo : (List.range ([t0, t1, t2, t3, t4, t5, t6, t7].map V.ref).length).filterMap (fun i => (es[i]?).map V.ref) = es.map V.ref := by
            have q := out_map (l := es) (f := V.ref)
            rw [les] at q
            exact q
          rw [eo] at hD
          dsimp only [tLst, tCons, tNil]
          intro a1 h1 a2 h2 a3 h3
          have n1 := Same.new (o := exo a1 T.z0.C none) h1
          have n2 := Same.new (o := exo a2 T.z1.C none) h2
          have n3 := Same.new (o := exo a3 T.z2.C none) h3
          have x1' : ExAt (upd (upd (upd H' a1 (exo a1 T.z0.C none)) a2 (exo a2 T.z1.C none)) a3 (exo a3 T.z2.C none)) a1 T.z0.C := ⟨none, n3 _ _ (n2 _ _ upd_same), .inl rfl⟩
          have x2' : ExAt (upd (upd (upd H' a1 (exo a1 T.z0.C none)) a2 (exo a2 T.z1.C none)) a3 (exo a3 T.z2.C none)) a2 T.z1.C := ⟨none, n3 _ _ upd_same, .inl rfl⟩
          have x3' : ExAt (upd (upd (upd H' a1 (exo a1 T.z0.C none)) a2 (exo a2 T.z1.C none)) a3 (exo a3 T.z2.C none)) a3 T.z2.C := ⟨none, upd_same, .inl rfl⟩
          have nn : Same H' (upd (upd (upd H' a1 (exo a1 T.z0.C none)) a2 (exo a2 T.z1.C none)) a3 (exo a3 T.z2.C none)) := (n1.trans n2).trans n3
          generalize upd (upd (upd H' a1 (exo a1 T.z0.C none)) a2 (exo a2 T.z1.C none)) a3 (exo a3 T.z2.C none) = G at nn x1' x2' x3' ⊢
          refine ⟨(by show 3 ≤ sizeLine; decide), fun qq hq => ?_⟩
          have nq := Same.new (o := .lst [.ref a1, .ref a2, .ref a3]) hq
          refine ⟨D, qq, _, _, rfl, rfl, nq _ _ (nn _ _ hD), upd_same, (by rw [List.length_map, les]; show 8 + 3 ≤ sizeLine; decide), fun r hr => ?_⟩
          have nr := Same.new (o := .lst (es.map V.ref ++ [V.ref a1, V.ref a2, V.ref a3])) hr
          have sG := (s8.trans sD).trans nn
          have up : ∀ {c C : Addr}, ExAt G c C → ExAt (upd (upd G qq (.lst [.ref a1, .ref a2, .ref a3])) r (.lst (es.map V.ref ++ [V.ref a1, V.ref a2, V.ref a3]))) c C := fun z => (z.same nq).same nr
          refine hQ _ _ ⟨r, es ++ [a1, a2, a3], rfl, (sG.trans nq).trans nr, by rw [upd_same, List.map_append]; rfl, ?_⟩
          exact paired_cat (.cons (up x1') (.cons (up x2') (.cons (up x3') .nil))) (paired_mono (fun _ _ z => up (z.same (sD.trans nn))) q2)
      case rest10 =>
      obtain ⟨r, fs, rfl, s78, hr8, px⟩ := hC
      have lfs : fs.length = 11 := paired_len px
      try dsimp only [List.set]
      refine ⟨_, rfl, r, _, rfl, SqL.of hr8, for_it (n := (fs.map V.ref).length) walk_enum (fun m σ Hy => ∃ z9 z12, σ = [some (.ref a), some (.int (0 + (i : Int))), some (.ref b), some (.int (0 + (j : Int))), some v, some (.ref l), some (.ref h), some (.ref e), some (.ref f), z9, z10, some (.ref r), z12, y13] ∧ Same H8 Hy)
        ⟨_, _, rfl, Same.refl _⟩ (fun m σ Hy _ hP => ?both5) (fun m x σ Hy H' hm hP hY => ?turn5) (fun σ Hy hP => ?after5)⟩
      case both5 =>
        obtain ⟨_, _, _, sy⟩ := hP
        exact SqL.of (sy _ _ hr8)
      case after5 =>
        obtain ⟨_, _, rfl, sy⟩ := hP
        refine ⟨_, _, _, _, _, _, _, _, _, _, _, rfl, kp7.trans (Kp.same (s78.trans sy)), ?_⟩
        obtain ⟨x', y', hx', e'⟩ := hB7
        exact ⟨x', y', hx', sy _ _ (s78 _ _ e')⟩
      case turn5 =>
        obtain ⟨z9', z12', rfl, sy⟩ := hP
        obtain ⟨T1, u1, u2, rfl, hT, rfl, hu1, hu2⟩ := hY
        cases hu1
        have hu2 : (List.map V.ref fs)[m]? = some u2 := hu2
        rw [List.getElem?_map] at hu2
        obtain ⟨c, hc, rfl⟩ := Option.map_eq_some_iff.mp hu2
        obtain ⟨C, hC, hX⟩ := paired_at px hc
        have hm11 : m < 11 := by
          rw [List.length_map, lfs] at hm
          exact hm
        have sT : Same H8 (upd Hy T1 (.tup [.int (m : Nat), .ref c])) := sy.trans (Same.new hT)
        obtain ⟨dd, he', hd'⟩ := hX.same sT
        refine ⟨T1, _, rfl, SqT.of upd_same, rfl, _, _, rfl, _, _, rfl, rfl, ?_⟩
        generalize upd Hy T1 (.tup [.int (m : Nat), V.ref c]) = G at sT he' hd' ⊢
        try dsimp only [List.set]
        refine stepEndB (fun H' => Same G H') (fun Q' hQ => ?tt) (fun H' sH => ⟨_, _, rfl, sT.trans sH⟩)
        case tt =>
          refine ⟨_, rfl, c, C, dd, m, rfl, he', hd', T.ex11 C (List.mem_of_getElem? hC), hm11, hC, fun l2 H2 s2 h2 => ?_⟩
          refine ⟨_, rfl, by decide, by decide, fun D hD => lc_range (lo := 0) (n := 11) (fun s Hi => Same H2 Hi ∧ Hi D = some (.lst ((List.range s).map fun s => V.bl (decide (s = m))))) ⟨Same.new hD, upd_same⟩ (fun s Hi hs hM => ?_) (fun Hi hM => ?_)⟩
          · obtain ⟨sM, eM⟩ := hM
            refine ⟨rfl, _, rfl, _, rfl, rfl, _, eM, small1000 (by rw [List.length_map, List.length_range]; omega), fun a' o z => ?_, ?_⟩
            · rw [upd_ne (ne_of_none z hD)]
              exact sM _ _ z
            · rw [upd_same, spot_eq, List.range_succ, List.map_append]
              rfl
          · obtain ⟨sM, eM⟩ := hM
            have ok := at11_ok m (List.mem_range.mpr hm11)
            have d1 : Dp K Hi (.ref l2) (.list ((at11 m).map PyData.bool)) := .lst (SqL.of (sM _ _ h2)) (dpAll_bools _)
            have d2 : Dp K Hi (.ref D) (.list ((at11 m).map PyData.bool)) := .lst (SqL.of (by rw [eM]; show _ = some (HO.lst ((at11 m).map V.bl)); unfold at11; rw [List.map_map]; rfl)) (dpAll_bools _)
            refine ⟨_, _, d1, d2, ok.1, ok.1, _, rfl, ?_⟩
            rw [ok.2]
            exact hQ _ (s2.trans sM)
end
end Pn

namespace Pn
open PySem PySem.Spec PyProof.Rows L2
/-! ### what the top leaves: asked in one run -/
/-- a def that is asked for: where it lies, its names, its statement, its defaults -/
structure DefQ where
  loc : PySem.W.Frag → Addr
  nm : Str
  ql : Str
  st : Stmt
  dv : List He.Dv := []
abbrev FnQ : Type := Option (Str × Str × Addr × Addr × Arguments × FuncBody × Scope × List (Str × Addr))
def fnSeen (K : PySem.W.Frag) (a : Addr) : FnQ := match K.lookup a with
  | some ⟨_, _, .func q, _⟩ => some (q.qualname, q.name, q.builtins, q.globals, q.params, q.body, q.scope, q.closure)
  | _ => none
def DefQ.is (d : DefQ) : FnQ := some (d.ql, d.nm, builtinsNs, mainGlobals, defArgs d.st, .stmts (defBody d.st), defScope d.st, [])
def DefQ.vals (d : DefQ) (K : PySem.W.Frag) : List V := d.dv.map (He.Dv.v K)
def DefQ.good (K : PySem.W.Frag) (d : DefQ) : Bool := match K.lookup (d.loc K) with
  | some ⟨_, _, .func q, _⟩ => PySem.W.keepIn K (.ref (d.loc K)) && (PySem.W.codeIn K q.code d.ql && He.dflB K q.defaults (d.vals K))
  | _ => false
theorem DefQ.funD {K : PySem.W.Frag} {d : DefQ} (e : fnSeen K (d.loc K) = d.is) (c : d.good K = true) : ∃ fd, FunD K d.nm d.ql (defArgs d.st) (defBody d.st) (defScope d.st) (d.vals K) [] (d.loc K) fd := by
  unfold DefQ.good at c
  unfold fnSeen at e
  cases hl : K.lookup (d.loc K) with
  | none => rw [hl] at c; cases c
  | some o =>
    obtain ⟨oc, od, dat, sl⟩ := o
    rw [hl] at c e
    cases dat with
    | func q =>
      obtain ⟨a1, a2, a3, a4, a5, a6, a7, a8, a9, b1, b2, b3, b4, b5, b6⟩ := q
      have e2 : (some (a2, a1, b6, a6, a3, a4, a5, a7) : FnQ) = some (d.ql, d.nm, builtinsNs, mainGlobals, defArgs d.st, .stmts (defBody d.st), defScope d.st, []) := e
      injection e2 with e2
      obtain ⟨rfl, rfl, rfl, rfl, rfl, rfl, rfl, rfl⟩ : a2 = d.ql ∧ a1 = d.nm ∧ b6 = builtinsNs ∧ a6 = mainGlobals ∧ a3 = defArgs d.st ∧ a4 = .stmts (defBody d.st) ∧ a5 = defScope d.st ∧ a7 = [] := by simpa using e2
      have c2 : (PySem.W.keepIn K (.ref (d.loc K)) && (PySem.W.codeIn K b4 d.ql && He.dflB K a8 (d.vals K))) = true := c
      rw [Bool.and_eq_true, Bool.and_eq_true] at c2
      exact ⟨_, ⟨oc, od, a8, a9, b1, b2, b3, b4, b5, sl, rfl, hl, c2.2.1, He.dflB_ok c2.2.2, .inl rfl⟩, c2.1⟩
    | _ => cases c
theorem fun_of {K : PySem.W.Frag} {x ql : Str} {st : Stmt} {f : Addr} {fd : FuncData} (F : FunD K x ql (defArgs st) (defBody st) (defScope st) [] [] f fd) : Fun K x ql st f fd := by
  obtain ⟨⟨oc, od, dV, kV, doc, pm, an, cdv, ct, sl, e, hl, hc, hd, _⟩, hk⟩ := F
  rcases hd with ⟨_, rfl⟩ | ⟨h, _⟩
  · exact ⟨⟨oc, od, kV, doc, pm, an, cdv, ct, sl, e, hl, hc⟩, hk⟩
  · exact absurd rfl h
abbrev Ask : Type := PySem.W.Frag → Bool
def askQ (fn : List DefQ) (ex : List (List Ask)) (K : PySem.W.Frag) : Bool × List FnQ := ((fn.all fun d => d.good K) && ex.all fun l => l.all fun f => f K, fn.map fun d => fnSeen K (d.loc K))
def toldQ (fn : List DefQ) : Bool × List FnQ := (true, fn.map DefQ.is)
/-- what an object leads to: a def's code and defaults, a class's own names, what a tuple or a dict holds -/
def leadsQ (o : Obj) : List Addr := match o.data with
  | .func q => He.refV q.code ++ He.refV q.defaults
  | .cls q => [q.ns]
  | .dict es _ => es.toList.flatMap fun z => He.refV z.val
  | .seq us _ => us.toList.flatMap He.refV
  | .fields us => us.toList.flatMap He.refV
  | _ => []
def levQ (g : Addr → Option Obj) : Nat → List Addr → List Addr
  | 0, as => as
  | n + 1, as => as ++ levQ g n (as.flatMap fun a => match g a with
    | some o => leadsQ o
    | none => [])
/-- the part of the heap that is looked at -/
def partQ (n : Nat) (g : Addr → Option Obj) : PySem.W.Frag := He.frG g (cStatics :: levQ g n [mainGlobals])
def hookQ (n : Nat) (fn : List DefQ) (ex : List (List Ask)) : PySem.W.Hook where
  α := Bool × List FnQ
  obs := fun s => askQ fn ex (partQ n s.heap.get?)
  val := fun _ => toldQ fn
  says := fun _ h => ∃ K : PySem.W.Frag, K.In h ∧ askQ fn ex K = toldQ fn
  of := fun _ _ e => ⟨_, He.frG_in, e⟩
  keeps := fun _ _ _ h k => by
    obtain ⟨K, hK, c⟩ := h
    exact ⟨K, PySem.W.Frag.In.keeps hK k, c⟩
def seenQ (n : Nat) (fn : List DefQ) (ex : List (List Ask)) (s : PySem.W.SharedT) : Bool × List FnQ := askQ fn ex (partQ n (HandSHeadRun.getT s))
theorem seenQ_eq (n : Nat) (fn : List DefQ) (ex : List (List Ask)) (s : PySem.W.SharedT) : seenQ n fn ex s = (hookQ n fn ex).obs s.abs := by
  have e : HandSHeadRun.getT s = s.abs.heap.get? := funext (HandSHeadRun.getT_eq s)
  unfold seenQ
  rw [e]
  rfl
section
variable {fn : List DefQ} {ex : List (List Ask)} {K : PySem.W.Frag}
theorem told_at (c : askQ fn ex K = toldQ fn) (i j : Nat) {l : List Ask} {f : Ask} (hl : ex[i]? = some l := by rfl) (hf : l[j]? = some f := by rfl) : f K = true := by
  have h := congrArg (fun z : Bool × List FnQ => z.1) c
  have h2 : ((fn.all fun d => d.good K) && ex.all fun l => l.all fun f => f K) = true := h
  rw [Bool.and_eq_true, List.all_eq_true, List.all_eq_true] at h2
  exact List.all_eq_true.mp (h2.2 l (List.mem_of_getElem? hl)) f (List.mem_of_getElem? hf)
theorem told_fn (c : askQ fn ex K = toldQ fn) (i : Nat) {d : DefQ} (hd : fn[i]? = some d := by rfl) : ∃ fd, FunD K d.nm d.ql (defArgs d.st) (defBody d.st) (defScope d.st) (d.vals K) [] (d.loc K) fd := by
  have h := congrArg (fun z : Bool × List FnQ => z.1) c
  have h2 : ((fn.all fun d => d.good K) && ex.all fun l => l.all fun f => f K) = true := h
  rw [Bool.and_eq_true, List.all_eq_true] at h2
  have h3 : fn.map (fun d => fnSeen K (d.loc K)) = fn.map DefQ.is := congrArg (fun z : Bool × List FnQ => z.2) c
  have h4 := congrArg (fun l : List FnQ => l[i]?) h3
  simp only [List.getElem?_map, hd, Option.map_some] at h4
  exact DefQ.funD (Option.some.inj h4) (h2.1 d (List.mem_of_getElem? hd))
end
/-- an own exception class -/
def excQ (K : PySem.W.Frag) (C : Addr) (nid : String) : Bool := match K.lookup C with
  | some ⟨.type t, _, .cls cd, sl⟩ => decide (t = "type") && (cd.hasDict && (!cd.hasDel && ((match cd.mro with
    | .ref D :: bm => decide (D = C) && PySem.HandSPX.refsVE bm
    | _ => false) && (match sl.toList with
    | [_, _, _, _, some (.builtin n), _] => decide (n = nid)
    | _ => false))))
  | _ => false
theorem excQ_ok {K : PySem.W.Frag} {C : Addr} {nid : String} (h : excQ K C nid = true) : ∃ nm q N bs bm sn sub ab col dd k0 k1 k2 k3 k5, K.lookup C = some (excClassObj nm q C N bs bm true sn sub ab col dd k0 k1 k2 k3 k5 nid) ∧ PySem.HandSPX.refsVE bm = true := by
  unfold excQ at h
  split at h
  · rename_i t dd cd sl hl
    rw [Bool.and_eq_true, Bool.and_eq_true, Bool.and_eq_true, Bool.and_eq_true] at h
    obtain ⟨h1, h2, h3, h4, h5⟩ := h
    split at h4
    · rename_i D bm hm
      split at h5
      · rename_i k0 k1 k2 k3 n k5 hs
        rw [Bool.and_eq_true] at h4
        obtain ⟨h6, h7⟩ := h4
        have e1 := of_decide_eq_true h1
        have e2 := of_decide_eq_true h6
        have e3 := of_decide_eq_true h5
        obtain ⟨nm, bs, mro, ns, qn, hd, sn, sub, ab, col, del⟩ := cd
        simp only at hm h2 h3
        have e4 : del = false := by simpa using h3
        have e5 : sl = #[k0, k1, k2, k3, some (.builtin n), k5] := by
          obtain ⟨l⟩ := sl
          simp only at hs
          rw [hs]
        subst e1 e2 e3 e4 e5 h2 hm
        exact ⟨nm, qn, ns, bs, bm, sn, sub, ab, col, dd, k0, k1, k2, k3, k5, hl, h7⟩
      · cases h5
    · cases h4
  · cases h
/-- a tuple of the written part -/
def tupQ (K : PySem.W.Frag) (a : Addr) (vs : List He.Dv) : Bool := match K.lookup a with
  | some ⟨.type t, _, .seq its _, _⟩ => decide (t = "tuple") && (decide (its.size ≤ sizeLine) && He.relAll (vs.map (He.Dv.v K)) its.toList)
  | _ => false
theorem tupQ_ok {K : PySem.W.Frag} {a : Addr} {vs : List He.Dv} (h : tupQ K a vs = true) (H : Hp) : SqT K H a (vs.map (He.Dv.v K)) := by
  unfold tupQ at h
  split at h
  · rename_i t d its n sl hl
    rw [Bool.and_eq_true, Bool.and_eq_true] at h
    have e := of_decide_eq_true h.1
    subst e
    exact .inr ⟨_, its, n, hl, rfl, rfl, of_decide_eq_true h.2.1, He.relAll_ok h.2.2⟩
  · cases h
/-- the getter of a property -/
def getterQ (K : PySem.W.Frag) (p : Addr) : Addr := match PySem.W.recIn K p "property" with
  | some (.ref g :: _) => g
  | _ => 0
def propQ (K : PySem.W.Frag) (C : Addr) (nm : Str) : Bool := decide (PySem.W.findIn K (.ref C) nm = some (some (.ref (He.ma K C nm)))) && (decide (PySem.W.specialIn K (.ref (He.ma K C nm)) "__get__" = some (some (.builtin "property.__get__"))) && (decide (PySem.W.takesIn K (.ref (He.ma K C nm)) = some true) &&
  (match PySem.W.recIn K (He.ma K C nm) "property" with
  | some (.ref _ :: _) => true
  | _ => false)))
theorem propQ_ok {K : PySem.W.Frag} {C : Addr} {nm : Str} (h : propQ K C nm = true) : PropOf K C nm (He.ma K C nm) (getterQ K (He.ma K C nm)) := by
  unfold propQ at h
  rw [Bool.and_eq_true, Bool.and_eq_true, Bool.and_eq_true] at h
  obtain ⟨h1, h2, h3, h4⟩ := h
  refine ⟨of_decide_eq_true h1, of_decide_eq_true h2, of_decide_eq_true h3, ?_⟩
  unfold getterQ
  split at h4
  · rename_i g r hr
    exact ⟨r, by rw [hr]⟩
  · cases h4
end Pn

namespace Pn
open PySem PySem.Spec PyProof.Rows L2
/-! ### own exception classes over KeyError and IndexError, asked in the run -/
def upKey : List Value := [.type "KeyError", .type "LookupError", .type "Exception", .type "BaseException", .type "object"]
def upIndex : List Value := [.type "IndexError", .type "LookupError", .type "Exception", .type "BaseException", .type "object"]
theorem above_key : Above upKey "LookupError" := ⟨by decide +kernel, by decide +kernel, by decide +kernel, by decide +kernel, fun me => by kernel_rfl⟩
theorem above_index : Above upIndex "IndexError" := ⟨by decide +kernel, by decide +kernel, by decide +kernel, by decide +kernel, fun me => by kernel_rfl⟩
/-- a class of exceptions with these classes above it -/
def excQL (K : PySem.W.Frag) (C : Addr) (nid : String) (up : List Value) : Bool := match K.lookup C with
  | some ⟨.type t, _, .cls cd, sl⟩ => decide (t = "type") && (cd.hasDict && (!cd.hasDel && ((match cd.mro with
    | .ref D :: bm => decide (D = C) && (bm == up)
    | _ => false) && (match sl.toList with
    | [_, _, _, _, some (.builtin n), _] => decide (n = nid)
    | _ => false))))
  | _ => false
theorem excQL_ok {K : PySem.W.Frag} {C : Addr} {nid : String} {up : List Value} (h : excQL K C nid up = true) : ∃ nm q N bs sn sub ab col dd k0 k1 k2 k3 k5, K.lookup C = some (excClassObj nm q C N bs up true sn sub ab col dd k0 k1 k2 k3 k5 nid) := by
  unfold excQL at h
  split at h
  · rename_i t dd cd sl hl
    rw [Bool.and_eq_true, Bool.and_eq_true, Bool.and_eq_true, Bool.and_eq_true] at h
    obtain ⟨h1, h2, h3, h4, h5⟩ := h
    split at h4
    · rename_i D bm hm
      split at h5
      · rename_i k0 k1 k2 k3 n k5 hs
        rw [Bool.and_eq_true] at h4
        obtain ⟨h6, h7⟩ := h4
        have e0 := beq_iff_eq.mp h7
        have e1 := of_decide_eq_true h1
        have e2 := of_decide_eq_true h6
        have e3 := of_decide_eq_true h5
        obtain ⟨nm, bs, mro, ns, qn, hd, sn, sub, ab, col, del⟩ := cd
        simp only at hm h2 h3
        have e4 : del = false := by simpa using h3
        have e5 : sl = #[k0, k1, k2, k3, some (.builtin n), k5] := by
          obtain ⟨l⟩ := sl
          simp only at hs
          rw [hs]
        subst e0 e1 e2 e3 e4 e5 h2 hm
        exact ⟨nm, qn, ns, bs, sn, sub, ab, col, dd, k0, k1, k2, k3, k5, hl⟩
      · cases h5
    · cases h4
  · cases h
end Pn

namespace Pn
open PySem PySem.Spec PyProof.Rows L2
def fnQ0 : List DefQ := [
  { loc := fun K => (He.ga K "_law_seed"), nm := "_law_seed", ql := "_law_seed", st := sSeed, dv := [] },
  { loc := fun K => (He.ga K "_law_choose"), nm := "_law_choose", ql := "_law_choose", st := sChoose, dv := [] },
  { loc := fun K => (He.ga K "_law_one_of"), nm := "_law_one_of", ql := "_law_one_of", st := sOne, dv := [] },
  { loc := fun K => (He.ga K "_law_leaf"), nm := "_law_leaf", ql := "_law_leaf", st := sLeaf, dv := [] },
  { loc := fun K => (He.ga K "_law_any"), nm := "_law_any", ql := "_law_any", st := sAny, dv := [] },
  { loc := fun K => (He.ga K "_law_made"), nm := "_law_made", ql := "_law_made", st := sMade1, dv := [] },
  { loc := fun K => (He.ga K "_law_sorts"), nm := "_law_sorts", ql := "_law_sorts", st := sSorts, dv := [] },
  { loc := fun K => (He.ma K (He.ga K "InvalidRow") "__init__"), nm := "__init__", ql := "InvalidRow.__init__", st := sInvalidRowInit, dv := [] },
  { loc := fun K => (He.ma K (He.ga K "InvalidPart") "__init__"), nm := "__init__", ql := "InvalidPart.__init__", st := sInvalidPartInit, dv := [] },
  { loc := fun K => (He.ma K (He.ga K "InvalidBook") "__init__"), nm := "__init__", ql := "InvalidBook.__init__", st := sInvalidBookInit, dv := [] },
  { loc := fun K => (He.ma K (He.ga K "InvalidFilling") "__init__"), nm := "__init__", ql := "InvalidFilling.__init__", st := sInvalidFillingInit, dv := [] },
  { loc := fun K => (He.ma K (He.ga K "InvalidMap") "__init__"), nm := "__init__", ql := "InvalidMap.__init__", st := sInvalidMapInit, dv := [] }]
def fnQ1 : List DefQ := [
  { loc := fun K => (He.ma K (He.ga K "InvalidText") "__init__"), nm := "__init__", ql := "InvalidText.__init__", st := sInvalidTextInit, dv := [] },
  { loc := fun K => (He.ma K (He.ga K "InvalidLeaves") "__init__"), nm := "__init__", ql := "InvalidLeaves.__init__", st := sInvalidLeavesInit, dv := [] },
  { loc := fun K => (He.ma K (He.ga K "Refused") "__init__"), nm := "__init__", ql := "Refused.__init__", st := sRefusedInit, dv := [] },
  { loc := fun K => (He.ma K (He.ga K "NoPlace") "__init__"), nm := "__init__", ql := "NoPlace.__init__", st := sNoPlaceInit, dv := [] },
  { loc := fun K => (He.ma K (He.ga K "NoName") "__init__"), nm := "__init__", ql := "NoName.__init__", st := sNoNameInit, dv := [] },
  { loc := fun K => (He.ga K "law"), nm := "law", ql := "law", st := sLaw1, dv := [] }]
def fnQ : List DefQ := fnQ0 ++ fnQ1
def exQ0 : List Ask := [
  fun K => decide (PySem.W.nsIn K mainGlobals "int" = some none),
  fun K => decide (PySem.W.nsIn K mainGlobals "len" = some none),
  fun K => decide (PySem.W.nsIn K mainGlobals "abs" = some none),
  fun K => decide (PySem.W.nsIn K mainGlobals "max" = some none),
  fun K => decide (PySem.W.nsIn K mainGlobals "min" = some none),
  fun K => decide (PySem.W.nsIn K mainGlobals "range" = some none),
  fun K => decide (PySem.W.nsIn K mainGlobals "enumerate" = some none),
  fun K => decide (PySem.W.nsIn K mainGlobals "isinstance" = some none),
  fun K => decide (PySem.W.nsIn K mainGlobals "repr" = some none),
  fun K => decide (PySem.W.nsIn K mainGlobals "tuple" = some none)]
def exQ1 : List Ask := [
  fun K => decide (PySem.W.nsIn K mainGlobals "ValueError" = some none),
  fun K => decide (PySem.W.nsIn K mainGlobals "IndexError" = some none),
  fun K => decide (PySem.W.nsIn K mainGlobals "KeyError" = some none),
  fun K => decide (PySem.W.nsIn K mainGlobals "_law_seed" = some (some (.ref (He.ga K "_law_seed")))),
  fun K => decide (PySem.W.nsIn K mainGlobals "_law_choose" = some (some (.ref (He.ga K "_law_choose")))),
  fun K => decide (PySem.W.nsIn K mainGlobals "_law_one_of" = some (some (.ref (He.ga K "_law_one_of")))),
  fun K => decide (PySem.W.nsIn K mainGlobals "_law_leaf" = some (some (.ref (He.ga K "_law_leaf")))),
  fun K => decide (PySem.W.nsIn K mainGlobals "_law_any" = some (some (.ref (He.ga K "_law_any")))),
  fun K => decide (PySem.W.nsIn K mainGlobals "_law_made" = some (some (.ref (He.ga K "_law_made")))),
  fun K => decide (PySem.W.nsIn K mainGlobals "_law_sorts" = some (some (.ref (He.ga K "_law_sorts"))))]
def exQ2 : List Ask := [
  fun K => decide (PySem.W.nsIn K mainGlobals "NoteError" = some (some (.ref (He.ga K "NoteError")))),
  fun K => decide (PySem.W.nsIn K mainGlobals "InvalidRow" = some (some (.ref (He.ga K "InvalidRow")))),
  fun K => excQ K (He.ga K "InvalidRow") "ValueError.__new__",
  fun K => decide (PySem.W.findIn K (.ref (He.ga K "InvalidRow")) "__setattr__" = some (some (.builtin "object.__setattr__"))),
  fun K => decide (PySem.W.findIn K (.ref (He.ga K "InvalidRow")) "__getattribute__" = some (some (.builtin "BaseException.__getattribute__"))),
  fun K => decide (PySem.W.findIn K (.ref (He.ga K "InvalidRow")) "__getattr__" = some (none)),
  fun K => decide (PySem.W.findIn K (.ref (He.ga K "InvalidRow")) "word" = some (none)),
  fun K => decide (PySem.W.findIn K (.ref (He.ga K "InvalidRow")) "__init__" = some (some (.ref (He.ma K (He.ga K "InvalidRow") "__init__")))),
  fun K => decide (PySem.W.findIn K (.ref (He.ga K "InvalidRow")) "__class__" = some (some (.builtin "object.__class__"))),
  fun K => decide (PySem.W.typeIn K (.ref (He.ma K (He.ga K "InvalidRow") "__init__")) = some (.type "function"))]
def exQ3 : List Ask := [
  fun K => PySem.W.keepIn K (.ref (He.ga K "InvalidRow")),
  fun K => decide (PySem.W.subIn K (.ref (He.ga K "InvalidRow")) (.type "BaseException") = some true),
  fun K => decide (PySem.W.typeIn K (.ref (He.ga K "InvalidRow")) = some (.type "type")),
  fun K => PySem.W.hasDictIn K (He.ga K "InvalidRow"),
  fun K => PySem.W.isClsIn K (He.ga K "InvalidRow"),
  fun K => decide (PySem.W.subIn K (.ref (He.ga K "InvalidRow")) (.ref (He.ga K "InvalidRow")) = some true),
  fun K => decide (PySem.W.mroIn K (He.ga K "InvalidRow") (.type "object") = some true),
  fun K => decide (PySem.W.nsIn K mainGlobals "InvalidPart" = some (some (.ref (He.ga K "InvalidPart")))),
  fun K => excQ K (He.ga K "InvalidPart") "ValueError.__new__",
  fun K => decide (PySem.W.findIn K (.ref (He.ga K "InvalidPart")) "__setattr__" = some (some (.builtin "object.__setattr__")))]
def exQ4 : List Ask := [
  fun K => decide (PySem.W.findIn K (.ref (He.ga K "InvalidPart")) "__getattribute__" = some (some (.builtin "BaseException.__getattribute__"))),
  fun K => decide (PySem.W.findIn K (.ref (He.ga K "InvalidPart")) "__getattr__" = some (none)),
  fun K => decide (PySem.W.findIn K (.ref (He.ga K "InvalidPart")) "word" = some (none)),
  fun K => decide (PySem.W.findIn K (.ref (He.ga K "InvalidPart")) "__init__" = some (some (.ref (He.ma K (He.ga K "InvalidPart") "__init__")))),
  fun K => decide (PySem.W.findIn K (.ref (He.ga K "InvalidPart")) "__class__" = some (some (.builtin "object.__class__"))),
  fun K => decide (PySem.W.typeIn K (.ref (He.ma K (He.ga K "InvalidPart") "__init__")) = some (.type "function")),
  fun K => PySem.W.keepIn K (.ref (He.ga K "InvalidPart")),
  fun K => decide (PySem.W.subIn K (.ref (He.ga K "InvalidPart")) (.type "BaseException") = some true),
  fun K => decide (PySem.W.typeIn K (.ref (He.ga K "InvalidPart")) = some (.type "type")),
  fun K => PySem.W.hasDictIn K (He.ga K "InvalidPart")]
def exQ5 : List Ask := [
  fun K => PySem.W.isClsIn K (He.ga K "InvalidPart"),
  fun K => decide (PySem.W.subIn K (.ref (He.ga K "InvalidPart")) (.ref (He.ga K "InvalidPart")) = some true),
  fun K => decide (PySem.W.mroIn K (He.ga K "InvalidPart") (.type "object") = some true),
  fun K => decide (PySem.W.nsIn K mainGlobals "InvalidBook" = some (some (.ref (He.ga K "InvalidBook")))),
  fun K => excQ K (He.ga K "InvalidBook") "ValueError.__new__",
  fun K => decide (PySem.W.findIn K (.ref (He.ga K "InvalidBook")) "__setattr__" = some (some (.builtin "object.__setattr__"))),
  fun K => decide (PySem.W.findIn K (.ref (He.ga K "InvalidBook")) "__getattribute__" = some (some (.builtin "BaseException.__getattribute__"))),
  fun K => decide (PySem.W.findIn K (.ref (He.ga K "InvalidBook")) "__getattr__" = some (none)),
  fun K => decide (PySem.W.findIn K (.ref (He.ga K "InvalidBook")) "word" = some (none)),
  fun K => decide (PySem.W.findIn K (.ref (He.ga K "InvalidBook")) "__init__" = some (some (.ref (He.ma K (He.ga K "InvalidBook") "__init__"))))]
def exQ6 : List Ask := [
  fun K => decide (PySem.W.findIn K (.ref (He.ga K "InvalidBook")) "__class__" = some (some (.builtin "object.__class__"))),
  fun K => decide (PySem.W.typeIn K (.ref (He.ma K (He.ga K "InvalidBook") "__init__")) = some (.type "function")),
  fun K => PySem.W.keepIn K (.ref (He.ga K "InvalidBook")),
  fun K => decide (PySem.W.subIn K (.ref (He.ga K "InvalidBook")) (.type "BaseException") = some true),
  fun K => decide (PySem.W.typeIn K (.ref (He.ga K "InvalidBook")) = some (.type "type")),
  fun K => PySem.W.hasDictIn K (He.ga K "InvalidBook"),
  fun K => PySem.W.isClsIn K (He.ga K "InvalidBook"),
  fun K => decide (PySem.W.subIn K (.ref (He.ga K "InvalidBook")) (.ref (He.ga K "InvalidBook")) = some true),
  fun K => decide (PySem.W.mroIn K (He.ga K "InvalidBook") (.type "object") = some true),
  fun K => decide (PySem.W.nsIn K mainGlobals "InvalidFilling" = some (some (.ref (He.ga K "InvalidFilling"))))]
def exQ7 : List Ask := [
  fun K => excQ K (He.ga K "InvalidFilling") "ValueError.__new__",
  fun K => decide (PySem.W.findIn K (.ref (He.ga K "InvalidFilling")) "__setattr__" = some (some (.builtin "object.__setattr__"))),
  fun K => decide (PySem.W.findIn K (.ref (He.ga K "InvalidFilling")) "__getattribute__" = some (some (.builtin "BaseException.__getattribute__"))),
  fun K => decide (PySem.W.findIn K (.ref (He.ga K "InvalidFilling")) "__getattr__" = some (none)),
  fun K => decide (PySem.W.findIn K (.ref (He.ga K "InvalidFilling")) "word" = some (none)),
  fun K => decide (PySem.W.findIn K (.ref (He.ga K "InvalidFilling")) "__init__" = some (some (.ref (He.ma K (He.ga K "InvalidFilling") "__init__")))),
  fun K => decide (PySem.W.findIn K (.ref (He.ga K "InvalidFilling")) "__class__" = some (some (.builtin "object.__class__"))),
  fun K => decide (PySem.W.typeIn K (.ref (He.ma K (He.ga K "InvalidFilling") "__init__")) = some (.type "function")),
  fun K => PySem.W.keepIn K (.ref (He.ga K "InvalidFilling")),
  fun K => decide (PySem.W.subIn K (.ref (He.ga K "InvalidFilling")) (.type "BaseException") = some true)]
def exQ8 : List Ask := [
  fun K => decide (PySem.W.typeIn K (.ref (He.ga K "InvalidFilling")) = some (.type "type")),
  fun K => PySem.W.hasDictIn K (He.ga K "InvalidFilling"),
  fun K => PySem.W.isClsIn K (He.ga K "InvalidFilling"),
  fun K => decide (PySem.W.subIn K (.ref (He.ga K "InvalidFilling")) (.ref (He.ga K "InvalidFilling")) = some true),
  fun K => decide (PySem.W.mroIn K (He.ga K "InvalidFilling") (.type "object") = some true),
  fun K => decide (PySem.W.nsIn K mainGlobals "InvalidMap" = some (some (.ref (He.ga K "InvalidMap")))),
  fun K => excQ K (He.ga K "InvalidMap") "ValueError.__new__",
  fun K => decide (PySem.W.findIn K (.ref (He.ga K "InvalidMap")) "__setattr__" = some (some (.builtin "object.__setattr__"))),
  fun K => decide (PySem.W.findIn K (.ref (He.ga K "InvalidMap")) "__getattribute__" = some (some (.builtin "BaseException.__getattribute__"))),
  fun K => decide (PySem.W.findIn K (.ref (He.ga K "InvalidMap")) "__getattr__" = some (none))]
def exQ9 : List Ask := [
  fun K => decide (PySem.W.findIn K (.ref (He.ga K "InvalidMap")) "word" = some (none)),
  fun K => decide (PySem.W.findIn K (.ref (He.ga K "InvalidMap")) "__init__" = some (some (.ref (He.ma K (He.ga K "InvalidMap") "__init__")))),
  fun K => decide (PySem.W.findIn K (.ref (He.ga K "InvalidMap")) "__class__" = some (some (.builtin "object.__class__"))),
  fun K => decide (PySem.W.typeIn K (.ref (He.ma K (He.ga K "InvalidMap") "__init__")) = some (.type "function")),
  fun K => PySem.W.keepIn K (.ref (He.ga K "InvalidMap")),
  fun K => decide (PySem.W.subIn K (.ref (He.ga K "InvalidMap")) (.type "BaseException") = some true),
  fun K => decide (PySem.W.typeIn K (.ref (He.ga K "InvalidMap")) = some (.type "type")),
  fun K => PySem.W.hasDictIn K (He.ga K "InvalidMap"),
  fun K => PySem.W.isClsIn K (He.ga K "InvalidMap"),
  fun K => decide (PySem.W.subIn K (.ref (He.ga K "InvalidMap")) (.ref (He.ga K "InvalidMap")) = some true)]
def exQ10 : List Ask := [
  fun K => decide (PySem.W.mroIn K (He.ga K "InvalidMap") (.type "object") = some true),
  fun K => decide (PySem.W.nsIn K mainGlobals "InvalidText" = some (some (.ref (He.ga K "InvalidText")))),
  fun K => excQ K (He.ga K "InvalidText") "ValueError.__new__",
  fun K => decide (PySem.W.findIn K (.ref (He.ga K "InvalidText")) "__setattr__" = some (some (.builtin "object.__setattr__"))),
  fun K => decide (PySem.W.findIn K (.ref (He.ga K "InvalidText")) "__getattribute__" = some (some (.builtin "BaseException.__getattribute__"))),
  fun K => decide (PySem.W.findIn K (.ref (He.ga K "InvalidText")) "__getattr__" = some (none)),
  fun K => decide (PySem.W.findIn K (.ref (He.ga K "InvalidText")) "at" = some (none)),
  fun K => decide (PySem.W.findIn K (.ref (He.ga K "InvalidText")) "__init__" = some (some (.ref (He.ma K (He.ga K "InvalidText") "__init__")))),
  fun K => decide (PySem.W.findIn K (.ref (He.ga K "InvalidText")) "__class__" = some (some (.builtin "object.__class__"))),
  fun K => decide (PySem.W.typeIn K (.ref (He.ma K (He.ga K "InvalidText") "__init__")) = some (.type "function"))]
def exQ11 : List Ask := [
  fun K => PySem.W.keepIn K (.ref (He.ga K "InvalidText")),
  fun K => decide (PySem.W.subIn K (.ref (He.ga K "InvalidText")) (.type "BaseException") = some true),
  fun K => decide (PySem.W.typeIn K (.ref (He.ga K "InvalidText")) = some (.type "type")),
  fun K => PySem.W.hasDictIn K (He.ga K "InvalidText"),
  fun K => PySem.W.isClsIn K (He.ga K "InvalidText"),
  fun K => decide (PySem.W.subIn K (.ref (He.ga K "InvalidText")) (.ref (He.ga K "InvalidText")) = some true),
  fun K => decide (PySem.W.mroIn K (He.ga K "InvalidText") (.type "object") = some true),
  fun K => decide (PySem.W.nsIn K mainGlobals "InvalidLeaves" = some (some (.ref (He.ga K "InvalidLeaves")))),
  fun K => excQ K (He.ga K "InvalidLeaves") "ValueError.__new__",
  fun K => decide (PySem.W.findIn K (.ref (He.ga K "InvalidLeaves")) "__setattr__" = some (some (.builtin "object.__setattr__")))]
def exQ12 : List Ask := [
  fun K => decide (PySem.W.findIn K (.ref (He.ga K "InvalidLeaves")) "__getattribute__" = some (some (.builtin "BaseException.__getattribute__"))),
  fun K => decide (PySem.W.findIn K (.ref (He.ga K "InvalidLeaves")) "__getattr__" = some (none)),
  fun K => decide (PySem.W.findIn K (.ref (He.ga K "InvalidLeaves")) "at" = some (none)),
  fun K => decide (PySem.W.findIn K (.ref (He.ga K "InvalidLeaves")) "__init__" = some (some (.ref (He.ma K (He.ga K "InvalidLeaves") "__init__")))),
  fun K => decide (PySem.W.findIn K (.ref (He.ga K "InvalidLeaves")) "__class__" = some (some (.builtin "object.__class__"))),
  fun K => decide (PySem.W.typeIn K (.ref (He.ma K (He.ga K "InvalidLeaves") "__init__")) = some (.type "function")),
  fun K => PySem.W.keepIn K (.ref (He.ga K "InvalidLeaves")),
  fun K => decide (PySem.W.subIn K (.ref (He.ga K "InvalidLeaves")) (.type "BaseException") = some true),
  fun K => decide (PySem.W.typeIn K (.ref (He.ga K "InvalidLeaves")) = some (.type "type")),
  fun K => PySem.W.hasDictIn K (He.ga K "InvalidLeaves")]
def exQ13 : List Ask := [
  fun K => PySem.W.isClsIn K (He.ga K "InvalidLeaves"),
  fun K => decide (PySem.W.subIn K (.ref (He.ga K "InvalidLeaves")) (.ref (He.ga K "InvalidLeaves")) = some true),
  fun K => decide (PySem.W.mroIn K (He.ga K "InvalidLeaves") (.type "object") = some true),
  fun K => decide (PySem.W.nsIn K mainGlobals "Refused" = some (some (.ref (He.ga K "Refused")))),
  fun K => excQ K (He.ga K "Refused") "ValueError.__new__",
  fun K => decide (PySem.W.findIn K (.ref (He.ga K "Refused")) "__setattr__" = some (some (.builtin "object.__setattr__"))),
  fun K => decide (PySem.W.findIn K (.ref (He.ga K "Refused")) "__getattribute__" = some (some (.builtin "BaseException.__getattribute__"))),
  fun K => decide (PySem.W.findIn K (.ref (He.ga K "Refused")) "__getattr__" = some (none)),
  fun K => decide (PySem.W.findIn K (.ref (He.ga K "Refused")) "at" = some (none)),
  fun K => decide (PySem.W.findIn K (.ref (He.ga K "Refused")) "__init__" = some (some (.ref (He.ma K (He.ga K "Refused") "__init__"))))]
def exQ14 : List Ask := [
  fun K => decide (PySem.W.findIn K (.ref (He.ga K "Refused")) "__class__" = some (some (.builtin "object.__class__"))),
  fun K => decide (PySem.W.typeIn K (.ref (He.ma K (He.ga K "Refused") "__init__")) = some (.type "function")),
  fun K => PySem.W.keepIn K (.ref (He.ga K "Refused")),
  fun K => decide (PySem.W.subIn K (.ref (He.ga K "Refused")) (.type "BaseException") = some true),
  fun K => decide (PySem.W.typeIn K (.ref (He.ga K "Refused")) = some (.type "type")),
  fun K => PySem.W.hasDictIn K (He.ga K "Refused"),
  fun K => PySem.W.isClsIn K (He.ga K "Refused"),
  fun K => decide (PySem.W.subIn K (.ref (He.ga K "Refused")) (.ref (He.ga K "Refused")) = some true),
  fun K => decide (PySem.W.mroIn K (He.ga K "Refused") (.type "object") = some true),
  fun K => decide (PySem.W.nsIn K mainGlobals "NoPlace" = some (some (.ref (He.ga K "NoPlace"))))]
def exQ15 : List Ask := [
  fun K => excQL K (He.ga K "NoPlace") "IndexError.__new__" upIndex,
  fun K => decide (PySem.W.findIn K (.ref (He.ga K "NoPlace")) "__setattr__" = some (some (.builtin "object.__setattr__"))),
  fun K => decide (PySem.W.findIn K (.ref (He.ga K "NoPlace")) "__getattribute__" = some (some (.builtin "BaseException.__getattribute__"))),
  fun K => decide (PySem.W.findIn K (.ref (He.ga K "NoPlace")) "__getattr__" = some (none)),
  fun K => decide (PySem.W.findIn K (.ref (He.ga K "NoPlace")) "at" = some (none)),
  fun K => decide (PySem.W.findIn K (.ref (He.ga K "NoPlace")) "__init__" = some (some (.ref (He.ma K (He.ga K "NoPlace") "__init__")))),
  fun K => decide (PySem.W.typeIn K (.ref (He.ma K (He.ga K "NoPlace") "__init__")) = some (.type "function")),
  fun K => PySem.W.keepIn K (.ref (He.ga K "NoPlace")),
  fun K => decide (PySem.W.subIn K (.ref (He.ga K "NoPlace")) (.type "BaseException") = some true),
  fun K => decide (PySem.W.typeIn K (.ref (He.ga K "NoPlace")) = some (.type "type"))]
def exQ16 : List Ask := [
  fun K => PySem.W.hasDictIn K (He.ga K "NoPlace"),
  fun K => decide (PySem.W.findIn K (.ref (He.ga K "NoPlace")) "__class__" = some (some (.builtin "object.__class__"))),
  fun K => decide (PySem.W.mroIn K (He.ga K "NoPlace") (.type "object") = some true),
  fun K => decide (PySem.W.nsIn K mainGlobals "NoName" = some (some (.ref (He.ga K "NoName")))),
  fun K => excQL K (He.ga K "NoName") "LookupError.__new__" upKey,
  fun K => decide (PySem.W.findIn K (.ref (He.ga K "NoName")) "__setattr__" = some (some (.builtin "object.__setattr__"))),
  fun K => decide (PySem.W.findIn K (.ref (He.ga K "NoName")) "__getattribute__" = some (some (.builtin "BaseException.__getattribute__"))),
  fun K => decide (PySem.W.findIn K (.ref (He.ga K "NoName")) "__getattr__" = some (none)),
  fun K => decide (PySem.W.findIn K (.ref (He.ga K "NoName")) "name" = some (none)),
  fun K => decide (PySem.W.findIn K (.ref (He.ga K "NoName")) "__init__" = some (some (.ref (He.ma K (He.ga K "NoName") "__init__"))))]
def exQ17 : List Ask := [
  fun K => decide (PySem.W.typeIn K (.ref (He.ma K (He.ga K "NoName") "__init__")) = some (.type "function")),
  fun K => PySem.W.keepIn K (.ref (He.ga K "NoName")),
  fun K => decide (PySem.W.subIn K (.ref (He.ga K "NoName")) (.type "BaseException") = some true),
  fun K => decide (PySem.W.typeIn K (.ref (He.ga K "NoName")) = some (.type "type")),
  fun K => PySem.W.hasDictIn K (He.ga K "NoName"),
  fun K => decide (PySem.W.findIn K (.ref (He.ga K "NoName")) "__class__" = some (some (.builtin "object.__class__"))),
  fun K => decide (PySem.W.mroIn K (He.ga K "NoName") (.type "object") = some true),
  fun K => decide (PySem.W.nsIn K mainGlobals "InvalidFault" = some (some (.ref (He.ga K "InvalidFault")))),
  fun K => excQ K (He.ga K "InvalidFault") "ValueError.__new__",
  fun K => decide (PySem.W.findIn K (.ref (He.ga K "InvalidFault")) "__setattr__" = some (some (.builtin "object.__setattr__")))]
def exQ18 : List Ask := [
  fun K => decide (PySem.W.findIn K (.ref (He.ga K "InvalidFault")) "__getattribute__" = some (some (.builtin "BaseException.__getattribute__"))),
  fun K => decide (PySem.W.findIn K (.ref (He.ga K "InvalidFault")) "__getattr__" = some (none)),
  fun K => decide (PySem.W.findIn K (.ref (He.ga K "InvalidFault")) "__init__" = some (some (.builtin "ValueError.__init__"))),
  fun K => decide (PySem.W.findIn K (.ref (He.ga K "InvalidFault")) "__class__" = some (some (.builtin "object.__class__"))),
  fun K => PySem.W.keepIn K (.ref (He.ga K "InvalidFault")),
  fun K => decide (PySem.W.subIn K (.ref (He.ga K "InvalidFault")) (.type "BaseException") = some true),
  fun K => decide (PySem.W.typeIn K (.ref (He.ga K "InvalidFault")) = some (.type "type")),
  fun K => PySem.W.hasDictIn K (He.ga K "InvalidFault"),
  fun K => decide (PySem.W.mroIn K (He.ga K "InvalidFault") (.type "object") = some true),
  fun K => decide (PySem.W.nsIn K mainGlobals "InvalidCommand" = some (some (.ref (He.ga K "InvalidCommand"))))]
def exQ19 : List Ask := [
  fun K => excQ K (He.ga K "InvalidCommand") "ValueError.__new__",
  fun K => decide (PySem.W.findIn K (.ref (He.ga K "InvalidCommand")) "__setattr__" = some (some (.builtin "object.__setattr__"))),
  fun K => decide (PySem.W.findIn K (.ref (He.ga K "InvalidCommand")) "__getattribute__" = some (some (.builtin "BaseException.__getattribute__"))),
  fun K => decide (PySem.W.findIn K (.ref (He.ga K "InvalidCommand")) "__getattr__" = some (none)),
  fun K => decide (PySem.W.findIn K (.ref (He.ga K "InvalidCommand")) "__init__" = some (some (.builtin "ValueError.__init__"))),
  fun K => decide (PySem.W.findIn K (.ref (He.ga K "InvalidCommand")) "__class__" = some (some (.builtin "object.__class__"))),
  fun K => PySem.W.keepIn K (.ref (He.ga K "InvalidCommand")),
  fun K => decide (PySem.W.subIn K (.ref (He.ga K "InvalidCommand")) (.type "BaseException") = some true),
  fun K => decide (PySem.W.typeIn K (.ref (He.ga K "InvalidCommand")) = some (.type "type")),
  fun K => PySem.W.hasDictIn K (He.ga K "InvalidCommand")]
def exQ20 : List Ask := [
  fun K => decide (PySem.W.mroIn K (He.ga K "InvalidCommand") (.type "object") = some true),
  fun K => decide (PySem.W.nsIn K mainGlobals "Mismatch" = some (some (.ref (He.ga K "Mismatch")))),
  fun K => excQ K (He.ga K "Mismatch") "ValueError.__new__",
  fun K => decide (PySem.W.findIn K (.ref (He.ga K "Mismatch")) "__setattr__" = some (some (.builtin "object.__setattr__"))),
  fun K => decide (PySem.W.findIn K (.ref (He.ga K "Mismatch")) "__getattribute__" = some (some (.builtin "BaseException.__getattribute__"))),
  fun K => decide (PySem.W.findIn K (.ref (He.ga K "Mismatch")) "__getattr__" = some (none)),
  fun K => decide (PySem.W.findIn K (.ref (He.ga K "Mismatch")) "__init__" = some (some (.builtin "ValueError.__init__"))),
  fun K => decide (PySem.W.findIn K (.ref (He.ga K "Mismatch")) "__class__" = some (some (.builtin "object.__class__"))),
  fun K => PySem.W.keepIn K (.ref (He.ga K "Mismatch")),
  fun K => decide (PySem.W.subIn K (.ref (He.ga K "Mismatch")) (.type "BaseException") = some true)]
def exQ21 : List Ask := [
  fun K => decide (PySem.W.typeIn K (.ref (He.ga K "Mismatch")) = some (.type "type")),
  fun K => PySem.W.hasDictIn K (He.ga K "Mismatch"),
  fun K => decide (PySem.W.mroIn K (He.ga K "Mismatch") (.type "object") = some true),
  fun K => decide (PySem.W.nsIn K mainGlobals "law" = some (some (.ref (He.ga K "law")))),
  fun K => decide (PySem.W.specialIn K (.builtin "object.__class__") "__get__" = some (some (.builtin "getset_descriptor.__get__"))),
  fun K => decide (PySem.W.takesIn K (.builtin "object.__class__") = some true),
  fun K => kit11 K [(He.ga K "InvalidRow"), (He.ga K "InvalidPart"), (He.ga K "InvalidBook"), (He.ga K "InvalidFilling"), (He.ga K "InvalidMap"), (He.ga K "InvalidText"), (He.ga K "InvalidLeaves"), (He.ga K "Refused"), (He.ga K "InvalidFault"), (He.ga K "InvalidCommand"), (He.ga K "Mismatch")],
  fun K => decide (PySem.W.kitOne K (.ref (He.ga K "InvalidRow")) (.ref (He.ga K "NoteError")) = some true),
  fun K => decide (PySem.W.kitOne K (.ref (He.ga K "InvalidRow")) (.type "ValueError") = some true),
  fun K => decide (PySem.W.kitOne K (.ref (He.ga K "InvalidPart")) (.ref (He.ga K "NoteError")) = some true)]
def exQ22 : List Ask := [
  fun K => decide (PySem.W.kitOne K (.ref (He.ga K "InvalidPart")) (.type "ValueError") = some true),
  fun K => decide (PySem.W.kitOne K (.ref (He.ga K "InvalidBook")) (.ref (He.ga K "NoteError")) = some true),
  fun K => decide (PySem.W.kitOne K (.ref (He.ga K "InvalidBook")) (.type "ValueError") = some true),
  fun K => decide (PySem.W.kitOne K (.ref (He.ga K "InvalidFilling")) (.ref (He.ga K "NoteError")) = some true),
  fun K => decide (PySem.W.kitOne K (.ref (He.ga K "InvalidFilling")) (.type "ValueError") = some true),
  fun K => decide (PySem.W.kitOne K (.ref (He.ga K "InvalidMap")) (.ref (He.ga K "NoteError")) = some true),
  fun K => decide (PySem.W.kitOne K (.ref (He.ga K "InvalidMap")) (.type "ValueError") = some true),
  fun K => decide (PySem.W.kitOne K (.ref (He.ga K "InvalidText")) (.ref (He.ga K "NoteError")) = some true),
  fun K => decide (PySem.W.kitOne K (.ref (He.ga K "InvalidText")) (.type "ValueError") = some true),
  fun K => decide (PySem.W.kitOne K (.ref (He.ga K "InvalidLeaves")) (.ref (He.ga K "NoteError")) = some true)]
def exQ23 : List Ask := [
  fun K => decide (PySem.W.kitOne K (.ref (He.ga K "InvalidLeaves")) (.type "ValueError") = some true),
  fun K => decide (PySem.W.kitOne K (.ref (He.ga K "Refused")) (.ref (He.ga K "NoteError")) = some true),
  fun K => decide (PySem.W.kitOne K (.ref (He.ga K "Refused")) (.type "ValueError") = some true),
  fun K => decide (PySem.W.kitOne K (.ref (He.ga K "NoPlace")) (.ref (He.ga K "NoteError")) = some false),
  fun K => decide (PySem.W.kitOne K (.ref (He.ga K "NoPlace")) (.type "IndexError") = some true),
  fun K => decide (PySem.W.kitOne K (.ref (He.ga K "NoName")) (.ref (He.ga K "NoteError")) = some false),
  fun K => decide (PySem.W.kitOne K (.ref (He.ga K "NoName")) (.type "KeyError") = some true)]
def exR0 : List (List Ask) := [exQ0, exQ1, exQ2, exQ3, exQ4, exQ5, exQ6, exQ7, exQ8, exQ9, exQ10, exQ11, exQ12, exQ13, exQ14, exQ15, exQ16, exQ17, exQ18, exQ19]
def exR1 : List (List Ask) := [exQ20, exQ21, exQ22, exQ23]
def exQ : List (List Ask) := exR0 ++ exR1
theorem facts {P : Program} {w : World} {K : PySem.W.Frag} {h : Heap} {mg : Str → Option Value} {fa : Addr} (X : K.In h) (G : h.Ns mainGlobals mg) (hfa : mg ("law" : Str) = some (.ref fa)) (c : askQ fnQ exQ K = toldQ fnQ) :
    ∃ fd : FuncData, (∀ (s : Shared) (v : Value), BindsTo s fd ⟨[v], []⟩ [("_law_script", v)]) ∧ ∀ base : Heap, K.In base → base.Ns mainGlobals mg → RunAt P w K mg base callerA fa fd ["_law_script"] (spLaw1 K) := by
  have zint : PySem.W.nsIn K mainGlobals "int" = some none := of_decide_eq_true (told_at c 0 0)
  have zlen : PySem.W.nsIn K mainGlobals "len" = some none := of_decide_eq_true (told_at c 0 1)
  have zabs : PySem.W.nsIn K mainGlobals "abs" = some none := of_decide_eq_true (told_at c 0 2)
  have zmax : PySem.W.nsIn K mainGlobals "max" = some none := of_decide_eq_true (told_at c 0 3)
  have zmin : PySem.W.nsIn K mainGlobals "min" = some none := of_decide_eq_true (told_at c 0 4)
  have zrange : PySem.W.nsIn K mainGlobals "range" = some none := of_decide_eq_true (told_at c 0 5)
  have zenumerate : PySem.W.nsIn K mainGlobals "enumerate" = some none := of_decide_eq_true (told_at c 0 6)
  have zisinstance : PySem.W.nsIn K mainGlobals "isinstance" = some none := of_decide_eq_true (told_at c 0 7)
  have zrepr : PySem.W.nsIn K mainGlobals "repr" = some none := of_decide_eq_true (told_at c 0 8)
  have ztuple : PySem.W.nsIn K mainGlobals "tuple" = some none := of_decide_eq_true (told_at c 0 9)
  have zValueError : PySem.W.nsIn K mainGlobals "ValueError" = some none := of_decide_eq_true (told_at c 1 0)
  have zIndexError : PySem.W.nsIn K mainGlobals "IndexError" = some none := of_decide_eq_true (told_at c 1 1)
  have zKeyError : PySem.W.nsIn K mainGlobals "KeyError" = some none := of_decide_eq_true (told_at c 1 2)
  have alawseed : PySem.W.nsIn K mainGlobals "_law_seed" = some (some (.ref (He.ga K "_law_seed"))) := of_decide_eq_true (told_at c 1 3)
  obtain ⟨fdlawseed, Ylawseed⟩ := told_fn c 0
  have Xlawseed : Fun K "_law_seed" "_law_seed" sSeed (He.ga K "_law_seed") fdlawseed := fun_of Ylawseed
  have alawchoose : PySem.W.nsIn K mainGlobals "_law_choose" = some (some (.ref (He.ga K "_law_choose"))) := of_decide_eq_true (told_at c 1 4)
  obtain ⟨fdlawchoose, Ylawchoose⟩ := told_fn c 1
  have Xlawchoose : Fun K "_law_choose" "_law_choose" sChoose (He.ga K "_law_choose") fdlawchoose := fun_of Ylawchoose
  have alawoneof : PySem.W.nsIn K mainGlobals "_law_one_of" = some (some (.ref (He.ga K "_law_one_of"))) := of_decide_eq_true (told_at c 1 5)
  obtain ⟨fdlawoneof, Ylawoneof⟩ := told_fn c 2
  have Xlawoneof : Fun K "_law_one_of" "_law_one_of" sOne (He.ga K "_law_one_of") fdlawoneof := fun_of Ylawoneof
  have alawleaf : PySem.W.nsIn K mainGlobals "_law_leaf" = some (some (.ref (He.ga K "_law_leaf"))) := of_decide_eq_true (told_at c 1 6)
  obtain ⟨fdlawleaf, Ylawleaf⟩ := told_fn c 3
  have Xlawleaf : Fun K "_law_leaf" "_law_leaf" sLeaf (He.ga K "_law_leaf") fdlawleaf := fun_of Ylawleaf
  have alawany : PySem.W.nsIn K mainGlobals "_law_any" = some (some (.ref (He.ga K "_law_any"))) := of_decide_eq_true (told_at c 1 7)
  obtain ⟨fdlawany, Ylawany⟩ := told_fn c 4
  have Xlawany : Fun K "_law_any" "_law_any" sAny (He.ga K "_law_any") fdlawany := fun_of Ylawany
  have alawmade : PySem.W.nsIn K mainGlobals "_law_made" = some (some (.ref (He.ga K "_law_made"))) := of_decide_eq_true (told_at c 1 8)
  obtain ⟨fdlawmade, Ylawmade⟩ := told_fn c 5
  have Xlawmade : Fun K "_law_made" "_law_made" sMade1 (He.ga K "_law_made") fdlawmade := fun_of Ylawmade
  have alawsorts : PySem.W.nsIn K mainGlobals "_law_sorts" = some (some (.ref (He.ga K "_law_sorts"))) := of_decide_eq_true (told_at c 1 9)
  obtain ⟨fdlawsorts, Ylawsorts⟩ := told_fn c 6
  have Xlawsorts : Fun K "_law_sorts" "_law_sorts" sSorts (He.ga K "_law_sorts") fdlawsorts := fun_of Ylawsorts
  have aNoteError : PySem.W.nsIn K mainGlobals "NoteError" = some (some (.ref (He.ga K "NoteError"))) := of_decide_eq_true (told_at c 2 0)
  have aInvalidRow : PySem.W.nsIn K mainGlobals "InvalidRow" = some (some (.ref (He.ga K "InvalidRow"))) := of_decide_eq_true (told_at c 2 1)
  have xInvalidRow := excQ_ok (K := K) (C := (He.ga K "InvalidRow")) (nid := "ValueError.__new__") (told_at c 2 2)
  have saInvalidRow : PySem.W.findIn K (.ref (He.ga K "InvalidRow")) "__setattr__" = some (some (.builtin "object.__setattr__")) := of_decide_eq_true (told_at c 2 3)
  have gaInvalidRow : PySem.W.findIn K (.ref (He.ga K "InvalidRow")) "__getattribute__" = some (some (.builtin "BaseException.__getattribute__")) := of_decide_eq_true (told_at c 2 4)
  have ggInvalidRow : PySem.W.findIn K (.ref (He.ga K "InvalidRow")) "__getattr__" = some (none) := of_decide_eq_true (told_at c 2 5)
  have nfInvalidRow : PySem.W.findIn K (.ref (He.ga K "InvalidRow")) "word" = some (none) := of_decide_eq_true (told_at c 2 6)
  have inInvalidRow : PySem.W.findIn K (.ref (He.ga K "InvalidRow")) "__init__" = some (some (.ref (He.ma K (He.ga K "InvalidRow") "__init__"))) := of_decide_eq_true (told_at c 2 7)
  have haInvalidRow : PySem.W.findIn K (.ref (He.ga K "InvalidRow")) "__class__" = some (some (.builtin "object.__class__")) := of_decide_eq_true (told_at c 2 8)
  have tiInvalidRow : PySem.W.typeIn K (.ref (He.ma K (He.ga K "InvalidRow") "__init__")) = some (.type "function") := of_decide_eq_true (told_at c 2 9)
  obtain ⟨fdInvalidRow, YInvalidRow⟩ := told_fn c 7
  have XInvalidRow : Fun K "__init__" "InvalidRow.__init__" sInvalidRowInit (He.ma K (He.ga K "InvalidRow") "__init__") fdInvalidRow := fun_of YInvalidRow
  have kcInvalidRow : PySem.W.keepIn K (.ref (He.ga K "InvalidRow")) = true := (told_at c 3 0)
  have eCInvalidRow : PySem.W.subIn K (.ref (He.ga K "InvalidRow")) (.type "BaseException") = some true := of_decide_eq_true (told_at c 3 1)
  have tCInvalidRow : PySem.W.typeIn K (.ref (He.ga K "InvalidRow")) = some (.type "type") := of_decide_eq_true (told_at c 3 2)
  have hCInvalidRow : PySem.W.hasDictIn K (He.ga K "InvalidRow") = true := (told_at c 3 3)
  have iCInvalidRow : PySem.W.isClsIn K (He.ga K "InvalidRow") = true := (told_at c 3 4)
  have sCInvalidRow : PySem.W.subIn K (.ref (He.ga K "InvalidRow")) (.ref (He.ga K "InvalidRow")) = some true := of_decide_eq_true (told_at c 3 5)
  have hmInvalidRow : PySem.W.mroIn K (He.ga K "InvalidRow") (.type "object") = some true := of_decide_eq_true (told_at c 3 6)
  have aInvalidPart : PySem.W.nsIn K mainGlobals "InvalidPart" = some (some (.ref (He.ga K "InvalidPart"))) := of_decide_eq_true (told_at c 3 7)
  have xInvalidPart := excQ_ok (K := K) (C := (He.ga K "InvalidPart")) (nid := "ValueError.__new__") (told_at c 3 8)
  have saInvalidPart : PySem.W.findIn K (.ref (He.ga K "InvalidPart")) "__setattr__" = some (some (.builtin "object.__setattr__")) := of_decide_eq_true (told_at c 3 9)
  have gaInvalidPart : PySem.W.findIn K (.ref (He.ga K "InvalidPart")) "__getattribute__" = some (some (.builtin "BaseException.__getattribute__")) := of_decide_eq_true (told_at c 4 0)
  have ggInvalidPart : PySem.W.findIn K (.ref (He.ga K "InvalidPart")) "__getattr__" = some (none) := of_decide_eq_true (told_at c 4 1)
  have nfInvalidPart : PySem.W.findIn K (.ref (He.ga K "InvalidPart")) "word" = some (none) := of_decide_eq_true (told_at c 4 2)
  have inInvalidPart : PySem.W.findIn K (.ref (He.ga K "InvalidPart")) "__init__" = some (some (.ref (He.ma K (He.ga K "InvalidPart") "__init__"))) := of_decide_eq_true (told_at c 4 3)
  have haInvalidPart : PySem.W.findIn K (.ref (He.ga K "InvalidPart")) "__class__" = some (some (.builtin "object.__class__")) := of_decide_eq_true (told_at c 4 4)
  have tiInvalidPart : PySem.W.typeIn K (.ref (He.ma K (He.ga K "InvalidPart") "__init__")) = some (.type "function") := of_decide_eq_true (told_at c 4 5)
  obtain ⟨fdInvalidPart, YInvalidPart⟩ := told_fn c 8
  have XInvalidPart : Fun K "__init__" "InvalidPart.__init__" sInvalidPartInit (He.ma K (He.ga K "InvalidPart") "__init__") fdInvalidPart := fun_of YInvalidPart
  have kcInvalidPart : PySem.W.keepIn K (.ref (He.ga K "InvalidPart")) = true := (told_at c 4 6)
  have eCInvalidPart : PySem.W.subIn K (.ref (He.ga K "InvalidPart")) (.type "BaseException") = some true := of_decide_eq_true (told_at c 4 7)
  have tCInvalidPart : PySem.W.typeIn K (.ref (He.ga K "InvalidPart")) = some (.type "type") := of_decide_eq_true (told_at c 4 8)
  have hCInvalidPart : PySem.W.hasDictIn K (He.ga K "InvalidPart") = true := (told_at c 4 9)
  have iCInvalidPart : PySem.W.isClsIn K (He.ga K "InvalidPart") = true := (told_at c 5 0)
  have sCInvalidPart : PySem.W.subIn K (.ref (He.ga K "InvalidPart")) (.ref (He.ga K "InvalidPart")) = some true := of_decide_eq_true (told_at c 5 1)
  have hmInvalidPart : PySem.W.mroIn K (He.ga K "InvalidPart") (.type "object") = some true := of_decide_eq_true (told_at c 5 2)
  have aInvalidBook : PySem.W.nsIn K mainGlobals "InvalidBook" = some (some (.ref (He.ga K "InvalidBook"))) := of_decide_eq_true (told_at c 5 3)
  have xInvalidBook := excQ_ok (K := K) (C := (He.ga K "InvalidBook")) (nid := "ValueError.__new__") (told_at c 5 4)
  have saInvalidBook : PySem.W.findIn K (.ref (He.ga K "InvalidBook")) "__setattr__" = some (some (.builtin "object.__setattr__")) := of_decide_eq_true (told_at c 5 5)
  have gaInvalidBook : PySem.W.findIn K (.ref (He.ga K "InvalidBook")) "__getattribute__" = some (some (.builtin "BaseException.__getattribute__")) := of_decide_eq_true (told_at c 5 6)
  have ggInvalidBook : PySem.W.findIn K (.ref (He.ga K "InvalidBook")) "__getattr__" = some (none) := of_decide_eq_true (told_at c 5 7)
  have nfInvalidBook : PySem.W.findIn K (.ref (He.ga K "InvalidBook")) "word" = some (none) := of_decide_eq_true (told_at c 5 8)
  have inInvalidBook : PySem.W.findIn K (.ref (He.ga K "InvalidBook")) "__init__" = some (some (.ref (He.ma K (He.ga K "InvalidBook") "__init__"))) := of_decide_eq_true (told_at c 5 9)
  have haInvalidBook : PySem.W.findIn K (.ref (He.ga K "InvalidBook")) "__class__" = some (some (.builtin "object.__class__")) := of_decide_eq_true (told_at c 6 0)
  have tiInvalidBook : PySem.W.typeIn K (.ref (He.ma K (He.ga K "InvalidBook") "__init__")) = some (.type "function") := of_decide_eq_true (told_at c 6 1)
  obtain ⟨fdInvalidBook, YInvalidBook⟩ := told_fn c 9
  have XInvalidBook : Fun K "__init__" "InvalidBook.__init__" sInvalidBookInit (He.ma K (He.ga K "InvalidBook") "__init__") fdInvalidBook := fun_of YInvalidBook
  have kcInvalidBook : PySem.W.keepIn K (.ref (He.ga K "InvalidBook")) = true := (told_at c 6 2)
  have eCInvalidBook : PySem.W.subIn K (.ref (He.ga K "InvalidBook")) (.type "BaseException") = some true := of_decide_eq_true (told_at c 6 3)
  have tCInvalidBook : PySem.W.typeIn K (.ref (He.ga K "InvalidBook")) = some (.type "type") := of_decide_eq_true (told_at c 6 4)
  have hCInvalidBook : PySem.W.hasDictIn K (He.ga K "InvalidBook") = true := (told_at c 6 5)
  have iCInvalidBook : PySem.W.isClsIn K (He.ga K "InvalidBook") = true := (told_at c 6 6)
  have sCInvalidBook : PySem.W.subIn K (.ref (He.ga K "InvalidBook")) (.ref (He.ga K "InvalidBook")) = some true := of_decide_eq_true (told_at c 6 7)
  have hmInvalidBook : PySem.W.mroIn K (He.ga K "InvalidBook") (.type "object") = some true := of_decide_eq_true (told_at c 6 8)
  have aInvalidFilling : PySem.W.nsIn K mainGlobals "InvalidFilling" = some (some (.ref (He.ga K "InvalidFilling"))) := of_decide_eq_true (told_at c 6 9)
  have xInvalidFilling := excQ_ok (K := K) (C := (He.ga K "InvalidFilling")) (nid := "ValueError.__new__") (told_at c 7 0)
  have saInvalidFilling : PySem.W.findIn K (.ref (He.ga K "InvalidFilling")) "__setattr__" = some (some (.builtin "object.__setattr__")) := of_decide_eq_true (told_at c 7 1)
  have gaInvalidFilling : PySem.W.findIn K (.ref (He.ga K "InvalidFilling")) "__getattribute__" = some (some (.builtin "BaseException.__getattribute__")) := of_decide_eq_true (told_at c 7 2)
  have ggInvalidFilling : PySem.W.findIn K (.ref (He.ga K "InvalidFilling")) "__getattr__" = some (none) := of_decide_eq_true (told_at c 7 3)
  have nfInvalidFilling : PySem.W.findIn K (.ref (He.ga K "InvalidFilling")) "word" = some (none) := of_decide_eq_true (told_at c 7 4)
  have inInvalidFilling : PySem.W.findIn K (.ref (He.ga K "InvalidFilling")) "__init__" = some (some (.ref (He.ma K (He.ga K "InvalidFilling") "__init__"))) := of_decide_eq_true (told_at c 7 5)
  have haInvalidFilling : PySem.W.findIn K (.ref (He.ga K "InvalidFilling")) "__class__" = some (some (.builtin "object.__class__")) := of_decide_eq_true (told_at c 7 6)
  have tiInvalidFilling : PySem.W.typeIn K (.ref (He.ma K (He.ga K "InvalidFilling") "__init__")) = some (.type "function") := of_decide_eq_true (told_at c 7 7)
  obtain ⟨fdInvalidFilling, YInvalidFilling⟩ := told_fn c 10
  have XInvalidFilling : Fun K "__init__" "InvalidFilling.__init__" sInvalidFillingInit (He.ma K (He.ga K "InvalidFilling") "__init__") fdInvalidFilling := fun_of YInvalidFilling
  have kcInvalidFilling : PySem.W.keepIn K (.ref (He.ga K "InvalidFilling")) = true := (told_at c 7 8)
  have eCInvalidFilling : PySem.W.subIn K (.ref (He.ga K "InvalidFilling")) (.type "BaseException") = some true := of_decide_eq_true (told_at c 7 9)
  have tCInvalidFilling : PySem.W.typeIn K (.ref (He.ga K "InvalidFilling")) = some (.type "type") := of_decide_eq_true (told_at c 8 0)
  have hCInvalidFilling : PySem.W.hasDictIn K (He.ga K "InvalidFilling") = true := (told_at c 8 1)
  have iCInvalidFilling : PySem.W.isClsIn K (He.ga K "InvalidFilling") = true := (told_at c 8 2)
  have sCInvalidFilling : PySem.W.subIn K (.ref (He.ga K "InvalidFilling")) (.ref (He.ga K "InvalidFilling")) = some true := of_decide_eq_true (told_at c 8 3)
  have hmInvalidFilling : PySem.W.mroIn K (He.ga K "InvalidFilling") (.type "object") = some true := of_decide_eq_true (told_at c 8 4)
  have aInvalidMap : PySem.W.nsIn K mainGlobals "InvalidMap" = some (some (.ref (He.ga K "InvalidMap"))) := of_decide_eq_true (told_at c 8 5)
  have xInvalidMap := excQ_ok (K := K) (C := (He.ga K "InvalidMap")) (nid := "ValueError.__new__") (told_at c 8 6)
  have saInvalidMap : PySem.W.findIn K (.ref (He.ga K "InvalidMap")) "__setattr__" = some (some (.builtin "object.__setattr__")) := of_decide_eq_true (told_at c 8 7)
  have gaInvalidMap : PySem.W.findIn K (.ref (He.ga K "InvalidMap")) "__getattribute__" = some (some (.builtin "BaseException.__getattribute__")) := of_decide_eq_true (told_at c 8 8)
  have ggInvalidMap : PySem.W.findIn K (.ref (He.ga K "InvalidMap")) "__getattr__" = some (none) := of_decide_eq_true (told_at c 8 9)
  have nfInvalidMap : PySem.W.findIn K (.ref (He.ga K "InvalidMap")) "word" = some (none) := of_decide_eq_true (told_at c 9 0)
  have inInvalidMap : PySem.W.findIn K (.ref (He.ga K "InvalidMap")) "__init__" = some (some (.ref (He.ma K (He.ga K "InvalidMap") "__init__"))) := of_decide_eq_true (told_at c 9 1)
  have haInvalidMap : PySem.W.findIn K (.ref (He.ga K "InvalidMap")) "__class__" = some (some (.builtin "object.__class__")) := of_decide_eq_true (told_at c 9 2)
  have tiInvalidMap : PySem.W.typeIn K (.ref (He.ma K (He.ga K "InvalidMap") "__init__")) = some (.type "function") := of_decide_eq_true (told_at c 9 3)
  obtain ⟨fdInvalidMap, YInvalidMap⟩ := told_fn c 11
  have XInvalidMap : Fun K "__init__" "InvalidMap.__init__" sInvalidMapInit (He.ma K (He.ga K "InvalidMap") "__init__") fdInvalidMap := fun_of YInvalidMap
  have kcInvalidMap : PySem.W.keepIn K (.ref (He.ga K "InvalidMap")) = true := (told_at c 9 4)
  have eCInvalidMap : PySem.W.subIn K (.ref (He.ga K "InvalidMap")) (.type "BaseException") = some true := of_decide_eq_true (told_at c 9 5)
  have tCInvalidMap : PySem.W.typeIn K (.ref (He.ga K "InvalidMap")) = some (.type "type") := of_decide_eq_true (told_at c 9 6)
  have hCInvalidMap : PySem.W.hasDictIn K (He.ga K "InvalidMap") = true := (told_at c 9 7)
  have iCInvalidMap : PySem.W.isClsIn K (He.ga K "InvalidMap") = true := (told_at c 9 8)
  have sCInvalidMap : PySem.W.subIn K (.ref (He.ga K "InvalidMap")) (.ref (He.ga K "InvalidMap")) = some true := of_decide_eq_true (told_at c 9 9)
  have hmInvalidMap : PySem.W.mroIn K (He.ga K "InvalidMap") (.type "object") = some true := of_decide_eq_true (told_at c 10 0)
  have aInvalidText : PySem.W.nsIn K mainGlobals "InvalidText" = some (some (.ref (He.ga K "InvalidText"))) := of_decide_eq_true (told_at c 10 1)
  have xInvalidText := excQ_ok (K := K) (C := (He.ga K "InvalidText")) (nid := "ValueError.__new__") (told_at c 10 2)
  have saInvalidText : PySem.W.findIn K (.ref (He.ga K "InvalidText")) "__setattr__" = some (some (.builtin "object.__setattr__")) := of_decide_eq_true (told_at c 10 3)
  have gaInvalidText : PySem.W.findIn K (.ref (He.ga K "InvalidText")) "__getattribute__" = some (some (.builtin "BaseException.__getattribute__")) := of_decide_eq_true (told_at c 10 4)
  have ggInvalidText : PySem.W.findIn K (.ref (He.ga K "InvalidText")) "__getattr__" = some (none) := of_decide_eq_true (told_at c 10 5)
  have nfInvalidText : PySem.W.findIn K (.ref (He.ga K "InvalidText")) "at" = some (none) := of_decide_eq_true (told_at c 10 6)
  have inInvalidText : PySem.W.findIn K (.ref (He.ga K "InvalidText")) "__init__" = some (some (.ref (He.ma K (He.ga K "InvalidText") "__init__"))) := of_decide_eq_true (told_at c 10 7)
  have haInvalidText : PySem.W.findIn K (.ref (He.ga K "InvalidText")) "__class__" = some (some (.builtin "object.__class__")) := of_decide_eq_true (told_at c 10 8)
  have tiInvalidText : PySem.W.typeIn K (.ref (He.ma K (He.ga K "InvalidText") "__init__")) = some (.type "function") := of_decide_eq_true (told_at c 10 9)
  obtain ⟨fdInvalidText, YInvalidText⟩ := told_fn c 12
  have XInvalidText : Fun K "__init__" "InvalidText.__init__" sInvalidTextInit (He.ma K (He.ga K "InvalidText") "__init__") fdInvalidText := fun_of YInvalidText
  have kcInvalidText : PySem.W.keepIn K (.ref (He.ga K "InvalidText")) = true := (told_at c 11 0)
  have eCInvalidText : PySem.W.subIn K (.ref (He.ga K "InvalidText")) (.type "BaseException") = some true := of_decide_eq_true (told_at c 11 1)
  have tCInvalidText : PySem.W.typeIn K (.ref (He.ga K "InvalidText")) = some (.type "type") := of_decide_eq_true (told_at c 11 2)
  have hCInvalidText : PySem.W.hasDictIn K (He.ga K "InvalidText") = true := (told_at c 11 3)
  have iCInvalidText : PySem.W.isClsIn K (He.ga K "InvalidText") = true := (told_at c 11 4)
  have sCInvalidText : PySem.W.subIn K (.ref (He.ga K "InvalidText")) (.ref (He.ga K "InvalidText")) = some true := of_decide_eq_true (told_at c 11 5)
  have hmInvalidText : PySem.W.mroIn K (He.ga K "InvalidText") (.type "object") = some true := of_decide_eq_true (told_at c 11 6)
  have aInvalidLeaves : PySem.W.nsIn K mainGlobals "InvalidLeaves" = some (some (.ref (He.ga K "InvalidLeaves"))) := of_decide_eq_true (told_at c 11 7)
  have xInvalidLeaves := excQ_ok (K := K) (C := (He.ga K "InvalidLeaves")) (nid := "ValueError.__new__") (told_at c 11 8)
  have saInvalidLeaves : PySem.W.findIn K (.ref (He.ga K "InvalidLeaves")) "__setattr__" = some (some (.builtin "object.__setattr__")) := of_decide_eq_true (told_at c 11 9)
  have gaInvalidLeaves : PySem.W.findIn K (.ref (He.ga K "InvalidLeaves")) "__getattribute__" = some (some (.builtin "BaseException.__getattribute__")) := of_decide_eq_true (told_at c 12 0)
  have ggInvalidLeaves : PySem.W.findIn K (.ref (He.ga K "InvalidLeaves")) "__getattr__" = some (none) := of_decide_eq_true (told_at c 12 1)
  have nfInvalidLeaves : PySem.W.findIn K (.ref (He.ga K "InvalidLeaves")) "at" = some (none) := of_decide_eq_true (told_at c 12 2)
  have inInvalidLeaves : PySem.W.findIn K (.ref (He.ga K "InvalidLeaves")) "__init__" = some (some (.ref (He.ma K (He.ga K "InvalidLeaves") "__init__"))) := of_decide_eq_true (told_at c 12 3)
  have haInvalidLeaves : PySem.W.findIn K (.ref (He.ga K "InvalidLeaves")) "__class__" = some (some (.builtin "object.__class__")) := of_decide_eq_true (told_at c 12 4)
  have tiInvalidLeaves : PySem.W.typeIn K (.ref (He.ma K (He.ga K "InvalidLeaves") "__init__")) = some (.type "function") := of_decide_eq_true (told_at c 12 5)
  obtain ⟨fdInvalidLeaves, YInvalidLeaves⟩ := told_fn c 13
  have XInvalidLeaves : Fun K "__init__" "InvalidLeaves.__init__" sInvalidLeavesInit (He.ma K (He.ga K "InvalidLeaves") "__init__") fdInvalidLeaves := fun_of YInvalidLeaves
  have kcInvalidLeaves : PySem.W.keepIn K (.ref (He.ga K "InvalidLeaves")) = true := (told_at c 12 6)
  have eCInvalidLeaves : PySem.W.subIn K (.ref (He.ga K "InvalidLeaves")) (.type "BaseException") = some true := of_decide_eq_true (told_at c 12 7)
  have tCInvalidLeaves : PySem.W.typeIn K (.ref (He.ga K "InvalidLeaves")) = some (.type "type") := of_decide_eq_true (told_at c 12 8)
  have hCInvalidLeaves : PySem.W.hasDictIn K (He.ga K "InvalidLeaves") = true := (told_at c 12 9)
  have iCInvalidLeaves : PySem.W.isClsIn K (He.ga K "InvalidLeaves") = true := (told_at c 13 0)
  have sCInvalidLeaves : PySem.W.subIn K (.ref (He.ga K "InvalidLeaves")) (.ref (He.ga K "InvalidLeaves")) = some true := of_decide_eq_true (told_at c 13 1)
  have hmInvalidLeaves : PySem.W.mroIn K (He.ga K "InvalidLeaves") (.type "object") = some true := of_decide_eq_true (told_at c 13 2)
  have aRefused : PySem.W.nsIn K mainGlobals "Refused" = some (some (.ref (He.ga K "Refused"))) := of_decide_eq_true (told_at c 13 3)
  have xRefused := excQ_ok (K := K) (C := (He.ga K "Refused")) (nid := "ValueError.__new__") (told_at c 13 4)
  have saRefused : PySem.W.findIn K (.ref (He.ga K "Refused")) "__setattr__" = some (some (.builtin "object.__setattr__")) := of_decide_eq_true (told_at c 13 5)
  have gaRefused : PySem.W.findIn K (.ref (He.ga K "Refused")) "__getattribute__" = some (some (.builtin "BaseException.__getattribute__")) := of_decide_eq_true (told_at c 13 6)
  have ggRefused : PySem.W.findIn K (.ref (He.ga K "Refused")) "__getattr__" = some (none) := of_decide_eq_true (told_at c 13 7)
  have nfRefused : PySem.W.findIn K (.ref (He.ga K "Refused")) "at" = some (none) := of_decide_eq_true (told_at c 13 8)
  have inRefused : PySem.W.findIn K (.ref (He.ga K "Refused")) "__init__" = some (some (.ref (He.ma K (He.ga K "Refused") "__init__"))) := of_decide_eq_true (told_at c 13 9)
  have haRefused : PySem.W.findIn K (.ref (He.ga K "Refused")) "__class__" = some (some (.builtin "object.__class__")) := of_decide_eq_true (told_at c 14 0)
  have tiRefused : PySem.W.typeIn K (.ref (He.ma K (He.ga K "Refused") "__init__")) = some (.type "function") := of_decide_eq_true (told_at c 14 1)
  obtain ⟨fdRefused, YRefused⟩ := told_fn c 14
  have XRefused : Fun K "__init__" "Refused.__init__" sRefusedInit (He.ma K (He.ga K "Refused") "__init__") fdRefused := fun_of YRefused
  have kcRefused : PySem.W.keepIn K (.ref (He.ga K "Refused")) = true := (told_at c 14 2)
  have eCRefused : PySem.W.subIn K (.ref (He.ga K "Refused")) (.type "BaseException") = some true := of_decide_eq_true (told_at c 14 3)
  have tCRefused : PySem.W.typeIn K (.ref (He.ga K "Refused")) = some (.type "type") := of_decide_eq_true (told_at c 14 4)
  have hCRefused : PySem.W.hasDictIn K (He.ga K "Refused") = true := (told_at c 14 5)
  have iCRefused : PySem.W.isClsIn K (He.ga K "Refused") = true := (told_at c 14 6)
  have sCRefused : PySem.W.subIn K (.ref (He.ga K "Refused")) (.ref (He.ga K "Refused")) = some true := of_decide_eq_true (told_at c 14 7)
  have hmRefused : PySem.W.mroIn K (He.ga K "Refused") (.type "object") = some true := of_decide_eq_true (told_at c 14 8)
  have aNoPlace : PySem.W.nsIn K mainGlobals "NoPlace" = some (some (.ref (He.ga K "NoPlace"))) := of_decide_eq_true (told_at c 14 9)
  obtain ⟨u1NoPlace, u2NoPlace, u3NoPlace, u4NoPlace, u5NoPlace, u6NoPlace, u7NoPlace, u8NoPlace, u9NoPlace, v0NoPlace, v1NoPlace, v2NoPlace, v3NoPlace, v5NoPlace, lkNoPlace⟩ := excQL_ok (K := K) (C := (He.ga K "NoPlace")) (nid := "IndexError.__new__") (told_at c 15 0)
  have saNoPlace : PySem.W.findIn K (.ref (He.ga K "NoPlace")) "__setattr__" = some (some (.builtin "object.__setattr__")) := of_decide_eq_true (told_at c 15 1)
  have gaNoPlace : PySem.W.findIn K (.ref (He.ga K "NoPlace")) "__getattribute__" = some (some (.builtin "BaseException.__getattribute__")) := of_decide_eq_true (told_at c 15 2)
  have ggNoPlace : PySem.W.findIn K (.ref (He.ga K "NoPlace")) "__getattr__" = some (none) := of_decide_eq_true (told_at c 15 3)
  have nfNoPlace : PySem.W.findIn K (.ref (He.ga K "NoPlace")) "at" = some (none) := of_decide_eq_true (told_at c 15 4)
  have inNoPlace : PySem.W.findIn K (.ref (He.ga K "NoPlace")) "__init__" = some (some (.ref (He.ma K (He.ga K "NoPlace") "__init__"))) := of_decide_eq_true (told_at c 15 5)
  have tiNoPlace : PySem.W.typeIn K (.ref (He.ma K (He.ga K "NoPlace") "__init__")) = some (.type "function") := of_decide_eq_true (told_at c 15 6)
  obtain ⟨fdNoPlace, YNoPlace⟩ := told_fn c 15
  have XNoPlace : Fun K "__init__" "NoPlace.__init__" sNoPlaceInit (He.ma K (He.ga K "NoPlace") "__init__") fdNoPlace := fun_of YNoPlace
  have kcNoPlace : PySem.W.keepIn K (.ref (He.ga K "NoPlace")) = true := (told_at c 15 7)
  have eCNoPlace : PySem.W.subIn K (.ref (He.ga K "NoPlace")) (.type "BaseException") = some true := of_decide_eq_true (told_at c 15 8)
  have tCNoPlace : PySem.W.typeIn K (.ref (He.ga K "NoPlace")) = some (.type "type") := of_decide_eq_true (told_at c 15 9)
  have hCNoPlace : PySem.W.hasDictIn K (He.ga K "NoPlace") = true := (told_at c 16 0)
  have haNoPlace : PySem.W.findIn K (.ref (He.ga K "NoPlace")) "__class__" = some (some (.builtin "object.__class__")) := of_decide_eq_true (told_at c 16 1)
  have hmNoPlace : PySem.W.mroIn K (He.ga K "NoPlace") (.type "object") = some true := of_decide_eq_true (told_at c 16 2)
  have aNoName : PySem.W.nsIn K mainGlobals "NoName" = some (some (.ref (He.ga K "NoName"))) := of_decide_eq_true (told_at c 16 3)
  obtain ⟨u1NoName, u2NoName, u3NoName, u4NoName, u5NoName, u6NoName, u7NoName, u8NoName, u9NoName, v0NoName, v1NoName, v2NoName, v3NoName, v5NoName, lkNoName⟩ := excQL_ok (K := K) (C := (He.ga K "NoName")) (nid := "LookupError.__new__") (told_at c 16 4)
  have saNoName : PySem.W.findIn K (.ref (He.ga K "NoName")) "__setattr__" = some (some (.builtin "object.__setattr__")) := of_decide_eq_true (told_at c 16 5)
  have gaNoName : PySem.W.findIn K (.ref (He.ga K "NoName")) "__getattribute__" = some (some (.builtin "BaseException.__getattribute__")) := of_decide_eq_true (told_at c 16 6)
  have ggNoName : PySem.W.findIn K (.ref (He.ga K "NoName")) "__getattr__" = some (none) := of_decide_eq_true (told_at c 16 7)
  have nfNoName : PySem.W.findIn K (.ref (He.ga K "NoName")) "name" = some (none) := of_decide_eq_true (told_at c 16 8)
  have inNoName : PySem.W.findIn K (.ref (He.ga K "NoName")) "__init__" = some (some (.ref (He.ma K (He.ga K "NoName") "__init__"))) := of_decide_eq_true (told_at c 16 9)
  have tiNoName : PySem.W.typeIn K (.ref (He.ma K (He.ga K "NoName") "__init__")) = some (.type "function") := of_decide_eq_true (told_at c 17 0)
  obtain ⟨fdNoName, YNoName⟩ := told_fn c 16
  have XNoName : Fun K "__init__" "NoName.__init__" sNoNameInit (He.ma K (He.ga K "NoName") "__init__") fdNoName := fun_of YNoName
  have kcNoName : PySem.W.keepIn K (.ref (He.ga K "NoName")) = true := (told_at c 17 1)
  have eCNoName : PySem.W.subIn K (.ref (He.ga K "NoName")) (.type "BaseException") = some true := of_decide_eq_true (told_at c 17 2)
  have tCNoName : PySem.W.typeIn K (.ref (He.ga K "NoName")) = some (.type "type") := of_decide_eq_true (told_at c 17 3)
  have hCNoName : PySem.W.hasDictIn K (He.ga K "NoName") = true := (told_at c 17 4)
  have haNoName : PySem.W.findIn K (.ref (He.ga K "NoName")) "__class__" = some (some (.builtin "object.__class__")) := of_decide_eq_true (told_at c 17 5)
  have hmNoName : PySem.W.mroIn K (He.ga K "NoName") (.type "object") = some true := of_decide_eq_true (told_at c 17 6)
  have aInvalidFault : PySem.W.nsIn K mainGlobals "InvalidFault" = some (some (.ref (He.ga K "InvalidFault"))) := of_decide_eq_true (told_at c 17 7)
  have xInvalidFault := excQ_ok (K := K) (C := (He.ga K "InvalidFault")) (nid := "ValueError.__new__") (told_at c 17 8)
  have saInvalidFault : PySem.W.findIn K (.ref (He.ga K "InvalidFault")) "__setattr__" = some (some (.builtin "object.__setattr__")) := of_decide_eq_true (told_at c 17 9)
  have gaInvalidFault : PySem.W.findIn K (.ref (He.ga K "InvalidFault")) "__getattribute__" = some (some (.builtin "BaseException.__getattribute__")) := of_decide_eq_true (told_at c 18 0)
  have ggInvalidFault : PySem.W.findIn K (.ref (He.ga K "InvalidFault")) "__getattr__" = some (none) := of_decide_eq_true (told_at c 18 1)
  have inInvalidFault : PySem.W.findIn K (.ref (He.ga K "InvalidFault")) "__init__" = some (some (.builtin "ValueError.__init__")) := of_decide_eq_true (told_at c 18 2)
  have haInvalidFault : PySem.W.findIn K (.ref (He.ga K "InvalidFault")) "__class__" = some (some (.builtin "object.__class__")) := of_decide_eq_true (told_at c 18 3)
  have kcInvalidFault : PySem.W.keepIn K (.ref (He.ga K "InvalidFault")) = true := (told_at c 18 4)
  have eCInvalidFault : PySem.W.subIn K (.ref (He.ga K "InvalidFault")) (.type "BaseException") = some true := of_decide_eq_true (told_at c 18 5)
  have tCInvalidFault : PySem.W.typeIn K (.ref (He.ga K "InvalidFault")) = some (.type "type") := of_decide_eq_true (told_at c 18 6)
  have hCInvalidFault : PySem.W.hasDictIn K (He.ga K "InvalidFault") = true := (told_at c 18 7)
  have hmInvalidFault : PySem.W.mroIn K (He.ga K "InvalidFault") (.type "object") = some true := of_decide_eq_true (told_at c 18 8)
  have aInvalidCommand : PySem.W.nsIn K mainGlobals "InvalidCommand" = some (some (.ref (He.ga K "InvalidCommand"))) := of_decide_eq_true (told_at c 18 9)
  have xInvalidCommand := excQ_ok (K := K) (C := (He.ga K "InvalidCommand")) (nid := "ValueError.__new__") (told_at c 19 0)
  have saInvalidCommand : PySem.W.findIn K (.ref (He.ga K "InvalidCommand")) "__setattr__" = some (some (.builtin "object.__setattr__")) := of_decide_eq_true (told_at c 19 1)
  have gaInvalidCommand : PySem.W.findIn K (.ref (He.ga K "InvalidCommand")) "__getattribute__" = some (some (.builtin "BaseException.__getattribute__")) := of_decide_eq_true (told_at c 19 2)
  have ggInvalidCommand : PySem.W.findIn K (.ref (He.ga K "InvalidCommand")) "__getattr__" = some (none) := of_decide_eq_true (told_at c 19 3)
  have inInvalidCommand : PySem.W.findIn K (.ref (He.ga K "InvalidCommand")) "__init__" = some (some (.builtin "ValueError.__init__")) := of_decide_eq_true (told_at c 19 4)
  have haInvalidCommand : PySem.W.findIn K (.ref (He.ga K "InvalidCommand")) "__class__" = some (some (.builtin "object.__class__")) := of_decide_eq_true (told_at c 19 5)
  have kcInvalidCommand : PySem.W.keepIn K (.ref (He.ga K "InvalidCommand")) = true := (told_at c 19 6)
  have eCInvalidCommand : PySem.W.subIn K (.ref (He.ga K "InvalidCommand")) (.type "BaseException") = some true := of_decide_eq_true (told_at c 19 7)
  have tCInvalidCommand : PySem.W.typeIn K (.ref (He.ga K "InvalidCommand")) = some (.type "type") := of_decide_eq_true (told_at c 19 8)
  have hCInvalidCommand : PySem.W.hasDictIn K (He.ga K "InvalidCommand") = true := (told_at c 19 9)
  have hmInvalidCommand : PySem.W.mroIn K (He.ga K "InvalidCommand") (.type "object") = some true := of_decide_eq_true (told_at c 20 0)
  have aMismatch : PySem.W.nsIn K mainGlobals "Mismatch" = some (some (.ref (He.ga K "Mismatch"))) := of_decide_eq_true (told_at c 20 1)
  have xMismatch := excQ_ok (K := K) (C := (He.ga K "Mismatch")) (nid := "ValueError.__new__") (told_at c 20 2)
  have saMismatch : PySem.W.findIn K (.ref (He.ga K "Mismatch")) "__setattr__" = some (some (.builtin "object.__setattr__")) := of_decide_eq_true (told_at c 20 3)
  have gaMismatch : PySem.W.findIn K (.ref (He.ga K "Mismatch")) "__getattribute__" = some (some (.builtin "BaseException.__getattribute__")) := of_decide_eq_true (told_at c 20 4)
  have ggMismatch : PySem.W.findIn K (.ref (He.ga K "Mismatch")) "__getattr__" = some (none) := of_decide_eq_true (told_at c 20 5)
  have inMismatch : PySem.W.findIn K (.ref (He.ga K "Mismatch")) "__init__" = some (some (.builtin "ValueError.__init__")) := of_decide_eq_true (told_at c 20 6)
  have haMismatch : PySem.W.findIn K (.ref (He.ga K "Mismatch")) "__class__" = some (some (.builtin "object.__class__")) := of_decide_eq_true (told_at c 20 7)
  have kcMismatch : PySem.W.keepIn K (.ref (He.ga K "Mismatch")) = true := (told_at c 20 8)
  have eCMismatch : PySem.W.subIn K (.ref (He.ga K "Mismatch")) (.type "BaseException") = some true := of_decide_eq_true (told_at c 20 9)
  have tCMismatch : PySem.W.typeIn K (.ref (He.ga K "Mismatch")) = some (.type "type") := of_decide_eq_true (told_at c 21 0)
  have hCMismatch : PySem.W.hasDictIn K (He.ga K "Mismatch") = true := (told_at c 21 1)
  have hmMismatch : PySem.W.mroIn K (He.ga K "Mismatch") (.type "object") = some true := of_decide_eq_true (told_at c 21 2)
  have alaw : PySem.W.nsIn K mainGlobals "law" = some (some (.ref (He.ga K "law"))) := of_decide_eq_true (told_at c 21 3)
  obtain ⟨fdlaw, Ylaw⟩ := told_fn c 17
  have Xlaw : Fun K "law" "law" sLaw1 (He.ga K "law") fdlaw := fun_of Ylaw
  have hnGet : PySem.W.specialIn K (.builtin "object.__class__") "__get__" = some (some (.builtin "getset_descriptor.__get__")) := of_decide_eq_true (told_at c 21 4)
  have htGet : PySem.W.takesIn K (.builtin "object.__class__") = some true := of_decide_eq_true (told_at c 21 5)
  have kit : kit11 K [(He.ga K "InvalidRow"), (He.ga K "InvalidPart"), (He.ga K "InvalidBook"), (He.ga K "InvalidFilling"), (He.ga K "InvalidMap"), (He.ga K "InvalidText"), (He.ga K "InvalidLeaves"), (He.ga K "Refused"), (He.ga K "InvalidFault"), (He.ga K "InvalidCommand"), (He.ga K "Mismatch")] = true := (told_at c 21 6)
  have kn0 : PySem.W.kitOne K (.ref (He.ga K "InvalidRow")) (.ref (He.ga K "NoteError")) = some true := of_decide_eq_true (told_at c 21 7)
  have kv0 : PySem.W.kitOne K (.ref (He.ga K "InvalidRow")) (.type "ValueError") = some true := of_decide_eq_true (told_at c 21 8)
  have kn1 : PySem.W.kitOne K (.ref (He.ga K "InvalidPart")) (.ref (He.ga K "NoteError")) = some true := of_decide_eq_true (told_at c 21 9)
  have kv1 : PySem.W.kitOne K (.ref (He.ga K "InvalidPart")) (.type "ValueError") = some true := of_decide_eq_true (told_at c 22 0)
  have kn2 : PySem.W.kitOne K (.ref (He.ga K "InvalidBook")) (.ref (He.ga K "NoteError")) = some true := of_decide_eq_true (told_at c 22 1)
  have kv2 : PySem.W.kitOne K (.ref (He.ga K "InvalidBook")) (.type "ValueError") = some true := of_decide_eq_true (told_at c 22 2)
  have kn3 : PySem.W.kitOne K (.ref (He.ga K "InvalidFilling")) (.ref (He.ga K "NoteError")) = some true := of_decide_eq_true (told_at c 22 3)
  have kv3 : PySem.W.kitOne K (.ref (He.ga K "InvalidFilling")) (.type "ValueError") = some true := of_decide_eq_true (told_at c 22 4)
  have kn4 : PySem.W.kitOne K (.ref (He.ga K "InvalidMap")) (.ref (He.ga K "NoteError")) = some true := of_decide_eq_true (told_at c 22 5)
  have kv4 : PySem.W.kitOne K (.ref (He.ga K "InvalidMap")) (.type "ValueError") = some true := of_decide_eq_true (told_at c 22 6)
  have kn5 : PySem.W.kitOne K (.ref (He.ga K "InvalidText")) (.ref (He.ga K "NoteError")) = some true := of_decide_eq_true (told_at c 22 7)
  have kv5 : PySem.W.kitOne K (.ref (He.ga K "InvalidText")) (.type "ValueError") = some true := of_decide_eq_true (told_at c 22 8)
  have kn6 : PySem.W.kitOne K (.ref (He.ga K "InvalidLeaves")) (.ref (He.ga K "NoteError")) = some true := of_decide_eq_true (told_at c 22 9)
  have kv6 : PySem.W.kitOne K (.ref (He.ga K "InvalidLeaves")) (.type "ValueError") = some true := of_decide_eq_true (told_at c 23 0)
  have kn7 : PySem.W.kitOne K (.ref (He.ga K "Refused")) (.ref (He.ga K "NoteError")) = some true := of_decide_eq_true (told_at c 23 1)
  have kv7 : PySem.W.kitOne K (.ref (He.ga K "Refused")) (.type "ValueError") = some true := of_decide_eq_true (told_at c 23 2)
  have knp : PySem.W.kitOne K (.ref (He.ga K "NoPlace")) (.ref (He.ga K "NoteError")) = some false := of_decide_eq_true (told_at c 23 3)
  have kvp : PySem.W.kitOne K (.ref (He.ga K "NoPlace")) (.type "IndexError") = some true := of_decide_eq_true (told_at c 23 4)
  have kna : PySem.W.kitOne K (.ref (He.ga K "NoName")) (.ref (He.ga K "NoteError")) = some false := of_decide_eq_true (told_at c 23 5)
  have kva : PySem.W.kitOne K (.ref (He.ga K "NoName")) (.type "KeyError") = some true := of_decide_eq_true (told_at c 23 6)
  have e := hfa.symm.trans (PySem.W.mg_of X G alaw)
  cases e
  have Mint : mg "int" = none := PySem.W.mg_none_of X G zint
  have Mlen : mg "len" = none := PySem.W.mg_none_of X G zlen
  have Mabs : mg "abs" = none := PySem.W.mg_none_of X G zabs
  have Mmax : mg "max" = none := PySem.W.mg_none_of X G zmax
  have Mmin : mg "min" = none := PySem.W.mg_none_of X G zmin
  have Mrange : mg "range" = none := PySem.W.mg_none_of X G zrange
  have Menumerate : mg "enumerate" = none := PySem.W.mg_none_of X G zenumerate
  have Misinstance : mg "isinstance" = none := PySem.W.mg_none_of X G zisinstance
  have Mrepr : mg "repr" = none := PySem.W.mg_none_of X G zrepr
  have Mtuple : mg "tuple" = none := PySem.W.mg_none_of X G ztuple
  have MValueError : mg "ValueError" = none := PySem.W.mg_none_of X G zValueError
  have MIndexError : mg "IndexError" = none := PySem.W.mg_none_of X G zIndexError
  have MKeyError : mg "KeyError" = none := PySem.W.mg_none_of X G zKeyError
  let Dlawseed : At K mg "_law_seed" sSeed ["_law_script", "_law_k"] := ⟨(He.ga K "_law_seed"), _, Xlawseed, Xlawseed.binds (ps := ["_law_script", "_law_k"]) fun _ _ _ _ _ _ us hl => match us, hl with | [_, _], _ => rfl, PySem.W.mg_of X G alawseed⟩
  let Dlawchoose : At K mg "_law_choose" sChoose ["_law_box", "_law_many"] := ⟨(He.ga K "_law_choose"), _, Xlawchoose, Xlawchoose.binds (ps := ["_law_box", "_law_many"]) fun _ _ _ _ _ _ us hl => match us, hl with | [_, _], _ => rfl, PySem.W.mg_of X G alawchoose⟩
  let Dlawoneof : At K mg "_law_one_of" sOne ["_law_box", "_law_some"] := ⟨(He.ga K "_law_one_of"), _, Xlawoneof, Xlawoneof.binds (ps := ["_law_box", "_law_some"]) fun _ _ _ _ _ _ us hl => match us, hl with | [_, _], _ => rfl, PySem.W.mg_of X G alawoneof⟩
  let Dlawleaf : At K mg "_law_leaf" sLeaf ["_law_box"] := ⟨(He.ga K "_law_leaf"), _, Xlawleaf, Xlawleaf.binds (ps := ["_law_box"]) fun _ _ _ _ _ _ us hl => match us, hl with | [_], _ => rfl, PySem.W.mg_of X G alawleaf⟩
  let Dlawany : At K mg "_law_any" sAny ["_law_box", "_law_deep"] := ⟨(He.ga K "_law_any"), _, Xlawany, Xlawany.binds (ps := ["_law_box", "_law_deep"]) fun _ _ _ _ _ _ us hl => match us, hl with | [_, _], _ => rfl, PySem.W.mg_of X G alawany⟩
  let Dlawmade : At K mg "_law_made" sMade1 ["_law_value"] := ⟨(He.ga K "_law_made"), _, Xlawmade, Xlawmade.binds (ps := ["_law_value"]) fun _ _ _ _ _ _ us hl => match us, hl with | [_], _ => rfl, PySem.W.mg_of X G alawmade⟩
  let Dlawsorts : At K mg "_law_sorts" sSorts ["_law_error"] := ⟨(He.ga K "_law_sorts"), _, Xlawsorts, Xlawsorts.binds (ps := ["_law_error"]) fun _ _ _ _ _ _ us hl => match us, hl with | [_], _ => rfl, PySem.W.mg_of X G alawsorts⟩
  have OInvalidRow : OexC K (He.ga K "InvalidRow") := ⟨xInvalidRow, saInvalidRow, eCInvalidRow, tCInvalidRow, kcInvalidRow⟩
  let EInvalidRow : TExc K mg "InvalidRow" "InvalidRow.__init__" "word" sInvalidRowInit := { C := (He.ga K "InvalidRow"), fI := (He.ma K (He.ga K "InvalidRow") "__init__"), fd := _, F := XInvalidRow, b := XInvalidRow.binds (ps := ["self", "word"]) fun _ _ _ _ _ _ us hl => match us, hl with | [_, _], _ => rfl, m := PySem.W.mg_of X G aInvalidRow, O := OInvalidRow, iC := inInvalidRow, tI := tiInvalidRow, noF := nfInvalidRow, E := ⟨gaInvalidRow, ggInvalidRow, eCInvalidRow, hCInvalidRow, haInvalidRow, hnGet, htGet, hmInvalidRow⟩, isC := iCInvalidRow, te := PySem.W.exm_ref eCInvalidRow hCInvalidRow tCInvalidRow sCInvalidRow, xf := ⟨gaInvalidRow, ggInvalidRow, eCInvalidRow, hCInvalidRow⟩ }
  have OInvalidPart : OexC K (He.ga K "InvalidPart") := ⟨xInvalidPart, saInvalidPart, eCInvalidPart, tCInvalidPart, kcInvalidPart⟩
  let EInvalidPart : TExc K mg "InvalidPart" "InvalidPart.__init__" "word" sInvalidPartInit := { C := (He.ga K "InvalidPart"), fI := (He.ma K (He.ga K "InvalidPart") "__init__"), fd := _, F := XInvalidPart, b := XInvalidPart.binds (ps := ["self", "word"]) fun _ _ _ _ _ _ us hl => match us, hl with | [_, _], _ => rfl, m := PySem.W.mg_of X G aInvalidPart, O := OInvalidPart, iC := inInvalidPart, tI := tiInvalidPart, noF := nfInvalidPart, E := ⟨gaInvalidPart, ggInvalidPart, eCInvalidPart, hCInvalidPart, haInvalidPart, hnGet, htGet, hmInvalidPart⟩, isC := iCInvalidPart, te := PySem.W.exm_ref eCInvalidPart hCInvalidPart tCInvalidPart sCInvalidPart, xf := ⟨gaInvalidPart, ggInvalidPart, eCInvalidPart, hCInvalidPart⟩ }
  have OInvalidBook : OexC K (He.ga K "InvalidBook") := ⟨xInvalidBook, saInvalidBook, eCInvalidBook, tCInvalidBook, kcInvalidBook⟩
  let EInvalidBook : TExc K mg "InvalidBook" "InvalidBook.__init__" "word" sInvalidBookInit := { C := (He.ga K "InvalidBook"), fI := (He.ma K (He.ga K "InvalidBook") "__init__"), fd := _, F := XInvalidBook, b := XInvalidBook.binds (ps := ["self", "word"]) fun _ _ _ _ _ _ us hl => match us, hl with | [_, _], _ => rfl, m := PySem.W.mg_of X G aInvalidBook, O := OInvalidBook, iC := inInvalidBook, tI := tiInvalidBook, noF := nfInvalidBook, E := ⟨gaInvalidBook, ggInvalidBook, eCInvalidBook, hCInvalidBook, haInvalidBook, hnGet, htGet, hmInvalidBook⟩, isC := iCInvalidBook, te := PySem.W.exm_ref eCInvalidBook hCInvalidBook tCInvalidBook sCInvalidBook, xf := ⟨gaInvalidBook, ggInvalidBook, eCInvalidBook, hCInvalidBook⟩ }
  have OInvalidFilling : OexC K (He.ga K "InvalidFilling") := ⟨xInvalidFilling, saInvalidFilling, eCInvalidFilling, tCInvalidFilling, kcInvalidFilling⟩
  let EInvalidFilling : TExc K mg "InvalidFilling" "InvalidFilling.__init__" "word" sInvalidFillingInit := { C := (He.ga K "InvalidFilling"), fI := (He.ma K (He.ga K "InvalidFilling") "__init__"), fd := _, F := XInvalidFilling, b := XInvalidFilling.binds (ps := ["self", "word"]) fun _ _ _ _ _ _ us hl => match us, hl with | [_, _], _ => rfl, m := PySem.W.mg_of X G aInvalidFilling, O := OInvalidFilling, iC := inInvalidFilling, tI := tiInvalidFilling, noF := nfInvalidFilling, E := ⟨gaInvalidFilling, ggInvalidFilling, eCInvalidFilling, hCInvalidFilling, haInvalidFilling, hnGet, htGet, hmInvalidFilling⟩, isC := iCInvalidFilling, te := PySem.W.exm_ref eCInvalidFilling hCInvalidFilling tCInvalidFilling sCInvalidFilling, xf := ⟨gaInvalidFilling, ggInvalidFilling, eCInvalidFilling, hCInvalidFilling⟩ }
  have OInvalidMap : OexC K (He.ga K "InvalidMap") := ⟨xInvalidMap, saInvalidMap, eCInvalidMap, tCInvalidMap, kcInvalidMap⟩
  let EInvalidMap : TExc K mg "InvalidMap" "InvalidMap.__init__" "word" sInvalidMapInit := { C := (He.ga K "InvalidMap"), fI := (He.ma K (He.ga K "InvalidMap") "__init__"), fd := _, F := XInvalidMap, b := XInvalidMap.binds (ps := ["self", "word"]) fun _ _ _ _ _ _ us hl => match us, hl with | [_, _], _ => rfl, m := PySem.W.mg_of X G aInvalidMap, O := OInvalidMap, iC := inInvalidMap, tI := tiInvalidMap, noF := nfInvalidMap, E := ⟨gaInvalidMap, ggInvalidMap, eCInvalidMap, hCInvalidMap, haInvalidMap, hnGet, htGet, hmInvalidMap⟩, isC := iCInvalidMap, te := PySem.W.exm_ref eCInvalidMap hCInvalidMap tCInvalidMap sCInvalidMap, xf := ⟨gaInvalidMap, ggInvalidMap, eCInvalidMap, hCInvalidMap⟩ }
  have OInvalidText : OexC K (He.ga K "InvalidText") := ⟨xInvalidText, saInvalidText, eCInvalidText, tCInvalidText, kcInvalidText⟩
  let EInvalidText : TExc K mg "InvalidText" "InvalidText.__init__" "at" sInvalidTextInit := { C := (He.ga K "InvalidText"), fI := (He.ma K (He.ga K "InvalidText") "__init__"), fd := _, F := XInvalidText, b := XInvalidText.binds (ps := ["self", "at"]) fun _ _ _ _ _ _ us hl => match us, hl with | [_, _], _ => rfl, m := PySem.W.mg_of X G aInvalidText, O := OInvalidText, iC := inInvalidText, tI := tiInvalidText, noF := nfInvalidText, E := ⟨gaInvalidText, ggInvalidText, eCInvalidText, hCInvalidText, haInvalidText, hnGet, htGet, hmInvalidText⟩, isC := iCInvalidText, te := PySem.W.exm_ref eCInvalidText hCInvalidText tCInvalidText sCInvalidText, xf := ⟨gaInvalidText, ggInvalidText, eCInvalidText, hCInvalidText⟩ }
  have OInvalidLeaves : OexC K (He.ga K "InvalidLeaves") := ⟨xInvalidLeaves, saInvalidLeaves, eCInvalidLeaves, tCInvalidLeaves, kcInvalidLeaves⟩
  let EInvalidLeaves : TExc K mg "InvalidLeaves" "InvalidLeaves.__init__" "at" sInvalidLeavesInit := { C := (He.ga K "InvalidLeaves"), fI := (He.ma K (He.ga K "InvalidLeaves") "__init__"), fd := _, F := XInvalidLeaves, b := XInvalidLeaves.binds (ps := ["self", "at"]) fun _ _ _ _ _ _ us hl => match us, hl with | [_, _], _ => rfl, m := PySem.W.mg_of X G aInvalidLeaves, O := OInvalidLeaves, iC := inInvalidLeaves, tI := tiInvalidLeaves, noF := nfInvalidLeaves, E := ⟨gaInvalidLeaves, ggInvalidLeaves, eCInvalidLeaves, hCInvalidLeaves, haInvalidLeaves, hnGet, htGet, hmInvalidLeaves⟩, isC := iCInvalidLeaves, te := PySem.W.exm_ref eCInvalidLeaves hCInvalidLeaves tCInvalidLeaves sCInvalidLeaves, xf := ⟨gaInvalidLeaves, ggInvalidLeaves, eCInvalidLeaves, hCInvalidLeaves⟩ }
  have ORefused : OexC K (He.ga K "Refused") := ⟨xRefused, saRefused, eCRefused, tCRefused, kcRefused⟩
  let ERefused : TExc K mg "Refused" "Refused.__init__" "at" sRefusedInit := { C := (He.ga K "Refused"), fI := (He.ma K (He.ga K "Refused") "__init__"), fd := _, F := XRefused, b := XRefused.binds (ps := ["self", "at"]) fun _ _ _ _ _ _ us hl => match us, hl with | [_, _], _ => rfl, m := PySem.W.mg_of X G aRefused, O := ORefused, iC := inRefused, tI := tiRefused, noF := nfRefused, E := ⟨gaRefused, ggRefused, eCRefused, hCRefused, haRefused, hnGet, htGet, hmRefused⟩, isC := iCRefused, te := PySem.W.exm_ref eCRefused hCRefused tCRefused sCRefused, xf := ⟨gaRefused, ggRefused, eCRefused, hCRefused⟩ }
  have ONoPlace : OexG K (He.ga K "NoPlace") := ⟨⟨_, _, _, _, _, _, _, _, _, _, _, _, _, _, _, _, _, _, _, F.excBase_IndexError, above_index, lkNoPlace⟩, saNoPlace, eCNoPlace, tCNoPlace, kcNoPlace⟩
  let GNoPlace : TExG K mg "NoPlace" "NoPlace.__init__" "at" sNoPlaceInit := { C := (He.ga K "NoPlace"), fI := (He.ma K (He.ga K "NoPlace") "__init__"), fd := _, F := XNoPlace, m := PySem.W.mg_of X G aNoPlace, O := ONoPlace, iC := inNoPlace, tI := tiNoPlace, noF := nfNoPlace, xf := ⟨gaNoPlace, ggNoPlace, eCNoPlace, hCNoPlace⟩ }
  have ECNoPlace : ExcC K (He.ga K "NoPlace") := ⟨gaNoPlace, ggNoPlace, eCNoPlace, hCNoPlace, haNoPlace, hnGet, htGet, hmNoPlace⟩
  have ONoName : OexG K (He.ga K "NoName") := ⟨⟨_, _, _, _, _, _, _, _, _, _, _, _, _, _, _, _, _, _, _, F.excBase_LookupError, above_key, lkNoName⟩, saNoName, eCNoName, tCNoName, kcNoName⟩
  let GNoName : TExG K mg "NoName" "NoName.__init__" "name" sNoNameInit := { C := (He.ga K "NoName"), fI := (He.ma K (He.ga K "NoName") "__init__"), fd := _, F := XNoName, m := PySem.W.mg_of X G aNoName, O := ONoName, iC := inNoName, tI := tiNoName, noF := nfNoName, xf := ⟨gaNoName, ggNoName, eCNoName, hCNoName⟩ }
  have ECNoName : ExcC K (He.ga K "NoName") := ⟨gaNoName, ggNoName, eCNoName, hCNoName, haNoName, hnGet, htGet, hmNoName⟩
  have OInvalidFault : OexC K (He.ga K "InvalidFault") := ⟨xInvalidFault, saInvalidFault, eCInvalidFault, tCInvalidFault, kcInvalidFault⟩
  let ZInvalidFault : TZ K mg "InvalidFault" := { C := (He.ga K "InvalidFault"), O := OInvalidFault, iN := inInvalidFault, m := PySem.W.mg_of X G aInvalidFault, E := ⟨gaInvalidFault, ggInvalidFault, eCInvalidFault, hCInvalidFault, haInvalidFault, hnGet, htGet, hmInvalidFault⟩ }
  have OInvalidCommand : OexC K (He.ga K "InvalidCommand") := ⟨xInvalidCommand, saInvalidCommand, eCInvalidCommand, tCInvalidCommand, kcInvalidCommand⟩
  let ZInvalidCommand : TZ K mg "InvalidCommand" := { C := (He.ga K "InvalidCommand"), O := OInvalidCommand, iN := inInvalidCommand, m := PySem.W.mg_of X G aInvalidCommand, E := ⟨gaInvalidCommand, ggInvalidCommand, eCInvalidCommand, hCInvalidCommand, haInvalidCommand, hnGet, htGet, hmInvalidCommand⟩ }
  have OMismatch : OexC K (He.ga K "Mismatch") := ⟨xMismatch, saMismatch, eCMismatch, tCMismatch, kcMismatch⟩
  let ZMismatch : TZ K mg "Mismatch" := { C := (He.ga K "Mismatch"), O := OMismatch, iN := inMismatch, m := PySem.W.mg_of X G aMismatch, E := ⟨gaMismatch, ggMismatch, eCMismatch, hCMismatch, haMismatch, hnGet, htGet, hmMismatch⟩ }
  let AA : TAny K mg := { mI := Mint, mL := Mlen, mA := Mabs, seed := Dlawseed, choose := Dlawchoose, one := Dlawoneof, mR := Mrange, mT := Mtuple, leaf := Dlawleaf, any := Dlawany }
  let T : TE01 K mg := { D := AA, x0 := EInvalidRow.g, e0 := EInvalidRow.E, x1 := EInvalidPart.g, e1 := EInvalidPart.E, x2 := EInvalidBook.g, e2 := EInvalidBook.E, x3 := EInvalidFilling.g, e3 := EInvalidFilling.E, x4 := EInvalidMap.g, e4 := EInvalidMap.E, x5 := EInvalidText.g, e5 := EInvalidText.E, x6 := EInvalidLeaves.g, e6 := EInvalidLeaves.E, x7 := ERefused.g, e7 := ERefused.E, x8 := GNoPlace, e8 := ECNoPlace, x9 := GNoName, e9 := ECNoName, z0 := ZInvalidFault, z1 := ZInvalidCommand, z2 := ZMismatch, cN := (He.ga K "NoteError"), mN := PySem.W.mg_of X G aNoteError, mVE := MValueError, mIE := MIndexError, mKE := MKeyError, mLen := Mlen, mMax := Mmax, mMin := Mmin, mR := Mrange, mEnum := Menumerate, mIsi := Misinstance, mRepr := Mrepr, kit := kit, kN := of8 (p := fun C => PySem.W.kitOne K (.ref C) (.ref (He.ga K "NoteError")) = some true ∧ PySem.W.kitOne K (.ref C) (.type "ValueError") = some true) ⟨kn0, kv0⟩ ⟨kn1, kv1⟩ ⟨kn2, kv2⟩ ⟨kn3, kv3⟩ ⟨kn4, kv4⟩ ⟨kn5, kv5⟩ ⟨kn6, kv6⟩ ⟨kn7, kv7⟩, kP := ⟨knp, kvp⟩, kA := ⟨kna, kva⟩, made := Dlawmade, sorts := Dlawsorts }
  have Flaw : FunD K "law" "law" (defArgs sLaw1) (defBody sLaw1) (defScope sLaw1) [] [] (He.ga K "law") fdlaw := Ylaw
  have blaw := FunD.bindsA (ps := ["_law_script"]) Flaw fun _ _ _ _ _ _ us hl => match us, hl with | [_], _ => rfl
  exact ⟨_, fun s v => blaw s [v] rfl, fun base _ _ => ok_law1 T (Xlaw) ⟨rfl, by decide, by decide⟩ rfl⟩
end Pn

namespace Pn
open PySem PySem.W PySem.Calls PyProof.Rows L2
abbrev rowQ : OpenRow := OpenLaw.row PySem.Challenge.rw_partnotes_k01_errors_and_what_they_keep
abbrev progQ : Program := view rowQ.prog [23]
def namesQ0 : List PySem.Str := ["__name__", "NoteError", "InvalidRow", "InvalidPart", "InvalidBook", "InvalidText", "InvalidFilling", "InvalidLeaves", "InvalidMap", "InvalidFault", "InvalidCommand", "Mismatch", "Refused", "NoName", "NoPlace", "_law_seed", "_law_choose", "_law_one_of", "_law_leaf", "_law_any", "_law_made", "_law_sorts"]
def namesQ : List PySem.Str := namesQ0
theorem runQ (w : World) : HandSHeadRun.RunEq rowQ progQ (hookQ 5 fnQ exQ) (seenQ 5 fnQ exQ) 20000 namesQ w := by
  intro os
  kernel_rfl
end Pn
open PySem PySem.W PySem.Calls PyProof.Rows
theorem PySem.Challenge.cw_partnotes_k01_errors_and_what_they_keep_holds : PySem.Challenge.rw_partnotes_k01_errors_and_what_they_keep.Holds := by
  w_on; o_law
  refine HandSHeadRun.head_any (M := 20000) (r := Pn.rowQ) (q := Pn.progQ) (H := Pn.hookQ 5 Pn.fnQ Pn.exQ) (ob := Pn.seenQ 5 Pn.fnQ Pn.exQ) (loose := Pn.namesQ) (kwd := []) (d := HandSHeadRun.topDef Pn.rowQ.prog 23) (Pn.seenQ_eq 5 Pn.fnQ Pn.exQ)
    (by kernel_rfl) (fun z => by kernel_rfl) Pn.runQ (by kernel_rfl) (by kernel_rfl) (by kernel_rfl) (by rfl) (by first | assumption | decide +kernel) (by decide +kernel) ⟨rfl, rfl, rfl, rfl, rfl, by decide +kernel⟩ ?hw ?hc
  case hw => w_witness2
  case hc =>
    refine Pn.walk_gE (l := PySem.Challenge.rw_partnotes_k01_errors_and_what_they_keep) (n := 63) (x := "_law_script") rfl (by decide) (by kernel_rfl) ?F
    intro w mg fa h Y G hm
    obtain ⟨K, KX, c⟩ := Y
    have hg : mg ("law" : PySem.Str) = some (.ref fa) := by
      have e : (HandSHeadRun.topDef Pn.rowQ.prog 23).name = ("law" : PySem.Str) := by kernel_rfl
      rw [← e]; exact hm
    obtain ⟨fd, hb, hF⟩ := Pn.facts (P := (PySem.Challenge.rw_partnotes_k01_errors_and_what_they_keep).prog) (w := w) KX G hg c
    exact ⟨K, fd, Pn.spLaw1 K, KX, hb, fun H a ns hl hS => ⟨a, ns, rfl, hS, hl, fun _ => rfl⟩, hF⟩
