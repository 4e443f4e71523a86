import PyProof.Rows.All
import Wide.All
import OpenK.AllK
import Wide.FinOn
import HandS.ForMost
import HandS.Wide
import HandS.IsInst
import HandS.Walk
import HandS.Text
import HandS.Exc
import HandS.ExcInit
import HandS.ExcField
import HandS.ExcIs
import HandS.WordsExc
import HandS.TryOnly
import KE.KExcIs
import HandS.ExcCtx
import HandS.ExcInitHot
import HandS.SuiteRaise
import HandS.RaiseFrom
import HandS.Defaults
import HandS.FStr
import KE.KCallOwn
import Flt.Len
import KE.IntTextLaws
import KE.IntTextText
import HandS.HotCalls
import HandS.TupLe
import HandS.RaiseMore
import HandS.OwnEq
import HandS.SlotsOwn
import HandS.NamedTupSort
import HandS.Ends
import HandS.Star
import KE.KDictPairs
import HandS.Dict
import HandS.Style
import HandS.SetTxt0
import HandS.SetFor
import PyProof.Rows.SortStr
import HandS.SetKeys
import HandS.Strs
import HandS.Flow
import KE.KStateDown
import HandS.Head0
import HandS.Head1
import HandS.Head2
import HandS.HeadEnd
import HandS.HeadHook1
import HandS.HeadHook2
import HandS.Property
import PySem.Challenge.RW_partnotes_k18_fillings_refused
set_option Elab.async false
set_option maxRecDepth 100000
set_option maxHeartbeats 4000000
namespace Pn
open PySem L2
/-! the text by places -/
def top (i : Nat) : Stmt := PySem.Challenge.pw_partnotes_k18_fillings_refused.main.body.getD i (.Pass ⟨0, 0, 0, 0⟩)
/-- a def of the top: where it stands, what binds its arguments -/
structure At (K : PySem.W.Frag) (mg : Str → Option Value) (x : Str) (st : Stmt) (ps : List Str) : Type where
  f : Addr
  fd : FuncData
  F : Fun K x x st f fd
  b : Binds K fd ps []
  m : mg x = some (.ref f)
/-- all but what stands at b is as it was -/
def Kp (b : Addr) (H H' : Hp) : Prop := ∀ a o, H a = some o → a ≠ b → H' a = some o
theorem Kp.refl (b : Addr) (H : Hp) : Kp b H H := fun _ _ h _ => h
theorem Kp.trans {b : Addr} {H H1 H2 : Hp} (h : Kp b H H1) (g : Kp b H1 H2) : Kp b H H2 := fun a o e n => g a o (h a o e n) n
theorem Kp.new {b p : Addr} {H H1 : Hp} {o : HO} (h : Kp b H H1) (hp : H1 p = none) : Kp b H (upd H1 p o) := fun a u e n => by
  have z := h a u e n
  rw [upd_ne (ne_of_none z hp)]
  exact z
theorem Kp.box {b : Addr} {H H1 : Hp} {o : HO} (h : Kp b H H1) : Kp b H (upd H1 b o) := fun a u e n => by
  rw [upd_ne n]
  exact h a u e n
theorem Kp.sql {K : PySem.W.Frag} {b a : Addr} {xs : List V} {H H1 : Hp} (h : Kp b H H1) (n : a ≠ b) (s : SqL K H a xs) : SqL K H1 a xs := by
  rcases s with (s | ⟨o, s⟩) | s
  · exact .inl (.inl (h _ _ s n))
  · exact .inl (.inr ⟨o, h _ _ s n⟩)
  · exact .inr s
theorem Kp.sqt {K : PySem.W.Frag} {b a : Addr} {xs : List V} {H H1 : Hp} (h : Kp b H H1) (n : a ≠ b) (s : SqT K H a xs) : SqT K H1 a xs := by
  rcases s with (s | ⟨o, s⟩) | s
  · exact .inl (.inl (h _ _ s n))
  · exact .inl (.inr ⟨o, h _ _ s n⟩)
  · exact .inr s
theorem Kp.same {b : Addr} {H H1 : Hp} (h : Same H H1) : Kp b H H1 := fun a o e _ => h a o e
/-- the heap but for what stands at b -/
def hid (H : Hp) (b : Addr) : Hp := fun a => if a = b then none else H a
theorem hid_sub {H : Hp} {b : Addr} : Same (hid H b) H := fun a o e => by
  unfold hid at e
  by_cases h : a = b
  · rw [if_pos h] at e
    cases e
  · rw [if_neg h] at e
    exact e
theorem hid_kp {b : Addr} {H H1 : Hp} (h : Kp b H H1) : Same (hid H b) (hid H1 b) := fun a o e => by
  unfold hid at e ⊢
  by_cases n : a = b
  · rw [if_pos n] at e
    cases e
  · rw [if_neg n] at e ⊢
    exact h a o e n
theorem hid_get {b a : Addr} {H : Hp} {o : HO} (h : H a = some o) (n : a ≠ b) : hid H b a = some o := by
  unfold hid
  rw [if_neg n]
  exact h
theorem Same.sqt {K : PySem.W.Frag} {H H' : Hp} {a : Addr} {xs : List V} (e : Same H H') (h : SqT K H a xs) : SqT K H' a xs := by
  rcases h with (h | ⟨o, h⟩) | h
  · exact .inl (.inl (e _ _ h))
  · exact .inl (.inr ⟨o, e _ _ h⟩)
  · exact .inr h
theorem Same.new {H : Hp} {p : Addr} {o : HO} (h : H p = none) : Same H (upd H p o) := fun a u e => by
  rw [upd_ne (ne_of_none e h)]
  exact e
/-- what is new in H' -/
def dif (H H' : Hp) : Hp := fun a => match H a with
  | none => H' a
  | some _ => none
theorem dif_eq {H H' : Hp} {a : Addr} {o : HO} : dif H H' a = some o ↔ H a = none ∧ H' a = some o := by
  unfold dif
  cases h : H a with
  | none => exact ⟨fun e => ⟨rfl, e⟩, fun e => e.2⟩
  | some u => exact ⟨fun e => (nomatch (show (none : Option HO) = some o from e)), fun e => by cases e.1⟩
theorem dif_sub {H H' : Hp} : Same (dif H H') H' := fun _ _ e => (dif_eq.mp e).2
theorem dif_new {H H' : Hp} {a : Addr} {o : HO} (h : H a = none) (h' : H' a = some o) : dif H H' a = some o := dif_eq.mpr ⟨h, h'⟩
/-- what is tracked stays tracked -/
def Mo (H H' : Hp) : Prop := ∀ a, H' a = none → H a = none
theorem Mo.refl (H : Hp) : Mo H H := fun _ h => h
theorem Mo.trans {H H1 H2 : Hp} (h : Mo H H1) (g : Mo H1 H2) : Mo H H2 := fun a e => h a (g a e)
theorem Mo.upd {H : Hp} {p : Addr} {o : HO} : Mo H (upd H p o) := fun a e => by
  by_cases h : a = p
  · subst h
    rw [upd_same] at e
    cases e
  · rw [upd_ne h] at e
    exact e
theorem Kp.mo {b : Addr} {H H' : Hp} {o : HO} (h : Kp b H H') (hb : H' b = some o) : Mo H H' := fun a e => by
  cases q : H a with
  | none => rfl
  | some u =>
    have n : a ≠ b := fun z => by rw [z, hb] at e; cases e
    rw [h a u q n] at e
    cases e
/-- what was new stays: all of H1 but b, which stood in H -/
theorem dif_kp {b : Addr} {H H1 H2 : Hp} {o : HO} (hb : H b = some o) (k : Kp b H1 H2) : Same (dif H H1) (dif H H2) := fun a u e => by
  obtain ⟨e1, e2⟩ := dif_eq.mp e
  exact dif_new e1 (k a u e2 (fun z => by rw [z, hb] at e1; cases e1))
theorem dif_mo {H0 H H1 : Hp} (m : Mo H0 H) : Same (dif H H1) (dif H0 H1) := fun a u e => by
  obtain ⟨e1, e2⟩ := dif_eq.mp e
  exact dif_new (m a e1) e2
mutual
theorem dp_same {K : PySem.W.Frag} {H H' : Hp} (e : Same H H') : ∀ (d : PyData) (v : V), Dp K H v d → Dp K H' v d
  | .none, _, h => by cases h; exact .non
  | .bool _, _, h => by cases h; exact .bl _
  | .int _, _, h => by cases h; exact .int _
  | .str _, _, h => by cases h; exact .str _
  | .list ds, _, h => by
    cases h with
    | lst s a => exact .lst (e.seq s) (dpAll_same e ds _ a)
  | .tuple ds, _, h => by
    cases h with
    | tup s a => exact .tup (Same.sqt e s) (dpAll_same e ds _ a)
  | .dict _, _, h => by cases h
theorem dpAll_same {K : PySem.W.Frag} {H H' : Hp} (e : Same H H') : ∀ (ds : List PyData) (vs : List V), DpAll K H vs ds → DpAll K H' vs ds
  | [], _, h => by cases h; exact .nil
  | d :: ds, _, h => by
    cases h with
    | cons a b => exact .cons (dp_same e d _ a) (dpAll_same e ds _ b)
end
theorem dpAll_append {K : PySem.W.Frag} {H : Hp} : ∀ {vs : List V} {ds : List PyData} {ws : List V} {es : List PyData}, DpAll K H vs ds → DpAll K H ws es → DpAll K H (vs ++ ws) (ds ++ es)
  | _, _, _, _, .nil, g => g
  | _, _, _, _, .cons a b, g => .cons a (dpAll_append b g)
end Pn

namespace Pn
open PySem L2
/-! ### one statement, with what it comes to -/
theorem joinOn {t : TE} {σ : L2.St} {H : Hp} {Q : VK} (C : V → Hp → Prop) (h1 : ∀ Q' : VK, (∀ v H', C v H' → Q' v H') → t σ H Q') (h2 : ∀ v H', C v H' → Q v H') : t σ H Q := h1 Q h2
/-- x = e, where what e comes to is said by C -/
theorem stepSet {te : TE} {i : Nat} {B : TS} {D : Ends} {σ : L2.St} {H : Hp} (C : V → Hp → Prop) (h1 : ∀ Q' : VK, (∀ v H', C v H' → Q' v H') → te σ H Q') (h2 : ∀ v H', C v H' → B D (σ.set i (some v)) H') : tSeq (tAsg te (gName i)) B D σ H := h1 _ h2
theorem stepDrop {te : TE} {B : TS} {D : Ends} {σ : L2.St} {H : Hp} (C : Hp → Prop) (h1 : ∀ Q' : VK, (∀ v H', C H' → Q' v H') → te σ H Q') (h2 : ∀ H', C H' → B D σ H') : tSeq (tDrop te) B D σ H := h1 (fun _ H1 => B D σ H1) fun _ H' c => h2 H' c
theorem stepIfF {tt : TT} {A C : TS} {D : Ends} {σ : L2.St} {H : Hp} (h1 : ∀ Q : Bool → Hp → Prop, Q false H → tt σ H Q) (h2 : C D σ H) : tSeq (tIfS tt A tNext) C D σ H := h1 _ (by rw [if_neg Bool.false_ne_true]; exact h2)
theorem stepNo {tt : TT} {A C : TS} {D : Ends} {σ : L2.St} {H : Hp} (G : Hp → Prop) (h1 : ∀ Q : Bool → Hp → Prop, (∀ H', G H' → Q false H') → tt σ H Q) (h2 : ∀ H', G H' → C D σ H') : tSeq (tIfS tt A tNext) C D σ H := h1 _ fun H' g => by
  rw [if_neg Bool.false_ne_true]
  exact h2 H' g
theorem stepYes {tt : TT} {A B C : TS} {D : Ends} {σ : L2.St} {H : Hp} (G : Hp → Prop) (h1 : ∀ Q : Bool → Hp → Prop, (∀ H', G H' → Q true H') → tt σ H Q) (h2 : ∀ H', G H' → A { D with nx := C D } σ H') : tSeq (tIfS tt A B) C D σ H := h1 _ fun H' g => by
  rw [if_pos rfl]
  exact h2 H' g
theorem Same.mo {H H' : Hp} (s : Same H H') : Mo H H' := fun _ e => s.free e
end Pn

namespace Pn
open PySem L2
/-- the two ints of a box of draws -/
def Bx (x y : Int) : Prop := 0 ≤ x ∧ 1 ≤ y ∧ y ≤ 2147483629
def spChoose : Sp := fun vs H Q _ => ∃ (b : Addr) (x y m : Int), vs = [.ref b, .int m] ∧ H b = some (.lst [.int x, .int y]) ∧ Bx x y ∧ 0 < m ∧ m < 1000000 ∧
  ∀ r x' y', 0 ≤ r → r < m → Bx x' y' → Q (.int r) (upd H b (.lst [.int x', .int y']))
section
variable {P : Program} {w : World} {K : PySem.W.Frag} {mg : Str → Option Value} {base : Heap}
/-- the box for a round -/
def spSeed (K : PySem.W.Frag) : Sp := fun vs H Q _ => ∃ (a : Addr) (ns : List Int) (k : Nat), vs = [.ref a, .int k] ∧ SqL K H a (ns.map V.int) ∧ k ≤ 100 ∧
  ∀ (p : Addr) (x y : Int), H p = none → Bx x y → Q (.ref p) (upd H p (.lst [.int x, .int y]))
/-- what a box is, by its place -/
def BoxAt (H : Hp) (b : Addr) : Prop := ∃ x y : Int, Bx x y ∧ H b = some (.lst [.int x, .int y])
theorem sql_upd {H : Hp} {a b : Addr} {o : HO} {xs : List V} (h : SqL K H a xs) (hne : a ≠ b) : SqL K (upd H b o) a xs := by
  rcases h with (h | ⟨u, h⟩) | h
  · exact .inl (.inl (by rw [upd_ne hne]; exact h))
  · exact .inl (.inr ⟨u, by rw [upd_ne hne]; exact h⟩)
  · exact .inr h
theorem sqt_upd {H : Hp} {a b : Addr} {o : HO} {xs : List V} (h : SqT K H a xs) (hne : a ≠ b) : SqT K (upd H b o) a xs := by
  rcases h with (h | ⟨u, h⟩) | h
  · exact .inl (.inl (by rw [upd_ne hne]; exact h))
  · exact .inl (.inr ⟨u, by rw [upd_ne hne]; exact h⟩)
  · exact .inr h
/-- one of several things -/
def spOne (K : PySem.W.Frag) : Sp := fun vs H Q _ => ∃ (b a : Addr) (x y : Int) (xs : List V), vs = [.ref b, .ref a] ∧ H b = some (.lst [.int x, .int y]) ∧ Bx x y ∧ SqL K H a xs ∧ a ≠ b ∧ 0 < xs.length ∧ xs.length < 1000000 ∧
  ∀ (i : Nat) (x' y' : Int) (hi : i < xs.length), Bx x' y' → Q xs[i] (upd H b (.lst [.int x', .int y']))
/-- the same, of a box by its place -/
def spChooseB : Sp := fun vs H Q _ => ∃ (b : Addr) (m : Int), vs = [.ref b, .int m] ∧ BoxAt H b ∧ 0 < m ∧ m < 1000000 ∧ ∀ (r : Int) (H' : Hp), 0 ≤ r → r < m → BoxAt H' b → Kp b H H' → (∀ a, H a = none → H' a = none) → Q (.int r) H'
def spOneB (K : PySem.W.Frag) : Sp := fun vs H Q _ => ∃ (b a : Addr) (xs : List V), vs = [.ref b, .ref a] ∧ BoxAt H b ∧ SqL K H a xs ∧ a ≠ b ∧ 0 < xs.length ∧ xs.length < 1000000 ∧
  ∀ (v : V) (H' : Hp), v ∈ xs → BoxAt H' b → Kp b H H' → (∀ a, H a = none → H' a = none) → Q v H'
end
end Pn

namespace Pn
open PySem L2
abbrev sIsInteger : Stmt := top 4
abbrev sIsNumber : Stmt := top 5
abbrev sIsName : Stmt := top 6
/-! ### what these checks tell of data -/
def rowV : List V := [.str "note", .str "skip", .str "set", .str "keep", .str "back", .str "ref", .str "put", .str "open", .str "part"]
/-- a letter of a name -/
def lok (c : Nat) : Bool := decide (97 ≤ c) && decide (c ≤ 122)
def nameS (z : Str) : Bool := !inV (.str z) rowV && (decide (1 ≤ (z.length : Int)) && decide ((z.length : Int) ≤ 4)) && z.cps.toList.all lok
def nameD : PyData → Bool
  | .str z => nameS z
  | _ => false
def intD : PyData → Bool
  | .int _ => true
  | _ => false
def numD : PyData → Bool
  | .int i => decide (0 ≤ i)
  | _ => false
/-- the type of data -/
def tyD : PyData → String
  | .none => "NoneType"
  | .bool _ => "bool"
  | .int _ => "int"
  | .str _ => "str"
  | .list _ => "list"
  | .tuple _ => "tuple"
  | .dict _ => "dict"
theorem dp_ty {K : PySem.W.Frag} {H : Hp} {v : V} {d : PyData} (h : Dp K H v d) : TyX K H v (.type (tyD d)) := by
  cases h with
  | non => exact .base .non
  | bl b => exact .base (.bl b)
  | int i => exact .base (.int i)
  | str x => exact .base (.str x)
  | lst s _ =>
    rcases s with (s | ⟨o, s⟩) | ⟨o, _, _, e, c, _⟩
    · exact .base (.lst s)
    · exact .base (.frz s)
    · exact .kList e c
  | tup s _ =>
    rcases s with (s | ⟨o, s⟩) | ⟨o, _, _, e, c, _⟩
    · exact .base (.tup s)
    · exact .fTuple s
    · exact .kTuple e c
def strT : PyData → Bool
  | .str _ => true
  | _ => false
def intT : PyData → Bool
  | .bool _ => true
  | .int _ => true
  | _ => false
def boolT : PyData → Bool
  | .bool _ => true
  | _ => false
theorem kit_str : ∀ d : PyData, kitB (tyD d) "str" = some (strT d)
  | .none => (by decide +kernel : kitB "NoneType" "str" = some false)
  | .bool _ => (by decide +kernel : kitB "bool" "str" = some false)
  | .int _ => (by decide +kernel : kitB "int" "str" = some false)
  | .str _ => (by decide +kernel : kitB "str" "str" = some true)
  | .list _ => (by decide +kernel : kitB "list" "str" = some false)
  | .tuple _ => (by decide +kernel : kitB "tuple" "str" = some false)
  | .dict _ => (by decide +kernel : kitB "dict" "str" = some false)
theorem kit_int : ∀ d : PyData, kitB (tyD d) "int" = some (intT d)
  | .none => (by decide +kernel : kitB "NoneType" "int" = some false)
  | .bool _ => (by decide +kernel : kitB "bool" "int" = some true)
  | .int _ => (by decide +kernel : kitB "int" "int" = some true)
  | .str _ => (by decide +kernel : kitB "str" "int" = some false)
  | .list _ => (by decide +kernel : kitB "list" "int" = some false)
  | .tuple _ => (by decide +kernel : kitB "tuple" "int" = some false)
  | .dict _ => (by decide +kernel : kitB "dict" "int" = some false)
theorem kit_bool : ∀ d : PyData, kitB (tyD d) "bool" = some (boolT d)
  | .none => (by decide +kernel : kitB "NoneType" "bool" = some false)
  | .bool _ => (by decide +kernel : kitB "bool" "bool" = some true)
  | .int _ => (by decide +kernel : kitB "int" "bool" = some false)
  | .str _ => (by decide +kernel : kitB "str" "bool" = some false)
  | .list _ => (by decide +kernel : kitB "list" "bool" = some false)
  | .tuple _ => (by decide +kernel : kitB "tuple" "bool" = some false)
  | .dict _ => (by decide +kernel : kitB "dict" "bool" = some false)
/-! ### a comprehension whose items are told by their places -/
theorem lc_step {H1 : Hp} {D : Addr} {f : Nat → V} {i : Nat} (hi : i < 1000) : ∃ acc, (upd H1 D (.lst ((List.range i).map f))) D = some (.lst acc) ∧ acc.length < sizeLine ∧
    upd (upd H1 D (.lst ((List.range i).map f))) D (.lst (acc ++ [f i])) = upd H1 D (.lst ((List.range (i + 1)).map f)) := by
  refine ⟨_, upd_same, by rw [List.length_map, List.length_range]; exact small1000 (by omega), ?_⟩
  rw [List.range_succ, List.map_append]
  funext b
  by_cases e : b = D
  · rw [e, upd_same, upd_same]
    rfl
  · rw [upd_ne e, upd_ne e, upd_ne e]
theorem range_getD {f : Nat → Bool} : ∀ l : List Nat, (((List.range l.length).map fun i => f (l.getD i 0)).all id) = l.all f := by
  intro l
  have e : (List.range l.length).map (fun i => f (l.getD i 0)) = l.map f := by
    apply List.ext_getElem
    · simp
    · intro i h1 h2
      have h3 : i < l.length := by simpa using h2
      simp [List.getD_eq_getElem?_getD, List.getElem?_eq_getElem h3]
  rw [e]
  simp
theorem lt_one {a b : Nat} : decide ([a] < [b]) = decide (a < b) := by
  by_cases h : a < b
  · rw [decide_eq_true h, decide_eq_true]
    exact List.Lex.rel h
  · rw [decide_eq_false h, decide_eq_false]
    intro z
    cases z with
    | rel r => exact h r
    | cons r => cases r
theorem lok_eq (c : Nat) : (if (!decide ([c] < [97])) = true then (!decide ([122] < [c])) else false) = lok c := by
  rw [lt_one, lt_one]
  unfold lok
  by_cases h1 : c < 97
  · rw [decide_eq_true h1, decide_eq_false (show ¬ 97 ≤ c by omega)]
    rfl
  · rw [decide_eq_false h1, decide_eq_true (show 97 ≤ c by omega)]
    by_cases h2 : 122 < c
    · rw [decide_eq_true h2, decide_eq_false (show ¬ c ≤ 122 by omega)]
      rfl
    · rw [decide_eq_false h2, decide_eq_true (show c ≤ 122 by omega)]
      rfl
section
variable {P : Program} {w : World} {K : PySem.W.Frag} {mg : Str → Option Value} {base : Heap}
structure TChk (K : PySem.W.Frag) (mg : Str → Option Value) : Type where
  mInt : mg "int" = none
  mBool : mg "bool" = none
  mStr : mg "str" = none
  mIsi : mg "isinstance" = none
  mLen : mg "len" = none
  mAll : mg "all" = none
  words : Addr
  mWords : mg "ROW_WORDS" = some (.ref words)
  hWords : ∀ H, SqT K H words rowV
  tok : Tok
  mLong : mg "LONGEST_NAME" = some (.int 4 tok)
  isInteger : At K mg "is_integer" sIsInteger ["value"]
  isNumber : At K mg "is_number" sIsNumber ["value"]
  isName : At K mg "is_name" sIsName ["value"]
def spIsInteger (K : PySem.W.Frag) : Sp := fun vs H Q _ => ∃ (v : V) (d : PyData), vs = [v] ∧ Dp K H v d ∧ Q (.bl (intD d)) H
theorem scIsInteger : FnScope ["value"] ["value"] (defScope sIsInteger) := ⟨rfl, rfl, rfl, by decide +kernel, rfl, by decide +kernel, by decide +kernel⟩
theorem TChk.okInteger (T : TChk K mg) : FnOk P w K mg base CX0 1 T.isInteger.f T.isInteger.fd ["value"] (spIsInteger K) := by
  refine T.isInteger.F.ok scIsInteger (fun vs H Q E h => ?_) (fun cdv A outer s H vs Q E hr h => ?_)
  · obtain ⟨v, d, rfl, _⟩ := h
    rfl
  · obtain ⟨v, d, rfl, hd, q⟩ := h
    refine ⟨_, pss_one (ps_ret (pe_and (pe_callB call_isi (by rfl) T.mIsi (by decide +kernel) (pa_cons (pv 0) (pa_cons (pe_bltn (v := .ty "int") (by rfl) T.mInt (by decide +kernel) rfl) pa_nil)))
      (pe_one (pe_not (pe_callB call_isi (by rfl) T.mIsi (by decide +kernel) (pa_cons (pv 0) (pa_cons (pe_bltn (v := .ty "bool") (by rfl) T.mBool (by decide +kernel) rfl) pa_nil))))))), ?_⟩
    refine ⟨_, rfl, v, _, _, _, _, rfl, .ty _, dp_ty hd, kit_ty (kit_int d), _, rfl, ?_⟩
    cases d with
    | none => exact q
    | str z => exact q
    | list ds => exact q
    | tuple ds => exact q
    | dict ds => exact q
    | int i => exact ⟨_, rfl, v, _, _, _, _, rfl, .ty _, dp_ty hd, kit_ty (kit_bool _), _, rfl, q⟩
    | bool i => exact ⟨_, rfl, v, _, _, _, _, rfl, .ty _, dp_ty hd, kit_ty (kit_bool _), _, rfl, q⟩
def spIsNumber (K : PySem.W.Frag) : Sp := fun vs H Q _ => ∃ (v : V) (d : PyData), vs = [v] ∧ Dp K H v d ∧ Q (.bl (numD d)) H
theorem scIsNumber : FnScope ["value"] ["value"] (defScope sIsNumber) := ⟨rfl, rfl, rfl, by decide +kernel, rfl, by decide +kernel, by decide +kernel⟩
theorem TChk.okNumber (T : TChk K mg) : FnOk P w K mg base CX0 2 T.isNumber.f T.isNumber.fd ["value"] (spIsNumber K) := by
  refine T.isNumber.F.ok scIsNumber (fun vs H Q E h => ?_) (fun cdv A outer s H vs Q E hr h => ?_)
  · obtain ⟨v, d, rfl, _⟩ := h
    rfl
  · obtain ⟨v, d, rfl, hd, q⟩ := h
    refine ⟨_, pss_one (ps_ret (pe_and (pe_call T.okInteger hr rfl T.isInteger.m T.isInteger.F.kp T.isInteger.b .nil pass0 (pa_cons (pv 0) pa_nil)) (pe_one (pe_cmpR op_ge (pv 0) pe_int (nomark _))))), ?_⟩
    refine ⟨_, rfl, v, d, rfl, hd, _, rfl, ?_⟩
    cases d with
    | none => exact q
    | str z => exact q
    | list ds => exact q
    | tuple ds => exact q
    | dict ds => exact q
    | bool i => exact q
    | int i =>
      cases hd
      exact ⟨_, rfl, _, _, rfl, rfl, q⟩
def dlen : PyData → Prop
  | .str z => z.length ≤ 900
  | _ => True
def spIsName (K : PySem.W.Frag) : Sp := fun vs H Q _ => ∃ (v : V) (d : PyData), vs = [v] ∧ Dp K H v d ∧ dlen d ∧ ∀ H', Same H H' → Mo H H' → Q (.bl (nameD d)) H'
theorem scIsName : FnScope ["value", "letter"] ["value"] (defScope sIsName) := ⟨rfl, rfl, rfl, by decide +kernel, rfl, by decide +kernel, by decide +kernel⟩
theorem TChk.okName (T : TChk K mg) : FnOk P w K mg base CX0 1 T.isName.f T.isName.fd ["value"] (spIsName K) := by
  refine T.isName.F.ok scIsName (fun vs H Q E h => ?_) (fun cdv A outer s H vs Q E hr h => ?_)
  · obtain ⟨v, d, rfl, _⟩ := h
    rfl
  · obtain ⟨v, d, rfl, hd, hl, q⟩ := h
    refine ⟨_, pss_cons (ps_if (PW.pt (pw_or (pt_not (pt_val (pe_callB call_isi (by rfl) T.mIsi (by decide +kernel) (pa_cons (pv 0) (pa_cons (pe_bltn (v := .ty "str") (by rfl) T.mStr (by decide +kernel) rfl) pa_nil)))))
        (pw_or1 (pt_cmpR op_in_seq (pv 0) (pe_glob (v := .ref T.words) (by rfl) T.mWords rfl) rfl)))) (pss_one (ps_ret pe_bl)) pss_nil)
      (pss_one (ps_ret (pe_and (pe_chain op_le op_le pe_int (pe_callB call_len_str (by rfl) T.mLen PySem.boot_len (pa_cons (pv 0) pa_nil)) (pe_glob (v := .int 4) (by rfl) T.mLong ⟨_, rfl⟩))
        (pe_one (pe_callB (cr_all rfl) (by rfl) T.mAll (by decide +kernel) (pa_cons (pe_lc (own := [("letter", 1)]) (g := gName 1) (tt := tYes) (by rfl) scIsName.nd (pi_str (pv 0))
          (blkOk_by (N := ["value", "letter"]) (sc := defScope sIsName) (by decide +kernel)) (fun _ _ _ _ _ => pg_name (i := 1) scIsName.nd rfl (Or.inl rfl)) (fun _ _ _ _ _ => pts_nil)
          (fun _ _ _ _ _ => pe_chain op_le_str op_le_str pe_str (pv 1) pe_str)) pa_nil)))))), ?_⟩
    refine ⟨_, rfl, v, _, _, _, _, rfl, .ty _, dp_ty hd, kit_ty (kit_str d), _, rfl, ?_⟩
    cases d with
    | str z =>
      cases hd
      refine ⟨_, rfl, T.words, rowV, rfl, .inr (T.hWords H), rfl, rfl, _, rfl, ?_⟩
      have hl' : z.length ≤ 900 := hl
      cases e : inV (.str z) rowV with
      | true =>
        have e2 : nameD (.str z) = false := by show nameS z = false; unfold nameS; rw [e]; rfl
        rw [e2] at q
        refine iteT ?_
        exact q H (Same.refl H) (Mo.refl H)
      | false =>
        refine iteF ?_
        refine ⟨_, rfl, z, rfl, Nat.le_trans hl' (by decide), _, _, rfl, rfl, _, rfl, ?_⟩
        have e2 : nameD (.str z) = ((decide (1 ≤ (z.length : Int)) && decide ((z.length : Int) ≤ 4)) && z.cps.toList.all lok) := by show nameS z = _; unfold nameS; rw [e]; rfl
        rw [e2] at q
        cases h1 : decide (1 ≤ (z.length : Int)) with
        | false =>
          rw [h1] at q
          refine iteF ?_
          exact ⟨false, rfl, iteF (q H (Same.refl H) (Mo.refl H))⟩
        | true =>
          rw [h1] at q
          refine iteT ?_
          refine ⟨_, _, rfl, rfl, _, rfl, ?_⟩
          cases h2 : decide ((z.length : Int) ≤ 4) with
          | false =>
            rw [h2] at q
            exact iteF (q H (Same.refl H) (Mo.refl H))
          | true =>
            rw [h2] at q
            refine iteT ?_
            refine ⟨_, rfl, z, rfl, fun D hD => lc_it walk_str (fun i Hi => Hi = upd H D (.lst ((List.range i).map fun j => .bl (lok (z.cps.toList.getD j 0))))) rfl (fun _ _ _ _ => trivial) (fun i x Hi Hj hi hP hY => ?_) (fun Hi hP => ?_)⟩
            · obtain ⟨rfl, c, hc, rfl⟩ := hY
              subst hP
              have hi2 : i < 1000 := by
                have : z.cps.size = z.length := rfl
                omega
              have hg : z.cps.toList.getD i 0 = c := by
                rw [List.getD_eq_getElem?_getD, Array.getElem?_toList, hc]
                rfl
              have fin := lc_step (H1 := H) (D := D) (f := fun j => .bl (lok (z.cps.toList.getD j 0))) (i := i) hi2
              rw [hg, ← lok_eq] at fin
              refine ⟨rfl, _, rfl, _, _, rfl, rfl, _, rfl, ?_⟩
              cases h3 : (!decide ([c] < [97])) with
              | false =>
                have h4 : (!decide (({ cps := #[c] } : Str).cps.toList < (Str.ofString "a").cps.toList)) = false := h3
                rw [h3] at fin
                rw [h4]
                exact fin
              | true =>
                have h4 : (!decide (({ cps := #[c] } : Str).cps.toList < (Str.ofString "a").cps.toList)) = true := h3
                rw [h3] at fin
                rw [h4]
                exact ⟨_, _, rfl, rfl, fin⟩
            · subst hP
              refine ⟨D, (List.range z.cps.size).map fun j => lok (z.cps.toList.getD j 0), rfl, ?_, ?_⟩
              · refine SqL.of ?_
                rw [upd_same, List.map_map]
                rfl
              · have e3 := range_getD (f := lok) z.cps.toList
                rw [Array.length_toList] at e3
                rw [e3]
                exact q _ (Same.new hD) Mo.upd
    | none => exact q H (Same.refl H) (Mo.refl H)
    | list ds => exact q H (Same.refl H) (Mo.refl H)
    | tuple ds => exact q H (Same.refl H) (Mo.refl H)
    | dict ds => exact q H (Same.refl H) (Mo.refl H)
    | int i => exact q H (Same.refl H) (Mo.refl H)
    | bool i => exact q H (Same.refl H) (Mo.refl H)
end
end Pn

namespace Pn
open PySem L2
theorem iteTD {c : Bool} {A B : Prop} (hc : c = true) (h : A) : if c = true then A else B := by
  rw [if_pos hc]
  exact h
theorem iteFD {c : Bool} {A B : Prop} (hc : c = false) (h : B) : if c = true then A else B := by
  rw [hc, if_neg Bool.false_ne_true]
  exact h
/-! ### own exceptions that keep one thing -/
theorem same_made {H1 : Hp} {a d : Addr} {y : V} {f : Str} {o1 o2 o3 : HO} (ha : H1 a = none) (hd : H1 d = none) : Same H1 (upd (del (upd (upd (upd H1 a o1) d o2) a o3) a) d (.xd [(f, y)])) := fun b o e => by
  have n1 : b ≠ a := ne_of_none e ha
  have n2 : b ≠ d := ne_of_none e hd
  rw [upd_ne n2, del_ne n1, upd_ne n1, upd_ne n2, upd_ne n1]
  exact e
/-- an own exception class of the text whose __init__ keeps one thing under the name fld -/
structure TExc (K : PySem.W.Frag) (mg : Str → Option Value) (x : Str) (qual fld : Str) (st : Stmt) : Type where
  C : Addr
  fI : Addr
  fd : FuncData
  F : Fun K "__init__" qual st fI fd
  b : Binds K fd ["self", fld] []
  m : mg x = some (.ref C)
  O : OexC K C
  iC : PySem.W.findIn K (.ref C) "__init__" = some (some (.ref fI))
  tI : PySem.W.typeIn K (.ref fI) = some (.type "function")
  noF : PySem.W.findIn K (.ref C) fld = some none
  E : ExcC K C
  isC : PySem.W.isClsIn K C = true
  te : PySem.W.exmOne K (.ref C) (.ref C) = some true
  xf : XfC K C
def spXInit (K : PySem.W.Frag) (fld : Str) : Sp := fun vs H Q _ => ∃ (a C : Addr) (v : V), vs = [.ref a, v] ∧ H a = some (exo a C none) ∧ OexC K C ∧ PySem.W.findIn K (.ref C) fld = some none ∧
  ∀ dx, H dx = none → dx ≠ a → Q .non (upd (upd H dx (exd dx [(fld, v)])) a (exo a C (some dx)))
/-- isinstance of the exception that a suite holds -/
def rIsX (K : PySem.W.Frag) (D a : Addr) (cls : Value) (d : Option Addr) : List V → Hp → VK → Prop := fun xs H Q => ∃ (c : V) (cv : Value) (b : Bool) (dd : Addr) (fs : List (Str × V)), xs = [.ref a, c] ∧ cls = .ref D ∧ ClsV c cv ∧ PySem.W.kitOne K (.ref D) cv = some b ∧ d = some dd ∧ H dd = some (.xd fs) ∧ Q (.bl b) H
theorem call_isX {X : Cx} {a D : Addr} {cls : Value} {d : Option Addr} {oe : Obj} {pn : List (Addr × Obj)} (C : ExcC X.K D) (hz : Zc cls d oe) (hf : ∃ vs, oe.data = .fields vs) : CallR (X.suite a ((a, oe) :: pn)) (.builtin "isinstance") (rIsX X.K D a cls d) := by
  intro pins s σ H xs us Q I r h
  obtain ⟨c, cv, b, dd, fs, rfl, rfl, hcv, e, rfl, hdd, q⟩ := h
  obtain ⟨u1, u2, rfl, r1, r2⟩ := vals2 r
  obtain rfl : u1 = Value.ref a := r1
  obtain rfl : u2 = cv := hcv.eq r2
  obtain ⟨hget, _⟩ := I.pin (a, oe) (List.mem_append.mpr (.inl List.mem_cons_self))
  obtain ⟨mA, hns, _⟩ : ObjOk X.prog X.w H s.heap dd (.xd fs) := I.hok dd _ hdd
  obtain ⟨od, ho, _⟩ := lookIn_ns hns
  obtain ⟨vs, hv⟩ := hf
  have J : PySem.W.InstAt s.heap a oe D (some od) := ⟨hget, hz.1, by unfold PySem.W.notCls; rw [hv] <;> rfl, by rw [hz.2]; exact ho⟩
  have hcl : (PySem.W.clsIn X.K D).isSome = true := by
    have q := C.hd
    unfold PySem.W.hasDictIn at q
    cases z : PySem.W.clsIn X.K D with
    | some cd => rfl
    | none => rw [z] at q; cases q
  exact PySem.W.kia_one (PySem.W.kitx_exc hcl C.hg C.hk C.hs C.ha C.hn C.ht C.hm) I.kIn J e (fun z => nomatch z) fun tk => ⟨.bl b, H, I.tok tk, rfl, q⟩
end Pn

namespace Pn
open PySem PySem.Spec PyProof.Rows L2
/-! ### the same exceptions, with what is known of their context -/
section
variable {X : Cx} {CX : CXT} {C fI : Addr} {k : Nat} {fd : FuncData} {ps : List Str} {sp : Sp} {ta : TA}
theorem pmk_oexN {x : Str} {e : Expr} {es : List Expr} {p pos : Pos} (T : OexC X.K C) (iC : PySem.W.findIn X.K (.ref C) "__init__" = some (some (.ref fI))) (tI : PySem.W.typeIn X.K (.ref fI) = some (.type "function"))
    (F1 : FnOk X.prog X.w X.K X.mg X.base CX k fI fd ps sp) (room : Room (k + 1) X.A) (bnd : Binds X.K fd ps []) (noE : Passes CX X (fun _ _ _ => False))
    (gl : Gl X x) (at_ : X.mg x = some (.ref C)) (ha : PA X (e :: es) ta) (hdb : (x == ("__debug__" : Str)) = false := by decide)
    (he : starEach (e :: es) X.env = (false, eval e X.env) :: starEach es X.env := by rfl) (hpl : (backTo pos (starEach es X.env)).any (·.1) = false := by rfl) :
    L2N.PMk X (.Call (.Name x p) (e :: es) [] pos) (tMkO C sp [] ta) := by
  intro pins s σ H Q I want
  rcases T.cls with ⟨c1, c2, c3, c4, mro, c5, c6, c7, c8, c9, d0, d1, d2, d3, d5, look, vet⟩
  apply wpAny_Call_Name_kw
  refine ld_glob I gl at_ ?_ hdb
  refine PySem.W.callWith_K (h₀ := X.base) I.ok.mod.kin T.kC ?_ he hpl
  refine thn (ha.run pos pins s σ H _ I want) ?_
  rintro us ⟨hp, gs, dr, tk, os⟩ ⟨vs, H1, J, rel, few, made⟩
  refine ⟨J.kIn, ?_⟩
  let a := hp.objs.size + 1
  let hp2 := (hp.push (PySem.W.kdv_tup us)).push (PySem.HandSPX.excO C hp.objs.size)
  have old : ∀ b o, hp.get? b = some o → hp2.get? b = some o := fun b o z => Heap.get?_push_of_some _ (Heap.get?_push_of_some _ z)
  have fresh : H1 a = none := J.hok.fresh (Nat.le_succ _)
  have there : hp2.get? a = some (PySem.HandSPX.excO C hp.objs.size) := by
    show ((hp.push (PySem.W.kdv_tup us)).push (PySem.HandSPX.excO C hp.objs.size)).get? (hp.objs.size + 1) = _
    heap_get
  have J2 : Inv X pins σ (upd H1 a (exo a C none)) ⟨hp2, gs, dr, tk, os⟩ := J.laid (t' := tk) (a := a) (o := exo a C none) (h' := hp2) old (Nat.le_succ _) (exo_ok there)
  have go := made a fresh
  rw [List.append_nil] at go
  have rel2 : Vals (V.ref a :: vs) (Value.ref a :: us) := .cons (show RelV (.ref a) (Value.ref a) from rfl) rel
  have cnt : (Value.ref a :: us ++ []).length = ps.length := by
    rw [List.append_nil, ← rel2.length]
    exact F1.len _ _ _ _ go
  have bd := bnd ⟨hp2, gs, dr, tk, os⟩ (Value.ref a :: us) J2.kIn cnt
  rw [List.append_nil] at bd
  have lim : us.length ≤ sizeLine := by
    rw [← Paired.length rel, sizeLine_eq]
    omega
  show wpAny _ _ (call (.ref C) us) _ _ _
  refine wpAny_call (PySem.HandSPX.call_own F.excBase_ValueError (fun Y => PySem.HandSPX.refsVE_contains Y mro vet) (J.kIn _ _ look) (PySem.W.looks_findIn J.kIn iC)
    (fun self => PySem.W.bind_fn J.kIn self tI) lim ?_)
  have ran := F1.run _ X.stack _ _ ⟨Value.ref a :: us, []⟩ (Value.ref a :: us) _ _ (fun _ _ _ => False) (room.make C us []) (J2.env0.make C us []) bd rel2 go
  refine codeAny_mono ran ?_
  intro r s' out
  match r, out with
  | .error er, out => exact noE pins σ _ _ er s' J2 out
  | .ok .next, out => exact False.elim out
  | .ok .brk, out => exact False.elim out
  | .ok .cont, out => exact False.elim out
  | .ok (.ret u), out =>
    obtain ⟨v, H2, osame, bare, un, ok2, rv, rfl, d, fs, ea, ed, dn, fin⟩ := out
    obtain ⟨h2, g2, dr2, t2, os2⟩ := s'
    obtain ⟨t0, G, J3, sub, gone, obj, untr⟩ := mk_end0 (d2 := dr2) (t2 := t2) J (Nat.le_succ _) old un ok2 osame bare ea ed dn
    exact ⟨rv, a, _, _, ⟨G, g2, dr2, t2, os2⟩, _, .ref C, some d, rfl, J3, sub, gone, obj, ⟨rfl, rfl, fun ws z => by cases z; rfl⟩, rfl, rfl, untr, rfl, bare, raises_own T.exC T.tyC, fin⟩
end
section
variable {P : Program} {w : World} {K : PySem.W.Frag} {mg : Str → Option Value} {base : Heap}
theorem funD {x qual : Str} {st : Stmt} {f : Addr} {fd : FuncData} (F : Fun K x qual st f fd) : FunD K x qual (defArgs st) (defBody st) (defScope st) [] [] f fd := by
  obtain ⟨oc, od, kV, doc, pm, an, cdv, ct, osl, e, l, c⟩ := F.ex
  exact ⟨⟨oc, od, _, kV, doc, pm, an, cdv, ct, osl, e, l, c, .inl ⟨rfl, rfl⟩, .inl rfl⟩, F.kp⟩
end
end Pn

namespace Pn
open PySem L2
abbrev sNeedName : Stmt := top 16
abbrev sIRInit : Stmt := inClass (top 11) 0
section
variable {P : Program} {w : World} {K : PySem.W.Frag} {mg : Str → Option Value} {base : Heap}
theorem scIRInit : FnScope ["self", "word"] ["self", "word"] (defScope sIRInit) := ⟨rfl, rfl, rfl, by decide +kernel, rfl, by decide +kernel, by decide +kernel⟩
abbrev TIR (K : PySem.W.Frag) (mg : Str → Option Value) := TExc K mg "InvalidRow" "InvalidRow.__init__" "word" sIRInit
theorem okIRInit (T : TIR K mg) : FnOk P w K mg base CX0 1 T.fI T.fd ["self", "word"] (spXInit K "word") := by
  refine T.F.ok scIRInit (fun vs H Q E h => ?_) (fun cdv A outer s H vs Q E hr h => ?_)
  · obtain ⟨a, C, v, rfl, _⟩ := h
    rfl
  · obtain ⟨a, C, v, rfl, ha, O, no, q⟩ := h
    refine ⟨_, pss_one (ps_ost (pv 0) (pv 1)), ?_⟩
    exact ⟨_, rfl, _, rfl, a, C, rfl, O, no, .inl ⟨ha, fun dx h1 h2 => q dx h1 h2⟩⟩
/-- InvalidRow(wd) leaves the def -/
def RaiseW (C : Addr) (H : Hp) (E : XK) (wd : V) : Prop := ∀ (e : Addr) (H' : Hp), Same H H' → Mo H H' → H e = none → H' e = some (.xd [("word", wd)]) → E (.ref C) (some e) H'
theorem RaiseW.back {C : Addr} {H H1 : Hp} {E : XK} {wd : V} (h : RaiseW C H E wd) (s : Same H H1) (m : Mo H H1) : RaiseW C H1 E wd := fun e H' h1 h2 h3 h4 => h e H' (s.trans h1) (m.trans h2) (m e h3) h4
def spNeed (K : PySem.W.Frag) (C : Addr) : Sp := fun vs H Q E => ∃ (v wd : V) (d : PyData), vs = [v, wd] ∧ Dp K H v d ∧ dlen d ∧ (nameD d = true → ∀ H', Same H H' → Mo H H' → Q .non H') ∧ (nameD d = false → RaiseW C H E wd)
structure TNeed (K : PySem.W.Frag) (mg : Str → Option Value) : Type extends TChk K mg where
  IR : TIR K mg
  need : At K mg "need_name" sNeedName ["value", "word"]
theorem scNeed : FnScope ["value", "word"] ["value", "word"] (defScope sNeedName) := ⟨rfl, rfl, rfl, by decide +kernel, rfl, by decide +kernel, by decide +kernel⟩
/-- a new exception of InvalidRow, as its making leaves it -/
theorem ir_made {C : Addr} {H H1 : Hp} {E : XK} {wd : V} (s : Same H H1) (m : Mo H H1) (h : RaiseW C H E wd) {a : Addr} (ha : H1 a = none) (dx : Addr) (h1 : (upd H1 a (exo a C none)) dx = none) (h2 : dx ≠ a) :
    E (.ref C) (some dx) (upd (del (upd (upd (upd H1 a (exo a C none)) dx (exd dx [("word", wd)])) a (exo a C (some dx))) a) dx (.xd [("word", wd)])) := by
  have hd : H1 dx = none := by rw [upd_ne h2] at h1; exact h1
  refine h dx _ (s.trans (same_made ha hd)) (m.trans fun b e => ?_) (m dx hd) upd_same
  by_cases n2 : b = dx
  · rw [n2]; exact hd
  · by_cases n1 : b = a
    · rw [n1]; exact ha
    · rw [upd_ne n2, del_ne n1, upd_ne n1, upd_ne n2, upd_ne n1] at e
      exact e
theorem okNeed (T : TNeed K mg) : FnOk P w K mg base (L2N.CX P w) 3 T.need.f T.need.fd ["value", "word"] (spNeed K T.IR.C) := by
  refine (funD T.need.F).ok scNeed (fun vs H Q E h => ?_) (fun cdv A outer s H vs Q E hr h => ?_)
  · obtain ⟨v, wd, d, rfl, _⟩ := h
    rfl
  · obtain ⟨v, wd, d, rfl, hd, hl, q1, q2⟩ := h
    refine ⟨_, pss_one (ps_if (pt_not (pt_val (pe_call (T.okName) (hr.mono (by decide)) rfl T.isName.m T.isName.F.kp T.isName.b .nil pass0 (pa_cons (pv 0) pa_nil))))
      (pss_one (L2N.ps_raise rfl (L2N.takes_of rfl rfl rfl rfl) (pmk_oexN T.IR.O T.IR.iC T.IR.tI (okIRInit T.IR) (hr.mono (by decide)) T.IR.b pass0 rfl T.IR.m (pa_cons (pv 1) pa_nil)))) pss_nil), ?_⟩
    refine ⟨_, rfl, v, d, rfl, hd, hl, fun H1 hs hm => ?_⟩
    cases hn : nameD d with
    | true => exact ⟨true, rfl, iteF (q1 hn H1 hs hm)⟩
    | false =>
      refine ⟨false, rfl, iteT ?_⟩
      refine ⟨_, rfl, (by show 1 ≤ 1000; decide), fun a ha => ⟨a, T.IR.C, wd, rfl, upd_same, T.IR.O, T.IR.noF, fun dx h1 h2 => ?_⟩⟩
      have hd1 : H1 dx = none := by rw [upd_ne h2] at h1; exact h1
      exact ⟨rfl, dx, _, upd_same, by rw [upd_ne h2, upd_same], hd1, ir_made hs hm (q2 hn) ha dx h1 h2⟩
/-- an own class with an __init__ -/
structure TCls (K : PySem.W.Frag) (mg : Str → Option Value) (x qual : Str) (st : Stmt) (ps : List Str) : Type where
  C : Addr
  fI : Addr
  fd : FuncData
  F : Fun K "__init__" qual st fI fd
  b : Binds K fd ps []
  m : mg x = some (.ref C)
  M : Mk K C fI
  cl : Cls K C
  noW : NoAttr K C "word"
theorem small2 {f g : Str} {v u : V} : (putF g u (putF f v ([] : List (Str × V)))).length < 1000 := by
  unfold putF putF
  simp only
  split
  · show 1 < 1000
    decide
  · show 2 < 1000
    decide
/-- all but the new instance is as it was -/
def KpI (x : Addr) (H H' : Hp) : Prop := ∀ b o, H b = some o → b ≠ x → H' b = some o
/-! ### Keep -/
abbrev sKeepInit : Stmt := inClass (top 20) 0
theorem scKeepInit : FnScope ["self", "counter"] ["self", "counter"] (defScope sKeepInit) := ⟨rfl, rfl, rfl, by decide +kernel, rfl, by decide +kernel, by decide +kernel⟩
structure TKeep (K : PySem.W.Frag) (mg : Str → Option Value) : Type extends TCls K mg "Keep" "Keep.__init__" sKeepInit ["self", "counter"] where
  noF : NoAttr K C "counter"
def insKeep (C dx : Addr) (v : V) : HO := .ins C dx (putF "counter" v (putF "word" (.str "keep") []))
def spKeepInit (K : PySem.W.Frag) (C CR : Addr) : Sp := fun vs H Q E => ∃ (x dx : Addr) (v : V) (d : PyData), vs = [.ref x, v] ∧ H x = some (.ins C dx []) ∧ Dp K H v d ∧ dlen d ∧
  (nameD d = true → ∀ H', KpI x H H' → Mo H H' → H' x = some (insKeep C dx v) → Q .non H') ∧ (nameD d = false → RaiseW CR H E (.str "counter"))
theorem okKeepInit (T : TKeep K mg) (N : TNeed K mg) : FnOk P w K mg base (L2N.CX P w) 4 T.fI T.fd ["self", "counter"] (spKeepInit K T.C N.IR.C) := by
  refine (funD T.F).ok scKeepInit (fun vs H Q E h => ?_) (fun cdv A outer s H vs Q E hr h => ?_)
  · obtain ⟨x, dx, v, d, rfl, _⟩ := h
    rfl
  · obtain ⟨x, dx, v, d, rfl, hx, hd, hl, q1, q2⟩ := h
    refine ⟨_, pss_cons (ps_expr (pe_callS (okNeed N) hr rfl N.need.m N.need.F.kp N.need.b (fun σ => L2N.passAt (L2N.takes_of rfl rfl rfl rfl) σ) (pa_cons (pv 1) (pa_cons pe_str pa_nil))))
      (pss_cons (ps_fld (pv 0) pe_str rfl) (pss_one (ps_fld (pv 0) (pv 1) rfl))), ?_⟩
    refine ⟨_, rfl, v, _, d, rfl, hd, hl, fun hn H1 hs hm => ?_, fun hn => q2 hn⟩
    refine ⟨_, rfl, x, T.C, dx, [], rfl, hs x _ hx, T.cl, T.noW, (by show 0 < 1000; decide), _, rfl, _, rfl, x, T.C, dx, _, rfl, upd_same, T.cl, T.noF, (by show 1 < 1000; decide), ?_⟩
    refine q1 hn _ (fun b o e n => ?_) (hm.trans (Mo.upd.trans Mo.upd)) upd_same
    rw [upd_ne n, upd_ne n]
    exact hs b o e
/-! ### Back -/
abbrev sBackInit : Stmt := inClass (top 20) 0
theorem scBackInit : FnScope ["self", "counter"] ["self", "counter"] (defScope sBackInit) := ⟨rfl, rfl, rfl, by decide +kernel, rfl, by decide +kernel, by decide +kernel⟩
structure TBack (K : PySem.W.Frag) (mg : Str → Option Value) : Type extends TCls K mg "Keep" "Keep.__init__" sBackInit ["self", "counter"] where
  noF : NoAttr K C "counter"
def insBack (C dx : Addr) (v : V) : HO := .ins C dx (putF "counter" v (putF "word" (.str "back") []))
def spBackInit (K : PySem.W.Frag) (C CR : Addr) : Sp := fun vs H Q E => ∃ (x dx : Addr) (v : V) (d : PyData), vs = [.ref x, v] ∧ H x = some (.ins C dx []) ∧ Dp K H v d ∧ dlen d ∧
  (nameD d = true → ∀ H', KpI x H H' → Mo H H' → H' x = some (insBack C dx v) → Q .non H') ∧ (nameD d = false → RaiseW CR H E (.str "counter"))
/-! ### Ref -/
abbrev sRefInit : Stmt := inClass (top 21) 0
theorem scRefInit : FnScope ["self", "label"] ["self", "label"] (defScope sRefInit) := ⟨rfl, rfl, rfl, by decide +kernel, rfl, by decide +kernel, by decide +kernel⟩
structure TRef (K : PySem.W.Frag) (mg : Str → Option Value) : Type extends TCls K mg "Ref" "Ref.__init__" sRefInit ["self", "label"] where
  noF : NoAttr K C "label"
def insRef (C dx : Addr) (v : V) : HO := .ins C dx (putF "label" v (putF "word" (.str "ref") []))
def spRefInit (K : PySem.W.Frag) (C CR : Addr) : Sp := fun vs H Q E => ∃ (x dx : Addr) (v : V) (d : PyData), vs = [.ref x, v] ∧ H x = some (.ins C dx []) ∧ Dp K H v d ∧ dlen d ∧
  (nameD d = true → ∀ H', KpI x H H' → Mo H H' → H' x = some (insRef C dx v) → Q .non H') ∧ (nameD d = false → RaiseW CR H E (.str "label"))
theorem okRefInit (T : TRef K mg) (N : TNeed K mg) : FnOk P w K mg base (L2N.CX P w) 4 T.fI T.fd ["self", "label"] (spRefInit K T.C N.IR.C) := by
  refine (funD T.F).ok scRefInit (fun vs H Q E h => ?_) (fun cdv A outer s H vs Q E hr h => ?_)
  · obtain ⟨x, dx, v, d, rfl, _⟩ := h
    rfl
  · obtain ⟨x, dx, v, d, rfl, hx, hd, hl, q1, q2⟩ := h
    refine ⟨_, pss_cons (ps_expr (pe_callS (okNeed N) hr rfl N.need.m N.need.F.kp N.need.b (fun σ => L2N.passAt (L2N.takes_of rfl rfl rfl rfl) σ) (pa_cons (pv 1) (pa_cons pe_str pa_nil))))
      (pss_cons (ps_fld (pv 0) pe_str rfl) (pss_one (ps_fld (pv 0) (pv 1) rfl))), ?_⟩
    refine ⟨_, rfl, v, _, d, rfl, hd, hl, fun hn H1 hs hm => ?_, fun hn => q2 hn⟩
    refine ⟨_, rfl, x, T.C, dx, [], rfl, hs x _ hx, T.cl, T.noW, (by show 0 < 1000; decide), _, rfl, _, rfl, x, T.C, dx, _, rfl, upd_same, T.cl, T.noF, (by show 1 < 1000; decide), ?_⟩
    refine q1 hn _ (fun b o e n => ?_) (hm.trans (Mo.upd.trans Mo.upd)) upd_same
    rw [upd_ne n, upd_ne n]
    exact hs b o e
/-! ### Put -/
abbrev sPutInit : Stmt := inClass (top 22) 0
theorem scPutInit : FnScope ["self", "part"] ["self", "part"] (defScope sPutInit) := ⟨rfl, rfl, rfl, by decide +kernel, rfl, by decide +kernel, by decide +kernel⟩
structure TPut (K : PySem.W.Frag) (mg : Str → Option Value) : Type extends TCls K mg "Put" "Put.__init__" sPutInit ["self", "part"] where
  noF : NoAttr K C "part"
def insPut (C dx : Addr) (v : V) : HO := .ins C dx (putF "part" v (putF "word" (.str "put") []))
def spPutInit (K : PySem.W.Frag) (C CR : Addr) : Sp := fun vs H Q E => ∃ (x dx : Addr) (v : V) (d : PyData), vs = [.ref x, v] ∧ H x = some (.ins C dx []) ∧ Dp K H v d ∧ dlen d ∧
  (nameD d = true → ∀ H', KpI x H H' → Mo H H' → H' x = some (insPut C dx v) → Q .non H') ∧ (nameD d = false → RaiseW CR H E (.str "part"))
theorem okPutInit (T : TPut K mg) (N : TNeed K mg) : FnOk P w K mg base (L2N.CX P w) 4 T.fI T.fd ["self", "part"] (spPutInit K T.C N.IR.C) := by
  refine (funD T.F).ok scPutInit (fun vs H Q E h => ?_) (fun cdv A outer s H vs Q E hr h => ?_)
  · obtain ⟨x, dx, v, d, rfl, _⟩ := h
    rfl
  · obtain ⟨x, dx, v, d, rfl, hx, hd, hl, q1, q2⟩ := h
    refine ⟨_, pss_cons (ps_expr (pe_callS (okNeed N) hr rfl N.need.m N.need.F.kp N.need.b (fun σ => L2N.passAt (L2N.takes_of rfl rfl rfl rfl) σ) (pa_cons (pv 1) (pa_cons pe_str pa_nil))))
      (pss_cons (ps_fld (pv 0) pe_str rfl) (pss_one (ps_fld (pv 0) (pv 1) rfl))), ?_⟩
    refine ⟨_, rfl, v, _, d, rfl, hd, hl, fun hn H1 hs hm => ?_, fun hn => q2 hn⟩
    refine ⟨_, rfl, x, T.C, dx, [], rfl, hs x _ hx, T.cl, T.noW, (by show 0 < 1000; decide), _, rfl, _, rfl, x, T.C, dx, _, rfl, upd_same, T.cl, T.noF, (by show 1 < 1000; decide), ?_⟩
    refine q1 hn _ (fun b o e n => ?_) (hm.trans (Mo.upd.trans Mo.upd)) upd_same
    rw [upd_ne n, upd_ne n]
    exact hs b o e
/-! ### Open -/
abbrev sOpenInit : Stmt := inClass (top 23) 0
theorem scOpenInit : FnScope ["self", "name"] ["self", "name"] (defScope sOpenInit) := ⟨rfl, rfl, rfl, by decide +kernel, rfl, by decide +kernel, by decide +kernel⟩
structure TOpen (K : PySem.W.Frag) (mg : Str → Option Value) : Type extends TCls K mg "Open" "Open.__init__" sOpenInit ["self", "name"] where
  noF : NoAttr K C "name"
def insOpen (C dx : Addr) (v : V) : HO := .ins C dx (putF "name" v (putF "word" (.str "open") []))
def spOpenInit (K : PySem.W.Frag) (C CR : Addr) : Sp := fun vs H Q E => ∃ (x dx : Addr) (v : V) (d : PyData), vs = [.ref x, v] ∧ H x = some (.ins C dx []) ∧ Dp K H v d ∧ dlen d ∧
  (nameD d = true → ∀ H', KpI x H H' → Mo H H' → H' x = some (insOpen C dx v) → Q .non H') ∧ (nameD d = false → RaiseW CR H E (.str "name"))
theorem okOpenInit (T : TOpen K mg) (N : TNeed K mg) : FnOk P w K mg base (L2N.CX P w) 4 T.fI T.fd ["self", "name"] (spOpenInit K T.C N.IR.C) := by
  refine (funD T.F).ok scOpenInit (fun vs H Q E h => ?_) (fun cdv A outer s H vs Q E hr h => ?_)
  · obtain ⟨x, dx, v, d, rfl, _⟩ := h
    rfl
  · obtain ⟨x, dx, v, d, rfl, hx, hd, hl, q1, q2⟩ := h
    refine ⟨_, pss_cons (ps_expr (pe_callS (okNeed N) hr rfl N.need.m N.need.F.kp N.need.b (fun σ => L2N.passAt (L2N.takes_of rfl rfl rfl rfl) σ) (pa_cons (pv 1) (pa_cons pe_str pa_nil))))
      (pss_cons (ps_fld (pv 0) pe_str rfl) (pss_one (ps_fld (pv 0) (pv 1) rfl))), ?_⟩
    refine ⟨_, rfl, v, _, d, rfl, hd, hl, fun hn H1 hs hm => ?_, fun hn => q2 hn⟩
    refine ⟨_, rfl, x, T.C, dx, [], rfl, hs x _ hx, T.cl, T.noW, (by show 0 < 1000; decide), _, rfl, _, rfl, x, T.C, dx, _, rfl, upd_same, T.cl, T.noF, (by show 1 < 1000; decide), ?_⟩
    refine q1 hn _ (fun b o e n => ?_) (hm.trans (Mo.upd.trans Mo.upd)) upd_same
    rw [upd_ne n, upd_ne n]
    exact hs b o e
/-! ### Note, Skip, Set -/
abbrev sNoteInit : Stmt := inClass (top 17) 0
theorem scNoteInit : FnScope ["self", "counter", "label"] ["self", "counter", "label"] (defScope sNoteInit) := ⟨rfl, rfl, rfl, by decide +kernel, rfl, by decide +kernel, by decide +kernel⟩
structure TNote (K : PySem.W.Frag) (mg : Str → Option Value) : Type where
  C : Addr
  fI : Addr
  fd : FuncData
  F : FunD K "__init__" "Note.__init__" (defArgs sNoteInit) (defBody sNoteInit) (defScope sNoteInit) [.str ""] [] fI fd
  b : Binds K fd ["self", "counter", "label"] []
  m : mg "Note" = some (.ref C)
  M : Mk K C fI
  cl : Cls K C
  noW : NoAttr K C "word"
  noC : NoAttr K C "counter"
  noL : NoAttr K C "label"
def insNote (C dx : Addr) (v u : V) : HO := .ins C dx (putF "label" u (putF "counter" v (putF "word" (.str "note") [])))
/-- the label of a note -/
def labD (d : PyData) : Bool := PyData.eqv d (.str "") || nameD d
def spNoteInit (K : PySem.W.Frag) (C CR : Addr) : Sp := fun vs H Q E => ∃ (x dx : Addr) (v u : V) (d e : PyData), vs = [.ref x, v, u] ∧ H x = some (.ins C dx []) ∧ Dp K H v d ∧ dlen d ∧ Dp K H u e ∧ dlen e ∧ SeqAt.shaped e = true ∧
  (nameD d = true → labD e = true → ∀ H', KpI x H H' → Mo H H' → H' x = some (insNote C dx v u) → Q .non H') ∧ (nameD d = false → RaiseW CR H E (.str "counter")) ∧ (nameD d = true → labD e = false → RaiseW CR H E (.str "label"))
theorem okNoteInit (T : TNote K mg) (N : TNeed K mg) : FnOk P w K mg base (L2N.CX P w) 4 T.fI T.fd ["self", "counter", "label"] (spNoteInit K T.C N.IR.C) := by
  refine T.F.ok scNoteInit (fun vs H Q E h => ?_) (fun cdv A outer s H vs Q E hr h => ?_)
  · obtain ⟨x, dx, v, u, d, e, rfl, _⟩ := h
    rfl
  · obtain ⟨x, dx, v, u, d, e, rfl, hx, hd, hl, he, hl2, hsh, q1, q2, q3⟩ := h
    refine ⟨_, pss_cons (ps_expr (pe_callS (okNeed N) hr rfl N.need.m N.need.F.kp N.need.b (fun σ => L2N.passAt (L2N.takes_of rfl rfl rfl rfl) σ) (pa_cons (pv 1) (pa_cons pe_str pa_nil))))
      (pss_cons (ps_if (pt_cmpR (op_neD hr.units) (pv 2) pe_str (nomark _)) (pss_one (ps_expr (pe_callS (okNeed N) hr rfl N.need.m N.need.F.kp N.need.b (fun σ => L2N.passAt (L2N.takes_of rfl rfl rfl rfl) σ) (pa_cons (pv 2) (pa_cons pe_str pa_nil))))) pss_nil)
      (pss_cons (ps_fld (pv 0) pe_str rfl) (pss_cons (ps_fld (pv 0) (pv 1) rfl) (pss_one (ps_fld (pv 0) (pv 2) rfl))))), ?_⟩
    refine ⟨_, rfl, v, _, d, rfl, hd, hl, fun hn H1 hs hm => ?_, fun hn => q2 hn⟩
    refine ⟨_, rfl, e, .str "", dp_same hs e u he, .str "", hsh, (by decide +kernel), _, rfl, ?_⟩
    have fin : ∀ (H2 : Hp) (o1 o2 : HO), labD e = true → Same H H2 → Mo H H2 → Q .non (upd (upd (upd H2 x o1) x o2) x (insNote T.C dx v u)) := fun H2 o1 o2 hlab hs2 hm2 => q1 hn hlab _ (fun b o eb n => by
      rw [upd_ne n, upd_ne n, upd_ne n]
      exact hs2 b o eb) (hm2.trans (Mo.upd.trans (Mo.upd.trans Mo.upd))) upd_same
    cases h1 : PyData.eqv e (.str "") with
    | true =>
      refine iteF ?_
      have hlab : labD e = true := by unfold labD; rw [h1]; rfl
      refine ⟨_, rfl, x, T.C, dx, [], rfl, hs x _ hx, T.cl, T.noW, (by show 0 < 1000; decide), _, rfl, _, rfl, x, T.C, dx, _, rfl, upd_same, T.cl, T.noC, (by show 1 < 1000; decide), _, rfl, _, rfl, x, T.C, dx, _, rfl, upd_same, T.cl, T.noL, ?_, ?_⟩
      · exact small2
      · exact fin H1 _ _ hlab hs hm
    | false =>
      refine iteT ?_
      refine ⟨_, rfl, u, _, e, rfl, dp_same hs e u he, hl2, fun hn2 H2 hs2 hm2 => ?_, fun hn2 => ?_⟩
      · have hlab : labD e = true := by unfold labD; rw [hn2, Bool.or_true]
        refine ⟨_, rfl, x, T.C, dx, [], rfl, hs2 x _ (hs x _ hx), T.cl, T.noW, (by show 0 < 1000; decide), _, rfl, _, rfl, x, T.C, dx, _, rfl, upd_same, T.cl, T.noC, (by show 1 < 1000; decide), _, rfl, _, rfl, x, T.C, dx, _, rfl, upd_same, T.cl, T.noL, ?_, ?_⟩
        · exact small2
        · exact fin H2 _ _ hlab (hs.trans hs2) (hm.trans hm2)
      · have hlab : labD e = false := by unfold labD; rw [h1, hn2]; rfl
        exact (q3 hn hlab).back hs hm
abbrev sSkipInit : Stmt := inClass (top 18) 0
theorem scSkipInit : FnScope ["self", "counter", "by"] ["self", "counter", "by"] (defScope sSkipInit) := ⟨rfl, rfl, rfl, by decide +kernel, rfl, by decide +kernel, by decide +kernel⟩
structure TSkip (K : PySem.W.Frag) (mg : Str → Option Value) : Type extends TCls K mg "Skip" "Skip.__init__" sSkipInit ["self", "counter", "by"] where
  noC : NoAttr K C "counter"
  noF : NoAttr K C "by"
def insSkip (C dx : Addr) (v u : V) : HO := .ins C dx (putF "by" u (putF "counter" v (putF "word" (.str "skip") [])))
def skipD (d : PyData) : Bool := numD d && (match d with | .int i => decide (i ≠ 0) | _ => false)
def spSkipInit (K : PySem.W.Frag) (C CR : Addr) : Sp := fun vs H Q E => ∃ (x dx : Addr) (v u : V) (d e : PyData), vs = [.ref x, v, u] ∧ H x = some (.ins C dx []) ∧ Dp K H v d ∧ dlen d ∧ Dp K H u e ∧
  (nameD d = true → skipD e = true → ∀ H', KpI x H H' → Mo H H' → H' x = some (insSkip C dx v u) → Q .non H') ∧ (nameD d = false → RaiseW CR H E (.str "counter")) ∧ (nameD d = true → skipD e = false → RaiseW CR H E (.str "by"))
theorem okSkipInit (T : TSkip K mg) (N : TNeed K mg) : FnOk P w K mg base (L2N.CX P w) 4 T.fI T.fd ["self", "counter", "by"] (spSkipInit K T.C N.IR.C) := by
  refine (funD T.F).ok scSkipInit (fun vs H Q E h => ?_) (fun cdv A outer s H vs Q E hr h => ?_)
  · obtain ⟨x, dx, v, u, d, e, rfl, _⟩ := h
    rfl
  · obtain ⟨x, dx, v, u, d, e, rfl, hx, hd, hl, he, q1, q2, q3⟩ := h
    refine ⟨_, pss_cons (ps_expr (pe_callS (okNeed N) hr rfl N.need.m N.need.F.kp N.need.b (fun σ => L2N.passAt (L2N.takes_of rfl rfl rfl rfl) σ) (pa_cons (pv 1) (pa_cons pe_str pa_nil))))
      (pss_cons (ps_if (PW.pt (pw_or (pt_not (pt_val (pe_call N.okNumber (hr.mono (by decide)) rfl N.isNumber.m N.isNumber.F.kp N.isNumber.b .nil pass0 (pa_cons (pv 2) pa_nil)))) (pw_or1 (pt_cmpR op_eq (pv 2) pe_int (nomark _)))))
        (pss_one (L2N.ps_raise rfl (L2N.takes_of rfl rfl rfl rfl) (pmk_oexN N.IR.O N.IR.iC N.IR.tI (okIRInit N.IR) (hr.mono (by decide)) N.IR.b pass0 rfl N.IR.m (pa_cons pe_str pa_nil)))) pss_nil)
      (pss_cons (ps_fld (pv 0) pe_str rfl) (pss_cons (ps_fld (pv 0) (pv 1) rfl) (pss_one (ps_fld (pv 0) (pv 2) rfl))))), ?_⟩
    refine ⟨_, rfl, v, _, d, rfl, hd, hl, fun hn H1 hs hm => ?_, fun hn => q2 hn⟩
    have he1 := dp_same hs e u he
    have raises : skipD e = false → ∀ a, H1 a = none → ∀ dx2, (upd H1 a (exo a N.IR.C none)) dx2 = none → dx2 ≠ a → _ := fun hf a ha dx2 h1 h2 => ir_made hs hm (q3 hn hf) ha dx2 h1 h2
    refine ⟨_, rfl, u, e, rfl, he1, ?_⟩
    cases h1 : numD e with
    | false =>
      have hg : skipD e = false := by unfold skipD; rw [h1]; rfl
      refine ⟨_, rfl, ?_⟩
      refine iteT ?_
      refine iteT ?_
      refine ⟨(by show 1 ≤ 1000; decide), fun a ha => ⟨a, N.IR.C, _, rfl, upd_same, N.IR.O, N.IR.noF, fun dx2 h1 h2 => ?_⟩⟩
      have hd1 : H1 dx2 = none := by rw [upd_ne h2] at h1; exact h1
      exact ⟨rfl, dx2, _, upd_same, by rw [upd_ne h2, upd_same], hd1, raises hg a ha dx2 h1 h2⟩
    | true =>
      refine ⟨_, rfl, ?_⟩
      refine iteF ?_
      obtain ⟨i, rfl⟩ : ∃ i : Int, e = .int i := by
        cases e <;> first | exact ⟨_, rfl⟩ | (exact absurd h1 (by decide)) | cases h1
      cases he1
      refine ⟨_, rfl, rfl, _, rfl, ?_⟩
      refine ite2 (fun hz => ?_) (fun hz => ?_)
      · have hz2 : V.int i = V.int 0 := of_decide_eq_true hz
        have hg : skipD (.int i) = false := by
          cases hz2
          rfl
        refine ⟨(by show 1 ≤ 1000; decide), fun a ha => ⟨a, N.IR.C, _, rfl, upd_same, N.IR.O, N.IR.noF, fun dx2 h1 h2 => ?_⟩⟩
        have hd1 : H1 dx2 = none := by rw [upd_ne h2] at h1; exact h1
        exact ⟨rfl, dx2, _, upd_same, by rw [upd_ne h2, upd_same], hd1, raises hg a ha dx2 h1 h2⟩
      · have hz2 : ¬ V.int i = V.int 0 := fun z => hz (decide_eq_true z)
        have hg : skipD (.int i) = true := by
          unfold skipD
          rw [h1]
          exact decide_eq_true (fun z => hz2 (by cases z; rfl))
        refine ⟨_, rfl, x, T.C, dx, [], rfl, hs x _ hx, T.cl, T.noW, (by show 0 < 1000; decide), _, rfl, _, rfl, x, T.C, dx, _, rfl, upd_same, T.cl, T.noC, (by show 1 < 1000; decide), _, rfl, _, rfl, x, T.C, dx, _, rfl, upd_same, T.cl, T.noF, small2, ?_⟩
        refine q1 hn hg _ (fun b o eb n => ?_) (hm.trans (Mo.upd.trans (Mo.upd.trans Mo.upd))) upd_same
        rw [upd_ne n, upd_ne n, upd_ne n]
        exact hs b o eb
abbrev sSetInit : Stmt := inClass (top 19) 0
theorem scSetInit : FnScope ["self", "counter", "to"] ["self", "counter", "to"] (defScope sSetInit) := ⟨rfl, rfl, rfl, by decide +kernel, rfl, by decide +kernel, by decide +kernel⟩
structure TSet (K : PySem.W.Frag) (mg : Str → Option Value) : Type extends TCls K mg "Set" "Set.__init__" sSetInit ["self", "counter", "to"] where
  noC : NoAttr K C "counter"
  noF : NoAttr K C "to"
def insSet (C dx : Addr) (v u : V) : HO := .ins C dx (putF "to" u (putF "counter" v (putF "word" (.str "set") [])))
def setD (d : PyData) : Bool := numD d
def spSetInit (K : PySem.W.Frag) (C CR : Addr) : Sp := fun vs H Q E => ∃ (x dx : Addr) (v u : V) (d e : PyData), vs = [.ref x, v, u] ∧ H x = some (.ins C dx []) ∧ Dp K H v d ∧ dlen d ∧ Dp K H u e ∧
  (nameD d = true → setD e = true → ∀ H', KpI x H H' → Mo H H' → H' x = some (insSet C dx v u) → Q .non H') ∧ (nameD d = false → RaiseW CR H E (.str "counter")) ∧ (nameD d = true → setD e = false → RaiseW CR H E (.str "to"))
theorem okSetInit (T : TSet K mg) (N : TNeed K mg) : FnOk P w K mg base (L2N.CX P w) 4 T.fI T.fd ["self", "counter", "to"] (spSetInit K T.C N.IR.C) := by
  refine (funD T.F).ok scSetInit (fun vs H Q E h => ?_) (fun cdv A outer s H vs Q E hr h => ?_)
  · obtain ⟨x, dx, v, u, d, e, rfl, _⟩ := h
    rfl
  · obtain ⟨x, dx, v, u, d, e, rfl, hx, hd, hl, he, q1, q2, q3⟩ := h
    refine ⟨_, pss_cons (ps_expr (pe_callS (okNeed N) hr rfl N.need.m N.need.F.kp N.need.b (fun σ => L2N.passAt (L2N.takes_of rfl rfl rfl rfl) σ) (pa_cons (pv 1) (pa_cons pe_str pa_nil))))
      (pss_cons (ps_if ((pt_not (pt_val (pe_call N.okNumber (hr.mono (by decide)) rfl N.isNumber.m N.isNumber.F.kp N.isNumber.b .nil pass0 (pa_cons (pv 2) pa_nil)))))
        (pss_one (L2N.ps_raise rfl (L2N.takes_of rfl rfl rfl rfl) (pmk_oexN N.IR.O N.IR.iC N.IR.tI (okIRInit N.IR) (hr.mono (by decide)) N.IR.b pass0 rfl N.IR.m (pa_cons pe_str pa_nil)))) pss_nil)
      (pss_cons (ps_fld (pv 0) pe_str rfl) (pss_cons (ps_fld (pv 0) (pv 1) rfl) (pss_one (ps_fld (pv 0) (pv 2) rfl))))), ?_⟩
    refine ⟨_, rfl, v, _, d, rfl, hd, hl, fun hn H1 hs hm => ?_, fun hn => q2 hn⟩
    have he1 := dp_same hs e u he
    have raises : setD e = false → ∀ a, H1 a = none → ∀ dx2, (upd H1 a (exo a N.IR.C none)) dx2 = none → dx2 ≠ a → _ := fun hf a ha dx2 h1 h2 => ir_made hs hm (q3 hn hf) ha dx2 h1 h2
    refine ⟨_, rfl, u, e, rfl, he1, ?_⟩
    cases hg : setD e with
    | true =>
      have hg2 : numD e = true := hg
      refine ⟨_, by rw [hg2], ?_⟩
      refine iteF ?_
      refine ⟨_, rfl, x, T.C, dx, [], rfl, hs x _ hx, T.cl, T.noW, (by show 0 < 1000; decide), _, rfl, _, rfl, x, T.C, dx, _, rfl, upd_same, T.cl, T.noC, (by show 1 < 1000; decide), _, rfl, _, rfl, x, T.C, dx, _, rfl, upd_same, T.cl, T.noF, small2, ?_⟩
      refine q1 hn hg _ (fun b o eb n => ?_) (hm.trans (Mo.upd.trans (Mo.upd.trans Mo.upd))) upd_same
      rw [upd_ne n, upd_ne n, upd_ne n]
      exact hs b o eb
    | false =>
      have hg2 : numD e = false := hg
      refine ⟨_, by rw [hg2], ?_⟩
      refine iteT ?_
      refine ⟨(by show 1 ≤ 1000; decide), fun a ha => ⟨a, N.IR.C, _, rfl, upd_same, N.IR.O, N.IR.noF, fun dx2 h1 h2 => ?_⟩⟩
      have hd1 : H1 dx2 = none := by rw [upd_ne h2] at h1; exact h1
      exact ⟨rfl, dx2, _, upd_same, by rw [upd_ne h2, upd_same], hd1, raises hg a ha dx2 h1 h2⟩
end
end Pn

namespace Pn
open PySem L2
section
variable {X : Cx} {CX : CXT} {k : Nat} {f C : Addr} {fd : FuncData} {ps : List Str} {sp : Sp} {E : XK}
/-- the run of a def within a deeper around -/
theorem run_fnA {A' : Around} {pins : List (Addr × Obj)} {σ : L2.St} {H : Hp} {s : Shared} {Q : VK} {us : List Value} {vs : List V} (F : FnOk X.prog X.w X.K X.mg X.base CX k f fd ps sp) (hr : Room k A') (e0 : Env0 X.prog X.w X.K X.mg X.base A' X.stack s H) (hb : Binds X.K fd ps []) (hx : Passes CX X E)
    (I : Inv X pins σ H s) (r : Vals vs us) (h : sp vs H Q E) : wpAny (model X.prog X.w) A' (call (.ref f) us) (EP X pins σ Q) X.xe s := by
  have hl : (us ++ []).length = ps.length := by rw [List.append_nil, ← r.length]; exact F.len _ _ _ _ h
  have hbb := hb s us I.kIn hl
  rw [List.append_nil] at hbb
  refine wpAny_call (codeAny_mono (F.run A' X.stack s H ⟨us, []⟩ us vs Q E hr e0 hbb r h) fun x s' hq => ?_)
  cases x with
  | error e => exact hx pins σ H s e s' I hq
  | ok fl =>
    cases fl with
    | ret u => exact I.after hq
    | next => exact hq.elim
    | brk => exact hq.elim
    | cont => exact hq.elim
/-- str(x), x an instance whose class has a __str__ of its own -/
def rStrIns (K : PySem.W.Frag) (f : Addr) (sp : Sp) (E : XK) : List V → Hp → VK → Prop := fun xs H Q => ∃ (a C dx : Addr) (fs : List (Str × V)), xs = [.ref a] ∧ H a = some (.ins C dx fs) ∧ PySem.W.findIn K (.ref C) "__str__" = some (some (.ref f)) ∧ sp [.ref a] H (fun v H' => ∃ z, v = .str z ∧ Q (.str z) H') E
theorem call_strIns (F : FnOk X.prog X.w X.K X.mg X.base CX k f fd ps sp) (hf : PySem.W.isFn X.K (.ref f) = true) (hr : Room (k + 2) X.A) (hb : Binds X.K fd ps []) (hx : Passes CX X E) : CallR X (.type "str") (rStrIns X.K f sp E) := by
  intro pins s σ H xs us Q I r h
  obtain ⟨a, C, dx, fs, rfl, ha, hs, q⟩ := h
  obtain ⟨u, rfl, ru⟩ := r.one
  obtain rfl : u = Value.ref a := ru
  obtain ⟨mA, O, _⟩ := ins_get I.hok ha
  obtain ⟨od, J, _⟩ := O.look
  have hr2 : Room k X.A.in1.in1 := (show Room (k + 1) X.A.in1 from Room.in1 hr).in1
  refine PySem.W.kso_call (by have := hr2.un; omega) I.kIn J hs hf (wpAny_mono (run_fnA F hr2 I.env0.in1.in1 hb hx I (.cons (show RelV (.ref a) (Value.ref a) from rfl) .nil) q) (fun v s' z => ?_) fun _ _ x => x)
  obtain ⟨z', H', I', rz, t, ez, qz⟩ := z
  subst ez
  obtain ⟨tk, e⟩ := (show ∃ tk, v = Value.str t tk from rz)
  cases e
  exact ⟨.str t, H', I', ⟨tk, rfl⟩, qz⟩
end
end Pn

namespace Pn
open PySem L2 TL
/-! ### rows as data -/
inductive RowD where
  | note (c l : Str) | skip (c : Str) (n : Nat) | set (c : Str) (n : Nat) | keep (c : Str) | back (c : Str) | ref (l : Str) | put (p : Str) | opn (x : Str)
structure TRows (K : PySem.W.Frag) (mg : Str → Option Value) : Type where
  N : TNeed K mg
  note : TNote K mg
  skip : TSkip K mg
  set : TSet K mg
  keep : TKeep K mg
  back : TBack K mg
  ref : TRef K mg
  put : TPut K mg
  open_ : TOpen K mg
def numStr (n : Nat) : Str := Str.ofString (toString ((n : Nat) : Int))
/-- the words of a row's text -/
def rowWords : RowD → List Str
  | .note c l => if l = "" then ["note", c] else ["note", c, l]
  | .skip c n => ["skip", c, numStr n]
  | .set c n => ["set", c, numStr n]
  | .keep c => ["keep", c]
  | .back c => ["back", c]
  | .ref l => ["ref", l]
  | .put p => ["put", p]
  | .opn x => ["open", x]
def rowText (r : RowD) : Str := Txt.join " " (rowWords r)
/-- how large the texts and numbers of a row are -/
def rowSmall : RowD → Prop
  | .note c l => c.length ≤ 100 ∧ l.length ≤ 100
  | .skip c n => c.length ≤ 100 ∧ n < 10 ^ 20
  | .set c n => c.length ≤ 100 ∧ n < 10 ^ 20
  | .keep c => c.length ≤ 100
  | .back c => c.length ≤ 100
  | .ref c => c.length ≤ 100
  | .put c => c.length ≤ 100
  | .opn c => c.length ≤ 100
theorem join2 (a b : Str) {ab : Str} (h : tl ab = tl a ++ [32]) : Str.empty ++ ab ++ b = Txt.join " " [a, b] := by
  rw [join_eq]
  apply ext_tl
  rw [tl_join]
  show tl (Str.empty ++ ab ++ b) = tl a ++ (tl (" " : Str) ++ tl b)
  rw [tl_append, tl_append, h]
  show [] ++ (tl a ++ [32]) ++ tl b = tl a ++ ([32] ++ tl b)
  simp
theorem join3 (a b c : Str) {ab s : Str} (h : tl ab = tl a ++ [32]) (hs : s = " ") : Str.empty ++ ab ++ b ++ s ++ c = Txt.join " " [a, b, c] := by
  subst hs
  rw [join_eq]
  apply ext_tl
  rw [tl_join]
  show tl (Str.empty ++ ab ++ b ++ (" " : Str) ++ c) = tl a ++ (tl (" " : Str) ++ (tl b ++ (tl (" " : Str) ++ tl c)))
  rw [tl_append, tl_append, tl_append, tl_append, h]
  show [] ++ (tl a ++ [32]) ++ tl b ++ [32] ++ tl c = tl a ++ ([32] ++ (tl b ++ ([32] ++ tl c)))
  simp
section
variable {P : Program} {w : World} {K : PySem.W.Frag} {mg : Str → Option Value} {base : Heap}
/-- a row's instance -/
def insRow (T : TRows K mg) (dx : Addr) : RowD → HO
  | .note c l => insNote T.note.C dx (.str c) (.str l)
  | .skip c n => insSkip T.skip.C dx (.str c) (.int (n : Int))
  | .set c n => insSet T.set.C dx (.str c) (.int (n : Int))
  | .keep c => insKeep T.keep.C dx (.str c)
  | .back c => insBack T.back.C dx (.str c)
  | .ref c => insRef T.ref.C dx (.str c)
  | .put c => insPut T.put.C dx (.str c)
  | .opn c => insOpen T.open_.C dx (.str c)
def RowAt (T : TRows K mg) (H : Hp) (a : Addr) (r : RowD) : Prop := ∃ dx, H a = some (insRow T dx r)
/-- a method of one argument of an own class -/
structure TStr (K : PySem.W.Frag) (C : Addr) (qual : Str) (st : Stmt) : Type where
  f : Addr
  fd : FuncData
  F : Fun K "__str__" qual st f fd
  b : Binds K fd ["self"] []
  hs : PySem.W.findIn K (.ref C) "__str__" = some (some (.ref f))
  hf : PySem.W.isFn K (.ref f) = true
abbrev sNoteStr : Stmt := inClass (top 17) 1
theorem scNoteStr : FnScope ["self"] ["self"] (defScope sNoteStr) := ⟨rfl, rfl, rfl, by decide +kernel, rfl, by decide +kernel, by decide +kernel⟩
abbrev sSkipStr : Stmt := inClass (top 18) 1
theorem scSkipStr : FnScope ["self"] ["self"] (defScope sSkipStr) := ⟨rfl, rfl, rfl, by decide +kernel, rfl, by decide +kernel, by decide +kernel⟩
abbrev sSetStr : Stmt := inClass (top 19) 1
theorem scSetStr : FnScope ["self"] ["self"] (defScope sSetStr) := ⟨rfl, rfl, rfl, by decide +kernel, rfl, by decide +kernel, by decide +kernel⟩
abbrev sKeepStr : Stmt := inClass (top 20) 1
theorem scKeepStr : FnScope ["self"] ["self"] (defScope sKeepStr) := ⟨rfl, rfl, rfl, by decide +kernel, rfl, by decide +kernel, by decide +kernel⟩
theorem fld_keep {v : V} : (putF "counter" v (putF "word" (.str "keep") [])).lookup ("counter" : Str) = some v := by
  rw [lookup_putF, if_pos rfl]
def spKeepStr (T : TRows K mg) : Sp := fun vs H Q _ => ∃ (a : Addr) (c : Str), vs = [.ref a] ∧ RowAt T H a (.keep c) ∧ c.length ≤ 100 ∧ Q (.str (rowText (.keep c))) H
theorem okKeepStr (T : TRows K mg) (S : TStr K T.keep.C "Keep.__str__" sKeepStr) : FnOk P w K mg base CX0 1 S.f S.fd ["self"] (spKeepStr T) := by
  refine S.F.ok scKeepStr (fun vs H Q E h => ?_) (fun cdv A outer s H vs Q E hr h => ?_)
  · obtain ⟨a, c, rfl, _⟩ := h
    rfl
  · obtain ⟨a, c, rfl, ⟨dx, ha⟩, hl, q⟩ := h
    refine ⟨_, pss_one (ps_ret (pe_joined (.cons pe_str (.cons (pe_fmt (pe_fld (pv 0) rfl)) .nil)))), ?_⟩
    refine ⟨_, rfl, (by decide +kernel), _, rfl, a, T.keep.C, dx, _, .str c, rfl, ha, T.keep.cl, T.keep.noF, fld_keep, .inl ⟨c, rfl, Nat.le_trans hl (by decide), c, rfl, ?_, ?_⟩⟩
    · rw [strLen_append]
      exact Nat.le_trans (Nat.add_le_add_left hl _) (by decide +kernel)
    · rw [join2 "keep" c (by decide +kernel)]
      exact q
theorem fld_back {v : V} : (putF "counter" v (putF "word" (.str "back") [])).lookup ("counter" : Str) = some v := by
  rw [lookup_putF, if_pos rfl]
def spBackStr (T : TRows K mg) : Sp := fun vs H Q _ => ∃ (a : Addr) (c : Str), vs = [.ref a] ∧ RowAt T H a (.back c) ∧ c.length ≤ 100 ∧ Q (.str (rowText (.back c))) H
abbrev sRefStr : Stmt := inClass (top 21) 1
theorem scRefStr : FnScope ["self"] ["self"] (defScope sRefStr) := ⟨rfl, rfl, rfl, by decide +kernel, rfl, by decide +kernel, by decide +kernel⟩
theorem fld_ref {v : V} : (putF "label" v (putF "word" (.str "ref") [])).lookup ("label" : Str) = some v := by
  rw [lookup_putF, if_pos rfl]
def spRefStr (T : TRows K mg) : Sp := fun vs H Q _ => ∃ (a : Addr) (c : Str), vs = [.ref a] ∧ RowAt T H a (.ref c) ∧ c.length ≤ 100 ∧ Q (.str (rowText (.ref c))) H
theorem okRefStr (T : TRows K mg) (S : TStr K T.ref.C "Ref.__str__" sRefStr) : FnOk P w K mg base CX0 1 S.f S.fd ["self"] (spRefStr T) := by
  refine S.F.ok scRefStr (fun vs H Q E h => ?_) (fun cdv A outer s H vs Q E hr h => ?_)
  · obtain ⟨a, c, rfl, _⟩ := h
    rfl
  · obtain ⟨a, c, rfl, ⟨dx, ha⟩, hl, q⟩ := h
    refine ⟨_, pss_one (ps_ret (pe_joined (.cons pe_str (.cons (pe_fmt (pe_fld (pv 0) rfl)) .nil)))), ?_⟩
    refine ⟨_, rfl, (by decide +kernel), _, rfl, a, T.ref.C, dx, _, .str c, rfl, ha, T.ref.cl, T.ref.noF, fld_ref, .inl ⟨c, rfl, Nat.le_trans hl (by decide), c, rfl, ?_, ?_⟩⟩
    · rw [strLen_append]
      exact Nat.le_trans (Nat.add_le_add_left hl _) (by decide +kernel)
    · rw [join2 "ref" c (by decide +kernel)]
      exact q
abbrev sPutStr : Stmt := inClass (top 22) 1
theorem scPutStr : FnScope ["self"] ["self"] (defScope sPutStr) := ⟨rfl, rfl, rfl, by decide +kernel, rfl, by decide +kernel, by decide +kernel⟩
theorem fld_put {v : V} : (putF "part" v (putF "word" (.str "put") [])).lookup ("part" : Str) = some v := by
  rw [lookup_putF, if_pos rfl]
def spPutStr (T : TRows K mg) : Sp := fun vs H Q _ => ∃ (a : Addr) (c : Str), vs = [.ref a] ∧ RowAt T H a (.put c) ∧ c.length ≤ 100 ∧ Q (.str (rowText (.put c))) H
theorem okPutStr (T : TRows K mg) (S : TStr K T.put.C "Put.__str__" sPutStr) : FnOk P w K mg base CX0 1 S.f S.fd ["self"] (spPutStr T) := by
  refine S.F.ok scPutStr (fun vs H Q E h => ?_) (fun cdv A outer s H vs Q E hr h => ?_)
  · obtain ⟨a, c, rfl, _⟩ := h
    rfl
  · obtain ⟨a, c, rfl, ⟨dx, ha⟩, hl, q⟩ := h
    refine ⟨_, pss_one (ps_ret (pe_joined (.cons pe_str (.cons (pe_fmt (pe_fld (pv 0) rfl)) .nil)))), ?_⟩
    refine ⟨_, rfl, (by decide +kernel), _, rfl, a, T.put.C, dx, _, .str c, rfl, ha, T.put.cl, T.put.noF, fld_put, .inl ⟨c, rfl, Nat.le_trans hl (by decide), c, rfl, ?_, ?_⟩⟩
    · rw [strLen_append]
      exact Nat.le_trans (Nat.add_le_add_left hl _) (by decide +kernel)
    · rw [join2 "put" c (by decide +kernel)]
      exact q
abbrev sOpenStr : Stmt := inClass (top 23) 1
theorem scOpenStr : FnScope ["self"] ["self"] (defScope sOpenStr) := ⟨rfl, rfl, rfl, by decide +kernel, rfl, by decide +kernel, by decide +kernel⟩
theorem fld_open {v : V} : (putF "name" v (putF "word" (.str "open") [])).lookup ("name" : Str) = some v := by
  rw [lookup_putF, if_pos rfl]
def spOpenStr (T : TRows K mg) : Sp := fun vs H Q _ => ∃ (a : Addr) (c : Str), vs = [.ref a] ∧ RowAt T H a (.opn c) ∧ c.length ≤ 100 ∧ Q (.str (rowText (.opn c))) H
theorem okOpenStr (T : TRows K mg) (S : TStr K T.open_.C "Open.__str__" sOpenStr) : FnOk P w K mg base CX0 1 S.f S.fd ["self"] (spOpenStr T) := by
  refine S.F.ok scOpenStr (fun vs H Q E h => ?_) (fun cdv A outer s H vs Q E hr h => ?_)
  · obtain ⟨a, c, rfl, _⟩ := h
    rfl
  · obtain ⟨a, c, rfl, ⟨dx, ha⟩, hl, q⟩ := h
    refine ⟨_, pss_one (ps_ret (pe_joined (.cons pe_str (.cons (pe_fmt (pe_fld (pv 0) rfl)) .nil)))), ?_⟩
    refine ⟨_, rfl, (by decide +kernel), _, rfl, a, T.open_.C, dx, _, .str c, rfl, ha, T.open_.cl, T.open_.noF, fld_open, .inl ⟨c, rfl, Nat.le_trans hl (by decide), c, rfl, ?_, ?_⟩⟩
    · rw [strLen_append]
      exact Nat.le_trans (Nat.add_le_add_left hl _) (by decide +kernel)
    · rw [join2 "open" c (by decide +kernel)]
      exact q
theorem numStr_len {n : Nat} (h : n < 10 ^ 20) : (numStr n).length ≤ 20 := by
  rw [len_tl]
  show (tl (Str.ofString (toString ((n : Nat) : Int)))).length ≤ 20
  rw [tl_num]
  exact numL_len (by decide) h
theorem log_small {n : Nat} (h : n < 10 ^ 20) : (n : Int).natAbs.log2 < 1920 := by
  show n.log2 < 1920
  have : n < 2 ^ 1919 := Nat.lt_trans h (by decide +kernel)
  exact Nat.lt_of_lt_of_le (PySem.Flt.log2_lt_of (k := 1919) (by decide) this) (by decide)
def spNoteStr (T : TRows K mg) : Sp := fun vs H Q _ => ∃ (a : Addr) (c l : Str), vs = [.ref a] ∧ RowAt T H a (.note c l) ∧ c.length ≤ 100 ∧ l.length ≤ 100 ∧ Q (.str (rowText (.note c l))) H
theorem note_counter {c l : V} : (putF "label" l (putF "counter" c (putF "word" (.str "note") []))).lookup ("counter" : Str) = some c := by
  rw [lookup_putF, if_neg (by decide +kernel), lookup_putF, if_pos rfl]
theorem note_label {c l : V} : (putF "label" l (putF "counter" c (putF "word" (.str "note") []))).lookup ("label" : Str) = some l := by
  rw [lookup_putF, if_pos rfl]
theorem len3 {a b c : Str} (ha : a.length ≤ 200) (hb : b.length ≤ 200) (hc : c.length ≤ 200) : (((Str.empty ++ a) ++ b) ++ c).length ≤ sizeLine := by
  rw [strLen_append, strLen_append, strLen_append]
  exact Nat.le_trans (show _ ≤ 600 by have : (Str.empty : Str).length = 0 := rfl; omega) (by decide)
theorem len4 {a b c d : Str} (ha : a.length ≤ 200) (hb : b.length ≤ 200) (hc : c.length ≤ 200) (hd : d.length ≤ 200) : ((((Str.empty ++ a) ++ b) ++ c) ++ d).length ≤ sizeLine := by
  rw [strLen_append, strLen_append, strLen_append, strLen_append]
  exact Nat.le_trans (show _ ≤ 800 by have : (Str.empty : Str).length = 0 := rfl; omega) (by decide)
theorem len2 {a b : Str} (ha : a.length ≤ 200) (hb : b.length ≤ 200) : ((Str.empty ++ a) ++ b).length ≤ sizeLine := by
  rw [strLen_append, strLen_append]
  exact Nat.le_trans (show _ ≤ 400 by have : (Str.empty : Str).length = 0 := rfl; omega) (by decide)
theorem okNoteStr (T : TRows K mg) (S : TStr K T.note.C "Note.__str__" sNoteStr) : FnOk P w K mg base CX0 1 S.f S.fd ["self"] (spNoteStr T) := by
  refine S.F.ok scNoteStr (fun vs H Q E h => ?_) (fun cdv A outer s H vs Q E hr h => ?_)
  · obtain ⟨a, c, l, rfl, _⟩ := h
    rfl
  · obtain ⟨a, c, l, rfl, ⟨dx, ha⟩, hc, hl, q⟩ := h
    refine ⟨_, pss_cons (ps_if (pt_cmpR op_eq (pe_fld (pv 0) rfl) pe_str (nomark _)) (pss_one (ps_ret (pe_joined (.cons pe_str (.cons (pe_fmt (pe_fld (pv 0) rfl)) .nil))))) pss_nil)
      (pss_one (ps_ret (pe_joined (.cons pe_str (.cons (pe_fmt (pe_fld (pv 0) rfl)) (.cons pe_str (.cons (pe_fmt (pe_fld (pv 0) rfl)) .nil))))))), ?_⟩
    refine ⟨_, rfl, a, T.note.C, dx, _, .str l, rfl, ha, T.note.cl, T.note.noL, note_label, rfl, _, rfl, ?_⟩
    have s5 : ("note " : Str).length ≤ 200 := by decide +kernel
    have s1 : (" " : Str).length ≤ 200 := by decide +kernel
    refine ite2 (fun hz => ?_) (fun hz => ?_)
    · have hz2 : l = "" := by
        have := of_decide_eq_true hz
        cases this
        rfl
      have hw : rowText (.note c l) = Txt.join " " ["note", c] := by
        show Txt.join " " (if l = "" then ["note", c] else ["note", c, l]) = _
        rw [if_pos hz2]
      rw [hw] at q
      refine ⟨_, rfl, (by decide +kernel), _, rfl, a, T.note.C, dx, _, .str c, rfl, ha, T.note.cl, T.note.noC, note_counter, .inl ⟨c, rfl, Nat.le_trans hc (by decide), c, rfl, len2 s5 (by omega), ?_⟩⟩
      rw [join2 "note" c (by decide +kernel)]
      exact q
    · have hz2 : ¬ l = "" := fun z => hz (decide_eq_true (by rw [z]))
      have hw : rowText (.note c l) = Txt.join " " ["note", c, l] := by
        show Txt.join " " (if l = "" then ["note", c] else ["note", c, l]) = _
        rw [if_neg hz2]
      rw [hw] at q
      refine ⟨_, rfl, (by decide +kernel), _, rfl, a, T.note.C, dx, _, .str c, rfl, ha, T.note.cl, T.note.noC, note_counter, .inl ⟨c, rfl, Nat.le_trans hc (by decide), c, rfl, len2 s5 (by omega), _, rfl, len3 s5 (by omega) s1, _, rfl, a, T.note.C, dx, _, .str l, rfl, ha, T.note.cl, T.note.noL, note_label, .inl ⟨l, rfl, Nat.le_trans hl (by decide), l, rfl, len4 s5 (by omega) s1 (by omega), ?_⟩⟩⟩
      rw [join3 "note" c l (by decide +kernel) rfl]
      exact q
theorem skip_counter {c l : V} : (putF "by" l (putF "counter" c (putF "word" (.str "skip") []))).lookup ("counter" : Str) = some c := by
  rw [lookup_putF, if_neg (by decide +kernel), lookup_putF, if_pos rfl]
theorem skip_num {c l : V} : (putF "by" l (putF "counter" c (putF "word" (.str "skip") []))).lookup ("by" : Str) = some l := by
  rw [lookup_putF, if_pos rfl]
def spSkipStr (T : TRows K mg) : Sp := fun vs H Q _ => ∃ (a : Addr) (c : Str) (n : Nat), vs = [.ref a] ∧ RowAt T H a (.skip c n) ∧ c.length ≤ 100 ∧ n < 10 ^ 20 ∧ Q (.str (rowText (.skip c n))) H
theorem okSkipStr (T : TRows K mg) (S : TStr K T.skip.C "Skip.__str__" sSkipStr) : FnOk P w K mg base CX0 1 S.f S.fd ["self"] (spSkipStr T) := by
  refine S.F.ok scSkipStr (fun vs H Q E h => ?_) (fun cdv A outer s H vs Q E hr h => ?_)
  · obtain ⟨a, c, n, rfl, _⟩ := h
    rfl
  · obtain ⟨a, c, n, rfl, ⟨dx, ha⟩, hc, hn, q⟩ := h
    refine ⟨_, pss_one (ps_ret (pe_joined (.cons pe_str (.cons (pe_fmt (pe_fld (pv 0) rfl)) (.cons pe_str (.cons (pe_fmt (pe_fld (pv 0) rfl)) .nil)))))), ?_⟩
    have s5 : ("skip " : Str).length ≤ 200 := by decide +kernel
    have s1 : (" " : Str).length ≤ 200 := by decide +kernel
    have sn := numStr_len hn
    refine ⟨_, rfl, (by decide +kernel), _, rfl, a, T.skip.C, dx, _, .str c, rfl, ha, T.skip.cl, T.skip.noC, skip_counter, .inl ⟨c, rfl, Nat.le_trans hc (by decide), c, rfl, len2 s5 (by omega), _, rfl, len3 s5 (by omega) s1, _, rfl, a, T.skip.C, dx, _, .int (n : Int), rfl, ha, T.skip.cl, T.skip.noF, skip_num, .inr ⟨(n : Int), rfl, log_small hn, numStr n, rfl, len4 s5 (by omega) s1 (by omega), ?_⟩⟩⟩
    rw [join3 "skip" c (numStr n) (by decide +kernel) rfl]
    exact q
theorem set_counter {c l : V} : (putF "to" l (putF "counter" c (putF "word" (.str "set") []))).lookup ("counter" : Str) = some c := by
  rw [lookup_putF, if_neg (by decide +kernel), lookup_putF, if_pos rfl]
theorem set_num {c l : V} : (putF "to" l (putF "counter" c (putF "word" (.str "set") []))).lookup ("to" : Str) = some l := by
  rw [lookup_putF, if_pos rfl]
def spSetStr (T : TRows K mg) : Sp := fun vs H Q _ => ∃ (a : Addr) (c : Str) (n : Nat), vs = [.ref a] ∧ RowAt T H a (.set c n) ∧ c.length ≤ 100 ∧ n < 10 ^ 20 ∧ Q (.str (rowText (.set c n))) H
theorem okSetStr (T : TRows K mg) (S : TStr K T.set.C "Set.__str__" sSetStr) : FnOk P w K mg base CX0 1 S.f S.fd ["self"] (spSetStr T) := by
  refine S.F.ok scSetStr (fun vs H Q E h => ?_) (fun cdv A outer s H vs Q E hr h => ?_)
  · obtain ⟨a, c, n, rfl, _⟩ := h
    rfl
  · obtain ⟨a, c, n, rfl, ⟨dx, ha⟩, hc, hn, q⟩ := h
    refine ⟨_, pss_one (ps_ret (pe_joined (.cons pe_str (.cons (pe_fmt (pe_fld (pv 0) rfl)) (.cons pe_str (.cons (pe_fmt (pe_fld (pv 0) rfl)) .nil)))))), ?_⟩
    have s5 : ("set " : Str).length ≤ 200 := by decide +kernel
    have s1 : (" " : Str).length ≤ 200 := by decide +kernel
    have sn := numStr_len hn
    refine ⟨_, rfl, (by decide +kernel), _, rfl, a, T.set.C, dx, _, .str c, rfl, ha, T.set.cl, T.set.noC, set_counter, .inl ⟨c, rfl, Nat.le_trans hc (by decide), c, rfl, len2 s5 (by omega), _, rfl, len3 s5 (by omega) s1, _, rfl, a, T.set.C, dx, _, .int (n : Int), rfl, ha, T.set.cl, T.set.noF, set_num, .inr ⟨(n : Int), rfl, log_small hn, numStr n, rfl, len4 s5 (by omega) s1 (by omega), ?_⟩⟩⟩
    rw [join3 "set" c (numStr n) (by decide +kernel) rfl]
    exact q
end
end Pn

namespace Pn
open PySem L2 TL
/-! ### read_row -/
theorem split_len {z : Str} {ws : List Str} (h : Txt.split z " " = ws) : ∀ x ∈ ws, x.length ≤ z.length ∧ ∀ c ∈ tl x, c ∈ tl z := by
  have e := PySem.StrLaws.join_split z " "
  rw [h] at e
  have key : ∀ (l : List Str) (x : Str), x ∈ l → (tl x).length ≤ (joinL (tl " ") (l.map tl)).length ∧ ∀ c ∈ tl x, c ∈ joinL (tl " ") (l.map tl) := by
    intro l
    induction l with
    | nil => intro x hx; cases hx
    | cons a r ih =>
      intro x hx
      cases r with
      | nil =>
        rw [List.mem_singleton.mp hx]
        exact ⟨Nat.le_refl _, fun c hc => hc⟩
      | cons b r =>
        rcases List.mem_cons.mp hx with rfl | hx
        · exact ⟨by show _ ≤ (tl x ++ (tl " " ++ joinL (tl " ") ((b :: r).map tl))).length; rw [List.length_append]; omega, fun c hc => List.mem_append_left _ hc⟩
        · have q := ih x hx
          refine ⟨?_, fun c hc => List.mem_append_right _ (List.mem_append_right _ (q.2 c hc))⟩
          show _ ≤ (tl a ++ (tl " " ++ joinL (tl " ") ((b :: r).map tl))).length
          rw [List.length_append, List.length_append]
          have := q.1
          omega
  intro x hx
  have q := key ws x hx
  rw [← tl_join, e] at q
  exact ⟨by rw [len_tl, len_tl]; exact q.1, q.2⟩
theorem strOk_tl {z : Str} : PyData.strOk z = true ↔ ∀ c ∈ tl z, c < 0x110000 := by
  unfold PyData.strOk
  simp only [Array.all_eq_true']
  constructor
  · intro h c hc
    exact of_decide_eq_true (h c (by simpa using hc))
  · intro h c hc
    exact decide_eq_true (h c (by simpa using hc))
theorem str_shaped {z : Str} (h : PyData.strOk z = true) : SeqAt.shaped (.str z) = true := by
  show (PyData.strOk z && decide (PyData.depth (.str z) ≤ 64)) = true
  rw [h]
  rfl
/-- len of a list or tuple, the written part by its name -/
def rLenK (K : PySem.W.Frag) : List V → Hp → VK → Prop := fun xs H Q => ∃ p ys, xs = [V.ref p] ∧ (SqL K H p ys ∨ SqT K H p ys) ∧ Q (.int ys.length) H
theorem kpi_same2 {H H1 : Hp} {x dx : Addr} {o o2 : HO} (hx : H x = none) (hdx : H dx = none) (k : KpI x (upd (upd H dx o) x o2) H1) : Same H H1 := fun b u e => by
  have n1 : b ≠ x := ne_of_none e hx
  have n2 : b ≠ dx := ne_of_none e hdx
  exact k b u (by rw [upd_ne n1, upd_ne n2]; exact e) n1
theorem ins_same2 {H : Hp} {x dx : Addr} {o o2 : HO} (hx : H x = none) (hdx : H dx = none) : Same H (upd (upd H dx o) x o2) := fun b u e => by
  rw [upd_ne (ne_of_none e hx), upd_ne (ne_of_none e hdx)]
  exact e
theorem skip_pos {n : Nat} (h : skipD (.int (n : Int)) = true) : n ≠ 0 := fun z => by
  subst z
  exact absurd h (by decide)
theorem skip_of {n : Nat} (h : n ≠ 0) : skipD (.int (n : Int)) = true := by
  show (decide ((0 : Int) ≤ (n : Int)) && decide ((n : Int) ≠ 0)) = true
  rw [decide_eq_true (show (0 : Int) ≤ (n : Int) by omega), decide_eq_true (show (n : Int) ≠ 0 by omega)]
  rfl
theorem set_of {n : Nat} : setD (.int (n : Int)) = true := decide_eq_true (show (0 : Int) ≤ (n : Int) by omega)
end Pn

namespace Pn
open PySem L2
/-- a pool of names: counters, parts, open places, labels -/
structure Pool where
  c : List Str
  p : List Str
  x : List Str
  l : List Str
def poolsD : List Pool := [⟨["c", "f", "r"], ["p", "pic", "fig", "text"], ["x", "y"], ["cat", "dog"]⟩, ⟨["a", "ab", "abc"], ["a", "aa", "ab", "b"], ["b", "bb"], ["a", "z"]⟩, ⟨["n", "nn", "m"], ["z", "y", "x", "w"], ["n", "o"], ["x", "n"]⟩]
structure Pool.Fine (d : Pool) : Prop where
  cl : d.c.length = 3
  pl : d.p.length = 4
  xl : d.x.length = 2
  ll : d.l.length = 2
  cn : d.c.Nodup
  pn : d.p.Nodup
  names : ∀ y ∈ d.c ++ d.p ++ d.x ++ d.l, nameS y = true
theorem pool_fine : ∀ d ∈ poolsD, d.Fine := fun d hd => by
  have h : ∀ d ∈ poolsD, ((decide (d.c.length = 3) && decide (d.p.length = 4) && decide (d.x.length = 2) && decide (d.l.length = 2)) && (decide d.c.Nodup && decide d.p.Nodup)) && (d.c ++ d.p ++ d.x ++ d.l).all nameS = true := List.all_eq_true.mp (by decide +kernel)
  have q := h d hd
  simp only [Bool.and_eq_true, decide_eq_true_eq] at q
  obtain ⟨⟨⟨⟨⟨q1, q2⟩, q3⟩, q4⟩, q5, q6⟩, q7⟩ := q
  exact ⟨q1, q2, q3, q4, q5, q6, List.all_eq_true.mp q7⟩
/-- a pool as it stands -/
def PoolAt (H : Hp) (a : Addr) (d : Pool) : Prop := ∃ a0 a1 a2 a3 : Addr, H a = some (.lst [.ref a0, .ref a1, .ref a2, .ref a3]) ∧ H a0 = some (.lst (d.c.map V.str)) ∧ H a1 = some (.lst (d.p.map V.str)) ∧ H a2 = some (.lst (d.x.map V.str)) ∧ H a3 = some (.lst (d.l.map V.str))
section
variable {P : Program} {w : World} {K : PySem.W.Frag} {mg : Str → Option Value} {base : Heap}
def spPools : Sp := fun vs H Q _ => ∃ b : Addr, vs = [.ref b] ∧ BoxAt H b ∧ ∀ (a : Addr) (d : Pool) (H' : Hp), d ∈ poolsD → BoxAt H' b → Kp b H H' → PoolAt (dif H H') a d → Q (.ref a) H'
end
end Pn

namespace Pn
open PySem L2
/-- counters as they stand: a list of pairs -/
def CsAt (H : Hp) (c : Addr) (cs : List (Str × Str)) : Prop := ∃ ts : List Addr, H c = some (.lst (ts.map V.ref)) ∧ Paired (fun t p => H t = some (.tup [.str p.1, .str p.2])) ts cs
/-- each upper one stands ahead -/
def TreeOk (cs : List (Str × Str)) : Prop := ∀ (i : Nat) (p : Str × Str), cs[i]? = some p → p.2 = "" ∨ p.2 ∈ (cs.take i).map (·.1)
theorem tree_snoc {cs : List (Str × Str)} {p : Str × Str} (h : TreeOk cs) (hp : p.2 = "" ∨ p.2 ∈ cs.map (·.1)) : TreeOk (cs ++ [p]) := fun i q hq => by
  by_cases hi : i < cs.length
  · rw [List.getElem?_append_left hi] at hq
    rcases h i q hq with e | e
    · exact .inl e
    · refine .inr ?_
      rw [List.take_append_of_le_length (by omega)]
      exact e
  · rw [List.getElem?_append_right (by omega)] at hq
    have h0 : i - cs.length = 0 := by
      cases h1 : i - cs.length with
      | zero => rfl
      | succ n => rw [h1] at hq; simp at hq
    rw [h0] at hq
    have e : p = q := by simpa using hq
    subst e
    rcases hp with e | e
    · exact .inl e
    · refine .inr ?_
      rw [show i = cs.length by omega, List.take_left']
      · exact e
      · rfl
theorem paired_mono {α β : Type} {R S : α → β → Prop} (h : ∀ a b, R a b → S a b) : ∀ {l : List α} {m : List β}, Paired R l m → Paired S l m
  | _, _, .nil => .nil
  | _, _, .cons a b => .cons (h _ _ a) (paired_mono h b)
theorem paired_snoc {α β : Type} {R : α → β → Prop} {x : α} {y : β} (h : R x y) : ∀ {l : List α} {m : List β}, Paired R l m → Paired R (l ++ [x]) (m ++ [y])
  | _, _, .nil => .cons h .nil
  | _, _, .cons a b => .cons a (paired_snoc h b)
theorem paired_at {α β : Type} {R : α → β → Prop} : ∀ {l : List α} {m : List β} {i : Nat} {x : α}, Paired R l m → l[i]? = some x → ∃ y, m[i]? = some y ∧ R x y
  | _, _, _, _, .nil, h => by simp at h
  | _, _, 0, _, .cons a _, h => by
    have e := Option.some.inj h
    subst e
    exact ⟨_, rfl, a⟩
  | _, _, i + 1, _, .cons _ b, h => paired_at (i := i) b h
theorem paired_len {α β : Type} {R : α → β → Prop} : ∀ {l : List α} {m : List β}, Paired R l m → l.length = m.length
  | _, _, .nil => rfl
  | _, _, .cons _ b => by rw [List.length_cons, List.length_cons, paired_len b]
section
variable {P : Program} {w : World} {K : PySem.W.Frag} {mg : Str → Option Value} {base : Heap}
def spCounters (K : PySem.W.Frag) : Sp := fun vs H Q _ => ∃ (b p : Addr) (m : Nat) (l : List Str), vs = [.ref b, .ref p, .int (m : Int)] ∧ BoxAt H b ∧ SqL K H p (l.map V.str) ∧ p ≠ b ∧ 0 < m ∧ m ≤ l.length ∧ l.length ≤ 100 ∧
  ∀ (c : Addr) (cs : List (Str × Str)) (H' : Hp), Kp b H H' → BoxAt H' b → CsAt (dif H H') c cs → 0 < cs.length → cs.length ≤ m → cs.map (·.1) = l.take cs.length → TreeOk cs → Q (.ref c) H'
end
end Pn

namespace Pn
open PySem L2
/-- a row as the tuple that the law draws -/
def rowTup : RowD → List V
  | .note c l => [.str "note", .str c, .str l]
  | .skip c n => [.str "skip", .str c, .int (n : Int)]
  | .set c n => [.str "set", .str c, .int (n : Int)]
  | .keep c => [.str "keep", .str c]
  | .back c => [.str "back", .str c]
  | .ref c => [.str "ref", .str c]
  | .put c => [.str "put", .str c]
  | .opn c => [.str "open", .str c]
def rowFine (d : Pool) (cs : List (Str × Str)) (parts : List Str) : RowD → Prop
  | .note c l => c ∈ cs.map (·.1) ∧ (l = "" ∨ l ∈ d.l)
  | .skip c n => c ∈ cs.map (·.1) ∧ 1 ≤ n ∧ n ≤ 3
  | .set c n => c ∈ cs.map (·.1) ∧ n ≤ 3
  | .keep c => c ∈ cs.map (·.1)
  | .back c => c ∈ cs.map (·.1)
  | .ref _ => False
  | .put p => p ∈ parts
  | .opn x => x ∈ d.x
theorem PoolAt.mono {H H' : Hp} {a : Addr} {d : Pool} (s : Same H H') (h : PoolAt H a d) : PoolAt H' a d := by
  obtain ⟨a0, a1, a2, a3, e, e0, e1, e2, e3⟩ := h
  exact ⟨a0, a1, a2, a3, s _ _ e, s _ _ e0, s _ _ e1, s _ _ e2, s _ _ e3⟩
theorem CsAt.mono {H H' : Hp} {a : Addr} {cs : List (Str × Str)} (s : Same H H') (h : CsAt H a cs) : CsAt H' a cs := by
  obtain ⟨ts, e, p⟩ := h
  exact ⟨ts, s _ _ e, paired_mono (fun _ _ z => s _ _ z) p⟩
theorem dif_hid {b : Addr} {H H' : Hp} {o : HO} (hb : H b = some o) : Same (dif H H') (hid H' b) := fun a u e => by
  obtain ⟨e0, e1⟩ := dif_eq.mp e
  exact hid_get e1 (fun z => by rw [z, hb] at e0; cases e0)
theorem hid_ne {H : Hp} {b a : Addr} {o : HO} (h : hid H b a = some o) : a ≠ b := fun z => by
  unfold hid at h
  rw [if_pos z] at h
  cases h
theorem newAt {b t : Addr} {H Hx : Hp} {o : HO} (k : Kp b H Hx) (hx : BoxAt Hx b) (ht : Hx t = none) : dif H (upd Hx t o) t = some o := by
  obtain ⟨_, _, _, g⟩ := hx
  exact dif_new (k.mo g t ht) upd_same
theorem BoxAt.new {b t : Addr} {H : Hp} {o : HO} (h : BoxAt H b) (ht : H t = none) : BoxAt (upd H t o) b := by
  obtain ⟨x, y, e, g⟩ := h
  exact ⟨x, y, e, Same.new ht b _ g⟩
theorem BoxAt.ne {b t : Addr} {H : Hp} (h : BoxAt H b) (ht : H t = none) : t ≠ b := fun z => by
  obtain ⟨x, y, e, g⟩ := h
  rw [z, g] at ht
  cases ht
theorem strsL_nil (l : List Str) : PyData.eqv (.list (l.map PyData.str)) (.list []) = l.isEmpty := by
  cases l <;> simp [PyData.eqv, PyData.eqvAll]
theorem dp_strL {K : PySem.W.Frag} {H : Hp} : ∀ l : List Str, DpAll K H (l.map V.str) (l.map PyData.str)
  | [] => .nil
  | x :: l => .cons (.str x) (dp_strL l)
theorem strL_sh {l : List Str} (h : ∀ x ∈ l, PyData.strOk x = true) : SeqAt.shaped (.list (l.map PyData.str)) = true := by
  have q : ∀ m : List Str, (∀ x ∈ m, PyData.strOk x = true) → PyData.canLayAll0 (m.map PyData.str) = true ∧ PyData.depthAll (m.map PyData.str) = 0 := by
    intro m
    induction m with
    | nil => intro _; exact ⟨by simp [PyData.canLayAll0], by simp [PyData.depthAll]⟩
    | cons x m ih =>
      intro h
      have q := ih fun y hy => h y (List.mem_cons_of_mem _ hy)
      refine ⟨?_, by simp [PyData.depthAll, PyData.depth, q.2]⟩
      show (PyData.strOk x && PyData.canLayAll0 (m.map PyData.str)) = true
      rw [h x List.mem_cons_self, q.1]
      rfl
  have q := q l h
  show (PyData.canLay0 (.list (l.map PyData.str)) && decide (PyData.depth (.list (l.map PyData.str)) ≤ 64)) = true
  rw [Bool.and_eq_true]
  refine ⟨by simp only [PyData.canLay0]; exact q.1, decide_eq_true ?_⟩
  simp only [PyData.depth, q.2]
  decide
theorem name_ok {z : Str} (h : nameS z = true) : PyData.strOk z = true ∧ z.length ≤ 4 := by
  unfold nameS at h
  rw [Bool.and_eq_true, Bool.and_eq_true, Bool.and_eq_true] at h
  obtain ⟨⟨_, h2, h3⟩, h4⟩ := h
  refine ⟨strOk_tl.mpr fun c hc => ?_, by have := of_decide_eq_true h3; omega⟩
  have q := List.all_eq_true.mp h4 c hc
  unfold lok at q
  rw [Bool.and_eq_true] at q
  have := of_decide_eq_true q.2
  omega
section
variable {P : Program} {w : World} {K : PySem.W.Frag} {mg : Str → Option Value} {base : Heap}
def spDRow (K : PySem.W.Frag) : Sp := fun vs H Q _ => ∃ (b pp cc ps : Addr) (d : Pool) (cs : List (Str × Str)) (parts : List Str), vs = [.ref b, .ref pp, .ref cc, .ref ps] ∧ BoxAt H b ∧ PoolAt (hid H b) pp d ∧ d ∈ poolsD ∧ CsAt (hid H b) cc cs ∧ 0 < cs.length ∧ cs.length ≤ 100 ∧
  SqL K H ps (parts.map V.str) ∧ ps ≠ b ∧ parts.length ≤ 100 ∧ (∀ x ∈ parts, nameS x = true) ∧
  ∀ (t : Addr) (r : RowD) (H' : Hp), Kp b H H' → BoxAt H' b → dif H H' t = some (.tup (rowTup r)) → rowFine d cs parts r → Q (.ref t) H'
end
end Pn

namespace Pn
open PySem L2 TL
def rowValid : RowD → Prop
  | .note c l => nameS c = true ∧ (l = "" ∨ nameS l = true)
  | .skip c n => nameS c = true ∧ 1 ≤ n ∧ n < 10 ^ 10
  | .set c n => nameS c = true ∧ n < 10 ^ 10
  | .keep c => nameS c = true
  | .back c => nameS c = true
  | .ref c => nameS c = true
  | .put c => nameS c = true
  | .opn c => nameS c = true
theorem fine_valid {d : Pool} {cs : List (Str × Str)} {parts : List Str} (hd : d.Fine) (hc : ∀ x ∈ cs.map (·.1), nameS x = true) (hp : ∀ x ∈ parts, nameS x = true) : ∀ {r : RowD}, rowFine d cs parts r → rowValid r
  | .note _ _, h => ⟨hc _ h.1, h.2.imp id fun z => hd.names _ (List.mem_append_right _ z)⟩
  | .skip _ _, h => ⟨hc _ h.1, h.2.1, Nat.lt_of_le_of_lt h.2.2 (by decide)⟩
  | .set _ _, h => ⟨hc _ h.1, Nat.lt_of_le_of_lt h.2 (by decide)⟩
  | .keep _, h => hc _ h
  | .back _, h => hc _ h
  | .put _, h => hp _ h
  | .opn _, h => hd.names _ (List.mem_append_left _ (List.mem_append_right _ h))
/-- what a word of a drawn row says in its text -/
def wOf : V → Option Str
  | .str z => if z = "" then none else some z
  | .int i => some (Str.ofString (toString i))
  | _ => none
theorem name_ne {z : Str} (h : nameS z = true) : z ≠ "" := fun e => by
  subst e
  exact absurd h (by decide +kernel)
theorem words_of : ∀ {r : RowD}, rowValid r → (rowTup r).filterMap wOf = rowWords r
  | .note c l, h => by
    have h0 := name_ne h.1
    have k : wOf (.str "note") = some "note" := by decide +kernel
    have kc : wOf (.str c) = some c := if_neg h0
    by_cases hl : l = ""
    · have kl : wOf (.str l) = none := if_pos hl
      show List.filterMap wOf [.str "note", .str c, .str l] = (if l = "" then (["note", c] : List Str) else ["note", c, l])
      rw [if_pos hl]
      simp [k, kc, kl]
    · have kl : wOf (.str l) = some l := if_neg hl
      show List.filterMap wOf [.str "note", .str c, .str l] = (if l = "" then (["note", c] : List Str) else ["note", c, l])
      rw [if_neg hl]
      simp [k, kc, kl]
  | .skip c n, h => by
    have k : wOf (.str "skip") = some "skip" := by decide +kernel
    have kc : wOf (.str c) = some c := if_neg (name_ne h.1)
    show List.filterMap wOf [.str "skip", .str c, .int (n : Int)] = (["skip", c, numStr n] : List Str)
    simp [List.filterMap_cons, k, kc]
    rfl
  | .set c n, h => by
    have k : wOf (.str "set") = some "set" := by decide +kernel
    have kc : wOf (.str c) = some c := if_neg (name_ne h.1)
    show List.filterMap wOf [.str "set", .str c, .int (n : Int)] = (["set", c, numStr n] : List Str)
    simp [List.filterMap_cons, k, kc]
    rfl
  | .keep c, h => by
    have k : wOf (.str "keep") = some "keep" := by decide +kernel
    have kc : wOf (.str c) = some c := if_neg (name_ne h)
    show List.filterMap wOf [.str "keep", .str c] = (["keep", c] : List Str)
    simp [List.filterMap_cons, k, kc]
  | .back c, h => by
    have k : wOf (.str "back") = some "back" := by decide +kernel
    have kc : wOf (.str c) = some c := if_neg (name_ne h)
    show List.filterMap wOf [.str "back", .str c] = (["back", c] : List Str)
    simp [List.filterMap_cons, k, kc]
  | .ref c, h => by
    have k : wOf (.str "ref") = some "ref" := by decide +kernel
    have kc : wOf (.str c) = some c := if_neg (name_ne h)
    show List.filterMap wOf [.str "ref", .str c] = (["ref", c] : List Str)
    simp [List.filterMap_cons, k, kc]
  | .put c, h => by
    have k : wOf (.str "put") = some "put" := by decide +kernel
    have kc : wOf (.str c) = some c := if_neg (name_ne h)
    show List.filterMap wOf [.str "put", .str c] = (["put", c] : List Str)
    simp [List.filterMap_cons, k, kc]
  | .opn c, h => by
    have k : wOf (.str "open") = some "open" := by decide +kernel
    have kc : wOf (.str c) = some c := if_neg (name_ne h)
    show List.filterMap wOf [.str "open", .str c] = (["open", c] : List Str)
    simp [List.filterMap_cons, k, kc]
theorem numStr_small {n : Nat} (h : n < 10 ^ 10) : (numStr n).length ≤ 20 ∧ PyData.strOk (numStr n) = true := by
  refine ⟨numStr_len (Nat.lt_trans h (by decide)), strOk_tl.mpr fun c hc => ?_⟩
  have e : tl (numStr n) = numL n := tl_num n
  rw [e] at hc
  have q := numL_digits n c hc
  omega
/-- the words of a row that stands: few, short, of ordinary signs -/
theorem words_small {r : RowD} (h : rowValid r) : (rowWords r).length ≤ 3 ∧ 2 ≤ (rowWords r).length ∧ ∀ x ∈ rowWords r, x.length ≤ 20 ∧ PyData.strOk x = true := by
  have nm : ∀ {z : Str}, nameS z = true → z.length ≤ 20 ∧ PyData.strOk z = true := fun h => ⟨Nat.le_trans (name_ok h).2 (by decide), (name_ok h).1⟩
  have lit : ∀ z ∈ (["note", "skip", "set", "keep", "back", "ref", "put", "open"] : List Str), z.length ≤ 20 ∧ PyData.strOk z = true := fun z hz => by
    have q : (["note", "skip", "set", "keep", "back", "ref", "put", "open"] : List Str).all (fun z => decide (z.length ≤ 20) && PyData.strOk z) = true := by decide +kernel
    have := List.all_eq_true.mp q z hz
    rw [Bool.and_eq_true] at this
    exact ⟨of_decide_eq_true this.1, this.2⟩
  have two : ∀ {a c : Str}, a ∈ (["note", "skip", "set", "keep", "back", "ref", "put", "open"] : List Str) → nameS c = true → ([a, c] : List Str).length ≤ 3 ∧ 2 ≤ ([a, c] : List Str).length ∧ ∀ x ∈ ([a, c] : List Str), x.length ≤ 20 ∧ PyData.strOk x = true := fun {a c} ha hc =>
    ⟨by show 2 ≤ 3; decide, by show 2 ≤ 2; decide, fun x hx => by
      rcases List.mem_cons.mp hx with rfl | hx
      · exact lit _ ha
      · rw [List.mem_singleton.mp hx]; exact nm hc⟩
  have three : ∀ {a c l : Str}, a ∈ (["note", "skip", "set", "keep", "back", "ref", "put", "open"] : List Str) → nameS c = true → (l.length ≤ 20 ∧ PyData.strOk l = true) → ([a, c, l] : List Str).length ≤ 3 ∧ 2 ≤ ([a, c, l] : List Str).length ∧ ∀ x ∈ ([a, c, l] : List Str), x.length ≤ 20 ∧ PyData.strOk x = true := fun {a c l} ha hc hl =>
    ⟨by show 3 ≤ 3; decide, by show 2 ≤ 3; decide, fun x hx => by
      rcases List.mem_cons.mp hx with rfl | hx
      · exact lit _ ha
      · rcases List.mem_cons.mp hx with rfl | hx
        · exact nm hc
        · rw [List.mem_singleton.mp hx]; exact hl⟩
  cases r with
  | note c l =>
    show (if l = "" then (["note", c] : List Str) else ["note", c, l]).length ≤ 3 ∧ 2 ≤ (if l = "" then (["note", c] : List Str) else ["note", c, l]).length ∧ ∀ x ∈ (if l = "" then (["note", c] : List Str) else ["note", c, l]), _
    by_cases hl : l = ""
    · rw [if_pos hl]
      exact two (by decide +kernel) h.1
    · rw [if_neg hl]
      exact three (by decide +kernel) h.1 (nm (h.2.resolve_left hl))
  | skip c n => exact three (by decide +kernel) h.1 (numStr_small h.2.2)
  | set c n => exact three (by decide +kernel) h.1 (numStr_small h.2)
  | keep c => exact two (by decide +kernel) h
  | back c => exact two (by decide +kernel) h
  | ref c => exact two (by decide +kernel) h
  | put c => exact two (by decide +kernel) h
  | opn c => exact two (by decide +kernel) h
section
variable {P : Program} {w : World} {K : PySem.W.Frag} {mg : Str → Option Value} {base : Heap}
def rStrF : List V → Hp → VK → Prop := fun xs H Q => (∃ a, xs = [.str a] ∧ Q (.str a) H) ∨ ∃ i : Int, xs = [.int i] ∧ i.natAbs.log2 < 1920 ∧ Q (.str (Str.ofString (toString i))) H
theorem call_strF {X : Cx} : CallR X (.type "str") rStrF := fun pins s σ H xs us Q I r h => h.elim (fun h => SkE.call_str_str pins s σ H xs us Q I r h) fun h => call_str_int pins s σ H xs us Q I r h
theorem tup_items {r : RowD} (h : rowValid r) : (rowTup r).length ≤ 3 ∧ ∀ v ∈ rowTup r, (∃ z : Str, v = .str z ∧ PyData.strOk z = true) ∨ ∃ n : Nat, v = .int (n : Int) ∧ n < 10 ^ 10 := by
  have nm : ∀ {z : Str}, nameS z = true → PyData.strOk z = true := fun h => (name_ok h).1
  have l8 : ∀ z ∈ (["note", "skip", "set", "keep", "back", "ref", "put", "open"] : List Str), PyData.strOk z = true := List.all_eq_true.mp (by decide +kernel)
  have two : ∀ {a c : Str}, a ∈ (["note", "skip", "set", "keep", "back", "ref", "put", "open"] : List Str) → nameS c = true → ([.str a, .str c] : List V).length ≤ 3 ∧ ∀ v ∈ ([.str a, .str c] : List V), (∃ z : Str, v = .str z ∧ PyData.strOk z = true) ∨ ∃ n : Nat, v = .int (n : Int) ∧ n < 10 ^ 10 := fun {a c} ha hc =>
    ⟨by show 2 ≤ 3; decide, fun v hv => by
      rcases List.mem_cons.mp hv with rfl | hv
      · exact .inl ⟨a, rfl, l8 a ha⟩
      · rw [List.mem_singleton.mp hv]; exact .inl ⟨c, rfl, nm hc⟩⟩
  have three : ∀ {a c : Str} {u : V}, a ∈ (["note", "skip", "set", "keep", "back", "ref", "put", "open"] : List Str) → nameS c = true → ((∃ z : Str, u = .str z ∧ PyData.strOk z = true) ∨ ∃ n : Nat, u = .int (n : Int) ∧ n < 10 ^ 10) →
      ([.str a, .str c, u] : List V).length ≤ 3 ∧ ∀ v ∈ ([.str a, .str c, u] : List V), (∃ z : Str, v = .str z ∧ PyData.strOk z = true) ∨ ∃ n : Nat, v = .int (n : Int) ∧ n < 10 ^ 10 := fun {a c u} ha hc hu =>
    ⟨by show 3 ≤ 3; decide, fun v hv => by
      rcases List.mem_cons.mp hv with rfl | hv
      · exact .inl ⟨a, rfl, l8 a ha⟩
      · rcases List.mem_cons.mp hv with rfl | hv
        · exact .inl ⟨c, rfl, nm hc⟩
        · rw [List.mem_singleton.mp hv]; exact hu⟩
  cases r with
  | note c l => exact three (by decide +kernel) h.1 (.inl ⟨l, rfl, h.2.elim (fun z => by rw [z]; decide +kernel) nm⟩)
  | skip c n => exact three (by decide +kernel) h.1 (.inr ⟨n, rfl, h.2.2⟩)
  | set c n => exact three (by decide +kernel) h.1 (.inr ⟨n, rfl, h.2⟩)
  | keep c => exact two (by decide +kernel) h
  | back c => exact two (by decide +kernel) h
  | ref c => exact two (by decide +kernel) h
  | put c => exact two (by decide +kernel) h
  | opn c => exact two (by decide +kernel) h
end
end Pn

namespace Pn
open PySem L2 TL
def rStrRow {K : PySem.W.Frag} {mg : Str → Option Value} (T : TRows K mg) : List V → Hp → VK → Prop := fun xs H Q => ∃ (a : Addr) (r : RowD), xs = [.ref a] ∧ RowAt T H a r ∧ rowSmall r ∧ Q (.str (rowText r)) H
theorem name_small {z : Str} (h : nameS z = true) : z.length ≤ 100 := Nat.le_trans (name_ok h).2 (by decide)
theorem lab_small {l : Str} (h : labD (.str l) = true) : l = "" ∨ nameS l = true := by
  unfold labD at h
  rw [Bool.or_eq_true] at h
  rcases h with h | h
  · left
    simp only [PyData.eqv] at h
    exact eq_of_beq h
  · exact .inr h
end Pn

namespace Pn
open PySem L2 TL
theorem passN0 {P : Program} {w : World} {X : Cx} : Passes (L2N.CX P w) X E0 := fun _ _ _ _ _ _ _ ⟨_, _, _, _, _, _, _, _, _, _, _, _, h⟩ => h.elim
section
variable {P : Program} {w : World} {K : PySem.W.Frag} {mg : Str → Option Value} {base : Heap}
def spMade (R : TRows K mg) : Sp := fun vs H Q _ => ∃ (t : Addr) (r : RowD), vs = [.ref t] ∧ SqT K H t (rowTup r) ∧ rowValid r ∧ ∀ a H', Same H H' → RowAt R H' a r → Q (.ref a) H'
theorem lab_of {l : Str} (h : l = "" ∨ nameS l = true) : labD (.str l) = true := by
  rcases h with rfl | h
  · decide +kernel
  · show (PyData.eqv (.str l) (.str "") || nameS l) = true
    rw [h, Bool.or_true]
end
end Pn

namespace Pn
open PySem L2
/-! ### == of an own instance whose class has an __eq__ of its own -/
section
variable {X : Cx} {CX : CXT} {k : Nat} {f C : Addr} {fd : FuncData} {ps : List Str} {sp : Sp} {E : XK}
/-- what stands to the right: a text, or an instance whose class is not first asked -/
def Right (K : PySem.W.Frag) (C : Addr) (H : Hp) (y : V) : Prop := (∃ z : Str, y = .str z ∧ PySem.W.notFirst K C (.type "str") = true) ∨ ∃ (b D dy : Addr) (gs : List (Str × V)), y = .ref b ∧ H b = some (.ins D dy gs) ∧ PySem.W.notFirst K C (.ref D) = true
def rOpIns (K : PySem.W.Frag) (nm : Str) (f : Addr) (sp : Sp) (E : XK) : R2 := fun x y H Q => ∃ (a C dx : Addr) (fs : List (Str × V)), x = .ref a ∧ H a = some (.ins C dx fs) ∧ PySem.W.findIn K (.ref C) nm = some (some (.ref f)) ∧ Right K C H y ∧ sp [x, y] H Q E
theorem op_eqIns (F : FnOk X.prog X.w X.K X.mg X.base CX k f fd ps sp) (hf : PySem.W.isFn X.K (.ref f) = true) (hr : Room k X.A) (hb : Binds X.K fd ps []) (hx : Passes CX X E) : OpR X (compareOp .Eq) (rOpIns X.K "__eq__" f sp E) := by
  intro pins s σ H x y v u Q I rx ry h
  obtain ⟨a, C, dx, fs, rfl, ha, hs, hy, q⟩ := h
  cases rx
  obtain ⟨mA, O, _⟩ := ins_get I.hok ha
  obtain ⟨od, J, _⟩ := O.look
  obtain ⟨m, hF⟩ := I.fr
  show wpAny (model X.prog X.w) X.A (richCompare .Eq (.ref a) u) (EP X pins σ Q) X.xe s
  have go : ∀ tb, PySem.W.Looks (model X.prog X.w) s.heap (typeOf u) tb → PySem.W.notFirst X.K C tb = true → wpAny (model X.prog X.w) X.A (richCompare .Eq (.ref a) u) (EP X pins σ Q) X.xe s := fun tb hl hn => by
    refine PySem.W.cmp_K (op := .Eq) (tb := tb) hr.units0 hF I.ok.mod.kin J hl hn hs hf ?_
    refine wpAny_mono (run_fnA F hr I.env0 hb hx I (.cons (show RelV (.ref a) (Value.ref a) from rfl) (.cons ry .nil)) q) (fun w s' z => ?_) fun _ _ x => x
    obtain ⟨z', H', I', rz, qz⟩ := z
    exact SlX.cmpback rz ⟨z', H', I', rz, qz⟩
  rcases hy with ⟨z, rfl, hn⟩ | ⟨b, D, dy, gs, rfl, hb2, hn⟩
  · obtain ⟨t, rfl⟩ := ry
    exact go _ (PySem.W.Looks.of_pure rfl) hn
  · cases ry
    obtain ⟨mB, O2, _⟩ := ins_get I.hok hb2
    obtain ⟨od2, J2, _⟩ := O2.look
    exact go _ J2.type hn
end
end Pn
namespace Pn
open PySem PySem.W PyProof.Rows
section
variable {prog : Program} {w : World} {A : Around} {E : Value → Shared → Prop} {s : Shared} {K : Frag} {x C L f : Addr} {h₀ : Heap} {m : Str → Option Value} {ox : Obj} {od : Option Obj} {b tb : Value}
/-- object.__ne__ asks __eq__ and turns its answer round -/
theorem obj_ne {Q : Fin → Shared → Prop} (hu : A.units < cLine) (X : K.In s.heap) (I : InstAt s.heap x ox C od) (hs : findIn K (.ref C) "__eq__" = some (some (.ref f))) (hf : isFn K (.ref f) = true)
    (h : wpAny (model prog w) A (call (.ref f) [.ref x, b]) (fun v s' => ∃ c, v = .bool c ∧ Q (.done (.ret (.bool (!c)))) s') E s) : wpAny (model prog w) A (Builtin.«object.__ne__» ⟨[.ref x, b], []⟩) Q E s := by
  unfold Builtin.«object.__ne__»
  repeat (first
    | with_reducible refine wpAny_cRoomFor hu ?_
    | (refine wpAny_bind (m := callSpecialIfBound? (.ref x) (Str.ofString "__eq__") [b])
        (ifBound_K X I hs hf (wpAny_mono h (fun v s' hv => by
          obtain ⟨c, rfl, hq⟩ := hv
          repeat (first | exact hq | exact wpAny_pure hq | exact wpAny_truthy_bool hq | (refine wpAny_bind (m := truthy (.bool _)) (wpAny_truthy_bool ?_)) | wp_step)) fun _ _ e => e)))
    | wp_step)
theorem rich_ne {Q : Value → Shared → Prop} (hu : A.units + 1 < cLine) (F : Fr h₀ L s.heap m) (X₀ : K.In h₀) (I : InstAt s.heap x ox C od) (hb : Looks (model prog w) s.heap (typeOf b) tb) (hn : notFirst K C tb = true)
    (hne : findIn K (.ref C) "__ne__" = some (some (.builtin "object.__ne__"))) (ho : mroIn K C (.type "object") = some true) (hs : findIn K (.ref C) "__eq__" = some (some (.ref f))) (hf : isFn K (.ref f) = true)
    (h : wpAny (model prog w) A.in1 (call (.ref f) [.ref x, b]) (fun v s' => ∃ c, v = .bool c ∧ Q (.bool (!c)) s') E s) : wpAny (model prog w) A (richCompare .NotEq (.ref x) b) Q E s := by
  have X := X₀.keeps F.keep
  have one : wpAny (model prog w) A (tryCompare (.ref x) (cmpInfo .NotEq).2.1 b) (fun r s' => ∃ v, r = some v ∧ Q v s') E s := by
    unfold tryCompare
    refine wpAny_bind (NtL.csib (I.type.andThen (looks_findIn X hne)) (PySem.F.slot_object_ne.bind _) (wpAny_call (codeAny_call_builtin PySem.F.slot_object_ne.plain PySem.F.entry_object_ne
      (check_slot (i := "object.__ne__") (owner := "object") (n := "__ne__") (by decide +kernel) (by decide +kernel) (I.type.andThen (looks_mroIn X ho)) (PySem.F.args_object_ne_2 _ _)
        (obj_ne (A := A.in1) hu X I hs hf (wpAny_mono h (fun v s' hv => ?_) fun _ _ e => e))))))
    obtain ⟨c, rfl, hq⟩ := hv
    first | exact ⟨c, rfl, wpAny_pure ⟨_, rfl, hq⟩⟩ | exact ⟨c, rfl, _, rfl, hq⟩ | exact ⟨c, rfl, wpAny_pure (wpAny_pure ⟨_, rfl, hq⟩)⟩
  unfold richCompare
  simp only [oneThing_ref]
  refine wpAny_holding (wpAny_bind (wpAny_cRoomFor (Nat.lt_of_succ_lt hu) ?_))
  refine wpAny_bind (I.type.here (wpAny_bind (hb.here ?_)))
  have last : ∀ {t : Option Value → Sem Value}, (∀ v, t (some v) = pure v) → wpAny (model prog w) A (tryCompare (.ref x) (cmpInfo .NotEq).2.1 b >>= t) Q E s := fun ht => wpAny_bind (wpAny_mono one (fun r s' ⟨v, hr, hq⟩ => by
    subst hr
    rw [ht]
    exact wpAny_pure hq) fun _ _ e => e)
  by_cases hq : tb = .ref C
  · subst hq
    rw [if_neg (by simp)]
    exact wpAny_bind (wpAny_pure (by simp only [Bool.false_eq_true, if_false]; exact last fun v => rfl))
  · have e : subIn K tb (.ref C) = some false := (Bool.or_eq_true_iff.mp hn).elim (fun e => absurd (beq_iff_eq.mp e) hq) beq_iff_eq.mp
    rw [if_pos (by simpa using fun z => hq z.symm)]
    exact wpAny_bind ((looks_subIn X e).here (by simp only [Bool.false_eq_true, if_false]; exact last fun v => rfl))
end
end Pn
namespace Pn
open PySem L2
section
variable {X : Cx} {CX : CXT} {k : Nat} {f C : Addr} {fd : FuncData} {ps : List Str} {sp : Sp} {E : XK}
/-- != of an own instance with an __eq__ of its own and object's __ne__ -/
def rNeIns (K : PySem.W.Frag) (f : Addr) (sp : Sp) (E : XK) : R2 := fun x y H Q => ∃ (a C dx : Addr) (fs : List (Str × V)), x = .ref a ∧ H a = some (.ins C dx fs) ∧ PySem.W.findIn K (.ref C) "__eq__" = some (some (.ref f)) ∧
  PySem.W.findIn K (.ref C) "__ne__" = some (some (.builtin "object.__ne__")) ∧ PySem.W.mroIn K C (.type "object") = some true ∧ Right K C H y ∧ sp [x, y] H (fun v H' => ∃ c, v = .bl c ∧ Q (.bl (!c)) H') E
theorem op_neIns (F : FnOk X.prog X.w X.K X.mg X.base CX k f fd ps sp) (hf : PySem.W.isFn X.K (.ref f) = true) (hr : Room (k + 1) X.A) (hb : Binds X.K fd ps []) (hx : Passes CX X E) : OpR X (compareOp .NotEq) (rNeIns X.K f sp E) := by
  intro pins s σ H x y v u Q I rx ry h
  obtain ⟨a, C, dx, fs, rfl, ha, hs, hne, ho, hy, q⟩ := h
  cases rx
  obtain ⟨mA, O, _⟩ := ins_get I.hok ha
  obtain ⟨od, J, _⟩ := O.look
  obtain ⟨m, hF⟩ := I.fr
  show wpAny (model X.prog X.w) X.A (richCompare .NotEq (.ref a) u) (EP X pins σ Q) X.xe s
  have hr1 : Room k X.A.in1 := Room.in1 hr
  have go : ∀ tb, PySem.W.Looks (model X.prog X.w) s.heap (typeOf u) tb → PySem.W.notFirst X.K C tb = true → wpAny (model X.prog X.w) X.A (richCompare .NotEq (.ref a) u) (EP X pins σ Q) X.xe s := fun tb hl hn => by
    refine rich_ne (hu_of hr) hF I.ok.mod.kin J hl hn hne ho hs hf ?_
    refine wpAny_mono (run_fnA F hr1 I.env0.in1 hb hx I (.cons (show RelV (.ref a) (Value.ref a) from rfl) (.cons ry .nil)) q) (fun w s' z => ?_) fun _ _ x => x
    obtain ⟨z', H', I', rz, c, ez, qz⟩ := z
    subst ez
    cases (show w = Value.bool c from rz)
    exact ⟨c, rfl, .bl (!c), H', I', rfl, qz⟩
  rcases hy with ⟨z, rfl, hn⟩ | ⟨b, D, dy, gs, rfl, hb2, hn⟩
  · obtain ⟨t, rfl⟩ := ry
    exact go _ (PySem.W.Looks.of_pure rfl) hn
  · cases ry
    obtain ⟨mB, O2, _⟩ := ins_get I.hok hb2
    obtain ⟨od2, J2, _⟩ := O2.look
    exact go _ J2.type hn
end
end Pn

namespace Pn
open PySem L2 TL
abbrev sSameRow : Stmt := top 15
abbrev sNoteEq : Stmt := inClass (top 17) 2
abbrev sSkipEq : Stmt := inClass (top 18) 2
abbrev sSetEq : Stmt := inClass (top 19) 2
abbrev sKeepEq : Stmt := inClass (top 20) 2
abbrev sRefEq : Stmt := inClass (top 21) 2
abbrev sPutEq : Stmt := inClass (top 22) 2
abbrev sOpenEq : Stmt := inClass (top 23) 2
section
variable {P : Program} {w : World} {K : PySem.W.Frag} {mg : Str → Option Value} {base : Heap}
/-- an __eq__ of an own class -/
structure TEq (K : PySem.W.Frag) (C : Addr) (qual : Str) (st : Stmt) : Type where
  f : Addr
  fd : FuncData
  F : Fun K "__eq__" qual st f fd
  b : Binds K fd ["self", "other"] []
  hs : PySem.W.findIn K (.ref C) "__eq__" = some (some (.ref f))
  hf : PySem.W.isFn K (.ref f) = true
def clsOf (T : TRows K mg) : RowD → Addr
  | .note _ _ => T.note.C
  | .skip _ _ => T.skip.C
  | .set _ _ => T.set.C
  | .keep _ => T.keep.C
  | .back _ => T.back.C
  | .ref _ => T.ref.C
  | .put _ => T.put.C
  | .opn _ => T.open_.C
theorem insRow_ins (T : TRows K mg) (dx : Addr) (r : RowD) : ∃ fs, insRow T dx r = .ins (clsOf T r) dx fs := by cases r <;> exact ⟨_, rfl⟩
theorem cls_of (T : TRows K mg) (r : RowD) : Cls K (clsOf T r) := by
  cases r with
  | note _ _ => exact T.note.cl
  | skip _ _ => exact T.skip.cl
  | set _ _ => exact T.set.cl
  | keep _ => exact T.keep.cl
  | back _ => exact T.back.cl
  | ref _ => exact T.ref.cl
  | put _ => exact T.put.cl
  | opn _ => exact T.open_.cl
/-- a row beside a text or a row -/
def spSame (T : TRows K mg) : Sp := fun vs H Q _ => ∃ (a : Addr) (y : V) (r : RowD), vs = [.ref a, y] ∧ RowAt T H a r ∧ rowSmall r ∧ ((∃ z, y = .str z ∧ Q (.bl false) H) ∨ ∃ (b : Addr) (r' : RowD), y = .ref b ∧ RowAt T H b r' ∧ rowSmall r' ∧ Q (.bl (decide (rowText r = rowText r'))) H)
theorem scSameRow : FnScope ["row", "other"] ["row", "other"] (defScope sSameRow) := ⟨rfl, rfl, rfl, by decide +kernel, rfl, by decide +kernel, by decide +kernel⟩
theorem scNoteEq : FnScope ["self", "other"] ["self", "other"] (defScope sNoteEq) := ⟨rfl, rfl, rfl, by decide +kernel, rfl, by decide +kernel, by decide +kernel⟩
theorem scSkipEq : FnScope ["self", "other"] ["self", "other"] (defScope sSkipEq) := ⟨rfl, rfl, rfl, by decide +kernel, rfl, by decide +kernel, by decide +kernel⟩
theorem scSetEq : FnScope ["self", "other"] ["self", "other"] (defScope sSetEq) := ⟨rfl, rfl, rfl, by decide +kernel, rfl, by decide +kernel, by decide +kernel⟩
theorem scKeepEq : FnScope ["self", "other"] ["self", "other"] (defScope sKeepEq) := ⟨rfl, rfl, rfl, by decide +kernel, rfl, by decide +kernel, by decide +kernel⟩
theorem scRefEq : FnScope ["self", "other"] ["self", "other"] (defScope sRefEq) := ⟨rfl, rfl, rfl, by decide +kernel, rfl, by decide +kernel, by decide +kernel⟩
theorem scPutEq : FnScope ["self", "other"] ["self", "other"] (defScope sPutEq) := ⟨rfl, rfl, rfl, by decide +kernel, rfl, by decide +kernel, by decide +kernel⟩
theorem scOpenEq : FnScope ["self", "other"] ["self", "other"] (defScope sOpenEq) := ⟨rfl, rfl, rfl, by decide +kernel, rfl, by decide +kernel, by decide +kernel⟩
/-- == of a row with a text or a row -/
def rEqRow (T : TRows K mg) : R2 := fun x y H Q => ∃ (a : Addr) (r : RowD), x = .ref a ∧ RowAt T H a r ∧ rowSmall r ∧ ((∃ z, y = .str z ∧ Q (.bl false) H) ∨ ∃ (b : Addr) (r' : RowD), y = .ref b ∧ RowAt T H b r' ∧ rowSmall r' ∧ Q (.bl (decide (rowText r = rowText r'))) H)
/-- != of a row with a text or a row -/
def rNeRow (T : TRows K mg) : R2 := fun x y H Q => ∃ (a : Addr) (r : RowD), x = .ref a ∧ RowAt T H a r ∧ rowSmall r ∧ ((∃ z, y = .str z ∧ Q (.bl true) H) ∨ ∃ (b : Addr) (r' : RowD), y = .ref b ∧ RowAt T H b r' ∧ rowSmall r' ∧ Q (.bl (!decide (rowText r = rowText r'))) H)
end
end Pn

namespace Pn
open PySem PySem.Spec PyProof.Rows L2
/-! ### the law's def at the surrounding that the judge calls it from: there no repr is under way -/
section
variable {P : Program} {w : World} {K : PySem.W.Frag} {mg mb : Str → Option Value} {s₁ : Shared} {a : Addr} {vs : List Value} {ns : List Int}
/-- a tracking of the script alone -/
theorem law_track (KX : K.In s₁.heap) (ha : s₁.heap.get? a = some { cls := .type "list", data := .seq vs.toArray }) (hi : IntsAre vs ns) (hl : ns.length ≤ sizeLine) :
    ∃ H : Hp, Only H ∧ SqL K H a (ns.map V.int) ∧ HOk P w H s₁.heap ∧ ∀ b, H b ≠ none → b = a ∧ K.lookup a = none := by
  have rv := vals_ints hi
  cases hk : K.lookup a with
  | some o =>
    have e := (KX a o hk).symm.trans ha
    cases e
    exact ⟨fun _ => none, fun _ => .inl rfl, .inr ⟨_, vs.toArray, _, hk, rfl, rfl, rfl, by rw [List.size_toArray, hi.length]; exact hl, by simpa using rv⟩, fun b u z => (nomatch (show (none : Option HO) = some u from z)), fun b z => absurd rfl z⟩
  | none =>
    let o : HO := .frz { cls := .type "list", data := .seq vs.toArray } (.lst (ns.map V.int))
    have at_ : upd (fun _ => none) a o a = some o := upd_same
    refine ⟨upd (fun _ => none) a o, fun b => ?_, .inl (.inr ⟨_, at_⟩), fun b u z => ?_, fun b z => ⟨?_, rfl⟩⟩
    · by_cases h : b = a
      · exact .inr ⟨_, _, by rw [h]; exact at_⟩
      · exact .inl (by rw [upd_ne h])
    · by_cases h : b = a
      · rw [h, at_] at z
        cases z
        rw [h]
        exact ⟨ha, by rw [List.length_map]; exact hl, vs, _, rv, ha⟩
      · rw [upd_ne h] at z
        cases z
    · by_cases h : b = a
      · exact h
      · rw [upd_ne h] at z
        exact absurd rfl z
/-- what stands behind it is the module's -/
theorem law_env (KX : K.In s₁.heap) (hns : s₁.heap.Ns mainGlobals mg) (hb : s₁.heap.Ns builtinsNs mb) (hbb : ∀ x : Str, x ≠ "__name__" → mb x = bootBuiltins x) (hlim : s₁.heap.NoLimit) (hg : s₁.gens = #[])
    (ha : s₁.heap.get? a = some { cls := .type "list", data := .seq vs.toArray }) {H : Hp} (hok : HOk P w H s₁.heap) (hA : ∀ b, H b ≠ none → b = a ∧ K.lookup a = none) :
    K.In (hidT s₁.heap H) ∧ (hidT s₁.heap H).Ns mainGlobals mg ∧ Env0 P w K mg (hidT s₁.heap H) callerA [] s₁ H := by
  have free : ∀ {b : Addr}, (b = a → K.lookup a = none → False) → H b = none := fun {b} h => by
    cases q : H b with
    | none => rfl
    | some u =>
      obtain ⟨e1, e2⟩ := hA b (by rw [q]; simp)
      exact (h e1 e2).elim
  have ns_ : ∀ {b : Addr} {m : Str → Option Value}, s₁.heap.Ns b m → (hidT s₁.heap H).Ns b m := fun {b m} ⟨o, es, ep, e, d, r⟩ => ⟨o, es, ep, hidT_get e (free fun z _ => by
    rw [z, ha] at e
    cases e
    exact Data.noConfusion d), d, r⟩
  have kin : K.In (hidT s₁.heap H) := fun b o e => hidT_get (KX b o e) (free fun z n => by
    rw [z, n] at e
    cases e)
  obtain ⟨mc, l1, l2⟩ := hlim
  exact ⟨kin, ns_ hns, rfl, ⟨kin, ns_ hns, ⟨mb, ns_ hb, hbb⟩, ⟨mc, ns_ l1, l2⟩⟩, fun b o e => of_hidT e, Nat.le_of_eq (hidT_size _ _), trivial, fun b h => (by cases (show b ∈ ([] : List Addr) from h)), hok, .of_eq hg⟩
end
end Pn
namespace Pn
open PySem PySem.Spec PyProof.Rows L2
section
variable {P : Program} {w : World} {K : PySem.W.Frag} {mg : Str → Option Value} {base : Heap} {A : Around}
/-- a def's promise at one surrounding, with no frame below -/
def RunAt (P : Program) (w : World) (K : PySem.W.Frag) (mg : Str → Option Value) (base : Heap) (A : Around) (f : Addr) (fd : FuncData) (ps : List Str) (sp : Sp) : Prop :=
  ∀ (s : Shared) (H : Hp) (us : List Value) (vs : List V) (Q : VK) (E : XK), Env0 P w K mg base A [] s H → BindsTo s fd ⟨us, []⟩ (ps.zip us) → Vals vs us → sp vs H Q E → codeAny (model P w) A (.call (.ref f) ⟨us, []⟩) (CR CX0 [] P w H s Q E) s
theorem fun_at {x qual : Str} {st : Stmt} {f : Addr} {fd : FuncData} {N ps : List Str} {k : Nat} {sp : Sp} (F : Fun K x qual st f fd) (S : FnScope N ps (defScope st)) (hr : Room (k + 1) A) (len : ∀ vs H Q E, sp vs H Q E → vs.length = ps.length)
    (hbody : ∀ (cdv : Value) (s : Shared) (H : Hp) (vs : List V) (Q : VK) (E : XK), Room k (A.deeper (envOfC qual (defScope st) s.heap.objs.size f cdv)) → sp vs H Q E →
      ∃ t, PSs (cxOf CX0 P w K mg base N qual (defScope st) f cdv A [] s H E).nox (defBody st) t ∧ t { nx := fun _ H' => Q .non H', rt := Q } (L2.start N vs) H) : RunAt P w K mg base A f fd ps sp := by
  obtain ⟨oc, od, kV, doc, pm, an, cdv, ct, osl, rfl, lk, hcd⟩ := F.ex
  intro s H us vs Q E e0 hb r hsp
  have keep : ∀ b o, base.get? b = some o → s.heap.get? b = some o := fun b o e => (e0.bs b o e).1
  have kin := e0.mod.kin.keeps keep
  have par : ∀ y ∈ ps.zip us, (defScope st).names.lookup y.1 = some .local ∨ ((defScope st).names.lookup y.1 = some .cell ∧ ((cellsFrom (s.heap.objs.size + 1) (defScope st).names []).lookup y.1).isSome = true) := fun y hy =>
    (S.par y.1 (List.of_mem_zip (a := y.1) (b := y.2) hy).1).imp id fun q => ⟨q, PySem.W.cellsFrom_some _ _ _ (.inl q)⟩
  refine codeAny_call_function hr.depth (kin _ _ lk) rfl S.co S.gen rfl (PySem.W.codeRec_of kin hcd) (hb _ _ _ _ (wpAny_newFunctionEnv_cells S.kind par fun env he s1 x => ?_))
  subst he
  obtain ⟨t, ht, hq⟩ := hbody cdv s H vs Q E (hr.deeper _) hsp
  refine ⟨(e0.mod.nolimit.keeps keep).keeps x.toInCall.keep, codeAny_func (wpAny_mono (ht.nox.run [] s1 (L2.start N vs) H _ (inv_start S hr.hd e0 (len _ _ _ _ hsp) r x) hq) (fun fl s' hs => ?_) fun e s' hs => hs)⟩
  cases fl with
  | ret u =>
    obtain ⟨v, σ', H', J, rv, q⟩ := hs
    exact ⟨v, H', J.os, J.bare, J.base, J.hok, rv, q⟩
  | next =>
    obtain ⟨σ', H', J, q⟩ := hs
    exact ⟨V.non, H', J.os, J.bare, J.base, J.hok, rfl, q⟩
  | brk =>
    obtain ⟨_, _, _, q⟩ := hs
    exact False.elim q
  | cont =>
    obtain ⟨_, _, _, q⟩ := hs
    exact False.elim q
end
/-- the goal that k_head leaves, from the law's promise at callerA -/
theorem walk_g {l : PySem.W.OpenLaw} {n : Nat} {q : Program} {loose : List Str} {XP : (Str → Option Value) → Heap → Prop} {YP : World → Heap → Prop} {d : DefRec} {K : Params → PySem.W.Frag} {sp : PySem.W.Frag → Sp} {x : Str}
    (hn : l.most = some n) (hn2 : n ≤ sizeLine) (hdf : d.params.defaults = []) (hY : ∀ (w : World) (h : Heap), YP w h → (K w.params).In h)
    (F : ∀ (w : World) (mg : Str → Option Value) (fa : Addr) (h : Heap), (K w.params).In h → h.Ns mainGlobals mg → mg d.name = some (.ref fa) →
      ∃ fd : FuncData, (∀ (s : Shared) (u : Value), BindsTo s fd ⟨[u], []⟩ [(x, u)]) ∧
        ∀ base : Heap, (K w.params).In base → base.Ns mainGlobals mg → RunAt l.prog w (K w.params) mg base callerA fa fd [x] (sp (K w.params)))
    (hsp : ∀ (K : PySem.W.Frag) (H : Hp) (a : Addr) (ns : List Int), ns.length ≤ n → SqL K H a (ns.map V.int) → sp K [.ref a] H (fun v _ => v = .bl true) fun _ _ _ => False) :
    PySem.W.WalkO q loose XP YP l.row.toRowW d [] (fun f vs => PySem.call f vs) := by
  refine Att.attach_call hn hdf fun w s₀ s₁ mg mb fa o pm cd doc a vs ns G Y ho hd hcd hmg hobj hints hlen hg => ?_
  have KX := hY w _ Y
  obtain ⟨fd, hb, hF⟩ := F w mg fa _ KX G.T.g hmg
  obtain ⟨H, hO, hS, hok, hA⟩ := law_track (P := l.prog) (w := w) KX hobj hints (Nat.le_trans hlen hn2)
  obtain ⟨kin, hns, e0⟩ := law_env KX G.T.g G.T.b G.T.builtins G.T.nolimit hg hobj hok hA
  refine codeAny_mono (hF _ kin hns s₁ H [.ref a] [.ref a] (fun v _ => v = .bl true) (fun _ _ _ => False) e0 (hb s₁ (.ref a)) (.cons rfl .nil) (hsp _ H a ns hlen hS)) fun r s' h => ?_
  cases r with
  | error e => exact False.elim h
  | ok fl =>
    cases fl with
    | next => exact False.elim h
    | brk => exact False.elim h
    | cont => exact False.elim h
    | ret u =>
      obtain ⟨v, H', os, bare, un, hok', rv, hv⟩ := h
      cases (show v = V.bl true from hv)
      cases (show u = Value.bool true from rv)
      refine ⟨rfl, OldK.of_keep fun b o e => ?_, os, bare⟩
      rcases hO b with z | ⟨ob, xs, z⟩
      · exact un.keep b o e z (by intro z; cases (show b ∈ ([] : List Addr) from z)) (by simp)
      · obtain ⟨e1, _⟩ := hok b _ z
        obtain ⟨e2, _⟩ := hok' b _ (un.frzs b ob _ z)
        cases e.symm.trans e1
        exact e2
end Pn

namespace Pn
open PySem PySem.Spec PyProof.Rows L2
/-! ### repr of a tuple of texts and integers, where no repr is under way -/
/-- plain items as data -/
inductive Fl : List V → List PyData → Prop where
  | nil : Fl [] []
  | str {vs ds} (z : Str) (r : Fl vs ds) : Fl (.str z :: vs) (.str z :: ds)
  | int {vs ds} (i : Int) (r : Fl vs ds) : Fl (.int i :: vs) (.int i :: ds)
theorem Fl.reads {h : Heap} : ∀ {vs : List V} {ds : List PyData} {us : List Value}, Fl vs ds → Vals vs us → ReadsAll h us ds []
  | _, _, _, .nil, r => by
    cases r
    exact .nil
  | _, _, _, .str z f, r => by
    cases r with
    | cons r1 r2 =>
      obtain ⟨t, rfl⟩ := r1
      exact .cons (.str z t) (f.reads r2)
  | _, _, _, .int i f, r => by
    cases r with
    | cons r1 r2 =>
      obtain ⟨t, rfl⟩ := r1
      exact .cons (.int i t) (f.reads r2)
section
variable {X : Cx}
def rReprT (K : PySem.W.Frag) : List V → Hp → VK → Prop := fun xs H Q => ∃ (a : Addr) (vs : List V) (ds : List PyData), xs = [.ref a] ∧ SqT K H a vs ∧ Fl vs ds ∧ PyData.showable (.tuple ds) = true ∧ PyData.hasDict (.tuple ds) = false ∧ PyData.depth (.tuple ds) ≤ 10 ∧ (PyData.shown (.tuple ds)).length ≤ sizeLine ∧ Q (.str (PyData.shown (.tuple ds))) H
theorem call_reprT (hg : X.A.guards = some []) {k : Nat} (hr : Room k X.A) : CallR X (.builtin "repr") (rReprT X.K) := by
  intro pins s σ H xs us Q I r h
  obtain ⟨a, vs, ds, rfl, ht, hf, h1, h2, h3, h4, q⟩ := h
  obtain ⟨u, rfl, ru⟩ := r.one
  cases (show u = Value.ref a from ru)
  obtain ⟨its, rv, ⟨o, ho, hcl, n, hd⟩, _⟩ := I.tuple ht
  have hu := hr.units
  refine repr_of_reads' (h₀ := s.heap) (d := .tuple ds) (as := []) (.tuple ho hcl hd (hf.reads rv)) h1 (fun e => by rw [h2] at e; cases e) hg (by omega) (fun _ _ e => e) (fun h' u tk hk => ?_) h4
  exact ⟨.str _, H, I.kept hk, ⟨u, rfl⟩, q⟩
end
end Pn

namespace Pn
open PySem L2 TL
/-! ### texts put together of words: their size -/
def sz1 (l : List Str) : Nat := (l.map fun x => x.length + 1).sum
theorem sz1_cons (x : Str) (l : List Str) : sz1 (x :: l) = x.length + 1 + sz1 l := by
  unfold sz1
  rw [List.map_cons, List.sum_cons]
theorem sz1_app : ∀ l m : List Str, sz1 (l ++ m) = sz1 l + sz1 m
  | [], m => by
    rw [List.nil_append, show sz1 [] = 0 from rfl]
    omega
  | x :: l, m => by
    rw [List.cons_append, sz1_cons, sz1_cons, sz1_app l m]
    omega
theorem sz1_sub {l m : List Str} (h : l.Sublist m) : sz1 l ≤ sz1 m := by
  induction h with
  | slnil => exact Nat.le_refl _
  | cons a _ ih => rw [sz1_cons]; omega
  | cons_cons a _ ih => rw [sz1_cons, sz1_cons]; omega
/-- words of at most n signs with as many blanks, all of good signs -/
def Sm (n : Nat) (l : List Str) : Prop := sz1 l ≤ n ∧ ∀ x ∈ l, PyData.strOk x = true
theorem Sm.sub {n : Nat} {l m : List Str} (h : Sm n m) (s : l.Sublist m) : Sm n l := ⟨Nat.le_trans (sz1_sub s) h.1, fun x hx => h.2 x (s.subset hx)⟩
theorem Sm.app {n k : Nat} {l m : List Str} (h : Sm n l) (g : Sm k m) : Sm (n + k) (l ++ m) := ⟨by rw [sz1_app]; exact Nat.add_le_add h.1 g.1, fun x hx => (List.mem_append.mp hx).elim (h.2 x) (g.2 x)⟩
theorem joinL_len : ∀ l : List Str, (joinL (tl " ") (l.map tl)).length ≤ sz1 l ∧ sz1 l ≤ (joinL (tl " ") (l.map tl)).length + 1
  | [] => ⟨Nat.le_refl _, Nat.zero_le _⟩
  | [a] => by
    show (tl a).length ≤ sz1 [a] ∧ sz1 [a] ≤ (tl a).length + 1
    rw [sz1_cons, ← len_tl, show sz1 [] = 0 from rfl]
    omega
  | a :: b :: r => by
    have q := joinL_len (b :: r)
    rw [sz1_cons]
    show (tl a ++ (tl " " ++ joinL (tl " ") ((b :: r).map tl))).length ≤ _ ∧ _ ≤ (tl a ++ (tl " " ++ joinL (tl " ") ((b :: r).map tl))).length + 1
    rw [List.length_append, List.length_append, ← len_tl, show (tl " ").length = 1 from by decide +kernel]
    omega
theorem joinL_mem : ∀ (l : List Str) (c : Nat), c ∈ joinL (tl " ") (l.map tl) → c ∈ tl " " ∨ ∃ x ∈ l, c ∈ tl x
  | [], c, h => by cases h
  | [a], c, h => .inr ⟨a, by simp, h⟩
  | a :: b :: r, c, h => by
    rcases List.mem_append.mp h with h | h
    · exact .inr ⟨a, by simp, h⟩
    · rcases List.mem_append.mp h with h | h
      · exact .inl h
      · rcases joinL_mem (b :: r) c h with h | ⟨x, hx, hc⟩
        · exact .inl h
        · exact .inr ⟨x, List.mem_cons_of_mem _ hx, hc⟩
theorem Sm.join {n : Nat} {l : List Str} (h : Sm n l) : (Txt.join " " l).length ≤ n ∧ PyData.strOk (Txt.join " " l) = true := by
  have e : tl (Txt.join " " l) = joinL (tl " ") (l.map tl) := by rw [join_eq]; exact tl_join " " l
  refine ⟨?_, strOk_tl.mpr fun c hc => ?_⟩
  · rw [len_tl, e]
    exact Nat.le_trans (joinL_len l).1 h.1
  · rw [e] at hc
    rcases joinL_mem l c hc with hc | ⟨x, hx, hc⟩
    · exact strOk_tl.mp (show PyData.strOk " " = true by decide +kernel) c hc
    · exact strOk_tl.mp (h.2 x hx) c hc
theorem sz1_lens : ∀ l : List Str, (l.map (·.length)).sum + l.length * (" " : Str).length = sz1 l
  | [] => rfl
  | x :: l => by
    have q := sz1_lens l
    rw [show (" " : Str).length = 1 from by decide +kernel] at q ⊢
    rw [sz1_cons, List.map_cons, List.sum_cons, List.length_cons]
    omega
theorem Sm.fits {n : Nat} {l : List Str} (h : Sm n l) (hn : n ≤ 16777216) : (l.map (·.length)).sum + l.length * (" " : Str).length ≤ 16777216 := by
  rw [sz1_lens]
  exact Nat.le_trans h.1 hn
theorem sm_split {z : Str} {n : Nat} (hl : z.length ≤ n) (hok : PyData.strOk z = true) : Sm (n + 1) (Txt.split z " ") := by
  have e := PySem.StrLaws.join_split z " "
  have e2 : tl (Txt.join " " (Txt.split z " ")) = joinL (tl " ") ((Txt.split z " ").map tl) := by rw [join_eq]; exact tl_join " " _
  have e3 : (joinL (tl " ") ((Txt.split z " ").map tl)).length = z.length := by
    rw [← e2, ← len_tl, join_eq]
    exact congrArg Str.length e
  refine ⟨?_, fun x hx => strOk_tl.mpr fun c hc => strOk_tl.mp hok c ((split_len (z := z) rfl x hx).2 c hc)⟩
  have := (joinL_len (Txt.split z " ")).2
  omega
theorem sm_row {r : RowD} (h : rowValid r) : (rowText r).length ≤ 63 ∧ PyData.strOk (rowText r) = true := by
  obtain ⟨h1, _, h2⟩ := words_small h
  have h3 : Sm 63 (rowWords r) := by
    refine ⟨?_, fun x hx => (h2 x hx).2⟩
    have key : ∀ l : List Str, (∀ x ∈ l, x.length ≤ 20) → sz1 l ≤ 21 * l.length := by
      intro l
      induction l with
      | nil => intro _; exact Nat.le_refl _
      | cons x l ih =>
        intro hx
        have q1 := hx x List.mem_cons_self
        have q2 := ih fun y hy => hx y (List.mem_cons_of_mem _ hy)
        rw [sz1_cons, List.length_cons]
        omega
    have := key (rowWords r) fun x hx => (h2 x hx).1
    omega
  exact h3.join
theorem cut_sub (ws : List Str) (lo hi : Option Int) : ∃ us : List Str, cutV (ws.map V.str) lo hi = us.map V.str ∧ us.Sublist ws := by
  refine ⟨(ws.drop (HT.sIx (ws.map V.str).length 0 lo)).take (HT.sIx (ws.map V.str).length (ws.map V.str).length hi - HT.sIx (ws.map V.str).length 0 lo), ?_, (List.take_sublist _ _).trans (List.drop_sublist _ _)⟩
  unfold cutV
  rw [List.map_take, List.map_drop]
/-- repr of a text or an integer -/
def rReprF : List V → Hp → VK → Prop := fun xs H Q => (∃ z : Str, xs = [.str z] ∧ z.length ≤ 1000 ∧ PyData.strOk z = true ∧ Q (.str (PySem.reprText z)) H) ∨ ∃ i : Int, xs = [.int i] ∧ i.natAbs.log2 < 1920 ∧ Q (.str (Str.ofString (toString i))) H
theorem repr_fits {z : Str} (hl : z.length ≤ 1000) (hok : PyData.strOk z = true) : (PySem.reprText z).length ≤ sizeLine := by
  have q := StrLaws.reprText_len z fun c hc => by
    have q := strOk_tl.mp hok c hc
    have e : (16 : Nat) ^ 8 = 4294967296 := by decide
    omega
  have e : (1000000 : Nat) ≤ sizeLine := by decide
  omega
theorem call_reprF {X : Cx} : CallR X (.builtin "repr") rReprF := fun pins s σ H xs us Q I r h => by
  rcases h with ⟨z, rfl, hl, hok, q⟩ | h
  · obtain ⟨u, rfl, ru⟩ := r.one
    obtain ⟨t, rfl⟩ := ru
    exact PySem.P.repr_of_str ⟨.str _, H, I.tok _, ⟨_, rfl⟩, q⟩ (repr_fits hl hok)
  · exact SkE.call_repr_int pins s σ H xs us Q I r h
end Pn

namespace Pn
open PySem L2 TL
/-! ### what the law asks of a made row -/
/-- plain data that is small -/
def smallD : PyData → Prop
  | .str z => z.length ≤ 20 ∧ PyData.strOk z = true
  | .int i => ∃ n : Nat, i = (n : Int) ∧ n < 10 ^ 20
  | _ => False
theorem small_shown {d : PyData} (h : smallD d) : (PyData.shown d).length ≤ 300 := by
  cases d with
  | str z =>
    rw [PyData.shown_str]
    have q := StrLaws.reprText_len z fun c hc => by
      have q := strOk_tl.mp h.2 c hc
      have e : (16 : Nat) ^ 8 = 4294967296 := by decide
      omega
    have := h.1
    omega
  | int i =>
    obtain ⟨n, rfl, hn⟩ := h
    rw [PyData.shown_int]
    exact Nat.le_trans (numStr_len hn) (by decide)
  | _ => exact False.elim h
theorem small_showable {d : PyData} (h : smallD d) : PyData.showable d = true ∧ PyData.hasDict d = false ∧ PyData.depth d = 0 := by
  cases d with
  | str z => exact ⟨by simp only [PyData.showable], by simp only [PyData.hasDict], by simp only [PyData.depth]⟩
  | int i =>
    obtain ⟨n, rfl, hn⟩ := h
    refine ⟨?_, by simp only [PyData.hasDict], by simp only [PyData.depth]⟩
    simp only [PyData.showable]
    refine decide_eq_true ?_
    rw [Int.natAbs_natCast]
    by_cases h0 : n = 0
    · subst h0; decide
    · exact (Nat.log2_lt h0).mpr (Nat.lt_of_lt_of_le hn (by decide))
  | _ => exact False.elim h
theorem small_all : ∀ {ds : List PyData}, (∀ d ∈ ds, smallD d) → PyData.showableAll ds = true ∧ PyData.hasDictAll ds = false ∧ PyData.depthAll ds = 0 ∧ ((PyData.shownAll ds).map (·.length)).sum ≤ 300 * ds.length
  | [], _ => ⟨by simp only [PyData.showableAll], by simp only [PyData.hasDictAll], by simp only [PyData.depthAll], by simp only [PyData.shownAll]; exact Nat.zero_le _⟩
  | d :: ds, h => by
    obtain ⟨a1, a2, a3⟩ := small_showable (h d List.mem_cons_self)
    obtain ⟨b1, b2, b3, b4⟩ := small_all fun x hx => h x (List.mem_cons_of_mem _ hx)
    have a4 := small_shown (h d List.mem_cons_self)
    refine ⟨by simp only [PyData.showableAll, a1, b1, Bool.and_self], by simp only [PyData.hasDictAll, a2, b2, Bool.or_self], by simp only [PyData.depthAll, a3, b3, Nat.max_self], ?_⟩
    simp only [PyData.shownAll, List.map_cons, List.sum_cons, List.length_cons]
    omega
theorem small_tuple {ds : List PyData} (h : ∀ d ∈ ds, smallD d) (hl : ds.length ≤ 1000) : PyData.showable (.tuple ds) = true ∧ PyData.hasDict (.tuple ds) = false ∧ PyData.depth (.tuple ds) ≤ 10 ∧ (PyData.shown (.tuple ds)).length ≤ sizeLine := by
  obtain ⟨b1, b2, b3, b4⟩ := small_all h
  refine ⟨by simp only [PyData.showable, b1], by simp only [PyData.hasDict, b2], by simp only [PyData.depth, b3]; decide, ?_⟩
  simp only [PyData.shown]
  have q := tupleText_len_le (PyData.shownAll ds)
  rw [PyData.shownAll_length] at q
  have e : (400000 : Nat) ≤ sizeLine := by decide
  omega
def rowWord : RowD → Str
  | .note _ _ => "note"
  | .skip _ _ => "skip"
  | .set _ _ => "set"
  | .keep _ => "keep"
  | .back _ => "back"
  | .ref _ => "ref"
  | .put _ => "put"
  | .opn _ => "open"
theorem tup_word (r : RowD) : (rowTup r)[0]? = some (.str (rowWord r)) := by cases r <;> rfl
/-- what a row tells but for its word, as data -/
theorem tail_data {r : RowD} (h : rowValid r) : ∃ ds, Fl (rowTup r).tail ds ∧ PyData.showable (.tuple ds) = true ∧ PyData.hasDict (.tuple ds) = false ∧ PyData.depth (.tuple ds) ≤ 10 ∧ (PyData.shown (.tuple ds)).length ≤ sizeLine := by
  have nm : ∀ {z : Str}, nameS z = true → smallD (.str z) := fun h => ⟨Nat.le_trans (name_ok h).2 (by decide), (name_ok h).1⟩
  have one : ∀ {c : Str}, nameS c = true → ∃ ds, Fl [.str c] ds ∧ PyData.showable (.tuple ds) = true ∧ PyData.hasDict (.tuple ds) = false ∧ PyData.depth (.tuple ds) ≤ 10 ∧ (PyData.shown (.tuple ds)).length ≤ sizeLine := fun {c} hc =>
    ⟨[.str c], .str c .nil, small_tuple (fun d hd => by rw [List.mem_singleton.mp hd]; exact nm hc) (by show 1 ≤ 1000; decide)⟩
  have two : ∀ {c : Str} {n : Nat}, nameS c = true → n < 10 ^ 10 → ∃ ds, Fl [.str c, .int (n : Int)] ds ∧ PyData.showable (.tuple ds) = true ∧ PyData.hasDict (.tuple ds) = false ∧ PyData.depth (.tuple ds) ≤ 10 ∧ (PyData.shown (.tuple ds)).length ≤ sizeLine := fun {c n} hc hn =>
    ⟨[.str c, .int (n : Int)], .str c (.int _ .nil), small_tuple (fun d hd => by
      rcases List.mem_cons.mp hd with rfl | hd
      · exact nm hc
      · rw [List.mem_singleton.mp hd]; exact ⟨n, rfl, Nat.lt_trans hn (by decide)⟩) (by show 2 ≤ 1000; decide)⟩
  cases r with
  | note c l => exact ⟨[.str c, .str l], .str c (.str l .nil), small_tuple (fun d hd => by
      rcases List.mem_cons.mp hd with rfl | hd
      · exact nm h.1
      · rw [List.mem_singleton.mp hd]
        rcases h.2 with rfl | h2
        · exact ⟨by decide +kernel, by decide +kernel⟩
        · exact nm h2) (by show 2 ≤ 1000; decide)⟩
  | skip c n => exact two h.1 h.2.2
  | set c n => exact two h.1 h.2
  | keep c => exact one h
  | back c => exact one h
  | ref c => exact one h
  | put c => exact one h
  | opn c => exact one h
theorem tail_cut (r : RowD) : cutV (rowTup r) (some 1) none = (rowTup r).tail ∧ ¬ (HT.sIx (rowTup r).length 0 (some 1) = 0 ∧ HT.sIx (rowTup r).length (rowTup r).length none = (rowTup r).length) := by
  cases r <;> exact ⟨rfl, fun z => absurd (show (1 : Nat) = 0 from z.1) (by decide)⟩
theorem valid_small {r : RowD} (h : rowValid r) : rowSmall r := by
  have b : ∀ {n : Nat}, n < 10 ^ 10 → n < 10 ^ 20 := fun h => Nat.lt_trans h (by decide)
  cases r with
  | note c l => exact ⟨name_small h.1, by rcases h.2 with rfl | z; exact (by decide +kernel : ("" : Str).length ≤ 100); exact name_small z⟩
  | skip c n => exact ⟨name_small h.1, b h.2.2⟩
  | set c n => exact ⟨name_small h.1, b h.2⟩
  | keep c => exact name_small h
  | back c => exact name_small h
  | ref c => exact name_small h
  | put c => exact name_small h
  | opn c => exact name_small h
section
variable {P : Program} {w : World} {K : PySem.W.Frag} {mg : Str → Option Value} {base : Heap}
/-- the word of an instance of a row -/
theorem row_word (T : TRows K mg) {H : Hp} {a : Addr} {r : RowD} (h : RowAt T H a r) : ∃ dx fs, H a = some (.ins (clsOf T r) dx fs) ∧ Cls K (clsOf T r) ∧ NoAttr K (clsOf T r) "word" ∧ fs.lookup ("word" : Str) = some (V.str (rowWord r)) := by
  obtain ⟨dx, ha⟩ := h
  cases r with
  | note c l => exact ⟨dx, _, ha, T.note.cl, T.note.noW, by rw [lookup_putF, if_neg (by decide +kernel), lookup_putF, if_neg (by decide +kernel), lookup_putF, if_pos rfl]; rfl⟩
  | skip c n => exact ⟨dx, _, ha, T.skip.cl, T.skip.noW, by rw [lookup_putF, if_neg (by decide +kernel), lookup_putF, if_neg (by decide +kernel), lookup_putF, if_pos rfl]; rfl⟩
  | set c n => exact ⟨dx, _, ha, T.set.cl, T.set.noW, by rw [lookup_putF, if_neg (by decide +kernel), lookup_putF, if_neg (by decide +kernel), lookup_putF, if_pos rfl]; rfl⟩
  | keep c => exact ⟨dx, _, ha, T.keep.cl, T.keep.noW, by rw [lookup_putF, if_neg (by decide +kernel), lookup_putF, if_pos rfl]; rfl⟩
  | back c => exact ⟨dx, _, ha, T.back.cl, T.back.noW, by rw [lookup_putF, if_neg (by decide +kernel), lookup_putF, if_pos rfl]; rfl⟩
  | ref c => exact ⟨dx, _, ha, T.ref.cl, T.ref.noW, by rw [lookup_putF, if_neg (by decide +kernel), lookup_putF, if_pos rfl]; rfl⟩
  | put c => exact ⟨dx, _, ha, T.put.cl, T.put.noW, by rw [lookup_putF, if_neg (by decide +kernel), lookup_putF, if_pos rfl]; rfl⟩
  | opn c => exact ⟨dx, _, ha, T.open_.cl, T.open_.noW, by rw [lookup_putF, if_neg (by decide +kernel), lookup_putF, if_pos rfl]; rfl⟩
theorem RowAt.same {T : TRows K mg} {H H' : Hp} {a : Addr} {r : RowD} (h : RowAt T H a r) (s : Same H H') : RowAt T H' a r := h.elim fun dx e => ⟨dx, s _ _ e⟩
end
end Pn

namespace Pn
open PySem L2 TL
abbrev sIsSeq : Stmt := top 7
/-! ### a sequence, and which of its things are rows -/
def seqD : PyData → Bool
  | .list _ => true
  | .tuple _ => true
  | _ => false
theorem kit_two {K : PySem.W.Frag} {t : String} {a b : Bool} (h1 : kitB t "list" = some a) (h2 : kitB t "tuple" = some b) : PySem.W.kitAny K (.type t) [.type "list", .type "tuple"] = some (a || b) := by
  cases a
  · refine kitAny_cons (kit_ty h1) (fun _ => kitAny_cons (kit_ty h2) (fun z => ?_) (fun z => ?_)) (fun z => nomatch z)
    · rw [z]; exact kitAny_nil
    · rw [z]; rfl
  · exact kitAny_cons (kit_ty h1) (fun z => nomatch z) (fun _ => rfl)
theorem kit_seq {K : PySem.W.Frag} : ∀ d : PyData, PySem.W.kitAny K (.type (tyD d)) [.type "list", .type "tuple"] = some (seqD d)
  | .none => kit_two (by decide +kernel : kitB "NoneType" "list" = some false) (by decide +kernel : kitB "NoneType" "tuple" = some false)
  | .bool _ => kit_two (by decide +kernel : kitB "bool" "list" = some false) (by decide +kernel : kitB "bool" "tuple" = some false)
  | .int _ => kit_two (by decide +kernel : kitB "int" "list" = some false) (by decide +kernel : kitB "int" "tuple" = some false)
  | .str _ => kit_two (by decide +kernel : kitB "str" "list" = some false) (by decide +kernel : kitB "str" "tuple" = some false)
  | .list _ => kit_two (by decide +kernel : kitB "list" "list" = some true) (by decide +kernel : kitB "list" "tuple" = some false)
  | .tuple _ => kit_two (by decide +kernel : kitB "tuple" "list" = some false) (by decide +kernel : kitB "tuple" "tuple" = some true)
  | .dict _ => kit_two (by decide +kernel : kitB "dict" "list" = some false) (by decide +kernel : kitB "dict" "tuple" = some false)
theorem sql_ty {K : PySem.W.Frag} {H : Hp} {p : Addr} {xs : List V} (h : SqL K H p xs) : TyX K H (.ref p) (.type "list") := by
  rcases h with (s | ⟨o, s⟩) | ⟨o, _, _, e, c, _⟩
  · exact .base (.lst s)
  · exact .base (.frz s)
  · exact .kList e c
theorem sqt_ty {K : PySem.W.Frag} {H : Hp} {p : Addr} {xs : List V} (h : SqT K H p xs) : TyX K H (.ref p) (.type "tuple") := by
  rcases h with (s | ⟨o, s⟩) | ⟨o, _, _, e, c, _⟩
  · exact .base (.tup s)
  · exact .fTuple s
  · exact .kTuple e c
theorem sql_ins {K : PySem.W.Frag} {H : Hp} {x C dx p : Addr} {fs : List (Str × V)} {o : HO} {xs : List V} (hx : H x = some (.ins C dx fs)) (h : SqL K H p xs) : SqL K (upd H x o) p xs := by
  rcases h with (s | ⟨u, s⟩) | s
  · exact .inl (.inl (by rw [upd_ne (fun z => by rw [z, hx] at s; cases s)]; exact s))
  · exact .inl (.inr ⟨u, by rw [upd_ne (fun z => by rw [z, hx] at s; cases s)]; exact s⟩)
  · exact .inr s
theorem sqt_ins {K : PySem.W.Frag} {H : Hp} {x C dx p : Addr} {fs : List (Str × V)} {o : HO} {xs : List V} (hx : H x = some (.ins C dx fs)) (h : SqT K H p xs) : SqT K (upd H x o) p xs := by
  rcases h with (s | ⟨u, s⟩) | s
  · exact .inl (.inl (by rw [upd_ne (fun z => by rw [z, hx] at s; cases s)]; exact s))
  · exact .inl (.inr ⟨u, by rw [upd_ne (fun z => by rw [z, hx] at s; cases s)]; exact s⟩)
  · exact .inr s
section
variable {X : Cx} {tg : Expr}
/-- for x in a list or a tuple: whichever it is known to be -/
def iSeq (K : PySem.W.Frag) (tl : TE) : TI := fun σ H R => iList K tl σ H R ∨ iTup K tl σ H R
theorem pi_seq {l : Expr} {tl : TE} (hl : PE X l tl) : PI X tg l (iSeq X.K tl) :=
  ⟨fun pins s σ H R I h => h.elim (fun a => (pi_list hl).run pins s σ H R I a) fun a => (pi_tup hl).run pins s σ H R I a⟩
end
section
variable {P : Program} {w : World} {K : PySem.W.Frag} {mg : Str → Option Value} {base : Heap}
/-- a method of an own class -/
structure TMeth (K : PySem.W.Frag) (C : Addr) (nm qual : Str) (st : Stmt) (ps : List Str) : Type where
  f : Addr
  fd : FuncData
  F : Fun K nm qual st f fd
  b : Binds K fd ps []
  hs : PySem.W.findIn K (.ref C) nm = some (some (.ref f))
  hf : PySem.W.isFn K (.ref f) = true
/-- a row, or data -/
def RowFlag (R : TRows K mg) (H : Hp) (x : V) (b : Bool) : Prop := (b = true ∧ ∃ a r, x = .ref a ∧ RowAt R H a r) ∨ (b = false ∧ ∃ d, Dp K H x d)
theorem RowFlag.same {R : TRows K mg} {H H' : Hp} {x : V} {b : Bool} (h : RowFlag R H x b) (s : Same H H') : RowFlag R H' x b := by
  rcases h with ⟨e, a, r, ex, h⟩ | ⟨e, d, h⟩
  · exact .inl ⟨e, a, r, ex, h.same s⟩
  · exact .inr ⟨e, d, dp_same s d x h⟩
def spIsSeq (K : PySem.W.Frag) : Sp := fun vs H Q _ => ∃ (v : V) (t : Value) (b : Bool), vs = [v] ∧ TyX K H v t ∧ PySem.W.kitAny K t [.type "list", .type "tuple"] = some b ∧ (∀ H', Same H H' → TyX K H' v t) ∧ ∀ H', Same H H' → Mo H H' → Q (.bl b) H'
theorem scIsSeq : FnScope ["value"] ["value"] (defScope sIsSeq) := ⟨rfl, rfl, rfl, by decide +kernel, rfl, by decide +kernel, by decide +kernel⟩
theorem ok_isSeq {f : Addr} {fd : FuncData} (F : Fun K "is_sequence" "is_sequence" sIsSeq f fd) (mIsi : mg "isinstance" = none) (mL : mg "list" = none) (mT : mg "tuple" = none) : FnOk P w K mg base CX0 1 f fd ["value"] (spIsSeq K) := by
  refine F.ok scIsSeq (fun vs H Q E h => ?_) (fun cdv A outer s H vs Q E hr h => ?_)
  · obtain ⟨v, t, b, rfl, _⟩ := h
    rfl
  · obtain ⟨v, t, b, rfl, ht, hk, hS, q⟩ := h
    refine ⟨_, pss_one (ps_ret (pe_callB call_isiT (by rfl) mIsi (by decide +kernel) (pa_cons (pv 0) (pa_cons (pe_tup (pa_cons (pe_bltn (v := .ty "list") (by rfl) mL (by decide +kernel) rfl) (pa_cons (pe_bltn (v := .ty "tuple") (by rfl) mT (by decide +kernel) rfl) pa_nil))) pa_nil)))), ?_⟩
    refine ⟨_, rfl, (by show 2 ≤ sizeLine; decide), fun p hp => ?_⟩
    exact ⟨v, p, _, t, _, b, rfl, upd_same, .cons (.ty _) (.cons (.ty _) .nil), hS _ (Same.new hp), hk, q _ (Same.new hp) Mo.upd⟩
def insPart (C dx : Addr) (v u : V) : HO := .ins C dx (putF "rows" u (putF "name" v []))
theorem part_name {v u : V} : (putF "rows" u (putF "name" v ([] : List (Str × V)))).lookup ("name" : Str) = some v := by
  rw [lookup_putF, if_neg (by decide +kernel), lookup_putF, if_pos rfl]
theorem part_rows {v u : V} : (putF "rows" u (putF "name" v ([] : List (Str × V)))).lookup ("rows" : Str) = some u := by
  rw [lookup_putF, if_pos rfl]
/-- what is passed as rows: no sequence, or one of so many things -/
def RowsArg (R : TRows K mg) (H : Hp) (u : V) : Option (List V × List Bool) → Prop
  | none => ∃ d, Dp K H u d ∧ seqD d = false
  | some (xs, bs) => ∃ p, u = .ref p ∧ (SqL K H p xs ∨ SqT K H p xs) ∧ Paired (RowFlag R H) xs bs ∧ xs.length ≤ 1000
theorem RowsArg.same {R : TRows K mg} {H H' : Hp} {u : V} {o : Option (List V × List Bool)} (h : RowsArg R H u o) (s : Same H H') : RowsArg R H' u o := by
  cases o with
  | none =>
    obtain ⟨d, h, e⟩ := h
    exact ⟨d, dp_same s d u h, e⟩
  | some o =>
    obtain ⟨p, e, h, hp, hl⟩ := h
    exact ⟨p, e, h.elim (fun h => .inl (s.seq h)) (fun h => .inr (Same.sqt s h)), paired_mono (fun _ _ z => z.same s) hp, hl⟩
def argOk : Option (List V × List Bool) → Bool
  | none => false
  | some (_, bs) => bs.all id
def spPartInit (R : TRows K mg) (C CP : Addr) : Sp := fun vs H Q E => ∃ (x dx : Addr) (v u : V) (d : PyData) (o : Option (List V × List Bool)), vs = [.ref x, v, u] ∧ H x = some (.ins C dx []) ∧ Dp K H v d ∧ dlen d ∧ RowsArg R H u o ∧
  (nameD d = false → RaiseW CP H E (.str "name")) ∧ (nameD d = true → argOk o = false → RaiseW CP H E (.str "rows")) ∧
  (nameD d = true → argOk o = true → ∀ xs bs, o = some (xs, bs) → ∀ tp H', KpI x H H' → Mo H H' → SqT K H' tp xs → H' x = some (insPart C dx v (.ref tp)) → Q .non H')
end
end Pn

namespace Pn
open PySem L2
/-! ### comprehensions that keep what stands: what each turn puts out -/
section
variable {K : PySem.W.Frag} {tl : TE} {g : TG} {tt : TT} {te : TE} {vs : List Nat} {σ : L2.St} {H : Hp} {Q : VK} {p : Addr} {xs : List V}
/-- one turn of a comprehension that puts out what out says -/
def LcTurn (xs : List V) (H : Hp) (g : TG) (tt : TT) (te : TE) (vs : List Nat) (σ : L2.St) (out : Nat → Option V) : Prop :=
  ∀ (i : Nat) (x : V) (Hi : Hp) (S : Hp → Prop) (Y : VK), xs[i]? = some x → Same H Hi → (out i = none → ∀ H', Same Hi H' → S H') → (∀ v, out i = some v → ∀ H', Same Hi H' → Y v H') →
    g x (wipe σ vs) Hi fun σ2 H2 => wipe σ2 vs = wipe σ vs ∧ tt σ2 H2 fun b H3 => if b = true then te σ2 H3 Y else S H3
theorem range_out (out : Nat → Option V) (i : Nat) : (List.range (i + 1)).filterMap out = (List.range i).filterMap out ++ (match out i with | none => [] | some v => [v]) := by
  rw [List.range_succ, List.filterMap_append]
  cases h : out i with
  | none => simp [h]
  | some v => simp [h]
theorem lc_keep (hl : xs.length ≤ 10000) {out : Nat → Option V} (turn : LcTurn xs H g tt te vs σ out) {D : Addr} (hD : H D = none) (i : Nat) (x : V) (Hi : Hp) (hx : xs[i]? = some x) (hP : Same H Hi ∧ Hi D = some (.lst ((List.range i).filterMap out))) :
    g x (wipe σ vs) Hi fun σ2 H2 => wipe σ2 vs = wipe σ vs ∧ tt σ2 H2 fun b H3 =>
      if b = true then te σ2 H3 fun y H4 => ∃ acc, H4 D = some (.lst acc) ∧ acc.length < sizeLine ∧ (Same H (upd H4 D (.lst (acc ++ [y]))) ∧ upd H4 D (.lst (acc ++ [y])) D = some (.lst ((List.range (i + 1)).filterMap out)))
      else (Same H H3 ∧ H3 D = some (.lst ((List.range (i + 1)).filterMap out))) := by
  obtain ⟨s, hd⟩ := hP
  have hi : i < xs.length := (List.getElem?_eq_some_iff.mp hx).1
  refine turn i x Hi (fun H3 => Same H H3 ∧ H3 D = some (.lst ((List.range (i + 1)).filterMap out))) _ hx s (fun h0 H' s' => ⟨s.trans s', ?_⟩) (fun v hv H' s' => ⟨_, s' _ _ hd, ?_, ?_, ?_⟩)
  · rw [range_out, h0, List.append_nil]
    exact s' _ _ hd
  · have h1 : ((List.range i).filterMap out).length ≤ (List.range i).length := List.length_filterMap_le _ _
    rw [List.length_range] at h1
    have h2 : (10001 : Nat) ≤ sizeLine := by decide
    omega
  · exact fun a o e => by
      rw [upd_ne (ne_of_none e hD)]
      exact s' _ _ (s _ _ e)
  · rw [upd_same, range_out, hv]
theorem lcw_list (h0 : ∀ R : VK, R (.ref p) H → tl σ H R) (hp : SqL K H p xs) (hl : xs.length ≤ 10000) {out : Nat → Option V} (turn : LcTurn xs H g tt te vs σ out)
    (fin : ∀ (D : Addr) (H' : Hp), H D = none → Same H H' → H' D = some (.lst ((List.range xs.length).filterMap out)) → Q (.ref D) H') : tLc (iList K tl) g tt te vs σ H Q :=
  h0 _ ⟨p, rfl, ⟨_, hp⟩, fun D hD => lc_list (xs := xs) (fun i Hi => Same H Hi ∧ Hi D = some (.lst ((List.range i).filterMap out))) ⟨Same.new hD, upd_same⟩ (fun _ _ _ hP => hP.1.seq hp) (lc_keep hl turn hD) (fun Hi hP => fin D Hi hD hP.1 hP.2)⟩
theorem lcw_tup (h0 : ∀ R : VK, R (.ref p) H → tl σ H R) (hp : SqT K H p xs) (hl : xs.length ≤ 10000) {out : Nat → Option V} (turn : LcTurn xs H g tt te vs σ out)
    (fin : ∀ (D : Addr) (H' : Hp), H D = none → Same H H' → H' D = some (.lst ((List.range xs.length).filterMap out)) → Q (.ref D) H') : tLc (iTup K tl) g tt te vs σ H Q :=
  h0 _ ⟨p, rfl, ⟨_, hp⟩, fun D hD => lc_tup (xs := xs) (fun i Hi => Same H Hi ∧ Hi D = some (.lst ((List.range i).filterMap out))) ⟨Same.new hD, upd_same⟩ (fun _ _ _ hP => Same.sqt hP.1 hp) (lc_keep hl turn hD) (fun Hi hP => fin D Hi hD hP.1 hP.2)⟩
theorem lcw_seq (h0 : ∀ R : VK, R (.ref p) H → tl σ H R) (hp : SqL K H p xs ∨ SqT K H p xs) (hl : xs.length ≤ 10000) {out : Nat → Option V} (turn : LcTurn xs H g tt te vs σ out)
    (fin : ∀ (D : Addr) (H' : Hp), H D = none → Same H H' → H' D = some (.lst ((List.range xs.length).filterMap out)) → Q (.ref D) H') : tLc (iSeq K tl) g tt te vs σ H Q :=
  hp.elim (fun h => .inl (lcw_list h0 h hl turn fin)) (fun h => .inr (lcw_tup h0 h hl turn fin))
/-- what is put out, by a list beside -/
theorem out_map {α β : Type} {l : List α} {f : α → β} : (List.range l.length).filterMap (fun i => (l[i]?).map f) = l.map f := by
  induction l with
  | nil => rfl
  | cons a l ih =>
    rw [List.length_cons, List.range_succ_eq_map, List.filterMap_cons]
    simp only [List.getElem?_cons_zero, Option.map_some, List.filterMap_map, List.map_cons]
    congr 1
theorem out_filter {α β : Type} {l : List α} {f : α → Option β} : (List.range l.length).filterMap (fun i => (l[i]?).bind f) = l.filterMap f := by
  induction l with
  | nil => rfl
  | cons a l ih =>
    have e : (List.range l.length).filterMap ((fun i => ((a :: l)[i]?).bind f) ∘ Nat.succ) = l.filterMap f := by
      rw [← ih]
      rfl
    rw [List.length_cons, List.range_succ_eq_map, List.filterMap_cons, List.filterMap_map, e, List.filterMap_cons]
    rfl
/-- one turn of a walk whose body goes on with Pv -/
def ForTurn (xs : List V) (g : TG) (tb : TS) (D : Ends) (Pv : Nat → L2.St → Hp → Prop) : Prop :=
  ∀ (i : Nat) (x : V) (σ : L2.St) (H : Hp), xs[i]? = some x → Pv i σ H → g x σ H fun σ2 H2 => tb { D with nx := Pv (i + 1), ct := Pv (i + 1), bk := D.nx } σ2 H2
theorem forw_list {tb : TS} {D : Ends} (h0 : ∀ R : VK, R (.ref p) H → tl σ H R) (hp : SqL K H p xs) (Pv : Nat → L2.St → Hp → Prop) (P0 : Pv 0 σ H) (hl : ∀ i σ' H', Pv i σ' H' → SqL K H' p xs) (turn : ForTurn xs g tb D Pv)
    (fin : ∀ σ' H', Pv xs.length σ' H' → D.nx σ' H') : tFor (iList K tl) g tb D σ H :=
  h0 _ ⟨p, rfl, ⟨_, hp⟩, for_list (xs := xs) Pv P0 (fun i σ' H' _ hP => hl i σ' H' hP) turn fin⟩
theorem forw_tup {tb : TS} {D : Ends} (h0 : ∀ R : VK, R (.ref p) H → tl σ H R) (hp : SqT K H p xs) (Pv : Nat → L2.St → Hp → Prop) (P0 : Pv 0 σ H) (hl : ∀ i σ' H', Pv i σ' H' → SqT K H' p xs) (turn : ForTurn xs g tb D Pv)
    (fin : ∀ σ' H', Pv xs.length σ' H' → D.nx σ' H') : tFor (iTup K tl) g tb D σ H :=
  h0 _ ⟨p, rfl, ⟨_, hp⟩, for_tup (xs := xs) Pv P0 (fun i σ' H' _ hP => hl i σ' H' hP) turn fin⟩
theorem forw_seq {tb : TS} {D : Ends} {H0 : Hp} (h0 : ∀ R : VK, R (.ref p) H → tl σ H R) (hp : SqL K H0 p xs ∨ SqT K H0 p xs) (Pv : Nat → L2.St → Hp → Prop) (P0 : Pv 0 σ H) (hl : ∀ i σ' H', Pv i σ' H' → Same H0 H') (turn : ForTurn xs g tb D Pv)
    (fin : ∀ σ' H', Pv xs.length σ' H' → D.nx σ' H') : tFor (iSeq K tl) g tb D σ H :=
  hp.elim (fun h => .inl (forw_list h0 ((hl 0 σ H P0).seq h) Pv P0 (fun i σ' H' hP => (hl i σ' H' hP).seq h) turn fin)) (fun h => .inr (forw_tup h0 (Same.sqt (hl 0 σ H P0) h) Pv P0 (fun i σ' H' hP => Same.sqt (hl i σ' H' hP) h) turn fin))
theorem keep_seq {K : PySem.W.Frag} {H H' : Hp} {p : Addr} {xs : List V} (s : Same H H') : (SqL K H p xs → SqL K H' p xs) ∧ (SqT K H p xs → SqT K H' p xs) := ⟨fun h => s.seq h, fun h => Same.sqt s h⟩
/-- [e for x in xs for y in x.ys if ..]: the walk over both, told by the two turns -/
theorem lc2_walk {J : It} {n : Nat} {G : Hp → Prop} (wk : Walk J n G (YAt xs)) (hn : n = xs.length) {k k1 : Nat} {te1 : TE} {tt1 : TT} {vs1 : List Nat} {D : Addr} (Pv : Nat → Nat → Hp → Prop) (P0 : Pv 0 0 (upd H D (.lst []))) (keep : ∀ i Hi, Pv i 0 Hi → G Hi)
    (hw : ∀ x, wipe ((wipe σ vs).set k (some x)) vs = wipe σ vs)
    (inner : ∀ (i : Nat) (x : V) (Hi : Hp), xs[i]? = some x → Pv i 0 Hi → ∃ (a : Addr) (ys : List V), (∀ R : VK, R (.ref a) Hi → te1 ((wipe σ vs).set k (some x)) Hi R) ∧ (∀ j Hj, Pv i j Hj → SqT K Hj a ys) ∧ (∀ Hj, Pv i ys.length Hj → Pv (i + 1) 0 Hj) ∧
      ∀ (j : Nat) (y : V) (Hj : Hp), ys[j]? = some y → Pv i j Hj → wipe ((wipe ((wipe σ vs).set k (some x)) vs1).set k1 (some y)) vs1 = wipe ((wipe σ vs).set k (some x)) vs1 ∧
        tt1 ((wipe ((wipe σ vs).set k (some x)) vs1).set k1 (some y)) Hj fun b H6 => if b = true then te ((wipe ((wipe σ vs).set k (some x)) vs1).set k1 (some y)) H6 fun z H7 => ∃ acc, H7 D = some (.lst acc) ∧ acc.length < sizeLine ∧ Pv i (j + 1) (upd H7 D (.lst (acc ++ [z]))) else Pv i (j + 1) H6)
    (fin : ∀ Hi, Pv n 0 Hi → Q (.ref D) Hi) :
    ∃ W : Nat → Nat → Hp → Prop, (∃ m, W 0 m (upd H D (.lst []))) ∧ ∀ i m H, W i m H →
      (J.stop i H ∧ Q (.ref D) H) ∨ (J.go i H ∧ ∃ Nx : Hp → Prop, (∀ H', Nx H' → ∃ m', m' < m ∧ W (i + 1) m' H') ∧ ∀ x H', J.yld i H x H' → gName k x (wipe σ vs) H' fun σ2 H2 => wipe σ2 vs = wipe σ vs ∧ tYes σ2 H2 fun b H3 =>
        if b = true then iTup K te1 σ2 H3 fun J1 H4 => ∃ W1 : Nat → Nat → Hp → Prop, (∃ m, W1 0 m H4) ∧ ∀ j k H, W1 j k H →
          (J1.stop j H ∧ Nx H) ∨ (J1.go j H ∧ ∃ Nx1 : Hp → Prop, (∀ H', Nx1 H' → ∃ k', k' < k ∧ W1 (j + 1) k' H') ∧ ∀ x H', J1.yld j H x H' → gName k1 x (wipe σ2 vs1) H' fun σ3 H5 => wipe σ3 vs1 = wipe σ2 vs1 ∧ tt1 σ3 H5 fun b H6 =>
            if b = true then te σ3 H6 fun y H7 => ∃ acc, H7 D = some (.lst acc) ∧ acc.length < sizeLine ∧ Nx1 (upd H7 D (.lst (acc ++ [y]))) else Nx1 H6)
        else Nx H3) := by
  refine ⟨fun i m Hi => m = n - i ∧ i ≤ n ∧ Pv i 0 Hi, ⟨n, by simp, Nat.zero_le _, P0⟩, ?_⟩
  rintro i m Hi ⟨rfl, hi, pv⟩
  by_cases lt : i < n
  · refine .inr ⟨wk.goes i Hi lt (keep i Hi pv), Pv (i + 1) 0, fun H' p' => ⟨n - (i + 1), by omega, rfl, lt, p'⟩, fun x H' y => ?_⟩
    obtain ⟨rfl, hx⟩ := wk.yields i Hi x H' lt (keep i Hi pv) y
    obtain ⟨a, ys, h1, h2, h3, h4⟩ := inner i x _ hx pv
    refine ⟨hw x, ?_⟩
    unfold tYes
    refine iteT ?_
    unfold iTup
    refine h1 _ ⟨a, rfl, ⟨ys, h2 0 _ pv⟩, fun j m Hj => m = ys.length - j ∧ j ≤ ys.length ∧ Pv i j Hj, ⟨ys.length, by simp, Nat.zero_le _, pv⟩, ?_⟩
    rintro j m Hj ⟨rfl, hj, pj⟩
    have wt : Walk (Itt K a) ys.length (fun H => SqT K H a ys) (YAt ys) := walk_tup
    by_cases lj : j < ys.length
    · refine .inr ⟨wt.goes j Hj lj (h2 j Hj pj), Pv i (j + 1), fun H' p' => ⟨ys.length - (j + 1), by omega, rfl, lj, p'⟩, fun y H' yy => ?_⟩
      obtain ⟨rfl, hy⟩ := wt.yields j Hj y H' lj (h2 j Hj pj) yy
      exact h4 j y _ hy pj
    · obtain rfl : j = ys.length := by omega
      exact .inl ⟨wt.stops Hj (h2 _ Hj pj), h3 Hj pj⟩
  · obtain rfl : i = n := by omega
    exact .inl ⟨wk.stops Hi (keep _ Hi pv), fin Hi pv⟩
end
end Pn

namespace Pn
open PySem L2
/-! ### tuple(list), of which it is known that it keeps no own attributes, and dict(..) of such a tuple of pairs -/
def TupX (H : Hp) (a : Addr) (xs : List V) : Prop := ∃ o : Obj, o.dict = none ∧ H a = some (.frz o (.tup xs))
theorem TupX.same {H H' : Hp} {a : Addr} {xs : List V} (h : TupX H a xs) (s : Same H H') : TupX H' a xs := by
  obtain ⟨o, d, e⟩ := h
  exact ⟨o, d, s _ _ e⟩
theorem TupX.sqt {K : PySem.W.Frag} {H : Hp} {a : Addr} {xs : List V} (h : TupX H a xs) : SqT K H a xs := by
  obtain ⟨o, _, e⟩ := h
  exact .inl (.inr ⟨o, e⟩)
def rTupX (K : PySem.W.Frag) : List V → Hp → VK → Prop := fun xs H Q => ∃ (p : Addr) (ys : List V), xs = [.ref p] ∧ SqL K H p ys ∧ ∀ (l : Addr) (H' : Hp), H l = none → Same H H' → Mo H H' → (∀ b, b ≠ l → H' b = H b) → TupX H' l ys → Q (.ref l) H'
theorem cr_tupX {X : Cx} : CallR X (.type "tuple") (rTupX X.K) := by
  rintro pins s σ H xs us Q I r ⟨p, ys, rfl, hq, q⟩
  obtain ⟨u, rfl, rx⟩ := vals1 r
  cases rx
  obtain ⟨its, rv, pl, hz⟩ := I.list hq
  have hlen := rv.length
  refine call_tuple_list pl.isList (fun h' kp => ?_) (by simp only [List.size_toArray] <;> omega)
  have I1 : Inv X pins σ H { s with heap := h' } := I.kept (t' := s.toks) kp
  have fr := I1.hok.fresh (Nat.le_refl _)
  let o : Obj := { cls := .type "tuple", data := .seq its.toArray }
  have I2 : Inv X pins σ (upd H h'.objs.size (.frz o (.tup ys))) { s with heap := h'.push o } :=
    I1.laid (t' := s.toks) (fun b ob e => Heap.get?_push_of_some _ e) (Nat.le_refl _) ⟨Heap.get?_push_size _ rfl, hz, its, rv, PyProof.Rows.IsTup.new _ _⟩
  exact ⟨.ref h'.objs.size, _, I2, rfl, q _ _ fr (Same.new fr) Mo.upd (fun b nb => upd_ne nb) ⟨o, rfl, upd_same⟩⟩
/-- .. or of such a tuple: the very same -/
def rTupX2 (K : PySem.W.Frag) : List V → Hp → VK → Prop := fun xs H Q => ∃ (p : Addr) (ys : List V), xs = [.ref p] ∧ (SqL K H p ys ∨ TupX H p ys) ∧ ∀ (l : Addr) (H' : Hp), Same H H' → TupX H' l ys → Q (.ref l) H'
theorem cr_tupX2 {X : Cx} : CallR X (.type "tuple") (rTupX2 X.K) := by
  rintro pins s σ H xs us Q I r ⟨p, ys, rfl, hq | hq, q⟩
  · exact cr_tupX pins s σ H _ us Q I r ⟨p, ys, rfl, hq, fun l H' _ s' _ _ h => q l H' s' h⟩
  · exact call_tuple_of pins s σ H _ us Q I r ⟨p, ys, rfl, .inr ⟨hq.sqt, q p H (Same.refl _) hq⟩⟩
theorem vps_of {X : Cx} {pins : List (Addr × Obj)} {σ : L2.St} {H : Hp} {s : Shared} (I : Inv X pins σ H s) {ps : List Addr} {kvs : List (Key × V)} (h : Paired (fun p kv => SqT X.K H p [kV kv.1, kv.2]) ps kvs) :
    ∃ (prs : List (Key × Value)) (vps : List (Value × Value)), KV kvs prs ∧ prs.length = ps.length ∧ vps.length = ps.length ∧
      ∀ (j : Nat) (k v : Value), vps[j]? = some (k, v) → ∃ (b : Addr) (kk : Key), ps[j]? = some b ∧ s.heap.IsTuple b #[k, v] ∧ prs[j]? = some (kk, v) ∧ keyIs kk k = true := by
  induction h with
  | nil => exact ⟨[], [], .nil, rfl, rfl, fun j k v e => by simp at e⟩
  | cons a b ih =>
    rename_i p kv l m
    obtain ⟨prs, vps, h1, h2, h3, h4⟩ := ih
    obtain ⟨its, rv, ht, _⟩ := I.tuple a
    obtain ⟨u, y, rfl, ru, ry⟩ := vals2 rv
    refine ⟨(kv.1, y) :: prs, (u, y) :: vps, .cons ⟨rfl, ry⟩ h1, by simp [h2], by simp [h3], fun j k v e => ?_⟩
    cases j with
    | zero =>
      obtain ⟨rfl, rfl⟩ : u = k ∧ y = v := by simpa using e
      exact ⟨p, kv.1, rfl, ht, rfl, kV_is (P := X.prog) (w := X.w) ru⟩
    | succ j =>
      obtain ⟨c, kk, g1, g2, g3, g4⟩ := h4 j k v (by simpa using e)
      exact ⟨c, kk, by simpa using g1, g2, by simpa using g3, g4⟩
def rDictX (K : PySem.W.Frag) : List V → Hp → VK → Prop := fun xs H Q => ∃ (a : Addr) (ps : List Addr) (kvs : List (Key × V)), xs = [.ref a] ∧ TupX H a (ps.map V.ref) ∧ Paired (fun p kv => SqT K H p [kV kv.1, kv.2]) ps kvs ∧
  ∀ p, H p = none → Q (.ref p) (upd H p (.dK (mergeK [] kvs)))
theorem cr_dictX {X : Cx} (hc : X.calm = true) : CallR X (.type "dict") (rDictX X.K) := by
  rintro pins s σ H xs us Q I r ⟨a, ps, kvs, rfl, ⟨o, hod, ha⟩, hp, q⟩
  obtain ⟨u, rfl, rx⟩ := vals1 r
  cases rx
  obtain ⟨ho, hz, its, rv, o2, ho2, hcl, n, hdat⟩ := I.hok a _ ha
  obtain rfl : o = o2 := Option.some.inj (ho.symm.trans ho2)
  have ei := refs_at rv
  subst ei
  rw [List.length_map] at hz
  obtain ⟨prs, vps, rel, hl, hv, hat⟩ := vps_of I hp
  refine PySem.call_dict_pairs (knd := mixKind X.prog X.w) (kvs := prs) (PairArg.tuple a (ps.map Value.ref).toArray (fun j => (ps[j]?).getD 0) vps) (I.ok.hd hc) ⟨⟨o, n, ho, hcl, hod, hdat⟩, by simp [hv], fun j k v e => ?_⟩ ⟨by rw [hl, hv], fun i key v e => ?_⟩ (by rw [hv]; exact hz) fun h' tk hd' k => ?_
  · obtain ⟨b, kk, g1, g2, _⟩ := hat j k v e
    exact ⟨by simp [g1], .inl (by show s.heap.IsTuple ((ps[j]?).getD 0) _; rw [g1]; exact g2)⟩
  · obtain ⟨b, kk, _, _, g3, g4⟩ := hat i key v e
    exact ⟨kk, g3, g4⟩
  · have hm : (s.heap.objs.size == sysModules) = false := beq_eq_false_iff_ne.mpr (Nat.ne_of_gt I.big)
    have hln : (mergeK [] kvs).length ≤ sizeLine := by
      have h1 := length_mergeK kvs []
      have h2 := rel.length
      rw [List.length_nil] at h1
      omega
    exact ⟨.ref s.heap.objs.size, _, I.laid (t' := tk) (fun b ob e => k b ob (by simp) e) (Nat.le_refl _) (show ObjOk X.prog X.w _ _ _ (.dK (mergeK [] kvs)) from ⟨hln, hm, merged [] prs, KV.merge rel .nil, hd'⟩), rfl, q _ (I.hok.fresh (Nat.le_refl _))⟩
/-! ### what such a dict holds -/
def csKv (cs : List (Str × Str)) : List (Key × V) := cs.map fun c => (Sum.inr c.1, V.str c.2)
theorem merge_out : ∀ {cs : List (Str × Str)} {kv : List (Key × V)} {z : Str}, z ∉ cs.map (·.1) → valV (mergeK kv (csKv cs)) (.inr z) = valV kv (.inr z)
  | [], kv, z, _ => rfl
  | c :: cs, kv, z, h => by
    have h1 : z ≠ c.1 := fun e => h (by rw [e]; exact List.mem_cons_self)
    have h2 : z ∉ cs.map (·.1) := fun e => h (List.mem_cons_of_mem _ e)
    show valV (mergeK (putK kv (.inr c.1) (.str c.2)) (csKv cs)) (.inr z) = _
    rw [merge_out h2, valV_put, if_neg (fun e => h1 (by injection e))]
theorem merge_in : ∀ {cs : List (Str × Str)} {kv : List (Key × V)} {c : Str × Str}, (cs.map (·.1)).Nodup → c ∈ cs → valV (mergeK kv (csKv cs)) (.inr c.1) = some (.str c.2)
  | [], kv, c, _, h => by cases h
  | d :: cs, kv, c, nd, h => by
    rw [List.map_cons, List.nodup_cons] at nd
    show valV (mergeK (putK kv (.inr d.1) (.str d.2)) (csKv cs)) (.inr c.1) = _
    rcases List.mem_cons.mp h with rfl | h
    · rw [merge_out nd.1, valV_put, if_pos rfl]
    · exact merge_in nd.2 h
end Pn

namespace Pn
open PySem PySem.Spec PyProof.Rows PySem.Froz
/-! ### sets of texts: which are in it, and a table that can be walked -/
/-- the texts of a list, each once -/
def uniq (l : List Str) : List Str := l.foldl (fun acc x => if x ∈ acc then acc else x :: acc) []
theorem uniq_snoc (l : List Str) (x : Str) : uniq (l ++ [x]) = if x ∈ uniq l then uniq l else x :: uniq l := by
  unfold uniq
  rw [List.foldl_append]
  rfl
theorem uniq_has : ∀ (l : List Str) (z : Str), z ∈ uniq l ↔ z ∈ l := by
  have key : ∀ (l acc : List Str) (z : Str), z ∈ l.foldl (fun acc x => if x ∈ acc then acc else x :: acc) acc ↔ z ∈ acc ∨ z ∈ l := by
    intro l
    induction l with
    | nil => intro acc z; simp
    | cons x l ih =>
      intro acc z
      rw [List.foldl_cons, ih]
      by_cases h : x ∈ acc
      · rw [if_pos h]
        constructor
        · rintro (h1 | h1)
          · exact .inl h1
          · exact .inr (List.mem_cons_of_mem _ h1)
        · rintro (h1 | h1)
          · exact .inl h1
          · rcases List.mem_cons.mp h1 with rfl | h1
            · exact .inl h
            · exact .inr h1
      · rw [if_neg h]
        simp only [List.mem_cons]
        constructor
        · rintro ((h1 | h1) | h1)
          · exact .inr (.inl h1)
          · exact .inl h1
          · exact .inr (.inr h1)
        · rintro (h1 | h1 | h1)
          · exact .inl (.inr h1)
          · exact .inl (.inl h1)
          · exact .inr h1
  intro l z
  exact (key l [] z).trans (by simp)
theorem uniq_nodup (l : List Str) : (uniq l).Nodup := by
  have key : ∀ (l acc : List Str), acc.Nodup → (l.foldl (fun acc x => if x ∈ acc then acc else x :: acc) acc).Nodup := by
    intro l
    induction l with
    | nil => intro acc h; exact h
    | cons x l ih =>
      intro acc h
      rw [List.foldl_cons]
      refine ih _ ?_
      by_cases e : x ∈ acc
      · rw [if_pos e]; exact h
      · rw [if_neg e]; exact List.nodup_cons.mpr ⟨e, h⟩
  exact key l [] List.nodup_nil
theorem uniq_len (l : List Str) : (uniq l).length ≤ l.length := by
  have key : ∀ (l acc : List Str), (l.foldl (fun acc x => if x ∈ acc then acc else x :: acc) acc).length ≤ acc.length + l.length := by
    intro l
    induction l with
    | nil => intro acc; exact Nat.le_refl _
    | cons x l ih =>
      intro acc
      rw [List.foldl_cons, List.length_cons]
      have q := ih (if x ∈ acc then acc else x :: acc)
      by_cases e : x ∈ acc
      · rw [if_pos e] at q ⊢; omega
      · rw [if_neg e] at q ⊢
        rw [List.length_cons] at q
        omega
  have q := key l []
  unfold uniq
  simpa using q
theorem addTx_led (h : Int) (v : Value) (D : SD) : (addTx h v D).2.2.led = D.2.2.led := by
  have e := L2.layNew_led D.2.2 D.1 h v
  unfold addTx tailTx
  by_cases c : (layNew D.2.2 D.1 h v).2.1.plain = true
  · rw [if_pos c]
    split
    · exact (L2.relayAll_led _ _ _).trans e
    · exact e
  · rw [if_neg c]
    split
    · exact (L2.relayAll_led _ _ _).trans e
    · exact e
theorem addTx_ris (h : Int) (v : Value) (D : SD) (r : L2.Ris D.2.2.place.toList) : L2.Ris (addTx h v D).2.2.place.toList := by
  have e := L2.layNew_ris D.2.2 D.1 h v r
  unfold addTx tailTx
  by_cases c : (layNew D.2.2 D.1 h v).2.1.plain = true
  · rw [if_pos c]
    split
    · exact L2.relayAll_ris _ _ _
    · exact e
  · rw [if_neg c]
    split
    · exact L2.relayAll_ris _ _ _
    · exact e
/-- at a stands the set of the texts l -/
def TxtSet (P : Program) (w : World) (h : Heap) (a : Addr) (l : List Str) : Prop :=
  ∃ D : SD, h.get? a = some (sObj "set" D) ∧ TxOk P w D l ∧ L2.Ris D.2.2.place.toList ∧ (w.params.followText "set-order" = true ∨ D.2.2.led = true) ∧ l.Nodup
theorem TxtSet.keep {P : Program} {w : World} {h h' : Heap} {a : Addr} {l : List Str} (R : TxtSet P w h a l) (k : ∀ o, h.get? a = some o → h'.get? a = some o) : TxtSet P w h' a l := by
  obtain ⟨D, ho, r⟩ := R
  exact ⟨D, k _ ho, r⟩
section
variable {P : Program} {w : World} {A : Around} {E : Value → Shared → Prop} {s : Shared}
/-- a text that is there is not put in again -/
theorem held_x {a : Addr} {T : String} {D : SD} {l : List Str} {k : Str} {u : Tok} {Q : Bool → Shared → Prop} (ho : s.heap.get? a = some (sObj T D)) (F : TxOk P w D l) (hk : k ∈ l) (hb : l.length < scanBound) (h : Q false s) :
    wpAny (model P w) A (setAddHashed a (.str k u) (hashStr w k)) Q E s := by
  obtain ⟨es, ep, t⟩ := D
  have dat : (sObj T (es, ep, t)).data = .set es ep t := rfl
  have elm : ElemsOf (strKind P w) es.toList := F.el
  have low : es.size < scanBound := by rw [show es.size = l.length from F.sz]; exact hb
  have key : (strKind P w).is k (.str k u) = true := is_str k u
  obtain ⟨j, found⟩ : ∃ j, List.findIdx? (fun e => (strKind P w).is k e.2) es.toList = some j := by
    cases q : List.findIdx? (fun e => (strKind P w).is k e.2) es.toList with
    | some j => exact ⟨j, rfl⟩
    | none =>
      obtain ⟨e, he, hi⟩ := (F.mem k).mp hk
      exact absurd hi (by rw [List.findIdx?_eq_none_iff.mp q e he]; decide)
  unfold setAddHashed setAddHashedIn
  refine wpAny_holding ?_
  refine wpAny_bind (wpAny_setState_of ho dat F.fit ?_)
  dsimp only
  rw [byScan_of rfl low elm]
  simp only [↓reduceIte]
  unfold setAddByScan
  refine wpAny_bind (wpAny_bind (wpAny_rule ?_))
  refine wpAny_bind (wpAny_setScan_of (k := k) (knd := strKind P w) key ho dat F.fit elm ?_)
  rw [found]
  exact wpAny_pure (wpAny_pure h)
theorem txt_new {h : Heap} {a : Addr} (ho : h.get? a = some (sObj "set" (#[], 0, .fresh 0 0 (!w.params.followText "set-order")))) : TxtSet P w h a [] :=
  ⟨_, ho, TxOk.nil (by rfl), List.Pairwise.nil, (by
    show _ ∨ (!w.params.followText "set-order") = true
    cases w.params.followText "set-order" <;> simp), List.nodup_nil⟩
/-- one text is put in -/
theorem txt_add {a : Addr} {l : List Str} {k : Str} {u : Tok} {Q : Bool → Shared → Prop} (R : TxtSet P w s.heap a l) (hb : l.length + 1 < scanBound)
    (h : ∀ b h', (∀ c, c ≠ a → h'.get? c = s.heap.get? c) → TxtSet P w h' a (if k ∈ l then l else k :: l) → Q b { s with heap := h' }) : wpAny (model P w) A (setAddHashed a (.str k u) (hashStr w k)) Q E s := by
  obtain ⟨D, ho, F, r, g, nd⟩ := id R
  by_cases hk : k ∈ l
  · refine held_x ho F hk (by omega) ?_
    have q := h false s.heap (fun _ _ => rfl)
    rw [if_pos hk] at q
    exact q R
  · refine add_x ho F hk hb ?_
    have q := h true (s.heap.update a fun _ => sObj "set" (addTx (hashStr w k) (.str k u) D)) (fun c n => Heap.get?_update_other _ _ n.symm)
    rw [if_neg hk] at q
    exact q ⟨_, get_upd _ ho rfl, add_ok u F, addTx_ris _ _ _ r, g.imp id fun z => (addTx_led _ _ _).trans z, List.nodup_cons.mpr ⟨hk, nd⟩⟩
theorem loop_txt {I : Addr} {fp wr : List Addr} {G : Array GenState → Array GenState → Prop} {n : Nat} {Pv : Nat → Value → Prop} {St : Nat → Shared → Prop} {R : Result → Shared → Prop} (W : WalksS P w A.in1 I fp wr G n Pv St)
    (S : Addr) (out : S ∉ fp) (xs : List Str) (hn : n = xs.length) (low : n + 1 < scanBound) (hv : ∀ i v, Pv i v → ∃ x t, xs[i]? = some x ∧ v = .str x t) : ∀ (k i : Nat) (s : Shared), n - i = k → i ≤ n → St i s → TxtSet P w s.heap S (uniq (xs.take i)) →
      (∀ s', Moved (S :: wr) G s s' → TxtSet P w s'.heap S (uniq xs) → R (.ok (.ret .none)) s') → codeAny (model P w) A (.builtin "set.update.loop" ⟨[.ref S, .ref I], []⟩) R s := by
  have outW : S ∉ wr := fun h => out (W.sub _ h)
  have more : ∀ b ∈ wr, b ∈ S :: wr := fun b h => List.mem_cons_of_mem _ h
  intro k
  induction k with
  | zero =>
    intro i s e1 e2 st X fin
    obtain rfl : i = n := by omega
    refine codeAny_builtin PyProof.Rows.F.entry_set_update_loop ?_
    rw [Around.under_plainId PyProof.Rows.F.plain_set_update_loop _]
    show wpAny _ A.in1 (pyNext (.ref I) >>= _) _ _ s
    refine wpAny_bind (W.done s _ _ st fun s' mv => wpAny_pure (fin s' (mv.mono more) ?_))
    rw [hn, List.take_length] at X
    exact X.keep fun o e => mv.heap S o outW e
  | succ k ih =>
    intro i s e1 e2 st X fin
    have lt : i < n := by omega
    refine codeAny_builtin PyProof.Rows.F.entry_set_update_loop ?_
    rw [Around.under_plainId PyProof.Rows.F.plain_set_update_loop _]
    show wpAny _ A.in1 (pyNext (.ref I) >>= _) _ _ s
    refine wpAny_bind (W.item i s _ _ lt st fun v s1 pv st1 mv => ?_)
    obtain ⟨x, t, hx, rfl⟩ := hv i v pv
    have X1 := X.keep (h' := s1.heap) fun o e => mv.heap S o outW e
    show wpAny _ A.in1 (holding [Value.str x t] (setAdd S (.str x t)) >>= _) _ _ s1
    refine wpAny_bind (wpAny_holding ?_)
    unfold setAdd
    refine wpAny_holding (wpAny_bind ((PySem.strKind P w).pyHash (is_str x t) ?_))
    have few : (uniq (xs.take i)).length + 1 < scanBound := by
      have := uniq_len (xs.take i)
      rw [List.length_take] at this
      omega
    refine txt_add (s := { s1 with toks := s1.toks + 1 }) X1 few fun b h' oth X2 => ?_
    have e3 : (if x ∈ uniq (xs.take i) then uniq (xs.take i) else x :: uniq (xs.take i)) = uniq (xs.take (i + 1)) := by
      rw [List.take_add_one, hx]
      exact (uniq_snoc _ _).symm
    rw [e3] at X2
    refine wpAny_pure ⟨plainId_quiet PyProof.Rows.F.plain_set_update_loop _, ih (i + 1) _ (by omega) lt (W.frame (i + 1) s1 h' (s1.toks + 1) st1 (by omega) fun c hc o e => ?_) X2 fun s2 mv2 X3 => fin s2 (Moved.trans W.gtrans ((mv.mono more).then_heap (Nat.le_succ _) fun c o hc e => ?_) mv2) X3⟩
    · exact (oth c fun z => out (z ▸ hc)).trans e
    · exact (oth c fun z => hc (z ▸ List.mem_cons_self)).trans e
theorem perm_of_sup {α : Type} [DecidableEq α] {l ks : List α} (nd : l.Nodup) (sup : ∀ k ∈ l, k ∈ ks) (len : ks.length ≤ l.length) : l.Perm ks := by
  induction l generalizing ks with
  | nil =>
    cases ks with
    | nil => exact .nil
    | cons k ks => simp at len
  | cons x l ih =>
    obtain ⟨h1, h2⟩ := List.nodup_cons.mp nd
    have hx := sup x List.mem_cons_self
    have p : ks.Perm (x :: ks.erase x) := List.perm_cons_erase hx
    refine List.Perm.trans (.cons x (ih h2 (fun k hk => ?_) ?_)) p.symm
    · have q := p.mem_iff.mp (sup k (List.mem_cons_of_mem _ hk))
      rcases List.mem_cons.mp q with rfl | q
      · exact absurd hk h1
      · exact q
    · have q := p.length_eq
      simp only [List.length_cons] at q len
      omega
theorem strs_perm : ∀ {vs us : List Value} {xs : List Str}, StrsAre vs xs → vs.Perm us → ∃ ys, StrsAre us ys ∧ ys.Perm xs := by
  intro vs us xs h p
  induction p generalizing xs with
  | nil => exact ⟨xs, h, .refl _⟩
  | cons v _ ih =>
    cases h with
    | cons x t r =>
      obtain ⟨ys, h1, h2⟩ := ih r
      exact ⟨x :: ys, .cons x t h1, h2.cons x⟩
  | swap v u l =>
    cases h with
    | cons x t r =>
      cases r with
      | cons y t2 r => exact ⟨y :: x :: _, .cons y t2 (.cons x t r), .swap _ _ _⟩
  | trans _ _ ih1 ih2 =>
    obtain ⟨ys, h1, h2⟩ := ih1 h
    obtain ⟨zs, h3, h4⟩ := ih2 h1
    exact ⟨zs, h3, h4.trans h2⟩
theorem strs_get : ∀ {vs : List Value} {xs : List Str} {i : Nat} {v : Value}, StrsAre vs xs → vs[i]? = some v → ∃ x t, xs[i]? = some x ∧ v = .str x t
  | _, _, i, v, .nil, h => by simp at h
  | _, _, 0, v, .cons x t r, h => ⟨x, t, rfl, (Option.some.inj h).symm⟩
  | _, _, i + 1, v, .cons x t r, h => strs_get (i := i) r h
/-- the new set, empty -/
abbrev bare (w : World) : Obj := sObj "set" (#[], 0, .fresh 0 0 (!w.params.followText "set-order"))
set_option maxHeartbeats 3200000 in
/-- set(xs), xs a list of texts -/
theorem set_of_texts {l : Addr} {items : Array Value} {xs : List Str} {Q : Value → Shared → Prop} (calm : A.handled = none) (hl : s.heap.IsList l items) (hx : StrsAre items.toList xs) (low : xs.length + 1 < scanBound)
    (h : ∀ (h' : Heap) (tk : Nat), TxtSet P w h' s.heap.objs.size (uniq xs) → (∀ b o, s.heap.get? b = some o → h'.get? b = some o) → Q (.ref s.heap.objs.size) { s with heap := h', toks := tk }) : wpAny (model P w) A (call (.type "set") [.ref l]) Q E s := by
  have sz : items.size = xs.length := by
    have q := StrsAre.length hx
    rw [Array.length_toList] at q
    exact q
  obtain ⟨mc, mt, mro⟩ := PySem.F.called_set.mro
  have made := PySem.F.called_set.made
  have sub := PySem.F.called_set.sub
  have notT := PySem.F.called_set.notType
  have can := PySem.F.called_set.canCreate
  have chk := PySem.F.typeCall_set_1 (.ref l)
  refine wpAny_call (codeAny_of_tree (show wpAny _ _ (callAny (.type "set") _) _ _ _ from wpAny_pure ⟨Code.quiet_builtin _ (by decide +kernel), codeAny_builtin PySem.F.entry_type_call ?_⟩))
  rw [Around.under_plain (weight_type_call_type "set" [.ref l] []) rfl]
  repeat (any_goals (first | assumption | wp_step))
  let S := s.heap.objs.size
  let H1 := s.heap.push (bare w)
  refine codeAny_mono (L2.code_set_led1 (.ref l) (E := E) (Q₁ := fun v s1 => v = .ref S ∧ s1 = { s with heap := H1 }) ⟨rfl, rfl⟩) fun r s1 hr => ?_
  match r, hr with
  | .error e, hr => exact hr
  | .ok .next, hr => exact hr.elim
  | .ok .brk, hr => exact hr.elim
  | .ok .cont, hr => exact hr.elim
  | .ok (.ret v), ⟨e1, e2⟩ =>
    subst e1
    subst e2
    have there : H1.get? S = some (bare w) := Heap.get?_push_size _ rfl
    have ty : Shared.TypeIs { s with heap := H1 } (.ref S) "set" := ⟨_, there, rfl⟩
    have look := PySem.F.called_set.init.lookup
    have bnd := PySem.F.called_set.init.bind (.ref S)
    repeat (any_goals (first | assumption | wp_step))
    refine codeAny_mono (codeAny_call_builtin (R := wants (fun v s2 => v = .none ∧ ∃ h' tk, s2 = { s with heap := h', toks := tk } ∧ TxtSet P w h' S (uniq xs) ∧ ∀ b o, s.heap.get? b = some o → h'.get? b = some o) E)
      PySem.F.called_set.init.plain PySem.F.entry_set_init (check_set_init_1 ty ?_)) fun r2 s2 hr2 => ?_
    · obtain ⟨⟨kc, kd, kt, ks⟩, ol, c1, nl, c2⟩ := hl
      simp only at c1 c2
      subst c1
      subst c2
      have ol1 : H1.get? l = some { cls := .type "list", dict := kd, data := .seq items nl, slots := ks } := Heap.get?_push_of_some _ ol
      have l1 : H1.IsList l items := ⟨_, ol1, rfl, nl, rfl⟩
      have f1 := PySem.F.sub_list_set
      have f2 := PySem.F.sub_list_frozenset
      have f3 : (Value.type "list" == Value.type "dict") = false := by decide
      unfold Builtin.«set.__init__» noKeywords Builtin.Frozenset.updateFrom
      generalize hp : pyIter = PI
      wp_walk
      subst hp
      refine wpAny_pyIter_list l1 (wpAny_bind (wpAny_runValue ?_))
      have lS : l < S := Heap.lt_size ol
      have zz : H1.objs.size = S + 1 := size_push' _ _
      have calm3 : A.in1.in1.in1.handled = none := by simp [calm]
      have nI : l ≠ H1.objs.size := by rw [zz]; exact Nat.ne_of_lt (Nat.lt_succ_of_lt lS)
      have outS : S ∉ [H1.objs.size, l] := by
        rw [zz]
        intro z
        rcases List.mem_cons.mp z with z | z
        · exact absurd z (Nat.ne_of_lt (Nat.lt_succ_self _))
        · exact absurd (List.mem_singleton.mp z) (Nat.ne_of_gt lS)
      refine loop_txt (Walks.list calm3 _ l nI items).toS S outS xs sz (by rw [sz]; exact low) (fun i v pv => ?_) (items.size - 0) 0 _ (by omega) (Nat.zero_le _) ⟨⟨_, Heap.get?_push_size _ rfl, rfl, rfl⟩, l1.push _⟩ (txt_new (Heap.get?_push_of_some _ there)) (fun s' mv X => ?_)
      · have pv' : items.toList[i]? = some v := by rw [Array.getElem?_toList]; exact pv
        exact strs_get hx pv'
      · obtain ⟨h', g', d', tk', os'⟩ := s'
        obtain rfl : g' = s.gens := mv.gens
        obtain rfl : d' = s.drawn := mv.drawn
        obtain rfl : os' = s.os := mv.os
        show wpAny _ _ _ _ _ _
        refine wpAny_pure ?_
        show wpAny _ _ (ret Value.none) _ _ _
        refine wpAny_pure ⟨rfl, h', tk', rfl, X, fun b o e => ?_⟩
        have lb : b < S := Heap.lt_size e
        refine mv.heap b o (fun z => ?_) (Heap.get?_push_of_some _ (Heap.get?_push_of_some _ e))
        rcases List.mem_cons.mp z with z | z
        · exact absurd z (Nat.ne_of_lt lb)
        · have e2 := List.mem_singleton.mp z
          rw [zz] at e2
          exact absurd e2 (Nat.ne_of_lt (Nat.lt_succ_of_lt lb))
    · match r2, hr2 with
      | .error e, hr2 => exact hr2
      | .ok .next, hr2 => exact hr2.elim
      | .ok .brk, hr2 => exact hr2.elim
      | .ok .cont, hr2 => exact hr2.elim
      | .ok (.ret v), ⟨e1, h', tk, e2, X, old⟩ =>
        subst e1
        subst e2
        repeat (any_goals (first | assumption | wp_step))
        exact h _ _ X old
/-- what walks over the set brings, sorted -/
theorem sorted_txt {a : Addr} {l : List Str} {Q : Value → Shared → Prop} (R : TxtSet P w s.heap a l) (calm : A.handled = none) (low : l.length < 64)
    (h : ∀ s' p (out : Array Value) (c : Nat) (ys : List Str), (∀ b o, s.heap.get? b = some o → s'.heap.get? b = some o) → s'.gens = s.gens → s'.os = s.os → s.heap.objs.size ≤ p → s'.heap.get? p = some (seqObj "list" out c) → StrsAre out.toList ys → ys.Perm l → sortedS ys = true → Q (.ref p) s') :
    wpAny (model P w) A (call (.builtin "sorted") [.ref a]) Q E s := by
  obtain ⟨D, ho, F, rs, led, nd⟩ := R
  have sz : D.1.size = l.length := F.sz
  have few : D.1.size < scanBound := by unfold scanBound; omega
  -- the entries as texts
  have ent : ∃ ks : List Str, StrsAre (D.1.toList.map (·.2)) ks ∧ ks.Perm l := by
    have one : ∀ e ∈ D.1.toList, ∃ k t, e.2 = Value.str k t ∧ k ∈ l := fun e he => by
      obtain ⟨⟨k, hk, _⟩, _⟩ := F.el e he
      have hk2 : Value.isStrOf k e.2 = true := hk
      cases hv : e.2 with
      | str x t =>
        rw [hv] at hk2
        have e2 : x = k := by simpa [Value.isStrOf] using hk2
        exact ⟨x, t, rfl, (F.mem x).mpr ⟨e, he, by rw [e2]; exact hk⟩⟩
      | _ => rw [hv] at hk2; simp [Value.isStrOf] at hk2
    have mk : ∀ es : List (Int × Value), (∀ e ∈ es, ∃ k t, e.2 = Value.str k t ∧ k ∈ l) → ∃ ks : List Str, StrsAre (es.map (·.2)) ks ∧ ∀ k ∈ ks, k ∈ l := by
      intro es
      induction es with
      | nil => intro _; exact ⟨[], .nil, fun k hk => by cases hk⟩
      | cons e es ih =>
        intro he
        obtain ⟨k, t, e1, e2⟩ := he e List.mem_cons_self
        obtain ⟨ks, g1, g2⟩ := ih fun x hx => he x (List.mem_cons_of_mem _ hx)
        refine ⟨k :: ks, ?_, fun z hz => ?_⟩
        · rw [List.map_cons, e1]
          exact .cons k t g1
        · rcases List.mem_cons.mp hz with rfl | hz
          · exact e2
          · exact g2 z hz
    obtain ⟨ks, g1, g2⟩ := mk _ one
    refine ⟨ks, g1, ?_⟩
    have len : ks.length = l.length := by
      have q := StrsAre.length g1
      rw [List.length_map, Array.length_toList] at q
      omega
    -- each text of l is among them
    have sup : ∀ k ∈ l, k ∈ ks := fun k hk => by
      obtain ⟨e, he, hi⟩ := (F.mem k).mp hk
      obtain ⟨x, t, hx, _⟩ := one e he
      have e2 : x = k := by
        have q : Value.isStrOf k e.2 = true := hi
        rw [hx] at q
        simpa [Value.isStrOf] using q
      subst e2
      obtain ⟨i, hi2⟩ := List.getElem?_of_mem (List.mem_map.mpr ⟨e, he, rfl⟩ : e.2 ∈ D.1.toList.map (·.2))
      obtain ⟨y, u, hy, e3⟩ := strs_get g1 hi2
      rw [hx] at e3
      injection e3 with e3 _
      rw [e3]
      exact List.mem_of_getElem? hy
    exact (perm_of_sup nd sup (by omega)).symm
  obtain ⟨ks, g1, g2⟩ := ent
  refine Calls.call_function_entry kind_sorted plain_sorted entry_sorted (args_sorted1 _) ?_
  unfold Builtin.«sorted»
  refine wpAny_bind (m := checkCount "sorted" 1 1 _) (wpAny_pure (wpAny_bind (L2.collect_set (A := A.in1) (t := D.2.2) (ep := D.2.1) (es := D.1) calm ⟨_, ho, rfl, rfl⟩ F.fit few rs led fun s1 vs k1 hz g1' o1 pm => ?_)))
  obtain ⟨zs, z1, z2⟩ := strs_perm g1 pm.symm
  have vl : vs.length = l.length := by rw [StrsAre.length z1, z2.length_eq, g2.length_eq]
  refine wpAny_bind (wpAny_newList ?_ (by rw [vl, sizeLine_eq]; omega))
  have hoL : (s1.heap.push (seqObj "list" vs.toArray 0)).get? s1.heap.objs.size = some (seqObj "list" vs.toArray 0) := Heap.get?_push_size _ rfl
  refine wpAny_bind (wpAny_holding (wpAny_call_entry slot_list_sort ⟨_, hoL, rfl⟩ entry_list_sort (list_sort_treeK strKind_oneLt hoL z1.keysOf (fun v1 v2 rest e => keyKind_strs (by rw [← e]; exact z1)) (by rw [vl]; exact low) fun st hp hs => ⟨_, rfl, ?_⟩) (args_list_sort _)))
  obtain ⟨ys, y1, y2, y3⟩ := sorted_out_str z1 hp hs
  obtain ⟨c, hc⟩ := sortedHeap_at (vs := vs) (out := (arrOf st).map (·.2)) hoL
  refine wpAny_pure ⟨_, rfl, h _ s1.heap.objs.size _ c ys (fun b u e => ?_) g1' o1 hz hc y1 ((y2.trans z2).trans g2) y3⟩
  have q := k1 b u e
  have lt := Heap.lt_size q
  show (sortedHeap (s1.heap.push (seqObj "list" vs.toArray 0)) s1.heap.objs.size vs ((arrOf st).map (·.2))).get? b = some u
  rw [sortedHeap_old (Nat.ne_of_lt lt) (by rw [size_push']; exact Nat.lt_succ_of_lt lt)]
  exact Heap.get?_push_of_some _ q
end
end Pn

namespace Pn
open PySem L2
/-! ### sets of texts as rules: set(xs), len(s), sorted(s) -/
def SetX (P : Program) (w : World) (a : Addr) (l : List Str) : HO := .ext fun h => TxtSet P w h a l
section
variable {X : Cx}
theorem setX_new {w : World} {P : Program} {H : Hp} {h : Heap} {a : Addr} {l : List Str} (R : TxtSet P w h a l) : ObjOk P w H h a (SetX P w a l) := by
  have ⟨_, there, _⟩ := R
  exact ⟨R, ⟨_, there⟩, fun _ _ z keep => TxtSet.keep z keep⟩
theorem setX_get {pins : List (Addr × Obj)} {σ : L2.St} {H : Hp} {s : Shared} {a : Addr} {l : List Str} (I : Inv X pins σ H s) (ha : H a = some (SetX X.prog X.w a l)) : TxtSet X.prog X.w s.heap a l := (I.hok a _ ha).1
def rSetX (K : PySem.W.Frag) (P : Program) (w : World) : List V → Hp → VK → Prop := fun xs H Q => ∃ (l : Addr) (ss : List Str), xs = [.ref l] ∧ SqL K H l (ss.map V.str) ∧ ss.length < 4000 ∧ ∀ a, H a = none → Q (.ref a) (upd H a (SetX P w a (uniq ss)))
theorem cr_setX (hc : X.calm = true) : CallR X (.type "set") (rSetX X.K X.prog X.w) := by
  intro pins s σ H xs us Q I r h
  obtain ⟨l, ss, rfl, hl, low, q⟩ := h
  rw [Vals.ref1 r]
  obtain ⟨its, rv, pl, _⟩ := I.list hl
  refine set_of_texts (I.ok.hd hc) pl.isList (xs := ss) (by simpa using rv.strs) (by unfold scanBound; omega) fun h' tk R old => ?_
  exact ⟨.ref s.heap.objs.size, upd H s.heap.objs.size (SetX X.prog X.w s.heap.objs.size (uniq ss)), I.laid (t' := tk) old (Nat.le_refl _) (setX_new R), rfl, q _ (I.hok.fresh (Nat.le_refl _))⟩
def rLenX (P : Program) (w : World) : List V → Hp → VK → Prop := fun xs H Q => ∃ (a : Addr) (l : List Str), xs = [.ref a] ∧ H a = some (SetX P w a l) ∧ l.length ≤ 4000 ∧ Q (.int (l.length : Nat)) H
theorem cr_lenX : CallR X (.builtin "len") (rLenX X.prog X.w) := by
  intro pins s σ H xs us Q I r h
  obtain ⟨a, l, rfl, ha, low, q⟩ := h
  rw [Vals.ref1 r]
  obtain ⟨D, there, F, _⟩ := setX_get I ha
  have few : (D.1.size : Int) < 2 ^ 63 := by
    rw [show D.1.size = l.length from F.sz]
    omega
  refine call_len_set there ⟨rfl, rfl, rfl⟩ rfl F.fit few ?_
  rw [F.sz]
  exact ⟨.int (l.length : Nat), H, I.tok _, ⟨_, rfl⟩, q⟩
def rSortX (P : Program) (w : World) : List V → Hp → VK → Prop := fun xs H Q => ∃ (a : Addr) (l : List Str), xs = [.ref a] ∧ H a = some (SetX P w a l) ∧ l.length < 64 ∧ ∀ (ys : List Str) (p : Addr), ys.Perm l → PyProof.Rows.sortedS ys = true → H p = none → Q (.ref p) (upd H p (.lst (ys.map V.str)))
theorem cr_sortX (hc : X.calm = true) : CallR X (.builtin "sorted") (rSortX X.prog X.w) := by
  intro pins s σ H xs us Q I r h
  obtain ⟨a, l, rfl, ha, low, q⟩ := h
  rw [Vals.ref1 r]
  refine sorted_txt (setX_get I ha) (I.ok.hd hc) low fun s' p out c ys old sg so hp there ys1 ys2 ys3 => ?_
  have free : H p = none := I.hok.fresh hp
  have size : (ys.map V.str).length ≤ sizeLine := by rw [List.length_map, ys2.length_eq]; exact small64 low
  have J : Inv X pins σ (upd H p (.lst (ys.map V.str))) { s with heap := s'.heap, gens := s'.gens, drawn := s'.drawn, toks := s'.toks } :=
    I.call (ch := []) (Un.laid old hp free) (I.hok.laid old hp ⟨size, out.toList, c, vals_of_strs ys1, there⟩) (by rw [sg]; exact I.bare) (fun _ z => nomatch z)
  have same : s' = { s with heap := s'.heap, gens := s'.gens, drawn := s'.drawn, toks := s'.toks } := by
    obtain ⟨_, _, _, _, _⟩ := s'
    obtain ⟨_, _, _, _, _⟩ := s
    cases so
    rfl
  rw [same]
  exact ⟨.ref p, _, J, rfl, q ys p ys2 ys3 free⟩
end
end Pn

namespace Pn
open PySem PySem.Spec PyProof.Rows L2
/-! ### comprehensions that make objects; what stands although lists change -/
def SameN (H H' : Hp) : Prop := ∀ a o, H a = some o → (∀ xs, o ≠ HO.lst xs) → H' a = some o
theorem SameN.of {H H' : Hp} (s : Same H H') : SameN H H' := fun a o e _ => s a o e
theorem SameN.trans {H H1 H2 : Hp} (s : SameN H H1) (t : SameN H1 H2) : SameN H H2 := fun a o e n => t a o (s a o e n) n
theorem SameN.upd {H : Hp} {D : Addr} {xs : List V} {o : HO} (h : H D = some (.lst xs)) : SameN H (upd H D o) := fun a u e n => by
  rw [upd_ne (fun z => by rw [z, h] at e; cases e; exact n _ rfl)]
  exact e
theorem paired_cat {α β : Type} {R : α → β → Prop} {l2 : List α} {m2 : List β} (h2 : Paired R l2 m2) : ∀ {l : List α} {m : List β}, Paired R l m → Paired R (l ++ l2) (m ++ m2)
  | _, _, .nil => h2
  | _, _, .cons a b => .cons a (paired_cat h2 b)
theorem lcw_objs {K : PySem.W.Frag} {tl : TE} {g : TG} {tt : TT} {te : TE} {vs : List Nat} {σ : L2.St} {H : Hp} {Q : VK} {p : Addr} {xs : List V} {α : Type} {R : Hp → Addr → α → Prop} {cs : List α} (hR : ∀ {H H' : Hp} {t : Addr} {c : α}, SameN H H' → R H t c → R H' t c)
    (h0 : ∀ R : VK, R (.ref p) H → tl σ H R) (hp : SqL K H p xs) (hl : xs.length ≤ 1000) (hc : xs.length = cs.length)
    (turn : ∀ (i : Nat) (x : V) (c : α) (Hi : Hp) (S : Hp → Prop) (Y : VK), xs[i]? = some x → cs[i]? = some c → Same H Hi → (∀ t H', Same Hi H' → R H' t c → Y (.ref t) H') → g x (wipe σ vs) Hi fun σ2 H2 => wipe σ2 vs = wipe σ vs ∧ tt σ2 H2 fun b H3 => if b = true then te σ2 H3 Y else S H3)
    (fin : ∀ (D : Addr) (H' : Hp) (ts : List Addr), H D = none → Same H H' → H' D = some (.lst (ts.map V.ref)) → Paired (R H') ts cs → Q (.ref D) H') : tLc (iList K tl) g tt te vs σ H Q := by
  refine h0 _ ⟨p, rfl, ⟨_, hp⟩, fun D hD => lc_list (xs := xs) (fun i Hi => Same H Hi ∧ ∃ ts : List Addr, Hi D = some (.lst (ts.map V.ref)) ∧ ts.length ≤ i ∧ Paired (R Hi) ts (cs.take i)) ⟨Same.new hD, [], upd_same, Nat.le_refl _, .nil⟩ (fun _ _ _ hP => hP.1.seq hp) (fun i x Hi hx hP => ?_) (fun Hi hP => ?_)⟩
  · obtain ⟨s, ts, hd, hn, pd⟩ := hP
    have hi : i < xs.length := (List.getElem?_eq_some_iff.mp hx).1
    have hi2 : i < cs.length := by omega
    have hc2 : cs[i]? = some cs[i] := List.getElem?_eq_getElem hi2
    refine turn i x _ Hi _ _ hx hc2 s fun t H' s' r => ⟨_, s' _ _ hd, small1000 (by rw [List.length_map]; omega), (fun a o e => ?_), ts ++ [t], by rw [upd_same, List.map_append]; rfl, by rw [List.length_append]; exact Nat.add_le_add_right hn 1, ?_⟩
    · rw [upd_ne (ne_of_none e hD)]
      exact s' _ _ (s _ _ e)
    · have n2 : SameN H' (upd H' D (.lst (ts.map V.ref ++ [V.ref t]))) := SameN.upd (s' _ _ hd)
      rw [List.take_add_one, hc2]
      exact paired_snoc (hR n2 r) (paired_mono (fun _ _ z => hR ((SameN.of s').trans n2) z) pd)
  · obtain ⟨s, ts, hd, _, pd⟩ := hP
    rw [hc, List.take_length] at pd
    exact fin D Hi ts hD s hd pd
end Pn

namespace Pn
open PySem L2 TL
abbrev sIsPairF : Stmt := top 8
abbrev sAreFill : Stmt := top 25
abbrev sIsFilled : Stmt := top 26
/-! ### which values can stand in a filling -/
def fillB : RowD → Bool
  | .skip _ _ => true
  | .set _ _ => true
  | _ => false
def pairD : PyData → Bool
  | .tuple [_, _] => true
  | _ => false
def tupT : PyData → Bool
  | .tuple _ => true
  | _ => false
theorem kit_tupT : ∀ d : PyData, kitB (tyD d) "tuple" = some (tupT d)
  | .none => (by decide +kernel : kitB "NoneType" "tuple" = some false)
  | .bool _ => (by decide +kernel : kitB "bool" "tuple" = some false)
  | .int _ => (by decide +kernel : kitB "int" "tuple" = some false)
  | .str _ => (by decide +kernel : kitB "str" "tuple" = some false)
  | .list _ => (by decide +kernel : kitB "list" "tuple" = some false)
  | .tuple _ => (by decide +kernel : kitB "tuple" "tuple" = some true)
  | .dict _ => (by decide +kernel : kitB "dict" "tuple" = some false)
theorem dpAll_len {K : PySem.W.Frag} {H : Hp} : ∀ {vs : List V} {ds : List PyData}, DpAll K H vs ds → vs.length = ds.length
  | _, _, .nil => rfl
  | _, _, .cons _ b => congrArg Nat.succ (dpAll_len b)
theorem pair_len (ds : List PyData) : pairD (.tuple ds) = decide ((ds.length : Int) = 2) := by
  match ds with
  | [] => rfl
  | [_] => rfl
  | [_, _] => rfl
  | _ :: _ :: _ :: l =>
    show false = _
    refine (decide_eq_false fun z => ?_).symm
    simp only [List.length_cons] at z
    omega
section
variable {P : Program} {w : World} {K : PySem.W.Frag} {mg : Str → Option Value} {base : Heap}
/-- a row that can stand in a filling, another row, or data -/
def FillFlag (R : TRows K mg) (H : Hp) (x : V) (b : Bool) : Prop := (∃ a r, x = .ref a ∧ RowAt R H a r ∧ b = fillB r) ∨ (b = false ∧ ∃ d, Dp K H x d)
theorem FillFlag.same {R : TRows K mg} {H H' : Hp} {x : V} {b : Bool} (h : FillFlag R H x b) (s : Same H H') : FillFlag R H' x b := by
  rcases h with ⟨a, r, ex, h, e⟩ | ⟨e, d, h⟩
  · exact .inl ⟨a, r, ex, h.same s, e⟩
  · exact .inr ⟨e, d, dp_same s d x h⟩
structure TFil {K : PySem.W.Frag} {mg : Str → Option Value} (R : TRows K mg) : Type where
  kF : ∀ r, PySem.W.kitAny K (.ref (clsOf R r)) [.ref R.skip.C, .ref R.set.C] = some (fillB r)
  kD : ∀ d : PyData, PySem.W.kitAny K (.type (tyD d)) [.ref R.skip.C, .ref R.set.C] = some false
  kS : ∀ r, PySem.W.kitAny K (.ref (clsOf R r)) [.type "list", .type "tuple"] = some false
  cA : ∀ r, PySem.W.findIn K (.ref (clsOf R r)) "__class__" = some (some (.builtin "object.__class__"))
  cN : PySem.W.specialIn K (.builtin "object.__class__") "__get__" = some (some (.builtin "getset_descriptor.__get__"))
  cT : PySem.W.takesIn K (.builtin "object.__class__") = some true
  cM : ∀ r, PySem.W.mroIn K (clsOf R r) (.type "object") = some true
  mList : mg "list" = none
  mTup : mg "tuple" = none
  isSeq : At K mg "is_sequence" sIsSeq ["value"]
  isPair : At K mg "is_pair" sIsPairF ["value"]
  areF : At K mg "are_fillable" sAreFill ["rows"]
  isF : At K mg "is_filled" sIsFilled ["value"]
theorem row_ty {R : TRows K mg} (T : TFil R) {H : Hp} {a : Addr} {r : RowD} (h : RowAt R H a r) : TyX K H (.ref a) (.ref (clsOf R r)) := by
  obtain ⟨dy, h⟩ := h
  obtain ⟨gs, eg⟩ := insRow_ins R dy r
  rw [eg] at h
  exact .base (.ins h (cls_of R r) (T.cA r) T.cN T.cT (T.cM r))
theorem fill_kit {R : TRows K mg} (T : TFil R) {H : Hp} {x : V} {b : Bool} (h : FillFlag R H x b) : ∃ t, TyX K H x t ∧ PySem.W.kitAny K t [.ref R.skip.C, .ref R.set.C] = some b := by
  rcases h with ⟨a, r, rfl, h, rfl⟩ | ⟨rfl, d, h⟩
  · exact ⟨_, row_ty T h, T.kF r⟩
  · exact ⟨_, dp_ty h, T.kD d⟩
/-- what stands as rows: no sequence, or one of so many things -/
def FRows (R : TRows K mg) (H : Hp) (u : V) : Option (List V × List Bool) → Prop
  | none => (∃ d, Dp K H u d ∧ seqD d = false) ∨ ∃ a r, u = .ref a ∧ RowAt R H a r
  | some (xs, bs) => ∃ p, u = .ref p ∧ (SqL K H p xs ∨ SqT K H p xs) ∧ Paired (FillFlag R H) xs bs ∧ xs.length ≤ 1000
theorem FRows.same {R : TRows K mg} {H H' : Hp} {u : V} {o : Option (List V × List Bool)} (h : FRows R H u o) (s : Same H H') : FRows R H' u o := by
  cases o with
  | none =>
    rcases h with ⟨d, h, e⟩ | ⟨a, r, e, h⟩
    · exact .inl ⟨d, dp_same s d u h, e⟩
    · exact .inr ⟨a, r, e, h.same s⟩
  | some o =>
    obtain ⟨p, e, h, hp, hl⟩ := h
    exact ⟨p, e, h.elim (fun h => .inl (s.seq h)) (fun h => .inr (Same.sqt s h)), paired_mono (fun _ _ z => z.same s) hp, hl⟩
def argF : Option (List V × List Bool) → Bool
  | none => false
  | some (_, bs) => bs.all id
def spAreFill (R : TRows K mg) : Sp := fun vs H Q _ => ∃ (u : V) (o : Option (List V × List Bool)), vs = [u] ∧ FRows R H u o ∧ ∀ H', Same H H' → Q (.bl (argF o)) H'
theorem scAreFill : FnScope ["rows", "row"] ["rows"] (defScope sAreFill) := ⟨rfl, rfl, rfl, by decide +kernel, rfl, by decide +kernel, by decide +kernel⟩
theorem ok_areFill {R : TRows K mg} (T : TFil R) : FnOk P w K mg base CX0 2 T.areF.f T.areF.fd ["rows"] (spAreFill R) := by
  refine T.areF.F.ok scAreFill (fun vs H Q E h => ?_) (fun cdv A outer s H vs Q E hr h => ?_)
  · obtain ⟨u, o, rfl, _⟩ := h
    rfl
  · obtain ⟨u, o, rfl, ha, q⟩ := h
    refine ⟨_, pss_one (ps_ret (pe_and (pe_call (ok_isSeq T.isSeq.F R.N.mIsi T.mList T.mTup) (hr.mono (by decide)) rfl T.isSeq.m T.isSeq.F.kp T.isSeq.b .nil pass0 (pa_cons (pv 0) pa_nil))
      (pe_one (pe_callB (cr_all rfl) (by rfl) R.N.mAll (by decide +kernel) (pa_cons (pe_lc (own := [("row", 1)]) (g := gName 1) (tt := tYes) (by rfl) scAreFill.nd (pi_seq (pv 0))
            (blkOk_by (N := ["rows", "row"]) (sc := defScope sAreFill) (by decide +kernel)) (fun _ _ _ _ _ => pg_name (i := 1) scAreFill.nd rfl (Or.inl rfl)) (fun _ _ _ _ _ => pts_nil)
            (fun _ _ _ _ _ => pe_callB (show CallR _ (.builtin "isinstance") (rIsiT K) from call_isiT) (by rfl) R.N.mIsi (by decide +kernel) (pa_cons (pv 1) (pa_cons (pe_tup (pa_cons (pe_glob (v := .ref R.skip.C) (by rfl) R.skip.m rfl) (pa_cons (pe_glob (v := .ref R.set.C) (by rfl) R.set.m rfl) pa_nil))) pa_nil)))) pa_nil))))), ?_⟩
    cases o with
    | none =>
      have key : ∃ t, PySem.W.kitAny K t [.type "list", .type "tuple"] = some false ∧ TyX K H u t ∧ ∀ H', Same H H' → TyX K H' u t := by
        rcases ha with ⟨d, hd, hs⟩ | ⟨a, r, rfl, h⟩
        · exact ⟨_, by rw [kit_seq, hs], dp_ty hd, fun H' s' => dp_ty (dp_same s' d u hd)⟩
        · exact ⟨_, T.kS r, row_ty T h, fun H' s' => row_ty T (h.same s')⟩
      obtain ⟨t, k1, k2, k3⟩ := key
      refine ⟨_, rfl, u, t, false, rfl, k2, k1, k3, fun H1 s1 m1 => ⟨false, rfl, ?_⟩⟩
      exact q _ s1
    | some o =>
      obtain ⟨xs, bs⟩ := o
      obtain ⟨p, rfl, hp, hpd, hxl⟩ := ha
      have htk : ∃ t, PySem.W.kitAny K t [.type "list", .type "tuple"] = some true ∧ TyX K H (.ref p) t ∧ ∀ H', Same H H' → TyX K H' (.ref p) t := by
        rcases hp with hp | hp
        · exact ⟨_, kit_two (by decide +kernel : kitB "list" "list" = some true) (by decide +kernel : kitB "list" "tuple" = some false), sql_ty hp, fun H' s' => sql_ty (s'.seq hp)⟩
        · exact ⟨_, kit_two (by decide +kernel : kitB "tuple" "list" = some false) (by decide +kernel : kitB "tuple" "tuple" = some true), sqt_ty hp, fun H' s' => sqt_ty (Same.sqt s' hp)⟩
      obtain ⟨t, hk, ht1, ht2⟩ := htk
      refine ⟨_, rfl, _, t, true, rfl, ht1, hk, ht2, fun H2 hs2 hm2 => ⟨true, rfl, ?_⟩⟩
      have hp2 : SqL K H2 p xs ∨ SqT K H2 p xs := hp.elim (fun h => .inl (hs2.seq h)) (fun h => .inr (Same.sqt hs2 h))
      have hpd2 := paired_mono (fun _ _ z => z.same hs2) hpd
      have hbl : xs.length = bs.length := paired_len hpd
      refine iteT ?_
      dsimp only [tCB, tCons, tNil]
      have two : 2 ≤ sizeLine := by decide
      refine lcw_seq (K := K) (tl := tVar 0) (p := p) (xs := xs) (out := fun i => (bs[i]?).map V.bl) ?h0 hp2 (Nat.le_trans hxl (by decide)) ?tn ?fn
      case h0 => exact fun R z => ⟨_, rfl, z⟩
      case tn =>
        intro m x Hi S Y hx sI h0 h1
        obtain ⟨b, hb, hfl⟩ := paired_at hpd2 hx
        have hfi := hfl.same sI
        refine ⟨rfl, _, rfl, two, fun t ht => ?_⟩
        obtain ⟨ty, hty, hkt⟩ := fill_kit T (hfi.same (Same.new (o := .tup [.ref R.skip.C, .ref R.set.C]) ht))
        exact ⟨x, t, _, ty, _, b, rfl, upd_same, .cons (.own _) (.cons (.own _) .nil), hty, hkt, h1 (.bl b) (by show Option.map V.bl bs[m]? = _; rw [hb]; rfl) _ (Same.new ht)⟩
      case fn =>
        intro D H3 hD s3 h3
        have eo : (List.range xs.length).filterMap (fun i => (bs[i]?).map V.bl) = bs.map V.bl := by
          rw [hbl]
          exact out_map (l := bs) (f := V.bl)
        rw [eo] at h3
        exact ⟨D, bs, rfl, SqL.of h3, q _ (hs2.trans s3)⟩
/-- a pair of a name and rows, or none -/
def FillE (R : TRows K mg) (H : Hp) (v : V) (b : Bool) : Prop := (b = false ∧ ∃ d, Dp K H v d ∧ pairD d = false) ∨
  ∃ (t : Addr) (y u : V) (e : PyData) (o : Option (List V × List Bool)), v = .ref t ∧ SqT K H t [y, u] ∧ Dp K H y e ∧ dlen e ∧ (nameD e = false ∧ b = false ∨ nameD e = true ∧ FRows R H u o ∧ b = argF o)
theorem FillE.same {R : TRows K mg} {H H' : Hp} {v : V} {b : Bool} (h : FillE R H v b) (s : Same H H') : FillE R H' v b := by
  rcases h with ⟨e, d, h, hp⟩ | ⟨t, y, u, e, o, ev, ht, hy, hl, h⟩
  · exact .inl ⟨e, d, dp_same s d v h, hp⟩
  · exact .inr ⟨t, y, u, e, o, ev, Same.sqt s ht, dp_same s e y hy, hl, h.imp id fun ⟨a, b, c⟩ => ⟨a, b.same s, c⟩⟩
def spIsPairF (K : PySem.W.Frag) : Sp := fun vs H Q _ => ∃ (v : V) (b : Bool), vs = [v] ∧ ((∃ d, Dp K H v d ∧ pairD d = b) ∨ (b = true ∧ ∃ t y u, v = .ref t ∧ SqT K H t [y, u])) ∧ Q (.bl b) H
theorem scIsPairF : FnScope ["value"] ["value"] (defScope sIsPairF) := ⟨rfl, rfl, rfl, by decide +kernel, rfl, by decide +kernel, by decide +kernel⟩
theorem ok_isPairF {R : TRows K mg} (T : TFil R) : FnOk P w K mg base CX0 1 T.isPair.f T.isPair.fd ["value"] (spIsPairF K) := by
  refine T.isPair.F.ok scIsPairF (fun vs H Q E h => ?_) (fun cdv A outer s H vs Q E hr h => ?_)
  · obtain ⟨v, b, rfl, _⟩ := h
    rfl
  · obtain ⟨v, b, rfl, hd, q⟩ := h
    refine ⟨_, pss_one (ps_ret (pe_and (pe_callB call_isi (by rfl) R.N.mIsi (by decide +kernel) (pa_cons (pv 0) (pa_cons (pe_bltn (v := .ty "tuple") (by rfl) T.mTup (by decide +kernel) rfl) pa_nil)))
      (pe_one (pe_cmpR op_eq (pe_callB call_len_seq (by rfl) R.N.mLen PySem.boot_len (pa_cons (pv 0) pa_nil)) pe_int (nomark _))))), ?_⟩
    have eqi : ∀ n : Int, decide (V.int n = V.int 2) = decide (n = 2) := fun n => decide_eq_decide.mpr ⟨fun z => V.int.inj z, fun z => congrArg V.int z⟩
    rcases hd with ⟨d, hd, rfl⟩ | ⟨rfl, t, y, u, rfl, ht⟩
    · refine ⟨_, rfl, v, .ty "tuple", _, _, tupT d, rfl, .ty _, dp_ty hd, kit_ty (kit_tupT d), _, rfl, ?_⟩
      cases d with
      | none => exact q
      | str z => exact q
      | list ds => exact q
      | dict ds => exact q
      | int i => exact q
      | bool i => exact q
      | tuple ds =>
        refine iteT ?_
        cases hd with
        | tup s a =>
          refine ⟨_, rfl, _, _, rfl, .inr s, rfl, ?_⟩
          rw [pair_len, ← dpAll_len a] at q
          show Q (V.bl (decide (V.int _ = V.int 2))) H
          rw [eqi]
          exact q
    · refine ⟨_, rfl, _, .ty "tuple", _, _, true, rfl, .ty _, sqt_ty ht, kit_ty (by decide +kernel : kitB "tuple" "tuple" = some true), _, rfl, iteT ?_⟩
      refine ⟨_, rfl, _, _, rfl, .inr ht, rfl, ?_⟩
      exact q
def spIsFilled (R : TRows K mg) : Sp := fun vs H Q _ => ∃ (v : V) (b : Bool), vs = [v] ∧ FillE R H v b ∧ ∀ H', Same H H' → Q (.bl b) H'
theorem scIsFilled : FnScope ["value"] ["value"] (defScope sIsFilled) := ⟨rfl, rfl, rfl, by decide +kernel, rfl, by decide +kernel, by decide +kernel⟩
theorem ok_isFilled {R : TRows K mg} (T : TFil R) : FnOk P w K mg base CX0 3 T.isF.f T.isF.fd ["value"] (spIsFilled R) := by
  refine T.isF.F.ok scIsFilled (fun vs H Q E h => ?_) (fun cdv A outer s H vs Q E hr h => ?_)
  · obtain ⟨v, b, rfl, _⟩ := h
    rfl
  · obtain ⟨v, b, rfl, hv, q⟩ := h
    refine ⟨_, pss_one (ps_ret (pe_and (pe_call (ok_isPairF T) (hr.mono (by decide)) rfl T.isPair.m T.isPair.F.kp T.isPair.b .nil pass0 (pa_cons (pv 0) pa_nil))
      (pe_and (pe_call R.N.okName (hr.mono (by decide)) rfl R.N.isName.m R.N.isName.F.kp R.N.isName.b .nil pass0 (pa_cons (pe_ix ix_tup (pv 0) pe_int (fun _ _ => rfl)) pa_nil))
      (pe_one (pe_call (ok_areFill T) (hr.mono (by decide)) rfl T.areF.m T.areF.F.kp T.areF.b .nil pass0 (pa_cons (pe_ix ix_tup (pv 0) pe_int (fun _ _ => rfl)) pa_nil)))))), ?_⟩
    rcases hv with ⟨rfl, d, hd, hp⟩ | ⟨t, y, u, e, o, rfl, ht, hy, hl, h⟩
    · refine ⟨_, rfl, v, false, rfl, .inl ⟨d, hd, hp⟩, false, rfl, ?_⟩
      exact q _ (Same.refl _)
    · refine ⟨_, rfl, _, true, rfl, .inr ⟨rfl, t, y, u, rfl, ht⟩, true, rfl, iteT ?_⟩
      refine ⟨_, rfl, t, _, _, y, rfl, rfl, ht, atI_nat (j := 0) rfl, y, e, rfl, hy, hl, fun H1 s1 m1 => ⟨nameD e, rfl, ?_⟩⟩
      rcases h with ⟨hn, rfl⟩ | ⟨hn, hr2, rfl⟩
      · rw [hn]
        exact q _ s1
      · rw [hn]
        refine iteT ?_
        exact ⟨_, rfl, t, _, _, u, rfl, rfl, Same.sqt s1 ht, atI_nat (j := 1) rfl, u, o, rfl, hr2.same s1, fun H2 s2 => q _ (s1.trans s2)⟩
end
end Pn

namespace Pn
open PySem PySem.Spec PyProof.Rows L2 TL
abbrev sFInit : Stmt := inClass (top 28) 0
abbrev sIFInit : Stmt := inClass (top 12) 0
/-! ### Filling.__init__: what is made, what is refused -/
def rLenSq (K : PySem.W.Frag) : List V → Hp → VK → Prop := fun xs H Q => ∃ (p : Addr) (ys : List V), xs = [.ref p] ∧ (SqL K H p ys ∨ SqT K H p ys) ∧ Q (.int ys.length) H
theorem call_len_sq {X : Cx} : CallR X (.builtin "len") (rLenSq X.K) := call_len_seq
def rTupO (K : PySem.W.Frag) : List V → Hp → VK → Prop := fun xs H Q => ∃ (p : Addr) (ys : List V), xs = [.ref p] ∧ ((SqL K H p ys ∧ ∀ l, H l = none → Q (.ref l) (upd H l (.tup ys))) ∨ (SqT K H p ys ∧ Q (.ref p) H))
theorem call_tupO {X : Cx} : CallR X (.type "tuple") (rTupO X.K) := call_tuple_of
def rDictX2 (K : PySem.W.Frag) : List V → Hp → VK → Prop := fun xs H Q => ∃ (a : Addr) (ps : List Addr) (kvs : List (Key × V)), xs = [.ref a] ∧ (SqL K H a (ps.map V.ref) ∨ TupX H a (ps.map V.ref)) ∧ Paired (fun p kv => SqT K H p [kV kv.1, kv.2]) ps kvs ∧
  ∀ p, H p = none → Q (.ref p) (upd H p (.dK (mergeK [] kvs)))
theorem cr_dictX2 {X : Cx} (hc : X.calm = true) : CallR X (.type "dict") (rDictX2 X.K) := by
  rintro pins s σ H xs us Q I r ⟨a, ps, kvs, rfl, hq | hq, hp, q⟩
  · exact call_dictP hc pins s σ H _ us Q I r ⟨a, ps, kvs, rfl, hq, hp, q⟩
  · exact cr_dictX hc pins s σ H _ us Q I r ⟨a, ps, kvs, rfl, hq, hp, q⟩
theorem roomV {k : Nat} {A : Around} (r : Room k A) : A.units + 1 < cLine := by have := r.un; omega
/-- raised, from a heap on -/
def RaiseF (C : Addr) (H : Hp) (E : XK) (wd : V) : Prop := ∀ (e : Addr) (H' : Hp), Same H H' → H' e = some (.xd [("word", wd)]) → E (.ref C) (some e) H'
theorem if_made {C : Addr} {H H1 : Hp} {E : XK} {wd : V} (s : Same H H1) (h : RaiseF C H E wd) {a : Addr} (ha : H1 a = none) (dx : Addr) (h1 : (upd H1 a (exo a C none)) dx = none) (h2 : dx ≠ a) :
    E (.ref C) (some dx) (upd (del (upd (upd (upd H1 a (exo a C none)) dx (exd dx [("word", wd)])) a (exo a C (some dx))) a) dx (.xd [("word", wd)])) :=
  h dx _ (s.trans (same_made ha (by rw [upd_ne h2] at h1; exact h1))) upd_same
/-- a name, where its rows stand, the rows -/
abbrev FilD := Str × Addr × List RowD
section
variable {P : Program} {w : World} {K : PySem.W.Frag} {mg : Str → Option Value} {base : Heap}
theorem scIFInit : FnScope ["self", "word"] ["self", "word"] (defScope sIFInit) := ⟨rfl, rfl, rfl, by decide +kernel, rfl, by decide +kernel, by decide +kernel⟩
theorem okIFInit (T : TExc K mg "InvalidFilling" "InvalidFilling.__init__" "word" sIFInit) : FnOk P w K mg base CX0 1 T.fI T.fd ["self", "word"] (spXInit K "word") := by
  refine T.F.ok scIFInit (fun vs H Q E h => ?_) (fun cdv A outer s H vs Q E hr h => ?_)
  · obtain ⟨a, C, v, rfl, _⟩ := h
    rfl
  · obtain ⟨a, C, v, rfl, ha, O, no, q⟩ := h
    refine ⟨_, pss_one (ps_ost (pv 0) (pv 1)), ?_⟩
    exact ⟨_, rfl, _, rfl, a, C, rfl, O, no, .inl ⟨ha, fun dx h1 h2 => q dx h1 h2⟩⟩
structure TFill {K : PySem.W.Frag} {mg : Str → Option Value} (R : TRows K mg) : Type extends TFil R where
  mSet : mg "set" = none
  mSorted : mg "sorted" = none
  mDict : mg "dict" = none
  IF : TExc K mg "InvalidFilling" "InvalidFilling.__init__" "word" sIFInit
  C : Addr
  mC : mg "Filling" = some (.ref C)
  fI : Addr
  fdI : FuncData
  dP : Addr
  hP : ∀ H, SqT K H dP []
  FI : FunD K "__init__" "Filling.__init__" (defArgs sFInit) (defBody sFInit) (defScope sFInit) [.ref dP] [] fI fdI
  bI : Binds K fdI ["self", "parts"] []
  M : Mk K C fI
  cl : Cls K C
  noF : NoAttr K C "filled"
/-- rows as they stand: a list or a tuple of rows that can stand in a filling -/
def FRowsAt (R : TRows K mg) (H : Hp) (q : Addr) (us : List Addr) (rs : List RowD) : Prop := (SqL K H q (us.map V.ref) ∨ SqT K H q (us.map V.ref)) ∧ Paired (fun u r => RowAt R H u r) us rs ∧ (∀ r ∈ rs, fillB r = true) ∧ rs.length ≤ 1000
theorem FRowsAt.same {R : TRows K mg} {H H' : Hp} {q : Addr} {us : List Addr} {rs : List RowD} (h : FRowsAt R H q us rs) (s : Same H H') : FRowsAt R H' q us rs := by
  obtain ⟨a, b, c⟩ := h
  exact ⟨a.elim (fun h => .inl (s.seq h)) (fun h => .inr (Same.sqt s h)), paired_mono (fun _ _ z => z.same s) b, c⟩
/-- a good pair -/
def FPair (R : TRows K mg) (H : Hp) (t : Addr) (c : FilD) : Prop := SqT K H t [.str c.1, .ref c.2.1] ∧ nameS c.1 = true ∧ ∃ us, FRowsAt R H c.2.1 us c.2.2
theorem FPair.same {R : TRows K mg} {H H' : Hp} {t : Addr} {c : FilD} (h : FPair R H t c) (s : Same H H') : FPair R H' t c := by
  obtain ⟨a, b, us, d⟩ := h
  exact ⟨Same.sqt s a, b, us, d.same s⟩
theorem flags_all {R : TRows K mg} {H : Hp} : ∀ {us : List Addr} {rs : List RowD}, Paired (fun u r => RowAt R H u r) us rs → (∀ r ∈ rs, fillB r = true) → Paired (FillFlag R H) (us.map V.ref) (rs.map fun _ => true)
  | _, _, .nil, _ => .nil
  | _, _, .cons a b, h => .cons (.inl ⟨_, _, rfl, a, (h _ List.mem_cons_self).symm⟩) (flags_all b fun r hr => h r (List.mem_cons_of_mem _ hr))
theorem FPair.fillE {R : TRows K mg} {H : Hp} {t : Addr} {c : FilD} (h : FPair R H t c) : FillE R H (.ref t) true := by
  obtain ⟨a, b, us, d, e, f, g⟩ := h
  refine .inr ⟨t, .str c.1, .ref c.2.1, .str c.1, some (us.map V.ref, c.2.2.map fun _ => true), rfl, a, .str _, ?_, .inr ⟨b, ⟨c.2.1, rfl, d, flags_all e f, by rw [List.length_map, paired_len e]; exact g⟩, ?_⟩⟩
  · show c.1.length ≤ 900
    exact Nat.le_trans (name_ok b).2 (by decide)
  · show true = (c.2.2.map fun _ => true).all id
    symm
    rw [List.all_eq_true]
    intro x hx
    obtain ⟨_, _, rfl⟩ := List.mem_map.mp hx
    rfl
/-- what is no sequence -/
def NoSq (K : PySem.W.Frag) (H : Hp) (v : V) : Prop := ∃ t, TyX K H v t ∧ PySem.W.kitAny K t [.type "list", .type "tuple"] = some false ∧ ∀ H', Same H H' → TyX K H' v t
/-- what a filling keeps -/
def FilAt (R : TRows K mg) (H : Hp) (tp : Addr) (cs : List FilD) : Prop := ∃ (ps : List Addr) (ys : List Str), SqT K H tp (ps.map V.ref) ∧ ys.Perm (uniq ((cs.filter fun c => decide (c.2.2 ≠ [])).map (·.1))) ∧ sortedS ys = true ∧
  Paired (fun p y => ∃ (c : FilD) (q : Addr) (us : List Addr), c ∈ cs ∧ c.1 = y ∧ SqT K H p [.str y, .ref q] ∧ SqT K H q (us.map V.ref) ∧ Paired (fun u r => RowAt R H u r) us c.2.2 ∧ ∀ r ∈ c.2.2, fillB r = true) ps ys
def insFil (C dx : Addr) (u : V) : HO := .ins C dx (putF "filled" u [])
def spFInit (R : TRows K mg) (C CF : Addr) : Sp := fun vs H Q E => ∃ (x dx : Addr) (v : V), vs = [.ref x, v] ∧ H x = some (.ins C dx []) ∧
  ((NoSq K H v ∧ RaiseF CF H E (.str "parts")) ∨
   (∃ (p : Addr) (xs : List V) (bs : List Bool), v = .ref p ∧ (SqL K H p xs ∨ SqT K H p xs) ∧ Paired (FillE R H) xs bs ∧ xs.length ≤ 1000 ∧ bs.all id = false ∧ RaiseF CF H E (.str "parts")) ∨
   (∃ (p : Addr) (ts : List Addr) (cs : List FilD), v = .ref p ∧ (SqL K H p (ts.map V.ref) ∨ SqT K H p (ts.map V.ref)) ∧ Paired (FPair R H) ts cs ∧ cs.length ≤ 60 ∧ ¬ (cs.map (·.1)).Nodup ∧ RaiseF CF H E (.str "name")) ∨
   (∃ (p : Addr) (ts : List Addr) (cs : List FilD), v = .ref p ∧ (SqL K H p (ts.map V.ref) ∨ TupX H p (ts.map V.ref)) ∧ Paired (FPair R H) ts cs ∧ cs.length ≤ 60 ∧ (cs.map (·.1)).Nodup ∧
     ∀ (tp : Addr) (H' : Hp), KpI x H H' → FilAt R H' tp cs → H' x = some (insFil C dx (.ref tp)) → Q .non H'))
/-! ### names, each once -/
theorem sub_len {α : Type} [DecidableEq α] : ∀ {l m : List α}, l.Nodup → (∀ z ∈ l, z ∈ m) → l.length ≤ m.length
  | [], _, _, _ => Nat.zero_le _
  | a :: l, m, nd, h => by
    rw [List.nodup_cons] at nd
    have ha := h a List.mem_cons_self
    have q := sub_len (l := l) (m := m.erase a) nd.2 fun z hz => (List.mem_erase_of_ne (fun e => nd.1 (by rw [← e]; exact hz))).mpr (h z (List.mem_cons_of_mem _ hz))
    rw [List.length_erase_of_mem ha] at q
    have p := List.length_pos_of_mem ha
    rw [List.length_cons]
    omega
theorem uniq_all {l : List Str} (h : l.Nodup) : (uniq l).length = l.length := Nat.le_antisymm (uniq_len l) (sub_len h fun z hz => (uniq_has l z).mpr hz)
theorem uniq_less : ∀ {l : List Str}, ¬ l.Nodup → (uniq l).length < l.length
  | [], h => absurd List.nodup_nil h
  | a :: l, h => by
    rw [List.nodup_cons] at h
    by_cases ha : a ∈ l
    · refine Nat.lt_of_le_of_lt (sub_len (m := l) (uniq_nodup _) fun z hz => ?_) (Nat.lt_succ_self _)
      rcases List.mem_cons.mp ((uniq_has _ z).mp hz) with rfl | q
      · exact ha
      · exact q
    · have hl : ¬ l.Nodup := fun z => h ⟨ha, z⟩
      have ih := uniq_less hl
      have q := sub_len (m := a :: uniq l) (uniq_nodup (a :: l)) fun z hz => by
        rcases List.mem_cons.mp ((uniq_has _ z).mp hz) with rfl | q
        · exact List.mem_cons_self
        · exact List.mem_cons_of_mem _ ((uniq_has l z).mpr q)
      rw [List.length_cons] at q ⊢
      omega
theorem merge_outF {f : FilD → V} : ∀ {cs : List FilD} {kv : List (Key × V)} {z : Str}, z ∉ cs.map (·.1) → valV (mergeK kv (cs.map fun c => (Sum.inr c.1, f c))) (.inr z) = valV kv (.inr z)
  | [], kv, z, _ => rfl
  | c :: cs, kv, z, h => by
    have h1 : z ≠ c.1 := fun e => h (by rw [e]; exact List.mem_cons_self)
    have h2 : z ∉ cs.map (·.1) := fun e => h (List.mem_cons_of_mem _ e)
    show valV (mergeK (putK kv (.inr c.1) (f c)) (cs.map fun c => (Sum.inr c.1, f c))) (.inr z) = _
    rw [merge_outF h2, valV_put, if_neg (fun e => h1 (by injection e))]
theorem merge_inF {f : FilD → V} : ∀ {cs : List FilD} {kv : List (Key × V)} {c : FilD}, (cs.map (·.1)).Nodup → c ∈ cs → valV (mergeK kv (cs.map fun c => (Sum.inr c.1, f c))) (.inr c.1) = some (f c)
  | [], kv, c, _, h => by cases h
  | d :: cs, kv, c, nd, h => by
    rw [List.map_cons, List.nodup_cons] at nd
    show valV (mergeK (putK kv (.inr d.1) (f d)) (cs.map fun c => (Sum.inr c.1, f c))) (.inr c.1) = _
    rcases List.mem_cons.mp h with rfl | h
    · rw [merge_outF nd.1, valV_put, if_pos rfl]
    · exact merge_inF nd.2 h
/-- one if whose body is only a raise, told by a flag -/
theorem stepEither {tt : TT} {A C : TS} {D : Ends} {σ : L2.St} {H : Hp} (b : Bool) (G : Hp → Prop) (h1 : ∀ Q : Bool → Hp → Prop, (∀ H', G H' → Q b H') → tt σ H Q) (hT : b = true → ∀ H', G H' → A { D with nx := C D } σ H') (hF : b = false → ∀ H', G H' → C D σ H') : tSeq (tIfS tt A tNext) C D σ H := h1 _ fun H' g => by
  cases b with
  | true =>
    rw [if_pos rfl]
    exact hT rfl H' g
  | false =>
    rw [if_neg Bool.false_ne_true]
    exact hF rfl H' g
theorem pairs_flags {R : TRows K mg} {H : Hp} : ∀ {ts : List Addr} {cs : List FilD}, Paired (FPair R H) ts cs → Paired (FillE R H) (ts.map V.ref) (cs.map fun _ => true)
  | _, _, .nil => .nil
  | _, _, .cons a b => .cons a.fillE (pairs_flags b)
theorem all_true {α : Type} (l : List α) : (l.map fun _ => true).all id = true := by
  rw [List.all_eq_true]
  intro x hx
  obtain ⟨_, _, rfl⟩ := List.mem_map.mp hx
  rfl
theorem kind_seq {K : PySem.W.Frag} {H : Hp} {p : Addr} {xs : List V} (hp : SqL K H p xs ∨ SqT K H p xs) : ∃ t, PySem.W.kitAny K t [.type "list", .type "tuple"] = some true ∧ TyX K H (.ref p) t ∧ ∀ H', Same H H' → TyX K H' (.ref p) t := by
  rcases hp with hp | hp
  · exact ⟨_, kit_two (by decide +kernel : kitB "list" "list" = some true) (by decide +kernel : kitB "list" "tuple" = some false), sql_ty hp, fun H' s' => sql_ty (s'.seq hp)⟩
  · exact ⟨_, kit_two (by decide +kernel : kitB "tuple" "list" = some false) (by decide +kernel : kitB "tuple" "tuple" = some true), sqt_ty hp, fun H' s' => sqt_ty (Same.sqt s' hp)⟩
theorem sqt_sameN {K : PySem.W.Frag} {H H' : Hp} {a : Addr} {xs : List V} (s : SameN H H') (h : SqT K H a xs) : SqT K H' a xs := by
  rcases h with (e | ⟨o, e⟩) | e
  · exact .inl (.inl (s _ _ e fun _ z => nomatch z))
  · exact .inl (.inr ⟨o, s _ _ e fun _ z => nomatch z⟩)
  · exact .inr e
theorem RowAt.sameN {R : TRows K mg} {H H' : Hp} {a : Addr} {r : RowD} (s : SameN H H') (h : RowAt R H a r) : RowAt R H' a r := by
  obtain ⟨dx, e⟩ := h
  obtain ⟨gs, eg⟩ := insRow_ins R dx r
  exact ⟨dx, s _ _ e fun _ z => by rw [eg] at z; cases z⟩
theorem filter_out : ∀ cs : List FilD, cs.filterMap (fun c => if c.2.2 = [] then none else some (V.str c.1)) = ((cs.filter fun c => decide (c.2.2 ≠ [])).map (·.1)).map V.str
  | [] => rfl
  | c :: cs => by
    by_cases h : c.2.2 = []
    · rw [List.filterMap_cons, List.filter_cons]
      simp only [h, if_true, ne_eq, not_true, decide_false, Bool.false_eq_true, if_false]
      exact filter_out cs
    · rw [List.filterMap_cons, List.filter_cons]
      simp only [h, if_false, ne_eq, not_false_iff, decide_true, if_true, List.map_cons]
      rw [filter_out cs]
theorem pairs_kv {R : TRows K mg} {H : Hp} : ∀ {ts : List Addr} {cs : List FilD}, Paired (FPair R H) ts cs → Paired (fun p (kv : Key × V) => SqT K H p [kV kv.1, kv.2]) ts (cs.map fun c => (Sum.inr c.1, V.ref c.2.1))
  | _, _, .nil => .nil
  | _, _, .cons a b => .cons a.1 (pairs_kv b)
/-- what stands as one pair of a filling -/
def FOne (R : TRows K mg) (cs : List FilD) (H : Hp) (p : Addr) (y : Str) : Prop := ∃ (c : FilD) (q : Addr) (us : List Addr), c ∈ cs ∧ c.1 = y ∧ SqT K H p [.str y, .ref q] ∧ SqT K H q (us.map V.ref) ∧ Paired (fun u r => RowAt R H u r) us c.2.2 ∧ ∀ r ∈ c.2.2, fillB r = true
theorem FOne.sameN {R : TRows K mg} {cs : List FilD} {H H' : Hp} {p : Addr} {y : Str} (s : SameN H H') (h : FOne R cs H p y) : FOne R cs H' p y := by
  obtain ⟨c, q, us, h1, h2, h3, h4, h5, h6⟩ := h
  exact ⟨c, q, us, h1, h2, sqt_sameN s h3, sqt_sameN s h4, paired_mono (fun _ _ z => RowAt.sameN s z) h5, h6⟩
theorem FOne.ins {R : TRows K mg} {cs : List FilD} {H : Hp} {p x C dx : Addr} {y : Str} {o : HO} (hx : H x = some (.ins C dx [])) (h : FOne R cs H p y) : FOne R cs (upd H x o) p y := by
  obtain ⟨c, q, us, h1, h2, h3, h4, h5, h6⟩ := h
  refine ⟨c, q, us, h1, h2, sqt_ins hx h3, sqt_ins hx h4, paired_mono (fun u r z => ?_) h5, h6⟩
  obtain ⟨dy, fs, e, _, _, hl⟩ := row_word R z
  have ne : u ≠ x := fun w => by
    rw [w, hx] at e
    cases e
    cases hl
  obtain ⟨d2, e2⟩ := z
  exact ⟨d2, by rw [upd_ne ne]; exact e2⟩
theorem scFInit : FnScope ["self", "parts", "names", "given", "pair", "name", "rows"] ["self", "parts"] (defScope sFInit) := ⟨rfl, rfl, rfl, by decide +kernel, rfl, by decide +kernel, by decide +kernel⟩
theorem okFInit {R : TRows K mg} (T : TFill R) : FnOk P w K mg base (L2.CX P w) 5 T.fI T.fdI ["self", "parts"] (spFInit R T.C T.IF.C) := by
  refine T.FI.ok scFInit (fun vs H Q E h => ?_) (fun cdv A outer s H vs Q E hr h => ?_)
  · obtain ⟨x, dx, v, rfl, _⟩ := h
    rfl
  · obtain ⟨x, dx, v, rfl, hx, h⟩ := h
    refine ⟨_, (pss_cons (ps_if (PW.pt (pw_or (pt_not (pt_val (pe_call (ok_isSeq T.isSeq.F R.N.mIsi T.mList T.mTup) (hr.mono (by decide)) rfl T.isSeq.m T.isSeq.F.kp T.isSeq.b .nil pass0 (pa_cons (pv 1) pa_nil)))) (pw_or1 (pt_not (pt_val (pe_callB (cr_all rfl) (by rfl) R.N.mAll (by decide +kernel) (pa_cons (pe_lc (own := [("pair", 4)]) (g := gName 4) (tt := tYes) (by rfl) scFInit.nd (pi_seq (pv 1))
 (blkOk_by (N := ["self", "parts", "names", "given", "pair", "name", "rows"]) (sc := defScope sFInit) (by decide +kernel)) (fun _ _ _ _ _ => (pg_name (i := 4) scFInit.nd rfl (Or.inl rfl))) (fun _ _ _ _ _ => pts_nil) (fun _ _ _ _ _ => (pe_call (ok_isFilled T.toTFil) (hr.mono (by decide)) rfl T.isF.m T.isF.F.kp T.isF.b .nil pass0 (pa_cons (pv 4) pa_nil)))) pa_nil))))))) (pss_one (ps_raise rfl (takes_of rfl rfl rfl rfl) (pmk_oex T.IF.O T.IF.iC T.IF.tI (okIFInit T.IF) (hr.mono (by decide)) T.IF.b .nil pass0 rfl T.IF.m (pa_cons pe_str pa_nil)))) pss_nil)
(pss_cons (ps_if (pt_cmpR op_lt (pe_callB cr_lenX (by rfl) R.N.mLen PySem.boot_len (pa_cons (pe_callTy (cr_setX rfl) (by rfl) T.mSet (by decide +kernel) (pa_cons (pe_lc (own := [("name", 5), ("rows", 6)]) (g := gTup K 2 (gCons (gName 5) (gCons (gName 6) gNil))) (tt := tYes) (by rfl) scFInit.nd (pi_seq (pv 1))
 (blkOk_by (N := ["self", "parts", "names", "given", "pair", "name", "rows"]) (sc := defScope sFInit) (by decide +kernel)) (fun _ _ _ _ _ => (pg_tup (by rfl) (pgs_cons (pg_name (i := 5) scFInit.nd rfl (Or.inl rfl)) (pgs_cons (pg_name (i := 6) scFInit.nd rfl (Or.inl rfl)) pgs_nil)))) (fun _ _ _ _ _ => pts_nil) (fun _ _ _ _ _ => (pv 5))) pa_nil)) pa_nil)) (pe_callB (show CallR _ (.builtin "len") (rLenSq K) from call_len_sq) (by rfl) R.N.mLen PySem.boot_len (pa_cons (pv 1) pa_nil)) (nomark _)) (pss_one (ps_raise rfl (takes_of rfl rfl rfl rfl) (pmk_oex T.IF.O T.IF.iC T.IF.tI (okIFInit T.IF) (hr.mono (by decide)) T.IF.b .nil pass0 rfl T.IF.m (pa_cons pe_str pa_nil)))) pss_nil)
(pss_cons (ps_set (i := 2) scFInit.nd rfl (Or.inl rfl) (pe_callB (cr_sortX rfl) (by rfl) T.mSorted (by decide +kernel) (pa_cons (pe_callTy (cr_setX rfl) (by rfl) T.mSet (by decide +kernel) (pa_cons (pe_lc (own := [("name", 5), ("rows", 6)]) (g := gTup K 2 (gCons (gName 5) (gCons (gName 6) gNil))) (by rfl) scFInit.nd (pi_seq (pv 1))
 (blkOk_by (N := ["self", "parts", "names", "given", "pair", "name", "rows"]) (sc := defScope sFInit) (by decide +kernel)) (fun _ _ _ _ _ => (pg_tup (by rfl) (pgs_cons (pg_name (i := 5) scFInit.nd rfl (Or.inl rfl)) (pgs_cons (pg_name (i := 6) scFInit.nd rfl (Or.inl rfl)) pgs_nil)))) (fun _ _ _ _ _ => pts_one (pt_cmpR op_gt (pe_callB (show CallR _ (.builtin "len") (rLenSq K) from call_len_sq) (by rfl) R.N.mLen PySem.boot_len (pa_cons (pv 6) pa_nil)) pe_int (nomark _))) (fun _ _ _ _ _ => (pv 5))) pa_nil)) pa_nil)))
(pss_cons (ps_set (i := 3) scFInit.nd rfl (Or.inr rfl) (pe_callTy (cr_dictX2 rfl) (by rfl) T.mDict (by decide +kernel) (pa_cons (pv 1) pa_nil)))
(pss_one (ps_fld (pv 0) (pe_callTy (show CallR _ (.type "tuple") (rTupO K) from call_tupO) (by rfl) T.mTup (by decide +kernel) (pa_cons (pe_lc (own := [("name", 5)]) (g := gName 5) (tt := tYes) (by rfl) scFInit.nd (pi_list (pv 2))
 (blkOk_by (N := ["self", "parts", "names", "given", "pair", "name", "rows"]) (sc := defScope sFInit) (by decide +kernel)) (fun _ _ _ _ _ => (pg_name (i := 5) scFInit.nd rfl (Or.inl rfl))) (fun _ _ _ _ _ => pts_nil) (fun _ _ _ _ _ => (pe_tup (pa_cons (pv 5) (pa_cons (pe_callTy (show CallR _ (.type "tuple") (rTupO K) from call_tupO) (by rfl) T.mTup (by decide +kernel) (pa_cons (pe_dget (roomV hr) (pv 3) (pv 5) (fun _ _ => rfl)) pa_nil)) pa_nil))))) pa_nil)) rfl)))))), ?_⟩
    rcases h with ⟨⟨t, ty, hk, keep⟩, hz⟩ | h
    · refine stepEither true (fun H' => Same H H') (fun Q' hQ => ?_) (fun _ H1 s1 => ?_) (fun z => nomatch z)
      · exact ⟨_, rfl, v, t, false, rfl, ty, hk, keep, fun H1 s1 m1 => ⟨false, rfl, hQ _ s1⟩⟩
      · exact ⟨(by show 1 ≤ 1000; decide), fun a ha => ⟨a, T.IF.C, _, rfl, upd_same, T.IF.O, T.IF.noF, fun dx g1 g2 => ⟨rfl, dx, _, upd_same, by rw [upd_ne g2, upd_same], by rw [upd_ne g2] at g1; exact g1, if_made s1 hz ha dx g1 g2⟩⟩⟩
    have first : ∀ (p : Addr) (xs : List V) (bs : List Bool), v = .ref p → (SqL K H p xs ∨ SqT K H p xs) → Paired (FillE R H) xs bs → xs.length ≤ 1000 → ∀ Q' : Bool → Hp → Prop, (∀ H', Same H H' → Q' (!bs.all id) H') →
        (tOr (tNot (tB (tCall (spIsSeq K) [] E0 (tCons (tVar 1) tNil)))) (tNot (tB (tCB (rAll K) (tCons (tLc (iSeq K (tVar 1)) (gName 4) tYes (tCall (spIsFilled R) [] E0 (tCons (tVar 4) tNil)) [4]) tNil))))) (L2.start ["self", "parts", "names", "given", "pair", "name", "rows"] [.ref x, v]) H Q' := by
      intro p xs bs hv hp hpd hxl Q' hQ
      subst hv
      obtain ⟨t, hk, ht1, ht2⟩ := kind_seq hp
      refine ⟨_, rfl, _, t, true, rfl, ht1, hk, ht2, fun H1 s1 m1 => ⟨true, rfl, iteF ?_⟩⟩
      dsimp only [tNot, tB, tCB, tCons, tNil]
      have hp1 : SqL K H1 p xs ∨ SqT K H1 p xs := hp.elim (fun h => .inl (s1.seq h)) (fun h => .inr (Same.sqt s1 h))
      have hpd1 := paired_mono (fun _ _ z => z.same s1) hpd
      have hbl : xs.length = bs.length := paired_len hpd
      refine lcw_seq (K := K) (tl := tVar 1) (p := p) (xs := xs) (out := fun i => (bs[i]?).map V.bl) ?h0 hp1 (Nat.le_trans hxl (by decide)) ?tn ?fn
      case h0 => exact fun R z => ⟨_, rfl, z⟩
      case tn =>
        intro m y Hi S Y hy sI h0 h1
        obtain ⟨b, hb, hfl⟩ := paired_at hpd1 hy
        exact ⟨rfl, _, rfl, y, b, rfl, hfl.same sI, fun H' s' => h1 (.bl b) (by show Option.map V.bl bs[m]? = _; rw [hb]; rfl) H' s'⟩
      case fn =>
        intro D H3 hD s3 h3
        have eo : (List.range xs.length).filterMap (fun i => (bs[i]?).map V.bl) = bs.map V.bl := by
          rw [hbl]
          exact out_map (l := bs) (f := V.bl)
        rw [eo] at h3
        exact ⟨D, bs, rfl, SqL.of h3, bs.all id, rfl, hQ _ (s1.trans s3)⟩
    rcases h with ⟨p, xs, bs, rfl, hp, hpd, hxl, hall, hz⟩ | h
    · refine stepEither true (fun H' => Same H H') (fun Q' hQ => first p xs bs rfl hp hpd hxl Q' (fun H' s => by rw [hall]; exact hQ _ s)) (fun _ H1 s1 => ?_) (fun z => nomatch z)
      exact ⟨(by show 1 ≤ 1000; decide), fun a ha => ⟨a, T.IF.C, _, rfl, upd_same, T.IF.O, T.IF.noF, fun dx g1 g2 => ⟨rfl, dx, _, upd_same, by rw [upd_ne g2, upd_same], by rw [upd_ne g2] at g1; exact g1, if_made s1 hz ha dx g1 g2⟩⟩⟩
    have both : ∃ (p : Addr) (ts : List Addr) (cs : List FilD), v = .ref p ∧ (SqL K H p (ts.map V.ref) ∨ SqT K H p (ts.map V.ref)) ∧ Paired (FPair R H) ts cs ∧ cs.length ≤ 60 ∧ ((¬ (cs.map (·.1)).Nodup ∧ RaiseF T.IF.C H E (.str "name")) ∨
        ((cs.map (·.1)).Nodup ∧ (SqL K H p (ts.map V.ref) ∨ TupX H p (ts.map V.ref)) ∧ ∀ (tp : Addr) (H' : Hp), KpI x H H' → FilAt R H' tp cs → H' x = some (insFil T.C dx (.ref tp)) → Q .non H')) := by
      rcases h with ⟨p, ts, cs, e, hp, pd, hl, nd, hz⟩ | ⟨p, ts, cs, e, hp, pd, hl, nd, q⟩
      · exact ⟨p, ts, cs, e, hp, pd, hl, .inl ⟨nd, hz⟩⟩
      · exact ⟨p, ts, cs, e, hp.imp id TupX.sqt, pd, hl, .inr ⟨nd, hp, q⟩⟩
    clear h
    obtain ⟨p, ts, cs, rfl, hp, pd, hcl, h⟩ := both
    have htl : ts.length = cs.length := paired_len pd
    have h60 : (ts.map V.ref).length ≤ 1000 := by rw [List.length_map]; omega
    refine stepEither false (fun H' => Same H H') (fun Q' hQ => first p (ts.map V.ref) (cs.map fun _ => true) rfl hp (pairs_flags pd) h60 Q' (fun H' s => by rw [all_true]; exact hQ _ s)) (fun z => nomatch z) (fun _ H1 s1 => ?_)
    clear first
    have hp1 : SqL K H1 p (ts.map V.ref) ∨ SqT K H1 p (ts.map V.ref) := hp.elim (fun h => .inl (s1.seq h)) (fun h => .inr (Same.sqt s1 h))
    have pd1 := paired_mono (fun _ _ z => z.same s1) pd
    refine stepEither (!decide (cs.map (·.1)).Nodup) (fun H' => Same H1 H') (fun Q' hQ => ?t2) (fun e H2 s2 => ?bad) (fun e H2 s2 => ?rest2)
    case t2 =>
      dsimp only [tTest, tOp, tCB, tCons, tNil]
      refine lcw_seq (K := K) (tl := tVar 1) (p := p) (xs := ts.map V.ref) (out := fun i => (cs[i]?).map fun c => V.str c.1) ?h0 hp1 (Nat.le_trans h60 (by decide)) ?tn ?fn
      case h0 => exact fun R z => ⟨_, rfl, z⟩
      case tn =>
        intro m y Hi S Y hy sI h0 h1
        rw [List.getElem?_map] at hy
        obtain ⟨t, ht, rfl⟩ := Option.map_eq_some_iff.mp hy
        obtain ⟨c, hc, hP⟩ := paired_at pd1 ht
        exact ⟨t, _, rfl, Same.sqt sI hP.1, rfl, _, _, rfl, _, _, rfl, rfl, rfl, _, rfl, h1 (.str c.1) (by show Option.map (fun c : FilD => V.str c.1) cs[m]? = _; rw [hc]; rfl) Hi (Same.refl _)⟩
      case fn =>
        intro D H3 hD s3 h3
        have eo : (List.range (ts.map V.ref).length).filterMap (fun i => (cs[i]?).map fun c => V.str c.1) = (cs.map (·.1)).map V.str := by
          rw [List.length_map, htl, List.map_map]
          exact out_map (l := cs) (f := fun c => V.str c.1)
        rw [eo] at h3
        refine ⟨D, cs.map (·.1), rfl, SqL.of h3, by rw [List.length_map]; omega, fun a ha => ?_⟩
        have sa := s3.trans (Same.new (o := SetX P w a (uniq (cs.map (·.1)))) ha)
        refine ⟨a, uniq (cs.map (·.1)), rfl, upd_same, Nat.le_trans (uniq_len _) (by rw [List.length_map]; omega), ?_⟩
        refine ⟨_, rfl, p, ts.map V.ref, rfl, hp1.elim (fun h => .inl (sa.seq h)) (fun h => .inr (Same.sqt sa h)), ?_⟩
        refine ⟨_, _, rfl, rfl, _, rfl, ?_⟩
        rw [show decide (((uniq (cs.map (·.1))).length : Int) < ((ts.map V.ref).length : Int)) = !decide (cs.map (·.1)).Nodup from ?_]
        · exact hQ _ sa
        · by_cases nd : (cs.map (·.1)).Nodup
          · have e := uniq_all nd
            rw [List.length_map] at e
            rw [decide_eq_true nd]
            refine decide_eq_false ?_
            rw [List.length_map, htl, e]
            omega
          · have e := uniq_less nd
            rw [List.length_map] at e
            rw [decide_eq_false nd]
            refine decide_eq_true ?_
            rw [List.length_map, htl]
            omega
    case bad =>
      have nd : ¬ (cs.map (·.1)).Nodup := by simpa using e
      rcases h with ⟨_, hz⟩ | ⟨y, _⟩
      · exact ⟨(by show 1 ≤ 1000; decide), fun a ha => ⟨a, T.IF.C, _, rfl, upd_same, T.IF.O, T.IF.noF, fun dx g1 g2 => ⟨rfl, dx, _, upd_same, by rw [upd_ne g2, upd_same], by rw [upd_ne g2] at g1; exact g1, if_made (s1.trans s2) hz ha dx g1 g2⟩⟩⟩
      · exact absurd y nd
    case rest2 =>
    have nd : (cs.map (·.1)).Nodup := by simpa using e
    obtain ⟨hpx, q⟩ : (SqL K H p (ts.map V.ref) ∨ TupX H p (ts.map V.ref)) ∧ ∀ (tp : Addr) (H' : Hp), KpI x H H' → FilAt R H' tp cs → H' x = some (insFil T.C dx (.ref tp)) → Q .non H' := by
      rcases h with ⟨z, _⟩ | ⟨_, a, b⟩
      · exact absurd nd z
      · exact ⟨a, b⟩
    clear h
    have s02 := s1.trans s2
    have hp2 : SqL K H2 p (ts.map V.ref) ∨ SqT K H2 p (ts.map V.ref) := hp1.elim (fun h => .inl (s2.seq h)) (fun h => .inr (Same.sqt s2 h))
    have pd2 := paired_mono (fun _ _ z => z.same s2) pd1
    refine stepSet (fun v H' => ∃ (g : Addr) (ys : List Str), v = .ref g ∧ Same H2 H' ∧ H' g = some (.lst (ys.map V.str)) ∧ ys.Perm (uniq ((cs.filter fun c => decide (c.2.2 ≠ [])).map (·.1))) ∧ sortedS ys = true) (fun Q' hQ => ?t3) (fun v H3 hC => ?rest3)
    case t3 =>
      dsimp only [tCB, tCons, tNil]
      refine lcw_seq (K := K) (tl := tVar 1) (p := p) (xs := ts.map V.ref) (out := fun i => (cs[i]?).bind fun c => if c.2.2 = [] then none else some (V.str c.1)) ?h0 hp2 (Nat.le_trans h60 (by decide)) ?tn ?fn
      case h0 => exact fun R z => ⟨_, rfl, z⟩
      case tn =>
        intro m y Hi S Y hy sI h0 h1
        rw [List.getElem?_map] at hy
        obtain ⟨t, ht, rfl⟩ := Option.map_eq_some_iff.mp hy
        obtain ⟨c, hc, hP⟩ := paired_at pd2 ht
        obtain ⟨g1, _, us, g2, g3, _⟩ := hP.same sI
        have lu := paired_len g3
        have oc : (fun i => (cs[i]?).bind fun c : FilD => if c.2.2 = [] then none else some (V.str c.1)) m = if c.2.2 = [] then none else some (V.str c.1) := by
          show (cs[m]?).bind _ = _
          rw [hc]
          rfl
        refine ⟨t, _, rfl, g1, rfl, _, _, rfl, _, _, rfl, rfl, rfl, ?_⟩
        refine ⟨_, rfl, c.2.1, us.map V.ref, rfl, g2, ?_⟩
        refine ⟨_, _, rfl, rfl, _, rfl, ?_⟩
        by_cases hz : c.2.2 = []
        · rw [if_pos hz] at oc
          rw [if_neg (by rw [List.length_map, lu, hz]; decide)]
          exact h0 oc _ (Same.refl _)
        · rw [if_neg hz] at oc
          have pos := List.length_pos_iff.mpr hz
          rw [if_pos (by rw [List.length_map, lu]; exact decide_eq_true (by omega))]
          exact ⟨_, rfl, h1 _ oc _ (Same.refl _)⟩
      case fn =>
        intro D H3 hD s3 h3
        have eo : (List.range (ts.map V.ref).length).filterMap (fun i => (cs[i]?).bind fun c => if c.2.2 = [] then none else some (V.str c.1)) = ((cs.filter fun c => decide (c.2.2 ≠ [])).map (·.1)).map V.str := by
          rw [List.length_map, htl, ← filter_out]
          exact out_filter
        rw [eo] at h3
        have few : ((cs.filter fun c => decide (c.2.2 ≠ [])).map (·.1)).length ≤ 60 := by
          rw [List.length_map]
          exact Nat.le_trans (List.length_filter_le _ _) hcl
        refine ⟨D, _, rfl, SqL.of h3, by omega, fun a ha => ?_⟩
        have sa := s3.trans (Same.new (o := SetX P w a (uniq ((cs.filter fun c => decide (c.2.2 ≠ [])).map (·.1)))) ha)
        refine ⟨a, _, rfl, upd_same, Nat.lt_of_le_of_lt (Nat.le_trans (uniq_len _) few) (by decide), fun ys g perm sorted hg => ?_⟩
        exact hQ _ _ ⟨g, ys, rfl, sa.trans (Same.new hg), upd_same, perm, sorted⟩
    case rest3 =>
    obtain ⟨g, ys, rfl, s3, hg, perm, sorted⟩ := hC
    have s03 := s02.trans s3
    have pd3 := paired_mono (fun _ _ z => z.same s3) pd2
    refine stepSet (fun v H' => ∃ (g2 : Addr), v = .ref g2 ∧ Same H3 H' ∧ H' g2 = some (.dK (mergeK [] (cs.map fun c => (Sum.inr c.1, V.ref c.2.1))))) (fun Q' hQ => ?t4) (fun v H4 hC => ?rest4)
    case t4 => exact ⟨_, rfl, p, ts, _, rfl, hpx.imp (fun h => s03.seq h) (fun h => h.same s03), pairs_kv pd3, fun g hg => hQ _ _ ⟨g, rfl, Same.new hg, upd_same⟩⟩
    case rest4 =>
    obtain ⟨g2, rfl, s4, hg2⟩ := hC
    have s04 := s03.trans s4
    have pd4 := paired_mono (fun _ _ z => z.same s4) pd3
    have hg4 := s4 _ _ hg
    have two : 2 ≤ sizeLine := by decide
    have yl : ys.length ≤ 60 := by
      rw [perm.length_eq]
      refine Nat.le_trans (uniq_len _) ?_
      rw [List.length_map]
      exact Nat.le_trans (List.length_filter_le _ _) hcl
    dsimp only [sFld, tCB, tCons, tNil]
    refine lcw_objs (K := K) (tl := tVar 2) (p := g) (xs := ys.map V.str) (cs := ys) (R := fun H t y => FOne R cs H t y) (fun s z => z.sameN s) ?h0 (SqL.of hg4) (by rw [List.length_map]; omega) (by rw [List.length_map]) ?tn ?fn
    case h0 => exact fun R z => ⟨_, rfl, z⟩
    case tn =>
      intro m yv y Hi S Y hy hys sI k
      rw [List.getElem?_map, hys] at hy
      cases hy
      have hm : y ∈ uniq ((cs.filter fun c => decide (c.2.2 ≠ [])).map (·.1)) := perm.mem_iff.mp (List.mem_of_getElem? hys)
      obtain ⟨c, hcm, rfl⟩ := List.mem_map.mp ((uniq_has _ y).mp hm)
      have hc := (List.mem_filter.mp hcm).1
      obtain ⟨t, hP⟩ := Paired.right pd4 c hc
      obtain ⟨g1, _, us, h2, h3, h4, _⟩ := hP.same sI
      have hd : DGet Hi g2 (.str c.1) (some (.ref c.2.1)) := by
        have z := DGet.k (k := (Sum.inr c.1 : Key)) (sI _ _ hg2)
        rw [merge_inF (f := fun c => V.ref c.2.1) nd hc] at z
        exact z
      refine ⟨rfl, _, rfl, _, rfl, _, rfl, g2, .ref c.2.1, rfl, hd, c.2.1, us.map V.ref, rfl, ?_⟩
      rcases h2 with h2 | h2
      · refine .inl ⟨h2, fun l hl => ⟨two, fun t ht => ?_⟩⟩
        have a1 := Same.new (o := .tup (us.map V.ref)) hl
        have a2 := Same.new (o := .tup [.str c.1, .ref l]) ht
        exact k t _ (a1.trans a2) ⟨c, l, us, hc, rfl, SqT.of upd_same, SqT.of (a2 _ _ upd_same), paired_mono (fun _ _ z => z.same (a1.trans a2)) h3, h4⟩
      · refine .inr ⟨h2, ⟨two, fun t ht => ?_⟩⟩
        have a2 := Same.new (o := .tup [.str c.1, .ref c.2.1]) ht
        exact k t _ a2 ⟨c, c.2.1, us, hc, rfl, SqT.of upd_same, Same.sqt a2 h2, paired_mono (fun _ _ z => z.same a2) h3, h4⟩
    case fn =>
      intro D H5 ps hD s5 h5 pp
      refine ⟨D, ps.map V.ref, rfl, .inl ⟨SqL.of h5, fun tp htp => ?_⟩⟩
      have s6 := Same.new (o := .tup (ps.map V.ref)) htp
      have s06 := (s04.trans s5).trans s6
      have hx6 := s06 _ _ hx
      have pp6 := paired_mono (fun _ _ z => FOne.sameN (SameN.of s6) z) pp
      have ht6 : SqT K (upd H5 tp (.tup (ps.map V.ref))) tp (ps.map V.ref) := SqT.of upd_same
      generalize upd H5 tp (.tup (ps.map V.ref)) = H6 at s6 s06 hx6 pp6 ht6 ⊢
      refine ⟨_, rfl, x, T.C, dx, [], rfl, hx6, T.cl, T.noF, (by show 0 < 1000; decide), ?_⟩
      refine q tp _ (fun b o e n => by rw [upd_ne n]; exact s06 _ _ e) ⟨ps, ys, sqt_ins hx6 ht6, perm, sorted, paired_mono (fun _ _ z => FOne.ins hx6 z) pp6⟩ upd_same
end
end Pn

namespace Pn
open PySem L2
theorem iteTB {c : Bool} {A B : Prop} (hc : c = true) (h : A) : if c = true then A else B := by
  rw [if_pos hc]
  exact h
theorem iteFB {c : Bool} {A B : Prop} (hc : c = false) (h : B) : if c = true then A else B := by
  rw [hc, if_neg Bool.false_ne_true]
  exact h
theorem kF {A B : Hp → Prop} {H : Hp} (h : B H) : (fun (b : Bool) H1 => if b = true then A H1 else B H1) false H := by
  show if false = true then A H else B H
  rw [if_neg Bool.false_ne_true]
  exact h
abbrev sDeal : Stmt := top 30
abbrev sDraw : Stmt := top 31
abbrev sPick : Stmt := top 32
/-! ### draws out of a deal: a list of a list of great numbers and a number -/
/-- the heap but for a deal -/
def hh (H : Hp) (d g : Addr) : Hp := hid (hid H d) g
def DealAt (H : Hp) (d g : Addr) : Prop := d ≠ g ∧ ∃ (xs : List Int) (m : Int), H d = some (.lst [.ref g, .int m]) ∧ H g = some (.lst (xs.map V.int)) ∧ (∀ x ∈ xs, 0 ≤ x) ∧ 0 ≤ m ∧ m < 2147483647 ∧ xs.length ≤ 63
theorem hh_ne {H : Hp} {d g a : Addr} {o : HO} (h : hh H d g a = some o) : a ≠ d ∧ a ≠ g ∧ H a = some o := by
  unfold hh hid at h
  by_cases h1 : a = g
  · rw [if_pos h1] at h; cases h
  · rw [if_neg h1] at h
    by_cases h2 : a = d
    · rw [if_pos h2] at h; cases h
    · rw [if_neg h2] at h; exact ⟨h2, h1, h⟩
theorem hh_get {H : Hp} {d g a : Addr} {o : HO} (h : H a = some o) (n1 : a ≠ d) (n2 : a ≠ g) : hh H d g a = some o := hid_get (hid_get h n1) n2
theorem hh_sub {H : Hp} {d g : Addr} : Same (hh H d g) H := fun _ _ e => (hh_ne e).2.2
theorem hh_same {H H' : Hp} {d g : Addr} (s : Same H H') : Same (hh H d g) (hh H' d g) := fun _ _ e => by
  obtain ⟨n1, n2, e⟩ := hh_ne e
  exact hh_get (s _ _ e) n1 n2
theorem hh_d {H : Hp} {d g : Addr} {o : HO} : Same (hh H d g) (hh (upd H d o) d g) := fun _ _ e => by
  obtain ⟨n1, n2, e⟩ := hh_ne e
  exact hh_get (by rw [upd_ne n1]; exact e) n1 n2
theorem hh_g {H : Hp} {d g : Addr} {o : HO} : Same (hh H d g) (hh (upd H g o) d g) := fun _ _ e => by
  obtain ⟨n1, n2, e⟩ := hh_ne e
  exact hh_get (by rw [upd_ne n2]; exact e) n1 n2
theorem DealAt.there {H : Hp} {d g : Addr} (h : DealAt H d g) : H d ≠ none ∧ H g ≠ none := by
  obtain ⟨_, xs, m, e1, e2, _⟩ := h
  refine ⟨fun z => ?_, fun z => ?_⟩
  · rw [e1] at z; cases z
  · rw [e2] at z; cases z
theorem DealAt.new {H : Hp} {d g p : Addr} {o : HO} (h : DealAt H d g) (hp : H p = none) : DealAt (upd H p o) d g := by
  obtain ⟨n, xs, m, e1, e2, r⟩ := h
  exact ⟨n, xs, m, by rw [upd_ne (ne_of_none e1 hp)]; exact e1, by rw [upd_ne (ne_of_none e2 hp)]; exact e2, r⟩
theorem DealAt.same {H H' : Hp} {d g : Addr} (h : DealAt H d g) (s : Same H H') : DealAt H' d g := by
  obtain ⟨n, xs, m, e1, e2, r⟩ := h
  exact ⟨n, xs, m, s _ _ e1, s _ _ e2, r⟩
theorem DealAt.upd {H : Hp} {d g p : Addr} {o : HO} (h : DealAt H d g) (n1 : p ≠ d) (n2 : p ≠ g) : DealAt (upd H p o) d g := by
  obtain ⟨n, xs, m, e1, e2, r⟩ := h
  exact ⟨n, xs, m, by rw [upd_ne n1.symm]; exact e1, by rw [upd_ne n2.symm]; exact e2, r⟩
/-- what is new beside a deal -/
theorem DealAt.nd {H : Hp} {d g p : Addr} (h : DealAt H d g) (hp : H p = none) : p ≠ d ∧ p ≠ g := ⟨fun z => h.there.1 (z ▸ hp), fun z => h.there.2 (z ▸ hp)⟩
theorem hh_new {H : Hp} {d g p : Addr} {o : HO} (hp : H p = none) : Same (hh H d g) (hh (upd H p o) d g) := hh_same (Same.new hp)
theorem hh_at {H : Hp} {d g p : Addr} {o : HO} (h : DealAt H d g) (hp : H p = none) : hh (upd H p o) d g p = some o := hh_get upd_same (h.nd hp).1 (h.nd hp).2
theorem ints_at {xs : List Int} {i : Nat} {x : Int} (h : xs[i]? = some x) : (xs.map V.int)[i]? = some (.int x) := by rw [List.getElem?_map, h]; rfl
section
variable {P : Program} {w : World} {K : PySem.W.Frag} {mg : Str → Option Value} {base : Heap}
def spDraw : Sp := fun vs H Q _ => ∃ (d g : Addr) (m : Int), vs = [.ref d, .int m] ∧ DealAt H d g ∧ 0 < m ∧ m < 2147483648 ∧ ∀ (r : Int) (H' : Hp), 0 ≤ r → r < m → DealAt H' d g → Same (hh H d g) (hh H' d g) → Mo H H' → Q (.int r) H'
theorem scDraw : FnScope ["_law_deal_here", "_law_many", "_law_left"] ["_law_deal_here", "_law_many"] (defScope sDraw) := ⟨rfl, rfl, rfl, by decide +kernel, rfl, by decide +kernel, by decide +kernel⟩
theorem dp_intsL (K : PySem.W.Frag) (H : Hp) : ∀ xs : List Int, DpAll K H (xs.map V.int) (xs.map PyData.int)
  | [] => .nil
  | _ :: r => .cons (.int _) (dp_intsL K H r)
theorem intsL_sh (xs : List Int) : SeqAt.shaped (.list (xs.map PyData.int)) = true := by
  have a : ∀ l : List Int, PyData.canLayAll0 (l.map PyData.int) = true ∧ PyData.depthAll (l.map PyData.int) = 0 := by
    intro l
    induction l with
    | nil => exact ⟨by simp only [List.map_nil, PyData.canLayAll0], by simp only [List.map_nil, PyData.depthAll]⟩
    | cons x l ih => exact ⟨by simp only [List.map_cons, PyData.canLayAll0, PyData.canLay0, ih.1, Bool.and_self], by simp only [List.map_cons, PyData.depthAll, PyData.depth, ih.2, Nat.max_self]⟩
  unfold SeqAt.shaped
  simp only [PyData.canLay0, PyData.depth, (a xs).1, (a xs).2, Bool.true_and]
  decide
theorem intsL_nil (xs : List Int) : PyData.eqv (.list (xs.map PyData.int)) (.list []) = xs.isEmpty := by
  cases xs with
  | nil => decide +kernel
  | cons x l => simp [PyData.eqv, PyData.eqvAll]
/-- a deal and what it holds, beside what stood ahead -/
structure DL (H0 H : Hp) (d g : Addr) (xs : List Int) (mm : Int) : Prop where
  ne : d ≠ g
  hd : H d = some (.lst [.ref g, .int mm])
  hg : H g = some (.lst (xs.map V.int))
  pos : ∀ x ∈ xs, 0 ≤ x
  lo : 0 ≤ mm
  hi : mm < 2147483647
  len : xs.length ≤ 63
  s : Same (hh H0 d g) (hh H d g)
  m : Mo H0 H
theorem DL.new {H0 H : Hp} {d g p : Addr} {xs : List Int} {mm : Int} {o : HO} (D : DL H0 H d g xs mm) (hp : H p = none) : DL H0 (upd H p o) d g xs mm :=
  ⟨D.ne, by rw [upd_ne (ne_of_none D.hd hp)]; exact D.hd, by rw [upd_ne (ne_of_none D.hg hp)]; exact D.hg, D.pos, D.lo, D.hi, D.len, D.s.trans (hh_new hp), D.m.trans Mo.upd⟩
theorem DL.setG {H0 H : Hp} {d g : Addr} {xs ys : List Int} {mm : Int} (D : DL H0 H d g xs mm) (hp : ∀ y ∈ ys, 0 ≤ y) (hl : ys.length ≤ 63) : DL H0 (upd H g (.lst (ys.map V.int))) d g ys mm :=
  ⟨D.ne, by rw [upd_ne D.ne]; exact D.hd, upd_same, hp, D.lo, D.hi, hl, D.s.trans hh_g, D.m.trans Mo.upd⟩
theorem DL.setD {H0 H : Hp} {d g : Addr} {xs : List Int} {mm m2 : Int} (D : DL H0 H d g xs mm) (l : 0 ≤ m2) (h : m2 < 2147483647) : DL H0 (upd H d (.lst [.ref g, .int m2])) d g xs m2 :=
  ⟨D.ne, upd_same, by rw [upd_ne D.ne.symm]; exact D.hg, D.pos, l, h, D.len, D.s.trans hh_d, D.m.trans Mo.upd⟩
theorem DL.at {H0 H : Hp} {d g : Addr} {xs : List Int} {mm : Int} (D : DL H0 H d g xs mm) : DealAt H d g := ⟨D.ne, xs, mm, D.hd, D.hg, D.pos, D.lo, D.hi, D.len⟩
theorem ok_draw {f : Addr} {fd : FuncData} (F : Fun K "_law_draw" "_law_draw" sDraw f fd) (mI : mg "int" = none) : FnOk P w K mg base CX0 1 f fd ["_law_deal_here", "_law_many"] spDraw := by
  refine F.ok scDraw (fun vs H Q E h => ?_) (fun cdv A outer s H vs Q E hr h => ?_)
  · obtain ⟨d, g, m, rfl, _⟩ := h
    rfl
  · obtain ⟨d, g, m, rfl, hD, h0, h1, k⟩ := h
    refine ⟨_, pss_cons (ps_while PassesOwn.never (PW.pt (pw_and (pt_cmpR (op_neD hr.units) (pe_ix ix_list (pv 0) pe_int (fun _ _ => rfl)) (pe_lst pa_nil) (nomark _)) (pw_and1 (pt_cmpR op_eq (pe_ix ix_list (pe_ix ix_list (pv 0) pe_int (fun _ _ => rfl)) (pe_un un_neg pe_int) (fun _ _ => rfl)) pe_int (nomark _)))))
        (pss_one (ps_expr (pe_bm0 PySem.F.plainAttrs_list PySem.F.slot_list_pop PySem.F.type_list_pop mt_pop (pe_ix ix_list (pv 0) pe_int (fun _ _ => rfl))))))
      (pss_cons (ps_if (pt_cmpR (op_neD hr.units) (pe_ix ix_list (pv 0) pe_int (fun _ _ => rfl)) (pe_lst pa_nil) (nomark _))
        (pss_cons (ps_set (i := 2) scDraw.nd rfl (Or.inl rfl) (pe_bm0 PySem.F.plainAttrs_list PySem.F.slot_list_pop PySem.F.type_list_pop mt_pop (pe_ix ix_list (pv 0) pe_int (fun _ _ => rfl))))
        (pss_cons (ps_expr (pe_bm PySem.F.plainAttrs_list PySem.F.slot_list_append PySem.F.type_list_append mt_append (pe_ix ix_list (pv 0) pe_int (fun _ _ => rfl)) (pa_cons (pe_op op_fdivW (pv 2) (pv 1)) pa_nil)))
        (pss_one (ps_ret (pe_op op_mod (pe_callTy call_int1 (by rfl) mI (by decide +kernel) (pa_cons (pv 2) pa_nil)) (pv 1)))))) pss_nil)
      (pss_cons (ps_asg (pe_op op_mod (pe_callTy call_int1 (by rfl) mI (by decide +kernel) (pa_cons (pe_op op_add (pe_op op_mul (pe_ix ix_list (pv 0) pe_int (fun _ _ => rfl)) pe_int) pe_int) pa_nil)) pe_int) (pg_sub (pv 0) pe_int set_list))
      (pss_one (ps_ret (pe_op op_mod (pe_callTy call_int1 (by rfl) mI (by decide +kernel) (pa_cons (pe_op op_fdiv (pe_ix ix_list (pv 0) pe_int (fun _ _ => rfl)) pe_int) pa_nil)) (pv 1)))))), ?_⟩
    obtain ⟨ne, xs0, mm0, e1, e2, e3, e4, e5, e6⟩ := hD
    have rev2 : ∀ (l : List Int) (x : Int), ((l ++ [x]).map V.int).dropLast = l.map V.int := fun l x => by rw [List.map_append]; exact List.dropLast_concat
    have lst2 : ∀ (l : List Int) (x : Int), ((l ++ [x]).map V.int)[((l ++ [x]).map V.int).length - 1]? = some (.int x) := fun l x => by
      rw [List.map_append, List.length_append]
      show (l.map V.int ++ [V.int x])[(l.map V.int).length + 1 - 1]? = _
      rw [Nat.add_sub_cancel, List.getElem?_append_right (Nat.le_refl _), Nat.sub_self]
      rfl
    refine ⟨fun n σ Hc => ∃ (x2 : Option V) (xs : List Int), σ = [some (.ref d), some (.int m), x2] ∧ xs.length = n ∧ DL H Hc d g xs mm0, ⟨_, none, xs0, rfl, rfl, ne, e1, e2, e3, e4, e5, e6, Same.refl _, Mo.refl _⟩, fun n σ Hc hP => ?_⟩
    obtain ⟨x2, xs, rfl, hn, D⟩ := hP
    refine ⟨_, rfl, d, _, _, _, rfl, rfl, SqL.of D.hd, rfl, (by show 0 ≤ sizeLine; decide), fun p hp => ?_⟩
    have D1 := D.new (o := .lst []) hp
    refine ⟨.list (xs.map PyData.int), .list [], .lst (SqL.of D1.hg) (dp_intsL _ _ xs), .lst (SqL.of upd_same) .nil, intsL_sh xs, by decide +kernel, _, rfl, ?_⟩
    rw [intsL_nil]
    generalize upd Hc p (.lst []) = Hp1 at D1 ⊢
    have hx : ∀ (l : List Int) (x : Int), atI ((l ++ [x]).map V.int) (-1) = some (.int x) := fun l x => by rw [List.map_append]; exact atI_last _ _
    rcases List.eq_nil_or_concat xs with hxs | ⟨l, x, hxs⟩
    · subst hxs
      refine iteFB rfl ?_
      refine iteF ?_
      refine ⟨_, rfl, d, _, _, _, rfl, rfl, SqL.of D1.hd, rfl, (by show 0 ≤ sizeLine; decide), fun p2 hp2 => ?_⟩
      have D2 := D1.new (o := .lst []) hp2
      refine ⟨.list (([] : List Int).map PyData.int), .list [], .lst (SqL.of D2.hg) (dp_intsL _ _ []), .lst (SqL.of upd_same) .nil, intsL_sh [], by decide +kernel, _, rfl, ?_⟩
      rw [intsL_nil]
      generalize upd Hp1 p2 (.lst []) = Hp2 at D2 ⊢
      refine iteFB rfl ?_
      have a1 := D2.lo
      have a2 := D2.hi
      refine ⟨_, rfl, _, _, _, _, rfl, rfl, SqL.of D2.hd, rfl, _, _, rfl, rfl, .inl ⟨by omega, by omega⟩, _, _, rfl, rfl, .inl ⟨_, rfl, _, _, rfl, rfl, (by show (0 : Int) < 2147483647; decide), ?_⟩⟩
      refine ⟨_, rfl, _, _, _, _, rfl, rfl, D2.hd, rfl, ?_⟩
      have D3 := D2.setD (m2 := (mm0 * 48271 + 23) % 2147483647) (by omega) (by omega)
      refine ⟨_, rfl, _, _, _, _, rfl, rfl, SqL.of D3.hd, rfl, _, _, rfl, rfl, ⟨by decide, by decide⟩, .inl ⟨_, rfl, _, rfl, _, _, rfl, rfl, h0, ?_⟩⟩
      exact k _ _ (Int.emod_nonneg _ (by omega)) (Int.emod_lt_of_pos _ h0) D3.at D3.s D3.m
    · rw [List.concat_eq_append] at hxs
      subst hxs
      have hne : (!(l ++ [x]).isEmpty) = true := by cases l <;> rfl
      rw [hne]
      refine iteT ?_
      refine ⟨_, rfl, d, _, _, _, rfl, rfl, SqL.of D1.hd, rfl, 1, rfl, g, _, _, _, rfl, rfl, SqL.of D1.hg, hx l x, rfl, _, rfl, ?_⟩
      have px : 0 ≤ x := D.pos x (by simp)
      have pl : ∀ y ∈ l, 0 ≤ y := fun y hy => D.pos y (by simp [hy])
      have ll : l.length + 1 ≤ 63 := by have := D.len; rw [List.length_append] at this; exact this
      by_cases hz : x = 0
      · subst hz
        refine iteTB (by simp) ?_
        refine ⟨fun σ' H' => ∃ (x2 : Option V) (xs : List Int), σ' = [some (.ref d), some (.int m), x2] ∧ xs.length = l.length ∧ DL H H' d g xs mm0, fun σ' H' q => ⟨l.length, by rw [← hn, List.length_append]; exact Nat.lt_succ_self _, q⟩, ?_⟩
        refine ⟨_, rfl, d, _, _, _, rfl, rfl, SqL.of D1.hd, rfl, .inl ⟨rfl, _, SqL.of D1.hg⟩, g, _, _, rfl, rfl, D1.hg, lst2 l 0, ?_⟩
        rw [rev2]
        exact ⟨x2, l, rfl, rfl, D1.setG pl (by omega)⟩
      · refine iteFB (by simp [hz]) ?_
        refine ⟨_, rfl, d, _, _, _, rfl, rfl, SqL.of D1.hd, rfl, (by show 0 ≤ sizeLine; decide), fun p2 hp2 => ?_⟩
        have D2 := D1.new (o := .lst []) hp2
        refine ⟨.list ((l ++ [x]).map PyData.int), .list [], .lst (SqL.of D2.hg) (dp_intsL _ _ _), .lst (SqL.of upd_same) .nil, intsL_sh _, by decide +kernel, _, rfl, ?_⟩
        rw [intsL_nil, hne]
        generalize upd Hp1 p2 (.lst []) = Hp2 at D2 ⊢
        refine iteT ?_
        refine ⟨_, rfl, d, _, _, _, rfl, rfl, SqL.of D2.hd, rfl, .inl ⟨rfl, _, SqL.of D2.hg⟩, g, _, _, rfl, rfl, D2.hg, lst2 l x, ?_⟩
        rw [rev2]
        have D3 := D2.setG pl (by omega)
        refine ⟨_, rfl, d, _, _, _, rfl, rfl, SqL.of D3.hd, rfl, .inl ⟨rfl, _, SqL.of D3.hg⟩, _, rfl, _, rfl, _, _, rfl, rfl, wide_div (b := 40) h0 (by omega) (by decide) (by decide), g, _, _, rfl, rfl, D3.hg, small1000 (by rw [List.length_map]; omega), ?_⟩
        have D4 := D3.setG (ys := l ++ [x / m]) (fun y hy => by
          rcases List.mem_append.mp hy with hy | hy
          · exact pl y hy
          · rw [List.mem_singleton.mp hy]; exact Int.ediv_nonneg px (by omega)) (by rw [List.length_append]; exact ll)
        rw [List.map_append] at D4
        refine ⟨_, rfl, .inl ⟨_, rfl, _, rfl, _, _, rfl, rfl, h0, ?_⟩⟩
        exact k _ _ (Int.emod_nonneg _ (by omega)) (Int.emod_lt_of_pos _ h0) D4.at D4.s D4.m
def spPick (K : PySem.W.Frag) : Sp := fun vs H Q _ => ∃ (d g a : Addr) (xs : List V), vs = [.ref d, .ref a] ∧ DealAt H d g ∧ SqL K (hh H d g) a xs ∧ 0 < xs.length ∧ xs.length < 1000000 ∧ ∀ (v : V) (H' : Hp), v ∈ xs → DealAt H' d g → Same (hh H d g) (hh H' d g) → Mo H H' → Q v H'
theorem scPick : FnScope ["_law_deal_here", "_law_some"] ["_law_deal_here", "_law_some"] (defScope sPick) := ⟨rfl, rfl, rfl, by decide +kernel, rfl, by decide +kernel, by decide +kernel⟩
theorem ok_pick {f : Addr} {fd : FuncData} (F : Fun K "_law_pick" "_law_pick" sPick f fd) (mL : mg "len" = none) (D : At K mg "_law_draw" sDraw ["_law_deal_here", "_law_many"]) (mI : mg "int" = none) : FnOk P w K mg base CX0 2 f fd ["_law_deal_here", "_law_some"] (spPick K) := by
  refine F.ok scPick (fun vs H Q E h => ?_) (fun cdv A outer s H vs Q E hr h => ?_)
  · obtain ⟨d, g, a, xs, rfl, _⟩ := h
    rfl
  · obtain ⟨d, g, a, xs, rfl, hD, hS, h0, h1, q⟩ := h
    refine ⟨_, pss_one (ps_ret (pe_ix ix_list (pv 1) (pe_call (ok_draw D.F mI) hr rfl D.m D.F.kp D.b .nil pass0 (pa_cons (pv 0) (pa_cons (pe_callB call_len_seq (by rfl) mL PySem.boot_len (pa_cons (pv 1) pa_nil)) pa_nil))) (fun _ _ => rfl))), ?_⟩
    refine ⟨_, rfl, _, rfl, _, rfl, _, _, rfl, .inl (hh_sub.seq hS), ?_⟩
    refine ⟨d, g, _, rfl, hD, by omega, by omega, fun r H' r0 r1 hD' hs hm => ?_⟩
    obtain ⟨i, rfl⟩ : ∃ i : Nat, r = (i : Int) := ⟨r.toNat, by omega⟩
    have hi : i < xs.length := by omega
    exact ⟨_, _, _, _, rfl, rfl, hh_sub.seq (hs.seq hS), atI_nat (List.getElem?_eq_getElem hi), q _ _ (List.getElem_mem hi) hD' hs hm⟩
def absI (x : Int) : Int := if x < 0 then -x else x
theorem cut_ints (ns : List Int) (lo hi : Option Int) : ∃ us : List Int, cutV (ns.map V.int) lo hi = us.map V.int ∧ us.length ≤ ns.length := by
  refine ⟨(ns.drop (HT.sIx (ns.map V.int).length 0 lo)).take (HT.sIx (ns.map V.int).length (ns.map V.int).length hi - HT.sIx (ns.map V.int).length 0 lo), ?_, ?_⟩
  · unfold cutV
    rw [List.map_take, List.map_drop]
  · rw [List.length_take, List.length_drop]
    omega
def spDeal (K : PySem.W.Frag) : Sp := fun vs H Q _ => ∃ (a : Addr) (ns : List Int), vs = [.ref a] ∧ SqL K H a (ns.map V.int) ∧ ns.length ≤ 63 ∧ ∀ (d g : Addr) (H' : Hp), DealAt H' d g → Same H (hh H' d g) → Q (.ref d) H'
theorem scDeal : FnScope ["_law_script", "_law_cell", "_law_cells", "_law_mixed_here"] ["_law_script"] (defScope sDeal) := ⟨rfl, rfl, rfl, by decide +kernel, rfl, by decide +kernel, by decide +kernel⟩
theorem ok_deal {f : Addr} {fd : FuncData} (F : Fun K "_law_deal" "_law_deal" sDeal f fd) (mI : mg "int" = none) (mA : mg "abs" = none) : FnOk P w K mg base CX0 1 f fd ["_law_script"] (spDeal K) := by
  refine F.ok scDeal (fun vs H Q E h => ?_) (fun cdv A outer s H vs Q E hr h => ?_)
  · obtain ⟨a, ns, rfl, _⟩ := h
    rfl
  · obtain ⟨a, ns, rfl, hS, hl, q⟩ := h
    refine ⟨_, pss_cons (ps_par (i := 2) (j := 3) (by rfl) scDeal.nd rfl rfl (by decide) rfl rfl (pa_cons (pe_lc (own := [("_law_cell", 1)]) (g := gName 1) (tt := tYes) (by rfl) scDeal.nd (pi_list (pe_slice sl_list (pv 0) po_none (po_some pe_int)))
          (blkOk_by (N := ["_law_script", "_law_cell", "_law_cells", "_law_mixed_here"]) (sc := defScope sDeal) (by decide +kernel)) (fun _ _ _ _ _ => pg_name (i := 1) scDeal.nd rfl (Or.inl rfl)) (fun _ _ _ _ _ => pts_nil)
          (fun _ _ _ _ _ => pe_callB call_abs (by rfl) mA (by decide +kernel) (pa_cons (pv 1) pa_nil))) (pa_cons pe_int pa_nil)) (by rfl))
      (pss_cons (ps_for PassesOwn.never rfl (pi_list (pv 2)) (pg_name (i := 1) scDeal.nd rfl (Or.inl rfl))
        (pss_one (ps_set (i := 3) scDeal.nd rfl (Or.inl rfl) (pe_op op_mod (pe_callTy call_int1 (by rfl) mI (by decide +kernel) (pa_cons (pe_op op_add (pe_op op_mul (pv 3) pe_int) (pe_op op_mod (pe_callTy call_int1 (by rfl) mI (by decide +kernel) (pa_cons (pv 1) pa_nil)) pe_int)) pa_nil)) pe_int))))
      (pss_one (ps_ret (pe_lst (pa_cons (pe_revL (pe_lc (own := [("_law_cell", 1)]) (g := gName 1) (by rfl) scDeal.nd (pi_list (pv 2))
          (blkOk_by (N := ["_law_script", "_law_cell", "_law_cells", "_law_mixed_here"]) (sc := defScope sDeal) (by decide +kernel)) (fun _ _ _ _ _ => pg_name (i := 1) scDeal.nd rfl (Or.inl rfl)) (fun _ _ _ _ _ => pts_one (pt_cmpR op_ge (pv 1) (pe_op op_pow pe_int pe_int) (nomark _)))
          (fun _ _ _ _ _ => pv 1))) (pa_cons (pv 3) pa_nil)))))), ?_⟩
    obtain ⟨us, hu, hul⟩ := cut_ints ns none (some 60)
    refine ⟨_, rfl, 60, rfl, a, _, rfl, hS, fun p hp => ?_⟩
    rw [hu]
    have s1 : Same H (upd H p (.lst (us.map V.int))) := Same.new hp
    have hp1 : upd H p (.lst (us.map V.int)) p = some (.lst (us.map V.int)) := upd_same
    generalize upd H p (.lst (us.map V.int)) = H1 at s1 hp1 ⊢
    refine ⟨p, rfl, ⟨_, SqL.of hp1⟩, fun D hD => lc_it (walk_list (xs := us.map V.int)) (fun i Hi => Hi D = some (.lst (((us.take i).map absI).map V.int)) ∧ Same H1 Hi) ⟨upd_same, Same.new hD⟩ (fun i Hi _ hP => SqL.of (hP.2 _ _ hp1)) (fun i x Hi Hj hi hP hY => ?turn1) (fun Hi hP => ?done1)⟩
    case turn1 =>
      obtain ⟨rfl, hx⟩ := hY
      obtain ⟨hDi, hs⟩ := hP
      rw [List.getElem?_map] at hx
      cases hxi : us[i]? with
      | none => rw [hxi] at hx; cases hx
      | some u =>
      rw [hxi] at hx
      cases hx
      have hi2 : i < us.length := by rw [List.length_map] at hi; exact hi
      refine ⟨rfl, _, rfl, _, rfl, _, hDi, small1000 (by rw [List.length_map, List.length_map]; have := List.length_take_le i us; omega), ?_, fun b o e => ?_⟩
      · rw [upd_same, List.take_add_one, hxi, List.map_append, List.map_append]
        rfl
      · rw [upd_ne (ne_of_none e hD)]
        exact hs _ _ e
    case done1 =>
      obtain ⟨hD1, hs⟩ := hP
      rw [List.length_map, List.take_length] at hD1
      have hpos : ∀ x ∈ us.map absI, 0 ≤ x := fun x hx => by
        obtain ⟨y, _, rfl⟩ := List.mem_map.mp hx
        unfold absI
        split <;> omega
      have hcl : (us.map absI).length ≤ 63 := by rw [List.length_map]; omega
      generalize us.map absI = cs at hD1 hpos hcl
      have s2 := s1.trans hs
      refine ⟨_, _, rfl, ?_⟩
      refine ⟨_, rfl, D, rfl, ⟨_, SqL.of hD1⟩, for_list (xs := cs.map V.int) (fun i σ Hc => ∃ (x1 : Option V) (m : Int), σ = [some (.ref a), x1, some (.ref D), some (.int m)] ∧ 0 ≤ m ∧ m < 2147483647 ∧ Hc = Hi) ⟨_, _, rfl, by decide, by decide, rfl⟩ (fun i σ Hc _ hP => by obtain ⟨_, _, _, _, _, rfl⟩ := hP; exact SqL.of hD1) (fun i x σ Hc hx hP => ?turn2) (fun σ Hc hP => ?done2)⟩
      case turn2 =>
        obtain ⟨x1, m, rfl, m0, m1, rfl⟩ := hP
        rw [List.getElem?_map] at hx
        cases hxi : cs[i]? with
        | none => rw [hxi] at hx; cases hx
        | some c =>
        rw [hxi] at hx
        cases hx
        refine ⟨_, rfl, _, _, rfl, rfl, .inl ⟨by omega, by omega⟩, _, rfl, .inl ⟨_, rfl, _, _, rfl, rfl, (by show (0 : Int) < 2147483629; decide), _, _, rfl, rfl, .inl ⟨_, rfl, _, _, rfl, rfl, (by show (0 : Int) < 2147483647; decide), ?_⟩⟩⟩
        exact ⟨_, _, rfl, by omega, by omega, rfl⟩
      case done2 =>
        obtain ⟨x1, m, rfl, m0, m1, rfl⟩ := hP
        refine ⟨_, rfl, D, rfl, ⟨_, SqL.of hD1⟩, fun D2 hD2 => lc_it (walk_list (xs := cs.map V.int)) (fun i Hi2 => ∃ l : List Int, l.length ≤ i ∧ (∀ x ∈ l, 0 ≤ x) ∧ Hi2 D2 = some (.lst (l.map V.int)) ∧ Same Hc Hi2) ⟨[], Nat.le_refl _, (fun x hx => by cases hx), upd_same, Same.new hD2⟩ (fun i Hi2 _ hP => by obtain ⟨_, _, _, _, h⟩ := hP; exact SqL.of (h _ _ hD1)) (fun i x Hi2 Hj hi hP hY => ?turn3) (fun Hi2 hP => ?done3)⟩
        case turn3 =>
          obtain ⟨rfl, hx⟩ := hY
          obtain ⟨l, l1, l2, l3, l4⟩ := hP
          rw [List.getElem?_map] at hx
          cases hxi : cs[i]? with
          | none => rw [hxi] at hx; cases hx
          | some c =>
          rw [hxi] at hx
          cases hx
          have hi2 : i < cs.length := by rw [List.length_map] at hi; exact hi
          refine ⟨rfl, _, rfl, _, _, rfl, rfl, ⟨by decide, by decide, by decide⟩, _, _, rfl, rfl, _, rfl, ?_⟩
          refine ite2 (fun _ => ?_) (fun _ => ?_)
          · refine ⟨_, rfl, _, l3, small1000 (by rw [List.length_map]; omega), l ++ [c], by rw [List.length_append]; exact Nat.add_le_add_right l1 1, fun x hx => ?_, by rw [upd_same, List.map_append]; rfl, fun b o e => ?_⟩
            · rcases List.mem_append.mp hx with hx | hx
              · exact l2 x hx
              · rw [List.mem_singleton.mp hx]; exact hpos c (List.mem_of_getElem? hxi)
            · rw [upd_ne (ne_of_none e hD2)]
              exact l4 _ _ e
          · exact ⟨l, by omega, l2, l3, l4⟩
        case done3 =>
          obtain ⟨l, l1, l2, l3, l4⟩ := hP
          refine ⟨D2, _, rfl, SqL.of l3, fun g hg => ?_⟩
          refine ⟨_, rfl, (by show 2 ≤ sizeLine; decide), fun d hd => ?_⟩
          have s3 : Same H Hi2 := s2.trans l4
          have hg0 := s3.free hg
          have hgd : g ≠ d := fun z => by rw [← z, upd_same] at hd; cases hd
          have hd0 : H d = none := s3.free ((Same.new hg).free hd)
          refine q d g _ ⟨hgd.symm, l.reverse, m, upd_same, ?_, fun x hx => l2 x (List.mem_reverse.mp hx), m0, m1, ?_⟩ fun b o e => hh_get ?_ (ne_of_none e hd0) (ne_of_none e hg0)
          · rw [upd_ne hgd, upd_same, List.map_reverse]
          · rw [List.length_reverse]
            rw [List.length_map] at l1
            omega
          · rw [upd_ne (ne_of_none e hd0), upd_ne (ne_of_none e hg0)]
            exact s3 _ _ e
end
end Pn

namespace Pn
open PySem L2 TL
abbrev sMixed : Stmt := top 33
abbrev sNames : Stmt := top 34
/-! ### a list of names in another order, its first names -/
theorem perm_erase {α : Type} : ∀ {l : List α} {k : Nat} {y : α}, l[k]? = some y → (y :: l.eraseIdx k).Perm l
  | [], k, y, h => by simp at h
  | a :: l, 0, y, h => by
    simp only [List.getElem?_cons_zero, Option.some.injEq] at h
    subst h
    exact .refl _
  | a :: l, k + 1, y, h => by
    rw [List.getElem?_cons_succ] at h
    rw [List.eraseIdx_cons_succ]
    exact (List.Perm.swap a y _).trans (.cons a (perm_erase h))
theorem erase_map {α β : Type} (f : α → β) : ∀ (l : List α) (k : Nat), (l.map f).eraseIdx k = (l.eraseIdx k).map f
  | [], _ => rfl
  | _ :: _, 0 => rfl
  | a :: l, k + 1 => congrArg (f a :: ·) (erase_map f l k)
theorem cut_upto (xs : List V) {k : Nat} (h : k ≤ xs.length) : cutV xs none (some (k : Int)) = xs.take k := by
  unfold cutV
  rw [HT.sIx_none, HT.sIx_nat]
  simp [Nat.min_eq_left h]
structure TDealC (K : PySem.W.Frag) (mg : Str → Option Value) : Type where
  mI : mg "int" = none
  mA : mg "abs" = none
  mL : mg "len" = none
  mLs : mg "list" = none
  deal : At K mg "_law_deal" sDeal ["_law_script"]
  draw : At K mg "_law_draw" sDraw ["_law_deal_here", "_law_many"]
  pick : At K mg "_law_pick" sPick ["_law_deal_here", "_law_some"]
  mixed : At K mg "_law_mixed" sMixed ["_law_deal_here", "_law_some"]
  names : At K mg "_law_names" sNames ["_law_deal_here", "_law_many"]
section
variable {P : Program} {w : World} {K : PySem.W.Frag} {mg : Str → Option Value} {base : Heap}
theorem TDealC.okDraw (T : TDealC K mg) : FnOk P w K mg base CX0 1 T.draw.f T.draw.fd ["_law_deal_here", "_law_many"] spDraw := ok_draw T.draw.F T.mI
theorem TDealC.okPick (T : TDealC K mg) : FnOk P w K mg base CX0 2 T.pick.f T.pick.fd ["_law_deal_here", "_law_some"] (spPick K) := ok_pick T.pick.F T.mL T.draw T.mI
theorem TDealC.okDeal (T : TDealC K mg) : FnOk P w K mg base CX0 1 T.deal.f T.deal.fd ["_law_script"] (spDeal K) := ok_deal T.deal.F T.mI T.mA
def spMixed (K : PySem.W.Frag) : Sp := fun vs H Q _ => ∃ (d g a : Addr) (ss : List Str), vs = [.ref d, .ref a] ∧ DealAt H d g ∧ SqL K (hh H d g) a (ss.map V.str) ∧ ss.length ≤ 100 ∧ (∀ z ∈ ss, PyData.strOk z = true) ∧
  ∀ (l : Addr) (zs : List Str) (H' : Hp), zs.Perm ss → DealAt H' d g → Same (hh H d g) (hh H' d g) → Mo H H' → hh H' d g l = some (.lst (zs.map V.str)) → Q (.ref l) H'
theorem scMixed : FnScope ["_law_deal_here", "_law_some", "_law_left", "_law_found"] ["_law_deal_here", "_law_some"] (defScope sMixed) := ⟨rfl, rfl, rfl, by decide +kernel, rfl, by decide +kernel, by decide +kernel⟩
theorem TDealC.okMixed (T : TDealC K mg) : FnOk P w K mg base CX0 2 T.mixed.f T.mixed.fd ["_law_deal_here", "_law_some"] (spMixed K) := by
  refine T.mixed.F.ok scMixed (fun vs H Q E h => ?_) (fun cdv A outer s H vs Q E hr h => ?_)
  · obtain ⟨d, g, a, ss, rfl, _⟩ := h
    rfl
  · obtain ⟨d, g, a, ss, rfl, hD, hS, hl, hok, q⟩ := h
    refine ⟨_, (pss_cons (ps_par (i := 2) (j := 3) (by rfl) scMixed.nd rfl rfl (by decide) rfl rfl (pa_cons (pe_callTy call_list_of (by rfl) T.mLs (by decide +kernel) (pa_cons (pv 1) pa_nil)) (pa_cons (pe_lst pa_nil) pa_nil)) (by rfl))
(pss_cons (ps_while PassesOwn.never (pt_cmpR (op_neD hr.units) (pv 2) (pe_lst pa_nil) (nomark _))
(pss_one (ps_expr (pe_bm PySem.F.plainAttrs_list PySem.F.slot_list_append PySem.F.type_list_append mt_append (pv 3) (pa_cons (pe_bm PySem.F.plainAttrs_list PySem.F.slot_list_pop PySem.F.type_list_pop mt_popAt (pv 2) (pa_cons (pe_call T.okDraw (hr.mono (by decide)) rfl T.draw.m T.draw.F.kp T.draw.b .nil pass0 (pa_cons (pv 0) (pa_cons (pe_callB call_len_seq (by rfl) T.mL PySem.boot_len (pa_cons (pv 2) pa_nil)) pa_nil))) pa_nil)) pa_nil)))))
(pss_one (ps_ret (pv 3))))), ?_⟩
    refine ⟨_, rfl, a, _, rfl, .inl (hh_sub.seq hS), fun L hL => ?_⟩
    refine ⟨(by show 0 ≤ sizeLine; decide), fun F hF => ?_⟩
    have n1 := hD.nd hL
    have hD1 := hD.new (o := .lst (ss.map V.str)) hL
    have n2 := hD1.nd hF
    have hD2 := hD1.new (o := .lst []) hF
    have s2 : Same (hh H d g) (hh (upd (upd H L (.lst (ss.map V.str))) F (.lst [])) d g) := (hh_new hL).trans (hh_new hF)
    have m2 : Mo H (upd (upd H L (.lst (ss.map V.str))) F (.lst [])) := Mo.upd.trans Mo.upd
    have nLF : L ≠ F := fun z => by rw [← z, upd_same] at hF; cases hF
    have eL : (upd (upd H L (.lst (ss.map V.str))) F (.lst [])) L = some (.lst (ss.map V.str)) := by rw [upd_ne nLF]; exact upd_same
    have eF : (upd (upd H L (.lst (ss.map V.str))) F (.lst [])) F = some (.lst []) := upd_same
    have hFn : H F = none := by rw [upd_ne nLF.symm] at hF; exact hF
    generalize upd (upd H L (.lst (ss.map V.str))) F (.lst []) = H2 at hD2 s2 m2 eL eF ⊢
    refine ⟨_, _, rfl, ?_⟩
    try dsimp only [List.set]
    refine ⟨fun n σ Hc => ∃ (ls fs : List Str), σ = [some (.ref d), some (.ref a), some (.ref L), some (.ref F)] ∧ ls.length = n ∧ (fs ++ ls).Perm ss ∧ DealAt Hc d g ∧ Same (hh H d g) (hh Hc d g) ∧ Mo H Hc ∧ Hc L = some (.lst (ls.map V.str)) ∧ Hc F = some (.lst (fs.map V.str)),
      ⟨_, ss, [], rfl, rfl, .refl _, hD2, s2, m2, eL, eF⟩, fun n σ Hc hP => ?_⟩
    obtain ⟨ls, fs, rfl, hn, perm, hDc, sc, mc, hLc, hFc⟩ := hP
    have ok1 : ∀ z ∈ ls, PyData.strOk z = true := fun z hz => hok z (perm.mem_iff.mp (List.mem_append_right _ hz))
    have len1 : fs.length + ls.length = ss.length := by rw [← List.length_append]; exact perm.length_eq
    refine ⟨_, rfl, (by show 0 ≤ sizeLine; decide), fun p hp => ?_⟩
    have hLp := Same.new (o := .lst []) hp _ _ hLc
    refine ⟨.list (ls.map PyData.str), .list [], .lst (SqL.of hLp) (dp_strL ls), .lst (SqL.of upd_same) .nil, strL_sh ok1, by decide +kernel, _, rfl, ?_⟩
    rw [strsL_nil]
    have hDp := hDc.new (o := .lst []) hp
    have np := hDc.nd hp
    have sp := sc.trans (hh_new (o := .lst []) hp)
    have mp : Mo H (upd Hc p (.lst [])) := mc.trans Mo.upd
    have hFp := Same.new (o := .lst []) hp _ _ hFc
    generalize upd Hc p (.lst []) = Hp at hDp sp mp hLp hFp ⊢
    cases ls with
    | nil =>
      refine iteFB rfl ?_
      refine ⟨_, rfl, ?_⟩
      rw [List.append_nil] at perm
      exact q F fs Hp perm hDp sp mp (hh_get hFp n2.1 n2.2)
    | cons z0 ls0 =>
      refine iteTB rfl ?_
      have ll : (z0 :: ls0).length ≤ 100 := by omega
      refine ⟨fun σ' H' => ∃ (ls fs : List Str), σ' = [some (.ref d), some (.ref a), some (.ref L), some (.ref F)] ∧ ls.length = ls0.length ∧ (fs ++ ls).Perm ss ∧ DealAt H' d g ∧ Same (hh H d g) (hh H' d g) ∧ Mo H H' ∧ H' L = some (.lst (ls.map V.str)) ∧ H' F = some (.lst (fs.map V.str)),
        fun σ' H' q => ⟨ls0.length, by rw [← hn]; exact Nat.lt_succ_self _, q⟩, ?_⟩
      refine ⟨_, rfl, .inl ⟨rfl, _, SqL.of hFp⟩, ?_⟩
      refine ⟨_, rfl, .inl ⟨rfl, _, SqL.of hLp⟩, ?_⟩
      refine ⟨_, rfl, _, rfl, L, _, rfl, .inl (SqL.of hLp), ?_⟩
      refine ⟨d, g, _, rfl, hDp, by simp, by simp only [List.length_map]; omega, fun r H' r0 r1 hD' hs hm => ?_⟩
      rw [List.length_map] at r1
      obtain ⟨k, rfl⟩ : ∃ k : Nat, r = (k : Int) := ⟨r.toNat, by omega⟩
      have hk : k < (z0 :: ls0).length := by omega
      have hL' := hh_sub _ _ (hs _ _ (hh_get hLp n1.1 n1.2))
      have hF' := hh_sub _ _ (hs _ _ (hh_get hFp n2.1 n2.2))
      have gy : (z0 :: ls0)[k]? = some (z0 :: ls0)[k] := List.getElem?_eq_getElem hk
      refine ⟨L, _, _, k, .str (z0 :: ls0)[k], rfl, rfl, hL', by omega, by omega, ?sq, by rw [List.getElem?_map, gy]; rfl, ?_⟩
      case sq =>
        rw [List.length_map]
        have e := PySem.StrLaws.seqIndex_nonneg (i := (k : Int)) (n := (z0 :: ls0).length) (by omega) (by omega)
        rw [Int.toNat_natCast] at e
        exact e
      refine ⟨F, _, _, rfl, rfl, by rw [upd_ne nLF.symm]; exact hF', small1000 (by rw [List.length_map]; omega), ?_⟩
      refine ⟨(z0 :: ls0).eraseIdx k, fs ++ [(z0 :: ls0)[k]], rfl, by rw [List.length_eraseIdx_of_lt hk]; rfl, ?_, (hD'.upd n1.1 n1.2).upd n2.1 n2.2, ?_, ?_, ?_, ?_⟩
      · refine List.Perm.trans ?_ perm
        rw [List.append_assoc]
        exact List.Perm.append_left _ (perm_erase gy)
      · intro c o e
        have e1 := hs _ _ (sp _ _ e)
        obtain ⟨c1, c2, c3⟩ := hh_ne e1
        obtain ⟨_, _, e0⟩ := hh_ne e
        exact hh_get (by rw [upd_ne (ne_of_none e0 hFn), upd_ne (ne_of_none e0 hL)]; exact c3) c1 c2
      · exact ((mp.trans hm).trans Mo.upd).trans Mo.upd
      · rw [upd_ne nLF, upd_same, erase_map]
      · rw [upd_same, List.map_append]
        rfl
def names16 : List Str := ["a", "ab", "abc", "c", "f", "fig", "sec", "zzzz", "x", "y", "now", "box", "at", "n", "text", "on"]
theorem names16_ok : names16.Nodup ∧ (∀ z ∈ names16, PyData.strOk z = true) ∧ ∀ z ∈ names16, nameS z = true := by decide +kernel
def spNames (K : PySem.W.Frag) : Sp := fun vs H Q _ => ∃ (d g : Addr) (m : Nat), vs = [.ref d, .int (m : Int)] ∧ DealAt H d g ∧ m ≤ 16 ∧
  ∀ (l : Addr) (zs : List Str) (H' : Hp), zs.Nodup → (∀ z ∈ zs, z ∈ names16) → zs.length = m → DealAt H' d g → Same (hh H d g) (hh H' d g) → Mo H H' → hh H' d g l = some (.lst (zs.map V.str)) → Q (.ref l) H'
theorem scNames : FnScope ["_law_deal_here", "_law_many", "_law_some"] ["_law_deal_here", "_law_many"] (defScope sNames) := ⟨rfl, rfl, rfl, by decide +kernel, rfl, by decide +kernel, by decide +kernel⟩
theorem TDealC.okNames (T : TDealC K mg) : FnOk P w K mg base CX0 3 T.names.f T.names.fd ["_law_deal_here", "_law_many"] (spNames K) := by
  refine T.names.F.ok scNames (fun vs H Q E h => ?_) (fun cdv A outer s H vs Q E hr h => ?_)
  · obtain ⟨d, g, m, rfl, _⟩ := h
    rfl
  · obtain ⟨d, g, m, rfl, hD, hm, q⟩ := h
    refine ⟨_, (pss_cons (ps_set (i := 2) scNames.nd rfl (Or.inl rfl) (pe_lst (pa_cons pe_str (pa_cons pe_str (pa_cons pe_str (pa_cons pe_str (pa_cons pe_str (pa_cons pe_str (pa_cons pe_str (pa_cons pe_str (pa_cons pe_str (pa_cons pe_str (pa_cons pe_str (pa_cons pe_str (pa_cons pe_str (pa_cons pe_str (pa_cons pe_str (pa_cons pe_str pa_nil))))))))))))))))))
(pss_one (ps_ret (pe_slice sl_list (pe_call T.okMixed (hr.mono (by decide)) rfl T.mixed.m T.mixed.F.kp T.mixed.b .nil pass0 (pa_cons (pv 0) (pa_cons (pv 2) pa_nil))) po_none (po_some (pv 1)))))), ?_⟩
    refine ⟨(by show 16 ≤ sizeLine; decide), fun p hp => ?_⟩
    have hD1 := hD.new (o := .lst (names16.map V.str)) hp
    have s1 : Same (hh H d g) (hh (upd H p (.lst (names16.map V.str))) d g) := hh_new hp
    have e1 := hh_at (o := .lst (names16.map V.str)) hD hp
    refine ⟨_, rfl, _, rfl, d, g, p, names16, rfl, hD1, SqL.of e1, by decide, names16_ok.2.1, fun l zs H' perm hD' hs hm' hl => ?_⟩
    have nd : zs.Nodup := perm.nodup_iff.mpr names16_ok.1
    have zl : zs.length = 16 := perm.length_eq
    refine ⟨_, rfl, (m : Int), rfl, l, _, rfl, SqL.of (hh_sub _ _ hl), fun u hu => ?_⟩
    rw [cut_upto _ (by rw [List.length_map, zl]; exact hm), ← List.map_take]
    have hD2 := hD'.new (o := .lst ((zs.take m).map V.str)) hu
    refine q u (zs.take m) _ (nd.sublist (List.take_sublist _ _)) (fun z hz => perm.mem_iff.mp (List.mem_of_mem_take hz)) (by rw [List.length_take, zl]; omega) hD2 ((s1.trans hs).trans (hh_new hu)) ((Mo.upd.trans hm').trans Mo.upd) (hh_at hD' hu)
end
end Pn

namespace Pn
open PySem PySem.Spec PyProof.Rows L2
/-! ### a new instance, where what its making raises is wished for at the slots -/
section
variable {X : Cx} {CX : CXT} {k : Nat} {f C : Addr} {fd : FuncData} {ps : List Str} {sp : Sp} {dvs : List V} {ds : List Value} {E : L2.St → XK} {x : Str} {p pos : Pos} {e : Expr} {es : List Expr} {t : TA}
def tMakeS (C : Addr) (sp : Sp) (dvs : List V) (E : L2.St → XK) (t : TA) : TE := fun σ H Q => t σ H fun vs H1 => ∀ x dx, H1 x = none → H1 dx = none → dx ≠ x →
  sp (.ref x :: (vs ++ dvs)) (upd (upd H1 dx (.own x)) x (.ins C dx [])) (fun v H2 => v = .non ∧ Q (.ref x) H2) (E σ)
theorem run_makeS {pins : List (Addr × Obj)} {σ : L2.St} {H : Hp} {s : Shared} {Q : VK} {us : List Value} {vs : List V} (M : Mk X.K C f) (F : FnOk X.prog X.w X.K X.mg X.base CX k f fd ps sp) (hr : Room (k + 1) X.A) (hb : Binds X.K fd ps ds) (hd : Vals dvs ds)
    (hx : PassesAt CX X σ (E σ)) (I : Inv X pins σ H s) (r : Vals vs us)
    (h : ∀ x dx, H x = none → H dx = none → dx ≠ x → sp (.ref x :: (vs ++ dvs)) (upd (upd H dx (.own x)) x (.ins C dx [])) (fun v H2 => v = .non ∧ Q (.ref x) H2) (E σ)) :
    wpAny (model X.prog X.w) X.A (call (.ref C) us) (EP X pins σ Q) X.xe s := by
  have hq := h (s.heap.objs.size + 1) s.heap.objs.size (I.hok.fresh (Nat.le_succ _)) (I.hok.fresh (Nat.le_refl _)) (Nat.ne_of_lt (Nat.lt_succ_self _))
  have I2 := Inv.made (C := C) I
  have r2 : Vals (V.ref (s.heap.objs.size + 1) :: (vs ++ dvs)) (Value.ref (s.heap.objs.size + 1) :: (us ++ ds)) := .cons rfl (r.append hd)
  have hl : (Value.ref (s.heap.objs.size + 1) :: us ++ ds).length = ps.length := by
    have e := r2.length
    rw [F.len _ _ _ _ hq] at e
    exact e.symm
  refine wpAny_call (make_map (f := f) I.kIn M.makes M.init (beq_iff_eq.mp M.fn) (codeAny_mono (F.run _ X.stack _ _ ⟨Value.ref (s.heap.objs.size + 1) :: us, []⟩ (Value.ref (s.heap.objs.size + 1) :: (us ++ ds)) _ _ (E σ) (hr.make C us [])
    (I2.env0.make C us []) (hb _ (Value.ref (s.heap.objs.size + 1) :: us) I2.kIn hl) r2 hq) fun r s' hq' => ?_))
  cases r with
  | error e => exact hx pins _ _ e s' I2 hq'
  | ok fl =>
    cases fl with
    | ret u =>
      obtain ⟨v, H', I3, rv, ev, q3⟩ := I2.after hq'
      subst ev
      exact ⟨rv, ⟨V.ref (s.heap.objs.size + 1), H', I3, rfl, q3⟩⟩
    | next => exact False.elim hq'
    | brk => exact False.elim hq'
    | cont => exact False.elim hq'
theorem pe_makeS (M : Mk X.K C f) (F : FnOk X.prog X.w X.K X.mg X.base CX k f fd ps sp) (hr : Room (k + 1) X.A) (hg : Gl X x) (hm : X.mg x = some (.ref C)) (hb : Binds X.K fd ps ds) (hd : Vals dvs ds) (hx : ∀ σ, PassesAt CX X σ (E σ))
    (ha : PA X (e :: es) t) (hdb : (x == ("__debug__" : Str)) = false := by decide) (he : starEach (e :: es) X.env = (false, eval e X.env) :: starEach es X.env := by rfl) (hpl : (backTo pos (starEach es X.env)).any (·.1) = false := by rfl) :
    PE X (.Call (.Name x p) (e :: es) [] pos) (tMakeS C sp dvs E t) := by
  refine ⟨fun pins s σ H Q I h => ?_⟩
  refine wpAny_Call_Name_kw (ld_glob I hg hm ?_ hdb)
  refine PySem.W.callWith_K (h₀ := X.base) I.ok.mod.kin M.kp (thn (ha.run pos pins s σ H _ I h) fun us s1 ⟨vs, H1, I1, r, q⟩ => ⟨I1.kIn, ?_⟩) he hpl
  exact run_makeS M F hr hb hd (hx σ) I1 r q
end
end Pn

namespace Pn
open PySem PySem.Spec PyProof.Rows L2 TL
abbrev sWord18 : Stmt := top 35
abbrev sLaw18 : Stmt := top 36
/-- () : of which it is known that it keeps no own attributes -/
theorem pe_tup0X {X : Cx} {x1 : Nat} {pos : Pos} : PE X (.Tuple [] x1 pos) (fun _ H Q => ∀ p H', Same H H' → TupX H' p [] → Q (.ref p) H') := by
  refine ⟨fun pins s σ H Q I hq => ?_⟩
  refine wpAny_Tuple_spliced ((pa_nil (X := X)).run pos pins s σ H (fun xs H1 => xs = [] ∧ H1 = H) I ⟨rfl, rfl⟩ |> fun z => thn z fun us s1 ⟨xs, H1, I1, r, e1, e2⟩ => ?_)
  subst e1 e2
  cases r
  refine ⟨Nat.zero_le _, ?_⟩
  have hf : H1 s1.heap.objs.size = none := I1.hok.fresh (Nat.le_refl _)
  let o : Obj := { cls := .type "tuple", data := .seq ([] : List Value).toArray }
  have I2 : Inv X pins σ (upd H1 s1.heap.objs.size (.frz o (.tup []))) { s1 with heap := s1.heap.push o } :=
    I1.laid (t' := s1.toks) (fun b ob e => Heap.get?_push_of_some _ e) (Nat.le_refl _) ⟨Heap.get?_push_size _ rfl, Nat.zero_le _, [], .nil, PyProof.Rows.IsTup.new _ _⟩
  exact ⟨.ref s1.heap.objs.size, _, I2, rfl, hq _ _ (Same.new hf) ⟨o, rfl, upd_same⟩⟩
section
variable {P : Program} {w : World} {K : PySem.W.Frag} {mg : Str → Option Value} {base : Heap}
structure TK18 (K : PySem.W.Frag) (mg : Str → Option Value) : Type where
  R : TRows K mg
  F : TFill R
  D : TDealC K mg
  CN : Addr
  mCN : mg "NoteError" = some (.ref CN)
  kCN : PySem.W.kitOne K (.ref F.IF.C) (.ref CN) = some true
  kIR : PySem.W.kitOne K (.ref F.IF.C) (.ref R.N.IR.C) = some false
  dN : List Value
  vN : Vals [V.str ""] dN
  bN : Binds K R.note.fd ["self", "counter", "label"] dN
  mR : mg "range" = none
  kFil : PySem.W.kitAny K (.ref F.C) [.type "list", .type "tuple"] = some false
  cAF : PySem.W.findIn K (.ref F.C) "__class__" = some (some (.builtin "object.__class__"))
  cMF : PySem.W.mroIn K F.C (.type "object") = some true
  word : At K mg "_law_word" sWord18 ["_law_parts"]
theorem passX0 {P : Program} {w : World} {X : Cx} : Passes (L2.CX P w) X E0 := fun _ _ _ _ _ _ _ ⟨_, _, _, _, _, _, _, _, _, _, _, _, h⟩ => h.elim
theorem NoSq.same {H H' : Hp} {v : V} (h : NoSq K H v) (s : Same H H') : NoSq K H' v := by
  obtain ⟨t, ty, hk, k⟩ := h
  exact ⟨t, k _ s, hk, fun H'' s' => k _ (s.trans s')⟩
/-- how a value is answered -/
def FAns (R : TRows K mg) (H : Hp) (v r : V) : Prop := (NoSq K H v ∧ r = .str "parts") ∨
  (∃ (p : Addr) (xs : List V) (bs : List Bool), v = .ref p ∧ (SqL K H p xs ∨ SqT K H p xs) ∧ Paired (FillE R H) xs bs ∧ xs.length ≤ 1000 ∧ bs.all id = false ∧ r = .str "parts") ∨
  (∃ (p : Addr) (ts : List Addr) (cs : List FilD), v = .ref p ∧ (SqL K H p (ts.map V.ref) ∨ SqT K H p (ts.map V.ref)) ∧ Paired (FPair R H) ts cs ∧ cs.length ≤ 60 ∧ ¬ (cs.map (·.1)).Nodup ∧ r = .str "name") ∨
  (∃ (p : Addr) (ts : List Addr) (cs : List FilD), v = .ref p ∧ (SqL K H p (ts.map V.ref) ∨ TupX H p (ts.map V.ref)) ∧ Paired (FPair R H) ts cs ∧ cs.length ≤ 60 ∧ (cs.map (·.1)).Nodup ∧ r = .non)
theorem FAns.same {R : TRows K mg} {H H' : Hp} {v r : V} (h : FAns R H v r) (s : Same H H') : FAns R H' v r := by
  have sq : ∀ {p : Addr} {xs : List V}, (SqL K H p xs ∨ SqT K H p xs) → (SqL K H' p xs ∨ SqT K H' p xs) := fun z => z.elim (fun h => .inl (s.seq h)) (fun h => .inr (Same.sqt s h))
  rcases h with ⟨a, b⟩ | ⟨p, xs, bs, a, b, c, d⟩ | ⟨p, ts, cs, a, b, c, d⟩ | ⟨p, ts, cs, a, b, c, d⟩
  · exact .inl ⟨a.same s, b⟩
  · exact .inr (.inl ⟨p, xs, bs, a, sq b, paired_mono (fun _ _ z => z.same s) c, d⟩)
  · exact .inr (.inr (.inl ⟨p, ts, cs, a, sq b, paired_mono (fun _ _ z => z.same s) c, d⟩))
  · exact .inr (.inr (.inr ⟨p, ts, cs, a, b.imp (fun h => s.seq h) (fun h => h.same s), paired_mono (fun _ _ z => z.same s) c, d⟩))
def spWord18 (R : TRows K mg) : Sp := fun vs H Q _ => ∃ v r : V, vs = [v] ∧ FAns R H v r ∧ ∀ H', Same H H' → Q r H'
theorem scWord18 : FnScope ["_law_parts", "_law_found", "e"] ["_law_parts"] (defScope sWord18) := ⟨rfl, rfl, rfl, by decide +kernel, rfl, by decide +kernel, by decide +kernel⟩
theorem ok_word18 (T : TK18 K mg) : FnOk P w K mg base CX0 8 T.word.f T.word.fd ["_law_parts"] (spWord18 T.R) := by
  refine T.word.F.ok scWord18 (fun vs H Q E h => ?_) (fun cdv A outer s H vs Q E hr h => ?_)
  · obtain ⟨v, r, rfl, _⟩ := h
    rfl
  · obtain ⟨v, r, rfl, ha, q⟩ := h
    refine ⟨_, pss_cons (ps_set (i := 1) scWord18.nd rfl (Or.inl rfl) pe_non)
      (pss_cons (ps_try_as (i := 2) rfl rfl scWord18.nd rfl rfl ⟨rfl, by decide, .inl T.F.IF.m⟩ takes0
        (fun W pn xe tk _ => pss_one (ps_expr (pe_makeS T.F.M (okFInit T.F) (hr.mono (by decide)) rfl T.F.mC T.F.bI .nil (fun σ => passAt tk σ) (pa_cons (pv 0) pa_nil))))
        (fun a oe cls d pn hz hf => pss_one (ps_set (i := 1) scWord18.nd rfl (Or.inl rfl) (pe_ifExp (PW.pt (pw_and (pt_val (pe_callB (call_isX T.F.IF.E hz hf) (by rfl) T.R.N.mIsi (by decide +kernel) (pa_cons (pv 2) (pa_cons (pe_glob (v := .ref T.CN) (by rfl) T.mCN rfl) pa_nil))))
          (pw_and1 (pt_not (pt_val (pe_callB (call_isX T.F.IF.E hz hf) (by rfl) T.R.N.mIsi (by decide +kernel) (pa_cons (pv 2) (pa_cons (pe_glob (v := .ref T.R.N.IR.C) (by rfl) T.R.N.IR.m rfl) pa_nil))))))))
          (pe_xf T.F.IF.xf T.F.IF.noF hz hf (pv 2)) pe_str))))
      (pss_one (ps_ret (pv 1)))), ?_⟩
    refine ⟨_, rfl, fun x dx hx hdx ne => ?_⟩
    have s1 : Same H (upd (upd H dx (.own x)) x (.ins T.F.C dx [])) := ins_same2 hx hdx
    have ha1 := ha.same s1
    refine ⟨x, dx, v, rfl, upd_same, ?_⟩
    rcases ha1 with ⟨a, rfl⟩ | ⟨p, xs, bs, a, b, c, d, e, rfl⟩ | ⟨p, ts, cs, a, b, c, d, e, rfl⟩ | ⟨p, ts, cs, a, b, c, d, e, rfl⟩
    · refine .inl ⟨a, fun y H1 hs hy2 => ?_⟩
      refine ⟨true, T.F.IF.te, fun _ a ha => ?_, fun z => nomatch z⟩
      refine ⟨_, rfl, .ref T.CN, _, true, y, _, rfl, rfl, .own _, T.kCN, rfl, hy2, _, rfl, iteT ?_⟩
      refine ⟨_, rfl, .ref T.R.N.IR.C, _, false, y, _, rfl, rfl, .own _, T.kIR, rfl, hy2, _, rfl, iteT ?_⟩
      refine ⟨_, rfl, rfl, rfl, y, _, .str "parts", rfl, hy2, rfl, _, rfl, ?_⟩
      exact q H1 (s1.trans hs)
    · refine .inr (.inl ⟨p, xs, bs, a, b, c, d, e, fun y H1 hs hy2 => ?_⟩)
      refine ⟨true, T.F.IF.te, fun _ a ha => ?_, fun z => nomatch z⟩
      refine ⟨_, rfl, .ref T.CN, _, true, y, _, rfl, rfl, .own _, T.kCN, rfl, hy2, _, rfl, iteT ?_⟩
      refine ⟨_, rfl, .ref T.R.N.IR.C, _, false, y, _, rfl, rfl, .own _, T.kIR, rfl, hy2, _, rfl, iteT ?_⟩
      refine ⟨_, rfl, rfl, rfl, y, _, .str "parts", rfl, hy2, rfl, _, rfl, ?_⟩
      exact q H1 (s1.trans hs)
    · refine .inr (.inr (.inl ⟨p, ts, cs, a, b, c, d, e, fun y H1 hs hy2 => ?_⟩))
      refine ⟨true, T.F.IF.te, fun _ a ha => ?_, fun z => nomatch z⟩
      refine ⟨_, rfl, .ref T.CN, _, true, y, _, rfl, rfl, .own _, T.kCN, rfl, hy2, _, rfl, iteT ?_⟩
      refine ⟨_, rfl, .ref T.R.N.IR.C, _, false, y, _, rfl, rfl, .own _, T.kIR, rfl, hy2, _, rfl, iteT ?_⟩
      refine ⟨_, rfl, rfl, rfl, y, _, .str "name", rfl, hy2, rfl, _, rfl, ?_⟩
      exact q H1 (s1.trans hs)
    · refine .inr (.inr (.inr ⟨p, ts, cs, a, b, c, d, e, fun tp H1 kp hf hi => ⟨rfl, _, rfl, ?_⟩⟩))
      exact q H1 (kpi_same2 hx hdx kp)
end
end Pn

namespace Pn
open PySem L2 TL
/-! ### rows made of good names -/
section
variable {P : Program} {w : World} {K : PySem.W.Frag} {mg : Str → Option Value} {base : Heap}
theorem nl_name {z : Str} (h : nameS z = true) : dlen (.str z) := Nat.le_trans (name_ok h).2 (by show 4 ≤ 900; decide)
theorem note_mk (R : TRows K mg) {H : Hp} {c l : Str} (hc : nameS c = true) (hl : l = "" ∨ nameS l = true) {RR : Addr → Hp → Prop} (k : ∀ x H', H x = none → Same H H' → RowAt R H' x (.note c l) → RR x H') :
    ∀ x dx, H x = none → H dx = none → dx ≠ x → spNoteInit K R.note.C R.N.IR.C [.ref x, .str c, .str l] (upd (upd H dx (.own x)) x (.ins R.note.C dx [])) (fun v H2 => v = .non ∧ RR x H2) E0 := fun x dx hx hdx ne =>
  ⟨x, dx, .str c, .str l, .str c, .str l, rfl, upd_same, .str c, nl_name hc, .str l, (by rcases hl with rfl | z; exact (by decide +kernel : ("" : Str).length ≤ 900); exact nl_name z), str_shaped (by rcases hl with rfl | z; decide +kernel; exact (name_ok z).1), fun hn hg H1 kp m hi => ⟨rfl, k x H1 hx (kpi_same2 hx hdx kp) ⟨dx, hi⟩⟩, fun hn => absurd hc (by rw [show nameS c = false from hn]; decide), fun _ hg => absurd (lab_of hl) (by rw [hg]; decide)⟩
theorem skip_mk (R : TRows K mg) {H : Hp} {c : Str} {n : Nat} (hc : nameS c = true) (hn : 1 ≤ n) {RR : Addr → Hp → Prop} (k : ∀ x H', H x = none → Same H H' → RowAt R H' x (.skip c n) → RR x H') :
    ∀ x dx, H x = none → H dx = none → dx ≠ x → spSkipInit K R.skip.C R.N.IR.C [.ref x, .str c, .int (n : Int)] (upd (upd H dx (.own x)) x (.ins R.skip.C dx [])) (fun v H2 => v = .non ∧ RR x H2) E0 := fun x dx hx hdx ne =>
  ⟨x, dx, .str c, .int (n : Int), .str c, .int (n : Int), rfl, upd_same, .str c, nl_name hc, .int _, fun _ _ H1 kp m hi => ⟨rfl, k x H1 hx (kpi_same2 hx hdx kp) ⟨dx, hi⟩⟩, fun z => absurd hc (by rw [show nameS c = false from z]; decide), fun _ z => absurd (skip_of (n := n) (by omega)) (by rw [z]; decide)⟩
theorem set_mk (R : TRows K mg) {H : Hp} {c : Str} {n : Nat} (hc : nameS c = true) {RR : Addr → Hp → Prop} (k : ∀ x H', H x = none → Same H H' → RowAt R H' x (.set c n) → RR x H') :
    ∀ x dx, H x = none → H dx = none → dx ≠ x → spSetInit K R.set.C R.N.IR.C [.ref x, .str c, .int (n : Int)] (upd (upd H dx (.own x)) x (.ins R.set.C dx [])) (fun v H2 => v = .non ∧ RR x H2) E0 := fun x dx hx hdx ne =>
  ⟨x, dx, .str c, .int (n : Int), .str c, .int (n : Int), rfl, upd_same, .str c, nl_name hc, .int _, fun _ _ H1 kp m hi => ⟨rfl, k x H1 hx (kpi_same2 hx hdx kp) ⟨dx, hi⟩⟩, fun z => absurd hc (by rw [show nameS c = false from z]; decide), fun _ z => absurd (set_of (n := n)) (by rw [z]; decide)⟩
theorem keep_mk (R : TRows K mg) {H : Hp} {c : Str} (hc : nameS c = true) {RR : Addr → Hp → Prop} (k : ∀ x H', H x = none → Same H H' → RowAt R H' x (.keep c) → RR x H') :
    ∀ x dx, H x = none → H dx = none → dx ≠ x → spKeepInit K R.keep.C R.N.IR.C [.ref x, .str c] (upd (upd H dx (.own x)) x (.ins R.keep.C dx [])) (fun v H2 => v = .non ∧ RR x H2) E0 := fun x dx hx hdx ne =>
  ⟨x, dx, .str c, .str c, rfl, upd_same, .str c, nl_name hc, fun hn H1 kp m hi => ⟨rfl, k x H1 hx (kpi_same2 hx hdx kp) ⟨dx, hi⟩⟩, fun hn => absurd hc (by rw [show nameS c = false from hn]; decide)⟩
theorem back_mk (R : TRows K mg) {H : Hp} {c : Str} (hc : nameS c = true) {RR : Addr → Hp → Prop} (k : ∀ x H', H x = none → Same H H' → RowAt R H' x (.back c) → RR x H') :
    ∀ x dx, H x = none → H dx = none → dx ≠ x → spBackInit K R.back.C R.N.IR.C [.ref x, .str c] (upd (upd H dx (.own x)) x (.ins R.back.C dx [])) (fun v H2 => v = .non ∧ RR x H2) E0 := fun x dx hx hdx ne =>
  ⟨x, dx, .str c, .str c, rfl, upd_same, .str c, nl_name hc, fun hn H1 kp m hi => ⟨rfl, k x H1 hx (kpi_same2 hx hdx kp) ⟨dx, hi⟩⟩, fun hn => absurd hc (by rw [show nameS c = false from hn]; decide)⟩
theorem ref_mk (R : TRows K mg) {H : Hp} {c : Str} (hc : nameS c = true) {RR : Addr → Hp → Prop} (k : ∀ x H', H x = none → Same H H' → RowAt R H' x (.ref c) → RR x H') :
    ∀ x dx, H x = none → H dx = none → dx ≠ x → spRefInit K R.ref.C R.N.IR.C [.ref x, .str c] (upd (upd H dx (.own x)) x (.ins R.ref.C dx [])) (fun v H2 => v = .non ∧ RR x H2) E0 := fun x dx hx hdx ne =>
  ⟨x, dx, .str c, .str c, rfl, upd_same, .str c, nl_name hc, fun hn H1 kp m hi => ⟨rfl, k x H1 hx (kpi_same2 hx hdx kp) ⟨dx, hi⟩⟩, fun hn => absurd hc (by rw [show nameS c = false from hn]; decide)⟩
theorem put_mk (R : TRows K mg) {H : Hp} {c : Str} (hc : nameS c = true) {RR : Addr → Hp → Prop} (k : ∀ x H', H x = none → Same H H' → RowAt R H' x (.put c) → RR x H') :
    ∀ x dx, H x = none → H dx = none → dx ≠ x → spPutInit K R.put.C R.N.IR.C [.ref x, .str c] (upd (upd H dx (.own x)) x (.ins R.put.C dx [])) (fun v H2 => v = .non ∧ RR x H2) E0 := fun x dx hx hdx ne =>
  ⟨x, dx, .str c, .str c, rfl, upd_same, .str c, nl_name hc, fun hn H1 kp m hi => ⟨rfl, k x H1 hx (kpi_same2 hx hdx kp) ⟨dx, hi⟩⟩, fun hn => absurd hc (by rw [show nameS c = false from hn]; decide)⟩
theorem open_mk (R : TRows K mg) {H : Hp} {c : Str} (hc : nameS c = true) {RR : Addr → Hp → Prop} (k : ∀ x H', H x = none → Same H H' → RowAt R H' x (.opn c) → RR x H') :
    ∀ x dx, H x = none → H dx = none → dx ≠ x → spOpenInit K R.open_.C R.N.IR.C [.ref x, .str c] (upd (upd H dx (.own x)) x (.ins R.open_.C dx [])) (fun v H2 => v = .non ∧ RR x H2) E0 := fun x dx hx hdx ne =>
  ⟨x, dx, .str c, .str c, rfl, upd_same, .str c, nl_name hc, fun hn H1 kp m hi => ⟨rfl, k x H1 hx (kpi_same2 hx hdx kp) ⟨dx, hi⟩⟩, fun hn => absurd hc (by rw [show nameS c = false from hn]; decide)⟩
end
end Pn

namespace Pn
open PySem PySem.Spec PyProof.Rows L2 TL
/-! ### expressions that keep what stands; what they give is told of what is new since B -/
theorem smo {H H' : Hp} (s : Same H H') : Mo H H' := fun _ e => Same.free s e
theorem dif_sm {B H H' : Hp} (s : Same H H') : Same (dif B H) (dif B H') := fun a o e => by
  obtain ⟨e0, e1⟩ := dif_eq.mp e
  exact dif_eq.mpr ⟨e0, s _ _ e1⟩
theorem dif_at {B H : Hp} {p : Addr} {o : HO} (m : Mo B H) (hp : H p = none) : dif B (upd H p o) p = some o := dif_eq.mpr ⟨m p hp, upd_same⟩
theorem dif_up {B H : Hp} {p : Addr} {o : HO} (hp : H p = none) : Same (dif B H) (dif B (upd H p o)) := dif_sm (Same.new hp)
def Gv (te : TE) (σ : L2.St) (P : Hp → V → Prop) : Prop := ∀ (B H : Hp) (R : VK), Mo B H → (∀ v H', Same H H' → P (dif B H') v → R v H') → te σ H R
def GvA (ta : TA) (σ : L2.St) (P : Hp → List V → Prop) : Prop := ∀ (B H : Hp) (R : List V → Hp → Prop), Mo B H → (∀ vs H', Same H H' → P (dif B H') vs → R vs H') → ta σ H R
def StP (P : Hp → V → Prop) : Prop := ∀ (H H' : Hp) (v : V), Same H H' → P H v → P H' v
theorem gv_use {te : TE} {σ : L2.St} {P : Hp → V → Prop} {H : Hp} {Q : VK} (B : Hp) (m : Mo B H) (g : Gv te σ P) (k : ∀ v H', Same H H' → P (dif B H') v → Q v H') : te σ H Q := g B H Q m k
theorem Gv.imp {te : TE} {σ : L2.St} {P P' : Hp → V → Prop} (g : Gv te σ P) (h : ∀ H v, P H v → P' H v) : Gv te σ P' := fun B H R m k => g B H R m fun v H' s p => k v H' s (h _ _ p)
section
variable {K : PySem.W.Frag} {mg : Str → Option Value} {σ : L2.St}
theorem gv_c (c : V) : Gv (tC c) σ (fun _ v => v = c) := fun B H R m k => k c H (Same.refl H) rfl
/-- things of one sort, so many -/
def AllP (P : Hp → V → Prop) (n : Nat) : Hp → List V → Prop := fun H vs => vs.length = n ∧ ∀ v ∈ vs, P H v
theorem AllP.st {P : Hp → V → Prop} {n : Nat} (st : StP P) {H H' : Hp} {vs : List V} (s : Same H H') (h : AllP P n H vs) : AllP P n H' vs := ⟨h.1, fun v hv => st _ _ _ s (h.2 v hv)⟩
theorem gva_all0 {P : Hp → V → Prop} : GvA tNil σ (AllP P 0) := fun B H R m k => k [] H (Same.refl H) ⟨rfl, fun _ z => nomatch z⟩
theorem gva_all {te : TE} {ta : TA} {P : Hp → V → Prop} {n : Nat} (st : StP P) (g : Gv te σ P) (h : GvA ta σ (AllP P n)) : GvA (tCons te ta) σ (AllP P (n + 1)) := fun B H R m k =>
  g B H _ m fun v H1 s1 p => h B H1 _ (m.trans (smo s1)) fun us H2 s2 ⟨l, q⟩ => k (v :: us) H2 (Same.trans s1 s2) ⟨by rw [List.length_cons, l], fun x hx => by
    rcases List.mem_cons.mp hx with rfl | hx
    · exact st _ _ _ (dif_sm s2) p
    · exact q x hx⟩
/-- a list of them: they stand beside the list -/
theorem gv_lstAll {ta : TA} {P : Hp → V → Prop} {n : Nat} (st : StP P) (hn : n ≤ 1000) (h : GvA ta σ (AllP P n)) : Gv (tLst ta) σ (fun H v => ∃ p vs, v = .ref p ∧ H p = some (.lst vs) ∧ AllP P n (hid H p) vs) := fun B H R m k =>
  h B H _ m fun vs H1 s1 q => ⟨Nat.le_of_lt (small1000 (by rw [q.1]; exact hn)), fun p hp => k _ _ (Same.trans s1 (Same.new hp)) ⟨p, vs, rfl, dif_at (m.trans (smo s1)) hp, q.st st fun a o e => hid_get (dif_up hp _ _ e) (fun z => by
    obtain ⟨_, e1⟩ := dif_eq.mp e
    rw [z, hp] at e1
    cases e1)⟩⟩
/-- data -/
def PD (K : PySem.W.Frag) (d : PyData) : Hp → V → Prop := fun H v => Dp K H v d
theorem st_d (d : PyData) : StP (PD K d) := fun _ _ v s h => dp_same s d v h
def PDA (K : PySem.W.Frag) (ds : List PyData) : Hp → List V → Prop := fun H vs => DpAll K H vs ds
theorem gvd_nil : GvA tNil σ (PDA K []) := fun B H R m k => k [] H (Same.refl H) .nil
theorem gvd_cons {te : TE} {ta : TA} {d : PyData} {ds : List PyData} (g : Gv te σ (PD K d)) (h : GvA ta σ (PDA K ds)) : GvA (tCons te ta) σ (PDA K (d :: ds)) := fun B H R m k =>
  g B H _ m fun v H1 s1 p => h B H1 _ (m.trans (smo s1)) fun us H2 s2 q => k (v :: us) H2 (Same.trans s1 s2) (.cons (dp_same (dif_sm s2) _ _ p) q)
theorem dpAll_len1 {H : Hp} : ∀ {vs : List V} {ds : List PyData}, DpAll K H vs ds → vs.length = ds.length
  | _, _, .nil => rfl
  | _, _, .cons _ b => congrArg Nat.succ (dpAll_len1 b)
theorem gvd_tup {ta : TA} {ds : List PyData} (h : GvA ta σ (PDA K ds)) (hl : ds.length ≤ 1000) : Gv (tTup ta) σ (PD K (.tuple ds)) := fun B H R m k =>
  h B H _ m fun vs H1 s1 q => ⟨Nat.le_of_lt (small1000 (by rw [dpAll_len1 q]; exact hl)), fun p hp => k _ _ (Same.trans s1 (Same.new hp)) (.tup (SqT.of (dif_at (m.trans (smo s1)) hp)) (dpAll_same (dif_up hp) _ _ q))⟩
theorem gvd_lst {ta : TA} {ds : List PyData} (h : GvA ta σ (PDA K ds)) (hl : ds.length ≤ 1000) : Gv (tLst ta) σ (PD K (.list ds)) := fun B H R m k =>
  h B H _ m fun vs H1 s1 q => ⟨Nat.le_of_lt (small1000 (by rw [dpAll_len1 q]; exact hl)), fun p hp => k _ _ (Same.trans s1 (Same.new hp)) (.lst (SqL.of (dif_at (m.trans (smo s1)) hp)) (dpAll_same (dif_up hp) _ _ q))⟩
theorem gvd_s (z : Str) : Gv (tC (.str z)) σ (PD K (.str z)) := (gv_c _).imp fun _ _ e => by subst e; exact .str z
theorem gvd_n : Gv (tC .non) σ (PD K .none) := (gv_c _).imp fun _ _ e => by subst e; exact .non
theorem gvd_i (i : Int) : Gv (tC (.int i)) σ (PD K (.int i)) := (gv_c _).imp fun _ _ e => by subst e; exact .int i
/-- what cannot stand in a filling -/
def Odd (R : TRows K mg) : Hp → V → Prop := fun H v => FillE R H v false
theorem st_odd (R : TRows K mg) : StP (Odd R) := fun _ _ _ s h => h.same s
theorem odd_d {R : TRows K mg} {te : TE} {d : PyData} (g : Gv te σ (PD K d)) (h : pairD d = false) : Gv te σ (Odd R) := g.imp fun _ _ p => .inl ⟨rfl, d, p, h⟩
/-- a pair whose first thing is no name -/
theorem odd_1 {R : TRows K mg} {te tu : TE} {d : PyData} {P : Hp → V → Prop} (g : Gv te σ (PD K d)) (hn : nameD d = false) (hl : dlen d) (h : Gv tu σ P) : Gv (tTup (tCons te (tCons tu tNil))) σ (Odd R) := fun B H R' m k =>
  g B H _ m fun y H1 s1 p => h B H1 _ (m.trans (smo s1)) fun u H2 s2 q => ⟨by show 2 ≤ sizeLine; decide, fun t ht => k _ _ (Same.trans (Same.trans s1 s2) (Same.new ht)) (.inr ⟨t, y, u, d, none, rfl, SqT.of (dif_at (m.trans (smo (Same.trans s1 s2))) ht), dp_same (dif_sm (Same.trans s2 (Same.new ht))) _ _ p, hl, .inl ⟨hn, rfl⟩⟩)⟩
/-- rows that cannot stand so -/
def BadRows (R : TRows K mg) : Hp → V → Prop := fun H u => ∃ o, FRows R H u o ∧ argF o = false
theorem odd_2 {R : TRows K mg} {tu : TE} {z : Str} (hz : nameS z = true) (h : Gv tu σ (BadRows R)) : Gv (tTup (tCons (tC (.str z)) (tCons tu tNil))) σ (Odd R) := fun B H R' m k =>
  h B H _ m fun u H2 s2 ⟨o, q, e⟩ => ⟨by show 2 ≤ sizeLine; decide, fun t ht => k _ _ (Same.trans s2 (Same.new ht)) (.inr ⟨t, .str z, u, .str z, o, rfl, SqT.of (dif_at (m.trans (smo s2)) ht), .str z, nl_name hz, .inr ⟨hz, q.same (dif_up ht), e.symm⟩⟩)⟩
theorem bad_d {R : TRows K mg} {te : TE} {d : PyData} (g : Gv te σ (PD K d)) (h : seqD d = false) : Gv te σ (BadRows R) := g.imp fun _ _ p => ⟨none, .inl ⟨d, p, h⟩, rfl⟩
/-- a row that is made -/
def PRow (R : TRows K mg) (r : RowD) : Hp → V → Prop := fun H v => ∃ a, v = .ref a ∧ RowAt R H a r
theorem bad_row {R : TRows K mg} {te : TE} {r : RowD} (g : Gv te σ (PRow R r)) : Gv te σ (BadRows R) := g.imp fun _ _ ⟨a, e, h⟩ => ⟨none, .inr ⟨a, r, e, h⟩, rfl⟩
theorem bad_lst1 {R : TRows K mg} {te : TE} {r : RowD} (g : Gv te σ (PRow R r)) (hr : fillB r = false) : Gv (tLst (tCons te tNil)) σ (BadRows R) := fun B H R' m k =>
  g B H _ m fun v H1 s1 ⟨a, e, ha⟩ => ⟨by show 1 ≤ sizeLine; decide, fun p hp => k _ _ (Same.trans s1 (Same.new hp)) ⟨some ([.ref a], [false]), ⟨p, rfl, .inl (SqL.of (by rw [dif_at (m.trans (smo s1)) hp, e])), .cons (.inl ⟨a, r, rfl, ha.same (dif_up hp), hr.symm⟩) .nil, by show 1 ≤ 1000; decide⟩, rfl⟩⟩
theorem bad_tup1 {R : TRows K mg} {te : TE} {r : RowD} (g : Gv te σ (PRow R r)) (hr : fillB r = false) : Gv (tTup (tCons te tNil)) σ (BadRows R) := fun B H R' m k =>
  g B H _ m fun v H1 s1 ⟨a, e, ha⟩ => ⟨by show 1 ≤ sizeLine; decide, fun p hp => k _ _ (Same.trans s1 (Same.new hp)) ⟨some ([.ref a], [false]), ⟨p, rfl, .inr (SqT.of (by rw [dif_at (m.trans (smo s1)) hp, e])), .cons (.inl ⟨a, r, rfl, ha.same (dif_up hp), hr.symm⟩) .nil, by show 1 ≤ 1000; decide⟩, rfl⟩⟩
theorem bad_lst2 {R : TRows K mg} {te : TE} {r : RowD} (g : Gv te σ (PRow R r)) : Gv (tLst (tCons te (tCons (tC .non) tNil))) σ (BadRows R) := fun B H R' m k =>
  g B H _ m fun v H1 s1 ⟨a, e, ha⟩ => ⟨by show 2 ≤ sizeLine; decide, fun p hp => k _ _ (Same.trans s1 (Same.new hp)) ⟨some ([.ref a, .non], [fillB r, false]), ⟨p, rfl, .inl (SqL.of (by rw [dif_at (m.trans (smo s1)) hp, e])), .cons (.inl ⟨a, r, rfl, ha.same (dif_up hp), rfl⟩) (.cons (.inr ⟨rfl, .none, .non⟩) .nil), by show 2 ≤ 1000; decide⟩, by show ([fillB r, false] : List Bool).all id = false; simp⟩⟩
/-- rows that can -/
def GoodRows (R : TRows K mg) : Hp → V → Prop := fun H v => ∃ q us rs, v = .ref q ∧ FRowsAt R H q us rs
theorem st_good (R : TRows K mg) : StP (GoodRows R) := fun _ _ _ s ⟨q, us, rs, e, h⟩ => ⟨q, us, rs, e, h.same s⟩
theorem good_0 {R : TRows K mg} : Gv (tLst tNil) σ (GoodRows R) := fun B H R' m k => ⟨Nat.zero_le _, fun p hp => k _ _ (Same.new hp) ⟨p, [], [], rfl, .inl (SqL.of (dif_at m hp)), .nil, fun _ z => (nomatch z), Nat.zero_le _⟩⟩
theorem good_tup {R : TRows K mg} {te : TE} {r : RowD} (g : Gv te σ (PRow R r)) (hr : fillB r = true) : Gv (tTup (tCons te tNil)) σ (GoodRows R) := fun B H R' m k =>
  g B H _ m fun v H1 s1 ⟨a, e, ha⟩ => ⟨by show 1 ≤ sizeLine; decide, fun p hp => k _ _ (Same.trans s1 (Same.new hp)) ⟨p, [a], [r], rfl, .inr (SqT.of (by rw [dif_at (m.trans (smo s1)) hp, e]; rfl)), .cons (ha.same (dif_up hp)) .nil, fun x hx => by rw [List.mem_singleton.mp hx]; exact hr, by show 1 ≤ 1000; decide⟩⟩
theorem good_lst {R : TRows K mg} {te : TE} {r : RowD} (g : Gv te σ (PRow R r)) (hr : fillB r = true) : Gv (tLst (tCons te tNil)) σ (GoodRows R) := fun B H R' m k =>
  g B H _ m fun v H1 s1 ⟨a, e, ha⟩ => ⟨by show 1 ≤ sizeLine; decide, fun p hp => k _ _ (Same.trans s1 (Same.new hp)) ⟨p, [a], [r], rfl, .inl (SqL.of (by rw [dif_at (m.trans (smo s1)) hp, e]; rfl)), .cons (ha.same (dif_up hp)) .nil, fun x hx => by rw [List.mem_singleton.mp hx]; exact hr, by show 1 ≤ 1000; decide⟩⟩
/-! ### rows -/
theorem row_dif {R : TRows K mg} {B H H' : Hp} {x : Addr} {r : RowD} (m : Mo B H) (hx : H x = none) (h : RowAt R H' x r) : RowAt R (dif B H') x r := by
  obtain ⟨dx, e⟩ := h
  exact ⟨dx, dif_eq.mpr ⟨m x hx, e⟩⟩
theorem gr_note {R : TRows K mg} {c : Str} (hc : nameS c = true) : Gv (tMake R.note.C (spNoteInit K R.note.C R.N.IR.C) [.str ""] E0 (tCons (tC (.str c)) tNil)) σ (PRow R (.note c "")) := fun B H Q m k => note_mk R hc (.inl rfl) fun x H' hx s rr => k _ _ s ⟨x, rfl, row_dif m hx rr⟩
theorem gr_keep {R : TRows K mg} {c : Str} (hc : nameS c = true) : Gv (tMake R.keep.C (spKeepInit K R.keep.C R.N.IR.C) [] E0 (tCons (tC (.str c)) tNil)) σ (PRow R (.keep c)) := fun B H Q m k => keep_mk R hc fun x H' hx s rr => k _ _ s ⟨x, rfl, row_dif m hx rr⟩
theorem gr_open {R : TRows K mg} {c : Str} (hc : nameS c = true) : Gv (tMake R.open_.C (spOpenInit K R.open_.C R.N.IR.C) [] E0 (tCons (tC (.str c)) tNil)) σ (PRow R (.opn c)) := fun B H Q m k => open_mk R hc fun x H' hx s rr => k _ _ s ⟨x, rfl, row_dif m hx rr⟩
theorem gr_put {R : TRows K mg} {c : Str} (hc : nameS c = true) : Gv (tMake R.put.C (spPutInit K R.put.C R.N.IR.C) [] E0 (tCons (tC (.str c)) tNil)) σ (PRow R (.put c)) := fun B H Q m k => put_mk R hc fun x H' hx s rr => k _ _ s ⟨x, rfl, row_dif m hx rr⟩
theorem gr_ref {R : TRows K mg} {c : Str} (hc : nameS c = true) : Gv (tMake R.ref.C (spRefInit K R.ref.C R.N.IR.C) [] E0 (tCons (tC (.str c)) tNil)) σ (PRow R (.ref c)) := fun B H Q m k => ref_mk R hc fun x H' hx s rr => k _ _ s ⟨x, rfl, row_dif m hx rr⟩
theorem gr_skip {R : TRows K mg} {c : Str} {n : Nat} (hc : nameS c = true) (hn : 1 ≤ n) : Gv (tMake R.skip.C (spSkipInit K R.skip.C R.N.IR.C) [] E0 (tCons (tC (.str c)) (tCons (tC (.int (n : Int))) tNil))) σ (PRow R (.skip c n)) := fun B H Q m k => skip_mk R hc hn fun x H' hx s rr => k _ _ s ⟨x, rfl, row_dif m hx rr⟩
theorem gr_set {R : TRows K mg} {c : Str} {n : Nat} (hc : nameS c = true) : Gv (tMake R.set.C (spSetInit K R.set.C R.N.IR.C) [] E0 (tCons (tC (.str c)) (tCons (tC (.int (n : Int))) tNil))) σ (PRow R (.set c n)) := fun B H Q m k => set_mk R hc fun x H' hx s rr => k _ _ s ⟨x, rfl, row_dif m hx rr⟩
end
end Pn

namespace Pn
open PySem PySem.Spec PyProof.Rows L2 TL
section
variable {P : Program} {w : World} {K : PySem.W.Frag} {mg : Str → Option Value} {base : Heap}
def spLaw18 (K : PySem.W.Frag) : Sp := fun vs H Q _ => ∃ (a : Addr) (ns : List Int), vs = [.ref a] ∧ SqL K H a (ns.map V.int) ∧ ns.length ≤ 63 ∧ ∀ H', Q (.bl true) H'
theorem scLaw18 : FnScope ["_law_script", "_law_deal_here", "_law_odd", "_law_turn", "_law_good", "_law_at", "_law_bad", "_law_value", "_law_name"] ["_law_script"] (defScope sLaw18) := ⟨rfl, rfl, rfl, by decide +kernel, rfl, by decide +kernel, by decide +kernel⟩
/-- the list of odd things -/
def OddL (R : TRows K mg) (B H : Hp) (o : Addr) (n : Nat) (vs : List V) : Prop := dif B H o = some (.lst vs) ∧ AllP (Odd R) n (hid (dif B H) o) vs
theorem dif_hidn {B H : Hp} {q : Addr} {x : HO} (hq : H q = none) : Same (dif B H) (hid (dif B (upd H q x)) q) := fun a o e => hid_get (dif_up hq _ _ e) (fun z => by
  obtain ⟨_, e1⟩ := dif_eq.mp e
  rw [z, hq] at e1
  cases e1)
theorem OddL.cat {R : TRows K mg} {B H H' : Hp} {o p q : Addr} {n m : Nat} {vs us : List V} (h : OddL R B H o n vs) (s : Same H H') (mo : Mo B H') (h2 : AllP (Odd R) m (hid (dif B H') p) us) (hq : H' q = none) : OddL R B (upd H' q (.lst (vs ++ us))) q (n + m) (vs ++ us) := by
  refine ⟨dif_at mo hq, by rw [List.length_append, h.2.1, h2.1], fun v hv => ?_⟩
  rcases List.mem_append.mp hv with hv | hv
  · exact st_odd R _ _ _ (Same.trans (fun a o e => dif_sm s _ _ (hid_sub _ _ e)) (dif_hidn hq)) (h.2.2 v hv)
  · exact st_odd R _ _ _ (Same.trans (fun a o e => hid_sub _ _ e) (dif_hidn hq)) (h2.2 v hv)
theorem stepEndB {tt : TT} {A : TS} {D : Ends} {σ : L2.St} {H : Hp} (G : Hp → Prop) (h1 : ∀ Q : Bool → Hp → Prop, (∀ H', G H' → Q false H') → tt σ H Q) (h2 : ∀ H', G H' → D.nx σ H') : tIfS tt A tNext D σ H := h1 _ fun H' g => by
  rw [if_neg Bool.false_ne_true]
  exact h2 H' g
theorem nosq_d {H : Hp} {v : V} {d : PyData} (h : Dp K H v d) (hs : seqD d = false) : NoSq K H v := ⟨_, dp_ty h, by rw [kit_seq, hs], fun H' s => dp_ty (dp_same s d v h)⟩
theorem cut_dn (xs : List V) {k : Nat} (h : k ≤ xs.length) : cutV xs (some (k : Int)) none = xs.drop k := by
  unfold cutV
  rw [HT.sIx_none, HT.sIx_nat, Nat.min_eq_left h]
  exact List.take_of_length_le (by rw [List.length_drop]; omega)
theorem pair_take {α β : Type} {R : α → β → Prop} : ∀ (k : Nat) {l : List α} {m : List β}, Paired R l m → Paired R (l.take k) (m.take k)
  | 0, _, _, _ => .nil
  | _ + 1, _, _, .nil => .nil
  | k + 1, _, _, .cons a b => .cons a (pair_take k b)
theorem pair_drop {α β : Type} {R : α → β → Prop} : ∀ (k : Nat) {l : List α} {m : List β}, Paired R l m → Paired R (l.drop k) (m.drop k)
  | 0, _, _, h => h
  | _ + 1, _, _, .nil => .nil
  | k + 1, _, _, .cons _ b => pair_drop k b
theorem bad_flags {R : TRows K mg} {H : Hp} {ts : List Addr} {cs : List FilD} {ov : V} (k : Nat) (pd : Paired (FPair R H) ts cs) (ho : Odd R H ov) : ∃ bs : List Bool, Paired (FillE R H) ((ts.map V.ref).take k ++ [ov] ++ (ts.map V.ref).drop k) bs ∧ bs.all id = false := by
  refine ⟨(cs.take k).map (fun _ => true) ++ [false] ++ (cs.drop k).map (fun _ => true), ?_, ?_⟩
  · rw [← List.map_take, ← List.map_drop]
    exact paired_cat (pairs_flags (pair_drop k pd)) (paired_cat (R := FillE R H) (show Paired (FillE R H) [ov] [false] from .cons ho .nil) (pairs_flags (pair_take k pd)))
  · rw [List.all_eq_false]
    exact ⟨false, by simp, by simp⟩
theorem ok_law18 (T : TK18 K mg) {f : Addr} {fd : FuncData} (F : Fun K "law" "law" sLaw18 f fd) : FnOk P w K mg base CX0 12 f fd ["_law_script"] (spLaw18 K) := by
  refine F.ok scLaw18 (fun vs H Q E h => ?_) (fun cdv A outer s H vs Q E hr h => ?_)
  · obtain ⟨a, ns, rfl, _⟩ := h
    rfl
  · obtain ⟨a, ns, rfl, hS, hl, q⟩ := h
    refine ⟨_, (pss_cons (ps_set (i := 1) scLaw18.nd rfl (Or.inr rfl) (pe_call T.D.okDeal (hr.mono (by decide)) rfl T.D.deal.m T.D.deal.F.kp T.D.deal.b .nil pass0 (pa_cons (pv 0) pa_nil)))
(pss_cons (ps_set (i := 2) scLaw18.nd rfl (Or.inl rfl) (pe_lst (pa_cons pe_non (pa_cons pe_int (pa_cons pe_str (pa_cons (pe_tup (pa_cons pe_str pa_nil)) (pa_cons (pe_lst (pa_cons pe_str (pa_cons (pe_lst pa_nil) pa_nil))) (pa_cons (pe_tup (pa_cons pe_str (pa_cons pe_non pa_nil))) (pa_cons (pe_tup (pa_cons pe_str (pa_cons (pe_lst pa_nil) pa_nil))) (pa_cons (pe_tup (pa_cons pe_str (pa_cons (pe_lst pa_nil) pa_nil))) (pa_cons (pe_tup (pa_cons pe_str (pa_cons (pe_lst pa_nil) pa_nil))) (pa_cons (pe_tup (pa_cons pe_str (pa_cons (pe_lst pa_nil) pa_nil))) pa_nil))))))))))))
(pss_cons (ps_set (i := 2) scLaw18.nd rfl (Or.inl rfl) (pe_op op_cat (pv 2) (pe_lst (pa_cons (pe_tup (pa_cons pe_str (pa_cons (pe_lst (pa_cons (pe_make T.R.note.M (okNoteInit T.R.note T.R.N) (hr.mono (by decide)) rfl T.R.note.m T.bN T.vN passN0 (pa_cons pe_str pa_nil)) pa_nil)) pa_nil))) (pa_cons (pe_tup (pa_cons pe_str (pa_cons (pe_lst (pa_cons (pe_make T.R.keep.M (okKeepInit T.R.keep T.R.N) (hr.mono (by decide)) rfl T.R.keep.m T.R.keep.b .nil passN0 (pa_cons pe_str pa_nil)) pa_nil)) pa_nil))) (pa_cons (pe_tup (pa_cons pe_str (pa_cons (pe_lst (pa_cons (pe_make T.R.open_.M (okOpenInit T.R.open_ T.R.N) (hr.mono (by decide)) rfl T.R.open_.m T.R.open_.b .nil passN0 (pa_cons pe_str pa_nil)) pa_nil)) pa_nil))) (pa_cons (pe_tup (pa_cons pe_str (pa_cons (pe_lst (pa_cons (pe_make T.R.skip.M (okSkipInit T.R.skip T.R.N) (hr.mono (by decide)) rfl T.R.skip.m T.R.skip.b .nil passN0 (pa_cons pe_str (pa_cons pe_int pa_nil))) (pa_cons pe_non pa_nil))) pa_nil))) pa_nil)))))))
(pss_cons (ps_expr (pe_bm PySem.F.plainAttrs_list PySem.F.slot_list_append PySem.F.type_list_append mt_append (pv 2) (pa_cons (pe_tup (pa_cons pe_str (pa_cons pe_str pa_nil))) pa_nil)))
(pss_cons (ps_set (i := 2) scLaw18.nd rfl (Or.inl rfl) (pe_op op_cat (pv 2) (pe_lst (pa_cons (pe_tup (pa_cons pe_non (pa_cons (pe_lst pa_nil) pa_nil))) (pa_cons (pe_tup (pa_cons pe_str (pa_cons (pe_lst pa_nil) (pa_cons (pe_lst pa_nil) pa_nil)))) (pa_cons (pe_tup (pa_cons pe_str (pa_cons (pe_lst (pa_cons (pe_make T.R.put.M (okPutInit T.R.put T.R.N) (hr.mono (by decide)) rfl T.R.put.m T.R.put.b .nil passN0 (pa_cons pe_str pa_nil)) pa_nil)) pa_nil))) (pa_cons (pe_tup (pa_cons pe_str (pa_cons (pe_tup (pa_cons (pe_make T.R.ref.M (okRefInit T.R.ref T.R.N) (hr.mono (by decide)) rfl T.R.ref.m T.R.ref.b .nil passN0 (pa_cons pe_str pa_nil)) pa_nil)) pa_nil))) (pa_cons (pe_tup (pa_cons pe_str (pa_cons (pe_make T.R.skip.M (okSkipInit T.R.skip T.R.N) (hr.mono (by decide)) rfl T.R.skip.m T.R.skip.b .nil passN0 (pa_cons pe_str (pa_cons pe_int pa_nil))) pa_nil))) (pa_cons (pe_tup (pa_cons (pe_tup (pa_cons pe_str pa_nil)) (pa_cons (pe_lst pa_nil) pa_nil))) pa_nil)))))))))
(pss_cons (ps_for PassesOwn.never rfl (pi_range1 (by rfl) T.mR (pa_cons pe_int pa_nil)) (pg_name (i := 3) scLaw18.nd rfl (Or.inl rfl))
(pss_cons (ps_setLc (i := 4) (own := [("_law_name", 8)]) (g := gName 8) (tt := tYes) (by rfl) scLaw18.nd rfl rfl (sw_true rfl rfl rfl (by decide +kernel)) (pi_list (pe_call T.D.okNames (hr.mono (by decide)) rfl T.D.names.m T.D.names.F.kp T.D.names.b .nil pass0 (pa_cons (pv 1) (pa_cons pe_int pa_nil))))
 (blkOk_by (N := ["_law_script", "_law_deal_here", "_law_odd", "_law_turn", "_law_good", "_law_at", "_law_bad", "_law_value", "_law_name"]) (sc := defScope sLaw18) (by decide +kernel)) (fun _ _ _ _ _ => (pg_name (i := 8) scLaw18.nd rfl (Or.inl rfl))) (fun _ _ _ _ _ => pts_nil) (fun _ _ _ _ _ => (pe_tup (pa_cons (pv 8) (pa_cons (pe_call T.D.okPick (hr.mono (by decide)) rfl T.D.pick.m T.D.pick.F.kp T.D.pick.b .nil pass0 (pa_cons (pv 1) (pa_cons (pe_lst (pa_cons (pe_lst pa_nil) (pa_cons (pe_tup (pa_cons (pe_make T.R.skip.M (okSkipInit T.R.skip T.R.N) (hr.mono (by decide)) rfl T.R.skip.m T.R.skip.b .nil passN0 (pa_cons pe_str (pa_cons pe_int pa_nil))) pa_nil)) (pa_cons (pe_lst (pa_cons (pe_make T.R.set.M (okSetInit T.R.set T.R.N) (hr.mono (by decide)) rfl T.R.set.m T.R.set.b .nil passN0 (pa_cons pe_str (pa_cons pe_int pa_nil))) pa_nil)) pa_nil)))) pa_nil))) pa_nil)))))
(pss_cons (ps_if (PW.pt (pw_or (pt_cmp (pc_notN (pe_call (ok_word18 T) (hr.mono (by decide)) rfl T.word.m T.word.F.kp T.word.b .nil pass0 (pa_cons (pv 4) pa_nil)))) (pw_or1 (pt_cmp (pc_notN (pe_call (ok_word18 T) (hr.mono (by decide)) rfl T.word.m T.word.F.kp T.word.b .nil pass0 (pa_cons (pe_callTy cr_tupX (by rfl) T.F.mTup (by decide +kernel) (pa_cons (pv 4) pa_nil)) pa_nil))))))) (pss_one (ps_ret pe_bl)) pss_nil)
(pss_cons (ps_set (i := 5) scLaw18.nd rfl (Or.inl rfl) (pe_call T.D.okDraw (hr.mono (by decide)) rfl T.D.draw.m T.D.draw.F.kp T.D.draw.b .nil pass0 (pa_cons (pv 1) (pa_cons pe_int pa_nil))))
(pss_cons (ps_set (i := 6) scLaw18.nd rfl (Or.inl rfl) (pe_op op_cat (pe_op op_cat (pe_slice sl_list (pv 4) po_none (po_some (pv 5))) (pe_lst (pa_cons (pe_call T.D.okPick (hr.mono (by decide)) rfl T.D.pick.m T.D.pick.F.kp T.D.pick.b .nil pass0 (pa_cons (pv 1) (pa_cons (pv 2) pa_nil))) pa_nil))) (pe_slice sl_list (pv 4) (po_some (pv 5)) po_none)))
(pss_cons (ps_if (PW.pt (pw_or (pt_cmpR op_ne (pe_call (ok_word18 T) (hr.mono (by decide)) rfl T.word.m T.word.F.kp T.word.b .nil pass0 (pa_cons (pv 6) pa_nil)) pe_str (nomark _)) (pw_or1 (pt_cmpR op_ne (pe_call (ok_word18 T) (hr.mono (by decide)) rfl T.word.m T.word.F.kp T.word.b .nil pass0 (pa_cons (pe_op op_cat (pv 6) (pe_slice sl_list (pv 4) po_none (po_some pe_int))) pa_nil)) pe_str (nomark _))))) (pss_one (ps_ret pe_bl)) pss_nil)
(pss_cons (ps_if (PW.pt (pw_or (pt_cmpR op_ne (pe_call (ok_word18 T) (hr.mono (by decide)) rfl T.word.m T.word.F.kp T.word.b .nil pass0 (pa_cons (pe_op op_cat (pv 4) (pe_lst (pa_cons (pe_tup (pa_cons (pe_ix ix_tup (pe_ix ix_list (pv 4) pe_int (fun _ _ => rfl)) pe_int (fun _ _ => rfl)) (pa_cons (pe_lst pa_nil) pa_nil))) pa_nil))) pa_nil)) pe_str (nomark _)) (pw_or1 (pt_cmpR op_ne (pe_call (ok_word18 T) (hr.mono (by decide)) rfl T.word.m T.word.F.kp T.word.b .nil pass0 (pa_cons (pe_callTy cr_tupX (by rfl) T.F.mTup (by decide +kernel) (pa_cons (pe_op op_cat (pe_slice sl_list (pv 4) po_none (po_some pe_int)) (pv 4)) pa_nil)) pa_nil)) pe_str (nomark _))))) (pss_one (ps_ret pe_bl)) pss_nil)
(pss_one (ps_for PassesOwn.never rfl (pi_list (pe_lst (pa_cons pe_non (pa_cons pe_int (pa_cons pe_str (pa_cons (pe_make T.R.skip.M (okSkipInit T.R.skip T.R.N) (hr.mono (by decide)) rfl T.R.skip.m T.R.skip.b .nil passN0 (pa_cons pe_str (pa_cons pe_int pa_nil))) (pa_cons (pe_make T.F.M (okFInit T.F) (hr.mono (by decide)) rfl T.F.mC T.F.bI .nil passX0 (pa_cons (pv 4) pa_nil)) (pa_cons pe_bl pa_nil)))))))) (pg_name (i := 7) scLaw18.nd rfl (Or.inl rfl))
(pss_one (ps_if (pt_cmpR op_ne (pe_call (ok_word18 T) (hr.mono (by decide)) rfl T.word.m T.word.F.kp T.word.b .nil pass0 (pa_cons (pv 7) pa_nil)) pe_str (nomark _)) (pss_one (ps_ret pe_bl)) pss_nil)))))))))))
(pss_one (ps_ret (pe_and (pe_cmp (pc_isN (pe_call (ok_word18 T) (hr.mono (by decide)) rfl T.word.m T.word.F.kp T.word.b .nil pass0 (pa_cons (pe_lst pa_nil) pa_nil)))) (pe_one (pe_cmp (pc_isN (pe_call (ok_word18 T) (hr.mono (by decide)) rfl T.word.m T.word.F.kp T.word.b .nil pass0 (pa_cons pe_tup0X pa_nil)))))))))))))), ?_⟩
    have two : 2 ≤ sizeLine := by decide
    refine stepSet (fun v H' => ∃ d g, v = .ref d ∧ DealAt H' d g) (fun Q' hQ => ⟨_, rfl, a, ns, rfl, hS, hl, fun d g H' hD _ => hQ _ _ ⟨d, g, rfl, hD⟩⟩) (fun v H1 hC => ?r1)
    case r1 =>
    obtain ⟨d, g, rfl, hD1⟩ := hC
    try dsimp only [List.set]
    refine stepSet (fun v H' => Same H1 H' ∧ ∃ o vs, v = .ref o ∧ OddL T.R H1 H' o 10 vs) (fun Q' hQ => gv_use (P := fun H v => ∃ (p : Addr) (vs : List V), v = .ref p ∧ H p = some (.lst vs) ∧ AllP (Odd T.R) 10 (hid H p) vs) H1 (Mo.refl _) ?g1 fun v H' s ⟨o, vs, e, h1, h2⟩ => hQ _ _ ⟨s, o, vs, e, h1, h2⟩) (fun v H2 hC => ?r2)
    case g1 => exact gv_lstAll (st_odd T.R) (by decide) (gva_all (st_odd T.R) (odd_d gvd_n rfl) (gva_all (st_odd T.R) (odd_d (gvd_i 3) rfl) (gva_all (st_odd T.R) (odd_d (gvd_s "x") rfl) (gva_all (st_odd T.R) (odd_d (gvd_tup (gvd_cons (gvd_s "x") gvd_nil) (by decide)) rfl) (gva_all (st_odd T.R) (odd_d (gvd_lst (gvd_cons (gvd_s "x") (gvd_cons (gvd_lst (K := K) gvd_nil (by decide)) gvd_nil)) (by decide)) rfl) (gva_all (st_odd T.R) (odd_2 (z := "x") (by decide +kernel) (bad_d gvd_n rfl)) (gva_all (st_odd T.R) (odd_1 (gvd_s "X") (by decide +kernel) (by show ("X" : Str).length ≤ 900; decide +kernel) (gvd_lst (K := K) gvd_nil (by decide))) (gva_all (st_odd T.R) (odd_1 (gvd_s "note") (by decide +kernel) (by show ("note" : Str).length ≤ 900; decide +kernel) (gvd_lst (K := K) gvd_nil (by decide))) (gva_all (st_odd T.R) (odd_1 (gvd_s "") (by decide +kernel) (by show ("" : Str).length ≤ 900; decide +kernel) (gvd_lst (K := K) gvd_nil (by decide))) (gva_all (st_odd T.R) (odd_1 (gvd_s "fiver") (by decide +kernel) (by show ("fiver" : Str).length ≤ 900; decide +kernel) (gvd_lst (K := K) gvd_nil (by decide))) gva_all0))))))))))
    case r2 =>
    obtain ⟨s2, o, vs, rfl, hO⟩ := hC
    try dsimp only [List.set]
    refine stepSet (fun v H' => Same H1 H' ∧ ∃ o vs, v = .ref o ∧ OddL T.R H1 H' o 14 vs) (fun Q' hQ => ?c2) (fun v H3 hC => ?r3)
    case c2 =>
      refine ⟨_, rfl, ?_⟩
      refine gv_use (P := fun H v => ∃ (p : Addr) (vs : List V), v = .ref p ∧ H p = some (.lst vs) ∧ AllP (Odd T.R) 4 (hid H p) vs) H1 (smo s2) ?g2 fun v H' s ⟨p, us, e, h1, h2⟩ => ?k2
      case g2 => exact gv_lstAll (st_odd T.R) (by decide) (gva_all (st_odd T.R) (odd_2 (z := "x") (by decide +kernel) (bad_lst1 (gr_note (c := "f") (by decide +kernel)) rfl)) (gva_all (st_odd T.R) (odd_2 (z := "x") (by decide +kernel) (bad_lst1 (gr_keep (c := "f") (by decide +kernel)) rfl)) (gva_all (st_odd T.R) (odd_2 (z := "x") (by decide +kernel) (bad_lst1 (gr_open (c := "y") (by decide +kernel)) rfl)) (gva_all (st_odd T.R) (odd_2 (z := "x") (by decide +kernel) (bad_lst2 (gr_skip (c := "f") (n := 1) (by decide +kernel) (by decide)))) gva_all0))))
      case k2 =>
        subst e
        refine ⟨o, p, vs, us, rfl, rfl, s _ _ (dif_eq.mp hO.1).2, (dif_eq.mp h1).2, by rw [hO.2.1, h2.1]; decide, fun q hq => hQ _ _ ⟨Same.trans (Same.trans s2 s) (Same.new hq), q, _, rfl, hO.cat s (smo (Same.trans s2 s)) h2 hq⟩⟩
    case r3 =>
    clear hO s2
    obtain ⟨s2, o, vs, rfl, hO⟩ := hC
    try dsimp only [List.set]
    refine stepDrop (fun H' => Same H1 H' ∧ ∃ vs, OddL T.R H1 H' o 15 vs) (fun Q' hQ => ?c3) (fun H4 hC => ?r4)
    case c3 =>
      have ho := (dif_eq.mp hO.1).2
      have hon := (dif_eq.mp hO.1).1
      refine ⟨_, rfl, .inl ⟨rfl, _, SqL.of ho⟩, two, fun t ht => ?_⟩
      have nto : t ≠ o := fun z => by rw [z, ho] at ht; cases ht
      refine ⟨o, vs, .ref t, rfl, rfl, Same.new ht _ _ ho, small1000 (by rw [hO.2.1]; decide), hQ _ _ ⟨fun c u e => ?_, vs ++ [.ref t], dif_eq.mpr ⟨hon, upd_same⟩, by rw [List.length_append, hO.2.1]; rfl, fun v hv => ?_⟩⟩
      · rw [upd_ne (ne_of_none e hon), upd_ne (fun z => by rw [← z, s2 _ _ e] at ht; cases ht)]
        exact s2 _ _ e
      · have tn : H1 t = none := smo s2 _ ht
        rcases List.mem_append.mp hv with hv | hv
        · refine st_odd T.R _ _ _ (fun c u e => ?_) (hO.2.2 v hv)
          have c1 := hid_ne e
          obtain ⟨c2, c3⟩ := dif_eq.mp (hid_sub _ _ e)
          exact hid_get (dif_eq.mpr ⟨c2, by rw [upd_ne c1, upd_ne (fun z => by rw [z, ht] at c3; cases c3)]; exact c3⟩) c1
        · rw [List.mem_singleton.mp hv]
          exact .inr ⟨t, .str "x", .str "skip f 1", .str "x", none, rfl, SqT.of (hid_get (dif_eq.mpr ⟨tn, by rw [upd_ne nto]; exact upd_same⟩) nto), .str _, nl_name (by decide +kernel), .inr ⟨by decide +kernel, .inl ⟨.str _, .str _, rfl⟩, rfl⟩⟩
    case r4 =>
    clear hO s2
    obtain ⟨s2, vs, hO⟩ := hC
    try dsimp only [List.set]
    refine stepSet (fun v H' => Same H1 H' ∧ ∃ o vs, v = .ref o ∧ OddL T.R H1 H' o 21 vs) (fun Q' hQ => ?c4) (fun v H5 hC => ?r5)
    case c4 =>
      refine ⟨_, rfl, ?_⟩
      refine gv_use (P := fun H v => ∃ (p : Addr) (vs : List V), v = .ref p ∧ H p = some (.lst vs) ∧ AllP (Odd T.R) 6 (hid H p) vs) H1 (smo s2) ?g4 fun v H' s ⟨p, us, e, h1, h2⟩ => ?k4
      case g4 => exact gv_lstAll (st_odd T.R) (by decide) (gva_all (st_odd T.R) (odd_1 gvd_n rfl trivial (gvd_lst (K := K) gvd_nil (by decide))) (gva_all (st_odd T.R) (odd_d (gvd_tup (gvd_cons (gvd_s "x") (gvd_cons (gvd_lst (K := K) gvd_nil (by decide)) (gvd_cons (gvd_lst (K := K) gvd_nil (by decide)) gvd_nil))) (by decide)) rfl) (gva_all (st_odd T.R) (odd_2 (z := "x") (by decide +kernel) (bad_lst1 (gr_put (c := "p") (by decide +kernel)) rfl)) (gva_all (st_odd T.R) (odd_2 (z := "x") (by decide +kernel) (bad_tup1 (gr_ref (c := "l") (by decide +kernel)) rfl)) (gva_all (st_odd T.R) (odd_2 (z := "x") (by decide +kernel) (bad_row (gr_skip (c := "f") (n := 1) (by decide +kernel) (by decide)))) (gva_all (st_odd T.R) (odd_1 (gvd_tup (gvd_cons (gvd_s "x") gvd_nil) (by decide)) rfl trivial (gvd_lst (K := K) gvd_nil (by decide))) gva_all0))))))
      case k4 =>
        subst e
        refine ⟨o, p, vs, us, rfl, rfl, s _ _ (dif_eq.mp hO.1).2, (dif_eq.mp h1).2, by rw [hO.2.1, h2.1]; decide, fun q hq => hQ _ _ ⟨Same.trans (Same.trans s2 s) (Same.new hq), q, _, rfl, hO.cat s (smo (Same.trans s2 s)) h2 hq⟩⟩
    case r5 =>
    clear hO s2
    obtain ⟨s2, o, vs, rfl, hO⟩ := hC
    try dsimp only [List.set]
    have hO1 : dif H1 H5 o = some (.lst vs) := hO.1
    have hO2 : AllP (Odd T.R) 21 (dif H1 H5) vs := hO.2.st (st_odd T.R) (fun _ _ e => hid_sub _ _ e)
    have hD5 := hD1.same s2
    have m5 : Mo H1 H5 := smo s2
    clear hO s2
    have mvD : ∀ {X Y : Hp}, Same (hh X d g) (hh Y d g) → Same (dif H1 X) (dif H1 Y) := fun {X Y} s c u e => by
      obtain ⟨e0, e1⟩ := dif_eq.mp e
      have nd := hD1.nd e0
      exact dif_eq.mpr ⟨e0, hh_sub _ _ (s _ _ (hh_get e1 nd.1 nd.2))⟩
    refine ⟨_, rfl, by decide, by decide, for_range (lo := 0) (n := 8) (fun j σ Hc => ∃ y3 y4 y5 y6 y7 y8, σ = [some (.ref a), some (.ref d), some (.ref o), y3, y4, y5, y6, y7, y8] ∧ DealAt Hc d g ∧ Mo H1 Hc ∧ dif H1 Hc o = some (.lst vs) ∧ AllP (Odd T.R) 21 (dif H1 Hc) vs) ⟨_, _, _, _, _, _, rfl, hD5, m5, hO1, hO2⟩ (fun j σ Hc hj hP => ?turn) (fun σ Hc hP => ?fin)⟩
    case fin =>
      obtain ⟨y3, y4, y5, y6, y7, y8, rfl, hDc, mc, _, _⟩ := hP
      refine ⟨Nat.zero_le _, fun p hp => ?_⟩
      refine ⟨.ref p, .non, rfl, .inr (.inr (.inr ⟨p, [], [], rfl, .inl (SqL.of upd_same), .nil, Nat.zero_le _, List.nodup_nil, rfl⟩)), fun H' s => ?_⟩
      refine ⟨_, rfl, iteTD (by simp) ?_⟩
      intro p2 H'' s2 hT
      refine ⟨.ref p2, .non, rfl, .inr (.inr (.inr ⟨p2, [], [], rfl, .inr hT, .nil, Nat.zero_le _, List.nodup_nil, rfl⟩)), fun H3 s3 => ?_⟩
      show Q (V.bl (decide (V.non = V.non))) H3
      rw [show decide (V.non = V.non) = true by simp]
      exact q _
    case turn =>
    obtain ⟨y3, y4, y5, y6, y7, y8, rfl, hDc, mc, hOc1, hOc2⟩ := hP
    try dsimp only [List.set]
    refine stepSet (fun u H' => ∃ (gl : Addr) (ts : List Addr) (cs : List FilD), u = .ref gl ∧ DealAt H' d g ∧ Mo H1 H' ∧ Same (dif H1 Hc) (dif H1 H') ∧ dif H1 H' gl = some (.lst (ts.map V.ref)) ∧ Paired (FPair T.R (dif H1 H')) ts cs ∧ (cs.map (·.1)).Nodup ∧ cs.length = 3) (fun Q' hQ => ?good) (fun u Hg hC => ?r6)
    case good =>
      refine ⟨_, rfl, d, g, 3, rfl, hDc, by decide, fun l zs Hn nd hz hl3 hDn sn mn eln => ⟨l, rfl, ⟨_, SqL.of (hh_sub _ _ eln)⟩, fun D hD => lc_list (xs := zs.map V.str) (fun m Hm => DealAt Hm d g ∧ Mo Hn Hm ∧ Same (hh Hn d g) (hh Hm d g) ∧ ∃ (ts : List Addr) (cs : List FilD), Hm D = some (.lst (ts.map V.ref)) ∧ Paired (FPair T.R (hid (dif H1 Hm) D)) ts cs ∧ cs.map (·.1) = zs.take m)
        ⟨hDn.new hD, Mo.upd, hh_new hD, [], [], upd_same, .nil, rfl⟩ (fun m Hm _ hP => SqL.of (hh_sub _ _ (hP.2.2.1 _ _ eln))) (fun m y Hm hy hP => ?iturn) (fun Hm hP => ?ifin)⟩⟩
      case ifin =>
        obtain ⟨hDm, mm, sm, ts, cs, hDl, pd, hcs⟩ := hP
        rw [List.length_map, List.take_length] at hcs
        have nD : H1 D = none := mc _ (mn _ hD)
        exact hQ _ _ ⟨D, ts, cs, rfl, hDm, (mc.trans mn).trans mm, mvD (Same.trans sn sm), dif_eq.mpr ⟨nD, hDl⟩, paired_mono (fun _ _ z => z.same (fun _ _ e => hid_sub _ _ e)) pd, by rw [hcs]; exact nd, by rw [← List.length_map (f := (·.1)), hcs]; exact hl3⟩
      case iturn =>
        obtain ⟨hDm, mm, sm, ts, cs, hDl, pd, hcs⟩ := hP
        rw [List.getElem?_map] at hy
        obtain ⟨z, hzm, rfl⟩ := Option.map_eq_some_iff.mp hy
        have nD := hDn.nd hD
        have m1m : Mo H1 Hm := (mc.trans mn).trans mm
        have lts : ts.length ≤ 3 := by
          rw [paired_len pd, ← List.length_map (f := (·.1)), hcs]
          rw [List.length_take]
          omega
        refine ⟨rfl, _, rfl, _, rfl, ?_⟩
        refine gv_use (P := fun H v => ∃ (p : Addr) (vs : List V), v = .ref p ∧ H p = some (.lst vs) ∧ AllP (GoodRows T.R) 3 (hid H p) vs) Hm (Mo.refl _) ?gg fun lv G s ⟨p, us, e, h1, h2⟩ => ?kg
        case gg => exact gv_lstAll (st_good T.R) (by decide) (gva_all (st_good T.R) good_0 (gva_all (st_good T.R) (good_tup (gr_skip (c := "f") (n := 2) (by decide +kernel) (by decide)) rfl) (gva_all (st_good T.R) (good_lst (gr_set (c := "c") (n := 0) (by decide +kernel)) rfl) gva_all0)))
        case kg =>
        subst e
        obtain ⟨np, hp⟩ := dif_eq.mp h1
        have npd := hDm.nd np
        have hDG := hDm.same s
        refine ⟨d, g, p, us, rfl, hDG, SqL.of (hh_get hp npd.1 npd.2), by rw [h2.1]; decide, by rw [h2.1]; decide, fun rv G2 hrv hD2 sG mG => ⟨two, fun t ht => ?_⟩⟩
        obtain ⟨q', us', rs, rfl, hF⟩ := h2.2 rv hrv
        have hDl2 : G2 D = some (.lst (ts.map V.ref)) := hh_sub _ _ (sG _ _ (hh_get (s _ _ hDl) nD.1 nD.2))
        have ntD : t ≠ D := fun w => by rw [w, hDl2] at ht; cases ht
        have n1t : Hm t = none := smo s _ (mG _ ht)
        have ntd := hD2.nd ht
        refine ⟨ts.map V.ref, by rw [upd_ne ntD.symm]; exact hDl2, small1000 (by rw [List.length_map]; omega), (hD2.new ht).upd nD.1 nD.2, (((mm.trans (smo s)).trans mG).trans Mo.upd).trans Mo.upd, ?_, ts ++ [t], cs ++ [(z, q', rs)], by rw [upd_same, List.map_append]; rfl, ?_, ?_⟩
        · intro c u e
          have e1 := hh_sub _ _ e
          have e2 := sG _ _ (hh_same s _ _ (sm _ _ e))
          obtain ⟨c1, c2, c3⟩ := hh_ne e2
          exact hh_get (by rw [upd_ne (ne_of_none e1 hD), upd_ne (ne_of_none c3 ht)]; exact c3) c1 c2
        · refine paired_snoc ⟨?_, ?_, us', ?_⟩ (paired_mono (fun _ _ w => w.same fun c u e => ?_) pd)
          · exact SqT.of (hid_get (dif_eq.mpr ⟨m1m _ n1t, by rw [upd_ne ntD]; exact upd_same⟩) ntD)
          · exact names16_ok.2.2 z (hz z (List.mem_of_getElem? hzm))
          · refine hF.same fun c u e => ?_
            obtain ⟨c0, c1⟩ := dif_eq.mp (hid_sub _ _ e)
            have cd := hDm.nd c0
            have c2 : G2 c = some u := hh_sub _ _ (sG _ _ (hh_get c1 cd.1 cd.2))
            have cD : c ≠ D := fun w => by rw [w, hDl] at c0; cases c0
            exact hid_get (dif_eq.mpr ⟨m1m _ c0, by rw [upd_ne cD, upd_ne (ne_of_none c2 ht)]; exact c2⟩) cD
          · have cD := hid_ne e
            obtain ⟨c0, c1⟩ := dif_eq.mp (hid_sub _ _ e)
            have cd := hD1.nd c0
            have c2 : G2 c = some u := hh_sub _ _ (sG _ _ (hh_get (s _ _ c1) cd.1 cd.2))
            exact hid_get (dif_eq.mpr ⟨c0, by rw [upd_ne cD, upd_ne (ne_of_none c2 ht)]; exact c2⟩) cD
        · rw [List.map_append, hcs, List.take_add_one, hzm]
          rfl
    case r6 =>
    obtain ⟨gl, ts, cs, rfl, hDg, mg1, sg, hgl, pd, nd, hc3⟩ := hC
    have dsub : ∀ {X : Hp}, Same (dif H1 X) X := fun _ _ e => (dif_eq.mp e).2
    have one : 1 ≤ sizeLine := by decide
    have hOg1 := sg _ _ hOc1
    have hOg2 := hOc2.st (st_odd T.R) sg
    clear hOc1 hOc2 sg
    have lts : ts.length = 3 := by rw [paired_len pd]; exact hc3
    try dsimp only [List.set]
    refine stepNo (fun H' => Same Hg H') (fun Q' hQ => ?w1) (fun Ha sa => ?r7)
    case w1 =>
      have pdg := paired_mono (fun _ _ z => z.same dsub) pd
      have hglg := dsub _ _ hgl
      refine ⟨_, rfl, .ref gl, .non, rfl, .inr (.inr (.inr ⟨gl, ts, cs, rfl, .inl (SqL.of hglg), pdg, by omega, nd, rfl⟩)), fun Ha sa => ⟨_, rfl, iteFD (by simp) ?_⟩⟩
      refine ⟨_, rfl, gl, ts.map V.ref, rfl, SqL.of (sa _ _ hglg), fun tl Hb _ sb _ _ hT => ?_⟩
      refine ⟨.ref tl, .non, rfl, .inr (.inr (.inr ⟨tl, ts, cs, rfl, .inr hT, paired_mono (fun _ _ z => z.same (Same.trans sa sb)) pdg, by omega, nd, rfl⟩)), fun Hc' sc => ⟨_, rfl, ?_⟩⟩
      show Q' (!decide (V.non = V.non)) Hc'
      rw [show (!decide (V.non = V.non)) = false by simp]
      exact hQ _ (Same.trans (Same.trans sa sb) sc)
    case r7 =>
    try dsimp only [List.set]
    refine stepSet (fun u H' => ∃ k : Nat, u = .int (k : Int) ∧ k ≤ 3 ∧ DealAt H' d g ∧ Mo H1 H' ∧ Same (dif H1 Hg) (dif H1 H')) (fun Q' hQ => ⟨_, rfl, d, g, 4, rfl, hDg.same sa, by decide, by decide, fun r H' r0 r1 hD' hs hm => hQ _ _ ⟨r.toNat, by rw [Int.toNat_of_nonneg r0], by omega, hD', (mg1.trans (smo sa)).trans hm, Same.trans (dif_sm sa) (mvD hs)⟩⟩) (fun u Hb hC => ?r8)
    case r8 =>
    obtain ⟨k, rfl, hk, hDb, mb, sb⟩ := hC
    have hglb := sb _ _ hgl
    have pdb := paired_mono (fun _ _ z => z.same sb) pd
    have hOb1 := sb _ _ hOg1
    have hOb2 := hOg2.st (st_odd T.R) sb
    clear hOg1 hOg2 sb pd hgl hDg mg1 sa
    try dsimp only [List.set]
    refine stepSet (fun u H' => ∃ (bl : Addr) (ov : V), u = .ref bl ∧ DealAt H' d g ∧ Mo H1 H' ∧ Same (dif H1 Hb) (dif H1 H') ∧ Odd T.R (dif H1 H') ov ∧ H' bl = some (.lst ((ts.map V.ref).take k ++ [ov] ++ (ts.map V.ref).drop k))) (fun Q' hQ => ?bad) (fun u Hd hC => ?r9)
    case bad =>
      have kl : k ≤ (ts.map V.ref).length := by rw [List.length_map, lts]; exact hk
      have hgb := dsub _ _ hglb
      have hob := dsub _ _ hOb1
      have ond := hD1.nd (dif_eq.mp hOb1).1
      refine ⟨_, rfl, _, rfl, (k : Int), rfl, gl, _, rfl, SqL.of hgb, fun p1 hp1 => ?_⟩
      rw [cut_upto _ kl]
      have s1 := Same.new (o := .lst ((ts.map V.ref).take k)) hp1
      have n1 := hDb.nd hp1
      have e1 : (upd Hb p1 (.lst ((ts.map V.ref).take k))) p1 = some (.lst ((ts.map V.ref).take k)) := upd_same
      have hD1' := hDb.new (o := .lst ((ts.map V.ref).take k)) hp1
      generalize upd Hb p1 (.lst ((ts.map V.ref).take k)) = X1 at s1 e1 hD1' ⊢
      refine ⟨_, rfl, _, rfl, d, g, o, vs, rfl, hD1', SqL.of (hh_get (s1 _ _ hob) ond.1 ond.2), by rw [hOb2.1]; decide, by rw [hOb2.1]; decide, fun ov G hov hDG sG mG => ⟨one, fun p2 hp2 => ?_⟩⟩
      have e1G := hh_sub _ _ (sG _ _ (hh_get e1 n1.1 n1.2))
      have sB : Same (dif H1 Hb) (dif H1 G) := Same.trans (dif_sm s1) (mvD sG)
      have hgG := dsub _ _ (sB _ _ hglb)
      have s2' := Same.new (o := .lst [ov]) hp2
      refine ⟨p1, p2, _, _, rfl, rfl, s2' _ _ e1G, upd_same, by rw [List.length_take, List.length_map, lts]; exact Nat.le_of_lt (small1000 (by simp only [List.length_cons, List.length_nil]; omega)), fun p3 hp3 => ?_⟩
      have s3' := Same.new (o := .lst ((ts.map V.ref).take k ++ [ov])) hp3
      have e3 : (upd (upd G p2 (.lst [ov])) p3 (.lst ((ts.map V.ref).take k ++ [ov]))) p3 = some (.lst ((ts.map V.ref).take k ++ [ov])) := upd_same
      have hD3 : DealAt (upd (upd G p2 (.lst [ov])) p3 (.lst ((ts.map V.ref).take k ++ [ov]))) d g := (hDG.new hp2).new hp3
      have s23 := Same.trans s2' s3'
      generalize upd (upd G p2 (.lst [ov])) p3 (.lst ((ts.map V.ref).take k ++ [ov])) = X3 at s3' e3 hD3 s23 ⊢
      refine ⟨_, rfl, _, rfl, (k : Int), rfl, gl, _, rfl, SqL.of (s23 _ _ hgG), fun p4 hp4 => ?_⟩
      rw [cut_dn _ kl]
      have s4' := Same.new (o := .lst ((ts.map V.ref).drop k)) hp4
      refine ⟨p3, p4, _, _, rfl, rfl, s4' _ _ e3, upd_same, by rw [List.length_append, List.length_take, List.length_drop, List.length_map, lts]; exact Nat.le_of_lt (small1000 (by simp only [List.length_cons, List.length_nil]; omega)), fun p5 hp5 => ?_⟩
      have s35 := Same.trans s4' (Same.new (o := .lst ((ts.map V.ref).take k ++ [ov] ++ (ts.map V.ref).drop k)) hp5)
      have sF : Same (dif H1 Hb) (dif H1 _) := Same.trans sB (dif_sm (Same.trans s23 s35))
      exact hQ _ _ ⟨p5, ov, rfl, (hD3.new hp4).new hp5, (((mb.trans (smo s1)).trans mG).trans (smo s23)).trans (smo s35), sF, st_odd T.R _ _ _ sF (hOb2.2 ov hov), upd_same⟩
    case r9 =>
    obtain ⟨bl, ov, rfl, hDd, md, sd, hov, hbl⟩ := hC
    have hgld := dsub _ _ (sd _ _ hglb)
    have pdd := paired_mono (fun _ _ z => z.same (Same.trans sd dsub)) pdb
    have hovd := st_odd T.R _ _ _ dsub hov
    have hOd1 := sd _ _ hOb1
    have hOd2 := hOb2.st (st_odd T.R) sd
    clear hOb1 hOb2 sd hov hglb pdb
    try dsimp only [List.set]
    have neS : ∀ z : Str, (!decide (V.str z = V.str z)) = false := fun z => by simp
    obtain ⟨bs, hbs, hall⟩ := bad_flags k pdd hovd
    have bl4 : ((ts.map V.ref).take k ++ [ov] ++ (ts.map V.ref).drop k).length = 4 := by
      rw [List.length_append, List.length_append, List.length_take, List.length_drop, List.length_map, lts]
      simp only [List.length_cons, List.length_nil]
      omega
    have l3 : (ts.map V.ref).length = 3 := by rw [List.length_map, lts]
    refine stepNo (fun H' => Same Hd H') (fun Q' hQ => ?w2) (fun He se => ?r10)
    case w2 =>
      refine ⟨_, rfl, .ref bl, .str "parts", rfl, .inr (.inl ⟨bl, _, bs, rfl, .inl (SqL.of hbl), hbs, by rw [bl4]; decide, hall, rfl⟩), fun Ha sa => ?_⟩
      refine ⟨rfl, _, rfl, iteFD (by simp) ?_⟩
      refine ⟨_, rfl, _, rfl, 1, rfl, gl, _, rfl, SqL.of (sa _ _ hgld), fun p hp => ?_⟩
      rw [show (1 : Int) = ((1 : Nat) : Int) from rfl, cut_upto _ (by rw [l3]; decide)]
      have s1 := Same.new (o := .lst ((ts.map V.ref).take 1)) hp
      refine ⟨bl, p, _, _, rfl, rfl, s1 _ _ (sa _ _ hbl), upd_same, by rw [bl4, List.length_take]; exact Nat.le_of_lt (small1000 (by omega)), fun p2 hp2 => ?_⟩
      have s2' := Same.new (o := .lst ((ts.map V.ref).take k ++ [ov] ++ (ts.map V.ref).drop k ++ (ts.map V.ref).take 1)) hp2
      have sF := Same.trans (Same.trans sa s1) s2'
      refine ⟨.ref p2, .str "parts", rfl, .inr (.inl ⟨p2, _, bs ++ (cs.take 1).map (fun _ => true), rfl, .inl (SqL.of upd_same), paired_mono (fun _ _ z => z.same sF) (paired_cat (by rw [← List.map_take]; exact pairs_flags (pair_take 1 pdd)) hbs), by rw [List.length_append, bl4, List.length_take]; omega, by rw [List.all_append, hall]; rfl, rfl⟩), fun Hx sx => ?_⟩
      refine ⟨rfl, _, rfl, ?_⟩
      rw [neS]
      exact hQ _ (Same.trans sF sx)
    case r10 =>
    obtain ⟨t0, t1, t2, rfl⟩ : ∃ t0 t1 t2, ts = [t0, t1, t2] := by
      match ts, lts with
      | [t0, t1, t2], _ => exact ⟨t0, t1, t2, rfl⟩
    obtain ⟨c0, c1, c2, rfl⟩ : ∃ c0 c1 c2, cs = [c0, c1, c2] := by
      match cs, hc3 with
      | [c0, c1, c2], _ => exact ⟨c0, c1, c2, rfl⟩
    have hgle := se _ _ hgld
    have pde := paired_mono (fun _ _ z => z.same se) pdd
    have hDe := hDd.same se
    have me := md.trans (smo se)
    have hOe1 := dif_sm se _ _ hOd1
    have hOe2 := hOd2.st (st_odd T.R) (dif_sm se)
    clear hOd1 hOd2 hgld pdd hDd md hbs hovd
    obtain ⟨g0, nm0, _⟩ : FPair T.R He t0 c0 := by
      cases pde with
      | cons a _ => exact a
    try dsimp only [List.set]
    refine stepNo (fun H' => Same He H') (fun Q' hQ => ?w3) (fun Hf sf => ?r11)
    case w3 =>
      refine ⟨_, rfl, _, rfl, gl, _, _, .ref t0, rfl, rfl, SqL.of hgle, atI_nat (j := 0) rfl, t0, _, _, .str c0.1, rfl, rfl, g0, atI_nat (j := 0) rfl, Nat.zero_le _, fun e1 he1 => ⟨two, fun t3 ht3 => ⟨one, fun p hp => ?_⟩⟩⟩
      have s1 := Same.new (o := .lst []) he1
      have s2' := Same.new (o := .tup [.str c0.1, .ref e1]) ht3
      have s3' := Same.new (o := .lst [.ref t3]) hp
      have s13 := Same.trans (Same.trans s1 s2') s3'
      refine ⟨gl, p, _, _, rfl, rfl, s13 _ _ hgle, upd_same, (by show 3 + 1 ≤ sizeLine; decide), fun p2 hp2 => ?_⟩
      have s4' := Same.new (o := .lst ([t0, t1, t2].map V.ref ++ [V.ref t3])) hp2
      have sF := Same.trans s13 s4'
      have f3 : FPair T.R _ t3 (c0.1, e1, []) := ⟨SqT.of (s4' _ _ (s3' _ _ upd_same)), nm0, [], .inl (SqL.of (s4' _ _ (s3' _ _ (s2' _ _ upd_same)))), .nil, fun _ z => (nomatch z), Nat.zero_le _⟩
      refine ⟨.ref p2, .str "name", rfl, .inr (.inr (.inl ⟨p2, [t0, t1, t2, t3], [c0, c1, c2, (c0.1, e1, [])], rfl, .inl (SqL.of upd_same), paired_cat (l := [t0, t1, t2]) (m := [c0, c1, c2]) (.cons f3 .nil) (paired_mono (fun _ _ z => z.same sF) pde), (by show 4 ≤ 60; decide), ?_, rfl⟩)), fun Ha sa => ?_⟩
      · simp
      refine ⟨rfl, _, rfl, iteFD (by simp) ?_⟩
      have sFa := Same.trans sF sa
      refine ⟨_, rfl, 1, rfl, gl, _, rfl, SqL.of (sFa _ _ hgle), fun p6 hp6 => ?_⟩
      have s6 := Same.new (o := .lst (cutV ([t0, t1, t2].map V.ref) none (some 1))) hp6
      refine ⟨_, rfl, p6, gl, _, _, rfl, rfl, upd_same, s6 _ _ (sFa _ _ hgle), (by show 1 + 3 ≤ sizeLine; decide), fun p7 hp7 => ?_⟩
      have s7 := Same.new (o := .lst (cutV ([t0, t1, t2].map V.ref) none (some 1) ++ [t0, t1, t2].map V.ref)) hp7
      refine ⟨p7, _, rfl, SqL.of upd_same, fun tl Hb _ sb _ _ hT => ?_⟩
      have sG := Same.trans (Same.trans (Same.trans sFa s6) s7) sb
      have pdG := paired_mono (fun _ _ z => z.same sG) pde
      have f0 : FPair T.R Hb t0 c0 := by
        cases pdG with
        | cons a _ => exact a
      refine ⟨.ref tl, .str "name", rfl, .inr (.inr (.inl ⟨tl, [t0, t0, t1, t2], [c0, c0, c1, c2], rfl, .inr hT.sqt, .cons f0 pdG, (by show 4 ≤ 60; decide), ?_, rfl⟩)), fun Hx sx => ?_⟩
      · simp
      refine ⟨rfl, _, rfl, ?_⟩
      rw [neS]
      exact hQ _ (Same.trans sG sx)
    case r11 =>
    try dsimp only [List.set]
    have hglf := sf _ _ hgle
    refine skip_mk T.R (c := "f") (n := 1) (by decide +kernel) (by decide) fun sk Hs _ ss rs => ?_
    refine ⟨_, rfl, fun x dx hx hdx ne => ?_⟩
    have s1 : Same Hs (upd (upd Hs dx (.own x)) x (.ins T.F.C dx [])) := ins_same2 hx hdx
    have sfs := Same.trans sf ss
    refine ⟨x, dx, .ref gl, rfl, upd_same, .inr (.inr (.inr ⟨gl, [t0, t1, t2], [c0, c1, c2], rfl, .inl (SqL.of (s1 _ _ (ss _ _ hglf))), paired_mono (fun _ _ z => z.same (Same.trans sfs s1)) pde, (by show 3 ≤ 60; decide), nd, fun tp Ht kp hf hi => ⟨rfl, ?_⟩⟩))⟩
    have st := kpi_same2 hx hdx kp
    refine ⟨(by show 6 ≤ sizeLine; decide), fun p hp => ?_⟩
    have sp := Same.new (o := .lst [.non, .int 3, .str "x: skip f 1", .ref sk, .ref x, .bl true]) hp
    have all : ∀ v ∈ ([.non, .int 3, .str "x: skip f 1", .ref sk, .ref x, .bl true] : List V), NoSq K Ht v := by
      intro v hv
      simp only [List.mem_cons, List.not_mem_nil, or_false] at hv
      rcases hv with rfl | rfl | rfl | rfl | rfl | rfl
      · exact nosq_d .non rfl
      · exact nosq_d (.int _) rfl
      · exact nosq_d (.str _) rfl
      · have rk := rs.same st
        exact ⟨_, row_ty T.F.toTFil rk, T.F.kS _, fun H' s' => row_ty T.F.toTFil (rk.same s')⟩
      · exact ⟨_, .base (.ins hi T.F.cl T.cAF T.F.cN T.F.cT T.cMF), T.kFil, fun H' s' => .base (.ins (s' _ _ hi) T.F.cl T.cAF T.F.cN T.F.cT T.cMF)⟩
      · exact nosq_d (.bl _) rfl
    refine ⟨p, rfl, ⟨_, SqL.of upd_same⟩, for_list (xs := [.non, .int 3, .str "x: skip f 1", .ref sk, .ref x, .bl true]) (fun m σ Hy => ∃ z7, σ = [some (.ref a), some (.ref d), some (.ref o), some (.int (0 + (j : Int))), some (.ref gl), some (.int (k : Int)), some (.ref bl), z7, y8] ∧ Same (upd Ht p (.lst [.non, .int 3, .str "x: skip f 1", .ref sk, .ref x, .bl true])) Hy)
      ⟨_, rfl, Same.refl _⟩ (fun m σ Hy _ hP => ?both) (fun m v σ Hy hv hP => ?turn9) (fun σ Hy hP => ?after)⟩
    case both =>
      obtain ⟨_, _, sy⟩ := hP
      exact SqL.of (sy _ _ upd_same)
    case turn9 =>
      obtain ⟨z7, rfl, sy⟩ := hP
      have nv := (all v (List.mem_of_getElem? hv)).same (Same.trans sp sy)
      try dsimp only [List.set]
      refine stepEndB (fun H' => Same Hy H') (fun Q' hQ => ?tt) (fun H' sH => ⟨_, rfl, Same.trans sy sH⟩)
      case tt =>
        refine ⟨_, rfl, v, .str "parts", rfl, .inl ⟨nv, rfl⟩, fun Ha sa => ⟨rfl, _, rfl, ?_⟩⟩
        rw [neS]
        exact hQ _ sa
    case after =>
      obtain ⟨z7, rfl, sy⟩ := hP
      have sAll := Same.trans (Same.trans (Same.trans sfs st) sp) sy
      exact ⟨_, _, _, _, _, _, rfl, hDe.same sAll, me.trans (smo sAll), dif_sm sAll _ _ hOe1, hOe2.st (st_odd T.R) (dif_sm sAll)⟩
end
end Pn

namespace Pn
open PySem PySem.Spec PyProof.Rows L2
/-! ### what the top leaves: asked in one run -/
/-- a def that is asked for: where it lies, its names, its statement, its defaults -/
structure DefQ where
  loc : PySem.W.Frag → Addr
  nm : Str
  ql : Str
  st : Stmt
  dv : List He.Dv := []
abbrev FnQ : Type := Option (Str × Str × Addr × Addr × Arguments × FuncBody × Scope × List (Str × Addr))
def fnSeen (K : PySem.W.Frag) (a : Addr) : FnQ := match K.lookup a with
  | some ⟨_, _, .func q, _⟩ => some (q.qualname, q.name, q.builtins, q.globals, q.params, q.body, q.scope, q.closure)
  | _ => none
def DefQ.is (d : DefQ) : FnQ := some (d.ql, d.nm, builtinsNs, mainGlobals, defArgs d.st, .stmts (defBody d.st), defScope d.st, [])
def DefQ.vals (d : DefQ) (K : PySem.W.Frag) : List V := d.dv.map (He.Dv.v K)
def DefQ.good (K : PySem.W.Frag) (d : DefQ) : Bool := match K.lookup (d.loc K) with
  | some ⟨_, _, .func q, _⟩ => PySem.W.keepIn K (.ref (d.loc K)) && (PySem.W.codeIn K q.code d.ql && He.dflB K q.defaults (d.vals K))
  | _ => false
theorem DefQ.funD {K : PySem.W.Frag} {d : DefQ} (e : fnSeen K (d.loc K) = d.is) (c : d.good K = true) : ∃ fd, FunD K d.nm d.ql (defArgs d.st) (defBody d.st) (defScope d.st) (d.vals K) [] (d.loc K) fd := by
  unfold DefQ.good at c
  unfold fnSeen at e
  cases hl : K.lookup (d.loc K) with
  | none => rw [hl] at c; cases c
  | some o =>
    obtain ⟨oc, od, dat, sl⟩ := o
    rw [hl] at c e
    cases dat with
    | func q =>
      obtain ⟨a1, a2, a3, a4, a5, a6, a7, a8, a9, b1, b2, b3, b4, b5, b6⟩ := q
      have e2 : (some (a2, a1, b6, a6, a3, a4, a5, a7) : FnQ) = some (d.ql, d.nm, builtinsNs, mainGlobals, defArgs d.st, .stmts (defBody d.st), defScope d.st, []) := e
      injection e2 with e2
      obtain ⟨rfl, rfl, rfl, rfl, rfl, rfl, rfl, rfl⟩ : a2 = d.ql ∧ a1 = d.nm ∧ b6 = builtinsNs ∧ a6 = mainGlobals ∧ a3 = defArgs d.st ∧ a4 = .stmts (defBody d.st) ∧ a5 = defScope d.st ∧ a7 = [] := by simpa using e2
      have c2 : (PySem.W.keepIn K (.ref (d.loc K)) && (PySem.W.codeIn K b4 d.ql && He.dflB K a8 (d.vals K))) = true := c
      rw [Bool.and_eq_true, Bool.and_eq_true] at c2
      exact ⟨_, ⟨oc, od, a8, a9, b1, b2, b3, b4, b5, sl, rfl, hl, c2.2.1, He.dflB_ok c2.2.2, .inl rfl⟩, c2.1⟩
    | _ => cases c
theorem fun_of {K : PySem.W.Frag} {x ql : Str} {st : Stmt} {f : Addr} {fd : FuncData} (F : FunD K x ql (defArgs st) (defBody st) (defScope st) [] [] f fd) : Fun K x ql st f fd := by
  obtain ⟨⟨oc, od, dV, kV, doc, pm, an, cdv, ct, sl, e, hl, hc, hd, _⟩, hk⟩ := F
  rcases hd with ⟨_, rfl⟩ | ⟨h, _⟩
  · exact ⟨⟨oc, od, kV, doc, pm, an, cdv, ct, sl, e, hl, hc⟩, hk⟩
  · exact absurd rfl h
abbrev Ask : Type := PySem.W.Frag → Bool
def askQ (fn : List DefQ) (ex : List (List Ask)) (K : PySem.W.Frag) : Bool × List FnQ := ((fn.all fun d => d.good K) && ex.all fun l => l.all fun f => f K, fn.map fun d => fnSeen K (d.loc K))
def toldQ (fn : List DefQ) : Bool × List FnQ := (true, fn.map DefQ.is)
/-- what an object leads to: a def's code and defaults, a class's own names, what a tuple or a dict holds -/
def leadsQ (o : Obj) : List Addr := match o.data with
  | .func q => He.refV q.code ++ He.refV q.defaults
  | .cls q => [q.ns]
  | .dict es _ => es.toList.flatMap fun z => He.refV z.val
  | .seq us _ => us.toList.flatMap He.refV
  | .fields us => us.toList.flatMap He.refV
  | _ => []
def levQ (g : Addr → Option Obj) : Nat → List Addr → List Addr
  | 0, as => as
  | n + 1, as => as ++ levQ g n (as.flatMap fun a => match g a with
    | some o => leadsQ o
    | none => [])
/-- the part of the heap that is looked at -/
def partQ (n : Nat) (g : Addr → Option Obj) : PySem.W.Frag := He.frG g (cStatics :: levQ g n [mainGlobals])
def hookQ (n : Nat) (fn : List DefQ) (ex : List (List Ask)) : PySem.W.Hook where
  α := Bool × List FnQ
  obs := fun s => askQ fn ex (partQ n s.heap.get?)
  val := fun _ => toldQ fn
  says := fun _ h => ∃ K : PySem.W.Frag, K.In h ∧ askQ fn ex K = toldQ fn
  of := fun _ _ e => ⟨_, He.frG_in, e⟩
  keeps := fun _ _ _ h k => by
    obtain ⟨K, hK, c⟩ := h
    exact ⟨K, PySem.W.Frag.In.keeps hK k, c⟩
def seenQ (n : Nat) (fn : List DefQ) (ex : List (List Ask)) (s : PySem.W.SharedT) : Bool × List FnQ := askQ fn ex (partQ n (HandSHeadRun.getT s))
theorem seenQ_eq (n : Nat) (fn : List DefQ) (ex : List (List Ask)) (s : PySem.W.SharedT) : seenQ n fn ex s = (hookQ n fn ex).obs s.abs := by
  have e : HandSHeadRun.getT s = s.abs.heap.get? := funext (HandSHeadRun.getT_eq s)
  unfold seenQ
  rw [e]
  rfl
section
variable {fn : List DefQ} {ex : List (List Ask)} {K : PySem.W.Frag}
theorem told_at (c : askQ fn ex K = toldQ fn) (i j : Nat) {l : List Ask} {f : Ask} (hl : ex[i]? = some l := by rfl) (hf : l[j]? = some f := by rfl) : f K = true := by
  have h := congrArg (fun z : Bool × List FnQ => z.1) c
  have h2 : ((fn.all fun d => d.good K) && ex.all fun l => l.all fun f => f K) = true := h
  rw [Bool.and_eq_true, List.all_eq_true, List.all_eq_true] at h2
  exact List.all_eq_true.mp (h2.2 l (List.mem_of_getElem? hl)) f (List.mem_of_getElem? hf)
theorem told_fn (c : askQ fn ex K = toldQ fn) (i : Nat) {d : DefQ} (hd : fn[i]? = some d := by rfl) : ∃ fd, FunD K d.nm d.ql (defArgs d.st) (defBody d.st) (defScope d.st) (d.vals K) [] (d.loc K) fd := by
  have h := congrArg (fun z : Bool × List FnQ => z.1) c
  have h2 : ((fn.all fun d => d.good K) && ex.all fun l => l.all fun f => f K) = true := h
  rw [Bool.and_eq_true, List.all_eq_true] at h2
  have h3 : fn.map (fun d => fnSeen K (d.loc K)) = fn.map DefQ.is := congrArg (fun z : Bool × List FnQ => z.2) c
  have h4 := congrArg (fun l : List FnQ => l[i]?) h3
  simp only [List.getElem?_map, hd, Option.map_some] at h4
  exact DefQ.funD (Option.some.inj h4) (h2.1 d (List.mem_of_getElem? hd))
end
/-- an own exception class -/
def excQ (K : PySem.W.Frag) (C : Addr) (nid : String) : Bool := match K.lookup C with
  | some ⟨.type t, _, .cls cd, sl⟩ => decide (t = "type") && (cd.hasDict && (!cd.hasDel && ((match cd.mro with
    | .ref D :: bm => decide (D = C) && PySem.HandSPX.refsVE bm
    | _ => false) && (match sl.toList with
    | [_, _, _, _, some (.builtin n), _] => decide (n = nid)
    | _ => false))))
  | _ => false
theorem excQ_ok {K : PySem.W.Frag} {C : Addr} {nid : String} (h : excQ K C nid = true) : ∃ nm q N bs bm sn sub ab col dd k0 k1 k2 k3 k5, K.lookup C = some (excClassObj nm q C N bs bm true sn sub ab col dd k0 k1 k2 k3 k5 nid) ∧ PySem.HandSPX.refsVE bm = true := by
  unfold excQ at h
  split at h
  · rename_i t dd cd sl hl
    rw [Bool.and_eq_true, Bool.and_eq_true, Bool.and_eq_true, Bool.and_eq_true] at h
    obtain ⟨h1, h2, h3, h4, h5⟩ := h
    split at h4
    · rename_i D bm hm
      split at h5
      · rename_i k0 k1 k2 k3 n k5 hs
        rw [Bool.and_eq_true] at h4
        obtain ⟨h6, h7⟩ := h4
        have e1 := of_decide_eq_true h1
        have e2 := of_decide_eq_true h6
        have e3 := of_decide_eq_true h5
        obtain ⟨nm, bs, mro, ns, qn, hd, sn, sub, ab, col, del⟩ := cd
        simp only at hm h2 h3
        have e4 : del = false := by simpa using h3
        have e5 : sl = #[k0, k1, k2, k3, some (.builtin n), k5] := by
          obtain ⟨l⟩ := sl
          simp only at hs
          rw [hs]
        subst e1 e2 e3 e4 e5 h2 hm
        exact ⟨nm, qn, ns, bs, bm, sn, sub, ab, col, dd, k0, k1, k2, k3, k5, hl, h7⟩
      · cases h5
    · cases h4
  · cases h
/-- a tuple of the written part -/
def tupQ (K : PySem.W.Frag) (a : Addr) (vs : List He.Dv) : Bool := match K.lookup a with
  | some ⟨.type t, _, .seq its _, _⟩ => decide (t = "tuple") && (decide (its.size ≤ sizeLine) && He.relAll (vs.map (He.Dv.v K)) its.toList)
  | _ => false
theorem tupQ_ok {K : PySem.W.Frag} {a : Addr} {vs : List He.Dv} (h : tupQ K a vs = true) (H : Hp) : SqT K H a (vs.map (He.Dv.v K)) := by
  unfold tupQ at h
  split at h
  · rename_i t d its n sl hl
    rw [Bool.and_eq_true, Bool.and_eq_true] at h
    have e := of_decide_eq_true h.1
    subst e
    exact .inr ⟨_, its, n, hl, rfl, rfl, of_decide_eq_true h.2.1, He.relAll_ok h.2.2⟩
  · cases h
/-- the getter of a property -/
def getterQ (K : PySem.W.Frag) (p : Addr) : Addr := match PySem.W.recIn K p "property" with
  | some (.ref g :: _) => g
  | _ => 0
def propQ (K : PySem.W.Frag) (C : Addr) (nm : Str) : Bool := decide (PySem.W.findIn K (.ref C) nm = some (some (.ref (He.ma K C nm)))) && (decide (PySem.W.specialIn K (.ref (He.ma K C nm)) "__get__" = some (some (.builtin "property.__get__"))) && (decide (PySem.W.takesIn K (.ref (He.ma K C nm)) = some true) &&
  (match PySem.W.recIn K (He.ma K C nm) "property" with
  | some (.ref _ :: _) => true
  | _ => false)))
theorem propQ_ok {K : PySem.W.Frag} {C : Addr} {nm : Str} (h : propQ K C nm = true) : PropOf K C nm (He.ma K C nm) (getterQ K (He.ma K C nm)) := by
  unfold propQ at h
  rw [Bool.and_eq_true, Bool.and_eq_true, Bool.and_eq_true] at h
  obtain ⟨h1, h2, h3, h4⟩ := h
  refine ⟨of_decide_eq_true h1, of_decide_eq_true h2, of_decide_eq_true h3, ?_⟩
  unfold getterQ
  split at h4
  · rename_i g r hr
    exact ⟨r, by rw [hr]⟩
  · cases h4
end Pn

namespace Pn
open PySem PySem.Spec PyProof.Rows L2
def fnQ0 : List DefQ := [
  { loc := fun K => (He.ga K "is_integer"), nm := "is_integer", ql := "is_integer", st := sIsInteger, dv := [] },
  { loc := fun K => (He.ga K "is_number"), nm := "is_number", ql := "is_number", st := sIsNumber, dv := [] },
  { loc := fun K => (He.ga K "is_name"), nm := "is_name", ql := "is_name", st := sIsName, dv := [] },
  { loc := fun K => (He.ma K (He.ga K "InvalidRow") "__init__"), nm := "__init__", ql := "InvalidRow.__init__", st := sIRInit, dv := [] },
  { loc := fun K => (He.ga K "need_name"), nm := "need_name", ql := "need_name", st := sNeedName, dv := [] },
  { loc := fun K => (He.ma K (He.ga K "Note") "__init__"), nm := "__init__", ql := "Note.__init__", st := sNoteInit, dv := [.str ""] },
  { loc := fun K => (He.ma K (He.ga K "Skip") "__init__"), nm := "__init__", ql := "Skip.__init__", st := sSkipInit, dv := [] },
  { loc := fun K => (He.ma K (He.ga K "Set") "__init__"), nm := "__init__", ql := "Set.__init__", st := sSetInit, dv := [] },
  { loc := fun K => (He.ma K (He.ga K "Keep") "__init__"), nm := "__init__", ql := "Keep.__init__", st := sKeepInit, dv := [] },
  { loc := fun K => (He.ma K (He.ga K "Ref") "__init__"), nm := "__init__", ql := "Ref.__init__", st := sRefInit, dv := [] },
  { loc := fun K => (He.ma K (He.ga K "Put") "__init__"), nm := "__init__", ql := "Put.__init__", st := sPutInit, dv := [] },
  { loc := fun K => (He.ma K (He.ga K "Open") "__init__"), nm := "__init__", ql := "Open.__init__", st := sOpenInit, dv := [] }]
def fnQ1 : List DefQ := [
  { loc := fun K => (He.ma K (He.ga K "InvalidFilling") "__init__"), nm := "__init__", ql := "InvalidFilling.__init__", st := sIFInit, dv := [] },
  { loc := fun K => (He.ma K (He.ga K "Filling") "__init__"), nm := "__init__", ql := "Filling.__init__", st := sFInit, dv := [.adr (He.dflAt ("Filling", some "__init__") 0)] },
  { loc := fun K => (He.ga K "is_sequence"), nm := "is_sequence", ql := "is_sequence", st := sIsSeq, dv := [] },
  { loc := fun K => (He.ga K "is_pair"), nm := "is_pair", ql := "is_pair", st := sIsPairF, dv := [] },
  { loc := fun K => (He.ga K "are_fillable"), nm := "are_fillable", ql := "are_fillable", st := sAreFill, dv := [] },
  { loc := fun K => (He.ga K "is_filled"), nm := "is_filled", ql := "is_filled", st := sIsFilled, dv := [] },
  { loc := fun K => (He.ga K "_law_deal"), nm := "_law_deal", ql := "_law_deal", st := sDeal, dv := [] },
  { loc := fun K => (He.ga K "_law_draw"), nm := "_law_draw", ql := "_law_draw", st := sDraw, dv := [] },
  { loc := fun K => (He.ga K "_law_pick"), nm := "_law_pick", ql := "_law_pick", st := sPick, dv := [] },
  { loc := fun K => (He.ga K "_law_mixed"), nm := "_law_mixed", ql := "_law_mixed", st := sMixed, dv := [] },
  { loc := fun K => (He.ga K "_law_names"), nm := "_law_names", ql := "_law_names", st := sNames, dv := [] },
  { loc := fun K => (He.ga K "_law_word"), nm := "_law_word", ql := "_law_word", st := sWord18, dv := [] }]
def fnQ2 : List DefQ := [
  { loc := fun K => (He.ga K "law"), nm := "law", ql := "law", st := sLaw18, dv := [] }]
def fnQ : List DefQ := fnQ0 ++ fnQ1 ++ fnQ2
def exQ0 : List Ask := [
  fun K => decide (PySem.W.nsIn K mainGlobals "int" = some none),
  fun K => decide (PySem.W.nsIn K mainGlobals "bool" = some none),
  fun K => decide (PySem.W.nsIn K mainGlobals "str" = some none),
  fun K => decide (PySem.W.nsIn K mainGlobals "isinstance" = some none),
  fun K => decide (PySem.W.nsIn K mainGlobals "len" = some none),
  fun K => decide (PySem.W.nsIn K mainGlobals "all" = some none),
  fun K => decide (PySem.W.nsIn K mainGlobals "abs" = some none),
  fun K => decide (PySem.W.nsIn K mainGlobals "list" = some none),
  fun K => decide (PySem.W.nsIn K mainGlobals "tuple" = some none),
  fun K => decide (PySem.W.nsIn K mainGlobals "set" = some none)]
def exQ1 : List Ask := [
  fun K => decide (PySem.W.nsIn K mainGlobals "sorted" = some none),
  fun K => decide (PySem.W.nsIn K mainGlobals "dict" = some none),
  fun K => decide (PySem.W.nsIn K mainGlobals "range" = some none),
  fun K => decide (PySem.W.nsIn K mainGlobals "ROW_WORDS" = some (some (.ref (He.ga K "ROW_WORDS")))),
  fun K => He.tupB K "ROW_WORDS" [.str "note", .str "skip", .str "set", .str "keep", .str "back", .str "ref", .str "put", .str "open", .str "part"],
  fun K => (He.Fa.int "LONGEST_NAME" 4).ok K,
  fun K => decide (PySem.W.nsIn K mainGlobals "is_integer" = some (some (.ref (He.ga K "is_integer")))),
  fun K => decide (PySem.W.nsIn K mainGlobals "is_number" = some (some (.ref (He.ga K "is_number")))),
  fun K => decide (PySem.W.nsIn K mainGlobals "is_name" = some (some (.ref (He.ga K "is_name")))),
  fun K => decide (PySem.W.nsIn K mainGlobals "NoteError" = some (some (.ref (He.ga K "NoteError"))))]
def exQ2 : List Ask := [
  fun K => decide (PySem.W.nsIn K mainGlobals "InvalidRow" = some (some (.ref (He.ga K "InvalidRow")))),
  fun K => excQ K (He.ga K "InvalidRow") "ValueError.__new__",
  fun K => decide (PySem.W.findIn K (.ref (He.ga K "InvalidRow")) "__setattr__" = some (some (.builtin "object.__setattr__"))),
  fun K => decide (PySem.W.findIn K (.ref (He.ga K "InvalidRow")) "__getattribute__" = some (some (.builtin "BaseException.__getattribute__"))),
  fun K => decide (PySem.W.findIn K (.ref (He.ga K "InvalidRow")) "__getattr__" = some (none)),
  fun K => decide (PySem.W.findIn K (.ref (He.ga K "InvalidRow")) "word" = some (none)),
  fun K => decide (PySem.W.findIn K (.ref (He.ga K "InvalidRow")) "__init__" = some (some (.ref (He.ma K (He.ga K "InvalidRow") "__init__")))),
  fun K => decide (PySem.W.findIn K (.ref (He.ga K "InvalidRow")) "__class__" = some (some (.builtin "object.__class__"))),
  fun K => decide (PySem.W.typeIn K (.ref (He.ma K (He.ga K "InvalidRow") "__init__")) = some (.type "function")),
  fun K => PySem.W.keepIn K (.ref (He.ga K "InvalidRow"))]
def exQ3 : List Ask := [
  fun K => decide (PySem.W.subIn K (.ref (He.ga K "InvalidRow")) (.type "BaseException") = some true),
  fun K => decide (PySem.W.typeIn K (.ref (He.ga K "InvalidRow")) = some (.type "type")),
  fun K => PySem.W.hasDictIn K (He.ga K "InvalidRow"),
  fun K => PySem.W.isClsIn K (He.ga K "InvalidRow"),
  fun K => decide (PySem.W.subIn K (.ref (He.ga K "InvalidRow")) (.ref (He.ga K "InvalidRow")) = some true),
  fun K => decide (PySem.W.mroIn K (He.ga K "InvalidRow") (.type "object") = some true),
  fun K => decide (PySem.W.nsIn K mainGlobals "need_name" = some (some (.ref (He.ga K "need_name")))),
  fun K => decide (PySem.W.nsIn K mainGlobals "Note" = some (some (.ref (He.ga K "Note")))),
  fun K => decide (PySem.W.findIn K (.ref (He.ga K "Note")) "__init__" = some (some (.ref (He.ma K (He.ga K "Note") "__init__")))),
  fun K => PySem.W.isFn K (.ref (He.ma K (He.ga K "Note") "__init__"))]
def exQ4 : List Ask := [
  fun K => PySem.W.plainGet K (He.ga K "Note") Str.empty,
  fun K => PySem.W.hasDictIn K (He.ga K "Note"),
  fun K => PySem.W.plainOver K (He.ga K "Note"),
  fun K => decide (PySem.W.findIn K (.ref (He.ga K "Note")) "__setattr__" = some (some (.builtin "object.__setattr__"))),
  fun K => PySem.W.makesIn K (He.ga K "Note"),
  fun K => PySem.W.keepIn K (.ref (He.ga K "Note")),
  fun K => decide (PySem.W.findIn K (.ref (He.ga K "Note")) "word" = some none),
  fun K => decide (PySem.W.findIn K (.ref (He.ga K "Note")) "counter" = some none),
  fun K => decide (PySem.W.findIn K (.ref (He.ga K "Note")) "label" = some none),
  fun K => decide (PySem.W.nsIn K mainGlobals "Skip" = some (some (.ref (He.ga K "Skip"))))]
def exQ5 : List Ask := [
  fun K => decide (PySem.W.findIn K (.ref (He.ga K "Skip")) "__init__" = some (some (.ref (He.ma K (He.ga K "Skip") "__init__")))),
  fun K => PySem.W.isFn K (.ref (He.ma K (He.ga K "Skip") "__init__")),
  fun K => PySem.W.plainGet K (He.ga K "Skip") Str.empty,
  fun K => PySem.W.hasDictIn K (He.ga K "Skip"),
  fun K => PySem.W.plainOver K (He.ga K "Skip"),
  fun K => decide (PySem.W.findIn K (.ref (He.ga K "Skip")) "__setattr__" = some (some (.builtin "object.__setattr__"))),
  fun K => PySem.W.makesIn K (He.ga K "Skip"),
  fun K => PySem.W.keepIn K (.ref (He.ga K "Skip")),
  fun K => decide (PySem.W.findIn K (.ref (He.ga K "Skip")) "word" = some none),
  fun K => decide (PySem.W.findIn K (.ref (He.ga K "Skip")) "counter" = some none)]
def exQ6 : List Ask := [
  fun K => decide (PySem.W.findIn K (.ref (He.ga K "Skip")) "by" = some none),
  fun K => decide (PySem.W.nsIn K mainGlobals "Set" = some (some (.ref (He.ga K "Set")))),
  fun K => decide (PySem.W.findIn K (.ref (He.ga K "Set")) "__init__" = some (some (.ref (He.ma K (He.ga K "Set") "__init__")))),
  fun K => PySem.W.isFn K (.ref (He.ma K (He.ga K "Set") "__init__")),
  fun K => PySem.W.plainGet K (He.ga K "Set") Str.empty,
  fun K => PySem.W.hasDictIn K (He.ga K "Set"),
  fun K => PySem.W.plainOver K (He.ga K "Set"),
  fun K => decide (PySem.W.findIn K (.ref (He.ga K "Set")) "__setattr__" = some (some (.builtin "object.__setattr__"))),
  fun K => PySem.W.makesIn K (He.ga K "Set"),
  fun K => PySem.W.keepIn K (.ref (He.ga K "Set"))]
def exQ7 : List Ask := [
  fun K => decide (PySem.W.findIn K (.ref (He.ga K "Set")) "word" = some none),
  fun K => decide (PySem.W.findIn K (.ref (He.ga K "Set")) "counter" = some none),
  fun K => decide (PySem.W.findIn K (.ref (He.ga K "Set")) "to" = some none),
  fun K => decide (PySem.W.nsIn K mainGlobals "Keep" = some (some (.ref (He.ga K "Keep")))),
  fun K => decide (PySem.W.findIn K (.ref (He.ga K "Keep")) "__init__" = some (some (.ref (He.ma K (He.ga K "Keep") "__init__")))),
  fun K => PySem.W.isFn K (.ref (He.ma K (He.ga K "Keep") "__init__")),
  fun K => PySem.W.plainGet K (He.ga K "Keep") Str.empty,
  fun K => PySem.W.hasDictIn K (He.ga K "Keep"),
  fun K => PySem.W.plainOver K (He.ga K "Keep"),
  fun K => decide (PySem.W.findIn K (.ref (He.ga K "Keep")) "__setattr__" = some (some (.builtin "object.__setattr__")))]
def exQ8 : List Ask := [
  fun K => PySem.W.makesIn K (He.ga K "Keep"),
  fun K => PySem.W.keepIn K (.ref (He.ga K "Keep")),
  fun K => decide (PySem.W.findIn K (.ref (He.ga K "Keep")) "word" = some none),
  fun K => decide (PySem.W.findIn K (.ref (He.ga K "Keep")) "counter" = some none),
  fun K => decide (PySem.W.nsIn K mainGlobals "Ref" = some (some (.ref (He.ga K "Ref")))),
  fun K => decide (PySem.W.findIn K (.ref (He.ga K "Ref")) "__init__" = some (some (.ref (He.ma K (He.ga K "Ref") "__init__")))),
  fun K => PySem.W.isFn K (.ref (He.ma K (He.ga K "Ref") "__init__")),
  fun K => PySem.W.plainGet K (He.ga K "Ref") Str.empty,
  fun K => PySem.W.hasDictIn K (He.ga K "Ref"),
  fun K => PySem.W.plainOver K (He.ga K "Ref")]
def exQ9 : List Ask := [
  fun K => decide (PySem.W.findIn K (.ref (He.ga K "Ref")) "__setattr__" = some (some (.builtin "object.__setattr__"))),
  fun K => PySem.W.makesIn K (He.ga K "Ref"),
  fun K => PySem.W.keepIn K (.ref (He.ga K "Ref")),
  fun K => decide (PySem.W.findIn K (.ref (He.ga K "Ref")) "word" = some none),
  fun K => decide (PySem.W.findIn K (.ref (He.ga K "Ref")) "label" = some none),
  fun K => decide (PySem.W.nsIn K mainGlobals "Put" = some (some (.ref (He.ga K "Put")))),
  fun K => decide (PySem.W.findIn K (.ref (He.ga K "Put")) "__init__" = some (some (.ref (He.ma K (He.ga K "Put") "__init__")))),
  fun K => PySem.W.isFn K (.ref (He.ma K (He.ga K "Put") "__init__")),
  fun K => PySem.W.plainGet K (He.ga K "Put") Str.empty,
  fun K => PySem.W.hasDictIn K (He.ga K "Put")]
def exQ10 : List Ask := [
  fun K => PySem.W.plainOver K (He.ga K "Put"),
  fun K => decide (PySem.W.findIn K (.ref (He.ga K "Put")) "__setattr__" = some (some (.builtin "object.__setattr__"))),
  fun K => PySem.W.makesIn K (He.ga K "Put"),
  fun K => PySem.W.keepIn K (.ref (He.ga K "Put")),
  fun K => decide (PySem.W.findIn K (.ref (He.ga K "Put")) "word" = some none),
  fun K => decide (PySem.W.findIn K (.ref (He.ga K "Put")) "part" = some none),
  fun K => decide (PySem.W.nsIn K mainGlobals "Open" = some (some (.ref (He.ga K "Open")))),
  fun K => decide (PySem.W.findIn K (.ref (He.ga K "Open")) "__init__" = some (some (.ref (He.ma K (He.ga K "Open") "__init__")))),
  fun K => PySem.W.isFn K (.ref (He.ma K (He.ga K "Open") "__init__")),
  fun K => PySem.W.plainGet K (He.ga K "Open") Str.empty]
def exQ11 : List Ask := [
  fun K => PySem.W.hasDictIn K (He.ga K "Open"),
  fun K => PySem.W.plainOver K (He.ga K "Open"),
  fun K => decide (PySem.W.findIn K (.ref (He.ga K "Open")) "__setattr__" = some (some (.builtin "object.__setattr__"))),
  fun K => PySem.W.makesIn K (He.ga K "Open"),
  fun K => PySem.W.keepIn K (.ref (He.ga K "Open")),
  fun K => decide (PySem.W.findIn K (.ref (He.ga K "Open")) "word" = some none),
  fun K => decide (PySem.W.findIn K (.ref (He.ga K "Open")) "name" = some none),
  fun K => decide (PySem.W.nsIn K mainGlobals "InvalidFilling" = some (some (.ref (He.ga K "InvalidFilling")))),
  fun K => excQ K (He.ga K "InvalidFilling") "ValueError.__new__",
  fun K => decide (PySem.W.findIn K (.ref (He.ga K "InvalidFilling")) "__setattr__" = some (some (.builtin "object.__setattr__")))]
def exQ12 : List Ask := [
  fun K => decide (PySem.W.findIn K (.ref (He.ga K "InvalidFilling")) "__getattribute__" = some (some (.builtin "BaseException.__getattribute__"))),
  fun K => decide (PySem.W.findIn K (.ref (He.ga K "InvalidFilling")) "__getattr__" = some (none)),
  fun K => decide (PySem.W.findIn K (.ref (He.ga K "InvalidFilling")) "word" = some (none)),
  fun K => decide (PySem.W.findIn K (.ref (He.ga K "InvalidFilling")) "__init__" = some (some (.ref (He.ma K (He.ga K "InvalidFilling") "__init__")))),
  fun K => decide (PySem.W.findIn K (.ref (He.ga K "InvalidFilling")) "__class__" = some (some (.builtin "object.__class__"))),
  fun K => decide (PySem.W.typeIn K (.ref (He.ma K (He.ga K "InvalidFilling") "__init__")) = some (.type "function")),
  fun K => PySem.W.keepIn K (.ref (He.ga K "InvalidFilling")),
  fun K => decide (PySem.W.subIn K (.ref (He.ga K "InvalidFilling")) (.type "BaseException") = some true),
  fun K => decide (PySem.W.typeIn K (.ref (He.ga K "InvalidFilling")) = some (.type "type")),
  fun K => PySem.W.hasDictIn K (He.ga K "InvalidFilling")]
def exQ13 : List Ask := [
  fun K => PySem.W.isClsIn K (He.ga K "InvalidFilling"),
  fun K => decide (PySem.W.subIn K (.ref (He.ga K "InvalidFilling")) (.ref (He.ga K "InvalidFilling")) = some true),
  fun K => decide (PySem.W.mroIn K (He.ga K "InvalidFilling") (.type "object") = some true),
  fun K => decide (PySem.W.nsIn K mainGlobals "Filling" = some (some (.ref (He.ga K "Filling")))),
  fun K => decide (PySem.W.findIn K (.ref (He.ga K "Filling")) "__init__" = some (some (.ref (He.ma K (He.ga K "Filling") "__init__")))),
  fun K => PySem.W.isFn K (.ref (He.ma K (He.ga K "Filling") "__init__")),
  fun K => tupQ K (He.dflAt ("Filling", some "__init__") 0 K) [],
  fun K => PySem.W.plainGet K (He.ga K "Filling") Str.empty,
  fun K => PySem.W.hasDictIn K (He.ga K "Filling"),
  fun K => PySem.W.plainOver K (He.ga K "Filling")]
def exQ14 : List Ask := [
  fun K => decide (PySem.W.findIn K (.ref (He.ga K "Filling")) "__setattr__" = some (some (.builtin "object.__setattr__"))),
  fun K => PySem.W.makesIn K (He.ga K "Filling"),
  fun K => PySem.W.keepIn K (.ref (He.ga K "Filling")),
  fun K => decide (PySem.W.findIn K (.ref (He.ga K "Filling")) "filled" = some none),
  fun K => decide (PySem.W.nsIn K mainGlobals "is_sequence" = some (some (.ref (He.ga K "is_sequence")))),
  fun K => decide (PySem.W.nsIn K mainGlobals "is_pair" = some (some (.ref (He.ga K "is_pair")))),
  fun K => decide (PySem.W.nsIn K mainGlobals "are_fillable" = some (some (.ref (He.ga K "are_fillable")))),
  fun K => decide (PySem.W.nsIn K mainGlobals "is_filled" = some (some (.ref (He.ga K "is_filled")))),
  fun K => decide (PySem.W.nsIn K mainGlobals "_law_deal" = some (some (.ref (He.ga K "_law_deal")))),
  fun K => decide (PySem.W.nsIn K mainGlobals "_law_draw" = some (some (.ref (He.ga K "_law_draw"))))]
def exQ15 : List Ask := [
  fun K => decide (PySem.W.nsIn K mainGlobals "_law_pick" = some (some (.ref (He.ga K "_law_pick")))),
  fun K => decide (PySem.W.nsIn K mainGlobals "_law_mixed" = some (some (.ref (He.ga K "_law_mixed")))),
  fun K => decide (PySem.W.nsIn K mainGlobals "_law_names" = some (some (.ref (He.ga K "_law_names")))),
  fun K => decide (PySem.W.nsIn K mainGlobals "_law_word" = some (some (.ref (He.ga K "_law_word")))),
  fun K => decide (PySem.W.nsIn K mainGlobals "law" = some (some (.ref (He.ga K "law")))),
  fun K => decide (PySem.W.specialIn K (.builtin "object.__class__") "__get__" = some (some (.builtin "getset_descriptor.__get__"))),
  fun K => decide (PySem.W.takesIn K (.builtin "object.__class__") = some true),
  fun K => decide (PySem.W.kitAny K (.ref (He.ga K "Note")) [.ref (He.ga K "Skip"), .ref (He.ga K "Set")] = some false),
  fun K => decide (PySem.W.kitAny K (.ref (He.ga K "Note")) [.type "list", .type "tuple"] = some false),
  fun K => decide (PySem.W.findIn K (.ref (He.ga K "Note")) "__class__" = some (some (.builtin "object.__class__")))]
def exQ16 : List Ask := [
  fun K => decide (PySem.W.mroIn K (He.ga K "Note") (.type "object") = some true),
  fun K => decide (PySem.W.kitAny K (.ref (He.ga K "Skip")) [.ref (He.ga K "Skip"), .ref (He.ga K "Set")] = some true),
  fun K => decide (PySem.W.kitAny K (.ref (He.ga K "Skip")) [.type "list", .type "tuple"] = some false),
  fun K => decide (PySem.W.findIn K (.ref (He.ga K "Skip")) "__class__" = some (some (.builtin "object.__class__"))),
  fun K => decide (PySem.W.mroIn K (He.ga K "Skip") (.type "object") = some true),
  fun K => decide (PySem.W.kitAny K (.ref (He.ga K "Set")) [.ref (He.ga K "Skip"), .ref (He.ga K "Set")] = some true),
  fun K => decide (PySem.W.kitAny K (.ref (He.ga K "Set")) [.type "list", .type "tuple"] = some false),
  fun K => decide (PySem.W.findIn K (.ref (He.ga K "Set")) "__class__" = some (some (.builtin "object.__class__"))),
  fun K => decide (PySem.W.mroIn K (He.ga K "Set") (.type "object") = some true),
  fun K => decide (PySem.W.kitAny K (.ref (He.ga K "Keep")) [.ref (He.ga K "Skip"), .ref (He.ga K "Set")] = some false)]
def exQ17 : List Ask := [
  fun K => decide (PySem.W.kitAny K (.ref (He.ga K "Keep")) [.type "list", .type "tuple"] = some false),
  fun K => decide (PySem.W.findIn K (.ref (He.ga K "Keep")) "__class__" = some (some (.builtin "object.__class__"))),
  fun K => decide (PySem.W.mroIn K (He.ga K "Keep") (.type "object") = some true),
  fun K => decide (PySem.W.kitAny K (.ref (He.ga K "Ref")) [.ref (He.ga K "Skip"), .ref (He.ga K "Set")] = some false),
  fun K => decide (PySem.W.kitAny K (.ref (He.ga K "Ref")) [.type "list", .type "tuple"] = some false),
  fun K => decide (PySem.W.findIn K (.ref (He.ga K "Ref")) "__class__" = some (some (.builtin "object.__class__"))),
  fun K => decide (PySem.W.mroIn K (He.ga K "Ref") (.type "object") = some true),
  fun K => decide (PySem.W.kitAny K (.ref (He.ga K "Put")) [.ref (He.ga K "Skip"), .ref (He.ga K "Set")] = some false),
  fun K => decide (PySem.W.kitAny K (.ref (He.ga K "Put")) [.type "list", .type "tuple"] = some false),
  fun K => decide (PySem.W.findIn K (.ref (He.ga K "Put")) "__class__" = some (some (.builtin "object.__class__")))]
def exQ18 : List Ask := [
  fun K => decide (PySem.W.mroIn K (He.ga K "Put") (.type "object") = some true),
  fun K => decide (PySem.W.kitAny K (.ref (He.ga K "Open")) [.ref (He.ga K "Skip"), .ref (He.ga K "Set")] = some false),
  fun K => decide (PySem.W.kitAny K (.ref (He.ga K "Open")) [.type "list", .type "tuple"] = some false),
  fun K => decide (PySem.W.findIn K (.ref (He.ga K "Open")) "__class__" = some (some (.builtin "object.__class__"))),
  fun K => decide (PySem.W.mroIn K (He.ga K "Open") (.type "object") = some true),
  fun K => decide (PySem.W.kitAny K (.type "NoneType") [.ref (He.ga K "Skip"), .ref (He.ga K "Set")] = some false),
  fun K => decide (PySem.W.kitAny K (.type "bool") [.ref (He.ga K "Skip"), .ref (He.ga K "Set")] = some false),
  fun K => decide (PySem.W.kitAny K (.type "int") [.ref (He.ga K "Skip"), .ref (He.ga K "Set")] = some false),
  fun K => decide (PySem.W.kitAny K (.type "str") [.ref (He.ga K "Skip"), .ref (He.ga K "Set")] = some false),
  fun K => decide (PySem.W.kitAny K (.type "list") [.ref (He.ga K "Skip"), .ref (He.ga K "Set")] = some false)]
def exQ19 : List Ask := [
  fun K => decide (PySem.W.kitAny K (.type "tuple") [.ref (He.ga K "Skip"), .ref (He.ga K "Set")] = some false),
  fun K => decide (PySem.W.kitAny K (.type "dict") [.ref (He.ga K "Skip"), .ref (He.ga K "Set")] = some false),
  fun K => decide (PySem.W.kitOne K (.ref (He.ga K "InvalidFilling")) (.ref (He.ga K "NoteError")) = some true),
  fun K => decide (PySem.W.kitOne K (.ref (He.ga K "InvalidFilling")) (.ref (He.ga K "InvalidRow")) = some false),
  fun K => decide (PySem.W.kitAny K (.ref (He.ga K "Filling")) [.type "list", .type "tuple"] = some false),
  fun K => decide (PySem.W.findIn K (.ref (He.ga K "Filling")) "__class__" = some (some (.builtin "object.__class__"))),
  fun K => decide (PySem.W.mroIn K (He.ga K "Filling") (.type "object") = some true)]
def exR0 : List (List Ask) := [exQ0, exQ1, exQ2, exQ3, exQ4, exQ5, exQ6, exQ7, exQ8, exQ9, exQ10, exQ11, exQ12, exQ13, exQ14, exQ15, exQ16, exQ17, exQ18, exQ19]
def exQ : List (List Ask) := exR0
theorem facts {P : Program} {w : World} {K : PySem.W.Frag} {h : Heap} {mg : Str → Option Value} {fa : Addr} (X : K.In h) (G : h.Ns mainGlobals mg) (hfa : mg ("law" : Str) = some (.ref fa)) (c : askQ fnQ exQ K = toldQ fnQ) :
    ∃ fd : FuncData, (∀ (s : Shared) (v : Value), BindsTo s fd ⟨[v], []⟩ [("_law_script", v)]) ∧ ∀ base : Heap, K.In base → base.Ns mainGlobals mg → FnOk P w K mg base CX0 12 fa fd ["_law_script"] (spLaw18 K) := by
  have zint : PySem.W.nsIn K mainGlobals "int" = some none := of_decide_eq_true (told_at c 0 0)
  have zbool : PySem.W.nsIn K mainGlobals "bool" = some none := of_decide_eq_true (told_at c 0 1)
  have zstr : PySem.W.nsIn K mainGlobals "str" = some none := of_decide_eq_true (told_at c 0 2)
  have zisinstance : PySem.W.nsIn K mainGlobals "isinstance" = some none := of_decide_eq_true (told_at c 0 3)
  have zlen : PySem.W.nsIn K mainGlobals "len" = some none := of_decide_eq_true (told_at c 0 4)
  have zall : PySem.W.nsIn K mainGlobals "all" = some none := of_decide_eq_true (told_at c 0 5)
  have zabs : PySem.W.nsIn K mainGlobals "abs" = some none := of_decide_eq_true (told_at c 0 6)
  have zlist : PySem.W.nsIn K mainGlobals "list" = some none := of_decide_eq_true (told_at c 0 7)
  have ztuple : PySem.W.nsIn K mainGlobals "tuple" = some none := of_decide_eq_true (told_at c 0 8)
  have zset : PySem.W.nsIn K mainGlobals "set" = some none := of_decide_eq_true (told_at c 0 9)
  have zsorted : PySem.W.nsIn K mainGlobals "sorted" = some none := of_decide_eq_true (told_at c 1 0)
  have zdict : PySem.W.nsIn K mainGlobals "dict" = some none := of_decide_eq_true (told_at c 1 1)
  have zrange : PySem.W.nsIn K mainGlobals "range" = some none := of_decide_eq_true (told_at c 1 2)
  have aROWWORDS : PySem.W.nsIn K mainGlobals "ROW_WORDS" = some (some (.ref (He.ga K "ROW_WORDS"))) := of_decide_eq_true (told_at c 1 3)
  have SROWWORDS : ∀ H : Hp, SqT K H (He.ga K "ROW_WORDS") [.str "note", .str "skip", .str "set", .str "keep", .str "back", .str "ref", .str "put", .str "open", .str "part"] := fun H => He.tupB_ok (x := "ROW_WORDS") (vs := [.str "note", .str "skip", .str "set", .str "keep", .str "back", .str "ref", .str "put", .str "open", .str "part"]) (told_at c 1 4) H
  obtain ⟨tkLONGESTNAME, ILONGESTNAME⟩ := He.int_ok X G (x := "LONGEST_NAME") (i := 4) (told_at c 1 5)
  have aisinteger : PySem.W.nsIn K mainGlobals "is_integer" = some (some (.ref (He.ga K "is_integer"))) := of_decide_eq_true (told_at c 1 6)
  obtain ⟨fdisinteger, Yisinteger⟩ := told_fn c 0
  have Xisinteger : Fun K "is_integer" "is_integer" sIsInteger (He.ga K "is_integer") fdisinteger := fun_of Yisinteger
  have aisnumber : PySem.W.nsIn K mainGlobals "is_number" = some (some (.ref (He.ga K "is_number"))) := of_decide_eq_true (told_at c 1 7)
  obtain ⟨fdisnumber, Yisnumber⟩ := told_fn c 1
  have Xisnumber : Fun K "is_number" "is_number" sIsNumber (He.ga K "is_number") fdisnumber := fun_of Yisnumber
  have aisname : PySem.W.nsIn K mainGlobals "is_name" = some (some (.ref (He.ga K "is_name"))) := of_decide_eq_true (told_at c 1 8)
  obtain ⟨fdisname, Yisname⟩ := told_fn c 2
  have Xisname : Fun K "is_name" "is_name" sIsName (He.ga K "is_name") fdisname := fun_of Yisname
  have aNoteError : PySem.W.nsIn K mainGlobals "NoteError" = some (some (.ref (He.ga K "NoteError"))) := of_decide_eq_true (told_at c 1 9)
  have aInvalidRow : PySem.W.nsIn K mainGlobals "InvalidRow" = some (some (.ref (He.ga K "InvalidRow"))) := of_decide_eq_true (told_at c 2 0)
  have xInvalidRow := excQ_ok (K := K) (C := (He.ga K "InvalidRow")) (nid := "ValueError.__new__") (told_at c 2 1)
  have saInvalidRow : PySem.W.findIn K (.ref (He.ga K "InvalidRow")) "__setattr__" = some (some (.builtin "object.__setattr__")) := of_decide_eq_true (told_at c 2 2)
  have gaInvalidRow : PySem.W.findIn K (.ref (He.ga K "InvalidRow")) "__getattribute__" = some (some (.builtin "BaseException.__getattribute__")) := of_decide_eq_true (told_at c 2 3)
  have ggInvalidRow : PySem.W.findIn K (.ref (He.ga K "InvalidRow")) "__getattr__" = some (none) := of_decide_eq_true (told_at c 2 4)
  have nfInvalidRow : PySem.W.findIn K (.ref (He.ga K "InvalidRow")) "word" = some (none) := of_decide_eq_true (told_at c 2 5)
  have inInvalidRow : PySem.W.findIn K (.ref (He.ga K "InvalidRow")) "__init__" = some (some (.ref (He.ma K (He.ga K "InvalidRow") "__init__"))) := of_decide_eq_true (told_at c 2 6)
  have haInvalidRow : PySem.W.findIn K (.ref (He.ga K "InvalidRow")) "__class__" = some (some (.builtin "object.__class__")) := of_decide_eq_true (told_at c 2 7)
  have tiInvalidRow : PySem.W.typeIn K (.ref (He.ma K (He.ga K "InvalidRow") "__init__")) = some (.type "function") := of_decide_eq_true (told_at c 2 8)
  obtain ⟨fdInvalidRow, YInvalidRow⟩ := told_fn c 3
  have XInvalidRow : Fun K "__init__" "InvalidRow.__init__" sIRInit (He.ma K (He.ga K "InvalidRow") "__init__") fdInvalidRow := fun_of YInvalidRow
  have kcInvalidRow : PySem.W.keepIn K (.ref (He.ga K "InvalidRow")) = true := (told_at c 2 9)
  have eCInvalidRow : PySem.W.subIn K (.ref (He.ga K "InvalidRow")) (.type "BaseException") = some true := of_decide_eq_true (told_at c 3 0)
  have tCInvalidRow : PySem.W.typeIn K (.ref (He.ga K "InvalidRow")) = some (.type "type") := of_decide_eq_true (told_at c 3 1)
  have hCInvalidRow : PySem.W.hasDictIn K (He.ga K "InvalidRow") = true := (told_at c 3 2)
  have iCInvalidRow : PySem.W.isClsIn K (He.ga K "InvalidRow") = true := (told_at c 3 3)
  have sCInvalidRow : PySem.W.subIn K (.ref (He.ga K "InvalidRow")) (.ref (He.ga K "InvalidRow")) = some true := of_decide_eq_true (told_at c 3 4)
  have hmInvalidRow : PySem.W.mroIn K (He.ga K "InvalidRow") (.type "object") = some true := of_decide_eq_true (told_at c 3 5)
  have aneedname : PySem.W.nsIn K mainGlobals "need_name" = some (some (.ref (He.ga K "need_name"))) := of_decide_eq_true (told_at c 3 6)
  obtain ⟨fdneedname, Yneedname⟩ := told_fn c 4
  have Xneedname : Fun K "need_name" "need_name" sNeedName (He.ga K "need_name") fdneedname := fun_of Yneedname
  have aNote : PySem.W.nsIn K mainGlobals "Note" = some (some (.ref (He.ga K "Note"))) := of_decide_eq_true (told_at c 3 7)
  have inNote : PySem.W.findIn K (.ref (He.ga K "Note")) "__init__" = some (some (.ref (He.ma K (He.ga K "Note") "__init__"))) := of_decide_eq_true (told_at c 3 8)
  have iNote : PySem.W.isFn K (.ref (He.ma K (He.ga K "Note") "__init__")) = true := (told_at c 3 9)
  obtain ⟨fdNote, YNote⟩ := told_fn c 5
  have FNote : FunD K "__init__" "Note.__init__" (defArgs sNoteInit) (defBody sNoteInit) (defScope sNoteInit) [.str ""] [] (He.ma K (He.ga K "Note") "__init__") fdNote := YNote
  have pgNote : PySem.W.plainGet K (He.ga K "Note") Str.empty = true := (told_at c 4 0)
  have hdNote : PySem.W.hasDictIn K (He.ga K "Note") = true := (told_at c 4 1)
  have poNote : PySem.W.plainOver K (He.ga K "Note") = true := (told_at c 4 2)
  have saNote : PySem.W.findIn K (.ref (He.ga K "Note")) "__setattr__" = some (some (.builtin "object.__setattr__")) := of_decide_eq_true (told_at c 4 3)
  have mkNote : PySem.W.makesIn K (He.ga K "Note") = true := (told_at c 4 4)
  have kcNote : PySem.W.keepIn K (.ref (He.ga K "Note")) = true := (told_at c 4 5)
  have nNote0 : PySem.W.findIn K (.ref (He.ga K "Note")) "word" = some none := of_decide_eq_true (told_at c 4 6)
  have nNote1 : PySem.W.findIn K (.ref (He.ga K "Note")) "counter" = some none := of_decide_eq_true (told_at c 4 7)
  have nNote2 : PySem.W.findIn K (.ref (He.ga K "Note")) "label" = some none := of_decide_eq_true (told_at c 4 8)
  have aSkip : PySem.W.nsIn K mainGlobals "Skip" = some (some (.ref (He.ga K "Skip"))) := of_decide_eq_true (told_at c 4 9)
  have inSkip : PySem.W.findIn K (.ref (He.ga K "Skip")) "__init__" = some (some (.ref (He.ma K (He.ga K "Skip") "__init__"))) := of_decide_eq_true (told_at c 5 0)
  have iSkip : PySem.W.isFn K (.ref (He.ma K (He.ga K "Skip") "__init__")) = true := (told_at c 5 1)
  obtain ⟨fdSkip, YSkip⟩ := told_fn c 6
  have XSkip : Fun K "__init__" "Skip.__init__" sSkipInit (He.ma K (He.ga K "Skip") "__init__") fdSkip := fun_of YSkip
  have pgSkip : PySem.W.plainGet K (He.ga K "Skip") Str.empty = true := (told_at c 5 2)
  have hdSkip : PySem.W.hasDictIn K (He.ga K "Skip") = true := (told_at c 5 3)
  have poSkip : PySem.W.plainOver K (He.ga K "Skip") = true := (told_at c 5 4)
  have saSkip : PySem.W.findIn K (.ref (He.ga K "Skip")) "__setattr__" = some (some (.builtin "object.__setattr__")) := of_decide_eq_true (told_at c 5 5)
  have mkSkip : PySem.W.makesIn K (He.ga K "Skip") = true := (told_at c 5 6)
  have kcSkip : PySem.W.keepIn K (.ref (He.ga K "Skip")) = true := (told_at c 5 7)
  have nSkip0 : PySem.W.findIn K (.ref (He.ga K "Skip")) "word" = some none := of_decide_eq_true (told_at c 5 8)
  have nSkip1 : PySem.W.findIn K (.ref (He.ga K "Skip")) "counter" = some none := of_decide_eq_true (told_at c 5 9)
  have nSkip2 : PySem.W.findIn K (.ref (He.ga K "Skip")) "by" = some none := of_decide_eq_true (told_at c 6 0)
  have aSet : PySem.W.nsIn K mainGlobals "Set" = some (some (.ref (He.ga K "Set"))) := of_decide_eq_true (told_at c 6 1)
  have inSet : PySem.W.findIn K (.ref (He.ga K "Set")) "__init__" = some (some (.ref (He.ma K (He.ga K "Set") "__init__"))) := of_decide_eq_true (told_at c 6 2)
  have iSet : PySem.W.isFn K (.ref (He.ma K (He.ga K "Set") "__init__")) = true := (told_at c 6 3)
  obtain ⟨fdSet, YSet⟩ := told_fn c 7
  have XSet : Fun K "__init__" "Set.__init__" sSetInit (He.ma K (He.ga K "Set") "__init__") fdSet := fun_of YSet
  have pgSet : PySem.W.plainGet K (He.ga K "Set") Str.empty = true := (told_at c 6 4)
  have hdSet : PySem.W.hasDictIn K (He.ga K "Set") = true := (told_at c 6 5)
  have poSet : PySem.W.plainOver K (He.ga K "Set") = true := (told_at c 6 6)
  have saSet : PySem.W.findIn K (.ref (He.ga K "Set")) "__setattr__" = some (some (.builtin "object.__setattr__")) := of_decide_eq_true (told_at c 6 7)
  have mkSet : PySem.W.makesIn K (He.ga K "Set") = true := (told_at c 6 8)
  have kcSet : PySem.W.keepIn K (.ref (He.ga K "Set")) = true := (told_at c 6 9)
  have nSet0 : PySem.W.findIn K (.ref (He.ga K "Set")) "word" = some none := of_decide_eq_true (told_at c 7 0)
  have nSet1 : PySem.W.findIn K (.ref (He.ga K "Set")) "counter" = some none := of_decide_eq_true (told_at c 7 1)
  have nSet2 : PySem.W.findIn K (.ref (He.ga K "Set")) "to" = some none := of_decide_eq_true (told_at c 7 2)
  have aKeep : PySem.W.nsIn K mainGlobals "Keep" = some (some (.ref (He.ga K "Keep"))) := of_decide_eq_true (told_at c 7 3)
  have inKeep : PySem.W.findIn K (.ref (He.ga K "Keep")) "__init__" = some (some (.ref (He.ma K (He.ga K "Keep") "__init__"))) := of_decide_eq_true (told_at c 7 4)
  have iKeep : PySem.W.isFn K (.ref (He.ma K (He.ga K "Keep") "__init__")) = true := (told_at c 7 5)
  obtain ⟨fdKeep, YKeep⟩ := told_fn c 8
  have XKeep : Fun K "__init__" "Keep.__init__" sKeepInit (He.ma K (He.ga K "Keep") "__init__") fdKeep := fun_of YKeep
  have pgKeep : PySem.W.plainGet K (He.ga K "Keep") Str.empty = true := (told_at c 7 6)
  have hdKeep : PySem.W.hasDictIn K (He.ga K "Keep") = true := (told_at c 7 7)
  have poKeep : PySem.W.plainOver K (He.ga K "Keep") = true := (told_at c 7 8)
  have saKeep : PySem.W.findIn K (.ref (He.ga K "Keep")) "__setattr__" = some (some (.builtin "object.__setattr__")) := of_decide_eq_true (told_at c 7 9)
  have mkKeep : PySem.W.makesIn K (He.ga K "Keep") = true := (told_at c 8 0)
  have kcKeep : PySem.W.keepIn K (.ref (He.ga K "Keep")) = true := (told_at c 8 1)
  have nKeep0 : PySem.W.findIn K (.ref (He.ga K "Keep")) "word" = some none := of_decide_eq_true (told_at c 8 2)
  have nKeep1 : PySem.W.findIn K (.ref (He.ga K "Keep")) "counter" = some none := of_decide_eq_true (told_at c 8 3)
  have aRef : PySem.W.nsIn K mainGlobals "Ref" = some (some (.ref (He.ga K "Ref"))) := of_decide_eq_true (told_at c 8 4)
  have inRef : PySem.W.findIn K (.ref (He.ga K "Ref")) "__init__" = some (some (.ref (He.ma K (He.ga K "Ref") "__init__"))) := of_decide_eq_true (told_at c 8 5)
  have iRef : PySem.W.isFn K (.ref (He.ma K (He.ga K "Ref") "__init__")) = true := (told_at c 8 6)
  obtain ⟨fdRef, YRef⟩ := told_fn c 9
  have XRef : Fun K "__init__" "Ref.__init__" sRefInit (He.ma K (He.ga K "Ref") "__init__") fdRef := fun_of YRef
  have pgRef : PySem.W.plainGet K (He.ga K "Ref") Str.empty = true := (told_at c 8 7)
  have hdRef : PySem.W.hasDictIn K (He.ga K "Ref") = true := (told_at c 8 8)
  have poRef : PySem.W.plainOver K (He.ga K "Ref") = true := (told_at c 8 9)
  have saRef : PySem.W.findIn K (.ref (He.ga K "Ref")) "__setattr__" = some (some (.builtin "object.__setattr__")) := of_decide_eq_true (told_at c 9 0)
  have mkRef : PySem.W.makesIn K (He.ga K "Ref") = true := (told_at c 9 1)
  have kcRef : PySem.W.keepIn K (.ref (He.ga K "Ref")) = true := (told_at c 9 2)
  have nRef0 : PySem.W.findIn K (.ref (He.ga K "Ref")) "word" = some none := of_decide_eq_true (told_at c 9 3)
  have nRef1 : PySem.W.findIn K (.ref (He.ga K "Ref")) "label" = some none := of_decide_eq_true (told_at c 9 4)
  have aPut : PySem.W.nsIn K mainGlobals "Put" = some (some (.ref (He.ga K "Put"))) := of_decide_eq_true (told_at c 9 5)
  have inPut : PySem.W.findIn K (.ref (He.ga K "Put")) "__init__" = some (some (.ref (He.ma K (He.ga K "Put") "__init__"))) := of_decide_eq_true (told_at c 9 6)
  have iPut : PySem.W.isFn K (.ref (He.ma K (He.ga K "Put") "__init__")) = true := (told_at c 9 7)
  obtain ⟨fdPut, YPut⟩ := told_fn c 10
  have XPut : Fun K "__init__" "Put.__init__" sPutInit (He.ma K (He.ga K "Put") "__init__") fdPut := fun_of YPut
  have pgPut : PySem.W.plainGet K (He.ga K "Put") Str.empty = true := (told_at c 9 8)
  have hdPut : PySem.W.hasDictIn K (He.ga K "Put") = true := (told_at c 9 9)
  have poPut : PySem.W.plainOver K (He.ga K "Put") = true := (told_at c 10 0)
  have saPut : PySem.W.findIn K (.ref (He.ga K "Put")) "__setattr__" = some (some (.builtin "object.__setattr__")) := of_decide_eq_true (told_at c 10 1)
  have mkPut : PySem.W.makesIn K (He.ga K "Put") = true := (told_at c 10 2)
  have kcPut : PySem.W.keepIn K (.ref (He.ga K "Put")) = true := (told_at c 10 3)
  have nPut0 : PySem.W.findIn K (.ref (He.ga K "Put")) "word" = some none := of_decide_eq_true (told_at c 10 4)
  have nPut1 : PySem.W.findIn K (.ref (He.ga K "Put")) "part" = some none := of_decide_eq_true (told_at c 10 5)
  have aOpen : PySem.W.nsIn K mainGlobals "Open" = some (some (.ref (He.ga K "Open"))) := of_decide_eq_true (told_at c 10 6)
  have inOpen : PySem.W.findIn K (.ref (He.ga K "Open")) "__init__" = some (some (.ref (He.ma K (He.ga K "Open") "__init__"))) := of_decide_eq_true (told_at c 10 7)
  have iOpen : PySem.W.isFn K (.ref (He.ma K (He.ga K "Open") "__init__")) = true := (told_at c 10 8)
  obtain ⟨fdOpen, YOpen⟩ := told_fn c 11
  have XOpen : Fun K "__init__" "Open.__init__" sOpenInit (He.ma K (He.ga K "Open") "__init__") fdOpen := fun_of YOpen
  have pgOpen : PySem.W.plainGet K (He.ga K "Open") Str.empty = true := (told_at c 10 9)
  have hdOpen : PySem.W.hasDictIn K (He.ga K "Open") = true := (told_at c 11 0)
  have poOpen : PySem.W.plainOver K (He.ga K "Open") = true := (told_at c 11 1)
  have saOpen : PySem.W.findIn K (.ref (He.ga K "Open")) "__setattr__" = some (some (.builtin "object.__setattr__")) := of_decide_eq_true (told_at c 11 2)
  have mkOpen : PySem.W.makesIn K (He.ga K "Open") = true := (told_at c 11 3)
  have kcOpen : PySem.W.keepIn K (.ref (He.ga K "Open")) = true := (told_at c 11 4)
  have nOpen0 : PySem.W.findIn K (.ref (He.ga K "Open")) "word" = some none := of_decide_eq_true (told_at c 11 5)
  have nOpen1 : PySem.W.findIn K (.ref (He.ga K "Open")) "name" = some none := of_decide_eq_true (told_at c 11 6)
  have aInvalidFilling : PySem.W.nsIn K mainGlobals "InvalidFilling" = some (some (.ref (He.ga K "InvalidFilling"))) := of_decide_eq_true (told_at c 11 7)
  have xInvalidFilling := excQ_ok (K := K) (C := (He.ga K "InvalidFilling")) (nid := "ValueError.__new__") (told_at c 11 8)
  have saInvalidFilling : PySem.W.findIn K (.ref (He.ga K "InvalidFilling")) "__setattr__" = some (some (.builtin "object.__setattr__")) := of_decide_eq_true (told_at c 11 9)
  have gaInvalidFilling : PySem.W.findIn K (.ref (He.ga K "InvalidFilling")) "__getattribute__" = some (some (.builtin "BaseException.__getattribute__")) := of_decide_eq_true (told_at c 12 0)
  have ggInvalidFilling : PySem.W.findIn K (.ref (He.ga K "InvalidFilling")) "__getattr__" = some (none) := of_decide_eq_true (told_at c 12 1)
  have nfInvalidFilling : PySem.W.findIn K (.ref (He.ga K "InvalidFilling")) "word" = some (none) := of_decide_eq_true (told_at c 12 2)
  have inInvalidFilling : PySem.W.findIn K (.ref (He.ga K "InvalidFilling")) "__init__" = some (some (.ref (He.ma K (He.ga K "InvalidFilling") "__init__"))) := of_decide_eq_true (told_at c 12 3)
  have haInvalidFilling : PySem.W.findIn K (.ref (He.ga K "InvalidFilling")) "__class__" = some (some (.builtin "object.__class__")) := of_decide_eq_true (told_at c 12 4)
  have tiInvalidFilling : PySem.W.typeIn K (.ref (He.ma K (He.ga K "InvalidFilling") "__init__")) = some (.type "function") := of_decide_eq_true (told_at c 12 5)
  obtain ⟨fdInvalidFilling, YInvalidFilling⟩ := told_fn c 12
  have XInvalidFilling : Fun K "__init__" "InvalidFilling.__init__" sIFInit (He.ma K (He.ga K "InvalidFilling") "__init__") fdInvalidFilling := fun_of YInvalidFilling
  have kcInvalidFilling : PySem.W.keepIn K (.ref (He.ga K "InvalidFilling")) = true := (told_at c 12 6)
  have eCInvalidFilling : PySem.W.subIn K (.ref (He.ga K "InvalidFilling")) (.type "BaseException") = some true := of_decide_eq_true (told_at c 12 7)
  have tCInvalidFilling : PySem.W.typeIn K (.ref (He.ga K "InvalidFilling")) = some (.type "type") := of_decide_eq_true (told_at c 12 8)
  have hCInvalidFilling : PySem.W.hasDictIn K (He.ga K "InvalidFilling") = true := (told_at c 12 9)
  have iCInvalidFilling : PySem.W.isClsIn K (He.ga K "InvalidFilling") = true := (told_at c 13 0)
  have sCInvalidFilling : PySem.W.subIn K (.ref (He.ga K "InvalidFilling")) (.ref (He.ga K "InvalidFilling")) = some true := of_decide_eq_true (told_at c 13 1)
  have hmInvalidFilling : PySem.W.mroIn K (He.ga K "InvalidFilling") (.type "object") = some true := of_decide_eq_true (told_at c 13 2)
  have aFilling : PySem.W.nsIn K mainGlobals "Filling" = some (some (.ref (He.ga K "Filling"))) := of_decide_eq_true (told_at c 13 3)
  have inFilling : PySem.W.findIn K (.ref (He.ga K "Filling")) "__init__" = some (some (.ref (He.ma K (He.ga K "Filling") "__init__"))) := of_decide_eq_true (told_at c 13 4)
  have iFilling : PySem.W.isFn K (.ref (He.ma K (He.ga K "Filling") "__init__")) = true := (told_at c 13 5)
  have SDFilling : ∀ H : Hp, SqT K H (He.dflAt ("Filling", some "__init__") 0 K) [] := fun H => tupQ_ok (vs := []) (told_at c 13 6) H
  obtain ⟨fdFilling, YFilling⟩ := told_fn c 13
  have FFilling : FunD K "__init__" "Filling.__init__" (defArgs sFInit) (defBody sFInit) (defScope sFInit) [.ref (He.dflAt ("Filling", some "__init__") 0 K)] [] (He.ma K (He.ga K "Filling") "__init__") fdFilling := YFilling
  have pgFilling : PySem.W.plainGet K (He.ga K "Filling") Str.empty = true := (told_at c 13 7)
  have hdFilling : PySem.W.hasDictIn K (He.ga K "Filling") = true := (told_at c 13 8)
  have poFilling : PySem.W.plainOver K (He.ga K "Filling") = true := (told_at c 13 9)
  have saFilling : PySem.W.findIn K (.ref (He.ga K "Filling")) "__setattr__" = some (some (.builtin "object.__setattr__")) := of_decide_eq_true (told_at c 14 0)
  have mkFilling : PySem.W.makesIn K (He.ga K "Filling") = true := (told_at c 14 1)
  have kcFilling : PySem.W.keepIn K (.ref (He.ga K "Filling")) = true := (told_at c 14 2)
  have nFilling0 : PySem.W.findIn K (.ref (He.ga K "Filling")) "filled" = some none := of_decide_eq_true (told_at c 14 3)
  have aissequence : PySem.W.nsIn K mainGlobals "is_sequence" = some (some (.ref (He.ga K "is_sequence"))) := of_decide_eq_true (told_at c 14 4)
  obtain ⟨fdissequence, Yissequence⟩ := told_fn c 14
  have Xissequence : Fun K "is_sequence" "is_sequence" sIsSeq (He.ga K "is_sequence") fdissequence := fun_of Yissequence
  have aispair : PySem.W.nsIn K mainGlobals "is_pair" = some (some (.ref (He.ga K "is_pair"))) := of_decide_eq_true (told_at c 14 5)
  obtain ⟨fdispair, Yispair⟩ := told_fn c 15
  have Xispair : Fun K "is_pair" "is_pair" sIsPairF (He.ga K "is_pair") fdispair := fun_of Yispair
  have aarefillable : PySem.W.nsIn K mainGlobals "are_fillable" = some (some (.ref (He.ga K "are_fillable"))) := of_decide_eq_true (told_at c 14 6)
  obtain ⟨fdarefillable, Yarefillable⟩ := told_fn c 16
  have Xarefillable : Fun K "are_fillable" "are_fillable" sAreFill (He.ga K "are_fillable") fdarefillable := fun_of Yarefillable
  have aisfilled : PySem.W.nsIn K mainGlobals "is_filled" = some (some (.ref (He.ga K "is_filled"))) := of_decide_eq_true (told_at c 14 7)
  obtain ⟨fdisfilled, Yisfilled⟩ := told_fn c 17
  have Xisfilled : Fun K "is_filled" "is_filled" sIsFilled (He.ga K "is_filled") fdisfilled := fun_of Yisfilled
  have alawdeal : PySem.W.nsIn K mainGlobals "_law_deal" = some (some (.ref (He.ga K "_law_deal"))) := of_decide_eq_true (told_at c 14 8)
  obtain ⟨fdlawdeal, Ylawdeal⟩ := told_fn c 18
  have Xlawdeal : Fun K "_law_deal" "_law_deal" sDeal (He.ga K "_law_deal") fdlawdeal := fun_of Ylawdeal
  have alawdraw : PySem.W.nsIn K mainGlobals "_law_draw" = some (some (.ref (He.ga K "_law_draw"))) := of_decide_eq_true (told_at c 14 9)
  obtain ⟨fdlawdraw, Ylawdraw⟩ := told_fn c 19
  have Xlawdraw : Fun K "_law_draw" "_law_draw" sDraw (He.ga K "_law_draw") fdlawdraw := fun_of Ylawdraw
  have alawpick : PySem.W.nsIn K mainGlobals "_law_pick" = some (some (.ref (He.ga K "_law_pick"))) := of_decide_eq_true (told_at c 15 0)
  obtain ⟨fdlawpick, Ylawpick⟩ := told_fn c 20
  have Xlawpick : Fun K "_law_pick" "_law_pick" sPick (He.ga K "_law_pick") fdlawpick := fun_of Ylawpick
  have alawmixed : PySem.W.nsIn K mainGlobals "_law_mixed" = some (some (.ref (He.ga K "_law_mixed"))) := of_decide_eq_true (told_at c 15 1)
  obtain ⟨fdlawmixed, Ylawmixed⟩ := told_fn c 21
  have Xlawmixed : Fun K "_law_mixed" "_law_mixed" sMixed (He.ga K "_law_mixed") fdlawmixed := fun_of Ylawmixed
  have alawnames : PySem.W.nsIn K mainGlobals "_law_names" = some (some (.ref (He.ga K "_law_names"))) := of_decide_eq_true (told_at c 15 2)
  obtain ⟨fdlawnames, Ylawnames⟩ := told_fn c 22
  have Xlawnames : Fun K "_law_names" "_law_names" sNames (He.ga K "_law_names") fdlawnames := fun_of Ylawnames
  have alawword : PySem.W.nsIn K mainGlobals "_law_word" = some (some (.ref (He.ga K "_law_word"))) := of_decide_eq_true (told_at c 15 3)
  obtain ⟨fdlawword, Ylawword⟩ := told_fn c 23
  have Xlawword : Fun K "_law_word" "_law_word" sWord18 (He.ga K "_law_word") fdlawword := fun_of Ylawword
  have alaw : PySem.W.nsIn K mainGlobals "law" = some (some (.ref (He.ga K "law"))) := of_decide_eq_true (told_at c 15 4)
  obtain ⟨fdlaw, Ylaw⟩ := told_fn c 24
  have Xlaw : Fun K "law" "law" sLaw18 (He.ga K "law") fdlaw := fun_of Ylaw
  have hnGet : PySem.W.specialIn K (.builtin "object.__class__") "__get__" = some (some (.builtin "getset_descriptor.__get__")) := of_decide_eq_true (told_at c 15 5)
  have htGet : PySem.W.takesIn K (.builtin "object.__class__") = some true := of_decide_eq_true (told_at c 15 6)
  have kfNote : PySem.W.kitAny K (.ref (He.ga K "Note")) [.ref (He.ga K "Skip"), .ref (He.ga K "Set")] = some false := of_decide_eq_true (told_at c 15 7)
  have ksNote : PySem.W.kitAny K (.ref (He.ga K "Note")) [.type "list", .type "tuple"] = some false := of_decide_eq_true (told_at c 15 8)
  have cANote : PySem.W.findIn K (.ref (He.ga K "Note")) "__class__" = some (some (.builtin "object.__class__")) := of_decide_eq_true (told_at c 15 9)
  have cMNote : PySem.W.mroIn K (He.ga K "Note") (.type "object") = some true := of_decide_eq_true (told_at c 16 0)
  have kfSkip : PySem.W.kitAny K (.ref (He.ga K "Skip")) [.ref (He.ga K "Skip"), .ref (He.ga K "Set")] = some true := of_decide_eq_true (told_at c 16 1)
  have ksSkip : PySem.W.kitAny K (.ref (He.ga K "Skip")) [.type "list", .type "tuple"] = some false := of_decide_eq_true (told_at c 16 2)
  have cASkip : PySem.W.findIn K (.ref (He.ga K "Skip")) "__class__" = some (some (.builtin "object.__class__")) := of_decide_eq_true (told_at c 16 3)
  have cMSkip : PySem.W.mroIn K (He.ga K "Skip") (.type "object") = some true := of_decide_eq_true (told_at c 16 4)
  have kfSet : PySem.W.kitAny K (.ref (He.ga K "Set")) [.ref (He.ga K "Skip"), .ref (He.ga K "Set")] = some true := of_decide_eq_true (told_at c 16 5)
  have ksSet : PySem.W.kitAny K (.ref (He.ga K "Set")) [.type "list", .type "tuple"] = some false := of_decide_eq_true (told_at c 16 6)
  have cASet : PySem.W.findIn K (.ref (He.ga K "Set")) "__class__" = some (some (.builtin "object.__class__")) := of_decide_eq_true (told_at c 16 7)
  have cMSet : PySem.W.mroIn K (He.ga K "Set") (.type "object") = some true := of_decide_eq_true (told_at c 16 8)
  have kfKeep : PySem.W.kitAny K (.ref (He.ga K "Keep")) [.ref (He.ga K "Skip"), .ref (He.ga K "Set")] = some false := of_decide_eq_true (told_at c 16 9)
  have ksKeep : PySem.W.kitAny K (.ref (He.ga K "Keep")) [.type "list", .type "tuple"] = some false := of_decide_eq_true (told_at c 17 0)
  have cAKeep : PySem.W.findIn K (.ref (He.ga K "Keep")) "__class__" = some (some (.builtin "object.__class__")) := of_decide_eq_true (told_at c 17 1)
  have cMKeep : PySem.W.mroIn K (He.ga K "Keep") (.type "object") = some true := of_decide_eq_true (told_at c 17 2)
  have kfRef : PySem.W.kitAny K (.ref (He.ga K "Ref")) [.ref (He.ga K "Skip"), .ref (He.ga K "Set")] = some false := of_decide_eq_true (told_at c 17 3)
  have ksRef : PySem.W.kitAny K (.ref (He.ga K "Ref")) [.type "list", .type "tuple"] = some false := of_decide_eq_true (told_at c 17 4)
  have cARef : PySem.W.findIn K (.ref (He.ga K "Ref")) "__class__" = some (some (.builtin "object.__class__")) := of_decide_eq_true (told_at c 17 5)
  have cMRef : PySem.W.mroIn K (He.ga K "Ref") (.type "object") = some true := of_decide_eq_true (told_at c 17 6)
  have kfPut : PySem.W.kitAny K (.ref (He.ga K "Put")) [.ref (He.ga K "Skip"), .ref (He.ga K "Set")] = some false := of_decide_eq_true (told_at c 17 7)
  have ksPut : PySem.W.kitAny K (.ref (He.ga K "Put")) [.type "list", .type "tuple"] = some false := of_decide_eq_true (told_at c 17 8)
  have cAPut : PySem.W.findIn K (.ref (He.ga K "Put")) "__class__" = some (some (.builtin "object.__class__")) := of_decide_eq_true (told_at c 17 9)
  have cMPut : PySem.W.mroIn K (He.ga K "Put") (.type "object") = some true := of_decide_eq_true (told_at c 18 0)
  have kfOpen : PySem.W.kitAny K (.ref (He.ga K "Open")) [.ref (He.ga K "Skip"), .ref (He.ga K "Set")] = some false := of_decide_eq_true (told_at c 18 1)
  have ksOpen : PySem.W.kitAny K (.ref (He.ga K "Open")) [.type "list", .type "tuple"] = some false := of_decide_eq_true (told_at c 18 2)
  have cAOpen : PySem.W.findIn K (.ref (He.ga K "Open")) "__class__" = some (some (.builtin "object.__class__")) := of_decide_eq_true (told_at c 18 3)
  have cMOpen : PySem.W.mroIn K (He.ga K "Open") (.type "object") = some true := of_decide_eq_true (told_at c 18 4)
  have kdNoneType : PySem.W.kitAny K (.type "NoneType") [.ref (He.ga K "Skip"), .ref (He.ga K "Set")] = some false := of_decide_eq_true (told_at c 18 5)
  have kdbool : PySem.W.kitAny K (.type "bool") [.ref (He.ga K "Skip"), .ref (He.ga K "Set")] = some false := of_decide_eq_true (told_at c 18 6)
  have kdint : PySem.W.kitAny K (.type "int") [.ref (He.ga K "Skip"), .ref (He.ga K "Set")] = some false := of_decide_eq_true (told_at c 18 7)
  have kdstr : PySem.W.kitAny K (.type "str") [.ref (He.ga K "Skip"), .ref (He.ga K "Set")] = some false := of_decide_eq_true (told_at c 18 8)
  have kdlist : PySem.W.kitAny K (.type "list") [.ref (He.ga K "Skip"), .ref (He.ga K "Set")] = some false := of_decide_eq_true (told_at c 18 9)
  have kdtuple : PySem.W.kitAny K (.type "tuple") [.ref (He.ga K "Skip"), .ref (He.ga K "Set")] = some false := of_decide_eq_true (told_at c 19 0)
  have kddict : PySem.W.kitAny K (.type "dict") [.ref (He.ga K "Skip"), .ref (He.ga K "Set")] = some false := of_decide_eq_true (told_at c 19 1)
  have kCN : PySem.W.kitOne K (.ref (He.ga K "InvalidFilling")) (.ref (He.ga K "NoteError")) = some true := of_decide_eq_true (told_at c 19 2)
  have kIR : PySem.W.kitOne K (.ref (He.ga K "InvalidFilling")) (.ref (He.ga K "InvalidRow")) = some false := of_decide_eq_true (told_at c 19 3)
  have kFil : PySem.W.kitAny K (.ref (He.ga K "Filling")) [.type "list", .type "tuple"] = some false := of_decide_eq_true (told_at c 19 4)
  have cAF : PySem.W.findIn K (.ref (He.ga K "Filling")) "__class__" = some (some (.builtin "object.__class__")) := of_decide_eq_true (told_at c 19 5)
  have cMF : PySem.W.mroIn K (He.ga K "Filling") (.type "object") = some true := of_decide_eq_true (told_at c 19 6)
  have e := hfa.symm.trans (PySem.W.mg_of X G alaw)
  cases e
  have Mint : mg "int" = none := PySem.W.mg_none_of X G zint
  have Mbool : mg "bool" = none := PySem.W.mg_none_of X G zbool
  have Mstr : mg "str" = none := PySem.W.mg_none_of X G zstr
  have Misinstance : mg "isinstance" = none := PySem.W.mg_none_of X G zisinstance
  have Mlen : mg "len" = none := PySem.W.mg_none_of X G zlen
  have Mall : mg "all" = none := PySem.W.mg_none_of X G zall
  have Mabs : mg "abs" = none := PySem.W.mg_none_of X G zabs
  have Mlist : mg "list" = none := PySem.W.mg_none_of X G zlist
  have Mtuple : mg "tuple" = none := PySem.W.mg_none_of X G ztuple
  have Mset : mg "set" = none := PySem.W.mg_none_of X G zset
  have Msorted : mg "sorted" = none := PySem.W.mg_none_of X G zsorted
  have Mdict : mg "dict" = none := PySem.W.mg_none_of X G zdict
  have Mrange : mg "range" = none := PySem.W.mg_none_of X G zrange
  let Disinteger : At K mg "is_integer" sIsInteger ["value"] := ⟨(He.ga K "is_integer"), _, Xisinteger, Xisinteger.binds (ps := ["value"]) fun _ _ _ _ _ _ us hl => match us, hl with | [_], _ => rfl, PySem.W.mg_of X G aisinteger⟩
  let Disnumber : At K mg "is_number" sIsNumber ["value"] := ⟨(He.ga K "is_number"), _, Xisnumber, Xisnumber.binds (ps := ["value"]) fun _ _ _ _ _ _ us hl => match us, hl with | [_], _ => rfl, PySem.W.mg_of X G aisnumber⟩
  let Disname : At K mg "is_name" sIsName ["value"] := ⟨(He.ga K "is_name"), _, Xisname, Xisname.binds (ps := ["value"]) fun _ _ _ _ _ _ us hl => match us, hl with | [_], _ => rfl, PySem.W.mg_of X G aisname⟩
  have OInvalidRow : OexC K (He.ga K "InvalidRow") := ⟨xInvalidRow, saInvalidRow, eCInvalidRow, tCInvalidRow, kcInvalidRow⟩
  let EInvalidRow : TExc K mg "InvalidRow" "InvalidRow.__init__" "word" sIRInit := { C := (He.ga K "InvalidRow"), fI := (He.ma K (He.ga K "InvalidRow") "__init__"), fd := _, F := XInvalidRow, b := XInvalidRow.binds (ps := ["self", "word"]) fun _ _ _ _ _ _ us hl => match us, hl with | [_, _], _ => rfl, m := PySem.W.mg_of X G aInvalidRow, O := OInvalidRow, iC := inInvalidRow, tI := tiInvalidRow, noF := nfInvalidRow, E := ⟨gaInvalidRow, ggInvalidRow, eCInvalidRow, hCInvalidRow, haInvalidRow, hnGet, htGet, hmInvalidRow⟩, isC := iCInvalidRow, te := PySem.W.exm_ref eCInvalidRow hCInvalidRow tCInvalidRow sCInvalidRow, xf := ⟨gaInvalidRow, ggInvalidRow, eCInvalidRow, hCInvalidRow⟩ }
  let Dneedname : At K mg "need_name" sNeedName ["value", "word"] := ⟨(He.ga K "need_name"), _, Xneedname, Xneedname.binds (ps := ["value", "word"]) fun _ _ _ _ _ _ us hl => match us, hl with | [_, _], _ => rfl, PySem.W.mg_of X G aneedname⟩
  have OInvalidFilling : OexC K (He.ga K "InvalidFilling") := ⟨xInvalidFilling, saInvalidFilling, eCInvalidFilling, tCInvalidFilling, kcInvalidFilling⟩
  let EInvalidFilling : TExc K mg "InvalidFilling" "InvalidFilling.__init__" "word" sIFInit := { C := (He.ga K "InvalidFilling"), fI := (He.ma K (He.ga K "InvalidFilling") "__init__"), fd := _, F := XInvalidFilling, b := XInvalidFilling.binds (ps := ["self", "word"]) fun _ _ _ _ _ _ us hl => match us, hl with | [_, _], _ => rfl, m := PySem.W.mg_of X G aInvalidFilling, O := OInvalidFilling, iC := inInvalidFilling, tI := tiInvalidFilling, noF := nfInvalidFilling, E := ⟨gaInvalidFilling, ggInvalidFilling, eCInvalidFilling, hCInvalidFilling, haInvalidFilling, hnGet, htGet, hmInvalidFilling⟩, isC := iCInvalidFilling, te := PySem.W.exm_ref eCInvalidFilling hCInvalidFilling tCInvalidFilling sCInvalidFilling, xf := ⟨gaInvalidFilling, ggInvalidFilling, eCInvalidFilling, hCInvalidFilling⟩ }
  obtain ⟨dsFilling0, vFilling0, bFilling0⟩ := FFilling.binds1 (ps := ["self", "parts"]) 1 0 (by simp) rfl fun _ _ _ _ _ _ _ us its hl hi => match us, its, hl, hi with | [_], [_], _, _ => ⟨_, rfl, rfl⟩
  obtain ⟨dsFilling1, vFilling1, bFilling1⟩ := FFilling.binds1 (ps := ["self", "parts"]) 2 1 (by simp) rfl fun _ _ _ _ _ _ _ us its hl hi => match us, its, hl, hi with | [_, _], [_], _, _ => ⟨_, rfl, rfl⟩
  have eFilling : dsFilling1 = [] := by cases vFilling1; rfl
  subst eFilling
  let Dissequence : At K mg "is_sequence" sIsSeq ["value"] := ⟨(He.ga K "is_sequence"), _, Xissequence, Xissequence.binds (ps := ["value"]) fun _ _ _ _ _ _ us hl => match us, hl with | [_], _ => rfl, PySem.W.mg_of X G aissequence⟩
  let Dispair : At K mg "is_pair" sIsPairF ["value"] := ⟨(He.ga K "is_pair"), _, Xispair, Xispair.binds (ps := ["value"]) fun _ _ _ _ _ _ us hl => match us, hl with | [_], _ => rfl, PySem.W.mg_of X G aispair⟩
  let Darefillable : At K mg "are_fillable" sAreFill ["rows"] := ⟨(He.ga K "are_fillable"), _, Xarefillable, Xarefillable.binds (ps := ["rows"]) fun _ _ _ _ _ _ us hl => match us, hl with | [_], _ => rfl, PySem.W.mg_of X G aarefillable⟩
  let Disfilled : At K mg "is_filled" sIsFilled ["value"] := ⟨(He.ga K "is_filled"), _, Xisfilled, Xisfilled.binds (ps := ["value"]) fun _ _ _ _ _ _ us hl => match us, hl with | [_], _ => rfl, PySem.W.mg_of X G aisfilled⟩
  let Dlawdeal : At K mg "_law_deal" sDeal ["_law_script"] := ⟨(He.ga K "_law_deal"), _, Xlawdeal, Xlawdeal.binds (ps := ["_law_script"]) fun _ _ _ _ _ _ us hl => match us, hl with | [_], _ => rfl, PySem.W.mg_of X G alawdeal⟩
  let Dlawdraw : At K mg "_law_draw" sDraw ["_law_deal_here", "_law_many"] := ⟨(He.ga K "_law_draw"), _, Xlawdraw, Xlawdraw.binds (ps := ["_law_deal_here", "_law_many"]) fun _ _ _ _ _ _ us hl => match us, hl with | [_, _], _ => rfl, PySem.W.mg_of X G alawdraw⟩
  let Dlawpick : At K mg "_law_pick" sPick ["_law_deal_here", "_law_some"] := ⟨(He.ga K "_law_pick"), _, Xlawpick, Xlawpick.binds (ps := ["_law_deal_here", "_law_some"]) fun _ _ _ _ _ _ us hl => match us, hl with | [_, _], _ => rfl, PySem.W.mg_of X G alawpick⟩
  let Dlawmixed : At K mg "_law_mixed" sMixed ["_law_deal_here", "_law_some"] := ⟨(He.ga K "_law_mixed"), _, Xlawmixed, Xlawmixed.binds (ps := ["_law_deal_here", "_law_some"]) fun _ _ _ _ _ _ us hl => match us, hl with | [_, _], _ => rfl, PySem.W.mg_of X G alawmixed⟩
  let Dlawnames : At K mg "_law_names" sNames ["_law_deal_here", "_law_many"] := ⟨(He.ga K "_law_names"), _, Xlawnames, Xlawnames.binds (ps := ["_law_deal_here", "_law_many"]) fun _ _ _ _ _ _ us hl => match us, hl with | [_, _], _ => rfl, PySem.W.mg_of X G alawnames⟩
  let Dlawword : At K mg "_law_word" sWord18 ["_law_parts"] := ⟨(He.ga K "_law_word"), _, Xlawword, Xlawword.binds (ps := ["_law_parts"]) fun _ _ _ _ _ _ us hl => match us, hl with | [_], _ => rfl, PySem.W.mg_of X G alawword⟩
  let N : TNeed K mg := { mInt := Mint, mBool := Mbool, mStr := Mstr, mIsi := Misinstance, mLen := Mlen, mAll := Mall, words := (He.ga K "ROW_WORDS"), mWords := PySem.W.mg_of X G aROWWORDS, hWords := SROWWORDS, tok := tkLONGESTNAME, mLong := ILONGESTNAME, isInteger := Disinteger, isNumber := Disnumber, isName := Disname, IR := EInvalidRow, need := Dneedname }
  have FN := FNote
  obtain ⟨dsN, vN, bN⟩ := FN.binds1 (ps := ["self", "counter", "label"]) 3 1 (by simp) rfl fun _ _ _ _ _ _ _ us its hl hi => match us, its, hl, hi with | [_, _, _], [_], _, _ => ⟨_, rfl, rfl⟩
  have eN : dsN = [] := by cases vN; rfl
  subst eN
  obtain ⟨dsM, vM, bM⟩ := FN.binds1 (ps := ["self", "counter", "label"]) 2 0 (by simp) rfl fun _ _ _ _ _ _ _ us its hl hi => match us, its, hl, hi with | [_, _], [_], _, _ => ⟨_, rfl, rfl⟩
  let KNote : TNote K mg := { C := (He.ga K "Note"), fI := (He.ma K (He.ga K "Note") "__init__"), fd := _, F := FN, b := bN, m := PySem.W.mg_of X G aNote, M := ⟨mkNote, inNote, iNote, kcNote⟩, cl := ⟨pgNote, hdNote, poNote, saNote⟩, noW := nNote0, noC := nNote1, noL := nNote2 }
  let KSkip : TSkip K mg := { C := (He.ga K "Skip"), fI := (He.ma K (He.ga K "Skip") "__init__"), fd := _, F := XSkip, b := (XSkip).binds (ps := ["self", "counter", "by"]) fun _ _ _ _ _ _ us hl => match us, hl with | [_, _, _], _ => rfl, m := PySem.W.mg_of X G aSkip, M := ⟨mkSkip, inSkip, iSkip, kcSkip⟩, cl := ⟨pgSkip, hdSkip, poSkip, saSkip⟩, noW := nSkip0, noC := nSkip1, noF := nSkip2 }
  let KSet : TSet K mg := { C := (He.ga K "Set"), fI := (He.ma K (He.ga K "Set") "__init__"), fd := _, F := XSet, b := (XSet).binds (ps := ["self", "counter", "to"]) fun _ _ _ _ _ _ us hl => match us, hl with | [_, _, _], _ => rfl, m := PySem.W.mg_of X G aSet, M := ⟨mkSet, inSet, iSet, kcSet⟩, cl := ⟨pgSet, hdSet, poSet, saSet⟩, noW := nSet0, noC := nSet1, noF := nSet2 }
  let KKeep : TKeep K mg := { C := (He.ga K "Keep"), fI := (He.ma K (He.ga K "Keep") "__init__"), fd := _, F := XKeep, b := (XKeep).binds (ps := ["self", "counter"]) fun _ _ _ _ _ _ us hl => match us, hl with | [_, _], _ => rfl, m := PySem.W.mg_of X G aKeep, M := ⟨mkKeep, inKeep, iKeep, kcKeep⟩, cl := ⟨pgKeep, hdKeep, poKeep, saKeep⟩, noW := nKeep0, noF := nKeep1 }
  let KBack : TBack K mg := { C := (He.ga K "Keep"), fI := (He.ma K (He.ga K "Keep") "__init__"), fd := _, F := XKeep, b := (XKeep).binds (ps := ["self", "counter"]) fun _ _ _ _ _ _ us hl => match us, hl with | [_, _], _ => rfl, m := PySem.W.mg_of X G aKeep, M := ⟨mkKeep, inKeep, iKeep, kcKeep⟩, cl := ⟨pgKeep, hdKeep, poKeep, saKeep⟩, noW := nKeep0, noF := nKeep1 }
  let KRef : TRef K mg := { C := (He.ga K "Ref"), fI := (He.ma K (He.ga K "Ref") "__init__"), fd := _, F := XRef, b := (XRef).binds (ps := ["self", "label"]) fun _ _ _ _ _ _ us hl => match us, hl with | [_, _], _ => rfl, m := PySem.W.mg_of X G aRef, M := ⟨mkRef, inRef, iRef, kcRef⟩, cl := ⟨pgRef, hdRef, poRef, saRef⟩, noW := nRef0, noF := nRef1 }
  let KPut : TPut K mg := { C := (He.ga K "Put"), fI := (He.ma K (He.ga K "Put") "__init__"), fd := _, F := XPut, b := (XPut).binds (ps := ["self", "part"]) fun _ _ _ _ _ _ us hl => match us, hl with | [_, _], _ => rfl, m := PySem.W.mg_of X G aPut, M := ⟨mkPut, inPut, iPut, kcPut⟩, cl := ⟨pgPut, hdPut, poPut, saPut⟩, noW := nPut0, noF := nPut1 }
  let KOpen : TOpen K mg := { C := (He.ga K "Open"), fI := (He.ma K (He.ga K "Open") "__init__"), fd := _, F := XOpen, b := (XOpen).binds (ps := ["self", "name"]) fun _ _ _ _ _ _ us hl => match us, hl with | [_, _], _ => rfl, m := PySem.W.mg_of X G aOpen, M := ⟨mkOpen, inOpen, iOpen, kcOpen⟩, cl := ⟨pgOpen, hdOpen, poOpen, saOpen⟩, noW := nOpen0, noF := nOpen1 }
  let R : TRows K mg := { N := N, note := KNote, skip := KSkip, set := KSet, keep := KKeep, back := KBack, ref := KRef, put := KPut, open_ := KOpen }
  let FL : TFil R := { kF := fun r => match r with | .note _ _ => kfNote | .skip _ _ => kfSkip | .set _ _ => kfSet | .keep _ => kfKeep | .back _ => kfKeep | .ref _ => kfRef | .put _ => kfPut | .opn _ => kfOpen, kD := fun d => match d with | .none => kdNoneType | .bool _ => kdbool | .int _ => kdint | .str _ => kdstr | .list _ => kdlist | .tuple _ => kdtuple | .dict _ => kddict, kS := fun r => match r with | .note _ _ => ksNote | .skip _ _ => ksSkip | .set _ _ => ksSet | .keep _ => ksKeep | .back _ => ksKeep | .ref _ => ksRef | .put _ => ksPut | .opn _ => ksOpen, cA := fun r => match r with | .note _ _ => cANote | .skip _ _ => cASkip | .set _ _ => cASet | .keep _ => cAKeep | .back _ => cAKeep | .ref _ => cARef | .put _ => cAPut | .opn _ => cAOpen, cN := hnGet, cT := htGet, cM := fun r => match r with | .note _ _ => cMNote | .skip _ _ => cMSkip | .set _ _ => cMSet | .keep _ => cMKeep | .back _ => cMKeep | .ref _ => cMRef | .put _ => cMPut | .opn _ => cMOpen, mList := Mlist, mTup := Mtuple, isSeq := Dissequence, isPair := Dispair, areF := Darefillable, isF := Disfilled }
  let FF : TFill R := { toTFil := FL, mSet := Mset, mSorted := Msorted, mDict := Mdict, IF := EInvalidFilling, C := (He.ga K "Filling"), mC := PySem.W.mg_of X G aFilling, fI := (He.ma K (He.ga K "Filling") "__init__"), fdI := _, dP := (He.dflAt ("Filling", some "__init__") 0 K), hP := SDFilling, FI := FFilling, bI := bFilling1, M := ⟨mkFilling, inFilling, iFilling, kcFilling⟩, cl := ⟨pgFilling, hdFilling, poFilling, saFilling⟩, noF := nFilling0 }
  let DC : TDealC K mg := { mI := Mint, mA := Mabs, mL := Mlen, mLs := Mlist, deal := Dlawdeal, draw := Dlawdraw, pick := Dlawpick, mixed := Dlawmixed, names := Dlawnames }
  let T : TK18 K mg := { R := R, F := FF, D := DC, CN := (He.ga K "NoteError"), mCN := PySem.W.mg_of X G aNoteError, kCN := kCN, kIR := kIR, dN := dsM, vN := vM, bN := bM, mR := Mrange, kFil := kFil, cAF := cAF, cMF := cMF, word := Dlawword }
  have Flaw : FunD K "law" "law" (defArgs sLaw18) (defBody sLaw18) (defScope sLaw18) [] [] (He.ga K "law") fdlaw := Ylaw
  have blaw := FunD.bindsA (ps := ["_law_script"]) Flaw fun _ _ _ _ _ _ us hl => match us, hl with | [_], _ => rfl
  exact ⟨_, fun s v => blaw s [v] rfl, fun base _ _ => ok_law18 T (Xlaw)⟩
end Pn

namespace Pn
open PySem PySem.W PySem.Calls PyProof.Rows L2
abbrev rowQ : OpenRow := OpenLaw.row PySem.Challenge.rw_partnotes_k18_fillings_refused
abbrev progQ : Program := view rowQ.prog [36]
def namesQ0 : List PySem.Str := ["_wall", "__name__", "ROW_WORDS", "LONGEST_NAME", "is_integer", "is_number", "is_name", "is_sequence", "is_pair", "NoteError", "InvalidRow", "InvalidFilling", "Row", "same_row", "need_name", "Note", "Skip", "Set", "Keep", "Ref", "Put", "Open", "are_fillable", "is_filled", "filled_text", "Filling", "_law_deal", "_law_draw", "_law_pick", "_law_mixed"]
def namesQ1 : List PySem.Str := ["_law_names", "_law_word"]
def namesQ : List PySem.Str := namesQ0 ++ namesQ1
theorem runQ (w : World) : HandSHeadRun.RunEq rowQ progQ (hookQ 5 fnQ exQ) (seenQ 5 fnQ exQ) 20000 namesQ w := by
  intro os
  kernel_rfl
end Pn
open PySem PySem.W PySem.Calls PyProof.Rows
theorem PySem.Challenge.cw_partnotes_k18_fillings_refused_holds : PySem.Challenge.rw_partnotes_k18_fillings_refused.Holds := by
  w_on; o_law
  refine HandSHeadRun.head_any (M := 20000) (r := Pn.rowQ) (q := Pn.progQ) (H := Pn.hookQ 5 Pn.fnQ Pn.exQ) (ob := Pn.seenQ 5 Pn.fnQ Pn.exQ) (loose := Pn.namesQ) (kwd := []) (d := HandSHeadRun.topDef Pn.rowQ.prog 36) (Pn.seenQ_eq 5 Pn.fnQ Pn.exQ)
    (by kernel_rfl) (fun z => by kernel_rfl) Pn.runQ (by kernel_rfl) (by kernel_rfl) (by kernel_rfl) (by rfl) (by first | assumption | decide +kernel) (by decide +kernel) ⟨rfl, rfl, rfl, rfl, rfl, by decide +kernel⟩ ?hw ?hc
  case hw => w_witness2
  case hc =>
    refine L2.walk_ofE (l := PySem.Challenge.rw_partnotes_k18_fillings_refused) (n := 63) (k := 12) (x := "_law_script") (CX := L2.CX0) rfl (by decide) (by kernel_rfl) ⟨rfl, by decide, by decide⟩ ?F (fun _ _ _ _ z => z)
    intro w mg fa h Y G hm
    obtain ⟨K, KX, c⟩ := Y
    have hg : mg ("law" : PySem.Str) = some (.ref fa) := by
      have e : (HandSHeadRun.topDef Pn.rowQ.prog 36).name = ("law" : PySem.Str) := by kernel_rfl
      rw [← e]; exact hm
    obtain ⟨fd, hb, hF⟩ := Pn.facts (P := (PySem.Challenge.rw_partnotes_k18_fillings_refused).prog) (w := w) KX G hg c
    exact ⟨K, fd, Pn.spLaw18 K, KX, hb, fun H a ns hl _ hS => ⟨a, ns, rfl, hS, hl, fun _ => rfl⟩, hF⟩
