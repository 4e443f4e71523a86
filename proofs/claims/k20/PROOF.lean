import PyProof.Rows.All
import Wide.All
import OpenK.AllK
import Wide.FinOn
import HandS.ForMost
import HandS.Wide
import HandS.IsInst
import HandS.Walk
import HandS.Text
import HandS.Exc
import HandS.ExcInit
import HandS.ExcField
import HandS.ExcIs
import HandS.WordsExc
import HandS.TryOnly
import KE.KExcIs
import HandS.ExcCtx
import HandS.ExcInitHot
import HandS.SuiteRaise
import HandS.RaiseFrom
import HandS.Defaults
import HandS.FStr
import KE.KCallOwn
import Flt.Len
import KE.IntTextLaws
import KE.IntTextText
import HandS.HotCalls
import HandS.TupLe
import HandS.RaiseMore
import HandS.OwnEq
import HandS.SlotsOwn
import HandS.NamedTupSort
import HandS.Ends
import HandS.Dict
import HandS.WordsDict
import HandS.Star
import HandS.SetTxt0
import HandS.SetFor
import PyProof.Rows.SortStr
import HandS.SetKeys
import HandS.Strs
import HandS.Comp
import HandS.Rev
import KE.KDictPairs
import HandS.Style
import HandS.Property
import KE.KRevSl
import KE.GoesMore
import KE.GoesEnum
import HandS.Zip
import HandS.ClsMeth
import HandS.TupAny
import PyProof.EqKinds
import HandS.Flow
import PyProof.AutoSeq1
import HandS.List
import HandS.DictComp
import PyProof.P3Eq
import KE.KStateDown
import HandS.Head0
import HandS.Head1
import HandS.Head2
import HandS.HeadEnd
import HandS.HeadHook1
import HandS.HeadHook2
import PySem.Challenge.RW_partnotes_k20_references_ahead_and_behin
set_option Elab.async false
set_option maxRecDepth 100000
set_option maxHeartbeats 4000000
namespace Pn
open PySem L2
/-! the text by places -/
def top (i : Nat) : Stmt := PySem.Challenge.pw_partnotes_k20_references_ahead_and_behin.main.body.getD i (.Pass ⟨0, 0, 0, 0⟩)
/-- a def of the top: where it stands, what binds its arguments -/
structure At (K : PySem.W.Frag) (mg : Str → Option Value) (x : Str) (st : Stmt) (ps : List Str) : Type where
  f : Addr
  fd : FuncData
  F : Fun K x x st f fd
  b : Binds K fd ps []
  m : mg x = some (.ref f)
/-- all but what stands at b is as it was -/
def Kp (b : Addr) (H H' : Hp) : Prop := ∀ a o, H a = some o → a ≠ b → H' a = some o
theorem Kp.refl (b : Addr) (H : Hp) : Kp b H H := fun _ _ h _ => h
theorem Kp.trans {b : Addr} {H H1 H2 : Hp} (h : Kp b H H1) (g : Kp b H1 H2) : Kp b H H2 := fun a o e n => g a o (h a o e n) n
theorem Kp.new {b p : Addr} {H H1 : Hp} {o : HO} (h : Kp b H H1) (hp : H1 p = none) : Kp b H (upd H1 p o) := fun a u e n => by
  have z := h a u e n
  rw [upd_ne (ne_of_none z hp)]
  exact z
theorem Kp.box {b : Addr} {H H1 : Hp} {o : HO} (h : Kp b H H1) : Kp b H (upd H1 b o) := fun a u e n => by
  rw [upd_ne n]
  exact h a u e n
theorem Kp.sql {K : PySem.W.Frag} {b a : Addr} {xs : List V} {H H1 : Hp} (h : Kp b H H1) (n : a ≠ b) (s : SqL K H a xs) : SqL K H1 a xs := by
  rcases s with (s | ⟨o, s⟩) | s
  · exact .inl (.inl (h _ _ s n))
  · exact .inl (.inr ⟨o, h _ _ s n⟩)
  · exact .inr s
theorem Kp.sqt {K : PySem.W.Frag} {b a : Addr} {xs : List V} {H H1 : Hp} (h : Kp b H H1) (n : a ≠ b) (s : SqT K H a xs) : SqT K H1 a xs := by
  rcases s with (s | ⟨o, s⟩) | s
  · exact .inl (.inl (h _ _ s n))
  · exact .inl (.inr ⟨o, h _ _ s n⟩)
  · exact .inr s
theorem Kp.same {b : Addr} {H H1 : Hp} (h : Same H H1) : Kp b H H1 := fun a o e _ => h a o e
/-- the heap but for what stands at b -/
def hid (H : Hp) (b : Addr) : Hp := fun a => if a = b then none else H a
theorem hid_sub {H : Hp} {b : Addr} : Same (hid H b) H := fun a o e => by
  unfold hid at e
  by_cases h : a = b
  · rw [if_pos h] at e
    cases e
  · rw [if_neg h] at e
    exact e
theorem hid_kp {b : Addr} {H H1 : Hp} (h : Kp b H H1) : Same (hid H b) (hid H1 b) := fun a o e => by
  unfold hid at e ⊢
  by_cases n : a = b
  · rw [if_pos n] at e
    cases e
  · rw [if_neg n] at e ⊢
    exact h a o e n
theorem hid_get {b a : Addr} {H : Hp} {o : HO} (h : H a = some o) (n : a ≠ b) : hid H b a = some o := by
  unfold hid
  rw [if_neg n]
  exact h
theorem Same.sqt {K : PySem.W.Frag} {H H' : Hp} {a : Addr} {xs : List V} (e : Same H H') (h : SqT K H a xs) : SqT K H' a xs := by
  rcases h with (h | ⟨o, h⟩) | h
  · exact .inl (.inl (e _ _ h))
  · exact .inl (.inr ⟨o, e _ _ h⟩)
  · exact .inr h
theorem Same.new {H : Hp} {p : Addr} {o : HO} (h : H p = none) : Same H (upd H p o) := fun a u e => by
  rw [upd_ne (ne_of_none e h)]
  exact e
/-- what is new in H' -/
def dif (H H' : Hp) : Hp := fun a => match H a with
  | none => H' a
  | some _ => none
theorem dif_eq {H H' : Hp} {a : Addr} {o : HO} : dif H H' a = some o ↔ H a = none ∧ H' a = some o := by
  unfold dif
  cases h : H a with
  | none => exact ⟨fun e => ⟨rfl, e⟩, fun e => e.2⟩
  | some u => exact ⟨fun e => (nomatch (show (none : Option HO) = some o from e)), fun e => by cases e.1⟩
theorem dif_sub {H H' : Hp} : Same (dif H H') H' := fun _ _ e => (dif_eq.mp e).2
theorem dif_new {H H' : Hp} {a : Addr} {o : HO} (h : H a = none) (h' : H' a = some o) : dif H H' a = some o := dif_eq.mpr ⟨h, h'⟩
/-- what is tracked stays tracked -/
def Mo (H H' : Hp) : Prop := ∀ a, H' a = none → H a = none
theorem Mo.refl (H : Hp) : Mo H H := fun _ h => h
theorem Mo.trans {H H1 H2 : Hp} (h : Mo H H1) (g : Mo H1 H2) : Mo H H2 := fun a e => h a (g a e)
theorem Mo.upd {H : Hp} {p : Addr} {o : HO} : Mo H (upd H p o) := fun a e => by
  by_cases h : a = p
  · subst h
    rw [upd_same] at e
    cases e
  · rw [upd_ne h] at e
    exact e
theorem Kp.mo {b : Addr} {H H' : Hp} {o : HO} (h : Kp b H H') (hb : H' b = some o) : Mo H H' := fun a e => by
  cases q : H a with
  | none => rfl
  | some u =>
    have n : a ≠ b := fun z => by rw [z, hb] at e; cases e
    rw [h a u q n] at e
    cases e
/-- what was new stays: all of H1 but b, which stood in H -/
theorem dif_kp {b : Addr} {H H1 H2 : Hp} {o : HO} (hb : H b = some o) (k : Kp b H1 H2) : Same (dif H H1) (dif H H2) := fun a u e => by
  obtain ⟨e1, e2⟩ := dif_eq.mp e
  exact dif_new e1 (k a u e2 (fun z => by rw [z, hb] at e1; cases e1))
theorem dif_mo {H0 H H1 : Hp} (m : Mo H0 H) : Same (dif H H1) (dif H0 H1) := fun a u e => by
  obtain ⟨e1, e2⟩ := dif_eq.mp e
  exact dif_new (m a e1) e2
mutual
theorem dp_same {K : PySem.W.Frag} {H H' : Hp} (e : Same H H') : ∀ (d : PyData) (v : V), Dp K H v d → Dp K H' v d
  | .none, _, h => by cases h; exact .non
  | .bool _, _, h => by cases h; exact .bl _
  | .int _, _, h => by cases h; exact .int _
  | .str _, _, h => by cases h; exact .str _
  | .list ds, _, h => by
    cases h with
    | lst s a => exact .lst (e.seq s) (dpAll_same e ds _ a)
  | .tuple ds, _, h => by
    cases h with
    | tup s a => exact .tup (Same.sqt e s) (dpAll_same e ds _ a)
  | .dict _, _, h => by cases h
theorem dpAll_same {K : PySem.W.Frag} {H H' : Hp} (e : Same H H') : ∀ (ds : List PyData) (vs : List V), DpAll K H vs ds → DpAll K H' vs ds
  | [], _, h => by cases h; exact .nil
  | d :: ds, _, h => by
    cases h with
    | cons a b => exact .cons (dp_same e d _ a) (dpAll_same e ds _ b)
end
theorem dpAll_append {K : PySem.W.Frag} {H : Hp} : ∀ {vs : List V} {ds : List PyData} {ws : List V} {es : List PyData}, DpAll K H vs ds → DpAll K H ws es → DpAll K H (vs ++ ws) (ds ++ es)
  | _, _, _, _, .nil, g => g
  | _, _, _, _, .cons a b, g => .cons a (dpAll_append b g)
end Pn

namespace Pn
open PySem L2
/-! ### one statement, with what it comes to -/
theorem joinOn {t : TE} {σ : L2.St} {H : Hp} {Q : VK} (C : V → Hp → Prop) (h1 : ∀ Q' : VK, (∀ v H', C v H' → Q' v H') → t σ H Q') (h2 : ∀ v H', C v H' → Q v H') : t σ H Q := h1 Q h2
/-- x = e, where what e comes to is said by C -/
theorem stepSet {te : TE} {i : Nat} {B : TS} {D : Ends} {σ : L2.St} {H : Hp} (C : V → Hp → Prop) (h1 : ∀ Q' : VK, (∀ v H', C v H' → Q' v H') → te σ H Q') (h2 : ∀ v H', C v H' → B D (σ.set i (some v)) H') : tSeq (tAsg te (gName i)) B D σ H := h1 _ h2
theorem stepDrop {te : TE} {B : TS} {D : Ends} {σ : L2.St} {H : Hp} (C : Hp → Prop) (h1 : ∀ Q' : VK, (∀ v H', C H' → Q' v H') → te σ H Q') (h2 : ∀ H', C H' → B D σ H') : tSeq (tDrop te) B D σ H := h1 (fun _ H1 => B D σ H1) fun _ H' c => h2 H' c
theorem stepIfF {tt : TT} {A C : TS} {D : Ends} {σ : L2.St} {H : Hp} (h1 : ∀ Q : Bool → Hp → Prop, Q false H → tt σ H Q) (h2 : C D σ H) : tSeq (tIfS tt A tNext) C D σ H := h1 _ (by rw [if_neg Bool.false_ne_true]; exact h2)
theorem stepNo {tt : TT} {A C : TS} {D : Ends} {σ : L2.St} {H : Hp} (G : Hp → Prop) (h1 : ∀ Q : Bool → Hp → Prop, (∀ H', G H' → Q false H') → tt σ H Q) (h2 : ∀ H', G H' → C D σ H') : tSeq (tIfS tt A tNext) C D σ H := h1 _ fun H' g => by
  rw [if_neg Bool.false_ne_true]
  exact h2 H' g
theorem stepYes {tt : TT} {A B C : TS} {D : Ends} {σ : L2.St} {H : Hp} (G : Hp → Prop) (h1 : ∀ Q : Bool → Hp → Prop, (∀ H', G H' → Q true H') → tt σ H Q) (h2 : ∀ H', G H' → A { D with nx := C D } σ H') : tSeq (tIfS tt A B) C D σ H := h1 _ fun H' g => by
  rw [if_pos rfl]
  exact h2 H' g
theorem Same.mo {H H' : Hp} (s : Same H H') : Mo H H' := fun _ e => s.free e
end Pn

namespace Pn
open PySem L2
/-- the two ints of a box of draws -/
def Bx (x y : Int) : Prop := 0 ≤ x ∧ 1 ≤ y ∧ y ≤ 2147483629
def spChoose : Sp := fun vs H Q _ => ∃ (b : Addr) (x y m : Int), vs = [.ref b, .int m] ∧ H b = some (.lst [.int x, .int y]) ∧ Bx x y ∧ 0 < m ∧ m < 1000000 ∧
  ∀ r x' y', 0 ≤ r → r < m → Bx x' y' → Q (.int r) (upd H b (.lst [.int x', .int y']))
section
variable {P : Program} {w : World} {K : PySem.W.Frag} {mg : Str → Option Value} {base : Heap}
/-- the box for a round -/
def spSeed (K : PySem.W.Frag) : Sp := fun vs H Q _ => ∃ (a : Addr) (ns : List Int) (k : Nat), vs = [.ref a, .int k] ∧ SqL K H a (ns.map V.int) ∧ k ≤ 100 ∧
  ∀ (p : Addr) (x y : Int), H p = none → Bx x y → Q (.ref p) (upd H p (.lst [.int x, .int y]))
/-- what a box is, by its place -/
def BoxAt (H : Hp) (b : Addr) : Prop := ∃ x y : Int, Bx x y ∧ H b = some (.lst [.int x, .int y])
theorem sql_upd {H : Hp} {a b : Addr} {o : HO} {xs : List V} (h : SqL K H a xs) (hne : a ≠ b) : SqL K (upd H b o) a xs := by
  rcases h with (h | ⟨u, h⟩) | h
  · exact .inl (.inl (by rw [upd_ne hne]; exact h))
  · exact .inl (.inr ⟨u, by rw [upd_ne hne]; exact h⟩)
  · exact .inr h
theorem sqt_upd {H : Hp} {a b : Addr} {o : HO} {xs : List V} (h : SqT K H a xs) (hne : a ≠ b) : SqT K (upd H b o) a xs := by
  rcases h with (h | ⟨u, h⟩) | h
  · exact .inl (.inl (by rw [upd_ne hne]; exact h))
  · exact .inl (.inr ⟨u, by rw [upd_ne hne]; exact h⟩)
  · exact .inr h
/-- one of several things -/
def spOne (K : PySem.W.Frag) : Sp := fun vs H Q _ => ∃ (b a : Addr) (x y : Int) (xs : List V), vs = [.ref b, .ref a] ∧ H b = some (.lst [.int x, .int y]) ∧ Bx x y ∧ SqL K H a xs ∧ a ≠ b ∧ 0 < xs.length ∧ xs.length < 1000000 ∧
  ∀ (i : Nat) (x' y' : Int) (hi : i < xs.length), Bx x' y' → Q xs[i] (upd H b (.lst [.int x', .int y']))
/-- the same, of a box by its place -/
def spChooseB : Sp := fun vs H Q _ => ∃ (b : Addr) (m : Int), vs = [.ref b, .int m] ∧ BoxAt H b ∧ 0 < m ∧ m < 1000000 ∧ ∀ (r : Int) (H' : Hp), 0 ≤ r → r < m → BoxAt H' b → Kp b H H' → (∀ a, H a = none → H' a = none) → Q (.int r) H'
def spOneB (K : PySem.W.Frag) : Sp := fun vs H Q _ => ∃ (b a : Addr) (xs : List V), vs = [.ref b, .ref a] ∧ BoxAt H b ∧ SqL K H a xs ∧ a ≠ b ∧ 0 < xs.length ∧ xs.length < 1000000 ∧
  ∀ (v : V) (H' : Hp), v ∈ xs → BoxAt H' b → Kp b H H' → (∀ a, H a = none → H' a = none) → Q v H'
end
end Pn

namespace Pn
open PySem L2
abbrev sIsInteger : Stmt := top 4
abbrev sIsNumber : Stmt := top 5
abbrev sIsName : Stmt := top 6
/-! ### what these checks tell of data -/
def rowV : List V := [.str "note", .str "skip", .str "set", .str "keep", .str "back", .str "ref", .str "put", .str "open", .str "part"]
/-- a letter of a name -/
def lok (c : Nat) : Bool := decide (97 ≤ c) && decide (c ≤ 122)
def nameS (z : Str) : Bool := !inV (.str z) rowV && (decide (1 ≤ (z.length : Int)) && decide ((z.length : Int) ≤ 4)) && z.cps.toList.all lok
def nameD : PyData → Bool
  | .str z => nameS z
  | _ => false
def intD : PyData → Bool
  | .int _ => true
  | _ => false
def numD : PyData → Bool
  | .int i => decide (0 ≤ i)
  | _ => false
/-- the type of data -/
def tyD : PyData → String
  | .none => "NoneType"
  | .bool _ => "bool"
  | .int _ => "int"
  | .str _ => "str"
  | .list _ => "list"
  | .tuple _ => "tuple"
  | .dict _ => "dict"
theorem dp_ty {K : PySem.W.Frag} {H : Hp} {v : V} {d : PyData} (h : Dp K H v d) : TyX K H v (.type (tyD d)) := by
  cases h with
  | non => exact .base .non
  | bl b => exact .base (.bl b)
  | int i => exact .base (.int i)
  | str x => exact .base (.str x)
  | lst s _ =>
    rcases s with (s | ⟨o, s⟩) | ⟨o, _, _, e, c, _⟩
    · exact .base (.lst s)
    · exact .base (.frz s)
    · exact .kList e c
  | tup s _ =>
    rcases s with (s | ⟨o, s⟩) | ⟨o, _, _, e, c, _⟩
    · exact .base (.tup s)
    · exact .fTuple s
    · exact .kTuple e c
def strT : PyData → Bool
  | .str _ => true
  | _ => false
def intT : PyData → Bool
  | .bool _ => true
  | .int _ => true
  | _ => false
def boolT : PyData → Bool
  | .bool _ => true
  | _ => false
theorem kit_str : ∀ d : PyData, kitB (tyD d) "str" = some (strT d)
  | .none => (by decide +kernel : kitB "NoneType" "str" = some false)
  | .bool _ => (by decide +kernel : kitB "bool" "str" = some false)
  | .int _ => (by decide +kernel : kitB "int" "str" = some false)
  | .str _ => (by decide +kernel : kitB "str" "str" = some true)
  | .list _ => (by decide +kernel : kitB "list" "str" = some false)
  | .tuple _ => (by decide +kernel : kitB "tuple" "str" = some false)
  | .dict _ => (by decide +kernel : kitB "dict" "str" = some false)
theorem kit_int : ∀ d : PyData, kitB (tyD d) "int" = some (intT d)
  | .none => (by decide +kernel : kitB "NoneType" "int" = some false)
  | .bool _ => (by decide +kernel : kitB "bool" "int" = some true)
  | .int _ => (by decide +kernel : kitB "int" "int" = some true)
  | .str _ => (by decide +kernel : kitB "str" "int" = some false)
  | .list _ => (by decide +kernel : kitB "list" "int" = some false)
  | .tuple _ => (by decide +kernel : kitB "tuple" "int" = some false)
  | .dict _ => (by decide +kernel : kitB "dict" "int" = some false)
theorem kit_bool : ∀ d : PyData, kitB (tyD d) "bool" = some (boolT d)
  | .none => (by decide +kernel : kitB "NoneType" "bool" = some false)
  | .bool _ => (by decide +kernel : kitB "bool" "bool" = some true)
  | .int _ => (by decide +kernel : kitB "int" "bool" = some false)
  | .str _ => (by decide +kernel : kitB "str" "bool" = some false)
  | .list _ => (by decide +kernel : kitB "list" "bool" = some false)
  | .tuple _ => (by decide +kernel : kitB "tuple" "bool" = some false)
  | .dict _ => (by decide +kernel : kitB "dict" "bool" = some false)
/-! ### a comprehension whose items are told by their places -/
theorem lc_step {H1 : Hp} {D : Addr} {f : Nat → V} {i : Nat} (hi : i < 1000) : ∃ acc, (upd H1 D (.lst ((List.range i).map f))) D = some (.lst acc) ∧ acc.length < sizeLine ∧
    upd (upd H1 D (.lst ((List.range i).map f))) D (.lst (acc ++ [f i])) = upd H1 D (.lst ((List.range (i + 1)).map f)) := by
  refine ⟨_, upd_same, by rw [List.length_map, List.length_range]; exact small1000 (by omega), ?_⟩
  rw [List.range_succ, List.map_append]
  funext b
  by_cases e : b = D
  · rw [e, upd_same, upd_same]
    rfl
  · rw [upd_ne e, upd_ne e, upd_ne e]
theorem range_getD {f : Nat → Bool} : ∀ l : List Nat, (((List.range l.length).map fun i => f (l.getD i 0)).all id) = l.all f := by
  intro l
  have e : (List.range l.length).map (fun i => f (l.getD i 0)) = l.map f := by
    apply List.ext_getElem
    · simp
    · intro i h1 h2
      have h3 : i < l.length := by simpa using h2
      simp [List.getD_eq_getElem?_getD, List.getElem?_eq_getElem h3]
  rw [e]
  simp
theorem lt_one {a b : Nat} : decide ([a] < [b]) = decide (a < b) := by
  by_cases h : a < b
  · rw [decide_eq_true h, decide_eq_true]
    exact List.Lex.rel h
  · rw [decide_eq_false h, decide_eq_false]
    intro z
    cases z with
    | rel r => exact h r
    | cons r => cases r
theorem lok_eq (c : Nat) : (if (!decide ([c] < [97])) = true then (!decide ([122] < [c])) else false) = lok c := by
  rw [lt_one, lt_one]
  unfold lok
  by_cases h1 : c < 97
  · rw [decide_eq_true h1, decide_eq_false (show ¬ 97 ≤ c by omega)]
    rfl
  · rw [decide_eq_false h1, decide_eq_true (show 97 ≤ c by omega)]
    by_cases h2 : 122 < c
    · rw [decide_eq_true h2, decide_eq_false (show ¬ c ≤ 122 by omega)]
      rfl
    · rw [decide_eq_false h2, decide_eq_true (show c ≤ 122 by omega)]
      rfl
section
variable {P : Program} {w : World} {K : PySem.W.Frag} {mg : Str → Option Value} {base : Heap}
structure TChk (K : PySem.W.Frag) (mg : Str → Option Value) : Type where
  mInt : mg "int" = none
  mBool : mg "bool" = none
  mStr : mg "str" = none
  mIsi : mg "isinstance" = none
  mLen : mg "len" = none
  mAll : mg "all" = none
  words : Addr
  mWords : mg "ROW_WORDS" = some (.ref words)
  hWords : ∀ H, SqT K H words rowV
  tok : Tok
  mLong : mg "LONGEST_NAME" = some (.int 4 tok)
  isInteger : At K mg "is_integer" sIsInteger ["value"]
  isNumber : At K mg "is_number" sIsNumber ["value"]
  isName : At K mg "is_name" sIsName ["value"]
def spIsInteger (K : PySem.W.Frag) : Sp := fun vs H Q _ => ∃ (v : V) (d : PyData), vs = [v] ∧ Dp K H v d ∧ Q (.bl (intD d)) H
theorem scIsInteger : FnScope ["value"] ["value"] (defScope sIsInteger) := ⟨rfl, rfl, rfl, by decide +kernel, rfl, by decide +kernel, by decide +kernel⟩
theorem TChk.okInteger (T : TChk K mg) : FnOk P w K mg base CX0 1 T.isInteger.f T.isInteger.fd ["value"] (spIsInteger K) := by
  refine T.isInteger.F.ok scIsInteger (fun vs H Q E h => ?_) (fun cdv A outer s H vs Q E hr h => ?_)
  · obtain ⟨v, d, rfl, _⟩ := h
    rfl
  · obtain ⟨v, d, rfl, hd, q⟩ := h
    refine ⟨_, pss_one (ps_ret (pe_and (pe_callB call_isi (by rfl) T.mIsi (by decide +kernel) (pa_cons (pv 0) (pa_cons (pe_bltn (v := .ty "int") (by rfl) T.mInt (by decide +kernel) rfl) pa_nil)))
      (pe_one (pe_not (pe_callB call_isi (by rfl) T.mIsi (by decide +kernel) (pa_cons (pv 0) (pa_cons (pe_bltn (v := .ty "bool") (by rfl) T.mBool (by decide +kernel) rfl) pa_nil))))))), ?_⟩
    refine ⟨_, rfl, v, _, _, _, _, rfl, .ty _, dp_ty hd, kit_ty (kit_int d), _, rfl, ?_⟩
    cases d with
    | none => exact q
    | str z => exact q
    | list ds => exact q
    | tuple ds => exact q
    | dict ds => exact q
    | int i => exact ⟨_, rfl, v, _, _, _, _, rfl, .ty _, dp_ty hd, kit_ty (kit_bool _), _, rfl, q⟩
    | bool i => exact ⟨_, rfl, v, _, _, _, _, rfl, .ty _, dp_ty hd, kit_ty (kit_bool _), _, rfl, q⟩
def spIsNumber (K : PySem.W.Frag) : Sp := fun vs H Q _ => ∃ (v : V) (d : PyData), vs = [v] ∧ Dp K H v d ∧ Q (.bl (numD d)) H
theorem scIsNumber : FnScope ["value"] ["value"] (defScope sIsNumber) := ⟨rfl, rfl, rfl, by decide +kernel, rfl, by decide +kernel, by decide +kernel⟩
theorem TChk.okNumber (T : TChk K mg) : FnOk P w K mg base CX0 2 T.isNumber.f T.isNumber.fd ["value"] (spIsNumber K) := by
  refine T.isNumber.F.ok scIsNumber (fun vs H Q E h => ?_) (fun cdv A outer s H vs Q E hr h => ?_)
  · obtain ⟨v, d, rfl, _⟩ := h
    rfl
  · obtain ⟨v, d, rfl, hd, q⟩ := h
    refine ⟨_, pss_one (ps_ret (pe_and (pe_call T.okInteger hr rfl T.isInteger.m T.isInteger.F.kp T.isInteger.b .nil pass0 (pa_cons (pv 0) pa_nil)) (pe_one (pe_cmpR op_ge (pv 0) pe_int (nomark _))))), ?_⟩
    refine ⟨_, rfl, v, d, rfl, hd, _, rfl, ?_⟩
    cases d with
    | none => exact q
    | str z => exact q
    | list ds => exact q
    | tuple ds => exact q
    | dict ds => exact q
    | bool i => exact q
    | int i =>
      cases hd
      exact ⟨_, rfl, _, _, rfl, rfl, q⟩
def dlen : PyData → Prop
  | .str z => z.length ≤ 900
  | _ => True
def spIsName (K : PySem.W.Frag) : Sp := fun vs H Q _ => ∃ (v : V) (d : PyData), vs = [v] ∧ Dp K H v d ∧ dlen d ∧ ∀ H', Same H H' → Mo H H' → Q (.bl (nameD d)) H'
theorem scIsName : FnScope ["value", "letter"] ["value"] (defScope sIsName) := ⟨rfl, rfl, rfl, by decide +kernel, rfl, by decide +kernel, by decide +kernel⟩
theorem TChk.okName (T : TChk K mg) : FnOk P w K mg base CX0 1 T.isName.f T.isName.fd ["value"] (spIsName K) := by
  refine T.isName.F.ok scIsName (fun vs H Q E h => ?_) (fun cdv A outer s H vs Q E hr h => ?_)
  · obtain ⟨v, d, rfl, _⟩ := h
    rfl
  · obtain ⟨v, d, rfl, hd, hl, q⟩ := h
    refine ⟨_, pss_cons (ps_if (PW.pt (pw_or (pt_not (pt_val (pe_callB call_isi (by rfl) T.mIsi (by decide +kernel) (pa_cons (pv 0) (pa_cons (pe_bltn (v := .ty "str") (by rfl) T.mStr (by decide +kernel) rfl) pa_nil)))))
        (pw_or1 (pt_cmpR op_in_seq (pv 0) (pe_glob (v := .ref T.words) (by rfl) T.mWords rfl) rfl)))) (pss_one (ps_ret pe_bl)) pss_nil)
      (pss_one (ps_ret (pe_and (pe_chain op_le op_le pe_int (pe_callB call_len_str (by rfl) T.mLen PySem.boot_len (pa_cons (pv 0) pa_nil)) (pe_glob (v := .int 4) (by rfl) T.mLong ⟨_, rfl⟩))
        (pe_one (pe_callB (cr_all rfl) (by rfl) T.mAll (by decide +kernel) (pa_cons (pe_lc (own := [("letter", 1)]) (g := gName 1) (tt := tYes) (by rfl) scIsName.nd (pi_str (pv 0))
          (blkOk_by (N := ["value", "letter"]) (sc := defScope sIsName) (by decide +kernel)) (fun _ _ _ _ _ => pg_name (i := 1) scIsName.nd rfl (Or.inl rfl)) (fun _ _ _ _ _ => pts_nil)
          (fun _ _ _ _ _ => pe_chain op_le_str op_le_str pe_str (pv 1) pe_str)) pa_nil)))))), ?_⟩
    refine ⟨_, rfl, v, _, _, _, _, rfl, .ty _, dp_ty hd, kit_ty (kit_str d), _, rfl, ?_⟩
    cases d with
    | str z =>
      cases hd
      refine ⟨_, rfl, T.words, rowV, rfl, .inr (T.hWords H), rfl, rfl, _, rfl, ?_⟩
      have hl' : z.length ≤ 900 := hl
      cases e : inV (.str z) rowV with
      | true =>
        have e2 : nameD (.str z) = false := by show nameS z = false; unfold nameS; rw [e]; rfl
        rw [e2] at q
        refine iteT ?_
        exact q H (Same.refl H) (Mo.refl H)
      | false =>
        refine iteF ?_
        refine ⟨_, rfl, z, rfl, Nat.le_trans hl' (by decide), _, _, rfl, rfl, _, rfl, ?_⟩
        have e2 : nameD (.str z) = ((decide (1 ≤ (z.length : Int)) && decide ((z.length : Int) ≤ 4)) && z.cps.toList.all lok) := by show nameS z = _; unfold nameS; rw [e]; rfl
        rw [e2] at q
        cases h1 : decide (1 ≤ (z.length : Int)) with
        | false =>
          rw [h1] at q
          refine iteF ?_
          exact ⟨false, rfl, iteF (q H (Same.refl H) (Mo.refl H))⟩
        | true =>
          rw [h1] at q
          refine iteT ?_
          refine ⟨_, _, rfl, rfl, _, rfl, ?_⟩
          cases h2 : decide ((z.length : Int) ≤ 4) with
          | false =>
            rw [h2] at q
            exact iteF (q H (Same.refl H) (Mo.refl H))
          | true =>
            rw [h2] at q
            refine iteT ?_
            refine ⟨_, rfl, z, rfl, fun D hD => lc_it walk_str (fun i Hi => Hi = upd H D (.lst ((List.range i).map fun j => .bl (lok (z.cps.toList.getD j 0))))) rfl (fun _ _ _ _ => trivial) (fun i x Hi Hj hi hP hY => ?_) (fun Hi hP => ?_)⟩
            · obtain ⟨rfl, c, hc, rfl⟩ := hY
              subst hP
              have hi2 : i < 1000 := by
                have : z.cps.size = z.length := rfl
                omega
              have hg : z.cps.toList.getD i 0 = c := by
                rw [List.getD_eq_getElem?_getD, Array.getElem?_toList, hc]
                rfl
              have fin := lc_step (H1 := H) (D := D) (f := fun j => .bl (lok (z.cps.toList.getD j 0))) (i := i) hi2
              rw [hg, ← lok_eq] at fin
              refine ⟨rfl, _, rfl, _, _, rfl, rfl, _, rfl, ?_⟩
              cases h3 : (!decide ([c] < [97])) with
              | false =>
                have h4 : (!decide (({ cps := #[c] } : Str).cps.toList < (Str.ofString "a").cps.toList)) = false := h3
                rw [h3] at fin
                rw [h4]
                exact fin
              | true =>
                have h4 : (!decide (({ cps := #[c] } : Str).cps.toList < (Str.ofString "a").cps.toList)) = true := h3
                rw [h3] at fin
                rw [h4]
                exact ⟨_, _, rfl, rfl, fin⟩
            · subst hP
              refine ⟨D, (List.range z.cps.size).map fun j => lok (z.cps.toList.getD j 0), rfl, ?_, ?_⟩
              · refine SqL.of ?_
                rw [upd_same, List.map_map]
                rfl
              · have e3 := range_getD (f := lok) z.cps.toList
                rw [Array.length_toList] at e3
                rw [e3]
                exact q _ (Same.new hD) Mo.upd
    | none => exact q H (Same.refl H) (Mo.refl H)
    | list ds => exact q H (Same.refl H) (Mo.refl H)
    | tuple ds => exact q H (Same.refl H) (Mo.refl H)
    | dict ds => exact q H (Same.refl H) (Mo.refl H)
    | int i => exact q H (Same.refl H) (Mo.refl H)
    | bool i => exact q H (Same.refl H) (Mo.refl H)
end
end Pn

namespace Pn
open PySem L2
theorem iteTD {c : Bool} {A B : Prop} (hc : c = true) (h : A) : if c = true then A else B := by
  rw [if_pos hc]
  exact h
theorem iteFD {c : Bool} {A B : Prop} (hc : c = false) (h : B) : if c = true then A else B := by
  rw [hc, if_neg Bool.false_ne_true]
  exact h
/-! ### own exceptions that keep one thing -/
theorem same_made {H1 : Hp} {a d : Addr} {y : V} {f : Str} {o1 o2 o3 : HO} (ha : H1 a = none) (hd : H1 d = none) : Same H1 (upd (del (upd (upd (upd H1 a o1) d o2) a o3) a) d (.xd [(f, y)])) := fun b o e => by
  have n1 : b ≠ a := ne_of_none e ha
  have n2 : b ≠ d := ne_of_none e hd
  rw [upd_ne n2, del_ne n1, upd_ne n1, upd_ne n2, upd_ne n1]
  exact e
/-- an own exception class of the text whose __init__ keeps one thing under the name fld -/
structure TExc (K : PySem.W.Frag) (mg : Str → Option Value) (x : Str) (qual fld : Str) (st : Stmt) : Type where
  C : Addr
  fI : Addr
  fd : FuncData
  F : Fun K "__init__" qual st fI fd
  b : Binds K fd ["self", fld] []
  m : mg x = some (.ref C)
  O : OexC K C
  iC : PySem.W.findIn K (.ref C) "__init__" = some (some (.ref fI))
  tI : PySem.W.typeIn K (.ref fI) = some (.type "function")
  noF : PySem.W.findIn K (.ref C) fld = some none
  E : ExcC K C
  isC : PySem.W.isClsIn K C = true
  te : PySem.W.exmOne K (.ref C) (.ref C) = some true
  xf : XfC K C
def spXInit (K : PySem.W.Frag) (fld : Str) : Sp := fun vs H Q _ => ∃ (a C : Addr) (v : V), vs = [.ref a, v] ∧ H a = some (exo a C none) ∧ OexC K C ∧ PySem.W.findIn K (.ref C) fld = some none ∧
  ∀ dx, H dx = none → dx ≠ a → Q .non (upd (upd H dx (exd dx [(fld, v)])) a (exo a C (some dx)))
/-- isinstance of the exception that a suite holds -/
def rIsX (K : PySem.W.Frag) (D a : Addr) (cls : Value) (d : Option Addr) : List V → Hp → VK → Prop := fun xs H Q => ∃ (c : V) (cv : Value) (b : Bool) (dd : Addr) (fs : List (Str × V)), xs = [.ref a, c] ∧ cls = .ref D ∧ ClsV c cv ∧ PySem.W.kitOne K (.ref D) cv = some b ∧ d = some dd ∧ H dd = some (.xd fs) ∧ Q (.bl b) H
theorem call_isX {X : Cx} {a D : Addr} {cls : Value} {d : Option Addr} {oe : Obj} {pn : List (Addr × Obj)} (C : ExcC X.K D) (hz : Zc cls d oe) (hf : ∃ vs, oe.data = .fields vs) : CallR (X.suite a ((a, oe) :: pn)) (.builtin "isinstance") (rIsX X.K D a cls d) := by
  intro pins s σ H xs us Q I r h
  obtain ⟨c, cv, b, dd, fs, rfl, rfl, hcv, e, rfl, hdd, q⟩ := h
  obtain ⟨u1, u2, rfl, r1, r2⟩ := vals2 r
  obtain rfl : u1 = Value.ref a := r1
  obtain rfl : u2 = cv := hcv.eq r2
  obtain ⟨hget, _⟩ := I.pin (a, oe) (List.mem_append.mpr (.inl List.mem_cons_self))
  obtain ⟨mA, hns, _⟩ : ObjOk X.prog X.w H s.heap dd (.xd fs) := I.hok dd _ hdd
  obtain ⟨od, ho, _⟩ := lookIn_ns hns
  obtain ⟨vs, hv⟩ := hf
  have J : PySem.W.InstAt s.heap a oe D (some od) := ⟨hget, hz.1, by unfold PySem.W.notCls; rw [hv] <;> rfl, by rw [hz.2]; exact ho⟩
  have hcl : (PySem.W.clsIn X.K D).isSome = true := by
    have q := C.hd
    unfold PySem.W.hasDictIn at q
    cases z : PySem.W.clsIn X.K D with
    | some cd => rfl
    | none => rw [z] at q; cases q
  exact PySem.W.kia_one (PySem.W.kitx_exc hcl C.hg C.hk C.hs C.ha C.hn C.ht C.hm) I.kIn J e (fun z => nomatch z) fun tk => ⟨.bl b, H, I.tok tk, rfl, q⟩
end Pn

namespace Pn
open PySem PySem.Spec PyProof.Rows L2
/-! ### the same exceptions, with what is known of their context -/
section
variable {X : Cx} {CX : CXT} {C fI : Addr} {k : Nat} {fd : FuncData} {ps : List Str} {sp : Sp} {ta : TA}
theorem pmk_oexN {x : Str} {e : Expr} {es : List Expr} {p pos : Pos} (T : OexC X.K C) (iC : PySem.W.findIn X.K (.ref C) "__init__" = some (some (.ref fI))) (tI : PySem.W.typeIn X.K (.ref fI) = some (.type "function"))
    (F1 : FnOk X.prog X.w X.K X.mg X.base CX k fI fd ps sp) (room : Room (k + 1) X.A) (bnd : Binds X.K fd ps []) (noE : Passes CX X (fun _ _ _ => False))
    (gl : Gl X x) (at_ : X.mg x = some (.ref C)) (ha : PA X (e :: es) ta) (hdb : (x == ("__debug__" : Str)) = false := by decide)
    (he : starEach (e :: es) X.env = (false, eval e X.env) :: starEach es X.env := by rfl) (hpl : (backTo pos (starEach es X.env)).any (·.1) = false := by rfl) :
    L2N.PMk X (.Call (.Name x p) (e :: es) [] pos) (tMkO C sp [] ta) := by
  intro pins s σ H Q I want
  rcases T.cls with ⟨c1, c2, c3, c4, mro, c5, c6, c7, c8, c9, d0, d1, d2, d3, d5, look, vet⟩
  apply wpAny_Call_Name_kw
  refine ld_glob I gl at_ ?_ hdb
  refine PySem.W.callWith_K (h₀ := X.base) I.ok.mod.kin T.kC ?_ he hpl
  refine thn (ha.run pos pins s σ H _ I want) ?_
  rintro us ⟨hp, gs, dr, tk, os⟩ ⟨vs, H1, J, rel, few, made⟩
  refine ⟨J.kIn, ?_⟩
  let a := hp.objs.size + 1
  let hp2 := (hp.push (PySem.W.kdv_tup us)).push (PySem.HandSPX.excO C hp.objs.size)
  have old : ∀ b o, hp.get? b = some o → hp2.get? b = some o := fun b o z => Heap.get?_push_of_some _ (Heap.get?_push_of_some _ z)
  have fresh : H1 a = none := J.hok.fresh (Nat.le_succ _)
  have there : hp2.get? a = some (PySem.HandSPX.excO C hp.objs.size) := by
    show ((hp.push (PySem.W.kdv_tup us)).push (PySem.HandSPX.excO C hp.objs.size)).get? (hp.objs.size + 1) = _
    heap_get
  have J2 : Inv X pins σ (upd H1 a (exo a C none)) ⟨hp2, gs, dr, tk, os⟩ := J.laid (t' := tk) (a := a) (o := exo a C none) (h' := hp2) old (Nat.le_succ _) (exo_ok there)
  have go := made a fresh
  rw [List.append_nil] at go
  have rel2 : Vals (V.ref a :: vs) (Value.ref a :: us) := .cons (show RelV (.ref a) (Value.ref a) from rfl) rel
  have cnt : (Value.ref a :: us ++ []).length = ps.length := by
    rw [List.append_nil, ← rel2.length]
    exact F1.len _ _ _ _ go
  have bd := bnd ⟨hp2, gs, dr, tk, os⟩ (Value.ref a :: us) J2.kIn cnt
  rw [List.append_nil] at bd
  have lim : us.length ≤ sizeLine := by
    rw [← Paired.length rel, sizeLine_eq]
    omega
  show wpAny _ _ (call (.ref C) us) _ _ _
  refine wpAny_call (PySem.HandSPX.call_own F.excBase_ValueError (fun Y => PySem.HandSPX.refsVE_contains Y mro vet) (J.kIn _ _ look) (PySem.W.looks_findIn J.kIn iC)
    (fun self => PySem.W.bind_fn J.kIn self tI) lim ?_)
  have ran := F1.run _ X.stack _ _ ⟨Value.ref a :: us, []⟩ (Value.ref a :: us) _ _ (fun _ _ _ => False) (room.make C us []) (J2.env0.make C us []) bd rel2 go
  refine codeAny_mono ran ?_
  intro r s' out
  match r, out with
  | .error er, out => exact noE pins σ _ _ er s' J2 out
  | .ok .next, out => exact False.elim out
  | .ok .brk, out => exact False.elim out
  | .ok .cont, out => exact False.elim out
  | .ok (.ret u), out =>
    obtain ⟨v, H2, osame, bare, un, ok2, rv, rfl, d, fs, ea, ed, dn, fin⟩ := out
    obtain ⟨h2, g2, dr2, t2, os2⟩ := s'
    obtain ⟨t0, G, J3, sub, gone, obj, untr⟩ := mk_end0 (d2 := dr2) (t2 := t2) J (Nat.le_succ _) old un ok2 osame bare ea ed dn
    exact ⟨rv, a, _, _, ⟨G, g2, dr2, t2, os2⟩, _, .ref C, some d, rfl, J3, sub, gone, obj, ⟨rfl, rfl, fun ws z => by cases z; rfl⟩, rfl, rfl, untr, rfl, bare, raises_own T.exC T.tyC, fin⟩
end
section
variable {P : Program} {w : World} {K : PySem.W.Frag} {mg : Str → Option Value} {base : Heap}
theorem funD {x qual : Str} {st : Stmt} {f : Addr} {fd : FuncData} (F : Fun K x qual st f fd) : FunD K x qual (defArgs st) (defBody st) (defScope st) [] [] f fd := by
  obtain ⟨oc, od, kV, doc, pm, an, cdv, ct, osl, e, l, c⟩ := F.ex
  exact ⟨⟨oc, od, _, kV, doc, pm, an, cdv, ct, osl, e, l, c, .inl ⟨rfl, rfl⟩, .inl rfl⟩, F.kp⟩
end
end Pn

namespace Pn
open PySem L2
abbrev sNeedName : Stmt := top 21
abbrev sIRInit : Stmt := inClass (top 11) 0
section
variable {P : Program} {w : World} {K : PySem.W.Frag} {mg : Str → Option Value} {base : Heap}
theorem scIRInit : FnScope ["self", "word"] ["self", "word"] (defScope sIRInit) := ⟨rfl, rfl, rfl, by decide +kernel, rfl, by decide +kernel, by decide +kernel⟩
abbrev TIR (K : PySem.W.Frag) (mg : Str → Option Value) := TExc K mg "InvalidRow" "InvalidRow.__init__" "word" sIRInit
theorem okIRInit (T : TIR K mg) : FnOk P w K mg base CX0 1 T.fI T.fd ["self", "word"] (spXInit K "word") := by
  refine T.F.ok scIRInit (fun vs H Q E h => ?_) (fun cdv A outer s H vs Q E hr h => ?_)
  · obtain ⟨a, C, v, rfl, _⟩ := h
    rfl
  · obtain ⟨a, C, v, rfl, ha, O, no, q⟩ := h
    refine ⟨_, pss_one (ps_ost (pv 0) (pv 1)), ?_⟩
    exact ⟨_, rfl, _, rfl, a, C, rfl, O, no, .inl ⟨ha, fun dx h1 h2 => q dx h1 h2⟩⟩
/-- InvalidRow(wd) leaves the def -/
def RaiseW (C : Addr) (H : Hp) (E : XK) (wd : V) : Prop := ∀ (e : Addr) (H' : Hp), Same H H' → Mo H H' → H e = none → H' e = some (.xd [("word", wd)]) → E (.ref C) (some e) H'
theorem RaiseW.back {C : Addr} {H H1 : Hp} {E : XK} {wd : V} (h : RaiseW C H E wd) (s : Same H H1) (m : Mo H H1) : RaiseW C H1 E wd := fun e H' h1 h2 h3 h4 => h e H' (s.trans h1) (m.trans h2) (m e h3) h4
def spNeed (K : PySem.W.Frag) (C : Addr) : Sp := fun vs H Q E => ∃ (v wd : V) (d : PyData), vs = [v, wd] ∧ Dp K H v d ∧ dlen d ∧ (nameD d = true → ∀ H', Same H H' → Mo H H' → Q .non H') ∧ (nameD d = false → RaiseW C H E wd)
structure TNeed (K : PySem.W.Frag) (mg : Str → Option Value) : Type extends TChk K mg where
  IR : TIR K mg
  need : At K mg "need_name" sNeedName ["value", "word"]
theorem scNeed : FnScope ["value", "word"] ["value", "word"] (defScope sNeedName) := ⟨rfl, rfl, rfl, by decide +kernel, rfl, by decide +kernel, by decide +kernel⟩
/-- a new exception of InvalidRow, as its making leaves it -/
theorem ir_made {C : Addr} {H H1 : Hp} {E : XK} {wd : V} (s : Same H H1) (m : Mo H H1) (h : RaiseW C H E wd) {a : Addr} (ha : H1 a = none) (dx : Addr) (h1 : (upd H1 a (exo a C none)) dx = none) (h2 : dx ≠ a) :
    E (.ref C) (some dx) (upd (del (upd (upd (upd H1 a (exo a C none)) dx (exd dx [("word", wd)])) a (exo a C (some dx))) a) dx (.xd [("word", wd)])) := by
  have hd : H1 dx = none := by rw [upd_ne h2] at h1; exact h1
  refine h dx _ (s.trans (same_made ha hd)) (m.trans fun b e => ?_) (m dx hd) upd_same
  by_cases n2 : b = dx
  · rw [n2]; exact hd
  · by_cases n1 : b = a
    · rw [n1]; exact ha
    · rw [upd_ne n2, del_ne n1, upd_ne n1, upd_ne n2, upd_ne n1] at e
      exact e
theorem okNeed (T : TNeed K mg) : FnOk P w K mg base (L2N.CX P w) 3 T.need.f T.need.fd ["value", "word"] (spNeed K T.IR.C) := by
  refine (funD T.need.F).ok scNeed (fun vs H Q E h => ?_) (fun cdv A outer s H vs Q E hr h => ?_)
  · obtain ⟨v, wd, d, rfl, _⟩ := h
    rfl
  · obtain ⟨v, wd, d, rfl, hd, hl, q1, q2⟩ := h
    refine ⟨_, pss_one (ps_if (pt_not (pt_val (pe_call (T.okName) (hr.mono (by decide)) rfl T.isName.m T.isName.F.kp T.isName.b .nil pass0 (pa_cons (pv 0) pa_nil))))
      (pss_one (L2N.ps_raise rfl (L2N.takes_of rfl rfl rfl rfl) (pmk_oexN T.IR.O T.IR.iC T.IR.tI (okIRInit T.IR) (hr.mono (by decide)) T.IR.b pass0 rfl T.IR.m (pa_cons (pv 1) pa_nil)))) pss_nil), ?_⟩
    refine ⟨_, rfl, v, d, rfl, hd, hl, fun H1 hs hm => ?_⟩
    cases hn : nameD d with
    | true => exact ⟨true, rfl, iteF (q1 hn H1 hs hm)⟩
    | false =>
      refine ⟨false, rfl, iteT ?_⟩
      refine ⟨_, rfl, (by show 1 ≤ 1000; decide), fun a ha => ⟨a, T.IR.C, wd, rfl, upd_same, T.IR.O, T.IR.noF, fun dx h1 h2 => ?_⟩⟩
      have hd1 : H1 dx = none := by rw [upd_ne h2] at h1; exact h1
      exact ⟨rfl, dx, _, upd_same, by rw [upd_ne h2, upd_same], hd1, ir_made hs hm (q2 hn) ha dx h1 h2⟩
/-- an own class with an __init__ -/
structure TCls (K : PySem.W.Frag) (mg : Str → Option Value) (x qual : Str) (st : Stmt) (ps : List Str) : Type where
  C : Addr
  fI : Addr
  fd : FuncData
  F : Fun K "__init__" qual st fI fd
  b : Binds K fd ps []
  m : mg x = some (.ref C)
  M : Mk K C fI
  cl : Cls K C
  noW : NoAttr K C "word"
theorem small2 {f g : Str} {v u : V} : (putF g u (putF f v ([] : List (Str × V)))).length < 1000 := by
  unfold putF putF
  simp only
  split
  · show 1 < 1000
    decide
  · show 2 < 1000
    decide
/-- all but the new instance is as it was -/
def KpI (x : Addr) (H H' : Hp) : Prop := ∀ b o, H b = some o → b ≠ x → H' b = some o
/-! ### Keep -/
abbrev sKeepInit : Stmt := inClass (top 25) 0
theorem scKeepInit : FnScope ["self", "counter"] ["self", "counter"] (defScope sKeepInit) := ⟨rfl, rfl, rfl, by decide +kernel, rfl, by decide +kernel, by decide +kernel⟩
structure TKeep (K : PySem.W.Frag) (mg : Str → Option Value) : Type extends TCls K mg "Keep" "Keep.__init__" sKeepInit ["self", "counter"] where
  noF : NoAttr K C "counter"
def insKeep (C dx : Addr) (v : V) : HO := .ins C dx (putF "counter" v (putF "word" (.str "keep") []))
def spKeepInit (K : PySem.W.Frag) (C CR : Addr) : Sp := fun vs H Q E => ∃ (x dx : Addr) (v : V) (d : PyData), vs = [.ref x, v] ∧ H x = some (.ins C dx []) ∧ Dp K H v d ∧ dlen d ∧
  (nameD d = true → ∀ H', KpI x H H' → Mo H H' → H' x = some (insKeep C dx v) → Q .non H') ∧ (nameD d = false → RaiseW CR H E (.str "counter"))
theorem okKeepInit (T : TKeep K mg) (N : TNeed K mg) : FnOk P w K mg base (L2N.CX P w) 4 T.fI T.fd ["self", "counter"] (spKeepInit K T.C N.IR.C) := by
  refine (funD T.F).ok scKeepInit (fun vs H Q E h => ?_) (fun cdv A outer s H vs Q E hr h => ?_)
  · obtain ⟨x, dx, v, d, rfl, _⟩ := h
    rfl
  · obtain ⟨x, dx, v, d, rfl, hx, hd, hl, q1, q2⟩ := h
    refine ⟨_, pss_cons (ps_expr (pe_callS (okNeed N) hr rfl N.need.m N.need.F.kp N.need.b (fun σ => L2N.passAt (L2N.takes_of rfl rfl rfl rfl) σ) (pa_cons (pv 1) (pa_cons pe_str pa_nil))))
      (pss_cons (ps_fld (pv 0) pe_str rfl) (pss_one (ps_fld (pv 0) (pv 1) rfl))), ?_⟩
    refine ⟨_, rfl, v, _, d, rfl, hd, hl, fun hn H1 hs hm => ?_, fun hn => q2 hn⟩
    refine ⟨_, rfl, x, T.C, dx, [], rfl, hs x _ hx, T.cl, T.noW, (by show 0 < 1000; decide), _, rfl, _, rfl, x, T.C, dx, _, rfl, upd_same, T.cl, T.noF, (by show 1 < 1000; decide), ?_⟩
    refine q1 hn _ (fun b o e n => ?_) (hm.trans (Mo.upd.trans Mo.upd)) upd_same
    rw [upd_ne n, upd_ne n]
    exact hs b o e
/-! ### Back -/
abbrev sBackInit : Stmt := inClass (top 26) 0
theorem scBackInit : FnScope ["self", "counter"] ["self", "counter"] (defScope sBackInit) := ⟨rfl, rfl, rfl, by decide +kernel, rfl, by decide +kernel, by decide +kernel⟩
structure TBack (K : PySem.W.Frag) (mg : Str → Option Value) : Type extends TCls K mg "Back" "Back.__init__" sBackInit ["self", "counter"] where
  noF : NoAttr K C "counter"
def insBack (C dx : Addr) (v : V) : HO := .ins C dx (putF "counter" v (putF "word" (.str "back") []))
def spBackInit (K : PySem.W.Frag) (C CR : Addr) : Sp := fun vs H Q E => ∃ (x dx : Addr) (v : V) (d : PyData), vs = [.ref x, v] ∧ H x = some (.ins C dx []) ∧ Dp K H v d ∧ dlen d ∧
  (nameD d = true → ∀ H', KpI x H H' → Mo H H' → H' x = some (insBack C dx v) → Q .non H') ∧ (nameD d = false → RaiseW CR H E (.str "counter"))
theorem okBackInit (T : TBack K mg) (N : TNeed K mg) : FnOk P w K mg base (L2N.CX P w) 4 T.fI T.fd ["self", "counter"] (spBackInit K T.C N.IR.C) := by
  refine (funD T.F).ok scBackInit (fun vs H Q E h => ?_) (fun cdv A outer s H vs Q E hr h => ?_)
  · obtain ⟨x, dx, v, d, rfl, _⟩ := h
    rfl
  · obtain ⟨x, dx, v, d, rfl, hx, hd, hl, q1, q2⟩ := h
    refine ⟨_, pss_cons (ps_expr (pe_callS (okNeed N) hr rfl N.need.m N.need.F.kp N.need.b (fun σ => L2N.passAt (L2N.takes_of rfl rfl rfl rfl) σ) (pa_cons (pv 1) (pa_cons pe_str pa_nil))))
      (pss_cons (ps_fld (pv 0) pe_str rfl) (pss_one (ps_fld (pv 0) (pv 1) rfl))), ?_⟩
    refine ⟨_, rfl, v, _, d, rfl, hd, hl, fun hn H1 hs hm => ?_, fun hn => q2 hn⟩
    refine ⟨_, rfl, x, T.C, dx, [], rfl, hs x _ hx, T.cl, T.noW, (by show 0 < 1000; decide), _, rfl, _, rfl, x, T.C, dx, _, rfl, upd_same, T.cl, T.noF, (by show 1 < 1000; decide), ?_⟩
    refine q1 hn _ (fun b o e n => ?_) (hm.trans (Mo.upd.trans Mo.upd)) upd_same
    rw [upd_ne n, upd_ne n]
    exact hs b o e
/-! ### Ref -/
abbrev sRefInit : Stmt := inClass (top 27) 0
theorem scRefInit : FnScope ["self", "label"] ["self", "label"] (defScope sRefInit) := ⟨rfl, rfl, rfl, by decide +kernel, rfl, by decide +kernel, by decide +kernel⟩
structure TRef (K : PySem.W.Frag) (mg : Str → Option Value) : Type extends TCls K mg "Ref" "Ref.__init__" sRefInit ["self", "label"] where
  noF : NoAttr K C "label"
def insRef (C dx : Addr) (v : V) : HO := .ins C dx (putF "label" v (putF "word" (.str "ref") []))
def spRefInit (K : PySem.W.Frag) (C CR : Addr) : Sp := fun vs H Q E => ∃ (x dx : Addr) (v : V) (d : PyData), vs = [.ref x, v] ∧ H x = some (.ins C dx []) ∧ Dp K H v d ∧ dlen d ∧
  (nameD d = true → ∀ H', KpI x H H' → Mo H H' → H' x = some (insRef C dx v) → Q .non H') ∧ (nameD d = false → RaiseW CR H E (.str "label"))
theorem okRefInit (T : TRef K mg) (N : TNeed K mg) : FnOk P w K mg base (L2N.CX P w) 4 T.fI T.fd ["self", "label"] (spRefInit K T.C N.IR.C) := by
  refine (funD T.F).ok scRefInit (fun vs H Q E h => ?_) (fun cdv A outer s H vs Q E hr h => ?_)
  · obtain ⟨x, dx, v, d, rfl, _⟩ := h
    rfl
  · obtain ⟨x, dx, v, d, rfl, hx, hd, hl, q1, q2⟩ := h
    refine ⟨_, pss_cons (ps_expr (pe_callS (okNeed N) hr rfl N.need.m N.need.F.kp N.need.b (fun σ => L2N.passAt (L2N.takes_of rfl rfl rfl rfl) σ) (pa_cons (pv 1) (pa_cons pe_str pa_nil))))
      (pss_cons (ps_fld (pv 0) pe_str rfl) (pss_one (ps_fld (pv 0) (pv 1) rfl))), ?_⟩
    refine ⟨_, rfl, v, _, d, rfl, hd, hl, fun hn H1 hs hm => ?_, fun hn => q2 hn⟩
    refine ⟨_, rfl, x, T.C, dx, [], rfl, hs x _ hx, T.cl, T.noW, (by show 0 < 1000; decide), _, rfl, _, rfl, x, T.C, dx, _, rfl, upd_same, T.cl, T.noF, (by show 1 < 1000; decide), ?_⟩
    refine q1 hn _ (fun b o e n => ?_) (hm.trans (Mo.upd.trans Mo.upd)) upd_same
    rw [upd_ne n, upd_ne n]
    exact hs b o e
/-! ### Put -/
abbrev sPutInit : Stmt := inClass (top 28) 0
theorem scPutInit : FnScope ["self", "part"] ["self", "part"] (defScope sPutInit) := ⟨rfl, rfl, rfl, by decide +kernel, rfl, by decide +kernel, by decide +kernel⟩
structure TPut (K : PySem.W.Frag) (mg : Str → Option Value) : Type extends TCls K mg "Put" "Put.__init__" sPutInit ["self", "part"] where
  noF : NoAttr K C "part"
def insPut (C dx : Addr) (v : V) : HO := .ins C dx (putF "part" v (putF "word" (.str "put") []))
def spPutInit (K : PySem.W.Frag) (C CR : Addr) : Sp := fun vs H Q E => ∃ (x dx : Addr) (v : V) (d : PyData), vs = [.ref x, v] ∧ H x = some (.ins C dx []) ∧ Dp K H v d ∧ dlen d ∧
  (nameD d = true → ∀ H', KpI x H H' → Mo H H' → H' x = some (insPut C dx v) → Q .non H') ∧ (nameD d = false → RaiseW CR H E (.str "part"))
theorem okPutInit (T : TPut K mg) (N : TNeed K mg) : FnOk P w K mg base (L2N.CX P w) 4 T.fI T.fd ["self", "part"] (spPutInit K T.C N.IR.C) := by
  refine (funD T.F).ok scPutInit (fun vs H Q E h => ?_) (fun cdv A outer s H vs Q E hr h => ?_)
  · obtain ⟨x, dx, v, d, rfl, _⟩ := h
    rfl
  · obtain ⟨x, dx, v, d, rfl, hx, hd, hl, q1, q2⟩ := h
    refine ⟨_, pss_cons (ps_expr (pe_callS (okNeed N) hr rfl N.need.m N.need.F.kp N.need.b (fun σ => L2N.passAt (L2N.takes_of rfl rfl rfl rfl) σ) (pa_cons (pv 1) (pa_cons pe_str pa_nil))))
      (pss_cons (ps_fld (pv 0) pe_str rfl) (pss_one (ps_fld (pv 0) (pv 1) rfl))), ?_⟩
    refine ⟨_, rfl, v, _, d, rfl, hd, hl, fun hn H1 hs hm => ?_, fun hn => q2 hn⟩
    refine ⟨_, rfl, x, T.C, dx, [], rfl, hs x _ hx, T.cl, T.noW, (by show 0 < 1000; decide), _, rfl, _, rfl, x, T.C, dx, _, rfl, upd_same, T.cl, T.noF, (by show 1 < 1000; decide), ?_⟩
    refine q1 hn _ (fun b o e n => ?_) (hm.trans (Mo.upd.trans Mo.upd)) upd_same
    rw [upd_ne n, upd_ne n]
    exact hs b o e
/-! ### Open -/
abbrev sOpenInit : Stmt := inClass (top 29) 0
theorem scOpenInit : FnScope ["self", "name"] ["self", "name"] (defScope sOpenInit) := ⟨rfl, rfl, rfl, by decide +kernel, rfl, by decide +kernel, by decide +kernel⟩
structure TOpen (K : PySem.W.Frag) (mg : Str → Option Value) : Type extends TCls K mg "Open" "Open.__init__" sOpenInit ["self", "name"] where
  noF : NoAttr K C "name"
def insOpen (C dx : Addr) (v : V) : HO := .ins C dx (putF "name" v (putF "word" (.str "open") []))
def spOpenInit (K : PySem.W.Frag) (C CR : Addr) : Sp := fun vs H Q E => ∃ (x dx : Addr) (v : V) (d : PyData), vs = [.ref x, v] ∧ H x = some (.ins C dx []) ∧ Dp K H v d ∧ dlen d ∧
  (nameD d = true → ∀ H', KpI x H H' → Mo H H' → H' x = some (insOpen C dx v) → Q .non H') ∧ (nameD d = false → RaiseW CR H E (.str "name"))
theorem okOpenInit (T : TOpen K mg) (N : TNeed K mg) : FnOk P w K mg base (L2N.CX P w) 4 T.fI T.fd ["self", "name"] (spOpenInit K T.C N.IR.C) := by
  refine (funD T.F).ok scOpenInit (fun vs H Q E h => ?_) (fun cdv A outer s H vs Q E hr h => ?_)
  · obtain ⟨x, dx, v, d, rfl, _⟩ := h
    rfl
  · obtain ⟨x, dx, v, d, rfl, hx, hd, hl, q1, q2⟩ := h
    refine ⟨_, pss_cons (ps_expr (pe_callS (okNeed N) hr rfl N.need.m N.need.F.kp N.need.b (fun σ => L2N.passAt (L2N.takes_of rfl rfl rfl rfl) σ) (pa_cons (pv 1) (pa_cons pe_str pa_nil))))
      (pss_cons (ps_fld (pv 0) pe_str rfl) (pss_one (ps_fld (pv 0) (pv 1) rfl))), ?_⟩
    refine ⟨_, rfl, v, _, d, rfl, hd, hl, fun hn H1 hs hm => ?_, fun hn => q2 hn⟩
    refine ⟨_, rfl, x, T.C, dx, [], rfl, hs x _ hx, T.cl, T.noW, (by show 0 < 1000; decide), _, rfl, _, rfl, x, T.C, dx, _, rfl, upd_same, T.cl, T.noF, (by show 1 < 1000; decide), ?_⟩
    refine q1 hn _ (fun b o e n => ?_) (hm.trans (Mo.upd.trans Mo.upd)) upd_same
    rw [upd_ne n, upd_ne n]
    exact hs b o e
/-! ### Note, Skip, Set -/
abbrev sNoteInit : Stmt := inClass (top 22) 0
theorem scNoteInit : FnScope ["self", "counter", "label"] ["self", "counter", "label"] (defScope sNoteInit) := ⟨rfl, rfl, rfl, by decide +kernel, rfl, by decide +kernel, by decide +kernel⟩
structure TNote (K : PySem.W.Frag) (mg : Str → Option Value) : Type where
  C : Addr
  fI : Addr
  fd : FuncData
  F : FunD K "__init__" "Note.__init__" (defArgs sNoteInit) (defBody sNoteInit) (defScope sNoteInit) [.str ""] [] fI fd
  b : Binds K fd ["self", "counter", "label"] []
  m : mg "Note" = some (.ref C)
  M : Mk K C fI
  cl : Cls K C
  noW : NoAttr K C "word"
  noC : NoAttr K C "counter"
  noL : NoAttr K C "label"
def insNote (C dx : Addr) (v u : V) : HO := .ins C dx (putF "label" u (putF "counter" v (putF "word" (.str "note") [])))
/-- the label of a note -/
def labD (d : PyData) : Bool := PyData.eqv d (.str "") || nameD d
def spNoteInit (K : PySem.W.Frag) (C CR : Addr) : Sp := fun vs H Q E => ∃ (x dx : Addr) (v u : V) (d e : PyData), vs = [.ref x, v, u] ∧ H x = some (.ins C dx []) ∧ Dp K H v d ∧ dlen d ∧ Dp K H u e ∧ dlen e ∧ SeqAt.shaped e = true ∧
  (nameD d = true → labD e = true → ∀ H', KpI x H H' → Mo H H' → H' x = some (insNote C dx v u) → Q .non H') ∧ (nameD d = false → RaiseW CR H E (.str "counter")) ∧ (nameD d = true → labD e = false → RaiseW CR H E (.str "label"))
theorem okNoteInit (T : TNote K mg) (N : TNeed K mg) : FnOk P w K mg base (L2N.CX P w) 4 T.fI T.fd ["self", "counter", "label"] (spNoteInit K T.C N.IR.C) := by
  refine T.F.ok scNoteInit (fun vs H Q E h => ?_) (fun cdv A outer s H vs Q E hr h => ?_)
  · obtain ⟨x, dx, v, u, d, e, rfl, _⟩ := h
    rfl
  · obtain ⟨x, dx, v, u, d, e, rfl, hx, hd, hl, he, hl2, hsh, q1, q2, q3⟩ := h
    refine ⟨_, pss_cons (ps_expr (pe_callS (okNeed N) hr rfl N.need.m N.need.F.kp N.need.b (fun σ => L2N.passAt (L2N.takes_of rfl rfl rfl rfl) σ) (pa_cons (pv 1) (pa_cons pe_str pa_nil))))
      (pss_cons (ps_if (pt_cmpR (op_neD hr.units) (pv 2) pe_str (nomark _)) (pss_one (ps_expr (pe_callS (okNeed N) hr rfl N.need.m N.need.F.kp N.need.b (fun σ => L2N.passAt (L2N.takes_of rfl rfl rfl rfl) σ) (pa_cons (pv 2) (pa_cons pe_str pa_nil))))) pss_nil)
      (pss_cons (ps_fld (pv 0) pe_str rfl) (pss_cons (ps_fld (pv 0) (pv 1) rfl) (pss_one (ps_fld (pv 0) (pv 2) rfl))))), ?_⟩
    refine ⟨_, rfl, v, _, d, rfl, hd, hl, fun hn H1 hs hm => ?_, fun hn => q2 hn⟩
    refine ⟨_, rfl, e, .str "", dp_same hs e u he, .str "", hsh, (by decide +kernel), _, rfl, ?_⟩
    have fin : ∀ (H2 : Hp) (o1 o2 : HO), labD e = true → Same H H2 → Mo H H2 → Q .non (upd (upd (upd H2 x o1) x o2) x (insNote T.C dx v u)) := fun H2 o1 o2 hlab hs2 hm2 => q1 hn hlab _ (fun b o eb n => by
      rw [upd_ne n, upd_ne n, upd_ne n]
      exact hs2 b o eb) (hm2.trans (Mo.upd.trans (Mo.upd.trans Mo.upd))) upd_same
    cases h1 : PyData.eqv e (.str "") with
    | true =>
      refine iteF ?_
      have hlab : labD e = true := by unfold labD; rw [h1]; rfl
      refine ⟨_, rfl, x, T.C, dx, [], rfl, hs x _ hx, T.cl, T.noW, (by show 0 < 1000; decide), _, rfl, _, rfl, x, T.C, dx, _, rfl, upd_same, T.cl, T.noC, (by show 1 < 1000; decide), _, rfl, _, rfl, x, T.C, dx, _, rfl, upd_same, T.cl, T.noL, ?_, ?_⟩
      · exact small2
      · exact fin H1 _ _ hlab hs hm
    | false =>
      refine iteT ?_
      refine ⟨_, rfl, u, _, e, rfl, dp_same hs e u he, hl2, fun hn2 H2 hs2 hm2 => ?_, fun hn2 => ?_⟩
      · have hlab : labD e = true := by unfold labD; rw [hn2, Bool.or_true]
        refine ⟨_, rfl, x, T.C, dx, [], rfl, hs2 x _ (hs x _ hx), T.cl, T.noW, (by show 0 < 1000; decide), _, rfl, _, rfl, x, T.C, dx, _, rfl, upd_same, T.cl, T.noC, (by show 1 < 1000; decide), _, rfl, _, rfl, x, T.C, dx, _, rfl, upd_same, T.cl, T.noL, ?_, ?_⟩
        · exact small2
        · exact fin H2 _ _ hlab (hs.trans hs2) (hm.trans hm2)
      · have hlab : labD e = false := by unfold labD; rw [h1, hn2]; rfl
        exact (q3 hn hlab).back hs hm
abbrev sSkipInit : Stmt := inClass (top 23) 0
theorem scSkipInit : FnScope ["self", "counter", "by"] ["self", "counter", "by"] (defScope sSkipInit) := ⟨rfl, rfl, rfl, by decide +kernel, rfl, by decide +kernel, by decide +kernel⟩
structure TSkip (K : PySem.W.Frag) (mg : Str → Option Value) : Type extends TCls K mg "Skip" "Skip.__init__" sSkipInit ["self", "counter", "by"] where
  noC : NoAttr K C "counter"
  noF : NoAttr K C "by"
def insSkip (C dx : Addr) (v u : V) : HO := .ins C dx (putF "by" u (putF "counter" v (putF "word" (.str "skip") [])))
def skipD (d : PyData) : Bool := numD d && (match d with | .int i => decide (i ≠ 0) | _ => false)
def spSkipInit (K : PySem.W.Frag) (C CR : Addr) : Sp := fun vs H Q E => ∃ (x dx : Addr) (v u : V) (d e : PyData), vs = [.ref x, v, u] ∧ H x = some (.ins C dx []) ∧ Dp K H v d ∧ dlen d ∧ Dp K H u e ∧
  (nameD d = true → skipD e = true → ∀ H', KpI x H H' → Mo H H' → H' x = some (insSkip C dx v u) → Q .non H') ∧ (nameD d = false → RaiseW CR H E (.str "counter")) ∧ (nameD d = true → skipD e = false → RaiseW CR H E (.str "by"))
theorem okSkipInit (T : TSkip K mg) (N : TNeed K mg) : FnOk P w K mg base (L2N.CX P w) 4 T.fI T.fd ["self", "counter", "by"] (spSkipInit K T.C N.IR.C) := by
  refine (funD T.F).ok scSkipInit (fun vs H Q E h => ?_) (fun cdv A outer s H vs Q E hr h => ?_)
  · obtain ⟨x, dx, v, u, d, e, rfl, _⟩ := h
    rfl
  · obtain ⟨x, dx, v, u, d, e, rfl, hx, hd, hl, he, q1, q2, q3⟩ := h
    refine ⟨_, pss_cons (ps_expr (pe_callS (okNeed N) hr rfl N.need.m N.need.F.kp N.need.b (fun σ => L2N.passAt (L2N.takes_of rfl rfl rfl rfl) σ) (pa_cons (pv 1) (pa_cons pe_str pa_nil))))
      (pss_cons (ps_if (PW.pt (pw_or (pt_not (pt_val (pe_call N.okNumber (hr.mono (by decide)) rfl N.isNumber.m N.isNumber.F.kp N.isNumber.b .nil pass0 (pa_cons (pv 2) pa_nil)))) (pw_or1 (pt_cmpR op_eq (pv 2) pe_int (nomark _)))))
        (pss_one (L2N.ps_raise rfl (L2N.takes_of rfl rfl rfl rfl) (pmk_oexN N.IR.O N.IR.iC N.IR.tI (okIRInit N.IR) (hr.mono (by decide)) N.IR.b pass0 rfl N.IR.m (pa_cons pe_str pa_nil)))) pss_nil)
      (pss_cons (ps_fld (pv 0) pe_str rfl) (pss_cons (ps_fld (pv 0) (pv 1) rfl) (pss_one (ps_fld (pv 0) (pv 2) rfl))))), ?_⟩
    refine ⟨_, rfl, v, _, d, rfl, hd, hl, fun hn H1 hs hm => ?_, fun hn => q2 hn⟩
    have he1 := dp_same hs e u he
    have raises : skipD e = false → ∀ a, H1 a = none → ∀ dx2, (upd H1 a (exo a N.IR.C none)) dx2 = none → dx2 ≠ a → _ := fun hf a ha dx2 h1 h2 => ir_made hs hm (q3 hn hf) ha dx2 h1 h2
    refine ⟨_, rfl, u, e, rfl, he1, ?_⟩
    cases h1 : numD e with
    | false =>
      have hg : skipD e = false := by unfold skipD; rw [h1]; rfl
      refine ⟨_, rfl, ?_⟩
      refine iteT ?_
      refine iteT ?_
      refine ⟨(by show 1 ≤ 1000; decide), fun a ha => ⟨a, N.IR.C, _, rfl, upd_same, N.IR.O, N.IR.noF, fun dx2 h1 h2 => ?_⟩⟩
      have hd1 : H1 dx2 = none := by rw [upd_ne h2] at h1; exact h1
      exact ⟨rfl, dx2, _, upd_same, by rw [upd_ne h2, upd_same], hd1, raises hg a ha dx2 h1 h2⟩
    | true =>
      refine ⟨_, rfl, ?_⟩
      refine iteF ?_
      obtain ⟨i, rfl⟩ : ∃ i : Int, e = .int i := by
        cases e <;> first | exact ⟨_, rfl⟩ | (exact absurd h1 (by decide)) | cases h1
      cases he1
      refine ⟨_, rfl, rfl, _, rfl, ?_⟩
      refine ite2 (fun hz => ?_) (fun hz => ?_)
      · have hz2 : V.int i = V.int 0 := of_decide_eq_true hz
        have hg : skipD (.int i) = false := by
          cases hz2
          rfl
        refine ⟨(by show 1 ≤ 1000; decide), fun a ha => ⟨a, N.IR.C, _, rfl, upd_same, N.IR.O, N.IR.noF, fun dx2 h1 h2 => ?_⟩⟩
        have hd1 : H1 dx2 = none := by rw [upd_ne h2] at h1; exact h1
        exact ⟨rfl, dx2, _, upd_same, by rw [upd_ne h2, upd_same], hd1, raises hg a ha dx2 h1 h2⟩
      · have hz2 : ¬ V.int i = V.int 0 := fun z => hz (decide_eq_true z)
        have hg : skipD (.int i) = true := by
          unfold skipD
          rw [h1]
          exact decide_eq_true (fun z => hz2 (by cases z; rfl))
        refine ⟨_, rfl, x, T.C, dx, [], rfl, hs x _ hx, T.cl, T.noW, (by show 0 < 1000; decide), _, rfl, _, rfl, x, T.C, dx, _, rfl, upd_same, T.cl, T.noC, (by show 1 < 1000; decide), _, rfl, _, rfl, x, T.C, dx, _, rfl, upd_same, T.cl, T.noF, small2, ?_⟩
        refine q1 hn hg _ (fun b o eb n => ?_) (hm.trans (Mo.upd.trans (Mo.upd.trans Mo.upd))) upd_same
        rw [upd_ne n, upd_ne n, upd_ne n]
        exact hs b o eb
abbrev sSetInit : Stmt := inClass (top 24) 0
theorem scSetInit : FnScope ["self", "counter", "to"] ["self", "counter", "to"] (defScope sSetInit) := ⟨rfl, rfl, rfl, by decide +kernel, rfl, by decide +kernel, by decide +kernel⟩
structure TSet (K : PySem.W.Frag) (mg : Str → Option Value) : Type extends TCls K mg "Set" "Set.__init__" sSetInit ["self", "counter", "to"] where
  noC : NoAttr K C "counter"
  noF : NoAttr K C "to"
def insSet (C dx : Addr) (v u : V) : HO := .ins C dx (putF "to" u (putF "counter" v (putF "word" (.str "set") [])))
def setD (d : PyData) : Bool := numD d
def spSetInit (K : PySem.W.Frag) (C CR : Addr) : Sp := fun vs H Q E => ∃ (x dx : Addr) (v u : V) (d e : PyData), vs = [.ref x, v, u] ∧ H x = some (.ins C dx []) ∧ Dp K H v d ∧ dlen d ∧ Dp K H u e ∧
  (nameD d = true → setD e = true → ∀ H', KpI x H H' → Mo H H' → H' x = some (insSet C dx v u) → Q .non H') ∧ (nameD d = false → RaiseW CR H E (.str "counter")) ∧ (nameD d = true → setD e = false → RaiseW CR H E (.str "to"))
theorem okSetInit (T : TSet K mg) (N : TNeed K mg) : FnOk P w K mg base (L2N.CX P w) 4 T.fI T.fd ["self", "counter", "to"] (spSetInit K T.C N.IR.C) := by
  refine (funD T.F).ok scSetInit (fun vs H Q E h => ?_) (fun cdv A outer s H vs Q E hr h => ?_)
  · obtain ⟨x, dx, v, u, d, e, rfl, _⟩ := h
    rfl
  · obtain ⟨x, dx, v, u, d, e, rfl, hx, hd, hl, he, q1, q2, q3⟩ := h
    refine ⟨_, pss_cons (ps_expr (pe_callS (okNeed N) hr rfl N.need.m N.need.F.kp N.need.b (fun σ => L2N.passAt (L2N.takes_of rfl rfl rfl rfl) σ) (pa_cons (pv 1) (pa_cons pe_str pa_nil))))
      (pss_cons (ps_if ((pt_not (pt_val (pe_call N.okNumber (hr.mono (by decide)) rfl N.isNumber.m N.isNumber.F.kp N.isNumber.b .nil pass0 (pa_cons (pv 2) pa_nil)))))
        (pss_one (L2N.ps_raise rfl (L2N.takes_of rfl rfl rfl rfl) (pmk_oexN N.IR.O N.IR.iC N.IR.tI (okIRInit N.IR) (hr.mono (by decide)) N.IR.b pass0 rfl N.IR.m (pa_cons pe_str pa_nil)))) pss_nil)
      (pss_cons (ps_fld (pv 0) pe_str rfl) (pss_cons (ps_fld (pv 0) (pv 1) rfl) (pss_one (ps_fld (pv 0) (pv 2) rfl))))), ?_⟩
    refine ⟨_, rfl, v, _, d, rfl, hd, hl, fun hn H1 hs hm => ?_, fun hn => q2 hn⟩
    have he1 := dp_same hs e u he
    have raises : setD e = false → ∀ a, H1 a = none → ∀ dx2, (upd H1 a (exo a N.IR.C none)) dx2 = none → dx2 ≠ a → _ := fun hf a ha dx2 h1 h2 => ir_made hs hm (q3 hn hf) ha dx2 h1 h2
    refine ⟨_, rfl, u, e, rfl, he1, ?_⟩
    cases hg : setD e with
    | true =>
      have hg2 : numD e = true := hg
      refine ⟨_, by rw [hg2], ?_⟩
      refine iteF ?_
      refine ⟨_, rfl, x, T.C, dx, [], rfl, hs x _ hx, T.cl, T.noW, (by show 0 < 1000; decide), _, rfl, _, rfl, x, T.C, dx, _, rfl, upd_same, T.cl, T.noC, (by show 1 < 1000; decide), _, rfl, _, rfl, x, T.C, dx, _, rfl, upd_same, T.cl, T.noF, small2, ?_⟩
      refine q1 hn hg _ (fun b o eb n => ?_) (hm.trans (Mo.upd.trans (Mo.upd.trans Mo.upd))) upd_same
      rw [upd_ne n, upd_ne n, upd_ne n]
      exact hs b o eb
    | false =>
      have hg2 : numD e = false := hg
      refine ⟨_, by rw [hg2], ?_⟩
      refine iteT ?_
      refine ⟨(by show 1 ≤ 1000; decide), fun a ha => ⟨a, N.IR.C, _, rfl, upd_same, N.IR.O, N.IR.noF, fun dx2 h1 h2 => ?_⟩⟩
      have hd1 : H1 dx2 = none := by rw [upd_ne h2] at h1; exact h1
      exact ⟨rfl, dx2, _, upd_same, by rw [upd_ne h2, upd_same], hd1, raises hg a ha dx2 h1 h2⟩
end
end Pn

namespace Pn
open PySem L2
section
variable {X : Cx} {CX : CXT} {k : Nat} {f C : Addr} {fd : FuncData} {ps : List Str} {sp : Sp} {E : XK}
/-- the run of a def within a deeper around -/
theorem run_fnA {A' : Around} {pins : List (Addr × Obj)} {σ : L2.St} {H : Hp} {s : Shared} {Q : VK} {us : List Value} {vs : List V} (F : FnOk X.prog X.w X.K X.mg X.base CX k f fd ps sp) (hr : Room k A') (e0 : Env0 X.prog X.w X.K X.mg X.base A' X.stack s H) (hb : Binds X.K fd ps []) (hx : Passes CX X E)
    (I : Inv X pins σ H s) (r : Vals vs us) (h : sp vs H Q E) : wpAny (model X.prog X.w) A' (call (.ref f) us) (EP X pins σ Q) X.xe s := by
  have hl : (us ++ []).length = ps.length := by rw [List.append_nil, ← r.length]; exact F.len _ _ _ _ h
  have hbb := hb s us I.kIn hl
  rw [List.append_nil] at hbb
  refine wpAny_call (codeAny_mono (F.run A' X.stack s H ⟨us, []⟩ us vs Q E hr e0 hbb r h) fun x s' hq => ?_)
  cases x with
  | error e => exact hx pins σ H s e s' I hq
  | ok fl =>
    cases fl with
    | ret u => exact I.after hq
    | next => exact hq.elim
    | brk => exact hq.elim
    | cont => exact hq.elim
/-- str(x), x an instance whose class has a __str__ of its own -/
def rStrIns (K : PySem.W.Frag) (f : Addr) (sp : Sp) (E : XK) : List V → Hp → VK → Prop := fun xs H Q => ∃ (a C dx : Addr) (fs : List (Str × V)), xs = [.ref a] ∧ H a = some (.ins C dx fs) ∧ PySem.W.findIn K (.ref C) "__str__" = some (some (.ref f)) ∧ sp [.ref a] H (fun v H' => ∃ z, v = .str z ∧ Q (.str z) H') E
theorem call_strIns (F : FnOk X.prog X.w X.K X.mg X.base CX k f fd ps sp) (hf : PySem.W.isFn X.K (.ref f) = true) (hr : Room (k + 2) X.A) (hb : Binds X.K fd ps []) (hx : Passes CX X E) : CallR X (.type "str") (rStrIns X.K f sp E) := by
  intro pins s σ H xs us Q I r h
  obtain ⟨a, C, dx, fs, rfl, ha, hs, q⟩ := h
  obtain ⟨u, rfl, ru⟩ := r.one
  obtain rfl : u = Value.ref a := ru
  obtain ⟨mA, O, _⟩ := ins_get I.hok ha
  obtain ⟨od, J, _⟩ := O.look
  have hr2 : Room k X.A.in1.in1 := (show Room (k + 1) X.A.in1 from Room.in1 hr).in1
  refine PySem.W.kso_call (by have := hr2.un; omega) I.kIn J hs hf (wpAny_mono (run_fnA F hr2 I.env0.in1.in1 hb hx I (.cons (show RelV (.ref a) (Value.ref a) from rfl) .nil) q) (fun v s' z => ?_) fun _ _ x => x)
  obtain ⟨z', H', I', rz, t, ez, qz⟩ := z
  subst ez
  obtain ⟨tk, e⟩ := (show ∃ tk, v = Value.str t tk from rz)
  cases e
  exact ⟨.str t, H', I', ⟨tk, rfl⟩, qz⟩
end
end Pn

namespace Pn
open PySem L2 TL
/-! ### rows as data -/
inductive RowD where
  | note (c l : Str) | skip (c : Str) (n : Nat) | set (c : Str) (n : Nat) | keep (c : Str) | back (c : Str) | ref (l : Str) | put (p : Str) | opn (x : Str)
structure TRows (K : PySem.W.Frag) (mg : Str → Option Value) : Type where
  N : TNeed K mg
  note : TNote K mg
  skip : TSkip K mg
  set : TSet K mg
  keep : TKeep K mg
  back : TBack K mg
  ref : TRef K mg
  put : TPut K mg
  open_ : TOpen K mg
def numStr (n : Nat) : Str := Str.ofString (toString ((n : Nat) : Int))
/-- the words of a row's text -/
def rowWords : RowD → List Str
  | .note c l => if l = "" then ["note", c] else ["note", c, l]
  | .skip c n => ["skip", c, numStr n]
  | .set c n => ["set", c, numStr n]
  | .keep c => ["keep", c]
  | .back c => ["back", c]
  | .ref l => ["ref", l]
  | .put p => ["put", p]
  | .opn x => ["open", x]
def rowText (r : RowD) : Str := Txt.join " " (rowWords r)
/-- how large the texts and numbers of a row are -/
def rowSmall : RowD → Prop
  | .note c l => c.length ≤ 100 ∧ l.length ≤ 100
  | .skip c n => c.length ≤ 100 ∧ n < 10 ^ 20
  | .set c n => c.length ≤ 100 ∧ n < 10 ^ 20
  | .keep c => c.length ≤ 100
  | .back c => c.length ≤ 100
  | .ref c => c.length ≤ 100
  | .put c => c.length ≤ 100
  | .opn c => c.length ≤ 100
theorem join2 (a b : Str) {ab : Str} (h : tl ab = tl a ++ [32]) : Str.empty ++ ab ++ b = Txt.join " " [a, b] := by
  rw [join_eq]
  apply ext_tl
  rw [tl_join]
  show tl (Str.empty ++ ab ++ b) = tl a ++ (tl (" " : Str) ++ tl b)
  rw [tl_append, tl_append, h]
  show [] ++ (tl a ++ [32]) ++ tl b = tl a ++ ([32] ++ tl b)
  simp
theorem join3 (a b c : Str) {ab s : Str} (h : tl ab = tl a ++ [32]) (hs : s = " ") : Str.empty ++ ab ++ b ++ s ++ c = Txt.join " " [a, b, c] := by
  subst hs
  rw [join_eq]
  apply ext_tl
  rw [tl_join]
  show tl (Str.empty ++ ab ++ b ++ (" " : Str) ++ c) = tl a ++ (tl (" " : Str) ++ (tl b ++ (tl (" " : Str) ++ tl c)))
  rw [tl_append, tl_append, tl_append, tl_append, h]
  show [] ++ (tl a ++ [32]) ++ tl b ++ [32] ++ tl c = tl a ++ ([32] ++ (tl b ++ ([32] ++ tl c)))
  simp
section
variable {P : Program} {w : World} {K : PySem.W.Frag} {mg : Str → Option Value} {base : Heap}
/-- a row's instance -/
def insRow (T : TRows K mg) (dx : Addr) : RowD → HO
  | .note c l => insNote T.note.C dx (.str c) (.str l)
  | .skip c n => insSkip T.skip.C dx (.str c) (.int (n : Int))
  | .set c n => insSet T.set.C dx (.str c) (.int (n : Int))
  | .keep c => insKeep T.keep.C dx (.str c)
  | .back c => insBack T.back.C dx (.str c)
  | .ref c => insRef T.ref.C dx (.str c)
  | .put c => insPut T.put.C dx (.str c)
  | .opn c => insOpen T.open_.C dx (.str c)
def RowAt (T : TRows K mg) (H : Hp) (a : Addr) (r : RowD) : Prop := ∃ dx, H a = some (insRow T dx r)
/-- a method of one argument of an own class -/
structure TStr (K : PySem.W.Frag) (C : Addr) (qual : Str) (st : Stmt) : Type where
  f : Addr
  fd : FuncData
  F : Fun K "__str__" qual st f fd
  b : Binds K fd ["self"] []
  hs : PySem.W.findIn K (.ref C) "__str__" = some (some (.ref f))
  hf : PySem.W.isFn K (.ref f) = true
abbrev sNoteStr : Stmt := inClass (top 22) 1
theorem scNoteStr : FnScope ["self"] ["self"] (defScope sNoteStr) := ⟨rfl, rfl, rfl, by decide +kernel, rfl, by decide +kernel, by decide +kernel⟩
abbrev sSkipStr : Stmt := inClass (top 23) 1
theorem scSkipStr : FnScope ["self"] ["self"] (defScope sSkipStr) := ⟨rfl, rfl, rfl, by decide +kernel, rfl, by decide +kernel, by decide +kernel⟩
abbrev sSetStr : Stmt := inClass (top 24) 1
theorem scSetStr : FnScope ["self"] ["self"] (defScope sSetStr) := ⟨rfl, rfl, rfl, by decide +kernel, rfl, by decide +kernel, by decide +kernel⟩
abbrev sKeepStr : Stmt := inClass (top 25) 1
theorem scKeepStr : FnScope ["self"] ["self"] (defScope sKeepStr) := ⟨rfl, rfl, rfl, by decide +kernel, rfl, by decide +kernel, by decide +kernel⟩
theorem fld_keep {v : V} : (putF "counter" v (putF "word" (.str "keep") [])).lookup ("counter" : Str) = some v := by
  rw [lookup_putF, if_pos rfl]
def spKeepStr (T : TRows K mg) : Sp := fun vs H Q _ => ∃ (a : Addr) (c : Str), vs = [.ref a] ∧ RowAt T H a (.keep c) ∧ c.length ≤ 100 ∧ Q (.str (rowText (.keep c))) H
theorem okKeepStr (T : TRows K mg) (S : TStr K T.keep.C "Keep.__str__" sKeepStr) : FnOk P w K mg base CX0 1 S.f S.fd ["self"] (spKeepStr T) := by
  refine S.F.ok scKeepStr (fun vs H Q E h => ?_) (fun cdv A outer s H vs Q E hr h => ?_)
  · obtain ⟨a, c, rfl, _⟩ := h
    rfl
  · obtain ⟨a, c, rfl, ⟨dx, ha⟩, hl, q⟩ := h
    refine ⟨_, pss_one (ps_ret (pe_joined (.cons pe_str (.cons (pe_fmt (pe_fld (pv 0) rfl)) .nil)))), ?_⟩
    refine ⟨_, rfl, (by decide +kernel), _, rfl, a, T.keep.C, dx, _, .str c, rfl, ha, T.keep.cl, T.keep.noF, fld_keep, .inl ⟨c, rfl, Nat.le_trans hl (by decide), c, rfl, ?_, ?_⟩⟩
    · rw [strLen_append]
      exact Nat.le_trans (Nat.add_le_add_left hl _) (by decide +kernel)
    · rw [join2 "keep" c (by decide +kernel)]
      exact q
abbrev sBackStr : Stmt := inClass (top 26) 1
theorem scBackStr : FnScope ["self"] ["self"] (defScope sBackStr) := ⟨rfl, rfl, rfl, by decide +kernel, rfl, by decide +kernel, by decide +kernel⟩
theorem fld_back {v : V} : (putF "counter" v (putF "word" (.str "back") [])).lookup ("counter" : Str) = some v := by
  rw [lookup_putF, if_pos rfl]
def spBackStr (T : TRows K mg) : Sp := fun vs H Q _ => ∃ (a : Addr) (c : Str), vs = [.ref a] ∧ RowAt T H a (.back c) ∧ c.length ≤ 100 ∧ Q (.str (rowText (.back c))) H
theorem okBackStr (T : TRows K mg) (S : TStr K T.back.C "Back.__str__" sBackStr) : FnOk P w K mg base CX0 1 S.f S.fd ["self"] (spBackStr T) := by
  refine S.F.ok scBackStr (fun vs H Q E h => ?_) (fun cdv A outer s H vs Q E hr h => ?_)
  · obtain ⟨a, c, rfl, _⟩ := h
    rfl
  · obtain ⟨a, c, rfl, ⟨dx, ha⟩, hl, q⟩ := h
    refine ⟨_, pss_one (ps_ret (pe_joined (.cons pe_str (.cons (pe_fmt (pe_fld (pv 0) rfl)) .nil)))), ?_⟩
    refine ⟨_, rfl, (by decide +kernel), _, rfl, a, T.back.C, dx, _, .str c, rfl, ha, T.back.cl, T.back.noF, fld_back, .inl ⟨c, rfl, Nat.le_trans hl (by decide), c, rfl, ?_, ?_⟩⟩
    · rw [strLen_append]
      exact Nat.le_trans (Nat.add_le_add_left hl _) (by decide +kernel)
    · rw [join2 "back" c (by decide +kernel)]
      exact q
abbrev sRefStr : Stmt := inClass (top 27) 1
theorem scRefStr : FnScope ["self"] ["self"] (defScope sRefStr) := ⟨rfl, rfl, rfl, by decide +kernel, rfl, by decide +kernel, by decide +kernel⟩
theorem fld_ref {v : V} : (putF "label" v (putF "word" (.str "ref") [])).lookup ("label" : Str) = some v := by
  rw [lookup_putF, if_pos rfl]
def spRefStr (T : TRows K mg) : Sp := fun vs H Q _ => ∃ (a : Addr) (c : Str), vs = [.ref a] ∧ RowAt T H a (.ref c) ∧ c.length ≤ 100 ∧ Q (.str (rowText (.ref c))) H
theorem okRefStr (T : TRows K mg) (S : TStr K T.ref.C "Ref.__str__" sRefStr) : FnOk P w K mg base CX0 1 S.f S.fd ["self"] (spRefStr T) := by
  refine S.F.ok scRefStr (fun vs H Q E h => ?_) (fun cdv A outer s H vs Q E hr h => ?_)
  · obtain ⟨a, c, rfl, _⟩ := h
    rfl
  · obtain ⟨a, c, rfl, ⟨dx, ha⟩, hl, q⟩ := h
    refine ⟨_, pss_one (ps_ret (pe_joined (.cons pe_str (.cons (pe_fmt (pe_fld (pv 0) rfl)) .nil)))), ?_⟩
    refine ⟨_, rfl, (by decide +kernel), _, rfl, a, T.ref.C, dx, _, .str c, rfl, ha, T.ref.cl, T.ref.noF, fld_ref, .inl ⟨c, rfl, Nat.le_trans hl (by decide), c, rfl, ?_, ?_⟩⟩
    · rw [strLen_append]
      exact Nat.le_trans (Nat.add_le_add_left hl _) (by decide +kernel)
    · rw [join2 "ref" c (by decide +kernel)]
      exact q
abbrev sPutStr : Stmt := inClass (top 28) 1
theorem scPutStr : FnScope ["self"] ["self"] (defScope sPutStr) := ⟨rfl, rfl, rfl, by decide +kernel, rfl, by decide +kernel, by decide +kernel⟩
theorem fld_put {v : V} : (putF "part" v (putF "word" (.str "put") [])).lookup ("part" : Str) = some v := by
  rw [lookup_putF, if_pos rfl]
def spPutStr (T : TRows K mg) : Sp := fun vs H Q _ => ∃ (a : Addr) (c : Str), vs = [.ref a] ∧ RowAt T H a (.put c) ∧ c.length ≤ 100 ∧ Q (.str (rowText (.put c))) H
theorem okPutStr (T : TRows K mg) (S : TStr K T.put.C "Put.__str__" sPutStr) : FnOk P w K mg base CX0 1 S.f S.fd ["self"] (spPutStr T) := by
  refine S.F.ok scPutStr (fun vs H Q E h => ?_) (fun cdv A outer s H vs Q E hr h => ?_)
  · obtain ⟨a, c, rfl, _⟩ := h
    rfl
  · obtain ⟨a, c, rfl, ⟨dx, ha⟩, hl, q⟩ := h
    refine ⟨_, pss_one (ps_ret (pe_joined (.cons pe_str (.cons (pe_fmt (pe_fld (pv 0) rfl)) .nil)))), ?_⟩
    refine ⟨_, rfl, (by decide +kernel), _, rfl, a, T.put.C, dx, _, .str c, rfl, ha, T.put.cl, T.put.noF, fld_put, .inl ⟨c, rfl, Nat.le_trans hl (by decide), c, rfl, ?_, ?_⟩⟩
    · rw [strLen_append]
      exact Nat.le_trans (Nat.add_le_add_left hl _) (by decide +kernel)
    · rw [join2 "put" c (by decide +kernel)]
      exact q
abbrev sOpenStr : Stmt := inClass (top 29) 1
theorem scOpenStr : FnScope ["self"] ["self"] (defScope sOpenStr) := ⟨rfl, rfl, rfl, by decide +kernel, rfl, by decide +kernel, by decide +kernel⟩
theorem fld_open {v : V} : (putF "name" v (putF "word" (.str "open") [])).lookup ("name" : Str) = some v := by
  rw [lookup_putF, if_pos rfl]
def spOpenStr (T : TRows K mg) : Sp := fun vs H Q _ => ∃ (a : Addr) (c : Str), vs = [.ref a] ∧ RowAt T H a (.opn c) ∧ c.length ≤ 100 ∧ Q (.str (rowText (.opn c))) H
theorem okOpenStr (T : TRows K mg) (S : TStr K T.open_.C "Open.__str__" sOpenStr) : FnOk P w K mg base CX0 1 S.f S.fd ["self"] (spOpenStr T) := by
  refine S.F.ok scOpenStr (fun vs H Q E h => ?_) (fun cdv A outer s H vs Q E hr h => ?_)
  · obtain ⟨a, c, rfl, _⟩ := h
    rfl
  · obtain ⟨a, c, rfl, ⟨dx, ha⟩, hl, q⟩ := h
    refine ⟨_, pss_one (ps_ret (pe_joined (.cons pe_str (.cons (pe_fmt (pe_fld (pv 0) rfl)) .nil)))), ?_⟩
    refine ⟨_, rfl, (by decide +kernel), _, rfl, a, T.open_.C, dx, _, .str c, rfl, ha, T.open_.cl, T.open_.noF, fld_open, .inl ⟨c, rfl, Nat.le_trans hl (by decide), c, rfl, ?_, ?_⟩⟩
    · rw [strLen_append]
      exact Nat.le_trans (Nat.add_le_add_left hl _) (by decide +kernel)
    · rw [join2 "open" c (by decide +kernel)]
      exact q
theorem numStr_len {n : Nat} (h : n < 10 ^ 20) : (numStr n).length ≤ 20 := by
  rw [len_tl]
  show (tl (Str.ofString (toString ((n : Nat) : Int)))).length ≤ 20
  rw [tl_num]
  exact numL_len (by decide) h
theorem log_small {n : Nat} (h : n < 10 ^ 20) : (n : Int).natAbs.log2 < 1920 := by
  show n.log2 < 1920
  have : n < 2 ^ 1919 := Nat.lt_trans h (by decide +kernel)
  exact Nat.lt_of_lt_of_le (PySem.Flt.log2_lt_of (k := 1919) (by decide) this) (by decide)
def spNoteStr (T : TRows K mg) : Sp := fun vs H Q _ => ∃ (a : Addr) (c l : Str), vs = [.ref a] ∧ RowAt T H a (.note c l) ∧ c.length ≤ 100 ∧ l.length ≤ 100 ∧ Q (.str (rowText (.note c l))) H
theorem note_counter {c l : V} : (putF "label" l (putF "counter" c (putF "word" (.str "note") []))).lookup ("counter" : Str) = some c := by
  rw [lookup_putF, if_neg (by decide +kernel), lookup_putF, if_pos rfl]
theorem note_label {c l : V} : (putF "label" l (putF "counter" c (putF "word" (.str "note") []))).lookup ("label" : Str) = some l := by
  rw [lookup_putF, if_pos rfl]
theorem len3 {a b c : Str} (ha : a.length ≤ 200) (hb : b.length ≤ 200) (hc : c.length ≤ 200) : (((Str.empty ++ a) ++ b) ++ c).length ≤ sizeLine := by
  rw [strLen_append, strLen_append, strLen_append]
  exact Nat.le_trans (show _ ≤ 600 by have : (Str.empty : Str).length = 0 := rfl; omega) (by decide)
theorem len4 {a b c d : Str} (ha : a.length ≤ 200) (hb : b.length ≤ 200) (hc : c.length ≤ 200) (hd : d.length ≤ 200) : ((((Str.empty ++ a) ++ b) ++ c) ++ d).length ≤ sizeLine := by
  rw [strLen_append, strLen_append, strLen_append, strLen_append]
  exact Nat.le_trans (show _ ≤ 800 by have : (Str.empty : Str).length = 0 := rfl; omega) (by decide)
theorem len2 {a b : Str} (ha : a.length ≤ 200) (hb : b.length ≤ 200) : ((Str.empty ++ a) ++ b).length ≤ sizeLine := by
  rw [strLen_append, strLen_append]
  exact Nat.le_trans (show _ ≤ 400 by have : (Str.empty : Str).length = 0 := rfl; omega) (by decide)
theorem okNoteStr (T : TRows K mg) (S : TStr K T.note.C "Note.__str__" sNoteStr) : FnOk P w K mg base CX0 1 S.f S.fd ["self"] (spNoteStr T) := by
  refine S.F.ok scNoteStr (fun vs H Q E h => ?_) (fun cdv A outer s H vs Q E hr h => ?_)
  · obtain ⟨a, c, l, rfl, _⟩ := h
    rfl
  · obtain ⟨a, c, l, rfl, ⟨dx, ha⟩, hc, hl, q⟩ := h
    refine ⟨_, pss_cons (ps_if (pt_cmpR op_eq (pe_fld (pv 0) rfl) pe_str (nomark _)) (pss_one (ps_ret (pe_joined (.cons pe_str (.cons (pe_fmt (pe_fld (pv 0) rfl)) .nil))))) pss_nil)
      (pss_one (ps_ret (pe_joined (.cons pe_str (.cons (pe_fmt (pe_fld (pv 0) rfl)) (.cons pe_str (.cons (pe_fmt (pe_fld (pv 0) rfl)) .nil))))))), ?_⟩
    refine ⟨_, rfl, a, T.note.C, dx, _, .str l, rfl, ha, T.note.cl, T.note.noL, note_label, rfl, _, rfl, ?_⟩
    have s5 : ("note " : Str).length ≤ 200 := by decide +kernel
    have s1 : (" " : Str).length ≤ 200 := by decide +kernel
    refine ite2 (fun hz => ?_) (fun hz => ?_)
    · have hz2 : l = "" := by
        have := of_decide_eq_true hz
        cases this
        rfl
      have hw : rowText (.note c l) = Txt.join " " ["note", c] := by
        show Txt.join " " (if l = "" then ["note", c] else ["note", c, l]) = _
        rw [if_pos hz2]
      rw [hw] at q
      refine ⟨_, rfl, (by decide +kernel), _, rfl, a, T.note.C, dx, _, .str c, rfl, ha, T.note.cl, T.note.noC, note_counter, .inl ⟨c, rfl, Nat.le_trans hc (by decide), c, rfl, len2 s5 (by omega), ?_⟩⟩
      rw [join2 "note" c (by decide +kernel)]
      exact q
    · have hz2 : ¬ l = "" := fun z => hz (decide_eq_true (by rw [z]))
      have hw : rowText (.note c l) = Txt.join " " ["note", c, l] := by
        show Txt.join " " (if l = "" then ["note", c] else ["note", c, l]) = _
        rw [if_neg hz2]
      rw [hw] at q
      refine ⟨_, rfl, (by decide +kernel), _, rfl, a, T.note.C, dx, _, .str c, rfl, ha, T.note.cl, T.note.noC, note_counter, .inl ⟨c, rfl, Nat.le_trans hc (by decide), c, rfl, len2 s5 (by omega), _, rfl, len3 s5 (by omega) s1, _, rfl, a, T.note.C, dx, _, .str l, rfl, ha, T.note.cl, T.note.noL, note_label, .inl ⟨l, rfl, Nat.le_trans hl (by decide), l, rfl, len4 s5 (by omega) s1 (by omega), ?_⟩⟩⟩
      rw [join3 "note" c l (by decide +kernel) rfl]
      exact q
theorem skip_counter {c l : V} : (putF "by" l (putF "counter" c (putF "word" (.str "skip") []))).lookup ("counter" : Str) = some c := by
  rw [lookup_putF, if_neg (by decide +kernel), lookup_putF, if_pos rfl]
theorem skip_num {c l : V} : (putF "by" l (putF "counter" c (putF "word" (.str "skip") []))).lookup ("by" : Str) = some l := by
  rw [lookup_putF, if_pos rfl]
def spSkipStr (T : TRows K mg) : Sp := fun vs H Q _ => ∃ (a : Addr) (c : Str) (n : Nat), vs = [.ref a] ∧ RowAt T H a (.skip c n) ∧ c.length ≤ 100 ∧ n < 10 ^ 20 ∧ Q (.str (rowText (.skip c n))) H
theorem okSkipStr (T : TRows K mg) (S : TStr K T.skip.C "Skip.__str__" sSkipStr) : FnOk P w K mg base CX0 1 S.f S.fd ["self"] (spSkipStr T) := by
  refine S.F.ok scSkipStr (fun vs H Q E h => ?_) (fun cdv A outer s H vs Q E hr h => ?_)
  · obtain ⟨a, c, n, rfl, _⟩ := h
    rfl
  · obtain ⟨a, c, n, rfl, ⟨dx, ha⟩, hc, hn, q⟩ := h
    refine ⟨_, pss_one (ps_ret (pe_joined (.cons pe_str (.cons (pe_fmt (pe_fld (pv 0) rfl)) (.cons pe_str (.cons (pe_fmt (pe_fld (pv 0) rfl)) .nil)))))), ?_⟩
    have s5 : ("skip " : Str).length ≤ 200 := by decide +kernel
    have s1 : (" " : Str).length ≤ 200 := by decide +kernel
    have sn := numStr_len hn
    refine ⟨_, rfl, (by decide +kernel), _, rfl, a, T.skip.C, dx, _, .str c, rfl, ha, T.skip.cl, T.skip.noC, skip_counter, .inl ⟨c, rfl, Nat.le_trans hc (by decide), c, rfl, len2 s5 (by omega), _, rfl, len3 s5 (by omega) s1, _, rfl, a, T.skip.C, dx, _, .int (n : Int), rfl, ha, T.skip.cl, T.skip.noF, skip_num, .inr ⟨(n : Int), rfl, log_small hn, numStr n, rfl, len4 s5 (by omega) s1 (by omega), ?_⟩⟩⟩
    rw [join3 "skip" c (numStr n) (by decide +kernel) rfl]
    exact q
theorem set_counter {c l : V} : (putF "to" l (putF "counter" c (putF "word" (.str "set") []))).lookup ("counter" : Str) = some c := by
  rw [lookup_putF, if_neg (by decide +kernel), lookup_putF, if_pos rfl]
theorem set_num {c l : V} : (putF "to" l (putF "counter" c (putF "word" (.str "set") []))).lookup ("to" : Str) = some l := by
  rw [lookup_putF, if_pos rfl]
def spSetStr (T : TRows K mg) : Sp := fun vs H Q _ => ∃ (a : Addr) (c : Str) (n : Nat), vs = [.ref a] ∧ RowAt T H a (.set c n) ∧ c.length ≤ 100 ∧ n < 10 ^ 20 ∧ Q (.str (rowText (.set c n))) H
theorem okSetStr (T : TRows K mg) (S : TStr K T.set.C "Set.__str__" sSetStr) : FnOk P w K mg base CX0 1 S.f S.fd ["self"] (spSetStr T) := by
  refine S.F.ok scSetStr (fun vs H Q E h => ?_) (fun cdv A outer s H vs Q E hr h => ?_)
  · obtain ⟨a, c, n, rfl, _⟩ := h
    rfl
  · obtain ⟨a, c, n, rfl, ⟨dx, ha⟩, hc, hn, q⟩ := h
    refine ⟨_, pss_one (ps_ret (pe_joined (.cons pe_str (.cons (pe_fmt (pe_fld (pv 0) rfl)) (.cons pe_str (.cons (pe_fmt (pe_fld (pv 0) rfl)) .nil)))))), ?_⟩
    have s5 : ("set " : Str).length ≤ 200 := by decide +kernel
    have s1 : (" " : Str).length ≤ 200 := by decide +kernel
    have sn := numStr_len hn
    refine ⟨_, rfl, (by decide +kernel), _, rfl, a, T.set.C, dx, _, .str c, rfl, ha, T.set.cl, T.set.noC, set_counter, .inl ⟨c, rfl, Nat.le_trans hc (by decide), c, rfl, len2 s5 (by omega), _, rfl, len3 s5 (by omega) s1, _, rfl, a, T.set.C, dx, _, .int (n : Int), rfl, ha, T.set.cl, T.set.noF, set_num, .inr ⟨(n : Int), rfl, log_small hn, numStr n, rfl, len4 s5 (by omega) s1 (by omega), ?_⟩⟩⟩
    rw [join3 "set" c (numStr n) (by decide +kernel) rfl]
    exact q
end
end Pn

namespace Pn
open PySem L2 TL
abbrev sITInit : Stmt := inClass (top 14) 0
abbrev sReadNum : Stmt := top 30
abbrev sRow2 : Stmt := top 31
abbrev sRow3 : Stmt := top 32
abbrev sReadRow : Stmt := top 33
/-! ### numbers in texts -/
def dok (c : Nat) : Bool := decide (48 ≤ c) && decide (c ≤ 57)
theorem dok_eq (c : Nat) : (if (!decide ([c] < [48])) = true then (!decide ([57] < [c])) else false) = dok c := by
  rw [lt_one, lt_one]
  unfold dok
  by_cases h1 : c < 48
  · rw [decide_eq_true h1, decide_eq_false (show ¬ 48 ≤ c by omega)]
    rfl
  · rw [decide_eq_false h1, decide_eq_true (show 48 ≤ c by omega)]
    by_cases h2 : 57 < c
    · rw [decide_eq_true h2, decide_eq_false (show ¬ c ≤ 57 by omega)]
      rfl
    · rw [decide_eq_false h2, decide_eq_true (show c ≤ 57 by omega)]
      rfl
/-- a number's text: one to ten digits, none of them a leading 0 -/
def numOk (z : Str) : Bool := (decide (1 ≤ (z.length : Int)) && decide ((z.length : Int) ≤ 10)) && z.cps.toList.all dok && !(decide (z.cps.toList.head? = some 48) && !decide (z = ("0" : Str)))
def numVal (z : Str) : Nat := NumText.digitsVal (tl z)
theorem digits_of {z : Str} (h : z.cps.toList.all dok = true) : NumText.AllDigits (tl z) := fun c hc => by
  have q := List.all_eq_true.mp h c hc
  unfold dok at q
  rw [Bool.and_eq_true] at q
  exact ⟨of_decide_eq_true q.1, of_decide_eq_true q.2⟩
theorem num_back {z : Str} (h : numOk z = true) : numStr (numVal z) = z := by
  unfold numOk at h
  rw [Bool.and_eq_true, Bool.and_eq_true, Bool.and_eq_true] at h
  obtain ⟨⟨⟨h1, h2⟩, h3⟩, h4⟩ := h
  have h1 := of_decide_eq_true h1
  have hd := digits_of h3
  have hl : z.length = (tl z).length := len_tl z
  apply ext_tl
  show tl (Str.ofString (toString ((numVal z : Nat) : Int))) = tl z
  rw [tl_num]
  have hne : (tl z).length = ((tl z).length - 1) + 1 := by omega
  have key := PySem.NumText.toDigits_digitsVal ((tl z).length - 1) (tl z) hne hd ?_
  · unfold numL
    show (Nat.toDigits 10 (NumText.digitsVal (tl z))).map Char.toNat = tl z
    rw [key, List.map_map]
    have hc : ∀ c ∈ List.range 58, (Char.ofNat c).toNat = c := by decide +kernel
    exact (List.map_congr_left (g := id) fun c hm => hc c (List.mem_range.mpr (by have := hd c hm; omega))).trans (List.map_id _)
  · cases e : tl z with
    | nil => rw [e] at hne; simp at hne
    | cons c r =>
      by_cases hc : 49 ≤ c
      · exact .inr ⟨c, r, rfl, hc⟩
      · have hd0 := hd c (by rw [e]; exact List.mem_cons_self)
        have hc48 : c = 48 := by omega
        subst hc48
        have hz : z = ("0" : Str) := by
          have hh : decide (z.cps.toList.head? = some 48) = true := decide_eq_true (by show (tl z).head? = some 48; rw [e]; rfl)
          rw [hh] at h4
          cases hz2 : decide (z = ("0" : Str)) with
          | true => exact of_decide_eq_true hz2
          | false => rw [hz2] at h4; cases h4
        left
        have : tl z = [48] := by rw [hz]; decide +kernel
        rw [this] at e
        cases e
        rfl
theorem num_lt {z : Str} (h : numOk z = true) : numVal z < 10 ^ 10 := by
  unfold numOk at h
  rw [Bool.and_eq_true, Bool.and_eq_true, Bool.and_eq_true] at h
  obtain ⟨⟨⟨h1, h2⟩, h3⟩, _⟩ := h
  have h2 := of_decide_eq_true h2
  have hd := digits_of h3
  have hl : z.length = (tl z).length := len_tl z
  have gen : ∀ (l : List Nat) (a : Nat), NumText.AllDigits l → l.foldl (fun acc c => acc * 10 + (c - 48)) a < (a + 1) * 10 ^ l.length := by
    intro l
    induction l with
    | nil => intro a _; show a < (a + 1) * 1; omega
    | cons c r ih =>
      intro a hd
      have hc := hd c List.mem_cons_self
      have q := ih (a * 10 + (c - 48)) fun x hx => hd x (List.mem_cons_of_mem _ hx)
      show r.foldl _ (a * 10 + (c - 48)) < (a + 1) * 10 ^ (r.length + 1)
      refine Nat.lt_of_lt_of_le q ?_
      rw [Nat.pow_succ, Nat.mul_comm (10 ^ r.length) 10, ← Nat.mul_assoc]
      exact Nat.mul_le_mul_right _ (by omega)
  have q := gen (tl z) 0 hd
  rw [Nat.zero_add, Nat.one_mul] at q
  exact Nat.lt_of_lt_of_le q (Nat.pow_le_pow_right (by decide) (by omega))
section
variable {P : Program} {w : World} {K : PySem.W.Frag} {mg : Str → Option Value} {base : Heap}
theorem scITInit : FnScope ["self", "at"] ["self", "at"] (defScope sITInit) := ⟨rfl, rfl, rfl, by decide +kernel, rfl, by decide +kernel, by decide +kernel⟩
abbrev TIT (K : PySem.W.Frag) (mg : Str → Option Value) := TExc K mg "InvalidText" "InvalidText.__init__" "at" sITInit
theorem okITInit (T : TIT K mg) : FnOk P w K mg base CX0 1 T.fI T.fd ["self", "at"] (spXInit K "at") := by
  refine T.F.ok scITInit (fun vs H Q E h => ?_) (fun cdv A outer s H vs Q E hr h => ?_)
  · obtain ⟨a, C, v, rfl, _⟩ := h
    rfl
  · obtain ⟨a, C, v, rfl, ha, O, no, q⟩ := h
    refine ⟨_, pss_one (ps_ost (pv 0) (pv 1)), ?_⟩
    exact ⟨_, rfl, _, rfl, a, C, rfl, O, no, .inl ⟨ha, fun dx h1 h2 => q dx h1 h2⟩⟩
theorem okITInitH (T : TIT K mg) : L2H.FnH P w K mg base CX0 1 T.fI T.fd ["self", "at"] (spXInit K "at") := by
  obtain ⟨oc, od, kV, doc, pm, an, cdv, ct, osl, e, lk, hcd⟩ := T.F.ex
  rw [e]
  rw [e] at lk
  refine L2H.fn_ofH lk hcd scITInit (fun vs H Q E h => ?_) (fun A outer s H vs Q E p hot hr h => ?_)
  · obtain ⟨a, C, v, rfl, _⟩ := h
    rfl
  · obtain ⟨a, C, v, rfl, ha, O, no, q⟩ := h
    refine ⟨_, pss_one (ps_ost (pv 0) (pv 1)), ?_⟩
    exact ⟨_, rfl, _, rfl, a, C, rfl, O, no, .inl ⟨ha, fun dx h1 h2 => q dx h1 h2⟩⟩
/-- InvalidText(at) leaves the def -/
def RaiseT (C : Addr) (H : Hp) (E : XK) (n : Int) : Prop := ∀ (e : Addr) (H' : Hp), Same H H' → Mo H H' → H e = none → H' e = some (.xd [("at", .int n)]) → E (.ref C) (some e) H'
theorem RaiseT.back {C : Addr} {H H1 : Hp} {E : XK} {n : Int} (h : RaiseT C H E n) (s : Same H H1) (m : Mo H H1) : RaiseT C H1 E n := fun e H' h1 h2 h3 h4 => h e H' (s.trans h1) (m.trans h2) (m e h3) h4
theorem it_made {C : Addr} {H H1 : Hp} {E : XK} {n : Int} (s : Same H H1) (m : Mo H H1) (h : RaiseT C H E n) {a : Addr} (ha : H1 a = none) (dx : Addr) (h1 : (upd H1 a (exo a C none)) dx = none) (h2 : dx ≠ a) :
    E (.ref C) (some dx) (upd (del (upd (upd (upd H1 a (exo a C none)) dx (exd dx [("at", .int n)])) a (exo a C (some dx))) a) dx (.xd [("at", .int n)])) := by
  have hd : H1 dx = none := by rw [upd_ne h2] at h1; exact h1
  refine h dx _ (s.trans (same_made ha hd)) (m.trans fun b e => ?_) (m dx hd) upd_same
  by_cases n2 : b = dx
  · rw [n2]; exact hd
  · by_cases n1 : b = a
    · rw [n1]; exact ha
    · rw [upd_ne n2, del_ne n1, upd_ne n1, upd_ne n2, upd_ne n1] at e
      exact e
/-- the reading of InvalidText(n) being made -/
theorem it_read {T : TIT K mg} {H H1 : Hp} {E : XK} {n : Int} (s : Same H H1) (m : Mo H H1) (h : RaiseT T.C H E n) : ∀ a, H1 a = none → spXInit K "at" (.ref a :: ([V.int n] ++ [])) (upd H1 a (exo a T.C none))
    (fun v H2 => v = .non ∧ ∃ (d : Addr) (fs : List (Str × V)), H2 a = some (exo a T.C (some d)) ∧ H2 d = some (exd d fs) ∧ H1 d = none ∧ E (.ref T.C) (some d) (upd (del H2 a) d (.xd fs))) (fun _ _ _ => False) := fun a ha =>
  ⟨a, T.C, .int n, rfl, upd_same, T.O, T.noF, fun dx h1 h2 => ⟨rfl, dx, _, upd_same, by rw [upd_ne h2, upd_same], by rw [upd_ne h2] at h1; exact h1, it_made s m h ha dx h1 h2⟩⟩
structure TNum (K : PySem.W.Frag) (mg : Str → Option Value) : Type where
  IT : TIT K mg
  mInt : mg "int" = none
  mLen : mg "len" = none
  mAll : mg "all" = none
  tok : Tok
  mMost : mg "MOST_DIGITS" = some (.int 10 tok)
  num : At K mg "read_number" sReadNum ["text"]
def spReadNum (C : Addr) : Sp := fun vs H Q E => ∃ z : Str, vs = [.str z] ∧ z.length ≤ 5000 ∧ (numOk z = true → ∀ H', Same H H' → Mo H H' → Q (.int (numVal z : Nat)) H') ∧ (numOk z = false → RaiseT C H E 0)
theorem scReadNum : FnScope ["text", "digit"] ["text"] (defScope sReadNum) := ⟨rfl, rfl, rfl, by decide +kernel, rfl, by decide +kernel, by decide +kernel⟩
theorem okReadNum (T : TNum K mg) : FnOk P w K mg base (L2N.CX P w) 3 T.num.f T.num.fd ["text"] (spReadNum T.IT.C) := by
  refine (funD T.num.F).ok scReadNum (fun vs H Q E h => ?_) (fun cdv A outer s H vs Q E hr h => ?_)
  · obtain ⟨z, rfl, _⟩ := h
    rfl
  · obtain ⟨z, rfl, hl, q1, q2⟩ := h
    refine ⟨_, pss_cons (ps_if (PW.pt (pw_or (pt_not (pt_chain op_le op_le pe_int (pe_callB call_len_str (by rfl) T.mLen PySem.boot_len (pa_cons (pv 0) pa_nil)) (pe_glob (v := .int 10) (by rfl) T.mMost ⟨_, rfl⟩)))
        (pw_or1 (pt_not (pt_val (pe_callB (cr_all rfl) (by rfl) T.mAll (by decide +kernel) (pa_cons (pe_lc (own := [("digit", 1)]) (g := gName 1) (tt := tYes) (by rfl) scReadNum.nd (pi_str (pv 0))
          (blkOk_by (N := ["text", "digit"]) (sc := defScope sReadNum) (by decide +kernel)) (fun _ _ _ _ _ => pg_name (i := 1) scReadNum.nd rfl (Or.inl rfl)) (fun _ _ _ _ _ => pts_nil)
          (fun _ _ _ _ _ => pe_chain op_le_str op_le_str pe_str (pv 1) pe_str)) pa_nil)))))))
        (pss_one (L2N.ps_raise rfl (L2N.takes_of rfl rfl rfl rfl) (pmk_oexN T.IT.O T.IT.iC T.IT.tI (okITInit T.IT) (hr.mono (by decide)) T.IT.b pass0 rfl T.IT.m (pa_cons pe_int pa_nil)))) pss_nil)
      (pss_cons (ps_if (PW.pt (pw_and (pt_cmpR op_eq (pe_ix ix_str (pv 0) pe_int (fun _ _ => rfl)) pe_str (nomark _)) (pw_and1 (pt_cmpR op_ne (pv 0) pe_str (nomark _)))))
        (pss_one (L2N.ps_raise rfl (L2N.takes_of rfl rfl rfl rfl) (pmk_oexN T.IT.O T.IT.iC T.IT.tI (okITInit T.IT) (hr.mono (by decide)) T.IT.b pass0 rfl T.IT.m (pa_cons pe_int pa_nil)))) pss_nil)
      (pss_one (ps_ret (pe_callTy call_int_str (by rfl) T.mInt (by decide +kernel) (pa_cons (pv 0) pa_nil))))), ?_⟩
    refine ⟨_, rfl, z, rfl, Nat.le_trans hl (by decide), _, _, rfl, rfl, _, rfl, ?_⟩
    have raise : ∀ H1, numOk z = false → Same H H1 → Mo H H1 → (1 : Nat) ≤ 1000 ∧ _ := fun H1 hf s m => ⟨by decide, it_read (T := T.IT) s m (q2 hf)⟩
    cases h1 : decide (1 ≤ (z.length : Int)) with
    | false =>
      have hf : numOk z = false := by unfold numOk; rw [h1]; rfl
      refine iteF ⟨false, rfl, iteT (iteT ?_)⟩
      exact raise H hf (Same.refl H) (Mo.refl H)
    | true =>
      refine iteT ⟨_, _, rfl, rfl, _, rfl, ?_⟩
      cases h2 : decide ((z.length : Int) ≤ 10) with
      | false =>
        have hf : numOk z = false := by unfold numOk; rw [h1, h2]; rfl
        refine iteT (iteT ?_)
        exact raise H hf (Same.refl H) (Mo.refl H)
      | true =>
        refine iteF ?_
        refine ⟨_, rfl, z, rfl, fun D hD => lc_it walk_str (fun i Hi => Hi = upd H D (.lst ((List.range i).map fun j => .bl (dok (z.cps.toList.getD j 0))))) rfl (fun _ _ _ _ => trivial) (fun i x Hi Hj hi hP hY => ?_) (fun Hi hP => ?_)⟩
        · obtain ⟨rfl, c, hc, rfl⟩ := hY
          subst hP
          have hi2 : i < 1000 := by
            have : z.cps.size = z.length := rfl
            have := of_decide_eq_true h2
            omega
          have hg : z.cps.toList.getD i 0 = c := by
            rw [List.getD_eq_getElem?_getD, Array.getElem?_toList, hc]
            rfl
          have fin := lc_step (H1 := H) (D := D) (f := fun j => .bl (dok (z.cps.toList.getD j 0))) (i := i) hi2
          rw [hg, ← dok_eq] at fin
          refine ⟨rfl, _, rfl, _, _, rfl, rfl, _, rfl, ?_⟩
          cases h3 : (!decide ([c] < [48])) with
          | false =>
            have h4 : (!decide (({ cps := #[c] } : Str).cps.toList < (Str.ofString "0").cps.toList)) = false := h3
            rw [h3] at fin
            rw [h4]
            exact fin
          | true =>
            have h4 : (!decide (({ cps := #[c] } : Str).cps.toList < (Str.ofString "0").cps.toList)) = true := h3
            rw [h3] at fin
            rw [h4]
            exact ⟨_, _, rfl, rfl, fin⟩
        · subst hP
          have e3 := range_getD (f := dok) z.cps.toList
          rw [Array.length_toList] at e3
          refine ⟨D, (List.range z.cps.size).map fun j => dok (z.cps.toList.getD j 0), rfl, ?_, ?_⟩
          · refine SqL.of ?_
            rw [upd_same, List.map_map]
            rfl
          · rw [e3]
            have s1 : Same H (upd H D (.lst ((List.range z.cps.size).map fun j => V.bl (dok (z.cps.toList.getD j 0))))) := Same.new hD
            have m1 : Mo H (upd H D (.lst ((List.range z.cps.size).map fun j => V.bl (dok (z.cps.toList.getD j 0))))) := Mo.upd
            generalize upd H D (.lst ((List.range z.cps.size).map fun j => V.bl (dok (z.cps.toList.getD j 0)))) = H1 at s1 m1 ⊢
            cases h5 : z.cps.toList.all dok with
            | false =>
              have hf : numOk z = false := by unfold numOk; rw [h1, h2, h5]; rfl
              refine ⟨_, rfl, iteT ?_⟩
              exact raise H1 hf s1 m1
            | true =>
              refine ⟨_, rfl, iteF ?_⟩
              have hz0 : 0 < (tl z).length := by
                have := of_decide_eq_true h1
                have := len_tl z
                omega
              obtain ⟨c, r, hcr⟩ : ∃ c r, tl z = c :: r := by
                cases e : tl z with
                | nil => rw [e] at hz0; exact absurd hz0 (Nat.lt_irrefl 0)
                | cons c r => exact ⟨c, r, rfl⟩
              refine ⟨_, rfl, z, 0, c, rfl, rfl, Nat.le_trans hl (by decide), by show atI (tl z) ((0 : Nat) : Int) = some c; rw [hcr]; exact atI_nat rfl, rfl, _, rfl, ?_⟩
              have hhead : decide (z.cps.toList.head? = some 48) = decide (V.str ⟨#[c]⟩ = V.str "0") := by
                show decide ((tl z).head? = some 48) = _
                rw [hcr]
                by_cases h48 : c = 48
                · subst h48
                  show decide ((some 48 : Option Nat) = some 48) = decide (V.str ⟨#[48]⟩ = V.str "0")
                  decide +kernel
                · rw [decide_eq_false (by intro zz; exact h48 (Option.some.inj zz)), decide_eq_false]
                  intro zz
                  have z2 : (⟨#[c]⟩ : Str) = "0" := V.str.inj zz
                  have z3 := congrArg tl z2
                  have z4 : tl ("0" : Str) = [48] := by decide +kernel
                  rw [z4] at z3
                  exact h48 (List.cons.inj z3).1
              have fin : numOk z = true → ∃ a n, [V.str z] = [V.str a] ∧ PySem.intText? a = some n ∧ a.length ≤ 640 ∧ Q (.int n) H1 := fun ht =>
                ⟨z, ((numVal z : Nat) : Int), rfl, PySem.intText_digits (digits_of h5) (by show tl z ≠ []; rw [hcr]; exact List.cons_ne_nil _ _) (Nat.le_trans (Int.ofNat_le.mp (of_decide_eq_true h2)) (by decide)), Nat.le_trans (Int.ofNat_le.mp (of_decide_eq_true h2)) (by decide), q1 ht H1 s1 m1⟩
              cases h6 : decide (V.str ⟨#[c]⟩ = V.str "0") with
              | false =>
                have ht : numOk z = true := by unfold numOk; rw [h1, h2, h5, hhead, h6]; rfl
                refine iteF (iteF ?_)
                exact ⟨_, rfl, fin ht⟩
              | true =>
                refine iteT ⟨_, rfl, rfl, _, rfl, ?_⟩
                cases h7 : decide (V.str z = V.str "0") with
                | true =>
                  have h8 : decide (z = ("0" : Str)) = true := decide_eq_true (V.str.inj (of_decide_eq_true h7))
                  have ht : numOk z = true := by unfold numOk; rw [h1, h2, h5, hhead, h6, h8]; rfl
                  refine iteF ?_
                  exact ⟨_, rfl, fin ht⟩
                | false =>
                  have h8 : decide (z = ("0" : Str)) = false := decide_eq_false (fun zz => of_decide_eq_false h7 (by rw [zz]))
                  have hf : numOk z = false := by unfold numOk; rw [h1, h2, h5, hhead, h6, h8]; rfl
                  refine iteT ?_
                  exact raise H1 hf s1 m1
end
end Pn

namespace Pn
open PySem L2 TL
/-! ### what a line's words tell -/
def row2 (wd nm : Str) : Option RowD :=
  if nameS nm = true then
    (if wd = "note" then some (.note nm "") else if wd = "keep" then some (.keep nm) else if wd = "back" then some (.back nm) else if wd = "ref" then some (.ref nm) else if wd = "put" then some (.put nm) else if wd = "open" then some (.opn nm) else none)
  else none
def row3 (wd c l : Str) : Option RowD :=
  if wd = "note" ∧ l ≠ "" then (if nameS c = true ∧ labD (.str l) = true then some (.note c l) else none)
  else if wd = "skip" then (if numOk l = true ∧ nameS c = true ∧ numVal l ≠ 0 then some (.skip c (numVal l)) else none)
  else if wd = "set" then (if numOk l = true ∧ nameS c = true then some (.set c (numVal l)) else none)
  else none
def rowOf : List Str → Option RowD
  | [a, b] => row2 a b
  | [a, b, c] => row3 a b c
  | _ => none
section
variable {P : Program} {w : World} {K : PySem.W.Frag} {mg : Str → Option Value} {base : Heap}
structure TRead (K : PySem.W.Frag) (mg : Str → Option Value) : Type where
  R : TRows K mg
  M : TNum K mg
  dsN : List Value
  vN : Vals [V.str ""] dsN
  bN : Binds K R.note.fd ["self", "counter", "label"] dsN
  two : At K mg "row_of_two" sRow2 ["word", "name"]
  three : At K mg "row_of_three" sRow3 ["word", "counter", "last"]
  read : At K mg "read_row" sReadRow ["text"]
/-- all that a line that is no row may raise -/
def RaiseB (CR CT : Addr) (H : Hp) (E : XK) : Prop := (∀ wd : Str, RaiseW CR H E (.str wd)) ∧ RaiseT CT H E 0
theorem kpi_same2 {H H1 : Hp} {x dx : Addr} {o o2 : HO} (hx : H x = none) (hdx : H dx = none) (k : KpI x (upd (upd H dx o) x o2) H1) : Same H H1 := fun b u e => by
  have n1 : b ≠ x := ne_of_none e hx
  have n2 : b ≠ dx := ne_of_none e hdx
  exact k b u (by rw [upd_ne n1, upd_ne n2]; exact e) n1
theorem ins_same2 {H : Hp} {x dx : Addr} {o o2 : HO} (hx : H x = none) (hdx : H dx = none) : Same H (upd (upd H dx o) x o2) := fun b u e => by
  rw [upd_ne (ne_of_none e hx), upd_ne (ne_of_none e hdx)]
  exact e
theorem skip_pos {n : Nat} (h : skipD (.int (n : Int)) = true) : n ≠ 0 := fun z => by
  subst z
  exact absurd h (by decide)
theorem skip_of {n : Nat} (h : n ≠ 0) : skipD (.int (n : Int)) = true := by
  show (decide ((0 : Int) ≤ (n : Int)) && decide ((n : Int) ≠ 0)) = true
  rw [decide_eq_true (show (0 : Int) ≤ (n : Int) by omega), decide_eq_true (show (n : Int) ≠ 0 by omega)]
  rfl
theorem set_of {n : Nat} : setD (.int (n : Int)) = true := decide_eq_true (show (0 : Int) ≤ (n : Int) by omega)
def spRow2 (T : TRead K mg) : Sp := fun vs H Q E => ∃ wd nm : Str, vs = [.str wd, .str nm] ∧ nm.length ≤ 900 ∧ (∀ r, row2 wd nm = some r → ∀ a H', Same H H' → Mo H H' → RowAt T.R H' a r → Q (.ref a) H') ∧ (row2 wd nm = none → RaiseB T.R.N.IR.C T.M.IT.C H E)
theorem scRow2 : FnScope ["word", "name"] ["word", "name"] (defScope sRow2) := ⟨rfl, rfl, rfl, by decide +kernel, rfl, by decide +kernel, by decide +kernel⟩
theorem okRow2 (T : TRead K mg) : FnOk P w K mg base (L2N.CX P w) 6 T.two.f T.two.fd ["word", "name"] (spRow2 T) := by
  refine (funD T.two.F).ok scRow2 (fun vs H Q E h => ?_) (fun cdv A outer s H vs Q E hr h => ?_)
  · obtain ⟨wd, nm, rfl, _⟩ := h
    rfl
  · obtain ⟨wd, nm, rfl, hl, q1, q2⟩ := h
    have hdl : dlen (.str nm) := hl
    refine ⟨_, pss_cons (ps_if (pt_cmpR op_eq (pv 0) pe_str (nomark _)) (pss_one (ps_ret (pe_make T.R.note.M (okNoteInit T.R.note T.R.N) (hr.mono (by decide)) rfl T.R.note.m T.bN T.vN (L2N.passes_call (L2N.takes_of rfl rfl rfl rfl) fun _ _ _ _ h => h) (pa_cons (pv 1) pa_nil)))) pss_nil)
      (pss_cons (ps_if (pt_cmpR op_eq (pv 0) pe_str (nomark _)) (pss_one (ps_ret (pe_make T.R.keep.M (okKeepInit T.R.keep T.R.N) (hr.mono (by decide)) rfl T.R.keep.m T.R.keep.b .nil (L2N.passes_call (L2N.takes_of rfl rfl rfl rfl) fun _ _ _ _ h => h) (pa_cons (pv 1) pa_nil)))) pss_nil)
      (pss_cons (ps_if (pt_cmpR op_eq (pv 0) pe_str (nomark _)) (pss_one (ps_ret (pe_make T.R.back.M (okBackInit T.R.back T.R.N) (hr.mono (by decide)) rfl T.R.back.m T.R.back.b .nil (L2N.passes_call (L2N.takes_of rfl rfl rfl rfl) fun _ _ _ _ h => h) (pa_cons (pv 1) pa_nil)))) pss_nil)
      (pss_cons (ps_if (pt_cmpR op_eq (pv 0) pe_str (nomark _)) (pss_one (ps_ret (pe_make T.R.ref.M (okRefInit T.R.ref T.R.N) (hr.mono (by decide)) rfl T.R.ref.m T.R.ref.b .nil (L2N.passes_call (L2N.takes_of rfl rfl rfl rfl) fun _ _ _ _ h => h) (pa_cons (pv 1) pa_nil)))) pss_nil)
      (pss_cons (ps_if (pt_cmpR op_eq (pv 0) pe_str (nomark _)) (pss_one (ps_ret (pe_make T.R.put.M (okPutInit T.R.put T.R.N) (hr.mono (by decide)) rfl T.R.put.m T.R.put.b .nil (L2N.passes_call (L2N.takes_of rfl rfl rfl rfl) fun _ _ _ _ h => h) (pa_cons (pv 1) pa_nil)))) pss_nil)
      (pss_cons (ps_if (pt_cmpR op_eq (pv 0) pe_str (nomark _)) (pss_one (ps_ret (pe_make T.R.open_.M (okOpenInit T.R.open_ T.R.N) (hr.mono (by decide)) rfl T.R.open_.m T.R.open_.b .nil (L2N.passes_call (L2N.takes_of rfl rfl rfl rfl) fun _ _ _ _ h => h) (pa_cons (pv 1) pa_nil)))) pss_nil)
      (pss_one (L2N.ps_raise rfl (L2N.takes_of rfl rfl rfl rfl) (pmk_oexN T.M.IT.O T.M.IT.iC T.M.IT.tI (okITInit T.M.IT) (hr.mono (by decide)) T.M.IT.b pass0 rfl T.M.IT.m (pa_cons pe_int pa_nil))))))))), ?_⟩
    refine ⟨_, rfl, rfl, _, rfl, ite2 (fun hz => ?_) (fun hz => ?_)⟩
    · obtain rfl : wd = "note" := V.str.inj (of_decide_eq_true hz)
      refine ⟨_, rfl, fun x dx hx hdx ne => ?_⟩
      have s2 := ins_same2 (o := .own x) (o2 := .ins T.R.note.C dx []) hx hdx
      have m2 : Mo H (upd (upd H dx (.own x)) x (.ins T.R.note.C dx [])) := Mo.upd.trans Mo.upd
      have some_ : nameS nm = true → row2 "note" nm = some (.note nm "") := fun hn => by
        unfold row2
        rw [if_pos hn]
        rw [if_pos rfl]
      have none_ : nameS nm = false → row2 "note" nm = none := fun hn => by
        unfold row2
        rw [if_neg (by rw [hn]; decide)]
      refine ⟨x, dx, .str nm, .str "", .str nm, .str "", rfl, upd_same, .str nm, hdl, .str "", (by decide +kernel : ("" : Str).length ≤ 900), by decide +kernel, fun hn hg H1 kp m hi => ⟨rfl, q1 _ (some_ hn) x H1 (kpi_same2 hx hdx kp) (m2.trans m) ⟨dx, hi⟩⟩, fun hn => ((q2 (none_ hn)).1 "counter").back s2 m2, fun hn hg => absurd hg (by decide +kernel)⟩
    have znote : ¬ wd = "note" := fun z => hz (decide_eq_true (by rw [z]))
    refine ⟨_, rfl, rfl, _, rfl, ite2 (fun hz => ?_) (fun hz => ?_)⟩
    · obtain rfl : wd = "keep" := V.str.inj (of_decide_eq_true hz)
      refine ⟨_, rfl, fun x dx hx hdx ne => ?_⟩
      have s2 := ins_same2 (o := .own x) (o2 := .ins T.R.keep.C dx []) hx hdx
      have m2 : Mo H (upd (upd H dx (.own x)) x (.ins T.R.keep.C dx [])) := Mo.upd.trans Mo.upd
      have some_ : nameS nm = true → row2 "keep" nm = some (.keep nm) := fun hn => by
        unfold row2
        rw [if_pos hn]
        rw [if_neg (by decide +kernel)]
        rw [if_pos rfl]
      have none_ : nameS nm = false → row2 "keep" nm = none := fun hn => by
        unfold row2
        rw [if_neg (by rw [hn]; decide)]
      refine ⟨x, dx, .str nm, .str nm, rfl, upd_same, .str nm, hdl, fun hn H1 kp m hi => ⟨rfl, q1 _ (some_ hn) x H1 (kpi_same2 hx hdx kp) (m2.trans m) ⟨dx, hi⟩⟩, fun hn => ((q2 (none_ hn)).1 "counter").back s2 m2⟩
    have zkeep : ¬ wd = "keep" := fun z => hz (decide_eq_true (by rw [z]))
    refine ⟨_, rfl, rfl, _, rfl, ite2 (fun hz => ?_) (fun hz => ?_)⟩
    · obtain rfl : wd = "back" := V.str.inj (of_decide_eq_true hz)
      refine ⟨_, rfl, fun x dx hx hdx ne => ?_⟩
      have s2 := ins_same2 (o := .own x) (o2 := .ins T.R.back.C dx []) hx hdx
      have m2 : Mo H (upd (upd H dx (.own x)) x (.ins T.R.back.C dx [])) := Mo.upd.trans Mo.upd
      have some_ : nameS nm = true → row2 "back" nm = some (.back nm) := fun hn => by
        unfold row2
        rw [if_pos hn]
        rw [if_neg (by decide +kernel)]
        rw [if_neg (by decide +kernel)]
        rw [if_pos rfl]
      have none_ : nameS nm = false → row2 "back" nm = none := fun hn => by
        unfold row2
        rw [if_neg (by rw [hn]; decide)]
      refine ⟨x, dx, .str nm, .str nm, rfl, upd_same, .str nm, hdl, fun hn H1 kp m hi => ⟨rfl, q1 _ (some_ hn) x H1 (kpi_same2 hx hdx kp) (m2.trans m) ⟨dx, hi⟩⟩, fun hn => ((q2 (none_ hn)).1 "counter").back s2 m2⟩
    have zback : ¬ wd = "back" := fun z => hz (decide_eq_true (by rw [z]))
    refine ⟨_, rfl, rfl, _, rfl, ite2 (fun hz => ?_) (fun hz => ?_)⟩
    · obtain rfl : wd = "ref" := V.str.inj (of_decide_eq_true hz)
      refine ⟨_, rfl, fun x dx hx hdx ne => ?_⟩
      have s2 := ins_same2 (o := .own x) (o2 := .ins T.R.ref.C dx []) hx hdx
      have m2 : Mo H (upd (upd H dx (.own x)) x (.ins T.R.ref.C dx [])) := Mo.upd.trans Mo.upd
      have some_ : nameS nm = true → row2 "ref" nm = some (.ref nm) := fun hn => by
        unfold row2
        rw [if_pos hn]
        rw [if_neg (by decide +kernel)]
        rw [if_neg (by decide +kernel)]
        rw [if_neg (by decide +kernel)]
        rw [if_pos rfl]
      have none_ : nameS nm = false → row2 "ref" nm = none := fun hn => by
        unfold row2
        rw [if_neg (by rw [hn]; decide)]
      refine ⟨x, dx, .str nm, .str nm, rfl, upd_same, .str nm, hdl, fun hn H1 kp m hi => ⟨rfl, q1 _ (some_ hn) x H1 (kpi_same2 hx hdx kp) (m2.trans m) ⟨dx, hi⟩⟩, fun hn => ((q2 (none_ hn)).1 "label").back s2 m2⟩
    have zref : ¬ wd = "ref" := fun z => hz (decide_eq_true (by rw [z]))
    refine ⟨_, rfl, rfl, _, rfl, ite2 (fun hz => ?_) (fun hz => ?_)⟩
    · obtain rfl : wd = "put" := V.str.inj (of_decide_eq_true hz)
      refine ⟨_, rfl, fun x dx hx hdx ne => ?_⟩
      have s2 := ins_same2 (o := .own x) (o2 := .ins T.R.put.C dx []) hx hdx
      have m2 : Mo H (upd (upd H dx (.own x)) x (.ins T.R.put.C dx [])) := Mo.upd.trans Mo.upd
      have some_ : nameS nm = true → row2 "put" nm = some (.put nm) := fun hn => by
        unfold row2
        rw [if_pos hn]
        rw [if_neg (by decide +kernel)]
        rw [if_neg (by decide +kernel)]
        rw [if_neg (by decide +kernel)]
        rw [if_neg (by decide +kernel)]
        rw [if_pos rfl]
      have none_ : nameS nm = false → row2 "put" nm = none := fun hn => by
        unfold row2
        rw [if_neg (by rw [hn]; decide)]
      refine ⟨x, dx, .str nm, .str nm, rfl, upd_same, .str nm, hdl, fun hn H1 kp m hi => ⟨rfl, q1 _ (some_ hn) x H1 (kpi_same2 hx hdx kp) (m2.trans m) ⟨dx, hi⟩⟩, fun hn => ((q2 (none_ hn)).1 "part").back s2 m2⟩
    have zput : ¬ wd = "put" := fun z => hz (decide_eq_true (by rw [z]))
    refine ⟨_, rfl, rfl, _, rfl, ite2 (fun hz => ?_) (fun hz => ?_)⟩
    · obtain rfl : wd = "open" := V.str.inj (of_decide_eq_true hz)
      refine ⟨_, rfl, fun x dx hx hdx ne => ?_⟩
      have s2 := ins_same2 (o := .own x) (o2 := .ins T.R.open_.C dx []) hx hdx
      have m2 : Mo H (upd (upd H dx (.own x)) x (.ins T.R.open_.C dx [])) := Mo.upd.trans Mo.upd
      have some_ : nameS nm = true → row2 "open" nm = some (.opn nm) := fun hn => by
        unfold row2
        rw [if_pos hn]
        rw [if_neg (by decide +kernel)]
        rw [if_neg (by decide +kernel)]
        rw [if_neg (by decide +kernel)]
        rw [if_neg (by decide +kernel)]
        rw [if_neg (by decide +kernel)]
        rw [if_pos rfl]
      have none_ : nameS nm = false → row2 "open" nm = none := fun hn => by
        unfold row2
        rw [if_neg (by rw [hn]; decide)]
      refine ⟨x, dx, .str nm, .str nm, rfl, upd_same, .str nm, hdl, fun hn H1 kp m hi => ⟨rfl, q1 _ (some_ hn) x H1 (kpi_same2 hx hdx kp) (m2.trans m) ⟨dx, hi⟩⟩, fun hn => ((q2 (none_ hn)).1 "name").back s2 m2⟩
    have zopen : ¬ wd = "open" := fun z => hz (decide_eq_true (by rw [z]))
    have none_ : row2 wd nm = none := by
      unfold row2
      rw [if_neg znote, if_neg zkeep, if_neg zback, if_neg zref, if_neg zput, if_neg zopen]
      split <;> rfl
    exact ⟨by decide, it_read (T := T.M.IT) (Same.refl H) (Mo.refl H) (q2 none_).2⟩
def spRow3 (T : TRead K mg) : Sp := fun vs H Q E => ∃ wd c l : Str, vs = [.str wd, .str c, .str l] ∧ c.length ≤ 900 ∧ l.length ≤ 900 ∧ SeqAt.shaped (.str l) = true ∧ (∀ r, row3 wd c l = some r → ∀ a H', Same H H' → Mo H H' → RowAt T.R H' a r → Q (.ref a) H') ∧ (row3 wd c l = none → RaiseB T.R.N.IR.C T.M.IT.C H E)
theorem scRow3 : FnScope ["word", "counter", "last"] ["word", "counter", "last"] (defScope sRow3) := ⟨rfl, rfl, rfl, by decide +kernel, rfl, by decide +kernel, by decide +kernel⟩
theorem okRow3 (T : TRead K mg) : FnOk P w K mg base (L2N.CX P w) 6 T.three.f T.three.fd ["word", "counter", "last"] (spRow3 T) := by
  refine (funD T.three.F).ok scRow3 (fun vs H Q E h => ?_) (fun cdv A outer s H vs Q E hr h => ?_)
  · obtain ⟨wd, c, l, rfl, _⟩ := h
    rfl
  · obtain ⟨wd, c, l, rfl, hc, hl, hsh, q1, q2⟩ := h
    have hdc : dlen (.str c) := hc
    have hdl : dlen (.str l) := hl
    refine ⟨_, pss_cons (ps_if (PW.pt (pw_and (pt_cmpR op_eq (pv 0) pe_str (nomark _)) (pw_and1 (pt_cmpR op_ne (pv 2) pe_str (nomark _))))) (pss_one (ps_ret (pe_make T.R.note.M (okNoteInit T.R.note T.R.N) (hr.mono (by decide)) rfl T.R.note.m T.R.note.b .nil (L2N.passes_call (L2N.takes_of rfl rfl rfl rfl) fun _ _ _ _ h => h) (pa_cons (pv 1) (pa_cons (pv 2) pa_nil))))) pss_nil)
      (pss_cons (ps_if (pt_cmpR op_eq (pv 0) pe_str (nomark _)) (pss_one (ps_ret (pe_make T.R.skip.M (okSkipInit T.R.skip T.R.N) (hr.mono (by decide)) rfl T.R.skip.m T.R.skip.b .nil (L2N.passes_call (L2N.takes_of rfl rfl rfl rfl) fun _ _ _ _ h => h) (pa_cons (pv 1) (pa_cons (pe_callS (okReadNum T.M) (hr.mono (by decide)) rfl T.M.num.m T.M.num.F.kp T.M.num.b (fun σ => L2N.passAt (L2N.takes_of rfl rfl rfl rfl) σ) (pa_cons (pv 2) pa_nil)) pa_nil))))) pss_nil)
      (pss_cons (ps_if (pt_cmpR op_eq (pv 0) pe_str (nomark _)) (pss_one (ps_ret (pe_make T.R.set.M (okSetInit T.R.set T.R.N) (hr.mono (by decide)) rfl T.R.set.m T.R.set.b .nil (L2N.passes_call (L2N.takes_of rfl rfl rfl rfl) fun _ _ _ _ h => h) (pa_cons (pv 1) (pa_cons (pe_callS (okReadNum T.M) (hr.mono (by decide)) rfl T.M.num.m T.M.num.F.kp T.M.num.b (fun σ => L2N.passAt (L2N.takes_of rfl rfl rfl rfl) σ) (pa_cons (pv 2) pa_nil)) pa_nil))))) pss_nil)
      (pss_one (L2N.ps_raise rfl (L2N.takes_of rfl rfl rfl rfl) (pmk_oexN T.M.IT.O T.M.IT.iC T.M.IT.tI (okITInit T.M.IT) (hr.mono (by decide)) T.M.IT.b pass0 rfl T.M.IT.m (pa_cons pe_int pa_nil)))))), ?_⟩
    by_cases hz : wd = "note" ∧ l ≠ ""
    · obtain ⟨rfl, hl0⟩ := hz
      refine ⟨_, rfl, rfl, _, rfl, ?_⟩
      refine iteTD (by decide +kernel) ⟨_, rfl, rfl, _, rfl, iteTD (by rw [decide_eq_false (fun z => hl0 (V.str.inj z))]; rfl) ?_⟩
      refine ⟨_, rfl, _, rfl, fun x dx hx hdx ne => ?_⟩
      have s2 := ins_same2 (o := .own x) (o2 := .ins T.R.note.C dx []) hx hdx
      have m2 : Mo H (upd (upd H dx (.own x)) x (.ins T.R.note.C dx [])) := Mo.upd.trans Mo.upd
      refine ⟨x, dx, .str c, .str l, .str c, .str l, rfl, upd_same, .str c, hdc, .str l, hdl, hsh, fun hn hg H1 kp m hi => ⟨rfl, q1 (.note c l) ?_ x H1 (kpi_same2 hx hdx kp) (m2.trans m) ⟨dx, hi⟩⟩, fun hn => ((q2 ?_).1 "counter").back s2 m2, fun hn hg => ((q2 ?_).1 "label").back s2 m2⟩
      · unfold row3
        rw [if_pos ⟨rfl, hl0⟩, if_pos ⟨hn, hg⟩]
      · unfold row3
        rw [if_pos ⟨rfl, hl0⟩, if_neg (fun z => by have h1 : nameS c = true := z.1; have h2 : nameS c = false := hn; rw [h1] at h2; cases h2)]
      · unfold row3
        rw [if_pos ⟨rfl, hl0⟩, if_neg (fun z => by rw [z.2] at hg; cases hg)]
    refine stepIfF (fun Q' hQ => ?tst) ?_
    case tst =>
      refine ⟨_, rfl, rfl, _, rfl, ?_⟩
      by_cases h1 : wd = "note"
      · have hl0 : l = "" := Classical.byContradiction fun z => hz ⟨h1, z⟩
        exact iteTD (decide_eq_true (by rw [h1])) ⟨_, rfl, rfl, _, rfl, by rw [decide_eq_true (show V.str l = V.str "" by rw [hl0])]; exact hQ⟩
      · exact iteFD (decide_eq_false fun z => h1 (V.str.inj z)) hQ
    refine ⟨_, rfl, rfl, _, rfl, ite2 (fun hs => ?_) (fun hs => ?_)⟩
    · obtain rfl : wd = "skip" := V.str.inj (of_decide_eq_true hs)
      refine ⟨_, rfl, _, rfl, l, rfl, Nat.le_trans hl (by decide), fun ho H1 s1 m1 => ?_, fun ho => (q2 (by unfold row3; rw [if_neg hz, if_pos rfl, if_neg (fun z => by rw [z.1] at ho; cases ho)])).2⟩
      intro x dx hx hdx ne
      have s2 := s1.trans (ins_same2 (o := .own x) (o2 := .ins T.R.skip.C dx []) hx hdx)
      have m2 : Mo H (upd (upd H1 dx (.own x)) x (.ins T.R.skip.C dx [])) := m1.trans (Mo.upd.trans Mo.upd)
      refine ⟨x, dx, .str c, .int (numVal l : Nat), .str c, .int (numVal l : Nat), rfl, upd_same, .str c, hdc, .int _, fun hn hg H2 kp m hi => ⟨rfl, q1 (.skip c (numVal l)) (by unfold row3; rw [if_neg hz, if_pos rfl, if_pos ⟨ho, hn, skip_pos hg⟩]) x H2 (s1.trans (kpi_same2 hx hdx kp)) (m2.trans m) ⟨dx, hi⟩⟩, fun hn => ((q2 (by unfold row3; rw [if_neg hz, if_pos rfl, if_neg (fun z => by have h1 : nameS c = true := z.2.1; have h2 : nameS c = false := hn; rw [h1] at h2; cases h2)])).1 "counter").back s2 m2, fun hn hg => ((q2 (by unfold row3; rw [if_neg hz, if_pos rfl, if_neg (fun z => by rw [skip_of z.2.2] at hg; cases hg)])).1 "by").back s2 m2⟩
    have zskip : ¬ wd = "skip" := fun z => hs (decide_eq_true (by rw [z]))
    refine ⟨_, rfl, rfl, _, rfl, ite2 (fun hs => ?_) (fun hs => ?_)⟩
    · obtain rfl : wd = "set" := V.str.inj (of_decide_eq_true hs)
      refine ⟨_, rfl, _, rfl, l, rfl, Nat.le_trans hl (by decide), fun ho H1 s1 m1 => ?_, fun ho => (q2 (by unfold row3; rw [if_neg hz, if_neg (by decide +kernel), if_pos rfl, if_neg (fun z => by rw [z.1] at ho; cases ho)])).2⟩
      intro x dx hx hdx ne
      have s2 := s1.trans (ins_same2 (o := .own x) (o2 := .ins T.R.set.C dx []) hx hdx)
      have m2 : Mo H (upd (upd H1 dx (.own x)) x (.ins T.R.set.C dx [])) := m1.trans (Mo.upd.trans Mo.upd)
      refine ⟨x, dx, .str c, .int (numVal l : Nat), .str c, .int (numVal l : Nat), rfl, upd_same, .str c, hdc, .int _, fun hn hg H2 kp m hi => ⟨rfl, q1 (.set c (numVal l)) (by unfold row3; rw [if_neg hz, if_neg (by decide +kernel), if_pos rfl, if_pos ⟨ho, hn⟩]) x H2 (s1.trans (kpi_same2 hx hdx kp)) (m2.trans m) ⟨dx, hi⟩⟩, fun hn => ((q2 (by unfold row3; rw [if_neg hz, if_neg (by decide +kernel), if_pos rfl, if_neg (fun z => by have h1 : nameS c = true := z.2; have h2 : nameS c = false := hn; rw [h1] at h2; cases h2)])).1 "counter").back s2 m2, fun hn hg => absurd hg (by rw [set_of]; decide)⟩
    have zset : ¬ wd = "set" := fun z => hs (decide_eq_true (by rw [z]))
    have none_ : row3 wd c l = none := by
      unfold row3
      rw [if_neg hz, if_neg zskip, if_neg zset]
    exact ⟨by decide, it_read (T := T.M.IT) (Same.refl H) (Mo.refl H) (q2 none_).2⟩
end
end Pn

namespace Pn
open PySem L2 TL
/-! ### read_row -/
theorem split_len {z : Str} {ws : List Str} (h : Txt.split z " " = ws) : ∀ x ∈ ws, x.length ≤ z.length ∧ ∀ c ∈ tl x, c ∈ tl z := by
  have e := PySem.StrLaws.join_split z " "
  rw [h] at e
  have key : ∀ (l : List Str) (x : Str), x ∈ l → (tl x).length ≤ (joinL (tl " ") (l.map tl)).length ∧ ∀ c ∈ tl x, c ∈ joinL (tl " ") (l.map tl) := by
    intro l
    induction l with
    | nil => intro x hx; cases hx
    | cons a r ih =>
      intro x hx
      cases r with
      | nil =>
        rw [List.mem_singleton.mp hx]
        exact ⟨Nat.le_refl _, fun c hc => hc⟩
      | cons b r =>
        rcases List.mem_cons.mp hx with rfl | hx
        · exact ⟨by show _ ≤ (tl x ++ (tl " " ++ joinL (tl " ") ((b :: r).map tl))).length; rw [List.length_append]; omega, fun c hc => List.mem_append_left _ hc⟩
        · have q := ih x hx
          refine ⟨?_, fun c hc => List.mem_append_right _ (List.mem_append_right _ (q.2 c hc))⟩
          show _ ≤ (tl a ++ (tl " " ++ joinL (tl " ") ((b :: r).map tl))).length
          rw [List.length_append, List.length_append]
          have := q.1
          omega
  intro x hx
  have q := key ws x hx
  rw [← tl_join, e] at q
  exact ⟨by rw [len_tl, len_tl]; exact q.1, q.2⟩
theorem strOk_tl {z : Str} : PyData.strOk z = true ↔ ∀ c ∈ tl z, c < 0x110000 := by
  unfold PyData.strOk
  simp only [Array.all_eq_true']
  constructor
  · intro h c hc
    exact of_decide_eq_true (h c (by simpa using hc))
  · intro h c hc
    exact decide_eq_true (h c (by simpa using hc))
theorem str_shaped {z : Str} (h : PyData.strOk z = true) : SeqAt.shaped (.str z) = true := by
  show (PyData.strOk z && decide (PyData.depth (.str z) ≤ 64)) = true
  rw [h]
  rfl
/-- len of a list or tuple, the written part by its name -/
def rLenK (K : PySem.W.Frag) : List V → Hp → VK → Prop := fun xs H Q => ∃ p ys, xs = [V.ref p] ∧ (SqL K H p ys ∨ SqT K H p ys) ∧ Q (.int ys.length) H
section
variable {P : Program} {w : World} {K : PySem.W.Frag} {mg : Str → Option Value} {base : Heap}
def spReadRow (T : TRead K mg) : Sp := fun vs H Q E => ∃ z : Str, vs = [.str z] ∧ z.length ≤ 800 ∧ PyData.strOk z = true ∧ (∀ r, rowOf (Txt.split z " ") = some r → ∀ a H', Same H H' → Mo H H' → RowAt T.R H' a r → Q (.ref a) H') ∧
  (rowOf (Txt.split z " ") = none → RaiseT T.M.IT.C H E 0)
theorem scReadRow : FnScope ["text", "words"] ["text"] (defScope sReadRow) := ⟨rfl, rfl, rfl, by decide +kernel, rfl, by decide +kernel, by decide +kernel⟩
theorem okReadRow (T : TRead K mg) (hsub : PySem.W.exmOne K (.ref T.M.IT.C) (.ref T.R.N.IR.C) = some false) : FnOk P w K mg base (L2.CX P w) 7 T.read.f T.read.fd ["text"] (spReadRow T) := by
  refine T.read.F.okX scReadRow (fun vs H Q E h => ?_) (fun cdv A outer s H vs Q E hr h => ?_)
  · obtain ⟨z, rfl, _⟩ := h
    rfl
  · obtain ⟨z, rfl, hl, hok, q1, q2⟩ := h
    refine ⟨_, pss_cons (ps_set (i := 1) scReadRow.nd rfl (Or.inl rfl) (pe_split (pv 0) pe_str))
      (pss_cons (L2H.ps_try_onlyX rfl rfl ⟨rfl, by decide, .inl T.R.N.IR.m⟩ (fun hd => L2H.passesAt_of rfl hd) (takes_of rfl rfl rfl rfl)
        (fun W pn xe tkN tkL _ => pss_cons (ps_if (pt_cmpR op_eq (pe_callB (show CallR _ (.builtin "len") (rLenK K) from call_len_seq) (by rfl) T.M.mLen PySem.boot_len (pa_cons (pv 1) pa_nil)) pe_int (nomark _))
            (pss_one (ps_ret (pe_callS (okRow2 T) hr rfl T.two.m T.two.F.kp T.two.b (fun σ => L2N.passAt tkN σ) (pa_cons (pe_ix (show IxR _ (rIxL K) from ix_list) (pv 1) pe_int (fun _ _ => rfl)) (pa_cons (pe_ix (show IxR _ (rIxL K) from ix_list) (pv 1) pe_int (fun _ _ => rfl)) pa_nil))))) pss_nil)
          (pss_one (ps_if (pt_cmpR op_eq (pe_callB (show CallR _ (.builtin "len") (rLenK K) from call_len_seq) (by rfl) T.M.mLen PySem.boot_len (pa_cons (pv 1) pa_nil)) pe_int (nomark _))
            (pss_one (ps_ret (pe_callS (okRow3 T) hr rfl T.three.m T.three.F.kp T.three.b (fun σ => L2N.passAt tkN σ) (pa_cons (pe_ix (show IxR _ (rIxL K) from ix_list) (pv 1) pe_int (fun _ _ => rfl)) (pa_cons (pe_ix (show IxR _ (rIxL K) from ix_list) (pv 1) pe_int (fun _ _ => rfl)) (pa_cons (pe_ix (show IxR _ (rIxL K) from ix_list) (pv 1) pe_int (fun _ _ => rfl)) pa_nil)))))) pss_nil)))
        (fun a oe cls d pn hz hf tk hot => pss_one (L2H.ps_raiseHN hot tk (L2H.pmk5_oexH T.M.IT.O T.M.IT.iC T.M.IT.tI (okITInitH T.M.IT) (L2H.roomH_mark (hr.mono (by decide)) _) hot T.M.IT.b pass0 rfl T.M.IT.m (pa_cons pe_int pa_nil)))))
      (pss_one (ps_raise rfl (takes_of rfl rfl rfl rfl) (pmk_oex T.M.IT.O T.M.IT.iC T.M.IT.tI (okITInit T.M.IT) (hr.mono (by decide)) T.M.IT.b .nil pass0 rfl T.M.IT.m (pa_cons pe_int pa_nil))))), ?_⟩
    refine ⟨_, rfl, ⟨_, rfl⟩, z, " ", rfl, rfl, by decide +kernel, Nat.le_trans (Nat.add_le_add_right hl 2) (by decide), fun p hp => ?_⟩
    have s1 : Same H (upd H p (.lst ((Txt.split z " ").map V.str))) := Same.new hp
    have m1 : Mo H (upd H p (.lst ((Txt.split z " ").map V.str))) := Mo.upd
    have hP : upd H p (.lst ((Txt.split z " ").map V.str)) p = some (.lst ((Txt.split z " ").map V.str)) := upd_same
    have hw := split_len (z := z) rfl
    generalize hG : upd H p (.lst ((Txt.split z " ").map V.str)) = G at s1 m1 hP ⊢
    clear hG
    generalize Txt.split z " " = ws at q1 q2 hw hP ⊢
    have hokz := strOk_tl.mp hok
    match ws, q1, q2, hw, hP with
    | [a, b], q1, q2, hw, hP =>
      refine ⟨_, rfl, p, _, rfl, .inl (SqL.of hP), rfl, _, rfl, iteTD rfl ?_⟩
      refine ⟨_, rfl, p, _, _, _, rfl, rfl, SqL.of hP, rfl, _, rfl, p, _, _, _, rfl, rfl, SqL.of hP, rfl, a, b, rfl, Nat.le_trans (hw b (by simp)).1 (by omega), fun r hr2 x H' hs hm hat => q1 r hr2 x H' (s1.trans hs) (m1.trans hm) hat, ?_⟩
      exact fun hn => ⟨fun wd e H' hs hm he hx => ⟨true, T.R.N.IR.te, fun _ a' ha => ⟨by decide, it_read (T := T.M.IT) (s1.trans hs) (m1.trans hm) (q2 hn)⟩, (fun zz => Bool.noConfusion zz)⟩, fun e H' hs hm he hx => ⟨false, hsub, (fun zz => Bool.noConfusion zz), fun _ => q2 hn e H' (s1.trans hs) (m1.trans hm) (m1 e he) hx⟩⟩
    | [a, b, c], q1, q2, hw, hP =>
      refine ⟨_, rfl, p, _, rfl, .inl (SqL.of hP), rfl, _, rfl, iteFD rfl ?_⟩
      refine ⟨_, rfl, p, _, rfl, .inl (SqL.of hP), rfl, _, rfl, iteTD rfl ?_⟩
      refine ⟨_, rfl, p, _, _, _, rfl, rfl, SqL.of hP, rfl, _, rfl, p, _, _, _, rfl, rfl, SqL.of hP, rfl, _, rfl, p, _, _, _, rfl, rfl, SqL.of hP, rfl, a, b, c, rfl, Nat.le_trans (hw b (by simp)).1 (by omega), Nat.le_trans (hw c (by simp)).1 (by omega), str_shaped (strOk_tl.mpr fun y hy => hokz y ((hw c (by simp)).2 y hy)), fun r hr2 x H' hs hm hat => q1 r hr2 x H' (s1.trans hs) (m1.trans hm) hat, ?_⟩
      exact fun hn => ⟨fun wd e H' hs hm he hx => ⟨true, T.R.N.IR.te, fun _ a' ha => ⟨by decide, it_read (T := T.M.IT) (s1.trans hs) (m1.trans hm) (q2 hn)⟩, (fun zz => Bool.noConfusion zz)⟩, fun e H' hs hm he hx => ⟨false, hsub, (fun zz => Bool.noConfusion zz), fun _ => q2 hn e H' (s1.trans hs) (m1.trans hm) (m1 e he) hx⟩⟩
    | [], q1, q2, hw, hP =>
      refine ⟨_, rfl, p, _, rfl, .inl (SqL.of hP), rfl, _, rfl, iteFD rfl ?_⟩
      refine ⟨_, rfl, p, _, rfl, .inl (SqL.of hP), rfl, _, rfl, iteFD rfl ?_⟩
      exact ⟨by decide, it_read (T := T.M.IT) s1 m1 (q2 rfl)⟩
    | [a], q1, q2, hw, hP =>
      refine ⟨_, rfl, p, _, rfl, .inl (SqL.of hP), rfl, _, rfl, iteFD rfl ?_⟩
      refine ⟨_, rfl, p, _, rfl, .inl (SqL.of hP), rfl, _, rfl, iteFD rfl ?_⟩
      exact ⟨by decide, it_read (T := T.M.IT) s1 m1 (q2 rfl)⟩
    | a :: b :: c :: d :: r, q1, q2, hw, hP =>
      have h2 : decide (V.int (((a :: b :: c :: d :: r).map V.str).length : Int) = V.int 2) = false := decide_eq_false fun zz => by
        have := V.int.inj zz
        simp only [List.length_map, List.length_cons] at this
        omega
      have h3 : decide (V.int (((a :: b :: c :: d :: r).map V.str).length : Int) = V.int 3) = false := decide_eq_false fun zz => by
        have := V.int.inj zz
        simp only [List.length_map, List.length_cons] at this
        omega
      refine ⟨_, rfl, p, _, rfl, .inl (SqL.of hP), rfl, _, rfl, iteFD h2 ?_⟩
      refine ⟨_, rfl, p, _, rfl, .inl (SqL.of hP), rfl, _, rfl, iteFD h3 ?_⟩
      exact ⟨by decide, it_read (T := T.M.IT) s1 m1 (q2 rfl)⟩
end
end Pn

namespace Pn
open PySem L2
/-- a pool of names: counters, parts, open places, labels -/
structure Pool where
  c : List Str
  p : List Str
  x : List Str
  l : List Str
def poolsD : List Pool := [⟨["c", "f", "r"], ["p", "pic", "fig", "text"], ["x", "y"], ["cat", "dog"]⟩, ⟨["a", "ab", "abc"], ["a", "aa", "ab", "b"], ["b", "bb"], ["a", "z"]⟩, ⟨["n", "nn", "m"], ["z", "y", "x", "w"], ["n", "o"], ["x", "n"]⟩]
structure Pool.Fine (d : Pool) : Prop where
  cl : d.c.length = 3
  pl : d.p.length = 4
  xl : d.x.length = 2
  ll : d.l.length = 2
  cn : d.c.Nodup
  pn : d.p.Nodup
  names : ∀ y ∈ d.c ++ d.p ++ d.x ++ d.l, nameS y = true
theorem pool_fine : ∀ d ∈ poolsD, d.Fine := fun d hd => by
  have h : ∀ d ∈ poolsD, ((decide (d.c.length = 3) && decide (d.p.length = 4) && decide (d.x.length = 2) && decide (d.l.length = 2)) && (decide d.c.Nodup && decide d.p.Nodup)) && (d.c ++ d.p ++ d.x ++ d.l).all nameS = true := List.all_eq_true.mp (by decide +kernel)
  have q := h d hd
  simp only [Bool.and_eq_true, decide_eq_true_eq] at q
  obtain ⟨⟨⟨⟨⟨q1, q2⟩, q3⟩, q4⟩, q5, q6⟩, q7⟩ := q
  exact ⟨q1, q2, q3, q4, q5, q6, List.all_eq_true.mp q7⟩
/-- a pool as it stands -/
def PoolAt (H : Hp) (a : Addr) (d : Pool) : Prop := ∃ a0 a1 a2 a3 : Addr, H a = some (.lst [.ref a0, .ref a1, .ref a2, .ref a3]) ∧ H a0 = some (.lst (d.c.map V.str)) ∧ H a1 = some (.lst (d.p.map V.str)) ∧ H a2 = some (.lst (d.x.map V.str)) ∧ H a3 = some (.lst (d.l.map V.str))
section
variable {P : Program} {w : World} {K : PySem.W.Frag} {mg : Str → Option Value} {base : Heap}
def spPools : Sp := fun vs H Q _ => ∃ b : Addr, vs = [.ref b] ∧ BoxAt H b ∧ ∀ (a : Addr) (d : Pool) (H' : Hp), d ∈ poolsD → BoxAt H' b → Kp b H H' → PoolAt (dif H H') a d → Q (.ref a) H'
end
end Pn

namespace Pn
open PySem L2
/-- counters as they stand: a list of pairs -/
def CsAt (H : Hp) (c : Addr) (cs : List (Str × Str)) : Prop := ∃ ts : List Addr, H c = some (.lst (ts.map V.ref)) ∧ Paired (fun t p => H t = some (.tup [.str p.1, .str p.2])) ts cs
/-- each upper one stands ahead -/
def TreeOk (cs : List (Str × Str)) : Prop := ∀ (i : Nat) (p : Str × Str), cs[i]? = some p → p.2 = "" ∨ p.2 ∈ (cs.take i).map (·.1)
theorem tree_snoc {cs : List (Str × Str)} {p : Str × Str} (h : TreeOk cs) (hp : p.2 = "" ∨ p.2 ∈ cs.map (·.1)) : TreeOk (cs ++ [p]) := fun i q hq => by
  by_cases hi : i < cs.length
  · rw [List.getElem?_append_left hi] at hq
    rcases h i q hq with e | e
    · exact .inl e
    · refine .inr ?_
      rw [List.take_append_of_le_length (by omega)]
      exact e
  · rw [List.getElem?_append_right (by omega)] at hq
    have h0 : i - cs.length = 0 := by
      cases h1 : i - cs.length with
      | zero => rfl
      | succ n => rw [h1] at hq; simp at hq
    rw [h0] at hq
    have e : p = q := by simpa using hq
    subst e
    rcases hp with e | e
    · exact .inl e
    · refine .inr ?_
      rw [show i = cs.length by omega, List.take_left']
      · exact e
      · rfl
theorem paired_mono {α β : Type} {R S : α → β → Prop} (h : ∀ a b, R a b → S a b) : ∀ {l : List α} {m : List β}, Paired R l m → Paired S l m
  | _, _, .nil => .nil
  | _, _, .cons a b => .cons (h _ _ a) (paired_mono h b)
theorem paired_snoc {α β : Type} {R : α → β → Prop} {x : α} {y : β} (h : R x y) : ∀ {l : List α} {m : List β}, Paired R l m → Paired R (l ++ [x]) (m ++ [y])
  | _, _, .nil => .cons h .nil
  | _, _, .cons a b => .cons a (paired_snoc h b)
theorem paired_at {α β : Type} {R : α → β → Prop} : ∀ {l : List α} {m : List β} {i : Nat} {x : α}, Paired R l m → l[i]? = some x → ∃ y, m[i]? = some y ∧ R x y
  | _, _, _, _, .nil, h => by simp at h
  | _, _, 0, _, .cons a _, h => by
    have e := Option.some.inj h
    subst e
    exact ⟨_, rfl, a⟩
  | _, _, i + 1, _, .cons _ b, h => paired_at (i := i) b h
theorem paired_len {α β : Type} {R : α → β → Prop} : ∀ {l : List α} {m : List β}, Paired R l m → l.length = m.length
  | _, _, .nil => rfl
  | _, _, .cons _ b => by rw [List.length_cons, List.length_cons, paired_len b]
section
variable {P : Program} {w : World} {K : PySem.W.Frag} {mg : Str → Option Value} {base : Heap}
def spCounters (K : PySem.W.Frag) : Sp := fun vs H Q _ => ∃ (b p : Addr) (m : Nat) (l : List Str), vs = [.ref b, .ref p, .int (m : Int)] ∧ BoxAt H b ∧ SqL K H p (l.map V.str) ∧ p ≠ b ∧ 0 < m ∧ m ≤ l.length ∧ l.length ≤ 100 ∧
  ∀ (c : Addr) (cs : List (Str × Str)) (H' : Hp), Kp b H H' → BoxAt H' b → CsAt (dif H H') c cs → 0 < cs.length → cs.length ≤ m → cs.map (·.1) = l.take cs.length → TreeOk cs → Q (.ref c) H'
end
end Pn

namespace Pn
open PySem L2
/-- a row as the tuple that the law draws -/
def rowTup : RowD → List V
  | .note c l => [.str "note", .str c, .str l]
  | .skip c n => [.str "skip", .str c, .int (n : Int)]
  | .set c n => [.str "set", .str c, .int (n : Int)]
  | .keep c => [.str "keep", .str c]
  | .back c => [.str "back", .str c]
  | .ref c => [.str "ref", .str c]
  | .put c => [.str "put", .str c]
  | .opn c => [.str "open", .str c]
def rowFine (d : Pool) (cs : List (Str × Str)) (parts : List Str) : RowD → Prop
  | .note c l => c ∈ cs.map (·.1) ∧ (l = "" ∨ l ∈ d.l)
  | .skip c n => c ∈ cs.map (·.1) ∧ 1 ≤ n ∧ n ≤ 3
  | .set c n => c ∈ cs.map (·.1) ∧ n ≤ 3
  | .keep c => c ∈ cs.map (·.1)
  | .back c => c ∈ cs.map (·.1)
  | .ref _ => False
  | .put p => p ∈ parts
  | .opn x => x ∈ d.x
theorem PoolAt.mono {H H' : Hp} {a : Addr} {d : Pool} (s : Same H H') (h : PoolAt H a d) : PoolAt H' a d := by
  obtain ⟨a0, a1, a2, a3, e, e0, e1, e2, e3⟩ := h
  exact ⟨a0, a1, a2, a3, s _ _ e, s _ _ e0, s _ _ e1, s _ _ e2, s _ _ e3⟩
theorem CsAt.mono {H H' : Hp} {a : Addr} {cs : List (Str × Str)} (s : Same H H') (h : CsAt H a cs) : CsAt H' a cs := by
  obtain ⟨ts, e, p⟩ := h
  exact ⟨ts, s _ _ e, paired_mono (fun _ _ z => s _ _ z) p⟩
theorem dif_hid {b : Addr} {H H' : Hp} {o : HO} (hb : H b = some o) : Same (dif H H') (hid H' b) := fun a u e => by
  obtain ⟨e0, e1⟩ := dif_eq.mp e
  exact hid_get e1 (fun z => by rw [z, hb] at e0; cases e0)
theorem hid_ne {H : Hp} {b a : Addr} {o : HO} (h : hid H b a = some o) : a ≠ b := fun z => by
  unfold hid at h
  rw [if_pos z] at h
  cases h
theorem newAt {b t : Addr} {H Hx : Hp} {o : HO} (k : Kp b H Hx) (hx : BoxAt Hx b) (ht : Hx t = none) : dif H (upd Hx t o) t = some o := by
  obtain ⟨_, _, _, g⟩ := hx
  exact dif_new (k.mo g t ht) upd_same
theorem BoxAt.new {b t : Addr} {H : Hp} {o : HO} (h : BoxAt H b) (ht : H t = none) : BoxAt (upd H t o) b := by
  obtain ⟨x, y, e, g⟩ := h
  exact ⟨x, y, e, Same.new ht b _ g⟩
theorem BoxAt.ne {b t : Addr} {H : Hp} (h : BoxAt H b) (ht : H t = none) : t ≠ b := fun z => by
  obtain ⟨x, y, e, g⟩ := h
  rw [z, g] at ht
  cases ht
theorem strsL_nil (l : List Str) : PyData.eqv (.list (l.map PyData.str)) (.list []) = l.isEmpty := by
  cases l <;> simp [PyData.eqv, PyData.eqvAll]
theorem dp_strL {K : PySem.W.Frag} {H : Hp} : ∀ l : List Str, DpAll K H (l.map V.str) (l.map PyData.str)
  | [] => .nil
  | x :: l => .cons (.str x) (dp_strL l)
theorem strL_sh {l : List Str} (h : ∀ x ∈ l, PyData.strOk x = true) : SeqAt.shaped (.list (l.map PyData.str)) = true := by
  have q : ∀ m : List Str, (∀ x ∈ m, PyData.strOk x = true) → PyData.canLayAll0 (m.map PyData.str) = true ∧ PyData.depthAll (m.map PyData.str) = 0 := by
    intro m
    induction m with
    | nil => intro _; exact ⟨by simp [PyData.canLayAll0], by simp [PyData.depthAll]⟩
    | cons x m ih =>
      intro h
      have q := ih fun y hy => h y (List.mem_cons_of_mem _ hy)
      refine ⟨?_, by simp [PyData.depthAll, PyData.depth, q.2]⟩
      show (PyData.strOk x && PyData.canLayAll0 (m.map PyData.str)) = true
      rw [h x List.mem_cons_self, q.1]
      rfl
  have q := q l h
  show (PyData.canLay0 (.list (l.map PyData.str)) && decide (PyData.depth (.list (l.map PyData.str)) ≤ 64)) = true
  rw [Bool.and_eq_true]
  refine ⟨by simp only [PyData.canLay0]; exact q.1, decide_eq_true ?_⟩
  simp only [PyData.depth, q.2]
  decide
theorem name_ok {z : Str} (h : nameS z = true) : PyData.strOk z = true ∧ z.length ≤ 4 := by
  unfold nameS at h
  rw [Bool.and_eq_true, Bool.and_eq_true, Bool.and_eq_true] at h
  obtain ⟨⟨_, h2, h3⟩, h4⟩ := h
  refine ⟨strOk_tl.mpr fun c hc => ?_, by have := of_decide_eq_true h3; omega⟩
  have q := List.all_eq_true.mp h4 c hc
  unfold lok at q
  rw [Bool.and_eq_true] at q
  have := of_decide_eq_true q.2
  omega
section
variable {P : Program} {w : World} {K : PySem.W.Frag} {mg : Str → Option Value} {base : Heap}
def spDRow (K : PySem.W.Frag) : Sp := fun vs H Q _ => ∃ (b pp cc ps : Addr) (d : Pool) (cs : List (Str × Str)) (parts : List Str), vs = [.ref b, .ref pp, .ref cc, .ref ps] ∧ BoxAt H b ∧ PoolAt (hid H b) pp d ∧ d ∈ poolsD ∧ CsAt (hid H b) cc cs ∧ 0 < cs.length ∧ cs.length ≤ 100 ∧
  SqL K H ps (parts.map V.str) ∧ ps ≠ b ∧ parts.length ≤ 100 ∧ (∀ x ∈ parts, nameS x = true) ∧
  ∀ (t : Addr) (r : RowD) (H' : Hp), Kp b H H' → BoxAt H' b → dif H H' t = some (.tup (rowTup r)) → rowFine d cs parts r → Q (.ref t) H'
end
end Pn

namespace Pn
open PySem L2 TL
def rowValid : RowD → Prop
  | .note c l => nameS c = true ∧ (l = "" ∨ nameS l = true)
  | .skip c n => nameS c = true ∧ 1 ≤ n ∧ n < 10 ^ 10
  | .set c n => nameS c = true ∧ n < 10 ^ 10
  | .keep c => nameS c = true
  | .back c => nameS c = true
  | .ref c => nameS c = true
  | .put c => nameS c = true
  | .opn c => nameS c = true
theorem fine_valid {d : Pool} {cs : List (Str × Str)} {parts : List Str} (hd : d.Fine) (hc : ∀ x ∈ cs.map (·.1), nameS x = true) (hp : ∀ x ∈ parts, nameS x = true) : ∀ {r : RowD}, rowFine d cs parts r → rowValid r
  | .note _ _, h => ⟨hc _ h.1, h.2.imp id fun z => hd.names _ (List.mem_append_right _ z)⟩
  | .skip _ _, h => ⟨hc _ h.1, h.2.1, Nat.lt_of_le_of_lt h.2.2 (by decide)⟩
  | .set _ _, h => ⟨hc _ h.1, Nat.lt_of_le_of_lt h.2 (by decide)⟩
  | .keep _, h => hc _ h
  | .back _, h => hc _ h
  | .put _, h => hp _ h
  | .opn _, h => hd.names _ (List.mem_append_left _ (List.mem_append_right _ h))
/-- what a word of a drawn row says in its text -/
def wOf : V → Option Str
  | .str z => if z = "" then none else some z
  | .int i => some (Str.ofString (toString i))
  | _ => none
theorem name_ne {z : Str} (h : nameS z = true) : z ≠ "" := fun e => by
  subst e
  exact absurd h (by decide +kernel)
theorem words_of : ∀ {r : RowD}, rowValid r → (rowTup r).filterMap wOf = rowWords r
  | .note c l, h => by
    have h0 := name_ne h.1
    have k : wOf (.str "note") = some "note" := by decide +kernel
    have kc : wOf (.str c) = some c := if_neg h0
    by_cases hl : l = ""
    · have kl : wOf (.str l) = none := if_pos hl
      show List.filterMap wOf [.str "note", .str c, .str l] = (if l = "" then (["note", c] : List Str) else ["note", c, l])
      rw [if_pos hl]
      simp [k, kc, kl]
    · have kl : wOf (.str l) = some l := if_neg hl
      show List.filterMap wOf [.str "note", .str c, .str l] = (if l = "" then (["note", c] : List Str) else ["note", c, l])
      rw [if_neg hl]
      simp [k, kc, kl]
  | .skip c n, h => by
    have k : wOf (.str "skip") = some "skip" := by decide +kernel
    have kc : wOf (.str c) = some c := if_neg (name_ne h.1)
    show List.filterMap wOf [.str "skip", .str c, .int (n : Int)] = (["skip", c, numStr n] : List Str)
    simp [List.filterMap_cons, k, kc]
    rfl
  | .set c n, h => by
    have k : wOf (.str "set") = some "set" := by decide +kernel
    have kc : wOf (.str c) = some c := if_neg (name_ne h.1)
    show List.filterMap wOf [.str "set", .str c, .int (n : Int)] = (["set", c, numStr n] : List Str)
    simp [List.filterMap_cons, k, kc]
    rfl
  | .keep c, h => by
    have k : wOf (.str "keep") = some "keep" := by decide +kernel
    have kc : wOf (.str c) = some c := if_neg (name_ne h)
    show List.filterMap wOf [.str "keep", .str c] = (["keep", c] : List Str)
    simp [List.filterMap_cons, k, kc]
  | .back c, h => by
    have k : wOf (.str "back") = some "back" := by decide +kernel
    have kc : wOf (.str c) = some c := if_neg (name_ne h)
    show List.filterMap wOf [.str "back", .str c] = (["back", c] : List Str)
    simp [List.filterMap_cons, k, kc]
  | .ref c, h => by
    have k : wOf (.str "ref") = some "ref" := by decide +kernel
    have kc : wOf (.str c) = some c := if_neg (name_ne h)
    show List.filterMap wOf [.str "ref", .str c] = (["ref", c] : List Str)
    simp [List.filterMap_cons, k, kc]
  | .put c, h => by
    have k : wOf (.str "put") = some "put" := by decide +kernel
    have kc : wOf (.str c) = some c := if_neg (name_ne h)
    show List.filterMap wOf [.str "put", .str c] = (["put", c] : List Str)
    simp [List.filterMap_cons, k, kc]
  | .opn c, h => by
    have k : wOf (.str "open") = some "open" := by decide +kernel
    have kc : wOf (.str c) = some c := if_neg (name_ne h)
    show List.filterMap wOf [.str "open", .str c] = (["open", c] : List Str)
    simp [List.filterMap_cons, k, kc]
theorem numStr_small {n : Nat} (h : n < 10 ^ 10) : (numStr n).length ≤ 20 ∧ PyData.strOk (numStr n) = true := by
  refine ⟨numStr_len (Nat.lt_trans h (by decide)), strOk_tl.mpr fun c hc => ?_⟩
  have e : tl (numStr n) = numL n := tl_num n
  rw [e] at hc
  have q := numL_digits n c hc
  omega
/-- the words of a row that stands: few, short, of ordinary signs -/
theorem words_small {r : RowD} (h : rowValid r) : (rowWords r).length ≤ 3 ∧ 2 ≤ (rowWords r).length ∧ ∀ x ∈ rowWords r, x.length ≤ 20 ∧ PyData.strOk x = true := by
  have nm : ∀ {z : Str}, nameS z = true → z.length ≤ 20 ∧ PyData.strOk z = true := fun h => ⟨Nat.le_trans (name_ok h).2 (by decide), (name_ok h).1⟩
  have lit : ∀ z ∈ (["note", "skip", "set", "keep", "back", "ref", "put", "open"] : List Str), z.length ≤ 20 ∧ PyData.strOk z = true := fun z hz => by
    have q : (["note", "skip", "set", "keep", "back", "ref", "put", "open"] : List Str).all (fun z => decide (z.length ≤ 20) && PyData.strOk z) = true := by decide +kernel
    have := List.all_eq_true.mp q z hz
    rw [Bool.and_eq_true] at this
    exact ⟨of_decide_eq_true this.1, this.2⟩
  have two : ∀ {a c : Str}, a ∈ (["note", "skip", "set", "keep", "back", "ref", "put", "open"] : List Str) → nameS c = true → ([a, c] : List Str).length ≤ 3 ∧ 2 ≤ ([a, c] : List Str).length ∧ ∀ x ∈ ([a, c] : List Str), x.length ≤ 20 ∧ PyData.strOk x = true := fun {a c} ha hc =>
    ⟨by show 2 ≤ 3; decide, by show 2 ≤ 2; decide, fun x hx => by
      rcases List.mem_cons.mp hx with rfl | hx
      · exact lit _ ha
      · rw [List.mem_singleton.mp hx]; exact nm hc⟩
  have three : ∀ {a c l : Str}, a ∈ (["note", "skip", "set", "keep", "back", "ref", "put", "open"] : List Str) → nameS c = true → (l.length ≤ 20 ∧ PyData.strOk l = true) → ([a, c, l] : List Str).length ≤ 3 ∧ 2 ≤ ([a, c, l] : List Str).length ∧ ∀ x ∈ ([a, c, l] : List Str), x.length ≤ 20 ∧ PyData.strOk x = true := fun {a c l} ha hc hl =>
    ⟨by show 3 ≤ 3; decide, by show 2 ≤ 3; decide, fun x hx => by
      rcases List.mem_cons.mp hx with rfl | hx
      · exact lit _ ha
      · rcases List.mem_cons.mp hx with rfl | hx
        · exact nm hc
        · rw [List.mem_singleton.mp hx]; exact hl⟩
  cases r with
  | note c l =>
    show (if l = "" then (["note", c] : List Str) else ["note", c, l]).length ≤ 3 ∧ 2 ≤ (if l = "" then (["note", c] : List Str) else ["note", c, l]).length ∧ ∀ x ∈ (if l = "" then (["note", c] : List Str) else ["note", c, l]), _
    by_cases hl : l = ""
    · rw [if_pos hl]
      exact two (by decide +kernel) h.1
    · rw [if_neg hl]
      exact three (by decide +kernel) h.1 (nm (h.2.resolve_left hl))
  | skip c n => exact three (by decide +kernel) h.1 (numStr_small h.2.2)
  | set c n => exact three (by decide +kernel) h.1 (numStr_small h.2)
  | keep c => exact two (by decide +kernel) h
  | back c => exact two (by decide +kernel) h
  | ref c => exact two (by decide +kernel) h
  | put c => exact two (by decide +kernel) h
  | opn c => exact two (by decide +kernel) h
section
variable {P : Program} {w : World} {K : PySem.W.Frag} {mg : Str → Option Value} {base : Heap}
def rStrF : List V → Hp → VK → Prop := fun xs H Q => (∃ a, xs = [.str a] ∧ Q (.str a) H) ∨ ∃ i : Int, xs = [.int i] ∧ i.natAbs.log2 < 1920 ∧ Q (.str (Str.ofString (toString i))) H
theorem call_strF {X : Cx} : CallR X (.type "str") rStrF := fun pins s σ H xs us Q I r h => h.elim (fun h => SkE.call_str_str pins s σ H xs us Q I r h) fun h => call_str_int pins s σ H xs us Q I r h
theorem tup_items {r : RowD} (h : rowValid r) : (rowTup r).length ≤ 3 ∧ ∀ v ∈ rowTup r, (∃ z : Str, v = .str z ∧ PyData.strOk z = true) ∨ ∃ n : Nat, v = .int (n : Int) ∧ n < 10 ^ 10 := by
  have nm : ∀ {z : Str}, nameS z = true → PyData.strOk z = true := fun h => (name_ok h).1
  have l8 : ∀ z ∈ (["note", "skip", "set", "keep", "back", "ref", "put", "open"] : List Str), PyData.strOk z = true := List.all_eq_true.mp (by decide +kernel)
  have two : ∀ {a c : Str}, a ∈ (["note", "skip", "set", "keep", "back", "ref", "put", "open"] : List Str) → nameS c = true → ([.str a, .str c] : List V).length ≤ 3 ∧ ∀ v ∈ ([.str a, .str c] : List V), (∃ z : Str, v = .str z ∧ PyData.strOk z = true) ∨ ∃ n : Nat, v = .int (n : Int) ∧ n < 10 ^ 10 := fun {a c} ha hc =>
    ⟨by show 2 ≤ 3; decide, fun v hv => by
      rcases List.mem_cons.mp hv with rfl | hv
      · exact .inl ⟨a, rfl, l8 a ha⟩
      · rw [List.mem_singleton.mp hv]; exact .inl ⟨c, rfl, nm hc⟩⟩
  have three : ∀ {a c : Str} {u : V}, a ∈ (["note", "skip", "set", "keep", "back", "ref", "put", "open"] : List Str) → nameS c = true → ((∃ z : Str, u = .str z ∧ PyData.strOk z = true) ∨ ∃ n : Nat, u = .int (n : Int) ∧ n < 10 ^ 10) →
      ([.str a, .str c, u] : List V).length ≤ 3 ∧ ∀ v ∈ ([.str a, .str c, u] : List V), (∃ z : Str, v = .str z ∧ PyData.strOk z = true) ∨ ∃ n : Nat, v = .int (n : Int) ∧ n < 10 ^ 10 := fun {a c u} ha hc hu =>
    ⟨by show 3 ≤ 3; decide, fun v hv => by
      rcases List.mem_cons.mp hv with rfl | hv
      · exact .inl ⟨a, rfl, l8 a ha⟩
      · rcases List.mem_cons.mp hv with rfl | hv
        · exact .inl ⟨c, rfl, nm hc⟩
        · rw [List.mem_singleton.mp hv]; exact hu⟩
  cases r with
  | note c l => exact three (by decide +kernel) h.1 (.inl ⟨l, rfl, h.2.elim (fun z => by rw [z]; decide +kernel) nm⟩)
  | skip c n => exact three (by decide +kernel) h.1 (.inr ⟨n, rfl, h.2.2⟩)
  | set c n => exact three (by decide +kernel) h.1 (.inr ⟨n, rfl, h.2⟩)
  | keep c => exact two (by decide +kernel) h
  | back c => exact two (by decide +kernel) h
  | ref c => exact two (by decide +kernel) h
  | put c => exact two (by decide +kernel) h
  | opn c => exact two (by decide +kernel) h
end
end Pn

namespace Pn
open PySem L2 TL
structure TStrs {K : PySem.W.Frag} {mg : Str → Option Value} (T : TRows K mg) : Type where
  note : TStr K T.note.C "Note.__str__" sNoteStr
  skip : TStr K T.skip.C "Skip.__str__" sSkipStr
  set : TStr K T.set.C "Set.__str__" sSetStr
  keep : TStr K T.keep.C "Keep.__str__" sKeepStr
  back : TStr K T.back.C "Back.__str__" sBackStr
  ref : TStr K T.ref.C "Ref.__str__" sRefStr
  put : TStr K T.put.C "Put.__str__" sPutStr
  open_ : TStr K T.open_.C "Open.__str__" sOpenStr
def rStrRow {K : PySem.W.Frag} {mg : Str → Option Value} (T : TRows K mg) : List V → Hp → VK → Prop := fun xs H Q => ∃ (a : Addr) (r : RowD), xs = [.ref a] ∧ RowAt T H a r ∧ rowSmall r ∧ Q (.str (rowText r)) H
theorem call_strRow {X : Cx} (T : TRows X.K X.mg) (S : TStrs T) (hr : Room 3 X.A) : CallR X (.type "str") (rStrRow T) := by
  intro pins s σ H xs us Q I rv h
  obtain ⟨a, r, rfl, ⟨dx, ha⟩, hs, q⟩ := h
  cases r with
  | note c l => exact call_strIns (okNoteStr T S.note) S.note.hf hr S.note.b pass0 pins s σ H _ us Q I rv ⟨a, _, dx, _, rfl, ha, S.note.hs, a, c, l, rfl, ⟨dx, ha⟩, hs.1, hs.2, _, rfl, q⟩
  | skip c n => exact call_strIns (okSkipStr T S.skip) S.skip.hf hr S.skip.b pass0 pins s σ H _ us Q I rv ⟨a, _, dx, _, rfl, ha, S.skip.hs, a, c, n, rfl, ⟨dx, ha⟩, hs.1, hs.2, _, rfl, q⟩
  | set c n => exact call_strIns (okSetStr T S.set) S.set.hf hr S.set.b pass0 pins s σ H _ us Q I rv ⟨a, _, dx, _, rfl, ha, S.set.hs, a, c, n, rfl, ⟨dx, ha⟩, hs.1, hs.2, _, rfl, q⟩
  | keep c => exact call_strIns (okKeepStr T S.keep) S.keep.hf hr S.keep.b pass0 pins s σ H _ us Q I rv ⟨a, _, dx, _, rfl, ha, S.keep.hs, a, c, rfl, ⟨dx, ha⟩, hs, _, rfl, q⟩
  | back c => exact call_strIns (okBackStr T S.back) S.back.hf hr S.back.b pass0 pins s σ H _ us Q I rv ⟨a, _, dx, _, rfl, ha, S.back.hs, a, c, rfl, ⟨dx, ha⟩, hs, _, rfl, q⟩
  | ref c => exact call_strIns (okRefStr T S.ref) S.ref.hf hr S.ref.b pass0 pins s σ H _ us Q I rv ⟨a, _, dx, _, rfl, ha, S.ref.hs, a, c, rfl, ⟨dx, ha⟩, hs, _, rfl, q⟩
  | put c => exact call_strIns (okPutStr T S.put) S.put.hf hr S.put.b pass0 pins s σ H _ us Q I rv ⟨a, _, dx, _, rfl, ha, S.put.hs, a, c, rfl, ⟨dx, ha⟩, hs, _, rfl, q⟩
  | opn c => exact call_strIns (okOpenStr T S.open_) S.open_.hf hr S.open_.b pass0 pins s σ H _ us Q I rv ⟨a, _, dx, _, rfl, ha, S.open_.hs, a, c, rfl, ⟨dx, ha⟩, hs, _, rfl, q⟩
theorem call_strRowK {X : Cx} {K : PySem.W.Frag} {mg : Str → Option Value} (hK : X.K = K) (hm : X.mg = mg) (T : TRows K mg) (S : TStrs T) (hr : Room 3 X.A) : CallR X (.type "str") (rStrRow T) := by
  subst hK
  subst hm
  exact call_strRow T S hr
theorem name_small {z : Str} (h : nameS z = true) : z.length ≤ 100 := Nat.le_trans (name_ok h).2 (by decide)
theorem lab_small {l : Str} (h : labD (.str l) = true) : l = "" ∨ nameS l = true := by
  unfold labD at h
  rw [Bool.or_eq_true] at h
  rcases h with h | h
  · left
    simp only [PyData.eqv] at h
    exact eq_of_beq h
  · exact .inr h
end Pn

namespace Pn
open PySem L2 TL
theorem passN0 {P : Program} {w : World} {X : Cx} : Passes (L2N.CX P w) X E0 := fun _ _ _ _ _ _ _ ⟨_, _, _, _, _, _, _, _, _, _, _, _, h⟩ => h.elim
section
variable {P : Program} {w : World} {K : PySem.W.Frag} {mg : Str → Option Value} {base : Heap}
def spMade (R : TRows K mg) : Sp := fun vs H Q _ => ∃ (t : Addr) (r : RowD), vs = [.ref t] ∧ SqT K H t (rowTup r) ∧ rowValid r ∧ ∀ a H', Same H H' → RowAt R H' a r → Q (.ref a) H'
theorem lab_of {l : Str} (h : l = "" ∨ nameS l = true) : labD (.str l) = true := by
  rcases h with rfl | h
  · decide +kernel
  · show (PyData.eqv (.str l) (.str "") || nameS l) = true
    rw [h, Bool.or_true]
end
end Pn

namespace Pn
open PySem L2
/-! ### == of an own instance whose class has an __eq__ of its own -/
section
variable {X : Cx} {CX : CXT} {k : Nat} {f C : Addr} {fd : FuncData} {ps : List Str} {sp : Sp} {E : XK}
/-- what stands to the right: a text, or an instance whose class is not first asked -/
def Right (K : PySem.W.Frag) (C : Addr) (H : Hp) (y : V) : Prop := (∃ z : Str, y = .str z ∧ PySem.W.notFirst K C (.type "str") = true) ∨ ∃ (b D dy : Addr) (gs : List (Str × V)), y = .ref b ∧ H b = some (.ins D dy gs) ∧ PySem.W.notFirst K C (.ref D) = true
def rOpIns (K : PySem.W.Frag) (nm : Str) (f : Addr) (sp : Sp) (E : XK) : R2 := fun x y H Q => ∃ (a C dx : Addr) (fs : List (Str × V)), x = .ref a ∧ H a = some (.ins C dx fs) ∧ PySem.W.findIn K (.ref C) nm = some (some (.ref f)) ∧ Right K C H y ∧ sp [x, y] H Q E
theorem op_eqIns (F : FnOk X.prog X.w X.K X.mg X.base CX k f fd ps sp) (hf : PySem.W.isFn X.K (.ref f) = true) (hr : Room k X.A) (hb : Binds X.K fd ps []) (hx : Passes CX X E) : OpR X (compareOp .Eq) (rOpIns X.K "__eq__" f sp E) := by
  intro pins s σ H x y v u Q I rx ry h
  obtain ⟨a, C, dx, fs, rfl, ha, hs, hy, q⟩ := h
  cases rx
  obtain ⟨mA, O, _⟩ := ins_get I.hok ha
  obtain ⟨od, J, _⟩ := O.look
  obtain ⟨m, hF⟩ := I.fr
  show wpAny (model X.prog X.w) X.A (richCompare .Eq (.ref a) u) (EP X pins σ Q) X.xe s
  have go : ∀ tb, PySem.W.Looks (model X.prog X.w) s.heap (typeOf u) tb → PySem.W.notFirst X.K C tb = true → wpAny (model X.prog X.w) X.A (richCompare .Eq (.ref a) u) (EP X pins σ Q) X.xe s := fun tb hl hn => by
    refine PySem.W.cmp_K (op := .Eq) (tb := tb) hr.units0 hF I.ok.mod.kin J hl hn hs hf ?_
    refine wpAny_mono (run_fnA F hr I.env0 hb hx I (.cons (show RelV (.ref a) (Value.ref a) from rfl) (.cons ry .nil)) q) (fun w s' z => ?_) fun _ _ x => x
    obtain ⟨z', H', I', rz, qz⟩ := z
    exact SlX.cmpback rz ⟨z', H', I', rz, qz⟩
  rcases hy with ⟨z, rfl, hn⟩ | ⟨b, D, dy, gs, rfl, hb2, hn⟩
  · obtain ⟨t, rfl⟩ := ry
    exact go _ (PySem.W.Looks.of_pure rfl) hn
  · cases ry
    obtain ⟨mB, O2, _⟩ := ins_get I.hok hb2
    obtain ⟨od2, J2, _⟩ := O2.look
    exact go _ J2.type hn
end
end Pn
namespace Pn
open PySem PySem.W PyProof.Rows
section
variable {prog : Program} {w : World} {A : Around} {E : Value → Shared → Prop} {s : Shared} {K : Frag} {x C L f : Addr} {h₀ : Heap} {m : Str → Option Value} {ox : Obj} {od : Option Obj} {b tb : Value}
/-- object.__ne__ asks __eq__ and turns its answer round -/
theorem obj_ne {Q : Fin → Shared → Prop} (hu : A.units < cLine) (X : K.In s.heap) (I : InstAt s.heap x ox C od) (hs : findIn K (.ref C) "__eq__" = some (some (.ref f))) (hf : isFn K (.ref f) = true)
    (h : wpAny (model prog w) A (call (.ref f) [.ref x, b]) (fun v s' => ∃ c, v = .bool c ∧ Q (.done (.ret (.bool (!c)))) s') E s) : wpAny (model prog w) A (Builtin.«object.__ne__» ⟨[.ref x, b], []⟩) Q E s := by
  unfold Builtin.«object.__ne__»
  repeat (first
    | with_reducible refine wpAny_cRoomFor hu ?_
    | (refine wpAny_bind (m := callSpecialIfBound? (.ref x) (Str.ofString "__eq__") [b])
        (ifBound_K X I hs hf (wpAny_mono h (fun v s' hv => by
          obtain ⟨c, rfl, hq⟩ := hv
          repeat (first | exact hq | exact wpAny_pure hq | exact wpAny_truthy_bool hq | (refine wpAny_bind (m := truthy (.bool _)) (wpAny_truthy_bool ?_)) | wp_step)) fun _ _ e => e)))
    | wp_step)
theorem rich_ne {Q : Value → Shared → Prop} (hu : A.units + 1 < cLine) (F : Fr h₀ L s.heap m) (X₀ : K.In h₀) (I : InstAt s.heap x ox C od) (hb : Looks (model prog w) s.heap (typeOf b) tb) (hn : notFirst K C tb = true)
    (hne : findIn K (.ref C) "__ne__" = some (some (.builtin "object.__ne__"))) (ho : mroIn K C (.type "object") = some true) (hs : findIn K (.ref C) "__eq__" = some (some (.ref f))) (hf : isFn K (.ref f) = true)
    (h : wpAny (model prog w) A.in1 (call (.ref f) [.ref x, b]) (fun v s' => ∃ c, v = .bool c ∧ Q (.bool (!c)) s') E s) : wpAny (model prog w) A (richCompare .NotEq (.ref x) b) Q E s := by
  have X := X₀.keeps F.keep
  have one : wpAny (model prog w) A (tryCompare (.ref x) (cmpInfo .NotEq).2.1 b) (fun r s' => ∃ v, r = some v ∧ Q v s') E s := by
    unfold tryCompare
    refine wpAny_bind (NtL.csib (I.type.andThen (looks_findIn X hne)) (PySem.F.slot_object_ne.bind _) (wpAny_call (codeAny_call_builtin PySem.F.slot_object_ne.plain PySem.F.entry_object_ne
      (check_slot (i := "object.__ne__") (owner := "object") (n := "__ne__") (by decide +kernel) (by decide +kernel) (I.type.andThen (looks_mroIn X ho)) (PySem.F.args_object_ne_2 _ _)
        (obj_ne (A := A.in1) hu X I hs hf (wpAny_mono h (fun v s' hv => ?_) fun _ _ e => e))))))
    obtain ⟨c, rfl, hq⟩ := hv
    first | exact ⟨c, rfl, wpAny_pure ⟨_, rfl, hq⟩⟩ | exact ⟨c, rfl, _, rfl, hq⟩ | exact ⟨c, rfl, wpAny_pure (wpAny_pure ⟨_, rfl, hq⟩)⟩
  unfold richCompare
  simp only [oneThing_ref]
  refine wpAny_holding (wpAny_bind (wpAny_cRoomFor (Nat.lt_of_succ_lt hu) ?_))
  refine wpAny_bind (I.type.here (wpAny_bind (hb.here ?_)))
  have last : ∀ {t : Option Value → Sem Value}, (∀ v, t (some v) = pure v) → wpAny (model prog w) A (tryCompare (.ref x) (cmpInfo .NotEq).2.1 b >>= t) Q E s := fun ht => wpAny_bind (wpAny_mono one (fun r s' ⟨v, hr, hq⟩ => by
    subst hr
    rw [ht]
    exact wpAny_pure hq) fun _ _ e => e)
  by_cases hq : tb = .ref C
  · subst hq
    rw [if_neg (by simp)]
    exact wpAny_bind (wpAny_pure (by simp only [Bool.false_eq_true, if_false]; exact last fun v => rfl))
  · have e : subIn K tb (.ref C) = some false := (Bool.or_eq_true_iff.mp hn).elim (fun e => absurd (beq_iff_eq.mp e) hq) beq_iff_eq.mp
    rw [if_pos (by simpa using fun z => hq z.symm)]
    exact wpAny_bind ((looks_subIn X e).here (by simp only [Bool.false_eq_true, if_false]; exact last fun v => rfl))
end
end Pn
namespace Pn
open PySem L2
section
variable {X : Cx} {CX : CXT} {k : Nat} {f C : Addr} {fd : FuncData} {ps : List Str} {sp : Sp} {E : XK}
/-- != of an own instance with an __eq__ of its own and object's __ne__ -/
def rNeIns (K : PySem.W.Frag) (f : Addr) (sp : Sp) (E : XK) : R2 := fun x y H Q => ∃ (a C dx : Addr) (fs : List (Str × V)), x = .ref a ∧ H a = some (.ins C dx fs) ∧ PySem.W.findIn K (.ref C) "__eq__" = some (some (.ref f)) ∧
  PySem.W.findIn K (.ref C) "__ne__" = some (some (.builtin "object.__ne__")) ∧ PySem.W.mroIn K C (.type "object") = some true ∧ Right K C H y ∧ sp [x, y] H (fun v H' => ∃ c, v = .bl c ∧ Q (.bl (!c)) H') E
theorem op_neIns (F : FnOk X.prog X.w X.K X.mg X.base CX k f fd ps sp) (hf : PySem.W.isFn X.K (.ref f) = true) (hr : Room (k + 1) X.A) (hb : Binds X.K fd ps []) (hx : Passes CX X E) : OpR X (compareOp .NotEq) (rNeIns X.K f sp E) := by
  intro pins s σ H x y v u Q I rx ry h
  obtain ⟨a, C, dx, fs, rfl, ha, hs, hne, ho, hy, q⟩ := h
  cases rx
  obtain ⟨mA, O, _⟩ := ins_get I.hok ha
  obtain ⟨od, J, _⟩ := O.look
  obtain ⟨m, hF⟩ := I.fr
  show wpAny (model X.prog X.w) X.A (richCompare .NotEq (.ref a) u) (EP X pins σ Q) X.xe s
  have hr1 : Room k X.A.in1 := Room.in1 hr
  have go : ∀ tb, PySem.W.Looks (model X.prog X.w) s.heap (typeOf u) tb → PySem.W.notFirst X.K C tb = true → wpAny (model X.prog X.w) X.A (richCompare .NotEq (.ref a) u) (EP X pins σ Q) X.xe s := fun tb hl hn => by
    refine rich_ne (hu_of hr) hF I.ok.mod.kin J hl hn hne ho hs hf ?_
    refine wpAny_mono (run_fnA F hr1 I.env0.in1 hb hx I (.cons (show RelV (.ref a) (Value.ref a) from rfl) (.cons ry .nil)) q) (fun w s' z => ?_) fun _ _ x => x
    obtain ⟨z', H', I', rz, c, ez, qz⟩ := z
    subst ez
    cases (show w = Value.bool c from rz)
    exact ⟨c, rfl, .bl (!c), H', I', rfl, qz⟩
  rcases hy with ⟨z, rfl, hn⟩ | ⟨b, D, dy, gs, rfl, hb2, hn⟩
  · obtain ⟨t, rfl⟩ := ry
    exact go _ (PySem.W.Looks.of_pure rfl) hn
  · cases ry
    obtain ⟨mB, O2, _⟩ := ins_get I.hok hb2
    obtain ⟨od2, J2, _⟩ := O2.look
    exact go _ J2.type hn
end
end Pn

namespace Pn
open PySem L2 TL
abbrev sSameRow : Stmt := top 20
abbrev sNoteEq : Stmt := inClass (top 22) 2
abbrev sSkipEq : Stmt := inClass (top 23) 2
abbrev sSetEq : Stmt := inClass (top 24) 2
abbrev sKeepEq : Stmt := inClass (top 25) 2
abbrev sBackEq : Stmt := inClass (top 26) 2
abbrev sRefEq : Stmt := inClass (top 27) 2
abbrev sPutEq : Stmt := inClass (top 28) 2
abbrev sOpenEq : Stmt := inClass (top 29) 2
section
variable {P : Program} {w : World} {K : PySem.W.Frag} {mg : Str → Option Value} {base : Heap}
/-- an __eq__ of an own class -/
structure TEq (K : PySem.W.Frag) (C : Addr) (qual : Str) (st : Stmt) : Type where
  f : Addr
  fd : FuncData
  F : Fun K "__eq__" qual st f fd
  b : Binds K fd ["self", "other"] []
  hs : PySem.W.findIn K (.ref C) "__eq__" = some (some (.ref f))
  hf : PySem.W.isFn K (.ref f) = true
def clsOf (T : TRows K mg) : RowD → Addr
  | .note _ _ => T.note.C
  | .skip _ _ => T.skip.C
  | .set _ _ => T.set.C
  | .keep _ => T.keep.C
  | .back _ => T.back.C
  | .ref _ => T.ref.C
  | .put _ => T.put.C
  | .opn _ => T.open_.C
theorem insRow_ins (T : TRows K mg) (dx : Addr) (r : RowD) : ∃ fs, insRow T dx r = .ins (clsOf T r) dx fs := by cases r <;> exact ⟨_, rfl⟩
theorem cls_of (T : TRows K mg) (r : RowD) : Cls K (clsOf T r) := by
  cases r with
  | note _ _ => exact T.note.cl
  | skip _ _ => exact T.skip.cl
  | set _ _ => exact T.set.cl
  | keep _ => exact T.keep.cl
  | back _ => exact T.back.cl
  | ref _ => exact T.ref.cl
  | put _ => exact T.put.cl
  | opn _ => exact T.open_.cl
structure TSame {K : PySem.W.Frag} {mg : Str → Option Value} (T : TRows K mg) : Type where
  S : TStrs T
  CR : Addr
  mR : mg "Row" = some (.ref CR)
  kS : PySem.W.kitOne K (.type "str") (.ref CR) = some false
  kR : ∀ r, PySem.W.kitOne K (.ref (clsOf T r)) (.ref CR) = some true
  nS : ∀ r, PySem.W.notFirst K (clsOf T r) (.type "str") = true
  nR : ∀ r r', PySem.W.notFirst K (clsOf T r) (.ref (clsOf T r')) = true
  cA : ∀ r, PySem.W.findIn K (.ref (clsOf T r)) "__class__" = some (some (.builtin "object.__class__"))
  cN : PySem.W.specialIn K (.builtin "object.__class__") "__get__" = some (some (.builtin "getset_descriptor.__get__"))
  cT : PySem.W.takesIn K (.builtin "object.__class__") = some true
  cM : ∀ r, PySem.W.mroIn K (clsOf T r) (.type "object") = some true
  ne : ∀ r, PySem.W.findIn K (.ref (clsOf T r)) "__ne__" = some (some (.builtin "object.__ne__"))
  mStr : mg "str" = none
  same : At K mg "same_row" sSameRow ["row", "other"]
  note : TEq K T.note.C "Note.__eq__" sNoteEq
  skip : TEq K T.skip.C "Skip.__eq__" sSkipEq
  set : TEq K T.set.C "Set.__eq__" sSetEq
  keep : TEq K T.keep.C "Keep.__eq__" sKeepEq
  back : TEq K T.back.C "Back.__eq__" sBackEq
  ref : TEq K T.ref.C "Ref.__eq__" sRefEq
  put : TEq K T.put.C "Put.__eq__" sPutEq
  open_ : TEq K T.open_.C "Open.__eq__" sOpenEq
/-- a row beside a text or a row -/
def spSame (T : TRows K mg) : Sp := fun vs H Q _ => ∃ (a : Addr) (y : V) (r : RowD), vs = [.ref a, y] ∧ RowAt T H a r ∧ rowSmall r ∧ ((∃ z, y = .str z ∧ Q (.bl false) H) ∨ ∃ (b : Addr) (r' : RowD), y = .ref b ∧ RowAt T H b r' ∧ rowSmall r' ∧ Q (.bl (decide (rowText r = rowText r'))) H)
theorem scSameRow : FnScope ["row", "other"] ["row", "other"] (defScope sSameRow) := ⟨rfl, rfl, rfl, by decide +kernel, rfl, by decide +kernel, by decide +kernel⟩
theorem ok_same {T : TRows K mg} (S : TSame T) : FnOk P w K mg base CX0 4 S.same.f S.same.fd ["row", "other"] (spSame T) := by
  refine S.same.F.ok scSameRow (fun vs H Q E h => ?_) (fun cdv A outer s H vs Q E hr h => ?_)
  · obtain ⟨a, y, r, rfl, _⟩ := h
    rfl
  · obtain ⟨a, y, r, rfl, ha, hs, q⟩ := h
    refine ⟨_, pss_one (ps_ret (pe_and (pe_callB call_isi (by rfl) T.N.mIsi (by decide +kernel) (pa_cons (pv 1) (pa_cons (pe_glob (v := .ref S.CR) (by rfl) S.mR rfl) pa_nil))) (pe_one (pe_cmpR op_eq (pe_callTy (call_strRowK (K := K) (mg := mg) rfl rfl T S.S hr) (by rfl) S.mStr (by decide +kernel) (pa_cons (pv 0) pa_nil)) (pe_callTy (call_strRowK (K := K) (mg := mg) rfl rfl T S.S hr) (by rfl) S.mStr (by decide +kernel) (pa_cons (pv 1) pa_nil)) (nomark _))))), ?_⟩
    rcases q with ⟨z, rfl, q⟩ | ⟨b, r', rfl, hb, hs', q⟩
    · refine ⟨_, rfl, .str z, .ref S.CR, _, _, false, rfl, .own _, .base (.str z), S.kS, _, rfl, iteF ?_⟩
      exact q
    · obtain ⟨dy, hb2⟩ := id hb
      obtain ⟨gs, eg⟩ := insRow_ins T dy r'
      rw [eg] at hb2
      refine ⟨_, rfl, .ref b, .ref S.CR, _, _, true, rfl, .own _, .base (.ins hb2 (cls_of T r') (S.cA r') S.cN S.cT (S.cM r')), S.kR r', _, rfl, iteT ?_⟩
      refine ⟨_, rfl, a, r, rfl, ha, hs, _, rfl, b, r', rfl, hb, hs', rfl, ?_⟩
      have e : decide (V.str (rowText r) = V.str (rowText r')) = decide (rowText r = rowText r') := by
        by_cases h : rowText r = rowText r'
        · rw [h, decide_eq_true rfl, decide_eq_true rfl]
        · rw [decide_eq_false h, decide_eq_false (fun z => h (V.str.inj z))]
      rw [e]
      exact q
theorem scNoteEq : FnScope ["self", "other"] ["self", "other"] (defScope sNoteEq) := ⟨rfl, rfl, rfl, by decide +kernel, rfl, by decide +kernel, by decide +kernel⟩
theorem ok_NoteEq {T : TRows K mg} (S : TSame T) : FnOk P w K mg base CX0 5 S.note.f S.note.fd ["self", "other"] (spSame T) := by
  refine S.note.F.ok scNoteEq (fun vs H Q E h => ?_) (fun cdv A outer s H vs Q E hr h => ?_)
  · obtain ⟨a, y, r, rfl, _⟩ := h
    rfl
  · obtain ⟨a, y, r, rfl, ha, hs, q⟩ := h
    refine ⟨_, pss_one (ps_ret (pe_call (ok_same S) hr rfl S.same.m S.same.F.kp S.same.b .nil pass0 (pa_cons (pv 0) (pa_cons (pv 1) pa_nil)))), ?_⟩
    exact ⟨_, rfl, _, rfl, a, y, r, rfl, ha, hs, q⟩
theorem scSkipEq : FnScope ["self", "other"] ["self", "other"] (defScope sSkipEq) := ⟨rfl, rfl, rfl, by decide +kernel, rfl, by decide +kernel, by decide +kernel⟩
theorem ok_SkipEq {T : TRows K mg} (S : TSame T) : FnOk P w K mg base CX0 5 S.skip.f S.skip.fd ["self", "other"] (spSame T) := by
  refine S.skip.F.ok scSkipEq (fun vs H Q E h => ?_) (fun cdv A outer s H vs Q E hr h => ?_)
  · obtain ⟨a, y, r, rfl, _⟩ := h
    rfl
  · obtain ⟨a, y, r, rfl, ha, hs, q⟩ := h
    refine ⟨_, pss_one (ps_ret (pe_call (ok_same S) hr rfl S.same.m S.same.F.kp S.same.b .nil pass0 (pa_cons (pv 0) (pa_cons (pv 1) pa_nil)))), ?_⟩
    exact ⟨_, rfl, _, rfl, a, y, r, rfl, ha, hs, q⟩
theorem scSetEq : FnScope ["self", "other"] ["self", "other"] (defScope sSetEq) := ⟨rfl, rfl, rfl, by decide +kernel, rfl, by decide +kernel, by decide +kernel⟩
theorem ok_SetEq {T : TRows K mg} (S : TSame T) : FnOk P w K mg base CX0 5 S.set.f S.set.fd ["self", "other"] (spSame T) := by
  refine S.set.F.ok scSetEq (fun vs H Q E h => ?_) (fun cdv A outer s H vs Q E hr h => ?_)
  · obtain ⟨a, y, r, rfl, _⟩ := h
    rfl
  · obtain ⟨a, y, r, rfl, ha, hs, q⟩ := h
    refine ⟨_, pss_one (ps_ret (pe_call (ok_same S) hr rfl S.same.m S.same.F.kp S.same.b .nil pass0 (pa_cons (pv 0) (pa_cons (pv 1) pa_nil)))), ?_⟩
    exact ⟨_, rfl, _, rfl, a, y, r, rfl, ha, hs, q⟩
theorem scKeepEq : FnScope ["self", "other"] ["self", "other"] (defScope sKeepEq) := ⟨rfl, rfl, rfl, by decide +kernel, rfl, by decide +kernel, by decide +kernel⟩
theorem ok_KeepEq {T : TRows K mg} (S : TSame T) : FnOk P w K mg base CX0 5 S.keep.f S.keep.fd ["self", "other"] (spSame T) := by
  refine S.keep.F.ok scKeepEq (fun vs H Q E h => ?_) (fun cdv A outer s H vs Q E hr h => ?_)
  · obtain ⟨a, y, r, rfl, _⟩ := h
    rfl
  · obtain ⟨a, y, r, rfl, ha, hs, q⟩ := h
    refine ⟨_, pss_one (ps_ret (pe_call (ok_same S) hr rfl S.same.m S.same.F.kp S.same.b .nil pass0 (pa_cons (pv 0) (pa_cons (pv 1) pa_nil)))), ?_⟩
    exact ⟨_, rfl, _, rfl, a, y, r, rfl, ha, hs, q⟩
theorem scBackEq : FnScope ["self", "other"] ["self", "other"] (defScope sBackEq) := ⟨rfl, rfl, rfl, by decide +kernel, rfl, by decide +kernel, by decide +kernel⟩
theorem ok_BackEq {T : TRows K mg} (S : TSame T) : FnOk P w K mg base CX0 5 S.back.f S.back.fd ["self", "other"] (spSame T) := by
  refine S.back.F.ok scBackEq (fun vs H Q E h => ?_) (fun cdv A outer s H vs Q E hr h => ?_)
  · obtain ⟨a, y, r, rfl, _⟩ := h
    rfl
  · obtain ⟨a, y, r, rfl, ha, hs, q⟩ := h
    refine ⟨_, pss_one (ps_ret (pe_call (ok_same S) hr rfl S.same.m S.same.F.kp S.same.b .nil pass0 (pa_cons (pv 0) (pa_cons (pv 1) pa_nil)))), ?_⟩
    exact ⟨_, rfl, _, rfl, a, y, r, rfl, ha, hs, q⟩
theorem scRefEq : FnScope ["self", "other"] ["self", "other"] (defScope sRefEq) := ⟨rfl, rfl, rfl, by decide +kernel, rfl, by decide +kernel, by decide +kernel⟩
theorem ok_RefEq {T : TRows K mg} (S : TSame T) : FnOk P w K mg base CX0 5 S.ref.f S.ref.fd ["self", "other"] (spSame T) := by
  refine S.ref.F.ok scRefEq (fun vs H Q E h => ?_) (fun cdv A outer s H vs Q E hr h => ?_)
  · obtain ⟨a, y, r, rfl, _⟩ := h
    rfl
  · obtain ⟨a, y, r, rfl, ha, hs, q⟩ := h
    refine ⟨_, pss_one (ps_ret (pe_call (ok_same S) hr rfl S.same.m S.same.F.kp S.same.b .nil pass0 (pa_cons (pv 0) (pa_cons (pv 1) pa_nil)))), ?_⟩
    exact ⟨_, rfl, _, rfl, a, y, r, rfl, ha, hs, q⟩
theorem scPutEq : FnScope ["self", "other"] ["self", "other"] (defScope sPutEq) := ⟨rfl, rfl, rfl, by decide +kernel, rfl, by decide +kernel, by decide +kernel⟩
theorem ok_PutEq {T : TRows K mg} (S : TSame T) : FnOk P w K mg base CX0 5 S.put.f S.put.fd ["self", "other"] (spSame T) := by
  refine S.put.F.ok scPutEq (fun vs H Q E h => ?_) (fun cdv A outer s H vs Q E hr h => ?_)
  · obtain ⟨a, y, r, rfl, _⟩ := h
    rfl
  · obtain ⟨a, y, r, rfl, ha, hs, q⟩ := h
    refine ⟨_, pss_one (ps_ret (pe_call (ok_same S) hr rfl S.same.m S.same.F.kp S.same.b .nil pass0 (pa_cons (pv 0) (pa_cons (pv 1) pa_nil)))), ?_⟩
    exact ⟨_, rfl, _, rfl, a, y, r, rfl, ha, hs, q⟩
theorem scOpenEq : FnScope ["self", "other"] ["self", "other"] (defScope sOpenEq) := ⟨rfl, rfl, rfl, by decide +kernel, rfl, by decide +kernel, by decide +kernel⟩
theorem ok_OpenEq {T : TRows K mg} (S : TSame T) : FnOk P w K mg base CX0 5 S.open_.f S.open_.fd ["self", "other"] (spSame T) := by
  refine S.open_.F.ok scOpenEq (fun vs H Q E h => ?_) (fun cdv A outer s H vs Q E hr h => ?_)
  · obtain ⟨a, y, r, rfl, _⟩ := h
    rfl
  · obtain ⟨a, y, r, rfl, ha, hs, q⟩ := h
    refine ⟨_, pss_one (ps_ret (pe_call (ok_same S) hr rfl S.same.m S.same.F.kp S.same.b .nil pass0 (pa_cons (pv 0) (pa_cons (pv 1) pa_nil)))), ?_⟩
    exact ⟨_, rfl, _, rfl, a, y, r, rfl, ha, hs, q⟩
/-- == of a row with a text or a row -/
def rEqRow (T : TRows K mg) : R2 := fun x y H Q => ∃ (a : Addr) (r : RowD), x = .ref a ∧ RowAt T H a r ∧ rowSmall r ∧ ((∃ z, y = .str z ∧ Q (.bl false) H) ∨ ∃ (b : Addr) (r' : RowD), y = .ref b ∧ RowAt T H b r' ∧ rowSmall r' ∧ Q (.bl (decide (rowText r = rowText r'))) H)
theorem op_eqRow {X : Cx} {T : TRows X.K X.mg} (S : TSame T) (hr : Room 5 X.A) : OpR X (compareOp .Eq) (rEqRow T) := by
  intro pins s σ H x y v u Q I rx ry h
  obtain ⟨a, r, rfl, ha, hs, q⟩ := h
  obtain ⟨dx, ha2⟩ := id ha
  have hright : Right X.K (clsOf T r) H y := by
    rcases q with ⟨z, rfl, _⟩ | ⟨b, r', rfl, ⟨dy, hb⟩, _⟩
    · exact .inl ⟨z, rfl, S.nS r⟩
    · obtain ⟨gs, eg⟩ := insRow_ins T dy r'
      rw [eg] at hb
      exact .inr ⟨b, _, dy, gs, rfl, hb, S.nR r r'⟩
  have hsp : spSame T [.ref a, y] H Q E0 := ⟨a, y, r, rfl, ha, hs, q⟩
  cases r with
  | note c n => exact op_eqIns (ok_NoteEq S) S.note.hf hr S.note.b pass0 pins s σ H (.ref a) y v u Q I rx ry ⟨a, _, dx, _, rfl, ha2, S.note.hs, hright, hsp⟩
  | skip c n => exact op_eqIns (ok_SkipEq S) S.skip.hf hr S.skip.b pass0 pins s σ H (.ref a) y v u Q I rx ry ⟨a, _, dx, _, rfl, ha2, S.skip.hs, hright, hsp⟩
  | set c n => exact op_eqIns (ok_SetEq S) S.set.hf hr S.set.b pass0 pins s σ H (.ref a) y v u Q I rx ry ⟨a, _, dx, _, rfl, ha2, S.set.hs, hright, hsp⟩
  | keep c => exact op_eqIns (ok_KeepEq S) S.keep.hf hr S.keep.b pass0 pins s σ H (.ref a) y v u Q I rx ry ⟨a, _, dx, _, rfl, ha2, S.keep.hs, hright, hsp⟩
  | back c => exact op_eqIns (ok_BackEq S) S.back.hf hr S.back.b pass0 pins s σ H (.ref a) y v u Q I rx ry ⟨a, _, dx, _, rfl, ha2, S.back.hs, hright, hsp⟩
  | ref c => exact op_eqIns (ok_RefEq S) S.ref.hf hr S.ref.b pass0 pins s σ H (.ref a) y v u Q I rx ry ⟨a, _, dx, _, rfl, ha2, S.ref.hs, hright, hsp⟩
  | put c => exact op_eqIns (ok_PutEq S) S.put.hf hr S.put.b pass0 pins s σ H (.ref a) y v u Q I rx ry ⟨a, _, dx, _, rfl, ha2, S.put.hs, hright, hsp⟩
  | opn c => exact op_eqIns (ok_OpenEq S) S.open_.hf hr S.open_.b pass0 pins s σ H (.ref a) y v u Q I rx ry ⟨a, _, dx, _, rfl, ha2, S.open_.hs, hright, hsp⟩
/-- != of a row with a text or a row -/
def rNeRow (T : TRows K mg) : R2 := fun x y H Q => ∃ (a : Addr) (r : RowD), x = .ref a ∧ RowAt T H a r ∧ rowSmall r ∧ ((∃ z, y = .str z ∧ Q (.bl true) H) ∨ ∃ (b : Addr) (r' : RowD), y = .ref b ∧ RowAt T H b r' ∧ rowSmall r' ∧ Q (.bl (!decide (rowText r = rowText r'))) H)
theorem op_neRow {X : Cx} {T : TRows X.K X.mg} (S : TSame T) (hr : Room 6 X.A) : OpR X (compareOp .NotEq) (rNeRow T) := by
  intro pins s σ H x y v u Q I rx ry h
  obtain ⟨a, r, rfl, ha, hs, q⟩ := h
  obtain ⟨dx, ha2⟩ := id ha
  have hright : Right X.K (clsOf T r) H y := by
    rcases q with ⟨z, rfl, _⟩ | ⟨b, r', rfl, ⟨dy, hb⟩, _⟩
    · exact .inl ⟨z, rfl, S.nS r⟩
    · obtain ⟨gs, eg⟩ := insRow_ins T dy r'
      rw [eg] at hb
      exact .inr ⟨b, _, dy, gs, rfl, hb, S.nR r r'⟩
  have hsp : spSame T [.ref a, y] H (fun v H' => ∃ c, v = .bl c ∧ Q (.bl (!c)) H') E0 := ⟨a, y, r, rfl, ha, hs, q.elim (fun ⟨z, e, q⟩ => .inl ⟨z, e, _, rfl, q⟩) fun ⟨b, r', e, h1, h2, q⟩ => .inr ⟨b, r', e, h1, h2, _, rfl, q⟩⟩
  have hne := S.ne r
  have hm := S.cM r
  cases r with
  | note c n => exact op_neIns (ok_NoteEq S) S.note.hf hr S.note.b pass0 pins s σ H (.ref a) y v u Q I rx ry ⟨a, _, dx, _, rfl, ha2, S.note.hs, hne, hm, hright, hsp⟩
  | skip c n => exact op_neIns (ok_SkipEq S) S.skip.hf hr S.skip.b pass0 pins s σ H (.ref a) y v u Q I rx ry ⟨a, _, dx, _, rfl, ha2, S.skip.hs, hne, hm, hright, hsp⟩
  | set c n => exact op_neIns (ok_SetEq S) S.set.hf hr S.set.b pass0 pins s σ H (.ref a) y v u Q I rx ry ⟨a, _, dx, _, rfl, ha2, S.set.hs, hne, hm, hright, hsp⟩
  | keep c => exact op_neIns (ok_KeepEq S) S.keep.hf hr S.keep.b pass0 pins s σ H (.ref a) y v u Q I rx ry ⟨a, _, dx, _, rfl, ha2, S.keep.hs, hne, hm, hright, hsp⟩
  | back c => exact op_neIns (ok_BackEq S) S.back.hf hr S.back.b pass0 pins s σ H (.ref a) y v u Q I rx ry ⟨a, _, dx, _, rfl, ha2, S.back.hs, hne, hm, hright, hsp⟩
  | ref c => exact op_neIns (ok_RefEq S) S.ref.hf hr S.ref.b pass0 pins s σ H (.ref a) y v u Q I rx ry ⟨a, _, dx, _, rfl, ha2, S.ref.hs, hne, hm, hright, hsp⟩
  | put c => exact op_neIns (ok_PutEq S) S.put.hf hr S.put.b pass0 pins s σ H (.ref a) y v u Q I rx ry ⟨a, _, dx, _, rfl, ha2, S.put.hs, hne, hm, hright, hsp⟩
  | opn c => exact op_neIns (ok_OpenEq S) S.open_.hf hr S.open_.b pass0 pins s σ H (.ref a) y v u Q I rx ry ⟨a, _, dx, _, rfl, ha2, S.open_.hs, hne, hm, hright, hsp⟩
end
end Pn

namespace Pn
open PySem PySem.Spec PyProof.Rows L2
/-! ### the law's def at the surrounding that the judge calls it from: there no repr is under way -/
section
variable {P : Program} {w : World} {K : PySem.W.Frag} {mg mb : Str → Option Value} {s₁ : Shared} {a : Addr} {vs : List Value} {ns : List Int}
/-- a tracking of the script alone -/
theorem law_track (KX : K.In s₁.heap) (ha : s₁.heap.get? a = some { cls := .type "list", data := .seq vs.toArray }) (hi : IntsAre vs ns) (hl : ns.length ≤ sizeLine) :
    ∃ H : Hp, Only H ∧ SqL K H a (ns.map V.int) ∧ HOk P w H s₁.heap ∧ ∀ b, H b ≠ none → b = a ∧ K.lookup a = none := by
  have rv := vals_ints hi
  cases hk : K.lookup a with
  | some o =>
    have e := (KX a o hk).symm.trans ha
    cases e
    exact ⟨fun _ => none, fun _ => .inl rfl, .inr ⟨_, vs.toArray, _, hk, rfl, rfl, rfl, by rw [List.size_toArray, hi.length]; exact hl, by simpa using rv⟩, fun b u z => (nomatch (show (none : Option HO) = some u from z)), fun b z => absurd rfl z⟩
  | none =>
    let o : HO := .frz { cls := .type "list", data := .seq vs.toArray } (.lst (ns.map V.int))
    have at_ : upd (fun _ => none) a o a = some o := upd_same
    refine ⟨upd (fun _ => none) a o, fun b => ?_, .inl (.inr ⟨_, at_⟩), fun b u z => ?_, fun b z => ⟨?_, rfl⟩⟩
    · by_cases h : b = a
      · exact .inr ⟨_, _, by rw [h]; exact at_⟩
      · exact .inl (by rw [upd_ne h])
    · by_cases h : b = a
      · rw [h, at_] at z
        cases z
        rw [h]
        exact ⟨ha, by rw [List.length_map]; exact hl, vs, _, rv, ha⟩
      · rw [upd_ne h] at z
        cases z
    · by_cases h : b = a
      · exact h
      · rw [upd_ne h] at z
        exact absurd rfl z
/-- what stands behind it is the module's -/
theorem law_env (KX : K.In s₁.heap) (hns : s₁.heap.Ns mainGlobals mg) (hb : s₁.heap.Ns builtinsNs mb) (hbb : ∀ x : Str, x ≠ "__name__" → mb x = bootBuiltins x) (hlim : s₁.heap.NoLimit) (hg : s₁.gens = #[])
    (ha : s₁.heap.get? a = some { cls := .type "list", data := .seq vs.toArray }) {H : Hp} (hok : HOk P w H s₁.heap) (hA : ∀ b, H b ≠ none → b = a ∧ K.lookup a = none) :
    K.In (hidT s₁.heap H) ∧ (hidT s₁.heap H).Ns mainGlobals mg ∧ Env0 P w K mg (hidT s₁.heap H) callerA [] s₁ H := by
  have free : ∀ {b : Addr}, (b = a → K.lookup a = none → False) → H b = none := fun {b} h => by
    cases q : H b with
    | none => rfl
    | some u =>
      obtain ⟨e1, e2⟩ := hA b (by rw [q]; simp)
      exact (h e1 e2).elim
  have ns_ : ∀ {b : Addr} {m : Str → Option Value}, s₁.heap.Ns b m → (hidT s₁.heap H).Ns b m := fun {b m} ⟨o, es, ep, e, d, r⟩ => ⟨o, es, ep, hidT_get e (free fun z _ => by
    rw [z, ha] at e
    cases e
    exact Data.noConfusion d), d, r⟩
  have kin : K.In (hidT s₁.heap H) := fun b o e => hidT_get (KX b o e) (free fun z n => by
    rw [z, n] at e
    cases e)
  obtain ⟨mc, l1, l2⟩ := hlim
  exact ⟨kin, ns_ hns, rfl, ⟨kin, ns_ hns, ⟨mb, ns_ hb, hbb⟩, ⟨mc, ns_ l1, l2⟩⟩, fun b o e => of_hidT e, Nat.le_of_eq (hidT_size _ _), trivial, fun b h => (by cases (show b ∈ ([] : List Addr) from h)), hok, .of_eq hg⟩
end
end Pn
namespace Pn
open PySem PySem.Spec PyProof.Rows L2
section
variable {P : Program} {w : World} {K : PySem.W.Frag} {mg : Str → Option Value} {base : Heap} {A : Around}
/-- a def's promise at one surrounding, with no frame below -/
def RunAt (P : Program) (w : World) (K : PySem.W.Frag) (mg : Str → Option Value) (base : Heap) (A : Around) (f : Addr) (fd : FuncData) (ps : List Str) (sp : Sp) : Prop :=
  ∀ (s : Shared) (H : Hp) (us : List Value) (vs : List V) (Q : VK) (E : XK), Env0 P w K mg base A [] s H → BindsTo s fd ⟨us, []⟩ (ps.zip us) → Vals vs us → sp vs H Q E → codeAny (model P w) A (.call (.ref f) ⟨us, []⟩) (CR CX0 [] P w H s Q E) s
theorem fun_at {x qual : Str} {st : Stmt} {f : Addr} {fd : FuncData} {N ps : List Str} {k : Nat} {sp : Sp} (F : Fun K x qual st f fd) (S : FnScope N ps (defScope st)) (hr : Room (k + 1) A) (len : ∀ vs H Q E, sp vs H Q E → vs.length = ps.length)
    (hbody : ∀ (cdv : Value) (s : Shared) (H : Hp) (vs : List V) (Q : VK) (E : XK), Room k (A.deeper (envOfC qual (defScope st) s.heap.objs.size f cdv)) → sp vs H Q E →
      ∃ t, PSs (cxOf CX0 P w K mg base N qual (defScope st) f cdv A [] s H E).nox (defBody st) t ∧ t { nx := fun _ H' => Q .non H', rt := Q } (L2.start N vs) H) : RunAt P w K mg base A f fd ps sp := by
  obtain ⟨oc, od, kV, doc, pm, an, cdv, ct, osl, rfl, lk, hcd⟩ := F.ex
  intro s H us vs Q E e0 hb r hsp
  have keep : ∀ b o, base.get? b = some o → s.heap.get? b = some o := fun b o e => (e0.bs b o e).1
  have kin := e0.mod.kin.keeps keep
  have par : ∀ y ∈ ps.zip us, (defScope st).names.lookup y.1 = some .local ∨ ((defScope st).names.lookup y.1 = some .cell ∧ ((cellsFrom (s.heap.objs.size + 1) (defScope st).names []).lookup y.1).isSome = true) := fun y hy =>
    (S.par y.1 (List.of_mem_zip (a := y.1) (b := y.2) hy).1).imp id fun q => ⟨q, PySem.W.cellsFrom_some _ _ _ (.inl q)⟩
  refine codeAny_call_function hr.depth (kin _ _ lk) rfl S.co S.gen rfl (PySem.W.codeRec_of kin hcd) (hb _ _ _ _ (wpAny_newFunctionEnv_cells S.kind par fun env he s1 x => ?_))
  subst he
  obtain ⟨t, ht, hq⟩ := hbody cdv s H vs Q E (hr.deeper _) hsp
  refine ⟨(e0.mod.nolimit.keeps keep).keeps x.toInCall.keep, codeAny_func (wpAny_mono (ht.nox.run [] s1 (L2.start N vs) H _ (inv_start S hr.hd e0 (len _ _ _ _ hsp) r x) hq) (fun fl s' hs => ?_) fun e s' hs => hs)⟩
  cases fl with
  | ret u =>
    obtain ⟨v, σ', H', J, rv, q⟩ := hs
    exact ⟨v, H', J.os, J.bare, J.base, J.hok, rv, q⟩
  | next =>
    obtain ⟨σ', H', J, q⟩ := hs
    exact ⟨V.non, H', J.os, J.bare, J.base, J.hok, rfl, q⟩
  | brk =>
    obtain ⟨_, _, _, q⟩ := hs
    exact False.elim q
  | cont =>
    obtain ⟨_, _, _, q⟩ := hs
    exact False.elim q
end
/-- the goal that k_head leaves, from the law's promise at callerA -/
theorem walk_g {l : PySem.W.OpenLaw} {n : Nat} {q : Program} {loose : List Str} {XP : (Str → Option Value) → Heap → Prop} {YP : World → Heap → Prop} {d : DefRec} {K : Params → PySem.W.Frag} {sp : PySem.W.Frag → Sp} {x : Str}
    (hn : l.most = some n) (hn2 : n ≤ sizeLine) (hdf : d.params.defaults = []) (hY : ∀ (w : World) (h : Heap), YP w h → (K w.params).In h)
    (F : ∀ (w : World) (mg : Str → Option Value) (fa : Addr) (h : Heap), (K w.params).In h → h.Ns mainGlobals mg → mg d.name = some (.ref fa) →
      ∃ fd : FuncData, (∀ (s : Shared) (u : Value), BindsTo s fd ⟨[u], []⟩ [(x, u)]) ∧
        ∀ base : Heap, (K w.params).In base → base.Ns mainGlobals mg → RunAt l.prog w (K w.params) mg base callerA fa fd [x] (sp (K w.params)))
    (hsp : ∀ (K : PySem.W.Frag) (H : Hp) (a : Addr) (ns : List Int), ns.length ≤ n → SqL K H a (ns.map V.int) → sp K [.ref a] H (fun v _ => v = .bl true) fun _ _ _ => False) :
    PySem.W.WalkO q loose XP YP l.row.toRowW d [] (fun f vs => PySem.call f vs) := by
  refine Att.attach_call hn hdf fun w s₀ s₁ mg mb fa o pm cd doc a vs ns G Y ho hd hcd hmg hobj hints hlen hg => ?_
  have KX := hY w _ Y
  obtain ⟨fd, hb, hF⟩ := F w mg fa _ KX G.T.g hmg
  obtain ⟨H, hO, hS, hok, hA⟩ := law_track (P := l.prog) (w := w) KX hobj hints (Nat.le_trans hlen hn2)
  obtain ⟨kin, hns, e0⟩ := law_env KX G.T.g G.T.b G.T.builtins G.T.nolimit hg hobj hok hA
  refine codeAny_mono (hF _ kin hns s₁ H [.ref a] [.ref a] (fun v _ => v = .bl true) (fun _ _ _ => False) e0 (hb s₁ (.ref a)) (.cons rfl .nil) (hsp _ H a ns hlen hS)) fun r s' h => ?_
  cases r with
  | error e => exact False.elim h
  | ok fl =>
    cases fl with
    | next => exact False.elim h
    | brk => exact False.elim h
    | cont => exact False.elim h
    | ret u =>
      obtain ⟨v, H', os, bare, un, hok', rv, hv⟩ := h
      cases (show v = V.bl true from hv)
      cases (show u = Value.bool true from rv)
      refine ⟨rfl, OldK.of_keep fun b o e => ?_, os, bare⟩
      rcases hO b with z | ⟨ob, xs, z⟩
      · exact un.keep b o e z (by intro z; cases (show b ∈ ([] : List Addr) from z)) (by simp)
      · obtain ⟨e1, _⟩ := hok b _ z
        obtain ⟨e2, _⟩ := hok' b _ (un.frzs b ob _ z)
        cases e.symm.trans e1
        exact e2
end Pn

namespace Pn
open PySem PySem.Spec PyProof.Rows L2
/-! ### repr of a tuple of texts and integers, where no repr is under way -/
/-- plain items as data -/
inductive Fl : List V → List PyData → Prop where
  | nil : Fl [] []
  | str {vs ds} (z : Str) (r : Fl vs ds) : Fl (.str z :: vs) (.str z :: ds)
  | int {vs ds} (i : Int) (r : Fl vs ds) : Fl (.int i :: vs) (.int i :: ds)
theorem Fl.reads {h : Heap} : ∀ {vs : List V} {ds : List PyData} {us : List Value}, Fl vs ds → Vals vs us → ReadsAll h us ds []
  | _, _, _, .nil, r => by
    cases r
    exact .nil
  | _, _, _, .str z f, r => by
    cases r with
    | cons r1 r2 =>
      obtain ⟨t, rfl⟩ := r1
      exact .cons (.str z t) (f.reads r2)
  | _, _, _, .int i f, r => by
    cases r with
    | cons r1 r2 =>
      obtain ⟨t, rfl⟩ := r1
      exact .cons (.int i t) (f.reads r2)
section
variable {X : Cx}
def rReprT (K : PySem.W.Frag) : List V → Hp → VK → Prop := fun xs H Q => ∃ (a : Addr) (vs : List V) (ds : List PyData), xs = [.ref a] ∧ SqT K H a vs ∧ Fl vs ds ∧ PyData.showable (.tuple ds) = true ∧ PyData.hasDict (.tuple ds) = false ∧ PyData.depth (.tuple ds) ≤ 10 ∧ (PyData.shown (.tuple ds)).length ≤ sizeLine ∧ Q (.str (PyData.shown (.tuple ds))) H
theorem call_reprT (hg : X.A.guards = some []) {k : Nat} (hr : Room k X.A) : CallR X (.builtin "repr") (rReprT X.K) := by
  intro pins s σ H xs us Q I r h
  obtain ⟨a, vs, ds, rfl, ht, hf, h1, h2, h3, h4, q⟩ := h
  obtain ⟨u, rfl, ru⟩ := r.one
  cases (show u = Value.ref a from ru)
  obtain ⟨its, rv, ⟨o, ho, hcl, n, hd⟩, _⟩ := I.tuple ht
  have hu := hr.units
  refine repr_of_reads' (h₀ := s.heap) (d := .tuple ds) (as := []) (.tuple ho hcl hd (hf.reads rv)) h1 (fun e => by rw [h2] at e; cases e) hg (by omega) (fun _ _ e => e) (fun h' u tk hk => ?_) h4
  exact ⟨.str _, H, I.kept hk, ⟨u, rfl⟩, q⟩
end
end Pn

namespace Pn
open PySem L2 TL
/-! ### texts put together of words: their size -/
def sz1 (l : List Str) : Nat := (l.map fun x => x.length + 1).sum
theorem sz1_cons (x : Str) (l : List Str) : sz1 (x :: l) = x.length + 1 + sz1 l := by
  unfold sz1
  rw [List.map_cons, List.sum_cons]
theorem sz1_app : ∀ l m : List Str, sz1 (l ++ m) = sz1 l + sz1 m
  | [], m => by
    rw [List.nil_append, show sz1 [] = 0 from rfl]
    omega
  | x :: l, m => by
    rw [List.cons_append, sz1_cons, sz1_cons, sz1_app l m]
    omega
theorem sz1_sub {l m : List Str} (h : l.Sublist m) : sz1 l ≤ sz1 m := by
  induction h with
  | slnil => exact Nat.le_refl _
  | cons a _ ih => rw [sz1_cons]; omega
  | cons_cons a _ ih => rw [sz1_cons, sz1_cons]; omega
/-- words of at most n signs with as many blanks, all of good signs -/
def Sm (n : Nat) (l : List Str) : Prop := sz1 l ≤ n ∧ ∀ x ∈ l, PyData.strOk x = true
theorem Sm.sub {n : Nat} {l m : List Str} (h : Sm n m) (s : l.Sublist m) : Sm n l := ⟨Nat.le_trans (sz1_sub s) h.1, fun x hx => h.2 x (s.subset hx)⟩
theorem Sm.app {n k : Nat} {l m : List Str} (h : Sm n l) (g : Sm k m) : Sm (n + k) (l ++ m) := ⟨by rw [sz1_app]; exact Nat.add_le_add h.1 g.1, fun x hx => (List.mem_append.mp hx).elim (h.2 x) (g.2 x)⟩
theorem joinL_len : ∀ l : List Str, (joinL (tl " ") (l.map tl)).length ≤ sz1 l ∧ sz1 l ≤ (joinL (tl " ") (l.map tl)).length + 1
  | [] => ⟨Nat.le_refl _, Nat.zero_le _⟩
  | [a] => by
    show (tl a).length ≤ sz1 [a] ∧ sz1 [a] ≤ (tl a).length + 1
    rw [sz1_cons, ← len_tl, show sz1 [] = 0 from rfl]
    omega
  | a :: b :: r => by
    have q := joinL_len (b :: r)
    rw [sz1_cons]
    show (tl a ++ (tl " " ++ joinL (tl " ") ((b :: r).map tl))).length ≤ _ ∧ _ ≤ (tl a ++ (tl " " ++ joinL (tl " ") ((b :: r).map tl))).length + 1
    rw [List.length_append, List.length_append, ← len_tl, show (tl " ").length = 1 from by decide +kernel]
    omega
theorem joinL_mem : ∀ (l : List Str) (c : Nat), c ∈ joinL (tl " ") (l.map tl) → c ∈ tl " " ∨ ∃ x ∈ l, c ∈ tl x
  | [], c, h => by cases h
  | [a], c, h => .inr ⟨a, by simp, h⟩
  | a :: b :: r, c, h => by
    rcases List.mem_append.mp h with h | h
    · exact .inr ⟨a, by simp, h⟩
    · rcases List.mem_append.mp h with h | h
      · exact .inl h
      · rcases joinL_mem (b :: r) c h with h | ⟨x, hx, hc⟩
        · exact .inl h
        · exact .inr ⟨x, List.mem_cons_of_mem _ hx, hc⟩
theorem Sm.join {n : Nat} {l : List Str} (h : Sm n l) : (Txt.join " " l).length ≤ n ∧ PyData.strOk (Txt.join " " l) = true := by
  have e : tl (Txt.join " " l) = joinL (tl " ") (l.map tl) := by rw [join_eq]; exact tl_join " " l
  refine ⟨?_, strOk_tl.mpr fun c hc => ?_⟩
  · rw [len_tl, e]
    exact Nat.le_trans (joinL_len l).1 h.1
  · rw [e] at hc
    rcases joinL_mem l c hc with hc | ⟨x, hx, hc⟩
    · exact strOk_tl.mp (show PyData.strOk " " = true by decide +kernel) c hc
    · exact strOk_tl.mp (h.2 x hx) c hc
theorem sz1_lens : ∀ l : List Str, (l.map (·.length)).sum + l.length * (" " : Str).length = sz1 l
  | [] => rfl
  | x :: l => by
    have q := sz1_lens l
    rw [show (" " : Str).length = 1 from by decide +kernel] at q ⊢
    rw [sz1_cons, List.map_cons, List.sum_cons, List.length_cons]
    omega
theorem Sm.fits {n : Nat} {l : List Str} (h : Sm n l) (hn : n ≤ 16777216) : (l.map (·.length)).sum + l.length * (" " : Str).length ≤ 16777216 := by
  rw [sz1_lens]
  exact Nat.le_trans h.1 hn
theorem sm_split {z : Str} {n : Nat} (hl : z.length ≤ n) (hok : PyData.strOk z = true) : Sm (n + 1) (Txt.split z " ") := by
  have e := PySem.StrLaws.join_split z " "
  have e2 : tl (Txt.join " " (Txt.split z " ")) = joinL (tl " ") ((Txt.split z " ").map tl) := by rw [join_eq]; exact tl_join " " _
  have e3 : (joinL (tl " ") ((Txt.split z " ").map tl)).length = z.length := by
    rw [← e2, ← len_tl, join_eq]
    exact congrArg Str.length e
  refine ⟨?_, fun x hx => strOk_tl.mpr fun c hc => strOk_tl.mp hok c ((split_len (z := z) rfl x hx).2 c hc)⟩
  have := (joinL_len (Txt.split z " ")).2
  omega
theorem sm_row {r : RowD} (h : rowValid r) : (rowText r).length ≤ 63 ∧ PyData.strOk (rowText r) = true := by
  obtain ⟨h1, _, h2⟩ := words_small h
  have h3 : Sm 63 (rowWords r) := by
    refine ⟨?_, fun x hx => (h2 x hx).2⟩
    have key : ∀ l : List Str, (∀ x ∈ l, x.length ≤ 20) → sz1 l ≤ 21 * l.length := by
      intro l
      induction l with
      | nil => intro _; exact Nat.le_refl _
      | cons x l ih =>
        intro hx
        have q1 := hx x List.mem_cons_self
        have q2 := ih fun y hy => hx y (List.mem_cons_of_mem _ hy)
        rw [sz1_cons, List.length_cons]
        omega
    have := key (rowWords r) fun x hx => (h2 x hx).1
    omega
  exact h3.join
theorem cut_sub (ws : List Str) (lo hi : Option Int) : ∃ us : List Str, cutV (ws.map V.str) lo hi = us.map V.str ∧ us.Sublist ws := by
  refine ⟨(ws.drop (HT.sIx (ws.map V.str).length 0 lo)).take (HT.sIx (ws.map V.str).length (ws.map V.str).length hi - HT.sIx (ws.map V.str).length 0 lo), ?_, (List.take_sublist _ _).trans (List.drop_sublist _ _)⟩
  unfold cutV
  rw [List.map_take, List.map_drop]
/-- repr of a text or an integer -/
def rReprF : List V → Hp → VK → Prop := fun xs H Q => (∃ z : Str, xs = [.str z] ∧ z.length ≤ 1000 ∧ PyData.strOk z = true ∧ Q (.str (PySem.reprText z)) H) ∨ ∃ i : Int, xs = [.int i] ∧ i.natAbs.log2 < 1920 ∧ Q (.str (Str.ofString (toString i))) H
theorem repr_fits {z : Str} (hl : z.length ≤ 1000) (hok : PyData.strOk z = true) : (PySem.reprText z).length ≤ sizeLine := by
  have q := StrLaws.reprText_len z fun c hc => by
    have q := strOk_tl.mp hok c hc
    have e : (16 : Nat) ^ 8 = 4294967296 := by decide
    omega
  have e : (1000000 : Nat) ≤ sizeLine := by decide
  omega
theorem call_reprF {X : Cx} : CallR X (.builtin "repr") rReprF := fun pins s σ H xs us Q I r h => by
  rcases h with ⟨z, rfl, hl, hok, q⟩ | h
  · obtain ⟨u, rfl, ru⟩ := r.one
    obtain ⟨t, rfl⟩ := ru
    exact PySem.P.repr_of_str ⟨.str _, H, I.tok _, ⟨_, rfl⟩, q⟩ (repr_fits hl hok)
  · exact SkE.call_repr_int pins s σ H xs us Q I r h
end Pn

namespace Pn
open PySem L2 TL
/-! ### what the law asks of a made row -/
/-- plain data that is small -/
def smallD : PyData → Prop
  | .str z => z.length ≤ 20 ∧ PyData.strOk z = true
  | .int i => ∃ n : Nat, i = (n : Int) ∧ n < 10 ^ 20
  | _ => False
theorem small_shown {d : PyData} (h : smallD d) : (PyData.shown d).length ≤ 300 := by
  cases d with
  | str z =>
    rw [PyData.shown_str]
    have q := StrLaws.reprText_len z fun c hc => by
      have q := strOk_tl.mp h.2 c hc
      have e : (16 : Nat) ^ 8 = 4294967296 := by decide
      omega
    have := h.1
    omega
  | int i =>
    obtain ⟨n, rfl, hn⟩ := h
    rw [PyData.shown_int]
    exact Nat.le_trans (numStr_len hn) (by decide)
  | _ => exact False.elim h
theorem small_showable {d : PyData} (h : smallD d) : PyData.showable d = true ∧ PyData.hasDict d = false ∧ PyData.depth d = 0 := by
  cases d with
  | str z => exact ⟨by simp only [PyData.showable], by simp only [PyData.hasDict], by simp only [PyData.depth]⟩
  | int i =>
    obtain ⟨n, rfl, hn⟩ := h
    refine ⟨?_, by simp only [PyData.hasDict], by simp only [PyData.depth]⟩
    simp only [PyData.showable]
    refine decide_eq_true ?_
    rw [Int.natAbs_natCast]
    by_cases h0 : n = 0
    · subst h0; decide
    · exact (Nat.log2_lt h0).mpr (Nat.lt_of_lt_of_le hn (by decide))
  | _ => exact False.elim h
theorem small_all : ∀ {ds : List PyData}, (∀ d ∈ ds, smallD d) → PyData.showableAll ds = true ∧ PyData.hasDictAll ds = false ∧ PyData.depthAll ds = 0 ∧ ((PyData.shownAll ds).map (·.length)).sum ≤ 300 * ds.length
  | [], _ => ⟨by simp only [PyData.showableAll], by simp only [PyData.hasDictAll], by simp only [PyData.depthAll], by simp only [PyData.shownAll]; exact Nat.zero_le _⟩
  | d :: ds, h => by
    obtain ⟨a1, a2, a3⟩ := small_showable (h d List.mem_cons_self)
    obtain ⟨b1, b2, b3, b4⟩ := small_all fun x hx => h x (List.mem_cons_of_mem _ hx)
    have a4 := small_shown (h d List.mem_cons_self)
    refine ⟨by simp only [PyData.showableAll, a1, b1, Bool.and_self], by simp only [PyData.hasDictAll, a2, b2, Bool.or_self], by simp only [PyData.depthAll, a3, b3, Nat.max_self], ?_⟩
    simp only [PyData.shownAll, List.map_cons, List.sum_cons, List.length_cons]
    omega
theorem small_tuple {ds : List PyData} (h : ∀ d ∈ ds, smallD d) (hl : ds.length ≤ 1000) : PyData.showable (.tuple ds) = true ∧ PyData.hasDict (.tuple ds) = false ∧ PyData.depth (.tuple ds) ≤ 10 ∧ (PyData.shown (.tuple ds)).length ≤ sizeLine := by
  obtain ⟨b1, b2, b3, b4⟩ := small_all h
  refine ⟨by simp only [PyData.showable, b1], by simp only [PyData.hasDict, b2], by simp only [PyData.depth, b3]; decide, ?_⟩
  simp only [PyData.shown]
  have q := tupleText_len_le (PyData.shownAll ds)
  rw [PyData.shownAll_length] at q
  have e : (400000 : Nat) ≤ sizeLine := by decide
  omega
def rowWord : RowD → Str
  | .note _ _ => "note"
  | .skip _ _ => "skip"
  | .set _ _ => "set"
  | .keep _ => "keep"
  | .back _ => "back"
  | .ref _ => "ref"
  | .put _ => "put"
  | .opn _ => "open"
theorem tup_word (r : RowD) : (rowTup r)[0]? = some (.str (rowWord r)) := by cases r <;> rfl
/-- what a row tells but for its word, as data -/
theorem tail_data {r : RowD} (h : rowValid r) : ∃ ds, Fl (rowTup r).tail ds ∧ PyData.showable (.tuple ds) = true ∧ PyData.hasDict (.tuple ds) = false ∧ PyData.depth (.tuple ds) ≤ 10 ∧ (PyData.shown (.tuple ds)).length ≤ sizeLine := by
  have nm : ∀ {z : Str}, nameS z = true → smallD (.str z) := fun h => ⟨Nat.le_trans (name_ok h).2 (by decide), (name_ok h).1⟩
  have one : ∀ {c : Str}, nameS c = true → ∃ ds, Fl [.str c] ds ∧ PyData.showable (.tuple ds) = true ∧ PyData.hasDict (.tuple ds) = false ∧ PyData.depth (.tuple ds) ≤ 10 ∧ (PyData.shown (.tuple ds)).length ≤ sizeLine := fun {c} hc =>
    ⟨[.str c], .str c .nil, small_tuple (fun d hd => by rw [List.mem_singleton.mp hd]; exact nm hc) (by show 1 ≤ 1000; decide)⟩
  have two : ∀ {c : Str} {n : Nat}, nameS c = true → n < 10 ^ 10 → ∃ ds, Fl [.str c, .int (n : Int)] ds ∧ PyData.showable (.tuple ds) = true ∧ PyData.hasDict (.tuple ds) = false ∧ PyData.depth (.tuple ds) ≤ 10 ∧ (PyData.shown (.tuple ds)).length ≤ sizeLine := fun {c n} hc hn =>
    ⟨[.str c, .int (n : Int)], .str c (.int _ .nil), small_tuple (fun d hd => by
      rcases List.mem_cons.mp hd with rfl | hd
      · exact nm hc
      · rw [List.mem_singleton.mp hd]; exact ⟨n, rfl, Nat.lt_trans hn (by decide)⟩) (by show 2 ≤ 1000; decide)⟩
  cases r with
  | note c l => exact ⟨[.str c, .str l], .str c (.str l .nil), small_tuple (fun d hd => by
      rcases List.mem_cons.mp hd with rfl | hd
      · exact nm h.1
      · rw [List.mem_singleton.mp hd]
        rcases h.2 with rfl | h2
        · exact ⟨by decide +kernel, by decide +kernel⟩
        · exact nm h2) (by show 2 ≤ 1000; decide)⟩
  | skip c n => exact two h.1 h.2.2
  | set c n => exact two h.1 h.2
  | keep c => exact one h
  | back c => exact one h
  | ref c => exact one h
  | put c => exact one h
  | opn c => exact one h
theorem tail_cut (r : RowD) : cutV (rowTup r) (some 1) none = (rowTup r).tail ∧ ¬ (HT.sIx (rowTup r).length 0 (some 1) = 0 ∧ HT.sIx (rowTup r).length (rowTup r).length none = (rowTup r).length) := by
  cases r <;> exact ⟨rfl, fun z => absurd (show (1 : Nat) = 0 from z.1) (by decide)⟩
theorem valid_small {r : RowD} (h : rowValid r) : rowSmall r := by
  have b : ∀ {n : Nat}, n < 10 ^ 10 → n < 10 ^ 20 := fun h => Nat.lt_trans h (by decide)
  cases r with
  | note c l => exact ⟨name_small h.1, by rcases h.2 with rfl | z; exact (by decide +kernel : ("" : Str).length ≤ 100); exact name_small z⟩
  | skip c n => exact ⟨name_small h.1, b h.2.2⟩
  | set c n => exact ⟨name_small h.1, b h.2⟩
  | keep c => exact name_small h
  | back c => exact name_small h
  | ref c => exact name_small h
  | put c => exact name_small h
  | opn c => exact name_small h
section
variable {P : Program} {w : World} {K : PySem.W.Frag} {mg : Str → Option Value} {base : Heap}
/-- the word of an instance of a row -/
theorem row_word (T : TRows K mg) {H : Hp} {a : Addr} {r : RowD} (h : RowAt T H a r) : ∃ dx fs, H a = some (.ins (clsOf T r) dx fs) ∧ Cls K (clsOf T r) ∧ NoAttr K (clsOf T r) "word" ∧ fs.lookup ("word" : Str) = some (V.str (rowWord r)) := by
  obtain ⟨dx, ha⟩ := h
  cases r with
  | note c l => exact ⟨dx, _, ha, T.note.cl, T.note.noW, by rw [lookup_putF, if_neg (by decide +kernel), lookup_putF, if_neg (by decide +kernel), lookup_putF, if_pos rfl]; rfl⟩
  | skip c n => exact ⟨dx, _, ha, T.skip.cl, T.skip.noW, by rw [lookup_putF, if_neg (by decide +kernel), lookup_putF, if_neg (by decide +kernel), lookup_putF, if_pos rfl]; rfl⟩
  | set c n => exact ⟨dx, _, ha, T.set.cl, T.set.noW, by rw [lookup_putF, if_neg (by decide +kernel), lookup_putF, if_neg (by decide +kernel), lookup_putF, if_pos rfl]; rfl⟩
  | keep c => exact ⟨dx, _, ha, T.keep.cl, T.keep.noW, by rw [lookup_putF, if_neg (by decide +kernel), lookup_putF, if_pos rfl]; rfl⟩
  | back c => exact ⟨dx, _, ha, T.back.cl, T.back.noW, by rw [lookup_putF, if_neg (by decide +kernel), lookup_putF, if_pos rfl]; rfl⟩
  | ref c => exact ⟨dx, _, ha, T.ref.cl, T.ref.noW, by rw [lookup_putF, if_neg (by decide +kernel), lookup_putF, if_pos rfl]; rfl⟩
  | put c => exact ⟨dx, _, ha, T.put.cl, T.put.noW, by rw [lookup_putF, if_neg (by decide +kernel), lookup_putF, if_pos rfl]; rfl⟩
  | opn c => exact ⟨dx, _, ha, T.open_.cl, T.open_.noW, by rw [lookup_putF, if_neg (by decide +kernel), lookup_putF, if_pos rfl]; rfl⟩
theorem RowAt.same {T : TRows K mg} {H H' : Hp} {a : Addr} {r : RowD} (h : RowAt T H a r) (s : Same H H') : RowAt T H' a r := h.elim fun dx e => ⟨dx, s _ _ e⟩
end
end Pn

namespace Pn
open PySem L2 TL
/-! ### a row's text, read back -/
theorem numL_head (n : Nat) : (numL n).head? = some 48 → n = 0 := by
  induction n using Nat.strongRecOn with
  | _ n ih =>
    intro h
    by_cases h10 : n < 10
    · rw [numL_lt h10] at h
      have := Option.some.inj h
      omega
    · rw [numL_step (by omega), List.head?_append] at h
      cases e : (numL (n / 10)).head? with
      | none => exact absurd (List.head?_eq_none_iff.mp e) (numL_ne _)
      | some c =>
        rw [e] at h
        have q := ih (n / 10) (by omega) (by rw [e]; exact h)
        omega
theorem tl_numStr (n : Nat) : tl (numStr n) = numL n := tl_num n
theorem num_ok {n : Nat} (h : n < 10 ^ 10) : numOk (numStr n) = true := by
  have e : (numStr n).cps.toList = numL n := tl_numStr n
  have hl : (numStr n).length = (numL n).length := by rw [len_tl, tl_numStr]
  have h1 := numL_len (n := n) (k := 10) (by decide) h
  have h0 : 0 < (numL n).length := List.length_pos_iff.mpr (numL_ne n)
  unfold numOk
  rw [decide_eq_true (show (1 : Int) ≤ ((numStr n).length : Int) by rw [hl]; omega), decide_eq_true (show ((numStr n).length : Int) ≤ 10 by rw [hl]; omega), e]
  have hd : (numL n).all dok = true := List.all_eq_true.mpr fun c hc => by
    have q := numL_digits n c hc
    unfold dok
    rw [decide_eq_true q.1, decide_eq_true q.2]
    rfl
  rw [hd]
  by_cases hh : (numL n).head? = some 48
  · have hz := numL_head n hh
    have hs : numStr n = ("0" : Str) := by rw [hz]; decide +kernel
    rw [decide_eq_true hs, decide_eq_true hh]
    rfl
  · rw [decide_eq_false hh]
    rfl
theorem num_val (n : Nat) : numVal (numStr n) = n := by
  unfold numVal
  rw [tl_numStr]
  exact numL_val n
theorem name_free {z : Str} (h : nameS z = true) : 32 ∉ tl z := fun hc => by
  unfold nameS at h
  rw [Bool.and_eq_true] at h
  have q := List.all_eq_true.mp h.2 32 hc
  exact absurd q (by decide)
theorem num_free (n : Nat) : 32 ∉ tl (numStr n) := by
  rw [tl_numStr]
  exact numL_free (.inl (by decide))
theorem words_back {r : RowD} (h : rowValid r) : (∀ x ∈ rowWords r, 32 ∉ tl x) ∧ rowOf (rowWords r) = some r := by
  have one : ∀ {a : Str}, 32 ∉ tl a → ∀ {l : List Str}, (∀ x ∈ l, 32 ∉ tl x) → ∀ x ∈ a :: l, 32 ∉ tl x := fun ha _ hl x hx => by
    rcases List.mem_cons.mp hx with rfl | hx
    · exact ha
    · exact hl x hx
  have no : ∀ x ∈ ([] : List Str), 32 ∉ tl x := fun x hx => by cases hx
  cases r with
  | note c l =>
    by_cases hl : l = ""
    · subst hl
      refine ⟨one (by decide +kernel) (one (name_free h.1) no), ?_⟩
      show row2 "note" c = _
      unfold row2
      rw [if_pos h.1, if_pos rfl]
    · have hn := h.2.resolve_left hl
      have e : rowWords (.note c l) = (["note", c, l] : List Str) := if_neg hl
      rw [e]
      refine ⟨one (by decide +kernel) (one (name_free h.1) (one (name_free hn) no)), ?_⟩
      show row3 "note" c l = _
      unfold row3
      rw [if_pos ⟨rfl, hl⟩, if_pos ⟨h.1, lab_of (.inr hn)⟩]
  | skip c n =>
    refine ⟨one (by decide +kernel) (one (name_free h.1) (one (num_free n) no)), ?_⟩
    show row3 "skip" c (numStr n) = _
    unfold row3
    rw [if_neg (fun z => absurd z.1 (by decide +kernel)), if_pos rfl, if_pos ⟨num_ok h.2.2, h.1, by rw [num_val]; have := h.2.1; omega⟩, num_val]
  | set c n =>
    refine ⟨one (by decide +kernel) (one (name_free h.1) (one (num_free n) no)), ?_⟩
    show row3 "set" c (numStr n) = _
    unfold row3
    rw [if_neg (fun z => absurd z.1 (by decide +kernel)), if_neg (by decide +kernel), if_pos rfl, if_pos ⟨num_ok h.2, h.1⟩, num_val]
  | keep c =>
    have h : nameS c = true := h
    refine ⟨one (by decide +kernel) (one (name_free h) no), ?_⟩
    show row2 "keep" c = _
    unfold row2
    rw [if_pos h, if_neg (by decide +kernel), if_pos rfl]
  | back c =>
    have h : nameS c = true := h
    refine ⟨one (by decide +kernel) (one (name_free h) no), ?_⟩
    show row2 "back" c = _
    unfold row2
    rw [if_pos h, if_neg (by decide +kernel), if_neg (by decide +kernel), if_pos rfl]
  | ref c =>
    have h : nameS c = true := h
    refine ⟨one (by decide +kernel) (one (name_free h) no), ?_⟩
    show row2 "ref" c = _
    unfold row2
    rw [if_pos h, if_neg (by decide +kernel), if_neg (by decide +kernel), if_neg (by decide +kernel), if_pos rfl]
  | put c =>
    have h : nameS c = true := h
    refine ⟨one (by decide +kernel) (one (name_free h) no), ?_⟩
    show row2 "put" c = _
    unfold row2
    rw [if_pos h, if_neg (by decide +kernel), if_neg (by decide +kernel), if_neg (by decide +kernel), if_neg (by decide +kernel), if_pos rfl]
  | opn c =>
    have h : nameS c = true := h
    refine ⟨one (by decide +kernel) (one (name_free h) no), ?_⟩
    show row2 "open" c = _
    unfold row2
    rw [if_pos h, if_neg (by decide +kernel), if_neg (by decide +kernel), if_neg (by decide +kernel), if_neg (by decide +kernel), if_neg (by decide +kernel), if_pos rfl]
theorem row_back {r : RowD} (h : rowValid r) : rowOf (Txt.split (rowText r) " ") = some r := by
  obtain ⟨h1, h2⟩ := words_back h
  have e : Txt.split (rowText r) " " = rowWords r := split_join (s := 32) (S := []) (by decide +kernel) (by decide +kernel) (fun z => by have := (words_small h).2.1; rw [z] at this; exact absurd this (by decide)) h1
  rw [e]
  exact h2
end Pn

namespace Pn
open PySem L2
/-! ### parts as they are drawn, and their unrolled text -/
abbrev PartD := Str × List RowD
def expand (kn : List PartD) : RowD → List RowD
  | .put z => (kn.lookup z).getD []
  | r => [r]
def unrollIn (kn : List PartD) (rs : List RowD) : List RowD := rs.flatMap (expand kn)
def knowns (bk : List PartD) : List PartD := bk.foldl (fun kn p => (p.1, unrollIn kn p.2) :: kn) []
def unrolled (bk : List PartD) : List RowD := ((knowns bk).head?.map (·.2)).getD []
theorem knowns_snoc (bk : List PartD) (p : PartD) : knowns (bk ++ [p]) = (p.1, unrollIn (knowns bk) p.2) :: knowns bk := by
  unfold knowns
  rw [List.foldl_append]
  rfl
theorem knowns_len (bk : List PartD) : (knowns bk).map (·.1) = (bk.map (·.1)).reverse := by
  unfold knowns
  have q : ∀ (l : List PartD) (kn : List PartD), (l.foldl (fun kn p => (p.1, unrollIn kn p.2) :: kn) kn).map (·.1) = (l.map (·.1)).reverse ++ kn.map (·.1) := by
    intro l
    induction l with
    | nil => intro kn; rfl
    | cons p l ih =>
      intro kn
      rw [List.foldl_cons, ih]
      simp
  rw [q]
  simp
def RowsAt (H : Hp) (us : List Addr) (rs : List RowD) : Prop := Paired (fun t r => H t = some (.tup (rowTup r))) us rs
def LstAt (H : Hp) (a : Addr) (rs : List RowD) : Prop := ∃ us : List Addr, H a = some (.lst (us.map V.ref)) ∧ RowsAt H us rs
def PartAt (H : Hp) (t : Addr) (p : PartD) : Prop := ∃ ra, H t = some (.tup [.str p.1, .ref ra]) ∧ LstAt H ra p.2
def PartsAt (H : Hp) (a : Addr) (bk : List PartD) : Prop := ∃ ts : List Addr, H a = some (.lst (ts.map V.ref)) ∧ Paired (PartAt H) ts bk
theorem RowsAt.same {H H' : Hp} {us : List Addr} {rs : List RowD} (h : RowsAt H us rs) (s : Same H H') : RowsAt H' us rs := paired_mono (fun _ _ e => s _ _ e) h
theorem LstAt.same {H H' : Hp} {a : Addr} {rs : List RowD} (h : LstAt H a rs) (s : Same H H') : LstAt H' a rs := by
  obtain ⟨us, e, p⟩ := h
  exact ⟨us, s _ _ e, p.same s⟩
theorem PartAt.same {H H' : Hp} {t : Addr} {p : PartD} (h : PartAt H t p) (s : Same H H') : PartAt H' t p := by
  obtain ⟨ra, e, q⟩ := h
  exact ⟨ra, s _ _ e, q.same s⟩
theorem PartsAt.same {H H' : Hp} {a : Addr} {bk : List PartD} (h : PartsAt H a bk) (s : Same H H') : PartsAt H' a bk := by
  obtain ⟨ts, e, p⟩ := h
  exact ⟨ts, s _ _ e, paired_mono (fun _ _ z => z.same s) p⟩
theorem rows_dk {H : Hp} {K : Addr} {kvs kv2 : List (Key × V)} (hK : H K = some (.dK kvs)) {us : List Addr} {rs : List RowD} (h : RowsAt H us rs) : RowsAt (upd H K (.dK kv2)) us rs :=
  paired_mono (fun a _ e => by rw [upd_ne (fun z => by rw [z, hK] at e; cases e)]; exact e) h
theorem lst_dk {H : Hp} {K a : Addr} {kvs kv2 : List (Key × V)} {rs : List RowD} (hK : H K = some (.dK kvs)) (h : LstAt H a rs) : LstAt (upd H K (.dK kv2)) a rs := by
  obtain ⟨us, e, p⟩ := h
  exact ⟨us, by rw [upd_ne (fun z => by rw [z, hK] at e; cases e)]; exact e, rows_dk hK p⟩
theorem rows_lst {H : Hp} {F : Addr} {xs ys : List V} (hF : H F = some (.lst xs)) {us : List Addr} {rs : List RowD} (h : RowsAt H us rs) : RowsAt (upd H F (.lst ys)) us rs :=
  paired_mono (fun a _ e => by rw [upd_ne (fun z => by rw [z, hF] at e; cases e)]; exact e) h
theorem Same.updn {H H1 : Hp} {p : Addr} {o : HO} (s : Same H H1) (h : H p = none) : Same H (upd H1 p o) := fun a u e => by
  rw [upd_ne (ne_of_none e h)]
  exact s a u e
theorem paired_at' {α β : Type} {R : α → β → Prop} : ∀ {l : List α} {m : List β} {i : Nat} {y : β}, Paired R l m → m[i]? = some y → ∃ x, l[i]? = some x ∧ R x y
  | _, _, _, _, .nil, h => by simp at h
  | _, _, 0, _, .cons a _, h => by
    have e := Option.some.inj h
    subst e
    exact ⟨_, rfl, a⟩
  | _, _, i + 1, _, .cons _ b, h => paired_at' (i := i) b h
theorem paired_app {α β : Type} {R : α → β → Prop} : ∀ {l : List α} {m : List β} {l2 : List α} {m2 : List β}, Paired R l m → Paired R l2 m2 → Paired R (l ++ l2) (m ++ m2)
  | _, _, _, _, .nil, h => h
  | _, _, _, _, .cons a b, h => .cons a (paired_app b h)
def headW : RowD → Str
  | .note _ _ => "note"
  | .skip _ _ => "skip"
  | .set _ _ => "set"
  | .keep _ => "keep"
  | .back _ => "back"
  | .ref _ => "ref"
  | .put _ => "put"
  | .opn _ => "open"
theorem head_put : ∀ {r : RowD}, (¬ ∃ z, r = .put z) → decide (V.str (headW r) = V.str "put") = false
  | .note _ _, _ => (by decide +kernel : decide (V.str "note" = V.str "put") = false)
  | .skip _ _, _ => (by decide +kernel : decide (V.str "skip" = V.str "put") = false)
  | .set _ _, _ => (by decide +kernel : decide (V.str "set" = V.str "put") = false)
  | .keep _, _ => (by decide +kernel : decide (V.str "keep" = V.str "put") = false)
  | .back _, _ => (by decide +kernel : decide (V.str "back" = V.str "put") = false)
  | .ref _, _ => (by decide +kernel : decide (V.str "ref" = V.str "put") = false)
  | .put z, h => absurd ⟨z, rfl⟩ h
  | .opn _, _ => (by decide +kernel : decide (V.str "open" = V.str "put") = false)
/-- puts are of earlier parts; no part is long -/
def PutsOk (bk : List PartD) : Prop := ∀ (i : Nat) (p : PartD), bk[i]? = some p → p.2.length ≤ 6 ∧ ∀ z, RowD.put z ∈ p.2 → z ∈ (bk.take i).map (·.1)
/-- what the dict of the unrolled parts holds -/
def KnAt (H0 H : Hp) (kvs : List (Key × V)) (kn : List PartD) : Prop := ∀ z rs, kn.lookup z = some rs → ∃ f, valV kvs (.inr z) = some (.ref f) ∧ H0 f = none ∧ LstAt H f rs
theorem lookup_of_mem : ∀ {kn : List PartD} {z : Str}, z ∈ kn.map (·.1) → ∃ rs, kn.lookup z = some rs ∧ (z, rs) ∈ kn
  | [], z, h => by cases h
  | (y, rs) :: kn, z, h => by
    by_cases e : z = y
    · subst e
      exact ⟨rs, by rw [List.lookup_cons]; simp, List.mem_cons_self⟩
    · have h2 : z ∈ kn.map (·.1) := by
        rcases List.mem_cons.mp h with h | h
        · exact absurd h e
        · exact h
      obtain ⟨rs2, h3, h4⟩ := lookup_of_mem h2
      refine ⟨rs2, ?_, List.mem_cons_of_mem _ h4⟩
      rw [List.lookup_cons, show (z == y) = false from by simpa using e]
      exact h3
theorem tup_head (r : RowD) : (rowTup r)[0]? = some (.str (headW r)) := by cases r <;> rfl
theorem roomU {k : Nat} {A : Around} (r : Room k A) : A.units + 1 < cLine := by have := r.un; omega
theorem putK_len {κ : Type} [DecidableEq κ] (kvs : List (κ × V)) (k : κ) (v : V) : (putK kvs k v).length ≤ kvs.length + 1 := by
  unfold putK
  split
  · rw [List.length_map]; omega
  · rw [List.length_append]; simp
section
variable {P : Program} {w : World} {K : PySem.W.Frag} {mg : Str → Option Value} {base : Heap}
def spUnrolled : Sp := fun vs H Q _ => ∃ (pa : Addr) (bk : List PartD), vs = [.ref pa] ∧ PartsAt H pa bk ∧ PutsOk bk ∧ bk ≠ [] ∧ bk.length ≤ 4 ∧ ∀ (F : Addr) (H' : Hp), Same H H' → H F = none → LstAt H' F (unrolled bk) → (unrolled bk).length ≤ 1296 → Q (.ref F) H'
end
end Pn

namespace Pn
open PySem L2 TL
abbrev sIsSeq : Stmt := top 7
abbrev sPartInit : Stmt := inClass (top 36) 0
abbrev sPartStr : Stmt := inClass (top 36) 1
abbrev sPartEq : Stmt := inClass (top 36) 2
abbrev sIPInit : Stmt := inClass (top 12) 0
/-! ### a sequence, and which of its things are rows -/
def seqD : PyData → Bool
  | .list _ => true
  | .tuple _ => true
  | _ => false
theorem kit_two {K : PySem.W.Frag} {t : String} {a b : Bool} (h1 : kitB t "list" = some a) (h2 : kitB t "tuple" = some b) : PySem.W.kitAny K (.type t) [.type "list", .type "tuple"] = some (a || b) := by
  cases a
  · refine kitAny_cons (kit_ty h1) (fun _ => kitAny_cons (kit_ty h2) (fun z => ?_) (fun z => ?_)) (fun z => nomatch z)
    · rw [z]; exact kitAny_nil
    · rw [z]; rfl
  · exact kitAny_cons (kit_ty h1) (fun z => nomatch z) (fun _ => rfl)
theorem kit_seq {K : PySem.W.Frag} : ∀ d : PyData, PySem.W.kitAny K (.type (tyD d)) [.type "list", .type "tuple"] = some (seqD d)
  | .none => kit_two (by decide +kernel : kitB "NoneType" "list" = some false) (by decide +kernel : kitB "NoneType" "tuple" = some false)
  | .bool _ => kit_two (by decide +kernel : kitB "bool" "list" = some false) (by decide +kernel : kitB "bool" "tuple" = some false)
  | .int _ => kit_two (by decide +kernel : kitB "int" "list" = some false) (by decide +kernel : kitB "int" "tuple" = some false)
  | .str _ => kit_two (by decide +kernel : kitB "str" "list" = some false) (by decide +kernel : kitB "str" "tuple" = some false)
  | .list _ => kit_two (by decide +kernel : kitB "list" "list" = some true) (by decide +kernel : kitB "list" "tuple" = some false)
  | .tuple _ => kit_two (by decide +kernel : kitB "tuple" "list" = some false) (by decide +kernel : kitB "tuple" "tuple" = some true)
  | .dict _ => kit_two (by decide +kernel : kitB "dict" "list" = some false) (by decide +kernel : kitB "dict" "tuple" = some false)
theorem sql_ty {K : PySem.W.Frag} {H : Hp} {p : Addr} {xs : List V} (h : SqL K H p xs) : TyX K H (.ref p) (.type "list") := by
  rcases h with (s | ⟨o, s⟩) | ⟨o, _, _, e, c, _⟩
  · exact .base (.lst s)
  · exact .base (.frz s)
  · exact .kList e c
theorem sqt_ty {K : PySem.W.Frag} {H : Hp} {p : Addr} {xs : List V} (h : SqT K H p xs) : TyX K H (.ref p) (.type "tuple") := by
  rcases h with (s | ⟨o, s⟩) | ⟨o, _, _, e, c, _⟩
  · exact .base (.tup s)
  · exact .fTuple s
  · exact .kTuple e c
theorem sql_ins {K : PySem.W.Frag} {H : Hp} {x C dx p : Addr} {fs : List (Str × V)} {o : HO} {xs : List V} (hx : H x = some (.ins C dx fs)) (h : SqL K H p xs) : SqL K (upd H x o) p xs := by
  rcases h with (s | ⟨u, s⟩) | s
  · exact .inl (.inl (by rw [upd_ne (fun z => by rw [z, hx] at s; cases s)]; exact s))
  · exact .inl (.inr ⟨u, by rw [upd_ne (fun z => by rw [z, hx] at s; cases s)]; exact s⟩)
  · exact .inr s
theorem sqt_ins {K : PySem.W.Frag} {H : Hp} {x C dx p : Addr} {fs : List (Str × V)} {o : HO} {xs : List V} (hx : H x = some (.ins C dx fs)) (h : SqT K H p xs) : SqT K (upd H x o) p xs := by
  rcases h with (s | ⟨u, s⟩) | s
  · exact .inl (.inl (by rw [upd_ne (fun z => by rw [z, hx] at s; cases s)]; exact s))
  · exact .inl (.inr ⟨u, by rw [upd_ne (fun z => by rw [z, hx] at s; cases s)]; exact s⟩)
  · exact .inr s
section
variable {X : Cx} {tg : Expr}
/-- for x in a list or a tuple: whichever it is known to be -/
def iSeq (K : PySem.W.Frag) (tl : TE) : TI := fun σ H R => iList K tl σ H R ∨ iTup K tl σ H R
theorem pi_seq {l : Expr} {tl : TE} (hl : PE X l tl) : PI X tg l (iSeq X.K tl) :=
  ⟨fun pins s σ H R I h => h.elim (fun a => (pi_list hl).run pins s σ H R I a) fun a => (pi_tup hl).run pins s σ H R I a⟩
end
section
variable {P : Program} {w : World} {K : PySem.W.Frag} {mg : Str → Option Value} {base : Heap}
/-- a method of an own class -/
structure TMeth (K : PySem.W.Frag) (C : Addr) (nm qual : Str) (st : Stmt) (ps : List Str) : Type where
  f : Addr
  fd : FuncData
  F : Fun K nm qual st f fd
  b : Binds K fd ps []
  hs : PySem.W.findIn K (.ref C) nm = some (some (.ref f))
  hf : PySem.W.isFn K (.ref f) = true
/-- a row, or data -/
def RowFlag (R : TRows K mg) (H : Hp) (x : V) (b : Bool) : Prop := (b = true ∧ ∃ a r, x = .ref a ∧ RowAt R H a r) ∨ (b = false ∧ ∃ d, Dp K H x d)
theorem RowFlag.same {R : TRows K mg} {H H' : Hp} {x : V} {b : Bool} (h : RowFlag R H x b) (s : Same H H') : RowFlag R H' x b := by
  rcases h with ⟨e, a, r, ex, h⟩ | ⟨e, d, h⟩
  · exact .inl ⟨e, a, r, ex, h.same s⟩
  · exact .inr ⟨e, d, dp_same s d x h⟩
structure TPart {K : PySem.W.Frag} {mg : Str → Option Value} (R : TRows K mg) : Type where
  S : TStrs R
  CR : Addr
  mR : mg "Row" = some (.ref CR)
  kR : ∀ r, PySem.W.kitOne K (.ref (clsOf R r)) (.ref CR) = some true
  kD : ∀ d : PyData, PySem.W.kitOne K (.type (tyD d)) (.ref CR) = some false
  cA : ∀ r, PySem.W.findIn K (.ref (clsOf R r)) "__class__" = some (some (.builtin "object.__class__"))
  cN : PySem.W.specialIn K (.builtin "object.__class__") "__get__" = some (some (.builtin "getset_descriptor.__get__"))
  cT : PySem.W.takesIn K (.builtin "object.__class__") = some true
  cM : ∀ r, PySem.W.mroIn K (clsOf R r) (.type "object") = some true
  mList : mg "list" = none
  mTup : mg "tuple" = none
  isSeq : At K mg "is_sequence" sIsSeq ["value"]
  IP : TExc K mg "InvalidPart" "InvalidPart.__init__" "word" sIPInit
  C : Addr
  mC : mg "Part" = some (.ref C)
  fI : Addr
  fdI : FuncData
  dRows : Addr
  hRows : ∀ H, SqT K H dRows []
  FI : FunD K "__init__" "Part.__init__" (defArgs sPartInit) (defBody sPartInit) (defScope sPartInit) [.ref dRows] [] fI fdI
  bI : Binds K fdI ["self", "name", "rows"] []
  ds1 : List Value
  v1 : Vals [V.ref dRows] ds1
  b1 : Binds K fdI ["self", "name", "rows"] ds1
  M : Mk K C fI
  cl : Cls K C
  noN : NoAttr K C "name"
  noR : NoAttr K C "rows"
  pA : PySem.W.findIn K (.ref C) "__class__" = some (some (.builtin "object.__class__"))
  pM : PySem.W.mroIn K C (.type "object") = some true
  ne : PySem.W.findIn K (.ref C) "__ne__" = some (some (.builtin "object.__ne__"))
  kC : PySem.W.kitOne K (.ref C) (.ref C) = some true
  kS : PySem.W.kitOne K (.type "str") (.ref C) = some false
  nC : PySem.W.notFirst K C (.ref C) = true
  nS : PySem.W.notFirst K C (.type "str") = true
  str : TMeth K C "__str__" "Part.__str__" sPartStr ["self"]
  eq : TMeth K C "__eq__" "Part.__eq__" sPartEq ["self", "other"]
theorem flag_kit {R : TRows K mg} (T : TPart R) {H : Hp} {x : V} {b : Bool} (h : RowFlag R H x b) : ∃ t, TyX K H x t ∧ PySem.W.kitOne K t (.ref T.CR) = some b := by
  rcases h with ⟨rfl, a, r, rfl, dy, h⟩ | ⟨rfl, d, h⟩
  · obtain ⟨gs, eg⟩ := insRow_ins R dy r
    rw [eg] at h
    exact ⟨_, .base (.ins h (cls_of R r) (T.cA r) T.cN T.cT (T.cM r)), T.kR r⟩
  · exact ⟨_, dp_ty h, T.kD d⟩
def spIsSeq (K : PySem.W.Frag) : Sp := fun vs H Q _ => ∃ (v : V) (t : Value) (b : Bool), vs = [v] ∧ TyX K H v t ∧ PySem.W.kitAny K t [.type "list", .type "tuple"] = some b ∧ (∀ H', Same H H' → TyX K H' v t) ∧ ∀ H', Same H H' → Mo H H' → Q (.bl b) H'
theorem scIsSeq : FnScope ["value"] ["value"] (defScope sIsSeq) := ⟨rfl, rfl, rfl, by decide +kernel, rfl, by decide +kernel, by decide +kernel⟩
theorem ok_isSeq {f : Addr} {fd : FuncData} (F : Fun K "is_sequence" "is_sequence" sIsSeq f fd) (mIsi : mg "isinstance" = none) (mL : mg "list" = none) (mT : mg "tuple" = none) : FnOk P w K mg base CX0 1 f fd ["value"] (spIsSeq K) := by
  refine F.ok scIsSeq (fun vs H Q E h => ?_) (fun cdv A outer s H vs Q E hr h => ?_)
  · obtain ⟨v, t, b, rfl, _⟩ := h
    rfl
  · obtain ⟨v, t, b, rfl, ht, hk, hS, q⟩ := h
    refine ⟨_, pss_one (ps_ret (pe_callB call_isiT (by rfl) mIsi (by decide +kernel) (pa_cons (pv 0) (pa_cons (pe_tup (pa_cons (pe_bltn (v := .ty "list") (by rfl) mL (by decide +kernel) rfl) (pa_cons (pe_bltn (v := .ty "tuple") (by rfl) mT (by decide +kernel) rfl) pa_nil))) pa_nil)))), ?_⟩
    refine ⟨_, rfl, (by show 2 ≤ sizeLine; decide), fun p hp => ?_⟩
    exact ⟨v, p, _, t, _, b, rfl, upd_same, .cons (.ty _) (.cons (.ty _) .nil), hS _ (Same.new hp), hk, q _ (Same.new hp) Mo.upd⟩
theorem scIPInit : FnScope ["self", "word"] ["self", "word"] (defScope sIPInit) := ⟨rfl, rfl, rfl, by decide +kernel, rfl, by decide +kernel, by decide +kernel⟩
theorem okIPInit (T : TExc K mg "InvalidPart" "InvalidPart.__init__" "word" sIPInit) : FnOk P w K mg base CX0 1 T.fI T.fd ["self", "word"] (spXInit K "word") := by
  refine T.F.ok scIPInit (fun vs H Q E h => ?_) (fun cdv A outer s H vs Q E hr h => ?_)
  · obtain ⟨a, C, v, rfl, _⟩ := h
    rfl
  · obtain ⟨a, C, v, rfl, ha, O, no, q⟩ := h
    refine ⟨_, pss_one (ps_ost (pv 0) (pv 1)), ?_⟩
    exact ⟨_, rfl, _, rfl, a, C, rfl, O, no, .inl ⟨ha, fun dx h1 h2 => q dx h1 h2⟩⟩
def insPart (C dx : Addr) (v u : V) : HO := .ins C dx (putF "rows" u (putF "name" v []))
theorem part_name {v u : V} : (putF "rows" u (putF "name" v ([] : List (Str × V)))).lookup ("name" : Str) = some v := by
  rw [lookup_putF, if_neg (by decide +kernel), lookup_putF, if_pos rfl]
theorem part_rows {v u : V} : (putF "rows" u (putF "name" v ([] : List (Str × V)))).lookup ("rows" : Str) = some u := by
  rw [lookup_putF, if_pos rfl]
/-- what is passed as rows: no sequence, or one of so many things -/
def RowsArg (R : TRows K mg) (H : Hp) (u : V) : Option (List V × List Bool) → Prop
  | none => ∃ d, Dp K H u d ∧ seqD d = false
  | some (xs, bs) => ∃ p, u = .ref p ∧ (SqL K H p xs ∨ SqT K H p xs) ∧ Paired (RowFlag R H) xs bs ∧ xs.length ≤ 1000
theorem RowsArg.same {R : TRows K mg} {H H' : Hp} {u : V} {o : Option (List V × List Bool)} (h : RowsArg R H u o) (s : Same H H') : RowsArg R H' u o := by
  cases o with
  | none =>
    obtain ⟨d, h, e⟩ := h
    exact ⟨d, dp_same s d u h, e⟩
  | some o =>
    obtain ⟨p, e, h, hp, hl⟩ := h
    exact ⟨p, e, h.elim (fun h => .inl (s.seq h)) (fun h => .inr (Same.sqt s h)), paired_mono (fun _ _ z => z.same s) hp, hl⟩
def argOk : Option (List V × List Bool) → Bool
  | none => false
  | some (_, bs) => bs.all id
def spPartInit (R : TRows K mg) (C CP : Addr) : Sp := fun vs H Q E => ∃ (x dx : Addr) (v u : V) (d : PyData) (o : Option (List V × List Bool)), vs = [.ref x, v, u] ∧ H x = some (.ins C dx []) ∧ Dp K H v d ∧ dlen d ∧ RowsArg R H u o ∧
  (nameD d = false → RaiseW CP H E (.str "name")) ∧ (nameD d = true → argOk o = false → RaiseW CP H E (.str "rows")) ∧
  (nameD d = true → argOk o = true → ∀ xs bs, o = some (xs, bs) → ∀ tp H', KpI x H H' → Mo H H' → SqT K H' tp xs → H' x = some (insPart C dx v (.ref tp)) → Q .non H')
theorem scPartInit : FnScope ["self", "name", "rows", "row"] ["self", "name", "rows"] (defScope sPartInit) := ⟨rfl, rfl, rfl, by decide +kernel, rfl, by decide +kernel, by decide +kernel⟩
theorem okPartInit {R : TRows K mg} (T : TPart R) : FnOk P w K mg base (L2N.CX P w) 4 T.fI T.fdI ["self", "name", "rows"] (spPartInit R T.C T.IP.C) := by
  refine T.FI.ok scPartInit (fun vs H Q E h => ?_) (fun cdv A outer s H vs Q E hr h => ?_)
  · obtain ⟨x, dx, v, u, d, o, rfl, _⟩ := h
    rfl
  · obtain ⟨x, dx, v, u, d, o, rfl, hx, hd, hl, ha, q1, q2, q3⟩ := h
    refine ⟨_, pss_cons (ps_if (pt_not (pt_val (pe_call (R.N.okName) (hr.mono (by decide)) rfl R.N.isName.m R.N.isName.F.kp R.N.isName.b .nil pass0 (pa_cons (pv 1) pa_nil))))
        (pss_one (L2N.ps_raise rfl (L2N.takes_of rfl rfl rfl rfl) (pmk_oexN T.IP.O T.IP.iC T.IP.tI (okIPInit T.IP) (hr.mono (by decide)) T.IP.b pass0 rfl T.IP.m (pa_cons pe_str pa_nil)))) pss_nil)
      (pss_cons (ps_if (PW.pt (pw_or (pt_not (pt_val (pe_call (ok_isSeq T.isSeq.F R.N.mIsi T.mList T.mTup) (hr.mono (by decide)) rfl T.isSeq.m T.isSeq.F.kp T.isSeq.b .nil pass0 (pa_cons (pv 2) pa_nil))))
          (pw_or1 (pt_not (pt_val (pe_callB (cr_all rfl) (by rfl) R.N.mAll (by decide +kernel) (pa_cons (pe_lc (own := [("row", 3)]) (g := gName 3) (tt := tYes) (by rfl) scPartInit.nd (pi_seq (pv 2))
            (blkOk_by (N := ["self", "name", "rows", "row"]) (sc := defScope sPartInit) (by decide +kernel)) (fun _ _ _ _ _ => pg_name (i := 3) scPartInit.nd rfl (Or.inl rfl)) (fun _ _ _ _ _ => pts_nil)
            (fun _ _ _ _ _ => pe_callB (show CallR _ (.builtin "isinstance") (rIsi K) from call_isi) (by rfl) R.N.mIsi (by decide +kernel) (pa_cons (pv 3) (pa_cons (pe_glob (v := .ref T.CR) (by rfl) T.mR rfl) pa_nil)))) pa_nil)))))))
        (pss_one (L2N.ps_raise rfl (L2N.takes_of rfl rfl rfl rfl) (pmk_oexN T.IP.O T.IP.iC T.IP.tI (okIPInit T.IP) (hr.mono (by decide)) T.IP.b pass0 rfl T.IP.m (pa_cons pe_str pa_nil)))) pss_nil)
      (pss_cons (ps_fld (pv 0) (pv 1) rfl) (pss_one (ps_fld (pv 0) (pe_callTy call_tuple_of (by rfl) T.mTup (by decide +kernel) (pa_cons (pv 2) pa_nil)) rfl)))), ?_⟩
    refine ⟨_, rfl, v, d, rfl, hd, hl, fun H1 hs hm => ?_⟩
    cases hn : nameD d with
    | false =>
      refine ⟨false, rfl, iteT ?_⟩
      exact ⟨(by show 1 ≤ 1000; decide), fun a ha => ⟨a, T.IP.C, _, rfl, upd_same, T.IP.O, T.IP.noF, fun dx g1 g2 => ⟨rfl, dx, _, upd_same, by rw [upd_ne g2, upd_same], by rw [upd_ne g2] at g1; exact g1, ir_made hs hm (q1 hn) ha dx g1 g2⟩⟩⟩
    | true =>
      refine ⟨true, rfl, iteF ?_⟩
      have ha1 := ha.same hs
      cases o with
      | none =>
        obtain ⟨e, he, hse⟩ := ha1
        refine ⟨_, rfl, u, _, _, rfl, dp_ty he, kit_seq e, fun H' s' => dp_ty (dp_same s' e u he), fun H2 hs2 hm2 => ?_⟩
        rw [hse]
        refine ⟨false, rfl, iteT ?_⟩
        exact ⟨(by show 1 ≤ 1000; decide), fun a ha => ⟨a, T.IP.C, _, rfl, upd_same, T.IP.O, T.IP.noF, fun dx g1 g2 => ⟨rfl, dx, _, upd_same, by rw [upd_ne g2, upd_same], by rw [upd_ne g2] at g1; exact g1, ir_made (hs.trans hs2) (hm.trans hm2) (q2 hn rfl) ha dx g1 g2⟩⟩⟩
      | some o =>
        obtain ⟨xs, bs⟩ := o
        obtain ⟨p, rfl, hp, hpd, hxl⟩ := ha1
        have htk : ∃ t, PySem.W.kitAny K t [.type "list", .type "tuple"] = some true ∧ TyX K H1 (.ref p) t ∧ ∀ H', Same H1 H' → TyX K H' (.ref p) t := by
          rcases hp with hp | hp
          · exact ⟨_, kit_two (by decide +kernel : kitB "list" "list" = some true) (by decide +kernel : kitB "list" "tuple" = some false), sql_ty hp, fun H' s' => sql_ty (s'.seq hp)⟩
          · exact ⟨_, kit_two (by decide +kernel : kitB "tuple" "list" = some false) (by decide +kernel : kitB "tuple" "tuple" = some true), sqt_ty hp, fun H' s' => sqt_ty (Same.sqt s' hp)⟩
        obtain ⟨t, hk, ht1, ht2⟩ := htk
        refine ⟨_, rfl, _, t, true, rfl, ht1, hk, ht2, fun H2 hs2 hm2 => ⟨true, rfl, iteF ?_⟩⟩
        have hp2 : SqL K H2 p xs ∨ SqT K H2 p xs := hp.elim (fun h => .inl (hs2.seq h)) (fun h => .inr (Same.sqt hs2 h))
        have hpd2 := paired_mono (fun _ _ z => z.same hs2) hpd
        have hbl : xs.length = bs.length := paired_len hpd
        have hp2c := hp2
        refine hp2.elim (fun hp3 => .inl ⟨_, rfl, p, rfl, ⟨_, hp3⟩, fun D hD => lc_list (xs := xs) (fun i Hi => Same H2 Hi ∧ Mo H2 Hi ∧ Hi D = some (.lst ((bs.take i).map V.bl))) ⟨Same.new hD, Mo.upd, upd_same⟩ (fun i Hi _ hP => hP.1.seq hp3) (fun i z Hi hz hP => ?turn) (fun Hi hP => ?fin)⟩)
          (fun hp3 => .inr ⟨_, rfl, p, rfl, ⟨_, hp3⟩, fun D hD => lc_tup (xs := xs) (fun i Hi => Same H2 Hi ∧ Mo H2 Hi ∧ Hi D = some (.lst ((bs.take i).map V.bl))) ⟨Same.new hD, Mo.upd, upd_same⟩ (fun i Hi _ hP => Same.sqt hP.1 hp3) (fun i z Hi hz hP => ?turn2) (fun Hi hP => ?fin2)⟩)
        case turn | turn2 =>
          obtain ⟨s3, m3, hDi⟩ := hP
          obtain ⟨b, hb, hfl⟩ := paired_at hpd2 hz
          obtain ⟨t2, hty, hkt⟩ := flag_kit T (hfl.same s3)
          have hi : i < bs.length := (List.getElem?_eq_some_iff.mp hb).1
          refine ⟨rfl, _, rfl, z, .ref T.CR, t2, _, b, rfl, .own _, hty, hkt, _, hDi, ?_, Same.updn s3 hD, m3.trans Mo.upd, ?_⟩
          · rw [List.length_map, List.length_take]
            have : (1001 : Nat) ≤ sizeLine := by decide
            omega
          · rw [upd_same, List.take_add_one, hb, List.map_append]
            rfl
        case fin | fin2 =>
          obtain ⟨s3, m3, hDi⟩ := hP
          rw [hbl, List.take_length] at hDi
          refine ⟨D, bs, rfl, SqL.of hDi, ?_⟩
          have ho : argOk (some (xs, bs)) = bs.all id := rfl
          cases hall : bs.all id with
          | false =>
            refine ⟨false, rfl, iteT ?_⟩
            exact ⟨(by show 1 ≤ 1000; decide), fun a ha => ⟨a, T.IP.C, _, rfl, upd_same, T.IP.O, T.IP.noF, fun dx g1 g2 => ⟨rfl, dx, _, upd_same, by rw [upd_ne g2, upd_same], by rw [upd_ne g2] at g1; exact g1, ir_made ((hs.trans hs2).trans s3) ((hm.trans hm2).trans m3) (q2 hn (ho.trans hall)) ha dx g1 g2⟩⟩⟩
          | true =>
            refine ⟨true, rfl, iteF ?_⟩
            have s5 := (hs.trans hs2).trans s3
            have m5 := (hm.trans hm2).trans m3
            have hxi := s5 _ _ hx
            refine ⟨_, rfl, _, rfl, x, T.C, dx, [], rfl, hxi, T.cl, T.noN, (by show 0 < 1000; decide), ?_⟩
            have k1 : KpI x H (upd Hi x (.ins T.C dx (putF "name" v []))) := fun b o e n => by
              rw [upd_ne n]
              exact s5 _ _ e
            have hp5 : SqL K (upd Hi x (.ins T.C dx (putF "name" v []))) p xs ∨ SqT K (upd Hi x (.ins T.C dx (putF "name" v []))) p xs :=
              hp2c.elim (fun h => .inl (sql_ins hxi (s3.seq h))) (fun h => .inr (sqt_ins hxi (Same.sqt s3 h)))
            have m6 : Mo H (upd Hi x (.ins T.C dx (putF "name" v []))) := m5.trans Mo.upd
            have hx6 : upd Hi x (.ins T.C dx (putF "name" v [])) x = some (.ins T.C dx (putF "name" v [])) := upd_same
            generalize upd Hi x (.ins T.C dx (putF "name" v [])) = Hy at k1 hp5 m6 hx6 ⊢
            refine ⟨_, rfl, p, xs, rfl, hp5.elim (fun h => .inl ⟨h, fun l hl2 => ?nl⟩) (fun h => .inr ⟨h, ?nt⟩)⟩
            case nl =>
              have nxl : x ≠ l := fun z => by rw [← z, hx6] at hl2; cases hl2
              refine ⟨_, rfl, x, T.C, dx, _, rfl, Same.new hl2 _ _ hx6, T.cl, T.noR, (by show 1 < 1000; decide), ?_⟩
              refine q3 hn (ho.trans hall) xs bs rfl l _ (fun b o e n => ?_) ((m6.trans Mo.upd).trans Mo.upd) (SqT.of (by rw [upd_ne (fun z => nxl z.symm)]; exact upd_same)) upd_same
              rw [upd_ne n]
              exact Same.new hl2 _ _ (k1 b o e n)
            case nt =>
              refine ⟨_, rfl, x, T.C, dx, _, rfl, hx6, T.cl, T.noR, (by show 1 < 1000; decide), ?_⟩
              refine q3 hn (ho.trans hall) xs bs rfl p _ (fun b o e n => ?_) (m6.trans Mo.upd) (sqt_ins hx6 h) upd_same
              rw [upd_ne n]
              exact k1 b o e n
end
end Pn

namespace Pn
open PySem L2 TL
def partHead (n : Str) : Str := ("part " : Str) ++ n
def partText (n : Str) (rs : List RowD) : Str := Txt.join "\n" (partHead n :: rs.map rowText)
theorem part_join {n z : Str} {rs : List RowD} (h : z = Str.empty ++ ("part " : Str) ++ n) : Txt.join "\n" (z :: rs.map rowText) = partText n rs := by
  have e : z = partHead n := by
    rw [h]
    apply ext_tl
    unfold partHead
    rw [tl_append, tl_append, tl_append]
    rfl
  rw [e]
  rfl
theorem len_append (a b : Str) : (a ++ b).length = a.length + b.length := strLen_append a b
theorem rows_sum {rs : List RowD} (h : ∀ r ∈ rs, rowValid r) : ((rs.map rowText).map (·.length)).sum ≤ 63 * rs.length := by
  induction rs with
  | nil => exact Nat.le_refl _
  | cons r rs ih =>
    have h1 := (sm_row (h r List.mem_cons_self)).1
    have h2 := ih fun x hx => h x (List.mem_cons_of_mem _ hx)
    simp only [List.map_cons, List.sum_cons, List.length_cons] at h2 ⊢
    omega
theorem part_fits {rs : List RowD} {z : Str} (hz : z.length ≤ 200) (h : ∀ r ∈ rs, rowValid r) (hl : rs.length ≤ 100) : ((z :: rs.map rowText).map (·.length)).sum + (z :: rs.map rowText).length * ("\n" : Str).length ≤ 16777216 := by
  have h1 := rows_sum h
  have h2 : ("\n" : Str).length = 1 := by decide +kernel
  rw [h2]
  simp only [List.map_cons, List.sum_cons, List.length_cons, List.length_map] at h1 ⊢
  omega
section
variable {P : Program} {w : World} {K : PySem.W.Frag} {mg : Str → Option Value} {base : Heap}
/-- rows as they stand -/
def RowsIn (R : TRows K mg) (H : Hp) (us : List Addr) (rs : List RowD) : Prop := Paired (fun u r => RowAt R H u r) us rs
theorem RowsIn.same {R : TRows K mg} {H H' : Hp} {us : List Addr} {rs : List RowD} (h : RowsIn R H us rs) (s : Same H H') : RowsIn R H' us rs := paired_mono (fun _ _ e => e.same s) h
/-- a part of the package -/
def PtAt {R : TRows K mg} (T : TPart R) (H : Hp) (a : Addr) (n : Str) (rs : List RowD) : Prop := ∃ dx tp us, H a = some (insPart T.C dx (.str n) (.ref tp)) ∧ SqT K H tp (us.map V.ref) ∧ RowsIn R H us rs
theorem PtAt.same {R : TRows K mg} {T : TPart R} {H H' : Hp} {a : Addr} {n : Str} {rs : List RowD} (h : PtAt T H a n rs) (s : Same H H') : PtAt T H' a n rs := by
  obtain ⟨dx, tp, us, h1, h2, h3⟩ := h
  exact ⟨dx, tp, us, s _ _ h1, Same.sqt s h2, h3.same s⟩
def partOk (n : Str) (rs : List RowD) : Prop := n.length ≤ 100 ∧ rs.length ≤ 100 ∧ ∀ r ∈ rs, rowValid r
def spPartStr {R : TRows K mg} (T : TPart R) : Sp := fun vs H Q _ => ∃ (a : Addr) (n : Str) (rs : List RowD), vs = [.ref a] ∧ PtAt T H a n rs ∧ partOk n rs ∧ ∀ H', Same H H' → Q (.str (partText n rs)) H'
theorem scPartStr : FnScope ["self", "lines", "row"] ["self"] (defScope sPartStr) := ⟨rfl, rfl, rfl, by decide +kernel, rfl, by decide +kernel, by decide +kernel⟩
theorem okPartStr {R : TRows K mg} (T : TPart R) : FnOk P w K mg base CX0 4 T.str.f T.str.fd ["self"] (spPartStr T) := by
  refine T.str.F.ok scPartStr (fun vs H Q E h => ?_) (fun cdv A outer s H vs Q E hr h => ?_)
  · obtain ⟨a, n, rs, rfl, _⟩ := h
    rfl
  · obtain ⟨a, n, rs, rfl, ⟨dx, tp, us, ha, htp, hus⟩, ⟨hn, hl, hv⟩, q⟩ := h
    refine ⟨_, pss_cons (ps_setLc (i := 1) (own := [("row", 2)]) (g := gName 2) (tt := tYes) (by rfl) scPartStr.nd rfl rfl (sw_true rfl rfl rfl (by decide +kernel)) (pi_tup (pe_fld (pv 0) rfl))
        (blkOk_by (N := ["self", "lines", "row"]) (sc := defScope sPartStr) (by decide +kernel)) (fun _ _ _ _ _ => pg_name (i := 2) scPartStr.nd rfl (Or.inl rfl)) (fun _ _ _ _ _ => pts_nil)
        (fun _ _ _ _ _ => pe_callTy (show CallR _ (.type "str") (rStrRow R) from call_strRowK (K := K) (mg := mg) rfl rfl R T.S hr) (by rfl) R.N.mStr (by decide +kernel) (pa_cons (pv 2) pa_nil)))
      (pss_one (ps_ret (pe_join pe_str (pe_lst (pa_cons (pe_joined (.cons pe_str (.cons (pe_fmt (pe_fld (pv 0) rfl)) .nil))) (StX.pa_star (pv 1) pa_nil)))))), ?_⟩
    have hul : us.length = rs.length := paired_len hus
    refine ⟨_, rfl, a, T.C, dx, _, .ref tp, rfl, ha, T.cl, T.noR, part_rows, tp, rfl, ⟨_, htp⟩, fun D hD => lc_tup (xs := us.map V.ref) (fun i Hi => Same H Hi ∧ Hi D = some (.lst ((rs.take i).map fun r => V.str (rowText r)))) ⟨Same.new hD, upd_same⟩ (fun i Hi _ hP => Same.sqt hP.1 htp) (fun i z Hi hz hP => ?turn) (fun Hi hP => ?fin)⟩
    case turn =>
      obtain ⟨s3, hDi⟩ := hP
      rw [List.getElem?_map] at hz
      cases hui : us[i]? with
      | none => rw [hui] at hz; cases hz
      | some u =>
      rw [hui] at hz
      cases hz
      obtain ⟨r, hr2, hrow⟩ := paired_at hus hui
      refine ⟨rfl, _, rfl, u, r, rfl, hrow.same s3, valid_small (hv r (List.mem_of_getElem? hr2)), _, hDi, ?_, Same.updn s3 hD, ?_⟩
      · rw [List.length_map, List.length_take]
        have : (1001 : Nat) ≤ sizeLine := by decide
        omega
      · rw [upd_same, List.take_add_one, hr2, List.map_append]
        rfl
    case fin =>
      obtain ⟨s3, hDi⟩ := hP
      rw [List.length_map, hul, List.take_length] at hDi
      have hDi2 : Hi D = some (.lst ((rs.map rowText).map V.str)) := by rw [hDi, List.map_map]; rfl
      refine ⟨⟨_, rfl⟩, ?_⟩
      refine ⟨_, rfl, (by decide +kernel), _, rfl, a, T.C, dx, _, .str n, rfl, s3 _ _ ha, T.cl, T.noN, part_name, .inl ⟨n, rfl, Nat.le_trans hn (by decide), n, rfl, ?_, ?_⟩⟩
      · rw [strLen_append]
        exact Nat.le_trans (Nat.add_le_add_left hn _) (by decide +kernel)
      refine ⟨_, rfl, D, (rs.map rowText).map V.str, rfl, .inr (SqL.of hDi2), ?_⟩
      refine ⟨?_, fun l hl2 => ?_⟩
      · show ((List.map V.str (List.map rowText rs) ++ []).length + 1) ≤ sizeLine
        rw [List.append_nil, List.length_map, List.length_map]
        have : (1001 : Nat) ≤ sizeLine := by decide
        omega
      · refine ⟨"\n", l, (Str.empty ++ ("part " : Str) ++ n) :: rs.map rowText, rfl, rfl, .inl (SqL.of (by rw [upd_same, List.append_nil]; rfl)), part_fits ?_ hv hl, ?_⟩
        · rw [strLen_append, strLen_append]
          have : (Str.empty : Str).length + ("part " : Str).length = 5 := by decide +kernel
          omega
        · rw [part_join rfl]
          exact q _ (Same.updn s3 (s3.free hl2))
def spPartEq {R : TRows K mg} (T : TPart R) : Sp := fun vs H Q _ => ∃ (a : Addr) (y : V) (n : Str) (rs : List RowD), vs = [.ref a, y] ∧ PtAt T H a n rs ∧ partOk n rs ∧ ((∃ z, y = .str z ∧ Q (.bl false) H) ∨ ∃ (b : Addr) (m : Str) (qs : List RowD), y = .ref b ∧ PtAt T H b m qs ∧ partOk m qs ∧ ∀ H', Same H H' → Q (.bl (decide (partText n rs = partText m qs))) H')
theorem scPartEq : FnScope ["self", "other"] ["self", "other"] (defScope sPartEq) := ⟨rfl, rfl, rfl, by decide +kernel, rfl, by decide +kernel, by decide +kernel⟩
def rStrPart {R : TRows K mg} (T : TPart R) : List V → Hp → VK → Prop := fun xs H Q => ∃ (a : Addr) (n : Str) (rs : List RowD), xs = [.ref a] ∧ PtAt T H a n rs ∧ partOk n rs ∧ ∀ H', Same H H' → Q (.str (partText n rs)) H'
theorem call_strPart {X : Cx} {R : TRows X.K X.mg} (T : TPart R) (hr : Room 6 X.A) : CallR X (.type "str") (rStrPart T) := by
  intro pins s σ H xs us Q I rv h
  obtain ⟨a, n, rs, rfl, hp, hok, q⟩ := h
  obtain ⟨dx, tp, us2, ha, h2⟩ := id hp
  exact call_strIns (okPartStr T) T.str.hf hr T.str.b pass0 pins s σ H _ us Q I rv ⟨a, _, dx, _, rfl, ha, T.str.hs, a, n, rs, rfl, hp, hok, fun H' s' => ⟨_, rfl, q H' s'⟩⟩
theorem call_strPartK {X : Cx} {K : PySem.W.Frag} {mg : Str → Option Value} (hK : X.K = K) (hm : X.mg = mg) {R : TRows K mg} (T : TPart R) (hr : Room 6 X.A) : CallR X (.type "str") (rStrPart T) := by
  subst hK
  subst hm
  exact call_strPart T hr
theorem okPartEq {R : TRows K mg} (T : TPart R) : FnOk P w K mg base CX0 7 T.eq.f T.eq.fd ["self", "other"] (spPartEq T) := by
  refine T.eq.F.ok scPartEq (fun vs H Q E h => ?_) (fun cdv A outer s H vs Q E hr h => ?_)
  · obtain ⟨a, y, n, rs, rfl, _⟩ := h
    rfl
  · obtain ⟨a, y, n, rs, rfl, ha, hok, q⟩ := h
    refine ⟨_, pss_one (ps_ret (pe_and (pe_callB call_isi (by rfl) R.N.mIsi (by decide +kernel) (pa_cons (pv 1) (pa_cons (pe_glob (v := .ref T.C) (by rfl) T.mC rfl) pa_nil)))
      (pe_one (pe_cmpR op_eq (pe_callTy (call_strPartK (K := K) (mg := mg) rfl rfl T hr) (by rfl) R.N.mStr (by decide +kernel) (pa_cons (pv 0) pa_nil)) (pe_callTy (call_strPartK (K := K) (mg := mg) rfl rfl T hr) (by rfl) R.N.mStr (by decide +kernel) (pa_cons (pv 1) pa_nil)) (nomark _))))), ?_⟩
    rcases q with ⟨z, rfl, q⟩ | ⟨b, m, qs, rfl, hb, hokb, q⟩
    · refine ⟨_, rfl, .str z, .ref T.C, _, _, false, rfl, .own _, .base (.str z), T.kS, _, rfl, iteF ?_⟩
      exact q
    · obtain ⟨dy, tq, us2, hb2, _⟩ := id hb
      refine ⟨_, rfl, .ref b, .ref T.C, _, _, true, rfl, .own _, .base (.ins hb2 T.cl T.pA T.cN T.cT T.pM), T.kC, _, rfl, iteT ?_⟩
      refine ⟨_, rfl, a, n, rs, rfl, ha, hok, fun H1 s1 => ⟨_, rfl, b, m, qs, rfl, hb.same s1, hokb, fun H2 s2 => ⟨rfl, ?_⟩⟩⟩
      have e : decide (V.str (partText n rs) = V.str (partText m qs)) = decide (partText n rs = partText m qs) := by
        by_cases h : partText n rs = partText m qs
        · rw [h, decide_eq_true rfl, decide_eq_true rfl]
        · rw [decide_eq_false h, decide_eq_false (fun z => h (V.str.inj z))]
      rw [e]
      exact q H2 (s1.trans s2)
end
end Pn

namespace Pn
open PySem PySem.Spec PyProof.Rows PySem.Froz
/-! ### sets of texts: which are in it, and a table that can be walked -/
/-- the texts of a list, each once -/
def uniq (l : List Str) : List Str := l.foldl (fun acc x => if x ∈ acc then acc else x :: acc) []
theorem uniq_snoc (l : List Str) (x : Str) : uniq (l ++ [x]) = if x ∈ uniq l then uniq l else x :: uniq l := by
  unfold uniq
  rw [List.foldl_append]
  rfl
theorem uniq_has : ∀ (l : List Str) (z : Str), z ∈ uniq l ↔ z ∈ l := by
  have key : ∀ (l acc : List Str) (z : Str), z ∈ l.foldl (fun acc x => if x ∈ acc then acc else x :: acc) acc ↔ z ∈ acc ∨ z ∈ l := by
    intro l
    induction l with
    | nil => intro acc z; simp
    | cons x l ih =>
      intro acc z
      rw [List.foldl_cons, ih]
      by_cases h : x ∈ acc
      · rw [if_pos h]
        constructor
        · rintro (h1 | h1)
          · exact .inl h1
          · exact .inr (List.mem_cons_of_mem _ h1)
        · rintro (h1 | h1)
          · exact .inl h1
          · rcases List.mem_cons.mp h1 with rfl | h1
            · exact .inl h
            · exact .inr h1
      · rw [if_neg h]
        simp only [List.mem_cons]
        constructor
        · rintro ((h1 | h1) | h1)
          · exact .inr (.inl h1)
          · exact .inl h1
          · exact .inr (.inr h1)
        · rintro (h1 | h1 | h1)
          · exact .inl (.inr h1)
          · exact .inl (.inl h1)
          · exact .inr h1
  intro l z
  exact (key l [] z).trans (by simp)
theorem uniq_nodup (l : List Str) : (uniq l).Nodup := by
  have key : ∀ (l acc : List Str), acc.Nodup → (l.foldl (fun acc x => if x ∈ acc then acc else x :: acc) acc).Nodup := by
    intro l
    induction l with
    | nil => intro acc h; exact h
    | cons x l ih =>
      intro acc h
      rw [List.foldl_cons]
      refine ih _ ?_
      by_cases e : x ∈ acc
      · rw [if_pos e]; exact h
      · rw [if_neg e]; exact List.nodup_cons.mpr ⟨e, h⟩
  exact key l [] List.nodup_nil
theorem uniq_len (l : List Str) : (uniq l).length ≤ l.length := by
  have key : ∀ (l acc : List Str), (l.foldl (fun acc x => if x ∈ acc then acc else x :: acc) acc).length ≤ acc.length + l.length := by
    intro l
    induction l with
    | nil => intro acc; exact Nat.le_refl _
    | cons x l ih =>
      intro acc
      rw [List.foldl_cons, List.length_cons]
      have q := ih (if x ∈ acc then acc else x :: acc)
      by_cases e : x ∈ acc
      · rw [if_pos e] at q ⊢; omega
      · rw [if_neg e] at q ⊢
        rw [List.length_cons] at q
        omega
  have q := key l []
  unfold uniq
  simpa using q
theorem addTx_led (h : Int) (v : Value) (D : SD) : (addTx h v D).2.2.led = D.2.2.led := by
  have e := L2.layNew_led D.2.2 D.1 h v
  unfold addTx tailTx
  by_cases c : (layNew D.2.2 D.1 h v).2.1.plain = true
  · rw [if_pos c]
    split
    · exact (L2.relayAll_led _ _ _).trans e
    · exact e
  · rw [if_neg c]
    split
    · exact (L2.relayAll_led _ _ _).trans e
    · exact e
theorem addTx_ris (h : Int) (v : Value) (D : SD) (r : L2.Ris D.2.2.place.toList) : L2.Ris (addTx h v D).2.2.place.toList := by
  have e := L2.layNew_ris D.2.2 D.1 h v r
  unfold addTx tailTx
  by_cases c : (layNew D.2.2 D.1 h v).2.1.plain = true
  · rw [if_pos c]
    split
    · exact L2.relayAll_ris _ _ _
    · exact e
  · rw [if_neg c]
    split
    · exact L2.relayAll_ris _ _ _
    · exact e
/-- at a stands the set of the texts l -/
def TxtSet (P : Program) (w : World) (h : Heap) (a : Addr) (l : List Str) : Prop :=
  ∃ D : SD, h.get? a = some (sObj "set" D) ∧ TxOk P w D l ∧ L2.Ris D.2.2.place.toList ∧ (w.params.followText "set-order" = true ∨ D.2.2.led = true) ∧ l.Nodup
theorem TxtSet.keep {P : Program} {w : World} {h h' : Heap} {a : Addr} {l : List Str} (R : TxtSet P w h a l) (k : ∀ o, h.get? a = some o → h'.get? a = some o) : TxtSet P w h' a l := by
  obtain ⟨D, ho, r⟩ := R
  exact ⟨D, k _ ho, r⟩
section
variable {P : Program} {w : World} {A : Around} {E : Value → Shared → Prop} {s : Shared}
/-- a text that is there is not put in again -/
theorem held_x {a : Addr} {T : String} {D : SD} {l : List Str} {k : Str} {u : Tok} {Q : Bool → Shared → Prop} (ho : s.heap.get? a = some (sObj T D)) (F : TxOk P w D l) (hk : k ∈ l) (hb : l.length < scanBound) (h : Q false s) :
    wpAny (model P w) A (setAddHashed a (.str k u) (hashStr w k)) Q E s := by
  obtain ⟨es, ep, t⟩ := D
  have dat : (sObj T (es, ep, t)).data = .set es ep t := rfl
  have elm : ElemsOf (strKind P w) es.toList := F.el
  have low : es.size < scanBound := by rw [show es.size = l.length from F.sz]; exact hb
  have key : (strKind P w).is k (.str k u) = true := is_str k u
  obtain ⟨j, found⟩ : ∃ j, List.findIdx? (fun e => (strKind P w).is k e.2) es.toList = some j := by
    cases q : List.findIdx? (fun e => (strKind P w).is k e.2) es.toList with
    | some j => exact ⟨j, rfl⟩
    | none =>
      obtain ⟨e, he, hi⟩ := (F.mem k).mp hk
      exact absurd hi (by rw [List.findIdx?_eq_none_iff.mp q e he]; decide)
  unfold setAddHashed setAddHashedIn
  refine wpAny_holding ?_
  refine wpAny_bind (wpAny_setState_of ho dat F.fit ?_)
  dsimp only
  rw [byScan_of rfl low elm]
  simp only [↓reduceIte]
  unfold setAddByScan
  refine wpAny_bind (wpAny_bind (wpAny_rule ?_))
  refine wpAny_bind (wpAny_setScan_of (k := k) (knd := strKind P w) key ho dat F.fit elm ?_)
  rw [found]
  exact wpAny_pure (wpAny_pure h)
theorem txt_new {h : Heap} {a : Addr} (ho : h.get? a = some (sObj "set" (#[], 0, .fresh 0 0 (!w.params.followText "set-order")))) : TxtSet P w h a [] :=
  ⟨_, ho, TxOk.nil (by rfl), List.Pairwise.nil, (by
    show _ ∨ (!w.params.followText "set-order") = true
    cases w.params.followText "set-order" <;> simp), List.nodup_nil⟩
/-- one text is put in -/
theorem txt_add {a : Addr} {l : List Str} {k : Str} {u : Tok} {Q : Bool → Shared → Prop} (R : TxtSet P w s.heap a l) (hb : l.length + 1 < scanBound)
    (h : ∀ b h', (∀ c, c ≠ a → h'.get? c = s.heap.get? c) → TxtSet P w h' a (if k ∈ l then l else k :: l) → Q b { s with heap := h' }) : wpAny (model P w) A (setAddHashed a (.str k u) (hashStr w k)) Q E s := by
  obtain ⟨D, ho, F, r, g, nd⟩ := id R
  by_cases hk : k ∈ l
  · refine held_x ho F hk (by omega) ?_
    have q := h false s.heap (fun _ _ => rfl)
    rw [if_pos hk] at q
    exact q R
  · refine add_x ho F hk hb ?_
    have q := h true (s.heap.update a fun _ => sObj "set" (addTx (hashStr w k) (.str k u) D)) (fun c n => Heap.get?_update_other _ _ n.symm)
    rw [if_neg hk] at q
    exact q ⟨_, get_upd _ ho rfl, add_ok u F, addTx_ris _ _ _ r, g.imp id fun z => (addTx_led _ _ _).trans z, List.nodup_cons.mpr ⟨hk, nd⟩⟩
theorem loop_txt {I : Addr} {fp wr : List Addr} {G : Array GenState → Array GenState → Prop} {n : Nat} {Pv : Nat → Value → Prop} {St : Nat → Shared → Prop} {R : Result → Shared → Prop} (W : WalksS P w A.in1 I fp wr G n Pv St)
    (S : Addr) (out : S ∉ fp) (xs : List Str) (hn : n = xs.length) (low : n + 1 < scanBound) (hv : ∀ i v, Pv i v → ∃ x t, xs[i]? = some x ∧ v = .str x t) : ∀ (k i : Nat) (s : Shared), n - i = k → i ≤ n → St i s → TxtSet P w s.heap S (uniq (xs.take i)) →
      (∀ s', Moved (S :: wr) G s s' → TxtSet P w s'.heap S (uniq xs) → R (.ok (.ret .none)) s') → codeAny (model P w) A (.builtin "set.update.loop" ⟨[.ref S, .ref I], []⟩) R s := by
  have outW : S ∉ wr := fun h => out (W.sub _ h)
  have more : ∀ b ∈ wr, b ∈ S :: wr := fun b h => List.mem_cons_of_mem _ h
  intro k
  induction k with
  | zero =>
    intro i s e1 e2 st X fin
    obtain rfl : i = n := by omega
    refine codeAny_builtin PyProof.Rows.F.entry_set_update_loop ?_
    rw [Around.under_plainId PyProof.Rows.F.plain_set_update_loop _]
    show wpAny _ A.in1 (pyNext (.ref I) >>= _) _ _ s
    refine wpAny_bind (W.done s _ _ st fun s' mv => wpAny_pure (fin s' (mv.mono more) ?_))
    rw [hn, List.take_length] at X
    exact X.keep fun o e => mv.heap S o outW e
  | succ k ih =>
    intro i s e1 e2 st X fin
    have lt : i < n := by omega
    refine codeAny_builtin PyProof.Rows.F.entry_set_update_loop ?_
    rw [Around.under_plainId PyProof.Rows.F.plain_set_update_loop _]
    show wpAny _ A.in1 (pyNext (.ref I) >>= _) _ _ s
    refine wpAny_bind (W.item i s _ _ lt st fun v s1 pv st1 mv => ?_)
    obtain ⟨x, t, hx, rfl⟩ := hv i v pv
    have X1 := X.keep (h' := s1.heap) fun o e => mv.heap S o outW e
    show wpAny _ A.in1 (holding [Value.str x t] (setAdd S (.str x t)) >>= _) _ _ s1
    refine wpAny_bind (wpAny_holding ?_)
    unfold setAdd
    refine wpAny_holding (wpAny_bind ((PySem.strKind P w).pyHash (is_str x t) ?_))
    have few : (uniq (xs.take i)).length + 1 < scanBound := by
      have := uniq_len (xs.take i)
      rw [List.length_take] at this
      omega
    refine txt_add (s := { s1 with toks := s1.toks + 1 }) X1 few fun b h' oth X2 => ?_
    have e3 : (if x ∈ uniq (xs.take i) then uniq (xs.take i) else x :: uniq (xs.take i)) = uniq (xs.take (i + 1)) := by
      rw [List.take_add_one, hx]
      exact (uniq_snoc _ _).symm
    rw [e3] at X2
    refine wpAny_pure ⟨plainId_quiet PyProof.Rows.F.plain_set_update_loop _, ih (i + 1) _ (by omega) lt (W.frame (i + 1) s1 h' (s1.toks + 1) st1 (by omega) fun c hc o e => ?_) X2 fun s2 mv2 X3 => fin s2 (Moved.trans W.gtrans ((mv.mono more).then_heap (Nat.le_succ _) fun c o hc e => ?_) mv2) X3⟩
    · exact (oth c fun z => out (z ▸ hc)).trans e
    · exact (oth c fun z => hc (z ▸ List.mem_cons_self)).trans e
theorem perm_of_sup {α : Type} [DecidableEq α] {l ks : List α} (nd : l.Nodup) (sup : ∀ k ∈ l, k ∈ ks) (len : ks.length ≤ l.length) : l.Perm ks := by
  induction l generalizing ks with
  | nil =>
    cases ks with
    | nil => exact .nil
    | cons k ks => simp at len
  | cons x l ih =>
    obtain ⟨h1, h2⟩ := List.nodup_cons.mp nd
    have hx := sup x List.mem_cons_self
    have p : ks.Perm (x :: ks.erase x) := List.perm_cons_erase hx
    refine List.Perm.trans (.cons x (ih h2 (fun k hk => ?_) ?_)) p.symm
    · have q := p.mem_iff.mp (sup k (List.mem_cons_of_mem _ hk))
      rcases List.mem_cons.mp q with rfl | q
      · exact absurd hk h1
      · exact q
    · have q := p.length_eq
      simp only [List.length_cons] at q len
      omega
theorem strs_perm : ∀ {vs us : List Value} {xs : List Str}, StrsAre vs xs → vs.Perm us → ∃ ys, StrsAre us ys ∧ ys.Perm xs := by
  intro vs us xs h p
  induction p generalizing xs with
  | nil => exact ⟨xs, h, .refl _⟩
  | cons v _ ih =>
    cases h with
    | cons x t r =>
      obtain ⟨ys, h1, h2⟩ := ih r
      exact ⟨x :: ys, .cons x t h1, h2.cons x⟩
  | swap v u l =>
    cases h with
    | cons x t r =>
      cases r with
      | cons y t2 r => exact ⟨y :: x :: _, .cons y t2 (.cons x t r), .swap _ _ _⟩
  | trans _ _ ih1 ih2 =>
    obtain ⟨ys, h1, h2⟩ := ih1 h
    obtain ⟨zs, h3, h4⟩ := ih2 h1
    exact ⟨zs, h3, h4.trans h2⟩
theorem strs_get : ∀ {vs : List Value} {xs : List Str} {i : Nat} {v : Value}, StrsAre vs xs → vs[i]? = some v → ∃ x t, xs[i]? = some x ∧ v = .str x t
  | _, _, i, v, .nil, h => by simp at h
  | _, _, 0, v, .cons x t r, h => ⟨x, t, rfl, (Option.some.inj h).symm⟩
  | _, _, i + 1, v, .cons x t r, h => strs_get (i := i) r h
/-- the new set, empty -/
abbrev bare (w : World) : Obj := sObj "set" (#[], 0, .fresh 0 0 (!w.params.followText "set-order"))
set_option maxHeartbeats 3200000 in
/-- set(xs), xs a list of texts -/
theorem set_of_texts {l : Addr} {items : Array Value} {xs : List Str} {Q : Value → Shared → Prop} (calm : A.handled = none) (hl : s.heap.IsList l items) (hx : StrsAre items.toList xs) (low : xs.length + 1 < scanBound)
    (h : ∀ (h' : Heap) (tk : Nat), TxtSet P w h' s.heap.objs.size (uniq xs) → (∀ b o, s.heap.get? b = some o → h'.get? b = some o) → Q (.ref s.heap.objs.size) { s with heap := h', toks := tk }) : wpAny (model P w) A (call (.type "set") [.ref l]) Q E s := by
  have sz : items.size = xs.length := by
    have q := StrsAre.length hx
    rw [Array.length_toList] at q
    exact q
  obtain ⟨mc, mt, mro⟩ := PySem.F.called_set.mro
  have made := PySem.F.called_set.made
  have sub := PySem.F.called_set.sub
  have notT := PySem.F.called_set.notType
  have can := PySem.F.called_set.canCreate
  have chk := PySem.F.typeCall_set_1 (.ref l)
  refine wpAny_call (codeAny_of_tree (show wpAny _ _ (callAny (.type "set") _) _ _ _ from wpAny_pure ⟨Code.quiet_builtin _ (by decide +kernel), codeAny_builtin PySem.F.entry_type_call ?_⟩))
  rw [Around.under_plain (weight_type_call_type "set" [.ref l] []) rfl]
  repeat (any_goals (first | assumption | wp_step))
  let S := s.heap.objs.size
  let H1 := s.heap.push (bare w)
  refine codeAny_mono (L2.code_set_led1 (.ref l) (E := E) (Q₁ := fun v s1 => v = .ref S ∧ s1 = { s with heap := H1 }) ⟨rfl, rfl⟩) fun r s1 hr => ?_
  match r, hr with
  | .error e, hr => exact hr
  | .ok .next, hr => exact hr.elim
  | .ok .brk, hr => exact hr.elim
  | .ok .cont, hr => exact hr.elim
  | .ok (.ret v), ⟨e1, e2⟩ =>
    subst e1
    subst e2
    have there : H1.get? S = some (bare w) := Heap.get?_push_size _ rfl
    have ty : Shared.TypeIs { s with heap := H1 } (.ref S) "set" := ⟨_, there, rfl⟩
    have look := PySem.F.called_set.init.lookup
    have bnd := PySem.F.called_set.init.bind (.ref S)
    repeat (any_goals (first | assumption | wp_step))
    refine codeAny_mono (codeAny_call_builtin (R := wants (fun v s2 => v = .none ∧ ∃ h' tk, s2 = { s with heap := h', toks := tk } ∧ TxtSet P w h' S (uniq xs) ∧ ∀ b o, s.heap.get? b = some o → h'.get? b = some o) E)
      PySem.F.called_set.init.plain PySem.F.entry_set_init (check_set_init_1 ty ?_)) fun r2 s2 hr2 => ?_
    · obtain ⟨⟨kc, kd, kt, ks⟩, ol, c1, nl, c2⟩ := hl
      simp only at c1 c2
      subst c1
      subst c2
      have ol1 : H1.get? l = some { cls := .type "list", dict := kd, data := .seq items nl, slots := ks } := Heap.get?_push_of_some _ ol
      have l1 : H1.IsList l items := ⟨_, ol1, rfl, nl, rfl⟩
      have f1 := PySem.F.sub_list_set
      have f2 := PySem.F.sub_list_frozenset
      have f3 : (Value.type "list" == Value.type "dict") = false := by decide
      unfold Builtin.«set.__init__» noKeywords Builtin.Frozenset.updateFrom
      generalize hp : pyIter = PI
      wp_walk
      subst hp
      refine wpAny_pyIter_list l1 (wpAny_bind (wpAny_runValue ?_))
      have lS : l < S := Heap.lt_size ol
      have zz : H1.objs.size = S + 1 := size_push' _ _
      have calm3 : A.in1.in1.in1.handled = none := by simp [calm]
      have nI : l ≠ H1.objs.size := by rw [zz]; exact Nat.ne_of_lt (Nat.lt_succ_of_lt lS)
      have outS : S ∉ [H1.objs.size, l] := by
        rw [zz]
        intro z
        rcases List.mem_cons.mp z with z | z
        · exact absurd z (Nat.ne_of_lt (Nat.lt_succ_self _))
        · exact absurd (List.mem_singleton.mp z) (Nat.ne_of_gt lS)
      refine loop_txt (Walks.list calm3 _ l nI items).toS S outS xs sz (by rw [sz]; exact low) (fun i v pv => ?_) (items.size - 0) 0 _ (by omega) (Nat.zero_le _) ⟨⟨_, Heap.get?_push_size _ rfl, rfl, rfl⟩, l1.push _⟩ (txt_new (Heap.get?_push_of_some _ there)) (fun s' mv X => ?_)
      · have pv' : items.toList[i]? = some v := by rw [Array.getElem?_toList]; exact pv
        exact strs_get hx pv'
      · obtain ⟨h', g', d', tk', os'⟩ := s'
        obtain rfl : g' = s.gens := mv.gens
        obtain rfl : d' = s.drawn := mv.drawn
        obtain rfl : os' = s.os := mv.os
        show wpAny _ _ _ _ _ _
        refine wpAny_pure ?_
        show wpAny _ _ (ret Value.none) _ _ _
        refine wpAny_pure ⟨rfl, h', tk', rfl, X, fun b o e => ?_⟩
        have lb : b < S := Heap.lt_size e
        refine mv.heap b o (fun z => ?_) (Heap.get?_push_of_some _ (Heap.get?_push_of_some _ e))
        rcases List.mem_cons.mp z with z | z
        · exact absurd z (Nat.ne_of_lt lb)
        · have e2 := List.mem_singleton.mp z
          rw [zz] at e2
          exact absurd e2 (Nat.ne_of_lt (Nat.lt_succ_of_lt lb))
    · match r2, hr2 with
      | .error e, hr2 => exact hr2
      | .ok .next, hr2 => exact hr2.elim
      | .ok .brk, hr2 => exact hr2.elim
      | .ok .cont, hr2 => exact hr2.elim
      | .ok (.ret v), ⟨e1, h', tk, e2, X, old⟩ =>
        subst e1
        subst e2
        repeat (any_goals (first | assumption | wp_step))
        exact h _ _ X old
/-- what walks over the set brings, sorted -/
theorem sorted_txt {a : Addr} {l : List Str} {Q : Value → Shared → Prop} (R : TxtSet P w s.heap a l) (calm : A.handled = none) (low : l.length < 64)
    (h : ∀ s' p (out : Array Value) (c : Nat) (ys : List Str), (∀ b o, s.heap.get? b = some o → s'.heap.get? b = some o) → s'.gens = s.gens → s'.os = s.os → s.heap.objs.size ≤ p → s'.heap.get? p = some (seqObj "list" out c) → StrsAre out.toList ys → ys.Perm l → sortedS ys = true → Q (.ref p) s') :
    wpAny (model P w) A (call (.builtin "sorted") [.ref a]) Q E s := by
  obtain ⟨D, ho, F, rs, led, nd⟩ := R
  have sz : D.1.size = l.length := F.sz
  have few : D.1.size < scanBound := by unfold scanBound; omega
  -- the entries as texts
  have ent : ∃ ks : List Str, StrsAre (D.1.toList.map (·.2)) ks ∧ ks.Perm l := by
    have one : ∀ e ∈ D.1.toList, ∃ k t, e.2 = Value.str k t ∧ k ∈ l := fun e he => by
      obtain ⟨⟨k, hk, _⟩, _⟩ := F.el e he
      have hk2 : Value.isStrOf k e.2 = true := hk
      cases hv : e.2 with
      | str x t =>
        rw [hv] at hk2
        have e2 : x = k := by simpa [Value.isStrOf] using hk2
        exact ⟨x, t, rfl, (F.mem x).mpr ⟨e, he, by rw [e2]; exact hk⟩⟩
      | _ => rw [hv] at hk2; simp [Value.isStrOf] at hk2
    have mk : ∀ es : List (Int × Value), (∀ e ∈ es, ∃ k t, e.2 = Value.str k t ∧ k ∈ l) → ∃ ks : List Str, StrsAre (es.map (·.2)) ks ∧ ∀ k ∈ ks, k ∈ l := by
      intro es
      induction es with
      | nil => intro _; exact ⟨[], .nil, fun k hk => by cases hk⟩
      | cons e es ih =>
        intro he
        obtain ⟨k, t, e1, e2⟩ := he e List.mem_cons_self
        obtain ⟨ks, g1, g2⟩ := ih fun x hx => he x (List.mem_cons_of_mem _ hx)
        refine ⟨k :: ks, ?_, fun z hz => ?_⟩
        · rw [List.map_cons, e1]
          exact .cons k t g1
        · rcases List.mem_cons.mp hz with rfl | hz
          · exact e2
          · exact g2 z hz
    obtain ⟨ks, g1, g2⟩ := mk _ one
    refine ⟨ks, g1, ?_⟩
    have len : ks.length = l.length := by
      have q := StrsAre.length g1
      rw [List.length_map, Array.length_toList] at q
      omega
    -- each text of l is among them
    have sup : ∀ k ∈ l, k ∈ ks := fun k hk => by
      obtain ⟨e, he, hi⟩ := (F.mem k).mp hk
      obtain ⟨x, t, hx, _⟩ := one e he
      have e2 : x = k := by
        have q : Value.isStrOf k e.2 = true := hi
        rw [hx] at q
        simpa [Value.isStrOf] using q
      subst e2
      obtain ⟨i, hi2⟩ := List.getElem?_of_mem (List.mem_map.mpr ⟨e, he, rfl⟩ : e.2 ∈ D.1.toList.map (·.2))
      obtain ⟨y, u, hy, e3⟩ := strs_get g1 hi2
      rw [hx] at e3
      injection e3 with e3 _
      rw [e3]
      exact List.mem_of_getElem? hy
    exact (perm_of_sup nd sup (by omega)).symm
  obtain ⟨ks, g1, g2⟩ := ent
  refine Calls.call_function_entry kind_sorted plain_sorted entry_sorted (args_sorted1 _) ?_
  unfold Builtin.«sorted»
  refine wpAny_bind (m := checkCount "sorted" 1 1 _) (wpAny_pure (wpAny_bind (L2.collect_set (A := A.in1) (t := D.2.2) (ep := D.2.1) (es := D.1) calm ⟨_, ho, rfl, rfl⟩ F.fit few rs led fun s1 vs k1 hz g1' o1 pm => ?_)))
  obtain ⟨zs, z1, z2⟩ := strs_perm g1 pm.symm
  have vl : vs.length = l.length := by rw [StrsAre.length z1, z2.length_eq, g2.length_eq]
  refine wpAny_bind (wpAny_newList ?_ (by rw [vl, sizeLine_eq]; omega))
  have hoL : (s1.heap.push (seqObj "list" vs.toArray 0)).get? s1.heap.objs.size = some (seqObj "list" vs.toArray 0) := Heap.get?_push_size _ rfl
  refine wpAny_bind (wpAny_holding (wpAny_call_entry slot_list_sort ⟨_, hoL, rfl⟩ entry_list_sort (list_sort_treeK strKind_oneLt hoL z1.keysOf (fun v1 v2 rest e => keyKind_strs (by rw [← e]; exact z1)) (by rw [vl]; exact low) fun st hp hs => ⟨_, rfl, ?_⟩) (args_list_sort _)))
  obtain ⟨ys, y1, y2, y3⟩ := sorted_out_str z1 hp hs
  obtain ⟨c, hc⟩ := sortedHeap_at (vs := vs) (out := (arrOf st).map (·.2)) hoL
  refine wpAny_pure ⟨_, rfl, h _ s1.heap.objs.size _ c ys (fun b u e => ?_) g1' o1 hz hc y1 ((y2.trans z2).trans g2) y3⟩
  have q := k1 b u e
  have lt := Heap.lt_size q
  show (sortedHeap (s1.heap.push (seqObj "list" vs.toArray 0)) s1.heap.objs.size vs ((arrOf st).map (·.2))).get? b = some u
  rw [sortedHeap_old (Nat.ne_of_lt lt) (by rw [size_push']; exact Nat.lt_succ_of_lt lt)]
  exact Heap.get?_push_of_some _ q
end
end Pn

namespace Pn
open PySem L2
/-! ### sets of texts as rules: set(xs), len(s), sorted(s) -/
def SetX (P : Program) (w : World) (a : Addr) (l : List Str) : HO := .ext fun h => TxtSet P w h a l
section
variable {X : Cx}
theorem setX_new {w : World} {P : Program} {H : Hp} {h : Heap} {a : Addr} {l : List Str} (R : TxtSet P w h a l) : ObjOk P w H h a (SetX P w a l) := by
  have ⟨_, there, _⟩ := R
  exact ⟨R, ⟨_, there⟩, fun _ _ z keep => TxtSet.keep z keep⟩
theorem setX_get {pins : List (Addr × Obj)} {σ : L2.St} {H : Hp} {s : Shared} {a : Addr} {l : List Str} (I : Inv X pins σ H s) (ha : H a = some (SetX X.prog X.w a l)) : TxtSet X.prog X.w s.heap a l := (I.hok a _ ha).1
def rSetX (K : PySem.W.Frag) (P : Program) (w : World) : List V → Hp → VK → Prop := fun xs H Q => ∃ (l : Addr) (ss : List Str), xs = [.ref l] ∧ SqL K H l (ss.map V.str) ∧ ss.length < 4000 ∧ ∀ a, H a = none → Q (.ref a) (upd H a (SetX P w a (uniq ss)))
theorem cr_setX (hc : X.calm = true) : CallR X (.type "set") (rSetX X.K X.prog X.w) := by
  intro pins s σ H xs us Q I r h
  obtain ⟨l, ss, rfl, hl, low, q⟩ := h
  rw [Vals.ref1 r]
  obtain ⟨its, rv, pl, _⟩ := I.list hl
  refine set_of_texts (I.ok.hd hc) pl.isList (xs := ss) (by simpa using rv.strs) (by unfold scanBound; omega) fun h' tk R old => ?_
  exact ⟨.ref s.heap.objs.size, upd H s.heap.objs.size (SetX X.prog X.w s.heap.objs.size (uniq ss)), I.laid (t' := tk) old (Nat.le_refl _) (setX_new R), rfl, q _ (I.hok.fresh (Nat.le_refl _))⟩
def rLenX (P : Program) (w : World) : List V → Hp → VK → Prop := fun xs H Q => ∃ (a : Addr) (l : List Str), xs = [.ref a] ∧ H a = some (SetX P w a l) ∧ l.length ≤ 4000 ∧ Q (.int (l.length : Nat)) H
theorem cr_lenX : CallR X (.builtin "len") (rLenX X.prog X.w) := by
  intro pins s σ H xs us Q I r h
  obtain ⟨a, l, rfl, ha, low, q⟩ := h
  rw [Vals.ref1 r]
  obtain ⟨D, there, F, _⟩ := setX_get I ha
  have few : (D.1.size : Int) < 2 ^ 63 := by
    rw [show D.1.size = l.length from F.sz]
    omega
  refine call_len_set there ⟨rfl, rfl, rfl⟩ rfl F.fit few ?_
  rw [F.sz]
  exact ⟨.int (l.length : Nat), H, I.tok _, ⟨_, rfl⟩, q⟩
def rSortX (P : Program) (w : World) : List V → Hp → VK → Prop := fun xs H Q => ∃ (a : Addr) (l : List Str), xs = [.ref a] ∧ H a = some (SetX P w a l) ∧ l.length < 64 ∧ ∀ (ys : List Str) (p : Addr), ys.Perm l → PyProof.Rows.sortedS ys = true → H p = none → Q (.ref p) (upd H p (.lst (ys.map V.str)))
theorem cr_sortX (hc : X.calm = true) : CallR X (.builtin "sorted") (rSortX X.prog X.w) := by
  intro pins s σ H xs us Q I r h
  obtain ⟨a, l, rfl, ha, low, q⟩ := h
  rw [Vals.ref1 r]
  refine sorted_txt (setX_get I ha) (I.ok.hd hc) low fun s' p out c ys old sg so hp there ys1 ys2 ys3 => ?_
  have free : H p = none := I.hok.fresh hp
  have size : (ys.map V.str).length ≤ sizeLine := by rw [List.length_map, ys2.length_eq]; exact small64 low
  have J : Inv X pins σ (upd H p (.lst (ys.map V.str))) { s with heap := s'.heap, gens := s'.gens, drawn := s'.drawn, toks := s'.toks } :=
    I.call (ch := []) (Un.laid old hp free) (I.hok.laid old hp ⟨size, out.toList, c, vals_of_strs ys1, there⟩) (by rw [sg]; exact I.bare) (fun _ z => nomatch z)
  have same : s' = { s with heap := s'.heap, gens := s'.gens, drawn := s'.drawn, toks := s'.toks } := by
    obtain ⟨_, _, _, _, _⟩ := s'
    obtain ⟨_, _, _, _, _⟩ := s
    cases so
    rfl
  rw [same]
  exact ⟨.ref p, _, J, rfl, q ys p ys2 ys3 free⟩
end
end Pn

namespace Pn
open PySem L2 TL
/-! ### books: what is asked of counters and parts, and the unrolled text -/
def putsOf (rs : List RowD) : List Str := rs.filterMap fun r => match r with | .put z => some z | _ => none
theorem mem_puts {rs : List RowD} {z : Str} : z ∈ putsOf rs ↔ RowD.put z ∈ rs := by
  unfold putsOf
  rw [List.mem_filterMap]
  constructor
  · rintro ⟨r, hr, e⟩
    cases r with
    | put y => rw [← Option.some.inj e]; exact hr
    | _ => cases e
  · intro h
    exact ⟨_, h, rfl⟩
/-- the counter of a row that counts -/
def cntOf : RowD → Option Str
  | .note c _ => some c
  | .skip c _ => some c
  | .set c _ => some c
  | .keep c => some c
  | .back c => some c
  | _ => none
def refOf : RowD → Option Str
  | .ref l => some l
  | _ => none
/-- a note's label, an empty one too -/
def labOf : RowD → Option Str
  | .note _ l => some l
  | _ => none
/-- each puts only earlier ones -/
def Earlier (bk : List PartD) : Prop := ∀ (i : Nat) (p : PartD), bk[i]? = some p → ∀ z, RowD.put z ∈ p.2 → z ∈ (bk.take i).map (·.1)
structure CsOk (cs : List (Str × Str)) : Prop where
  nm : ∀ c ∈ cs, nameS c.1 = true
  nd : (cs.map (·.1)).Nodup
  up : TreeOk cs
  len : cs.length ≤ 100
structure BookV (cs : List (Str × Str)) (bk : List PartD) : Prop where
  c : CsOk cs
  b0 : bk ≠ []
  nd : (bk.map (·.1)).Nodup
  len : bk.length ≤ 50
  rows : ∀ p ∈ bk, partOk p.1 p.2
  cnt : ∀ p ∈ bk, ∀ r ∈ p.2, ∀ c, cntOf r = some c → c ∈ cs.map (·.1)
  puts : Earlier bk
  small : ∀ z rs, (z, rs) ∈ knowns bk → rs.length ≤ 4000
  refs : ∀ l, RowD.ref l ∈ unrolled bk → ∃ c, RowD.note c l ∈ unrolled bk
theorem puts_earlier {bk : List PartD} (h : PutsOk bk) : Earlier bk := fun i p hp => (h i p hp).2
/-- none puts itself or one behind it -/
def NoLater : List PartD → Prop
  | [] => True
  | p :: rest => (∀ z, RowD.put z ∈ p.2 → z ∉ (p :: rest).map (·.1)) ∧ NoLater rest
theorem no_later {bk : List PartD} (nd : (bk.map (·.1)).Nodup) (e : Earlier bk) : NoLater bk := by
  have key : ∀ (l pre : List PartD), bk = pre ++ l → NoLater l := by
    intro l
    induction l with
    | nil => intro pre _; trivial
    | cons p rest ih =>
      intro pre hb
      refine ⟨fun z hz hm => ?_, ih (pre ++ [p]) (by rw [hb]; simp)⟩
      have h1 := e pre.length p (by rw [hb]; simp) z hz
      rw [hb, List.take_left' rfl] at h1
      rw [hb, List.map_append] at nd
      exact (List.nodup_append.mp nd).2.2 _ h1 _ hm rfl
  exact key bk [] rfl
def reachStep (p : PartD) (ns : List Str) : List Str := if p.1 ∈ ns then ns ++ putsOf p.2 else ns
def reach (l : List PartD) (ns : List Str) : List Str := l.foldr reachStep ns
theorem reach_sub {l : List PartD} {ns : List Str} : ∀ z ∈ ns, z ∈ reach l ns := by
  induction l with
  | nil => intro z h; exact h
  | cons p l ih =>
    intro z h
    show z ∈ reachStep p (reach l ns)
    unfold reachStep
    split
    · exact List.mem_append_left _ (ih z h)
    · exact ih z h
theorem reach_closed {l : List PartD} {ns : List Str} (nl : NoLater l) : ∀ p ∈ l, p.1 ∈ reach l ns → ∀ z, RowD.put z ∈ p.2 → z ∈ reach l ns := by
  induction l with
  | nil => intro p h; cases h
  | cons q l ih =>
    intro p hp hin z hz
    have hin : p.1 ∈ reachStep q (reach l ns) := hin
    show z ∈ reachStep q (reach l ns)
    unfold reachStep at hin ⊢
    rcases List.mem_cons.mp hp with rfl | hp
    · by_cases c : p.1 ∈ reach l ns
      · rw [if_pos c]
        exact List.mem_append_right _ (mem_puts.mpr hz)
      · rw [if_neg c] at hin
        exact absurd hin c
    · have hM : p.1 ∈ reach l ns := by
        by_cases c : q.1 ∈ reach l ns
        · rw [if_pos c] at hin
          rcases List.mem_append.mp hin with h | h
          · exact h
          · exact absurd (List.mem_map.mpr ⟨p, List.mem_cons_of_mem _ hp, rfl⟩) (nl.1 p.1 (mem_puts.mp h))
        · rw [if_neg c] at hin
          exact hin
      have q2 := ih nl.2 p hp hM z hz
      split
      · exact List.mem_append_left _ q2
      · exact q2
/-- the parts that are unrolled, with their unrolled rows -/
def lastName (bk : List PartD) : Str := (bk.getLast?.map (·.1)).getD ""
def reached (bk : List PartD) : List Str := reach bk [lastName bk]
theorem knowns_in {bk : List PartD} {i : Nat} {p : PartD} (hp : bk[i]? = some p) : (p.1, unrollIn (knowns (bk.take i)) p.2) ∈ knowns (bk.take (i + 1)) := by
  rw [List.take_add_one, hp]
  show _ ∈ knowns (bk.take i ++ [p])
  rw [knowns_snoc]
  exact List.mem_cons_self
theorem knowns_mono {bk : List PartD} {i : Nat} : ∀ x ∈ knowns (bk.take i), x ∈ knowns bk := by
  have key : ∀ (l pre : List PartD), ∀ x ∈ knowns pre, x ∈ knowns (pre ++ l) := by
    intro l
    induction l with
    | nil => intro pre x h; rw [List.append_nil]; exact h
    | cons p l ih =>
      intro pre x h
      have e : pre ++ p :: l = (pre ++ [p]) ++ l := by simp
      rw [e]
      refine ih _ x ?_
      rw [knowns_snoc]
      exact List.mem_cons_of_mem _ h
  intro x h
  have e : bk = bk.take i ++ bk.drop i := (List.take_append_drop i bk).symm
  rw [e]
  exact key _ _ x (by simpa using h)
end Pn

namespace Pn
open PySem L2 TL
/-! ### drawn books -/
theorem cut_to (xs : List V) {k : Nat} (h : k ≤ xs.length) : cutV xs none (some (k : Int)) = xs.take k := by
  unfold cutV
  rw [HT.sIx_none, HT.sIx_nat]
  simp [Nat.min_eq_left h]
theorem cut_from (xs : List V) {k : Nat} (h : k ≤ xs.length) : cutV xs (some (k : Int)) none = xs.drop k := by
  unfold cutV
  rw [HT.sIx_none, HT.sIx_nat, Nat.min_eq_left h]
  exact List.take_of_length_le (by rw [List.length_drop]; omega)
theorem cut_last (xs : List V) : cutV xs none (some (-1)) = xs.dropLast := by
  unfold cutV
  rw [HT.sIx_none, List.dropLast_eq_take]
  have e : HT.sIx xs.length xs.length (some (-1)) = xs.length - 1 := by
    show (if (-1 : Int) < 0 then ((-1 : Int) + (xs.length : Int)).toNat else min (-1 : Int).toNat xs.length) = _
    rw [if_pos (by decide)]
    omega
  rw [e]
  rfl
def labelOf : RowD → Option Str
  | .note _ l => if l = "" then none else some l
  | _ => none
def labelsOf (rs : List RowD) : List Str := rs.filterMap labelOf
/-- what a row of a drawn book is -/
def RowIn (d : Pool) (cs : List (Str × Str)) (bk : List PartD) (r : RowD) : Prop := rowFine d cs (bk.map (·.1)) r ∨ ∃ l, r = .ref l ∧ l ∈ labelsOf (unrolled bk) ∧ nameS l = true
structure BookOk (d : Pool) (cs : List (Str × Str)) (bk : List PartD) : Prop where
  hd : d ∈ poolsD
  c0 : 0 < cs.length
  c3 : cs.length ≤ 3
  cn : cs.map (·.1) = d.c.take cs.length
  ct : TreeOk cs
  b0 : bk ≠ []
  b3 : bk.length ≤ 3
  bn : bk.map (·.1) = d.p.take bk.length
  puts : PutsOk bk
  rows : ∀ p ∈ bk, ∀ r ∈ p.2, RowIn d cs bk r
theorem paired_take {α β : Type} {R : α → β → Prop} : ∀ (k : Nat) {l : List α} {m : List β}, Paired R l m → Paired R (l.take k) (m.take k)
  | 0, _, _, _ => .nil
  | _ + 1, _, _, .nil => .nil
  | k + 1, _, _, .cons a b => .cons a (paired_take k b)
theorem paired_drop {α β : Type} {R : α → β → Prop} : ∀ (k : Nat) {l : List α} {m : List β}, Paired R l m → Paired R (l.drop k) (m.drop k)
  | 0, _, _, h => h
  | _ + 1, _, _, .nil => .nil
  | k + 1, _, _, .cons _ b => paired_drop k b
theorem paired_init {α β : Type} {R : α → β → Prop} {l : List α} {m : List β} {x : α} {y : β} (h : l.length = m.length) (p : Paired R (l ++ [x]) (m ++ [y])) : Paired R l m := by
  have q := paired_take l.length p
  rw [List.take_left' rfl, h, List.take_left' rfl] at q
  exact q
theorem hid_same {A B : Hp} (s : Same A B) (p : Addr) : Same (hid A p) (hid B p) := fun a o e => by
  unfold hid at e ⊢
  by_cases h : a = p
  · rw [if_pos h] at e; cases e
  · rw [if_neg h] at e ⊢
    exact s a o e
/-- the heap but for two places -/
def zz (H : Hp) (b p : Addr) : Hp := hid (hid H b) p
theorem zz_sub {H : Hp} {b p : Addr} : Same (zz H b p) H := fun a o e => hid_sub a o (hid_sub a o e)
theorem zz_hid {H : Hp} {b p : Addr} : Same (zz H b p) (hid H b) := fun a o e => hid_sub a o e
theorem zz_kp {H H' : Hp} {b p : Addr} (k : Kp b H H') : Same (zz H b p) (zz H' b p) := hid_same (hid_kp k) p
theorem zz_same {H H' : Hp} {b p : Addr} (s : Same H H') : Same (zz H b p) (zz H' b p) := hid_same (hid_same s b) p
theorem zz_new {H : Hp} {b p : Addr} {o : HO} (h : H p = none) : Same (hid H b) (zz (upd H p o) b p) := fun a u e => by
  have n : a ≠ p := fun z => by
    rw [z] at e
    have := hid_sub _ _ e
    rw [h] at this
    cases this
  show hid (hid (upd H p o) b) p a = some u
  refine hid_get ?_ n
  unfold hid at e ⊢
  by_cases hb : a = b
  · rw [if_pos hb] at e; cases e
  · rw [if_neg hb] at e ⊢
    rw [upd_ne n]
    exact e
theorem zz_put {H : Hp} {b p : Addr} {o : HO} : Same (zz H b p) (zz (upd H p o) b p) := fun a u e => by
  unfold zz hid at e ⊢
  by_cases h : a = p
  · rw [if_pos h] at e; cases e
  · rw [if_neg h] at e ⊢
    by_cases hb : a = b
    · rw [if_pos hb] at e; cases e
    · rw [if_neg hb] at e ⊢
      rw [upd_ne h]
      exact e
theorem Kp.updn {b p : Addr} {H H1 : Hp} {o : HO} (h : Kp b H H1) (hp : H p = none) : Kp b H (upd H1 p o) := fun a u e n => by
  rw [upd_ne (ne_of_none e hp)]
  exact h a u e n
theorem BoxAt.upd {b p : Addr} {H : Hp} {o : HO} (h : BoxAt H b) (n : p ≠ b) : BoxAt (L2.upd H p o) b := by
  obtain ⟨x, y, e, g⟩ := h
  exact ⟨x, y, e, by rw [upd_ne n.symm]; exact g⟩
theorem zz_get {H : Hp} {b p a : Addr} {o : HO} (h : H a = some o) (n : a ≠ b) (m : a ≠ p) : zz H b p a = some o := hid_get (hid_get h n) m
theorem PutsOk.snoc {bk : List PartD} {p : PartD} (h : PutsOk bk) (hl : p.2.length ≤ 6) (hp : ∀ z, RowD.put z ∈ p.2 → z ∈ bk.map (·.1)) : PutsOk (bk ++ [p]) := fun i q e => by
  by_cases hi : i < bk.length
  · rw [List.getElem?_append_left hi] at e
    obtain ⟨h1, h2⟩ := h i q e
    refine ⟨h1, fun z hz => ?_⟩
    rw [List.take_append_of_le_length (by omega)]
    exact h2 z hz
  · have hi2 : i = bk.length := by
      have := (List.getElem?_eq_some_iff.mp e).1
      simp at this
      omega
    subst hi2
    have e2 : p = q := by simpa using e
    subst e2
    refine ⟨hl, fun z hz => ?_⟩
    rw [List.take_left']
    · exact hp z hz
    · rfl
theorem fine_more {d : Pool} {cs : List (Str × Str)} {l m : List Str} (h : ∀ x ∈ l, x ∈ m) : ∀ {r : RowD}, rowFine d cs l r → rowFine d cs m r
  | .note _ _, f => f
  | .skip _ _, f => f
  | .set _ _, f => f
  | .keep _, f => f
  | .back _, f => f
  | .ref _, f => f
  | .put _, f => h _ f
  | .opn _, f => f
/-- the parts drawn so far -/
structure BkOk (d : Pool) (cs : List (Str × Str)) (i : Nat) (bk : List PartD) : Prop where
  n : bk.length = i
  nm : bk.map (·.1) = d.p.take i
  puts : PutsOk bk
  rows : ∀ p ∈ bk, p.2.length ≤ 5 ∧ ∀ r ∈ p.2, rowFine d cs (bk.map (·.1)) r
theorem fine_puts {d : Pool} {cs : List (Str × Str)} {l : List Str} {rs : List RowD} (h : ∀ r ∈ rs, rowFine d cs l r) : ∀ z, RowD.put z ∈ rs → z ∈ l := fun z hz => h _ hz
theorem lookup_mem {kn : List PartD} {z : Str} {ys : List RowD} (h : kn.lookup z = some ys) : (z, ys) ∈ kn := by
  induction kn with
  | nil => cases h
  | cons a kn ih =>
    obtain ⟨y, rs⟩ := a
    rw [List.lookup_cons] at h
    by_cases e : z = y
    · subst e
      rw [beq_self_eq_true] at h
      have := Option.some.inj h
      subst this
      exact List.mem_cons_self
    · rw [show (z == y) = false from by simpa using e] at h
      exact List.mem_cons_of_mem _ (ih h)
theorem expand_all {G : RowD → Prop} {kn : List PartD} (h : ∀ z rs, (z, rs) ∈ kn → ∀ r ∈ rs, G r) {rs : List RowD} (g : ∀ r ∈ rs, G r) : ∀ r ∈ unrollIn kn rs, G r := fun r hr => by
  obtain ⟨x, hx, hr⟩ := List.mem_flatMap.mp hr
  have gx := g x hx
  cases x with
  | put z =>
    cases hl : kn.lookup z with
    | none =>
      have e : expand kn (.put z) = [] := by show (List.lookup z kn).getD [] = []; rw [hl]; rfl
      rw [e] at hr
      cases hr
    | some ys =>
      have e : expand kn (.put z) = ys := by show (List.lookup z kn).getD [] = ys; rw [hl]; rfl
      rw [e] at hr
      exact h z ys (lookup_mem hl) r hr
  | _ => rw [List.mem_singleton.mp hr]; exact gx
theorem knowns_all {G : RowD → Prop} {bk : List PartD} (h : ∀ p ∈ bk, ∀ r ∈ p.2, G r) : ∀ z rs, (z, rs) ∈ knowns bk → ∀ r ∈ rs, G r := by
  have key : ∀ (l : List PartD) (kn : List PartD), (∀ z rs, (z, rs) ∈ kn → ∀ r ∈ rs, G r) → (∀ p ∈ l, ∀ r ∈ p.2, G r) → ∀ z rs, (z, rs) ∈ l.foldl (fun kn p => (p.1, unrollIn kn p.2) :: kn) kn → ∀ r ∈ rs, G r := by
    intro l
    induction l with
    | nil => intro kn hk _; exact hk
    | cons p l ih =>
      intro kn hk hl
      rw [List.foldl_cons]
      refine ih _ (fun z rs hz => ?_) (fun q hq => hl q (List.mem_cons_of_mem _ hq))
      rcases List.mem_cons.mp hz with e | hz
      · injection e with e1 e2
        subst e2
        exact expand_all hk (hl p List.mem_cons_self)
      · exact hk z rs hz
  exact key bk [] (fun z rs hz => by cases hz) h
theorem unrolled_snoc (bi : List PartD) (p : PartD) : unrolled (bi ++ [p]) = unrollIn (knowns bi) p.2 := by
  unfold unrolled
  rw [knowns_snoc]
  rfl
theorem unrolled_all {G : RowD → Prop} {bk : List PartD} (h : ∀ p ∈ bk, ∀ r ∈ p.2, G r) : ∀ r ∈ unrolled bk, G r := by
  intro r hr
  unfold unrolled at hr
  cases hk : knowns bk with
  | nil => rw [hk] at hr; cases hr
  | cons a l =>
    rw [hk] at hr
    exact knowns_all h a.1 a.2 (by rw [hk]; exact List.mem_cons_self) r hr
theorem labels_of {rs : List RowD} {l : Str} (h : l ∈ labelsOf rs) : ∃ c, RowD.note c l ∈ rs ∧ l ≠ "" := by
  obtain ⟨r, hr, e⟩ := List.mem_filterMap.mp h
  cases r with
  | note c z =>
    have e : (if z = "" then none else some z) = some l := e
    by_cases hz : z = ""
    · rw [if_pos hz] at e; cases e
    · rw [if_neg hz] at e
      have := Option.some.inj e
      subst this
      exact ⟨c, hr, hz⟩
  | _ => cases e
theorem labels_fine {d : Pool} {cs : List (Str × Str)} {bk : List PartD} (fl : d.Fine) (h : ∀ p ∈ bk, ∀ r ∈ p.2, rowFine d cs (bk.map (·.1)) r) : ∀ l ∈ labelsOf (unrolled bk), nameS l = true := fun l hl => by
  obtain ⟨c, hr, hn⟩ := labels_of hl
  have q := (unrolled_all h _ hr).2
  rcases q with e | e
  · exact absurd e hn
  · exact fl.names l (by simp [e])
/-- a drawn book with one reference put into its text -/
def withRef (p : PartD) (k : Nat) (l : Str) : PartD := (p.1, p.2.take k ++ [RowD.ref l] ++ p.2.drop k)
theorem with_ref {d : Pool} {cs : List (Str × Str)} {bi : List PartD} {p : PartD} {i k : Nat} {l : Str} (fl : d.Fine) (ok : BkOk d cs i (bi ++ [p])) (hi : i ≤ 3) (hd : d ∈ poolsD) (c0 : 0 < cs.length) (c3 : cs.length ≤ 3) (cn : cs.map (·.1) = d.c.take cs.length) (ct : TreeOk cs)
    (hl : l ∈ labelsOf (unrolled (bi ++ [p]))) : BookOk d cs (bi ++ [withRef p k l]) := by
  have hn : (bi ++ [withRef p k l]).map (·.1) = (bi ++ [p]).map (·.1) := by rw [List.map_append, List.map_append]; rfl
  have hlen : (bi ++ [withRef p k l]).length = i := by rw [← ok.n]; simp
  have hmem : ∀ r ∈ (withRef p k l).2, r ∈ p.2 ∨ r = .ref l := fun r hr => by
    rcases List.mem_append.mp hr with hr | hr
    · rcases List.mem_append.mp hr with hr | hr
      · exact .inl (List.mem_of_mem_take hr)
      · exact .inr (List.mem_singleton.mp hr)
    · exact .inl (List.mem_of_mem_drop hr)
  have hl2 : l ∈ labelsOf (unrolled (bi ++ [withRef p k l])) := by
    rw [unrolled_snoc] at hl ⊢
    have e : p.2 = p.2.take k ++ p.2.drop k := (List.take_append_drop k p.2).symm
    unfold labelsOf unrollIn at hl ⊢
    rw [e, List.flatMap_append, List.filterMap_append] at hl
    show l ∈ List.filterMap labelOf (List.flatMap (expand (knowns bi)) (p.2.take k ++ [RowD.ref l] ++ p.2.drop k))
    rw [List.flatMap_append, List.flatMap_append, List.filterMap_append, List.filterMap_append]
    rcases List.mem_append.mp hl with h | h
    · exact List.mem_append_left _ (List.mem_append_left _ h)
    · exact List.mem_append_right _ h
  have pbi : PutsOk bi := fun j q e => by
    have hj := (List.getElem?_eq_some_iff.mp e).1
    have := ok.puts j q (by rw [List.getElem?_append_left hj]; exact e)
    rw [List.take_append_of_le_length (by omega)] at this
    exact this
  have pp := ok.puts bi.length p (by simp)
  rw [List.take_left' rfl] at pp
  have hp5 := (ok.rows p (by simp)).1
  refine ⟨hd, c0, c3, cn, ct, by simp, by omega, by rw [hn, hlen]; exact ok.nm, pbi.snoc ?_ (fun z hz => ?_), fun q hq r hr => ?_⟩
  · show (p.2.take k ++ [RowD.ref l] ++ p.2.drop k).length ≤ 6
    rw [List.length_append, List.length_append, List.length_take, List.length_drop]
    show min k p.2.length + 1 + (p.2.length - k) ≤ 6
    omega
  · rcases hmem _ hz with h | h
    · exact pp.2 z h
    · cases h
  · rcases List.mem_append.mp hq with hq | hq
    · exact .inl (by rw [hn]; exact (ok.rows q (List.mem_append_left _ hq)).2 r hr)
    · rw [List.mem_singleton.mp hq] at hr
      rcases hmem r hr with h | h
      · exact .inl (by rw [hn]; exact (ok.rows p (by simp)).2 r h)
      · exact .inr ⟨l, h, hl2, labels_fine fl (fun q hq => (ok.rows q hq).2) l hl⟩
section
variable {P : Program} {w : World} {K : PySem.W.Frag} {mg : Str → Option Value} {base : Heap}
def spBook : Sp := fun vs H Q _ => ∃ (b : Addr) (m : Int), vs = [.ref b, .int m] ∧ BoxAt H b ∧
  ∀ (t c pl : Addr) (d : Pool) (cs : List (Str × Str)) (bk : List PartD) (H' : Hp), BookOk d cs bk → Kp b H H' → BoxAt H' b → hid H' b t = some (.tup [.ref c, .ref pl]) → CsAt (hid H' b) c cs → PartsAt (hid H' b) pl bk → Q (.ref t) H'
end
end Pn

namespace Pn
open PySem L2
/-! ### comprehensions that keep what stands: what each turn puts out -/
section
variable {K : PySem.W.Frag} {tl : TE} {g : TG} {tt : TT} {te : TE} {vs : List Nat} {σ : L2.St} {H : Hp} {Q : VK} {p : Addr} {xs : List V}
/-- one turn of a comprehension that puts out what out says -/
def LcTurn (xs : List V) (H : Hp) (g : TG) (tt : TT) (te : TE) (vs : List Nat) (σ : L2.St) (out : Nat → Option V) : Prop :=
  ∀ (i : Nat) (x : V) (Hi : Hp) (S : Hp → Prop) (Y : VK), xs[i]? = some x → Same H Hi → (out i = none → ∀ H', Same Hi H' → S H') → (∀ v, out i = some v → ∀ H', Same Hi H' → Y v H') →
    g x (wipe σ vs) Hi fun σ2 H2 => wipe σ2 vs = wipe σ vs ∧ tt σ2 H2 fun b H3 => if b = true then te σ2 H3 Y else S H3
theorem range_out (out : Nat → Option V) (i : Nat) : (List.range (i + 1)).filterMap out = (List.range i).filterMap out ++ (match out i with | none => [] | some v => [v]) := by
  rw [List.range_succ, List.filterMap_append]
  cases h : out i with
  | none => simp [h]
  | some v => simp [h]
theorem lc_keep (hl : xs.length ≤ 10000) {out : Nat → Option V} (turn : LcTurn xs H g tt te vs σ out) {D : Addr} (hD : H D = none) (i : Nat) (x : V) (Hi : Hp) (hx : xs[i]? = some x) (hP : Same H Hi ∧ Hi D = some (.lst ((List.range i).filterMap out))) :
    g x (wipe σ vs) Hi fun σ2 H2 => wipe σ2 vs = wipe σ vs ∧ tt σ2 H2 fun b H3 =>
      if b = true then te σ2 H3 fun y H4 => ∃ acc, H4 D = some (.lst acc) ∧ acc.length < sizeLine ∧ (Same H (upd H4 D (.lst (acc ++ [y]))) ∧ upd H4 D (.lst (acc ++ [y])) D = some (.lst ((List.range (i + 1)).filterMap out)))
      else (Same H H3 ∧ H3 D = some (.lst ((List.range (i + 1)).filterMap out))) := by
  obtain ⟨s, hd⟩ := hP
  have hi : i < xs.length := (List.getElem?_eq_some_iff.mp hx).1
  refine turn i x Hi (fun H3 => Same H H3 ∧ H3 D = some (.lst ((List.range (i + 1)).filterMap out))) _ hx s (fun h0 H' s' => ⟨s.trans s', ?_⟩) (fun v hv H' s' => ⟨_, s' _ _ hd, ?_, ?_, ?_⟩)
  · rw [range_out, h0, List.append_nil]
    exact s' _ _ hd
  · have h1 : ((List.range i).filterMap out).length ≤ (List.range i).length := List.length_filterMap_le _ _
    rw [List.length_range] at h1
    have h2 : (10001 : Nat) ≤ sizeLine := by decide
    omega
  · exact fun a o e => by
      rw [upd_ne (ne_of_none e hD)]
      exact s' _ _ (s _ _ e)
  · rw [upd_same, range_out, hv]
theorem lcw_list (h0 : ∀ R : VK, R (.ref p) H → tl σ H R) (hp : SqL K H p xs) (hl : xs.length ≤ 10000) {out : Nat → Option V} (turn : LcTurn xs H g tt te vs σ out)
    (fin : ∀ (D : Addr) (H' : Hp), H D = none → Same H H' → H' D = some (.lst ((List.range xs.length).filterMap out)) → Q (.ref D) H') : tLc (iList K tl) g tt te vs σ H Q :=
  h0 _ ⟨p, rfl, ⟨_, hp⟩, fun D hD => lc_list (xs := xs) (fun i Hi => Same H Hi ∧ Hi D = some (.lst ((List.range i).filterMap out))) ⟨Same.new hD, upd_same⟩ (fun _ _ _ hP => hP.1.seq hp) (lc_keep hl turn hD) (fun Hi hP => fin D Hi hD hP.1 hP.2)⟩
theorem lcw_tup (h0 : ∀ R : VK, R (.ref p) H → tl σ H R) (hp : SqT K H p xs) (hl : xs.length ≤ 10000) {out : Nat → Option V} (turn : LcTurn xs H g tt te vs σ out)
    (fin : ∀ (D : Addr) (H' : Hp), H D = none → Same H H' → H' D = some (.lst ((List.range xs.length).filterMap out)) → Q (.ref D) H') : tLc (iTup K tl) g tt te vs σ H Q :=
  h0 _ ⟨p, rfl, ⟨_, hp⟩, fun D hD => lc_tup (xs := xs) (fun i Hi => Same H Hi ∧ Hi D = some (.lst ((List.range i).filterMap out))) ⟨Same.new hD, upd_same⟩ (fun _ _ _ hP => Same.sqt hP.1 hp) (lc_keep hl turn hD) (fun Hi hP => fin D Hi hD hP.1 hP.2)⟩
theorem lcw_seq (h0 : ∀ R : VK, R (.ref p) H → tl σ H R) (hp : SqL K H p xs ∨ SqT K H p xs) (hl : xs.length ≤ 10000) {out : Nat → Option V} (turn : LcTurn xs H g tt te vs σ out)
    (fin : ∀ (D : Addr) (H' : Hp), H D = none → Same H H' → H' D = some (.lst ((List.range xs.length).filterMap out)) → Q (.ref D) H') : tLc (iSeq K tl) g tt te vs σ H Q :=
  hp.elim (fun h => .inl (lcw_list h0 h hl turn fin)) (fun h => .inr (lcw_tup h0 h hl turn fin))
/-- what is put out, by a list beside -/
theorem out_map {α β : Type} {l : List α} {f : α → β} : (List.range l.length).filterMap (fun i => (l[i]?).map f) = l.map f := by
  induction l with
  | nil => rfl
  | cons a l ih =>
    rw [List.length_cons, List.range_succ_eq_map, List.filterMap_cons]
    simp only [List.getElem?_cons_zero, Option.map_some, List.filterMap_map, List.map_cons]
    congr 1
theorem out_filter {α β : Type} {l : List α} {f : α → Option β} : (List.range l.length).filterMap (fun i => (l[i]?).bind f) = l.filterMap f := by
  induction l with
  | nil => rfl
  | cons a l ih =>
    have e : (List.range l.length).filterMap ((fun i => ((a :: l)[i]?).bind f) ∘ Nat.succ) = l.filterMap f := by
      rw [← ih]
      rfl
    rw [List.length_cons, List.range_succ_eq_map, List.filterMap_cons, List.filterMap_map, e, List.filterMap_cons]
    rfl
/-- one turn of a walk whose body goes on with Pv -/
def ForTurn (xs : List V) (g : TG) (tb : TS) (D : Ends) (Pv : Nat → L2.St → Hp → Prop) : Prop :=
  ∀ (i : Nat) (x : V) (σ : L2.St) (H : Hp), xs[i]? = some x → Pv i σ H → g x σ H fun σ2 H2 => tb { D with nx := Pv (i + 1), ct := Pv (i + 1), bk := D.nx } σ2 H2
theorem forw_list {tb : TS} {D : Ends} (h0 : ∀ R : VK, R (.ref p) H → tl σ H R) (hp : SqL K H p xs) (Pv : Nat → L2.St → Hp → Prop) (P0 : Pv 0 σ H) (hl : ∀ i σ' H', Pv i σ' H' → SqL K H' p xs) (turn : ForTurn xs g tb D Pv)
    (fin : ∀ σ' H', Pv xs.length σ' H' → D.nx σ' H') : tFor (iList K tl) g tb D σ H :=
  h0 _ ⟨p, rfl, ⟨_, hp⟩, for_list (xs := xs) Pv P0 (fun i σ' H' _ hP => hl i σ' H' hP) turn fin⟩
theorem forw_tup {tb : TS} {D : Ends} (h0 : ∀ R : VK, R (.ref p) H → tl σ H R) (hp : SqT K H p xs) (Pv : Nat → L2.St → Hp → Prop) (P0 : Pv 0 σ H) (hl : ∀ i σ' H', Pv i σ' H' → SqT K H' p xs) (turn : ForTurn xs g tb D Pv)
    (fin : ∀ σ' H', Pv xs.length σ' H' → D.nx σ' H') : tFor (iTup K tl) g tb D σ H :=
  h0 _ ⟨p, rfl, ⟨_, hp⟩, for_tup (xs := xs) Pv P0 (fun i σ' H' _ hP => hl i σ' H' hP) turn fin⟩
theorem forw_seq {tb : TS} {D : Ends} {H0 : Hp} (h0 : ∀ R : VK, R (.ref p) H → tl σ H R) (hp : SqL K H0 p xs ∨ SqT K H0 p xs) (Pv : Nat → L2.St → Hp → Prop) (P0 : Pv 0 σ H) (hl : ∀ i σ' H', Pv i σ' H' → Same H0 H') (turn : ForTurn xs g tb D Pv)
    (fin : ∀ σ' H', Pv xs.length σ' H' → D.nx σ' H') : tFor (iSeq K tl) g tb D σ H :=
  hp.elim (fun h => .inl (forw_list h0 ((hl 0 σ H P0).seq h) Pv P0 (fun i σ' H' hP => (hl i σ' H' hP).seq h) turn fin)) (fun h => .inr (forw_tup h0 (Same.sqt (hl 0 σ H P0) h) Pv P0 (fun i σ' H' hP => Same.sqt (hl i σ' H' hP) h) turn fin))
theorem keep_seq {K : PySem.W.Frag} {H H' : Hp} {p : Addr} {xs : List V} (s : Same H H') : (SqL K H p xs → SqL K H' p xs) ∧ (SqT K H p xs → SqT K H' p xs) := ⟨fun h => s.seq h, fun h => Same.sqt s h⟩
/-- [e for x in xs for y in x.ys if ..]: the walk over both, told by the two turns -/
theorem lc2_walk {J : It} {n : Nat} {G : Hp → Prop} (wk : Walk J n G (YAt xs)) (hn : n = xs.length) {k k1 : Nat} {te1 : TE} {tt1 : TT} {vs1 : List Nat} {D : Addr} (Pv : Nat → Nat → Hp → Prop) (P0 : Pv 0 0 (upd H D (.lst []))) (keep : ∀ i Hi, Pv i 0 Hi → G Hi)
    (hw : ∀ x, wipe ((wipe σ vs).set k (some x)) vs = wipe σ vs)
    (inner : ∀ (i : Nat) (x : V) (Hi : Hp), xs[i]? = some x → Pv i 0 Hi → ∃ (a : Addr) (ys : List V), (∀ R : VK, R (.ref a) Hi → te1 ((wipe σ vs).set k (some x)) Hi R) ∧ (∀ j Hj, Pv i j Hj → SqT K Hj a ys) ∧ (∀ Hj, Pv i ys.length Hj → Pv (i + 1) 0 Hj) ∧
      ∀ (j : Nat) (y : V) (Hj : Hp), ys[j]? = some y → Pv i j Hj → wipe ((wipe ((wipe σ vs).set k (some x)) vs1).set k1 (some y)) vs1 = wipe ((wipe σ vs).set k (some x)) vs1 ∧
        tt1 ((wipe ((wipe σ vs).set k (some x)) vs1).set k1 (some y)) Hj fun b H6 => if b = true then te ((wipe ((wipe σ vs).set k (some x)) vs1).set k1 (some y)) H6 fun z H7 => ∃ acc, H7 D = some (.lst acc) ∧ acc.length < sizeLine ∧ Pv i (j + 1) (upd H7 D (.lst (acc ++ [z]))) else Pv i (j + 1) H6)
    (fin : ∀ Hi, Pv n 0 Hi → Q (.ref D) Hi) :
    ∃ W : Nat → Nat → Hp → Prop, (∃ m, W 0 m (upd H D (.lst []))) ∧ ∀ i m H, W i m H →
      (J.stop i H ∧ Q (.ref D) H) ∨ (J.go i H ∧ ∃ Nx : Hp → Prop, (∀ H', Nx H' → ∃ m', m' < m ∧ W (i + 1) m' H') ∧ ∀ x H', J.yld i H x H' → gName k x (wipe σ vs) H' fun σ2 H2 => wipe σ2 vs = wipe σ vs ∧ tYes σ2 H2 fun b H3 =>
        if b = true then iTup K te1 σ2 H3 fun J1 H4 => ∃ W1 : Nat → Nat → Hp → Prop, (∃ m, W1 0 m H4) ∧ ∀ j k H, W1 j k H →
          (J1.stop j H ∧ Nx H) ∨ (J1.go j H ∧ ∃ Nx1 : Hp → Prop, (∀ H', Nx1 H' → ∃ k', k' < k ∧ W1 (j + 1) k' H') ∧ ∀ x H', J1.yld j H x H' → gName k1 x (wipe σ2 vs1) H' fun σ3 H5 => wipe σ3 vs1 = wipe σ2 vs1 ∧ tt1 σ3 H5 fun b H6 =>
            if b = true then te σ3 H6 fun y H7 => ∃ acc, H7 D = some (.lst acc) ∧ acc.length < sizeLine ∧ Nx1 (upd H7 D (.lst (acc ++ [y]))) else Nx1 H6)
        else Nx H3) := by
  refine ⟨fun i m Hi => m = n - i ∧ i ≤ n ∧ Pv i 0 Hi, ⟨n, by simp, Nat.zero_le _, P0⟩, ?_⟩
  rintro i m Hi ⟨rfl, hi, pv⟩
  by_cases lt : i < n
  · refine .inr ⟨wk.goes i Hi lt (keep i Hi pv), Pv (i + 1) 0, fun H' p' => ⟨n - (i + 1), by omega, rfl, lt, p'⟩, fun x H' y => ?_⟩
    obtain ⟨rfl, hx⟩ := wk.yields i Hi x H' lt (keep i Hi pv) y
    obtain ⟨a, ys, h1, h2, h3, h4⟩ := inner i x _ hx pv
    refine ⟨hw x, ?_⟩
    unfold tYes
    refine iteT ?_
    unfold iTup
    refine h1 _ ⟨a, rfl, ⟨ys, h2 0 _ pv⟩, fun j m Hj => m = ys.length - j ∧ j ≤ ys.length ∧ Pv i j Hj, ⟨ys.length, by simp, Nat.zero_le _, pv⟩, ?_⟩
    rintro j m Hj ⟨rfl, hj, pj⟩
    have wt : Walk (Itt K a) ys.length (fun H => SqT K H a ys) (YAt ys) := walk_tup
    by_cases lj : j < ys.length
    · refine .inr ⟨wt.goes j Hj lj (h2 j Hj pj), Pv i (j + 1), fun H' p' => ⟨ys.length - (j + 1), by omega, rfl, lj, p'⟩, fun y H' yy => ?_⟩
      obtain ⟨rfl, hy⟩ := wt.yields j Hj y H' lj (h2 j Hj pj) yy
      exact h4 j y _ hy pj
    · obtain rfl : j = ys.length := by omega
      exact .inl ⟨wt.stops Hj (h2 _ Hj pj), h3 Hj pj⟩
  · obtain rfl : i = n := by omega
    exact .inl ⟨wk.stops Hi (keep _ Hi pv), fin Hi pv⟩
end
end Pn

namespace Pn
open PySem L2 TL
abbrev sIsPair : Stmt := top 8
abbrev sAreC : Stmt := top 37
abbrev sAreP : Stmt := top 38
abbrev sCKnown : Stmt := top 39
abbrev sNPut : Stmt := top 40
abbrev sPEarly : Stmt := top 41
abbrev sNReach : Stmt := top 42
abbrev sUnr1 : Stmt := top 43
abbrev sUText : Stmt := top 44
abbrev sRefsK : Stmt := top 45
theorem eqV_str {a b : Str} : eqV (.str a) (.str b) = decide (a = b) := by
  show decide (a = b) = _
  rfl
theorem inV_strs {x : Str} : ∀ {l : List Str}, inV (.str x) (l.map V.str) = decide (x ∈ l)
  | [] => by simp [inV]
  | y :: l => by
    have ih := inV_strs (x := x) (l := l)
    unfold inV at ih ⊢
    rw [List.map_cons, List.any_cons, ih, eqV_str]
    by_cases h : y = x
    · subst h; simp
    · have h2 : ¬ x = y := fun z => h z.symm
      simp [h, h2]
theorem flat_strs : ∀ {l : List Str}, (l.map V.str).all flatV = true
  | [] => rfl
  | _ :: l => flat_strs (l := l)
section
variable {P : Program} {w : World} {K : PySem.W.Frag} {mg : Str → Option Value} {base : Heap}
def cwV : List V := [.str "note", .str "skip", .str "set", .str "keep", .str "back"]
structure TBks {K : PySem.W.Frag} {mg : Str → Option Value} {R : TRows K mg} (T : TPart R) : Type where
  mSet : mg "set" = none
  mRev : mg "reversed" = none
  cw : Addr
  mCW : mg "COUNTING_WORDS" = some (.ref cw)
  hCW : ∀ H, SqT K H cw cwV
  isPair : At K mg "is_pair" sIsPair ["value"]
  areC : At K mg "are_counters" sAreC ["counters"]
  areP : At K mg "are_parts" sAreP ["parts"]
  cKnown : At K mg "counters_are_known" sCKnown ["counters", "parts"]
  nPut : At K mg "names_put" sNPut ["part"]
  pEarly : At K mg "puts_are_earlier" sPEarly ["parts"]
  nReach : At K mg "names_reached" sNReach ["parts"]
  unroll : At K mg "unroll" sUnr1 ["part", "flat"]
  uText : At K mg "unrolled_text" sUText ["parts"]
  refsK : At K mg "refs_are_known" sRefsK ["rows"]
/-- a list or a tuple -/
def Sq (K : PySem.W.Frag) (H : Hp) (p : Addr) (xs : List V) : Prop := SqL K H p xs ∨ SqT K H p xs
theorem Sq.same {H H' : Hp} {p : Addr} {xs : List V} (h : Sq K H p xs) (s : Same H H') : Sq K H' p xs := h.elim (fun h => .inl (s.seq h)) (fun h => .inr (Same.sqt s h))
def CsArg (K : PySem.W.Frag) (H : Hp) (cu : V) (cs : List (Str × Str)) : Prop := ∃ p ts, cu = .ref p ∧ Sq K H p (ts.map V.ref) ∧ Paired (fun t (c : Str × Str) => SqT K H t [.str c.1, .str c.2]) ts cs
theorem CsArg.same {H H' : Hp} {cu : V} {cs : List (Str × Str)} (h : CsArg K H cu cs) (s : Same H H') : CsArg K H' cu cs := by
  obtain ⟨p, ts, e, h1, h2⟩ := h
  exact ⟨p, ts, e, h1.same s, paired_mono (fun _ _ z => Same.sqt s z) h2⟩
def PtsArg {R : TRows K mg} (T : TPart R) (H : Hp) (pu : V) (bk : List PartD) : Prop := ∃ p ps, pu = .ref p ∧ Sq K H p (ps.map V.ref) ∧ Paired (fun a (q : PartD) => PtAt T H a q.1 q.2) ps bk
theorem PtsArg.same {R : TRows K mg} {T : TPart R} {H H' : Hp} {pu : V} {bk : List PartD} (h : PtsArg T H pu bk) (s : Same H H') : PtsArg T H' pu bk := by
  obtain ⟨p, ps, e, h1, h2⟩ := h
  exact ⟨p, ps, e, h1.same s, paired_mono (fun _ _ z => z.same s) h2⟩
theorem seq_kind {H : Hp} {p : Addr} {xs : List V} (h : Sq K H p xs) : ∃ t, PySem.W.kitAny K t [.type "list", .type "tuple"] = some true ∧ TyX K H (.ref p) t ∧ ∀ H', Same H H' → TyX K H' (.ref p) t := by
  rcases h with hp | hp
  · exact ⟨_, kit_two (by decide +kernel : kitB "list" "list" = some true) (by decide +kernel : kitB "list" "tuple" = some false), sql_ty hp, fun H' s' => sql_ty (s'.seq hp)⟩
  · exact ⟨_, kit_two (by decide +kernel : kitB "tuple" "list" = some false) (by decide +kernel : kitB "tuple" "tuple" = some true), sqt_ty hp, fun H' s' => sqt_ty (Same.sqt s' hp)⟩
def spIsPairT (K : PySem.W.Frag) : Sp := fun vs H Q _ => ∃ (t : Addr) (a b : V), vs = [.ref t] ∧ SqT K H t [a, b] ∧ Q (.bl true) H
theorem scIsPair : FnScope ["value"] ["value"] (defScope sIsPair) := ⟨rfl, rfl, rfl, by decide +kernel, rfl, by decide +kernel, by decide +kernel⟩
theorem ok_isPair {R : TRows K mg} {T : TPart R} (B : TBks T) : FnOk P w K mg base CX0 1 B.isPair.f B.isPair.fd ["value"] (spIsPairT K) := by
  refine B.isPair.F.ok scIsPair (fun vs H Q E h => ?_) (fun cdv A outer s H vs Q E hr h => ?_)
  · obtain ⟨t, a, b, rfl, _⟩ := h
    rfl
  · obtain ⟨t, a, b, rfl, ht, q⟩ := h
    refine ⟨_, pss_one (ps_ret (pe_and (pe_callB call_isi (by rfl) R.N.mIsi (by decide +kernel) (pa_cons (pv 0) (pa_cons (pe_bltn (v := .ty "tuple") (by rfl) T.mTup (by decide +kernel) rfl) pa_nil)))
      (pe_one (pe_cmpR op_eq (pe_callB call_len_seq (by rfl) R.N.mLen PySem.boot_len (pa_cons (pv 0) pa_nil)) pe_int (nomark _))))), ?_⟩
    refine ⟨_, rfl, .ref t, .ty "tuple", _, _, true, rfl, .ty _, sqt_ty ht, kit_ty (by decide +kernel : kitB "tuple" "tuple" = some true), _, rfl, iteT ?_⟩
    exact ⟨_, rfl, t, _, rfl, .inr ht, rfl, q⟩
def spAreC (K : PySem.W.Frag) : Sp := fun vs H Q _ => ∃ (cu : V) (cs : List (Str × Str)), vs = [cu] ∧ CsArg K H cu cs ∧ CsOk cs ∧ ∀ H', Same H H' → Q (.bl true) H'
theorem scAreC : FnScope ["counters", "earlier", "pair"] ["counters"] (defScope sAreC) := ⟨rfl, rfl, rfl, by decide +kernel, rfl, by decide +kernel, by decide +kernel⟩
theorem ok_areC {R : TRows K mg} {T : TPart R} (B : TBks T) : FnOk P w K mg base CX0 2 B.areC.f B.areC.fd ["counters"] (spAreC K) := by
  refine B.areC.F.ok scAreC (fun vs H Q E h => ?_) (fun cdv A outer s H vs Q E hr h => ?_)
  · obtain ⟨cu, cs, rfl, _⟩ := h
    rfl
  · obtain ⟨cu, cs, rfl, ⟨p, ts, rfl, hp, hpd⟩, ok, q⟩ := h
    refine ⟨_, pss_cons (ps_if (pt_not (pt_val (pe_call (ok_isSeq T.isSeq.F R.N.mIsi T.mList T.mTup) (hr.mono (by decide)) rfl T.isSeq.m T.isSeq.F.kp T.isSeq.b .nil pass0 (pa_cons (pv 0) pa_nil)))) (pss_one (ps_ret pe_bl)) pss_nil)
      (pss_cons (ps_set (i := 1) scAreC.nd rfl (Or.inl rfl) (pe_lst pa_nil))
      (pss_cons (ps_for PassesOwn.never rfl (pi_seq (pv 0)) (pg_name (i := 2) scAreC.nd rfl (Or.inl rfl))
        (pss_cons (ps_if (PW.pt (pw_or (pt_not (pt_val (pe_call (ok_isPair B) (hr.mono (by decide)) rfl B.isPair.m B.isPair.F.kp B.isPair.b .nil pass0 (pa_cons (pv 2) pa_nil))))
            (pw_or (pt_not (pt_val (pe_call R.N.okName (hr.mono (by decide)) rfl R.N.isName.m R.N.isName.F.kp R.N.isName.b .nil pass0 (pa_cons (pe_ix ix_tup (pv 2) pe_int (fun _ _ => rfl)) pa_nil))))
              (pw_or1 (pt_cmpR op_in_seq (pe_ix ix_tup (pv 2) pe_int (fun _ _ => rfl)) (pv 1) rfl))))) (pss_one (ps_ret pe_bl)) pss_nil)
        (pss_cons (ps_if (PW.pt (pw_and (pt_cmpR op_ne (pe_ix ix_tup (pv 2) pe_int (fun _ _ => rfl)) pe_str (nomark _)) (pw_and1 (pt_cmpR op_notIn_seq (pe_ix ix_tup (pv 2) pe_int (fun _ _ => rfl)) (pv 1) rfl)))) (pss_one (ps_ret pe_bl)) pss_nil)
        (pss_one (ps_expr (pe_bm PySem.F.plainAttrs_list PySem.F.slot_list_append PySem.F.type_list_append mt_append (pv 1) (pa_cons (pe_ix ix_tup (pv 2) pe_int (fun _ _ => rfl)) pa_nil)))))))
      (pss_one (ps_ret pe_bl)))), ?_⟩
    obtain ⟨t0, hk, ht1, ht2⟩ := seq_kind hp
    refine ⟨_, rfl, _, t0, true, rfl, ht1, hk, ht2, fun H1 s1 m1 => ⟨true, rfl, iteF ?_⟩⟩
    refine ⟨Nat.zero_le _, fun F hF => ?_⟩
    have hp2 := (hp.same s1).same (Same.new (o := .lst []) hF)
    have hpd2 := paired_mono (fun _ _ z => Same.sqt (s1.trans (Same.new (o := .lst []) hF)) z) hpd
    have sH := s1.trans (Same.new (o := .lst []) hF)
    have hFn : H F = none := s1.free hF
    have hF2 : upd H1 F (.lst []) F = some (.lst []) := upd_same
    generalize upd H1 F (.lst []) = H2 at hp2 hpd2 sH hF2 ⊢
    have htl : ts.length = cs.length := paired_len hpd
    have big : (1001 : Nat) ≤ sizeLine := by decide
    have hcl := ok.len
    refine hp.elim (fun h3 => .inl ⟨_, rfl, p, rfl, ⟨_, sH.seq h3⟩, for_list (xs := ts.map V.ref) (fun i σ Hi => ∃ x2, σ = [some (.ref p), some (.ref F), x2] ∧ Same H Hi ∧ Hi F = some (.lst (((cs.take i).map (·.1)).map V.str))) ⟨_, rfl, sH, hF2⟩ (fun i σ Hi _ hP => by obtain ⟨_, _, s, _⟩ := hP; exact s.seq h3) (fun i x σ Hi hx hP => ?turn) (fun σ Hi hP => ?done)⟩)
      (fun h3 => .inr ⟨_, rfl, p, rfl, ⟨_, Same.sqt sH h3⟩, for_tup (xs := ts.map V.ref) (fun i σ Hi => ∃ x2, σ = [some (.ref p), some (.ref F), x2] ∧ Same H Hi ∧ Hi F = some (.lst (((cs.take i).map (·.1)).map V.str))) ⟨_, rfl, sH, hF2⟩ (fun i σ Hi _ hP => by obtain ⟨_, _, s, _⟩ := hP; exact Same.sqt s h3) (fun i x σ Hi hx hP => ?turn2) (fun σ Hi hP => ?done2)⟩)
    case done | done2 =>
      obtain ⟨_, rfl, s3, _⟩ := hP
      exact q _ s3
    case turn | turn2 =>
      obtain ⟨_, rfl, s3, hFi⟩ := hP
      rw [List.getElem?_map] at hx
      cases hxi : ts[i]? with
      | none => rw [hxi] at hx; cases hx
      | some t =>
      rw [hxi] at hx
      cases hx
      obtain ⟨c, hc, ht⟩ := paired_at hpd hxi
      have ht3 := Same.sqt s3 ht
      have hcm := List.mem_of_getElem? hc
      have hnm := ok.nm c hcm
      have hi : i < cs.length := (List.getElem?_eq_some_iff.mp hc).1
      have hnew : c.1 ∉ (cs.take i).map (·.1) := fun z => by
        have e : (cs.map (·.1)) = (cs.take i).map (·.1) ++ (cs.drop i).map (·.1) := by rw [← List.map_append, List.take_append_drop]
        have nd := ok.nd
        rw [e] at nd
        refine (List.nodup_append.mp nd).2.2 _ z c.1 (List.mem_map.mpr ⟨c, ?_, rfl⟩) rfl
        exact List.mem_of_getElem? (i := 0) (by rw [List.getElem?_drop]; simpa using hc)
      refine ⟨_, rfl, t, _, _, rfl, ht3, true, rfl, iteF ?_⟩
      refine ⟨_, rfl, t, _, _, .str c.1, rfl, rfl, ht3, rfl, .str c.1, .str c.1, rfl, .str _, Nat.le_trans (name_ok hnm).2 (by decide), fun H4 s4 m4 => ⟨nameS c.1, rfl, ?_⟩⟩
      rw [hnm]
      refine iteF ?_
      have ht4 := Same.sqt s4 ht3
      have hF4 := s4 _ _ hFi
      refine ⟨_, rfl, t, _, _, .str c.1, rfl, rfl, ht4, rfl, _, rfl, F, _, rfl, .inl (SqL.of hF4), rfl, flat_strs, ?_⟩
      refine ⟨_, rfl, iteFD (by show inV (.str c.1) _ = false; rw [inV_strs]; exact decide_eq_false hnew) ?_⟩
      unfold tNext
      try dsimp only
      refine stepNo (fun Hx => Hx = H4) (fun Q' hQ => ?_) (fun Hx hx => ?_)
      · refine ⟨_, rfl, t, _, _, .str c.2, rfl, rfl, ht4, rfl, rfl, _, rfl, ?_⟩
        by_cases hc2 : c.2 = ""
        · refine iteFD (by rw [hc2]; decide +kernel) ?_
          exact hQ _ rfl
        · refine iteTD (by rw [Bool.not_eq_true', decide_eq_false_iff_not]; exact fun z => hc2 (V.str.inj z)) ?_
          refine ⟨_, rfl, t, _, _, .str c.2, rfl, rfl, ht4, rfl, _, rfl, F, _, rfl, .inl (SqL.of hF4), rfl, flat_strs, _, rfl, ?_⟩
          have hup := (ok.up i c hc).resolve_left hc2
          have e : (!inV (.str c.2) (((cs.take i).map (·.1)).map V.str)) = false := by rw [inV_strs, decide_eq_true hup]; rfl
          show Q' (!inV (.str c.2) (((cs.take i).map (·.1)).map V.str)) H4
          rw [e]
          exact hQ _ rfl
      · subst hx
        refine ⟨_, rfl, .inl ⟨rfl, _, SqL.of hF4⟩, _, rfl, t, _, _, .str c.1, rfl, rfl, ht4, rfl, F, _, _, rfl, rfl, hF4, ?_, ?_⟩
        · rw [List.length_map, List.length_map, List.length_take]
          omega
        · refine ⟨_, rfl, Same.updn (s3.trans s4) hFn, ?_⟩
          rw [upd_same, List.take_add_one, hc, List.map_append, List.map_append]
          rfl
/-! ### parts -/
theorem part_attr {R : TRows K mg} {T : TPart R} {H : Hp} {a : Addr} {q : PartD} (h : PtAt T H a q.1 q.2) : ∃ dx tp us, H a = some (insPart T.C dx (.str q.1) (.ref tp)) ∧ SqT K H tp (us.map V.ref) ∧ RowsIn R H us q.2 := h
def spAreP {R : TRows K mg} (T : TPart R) : Sp := fun vs H Q _ => ∃ (pu : V) (bk : List PartD), vs = [pu] ∧ PtsArg T H pu bk ∧ bk ≠ [] ∧ (bk.map (·.1)).Nodup ∧ bk.length ≤ 50 ∧ ∀ H', Same H H' → Q (.bl true) H'
theorem scAreP : FnScope ["parts", "part"] ["parts"] (defScope sAreP) := ⟨rfl, rfl, rfl, by decide +kernel, rfl, by decide +kernel, by decide +kernel⟩
theorem all_tt {α : Type} (l : List α) : (l.map fun _ => true).all id = true := by
  induction l with
  | nil => rfl
  | cons _ _ ih => exact ih
theorem uniq_of_nodup {l : List Str} (h : l.Nodup) : (uniq l).length = l.length := by
  have p : l.Perm (uniq l) := perm_of_sup h (fun k hk => (uniq_has l k).mpr hk) (uniq_len l)
  exact p.length_eq.symm
theorem ok_areP {R : TRows K mg} {T : TPart R} (B : TBks T) : FnOk P w K mg base CX0 2 B.areP.f B.areP.fd ["parts"] (spAreP T) := by
  refine B.areP.F.ok scAreP (fun vs H Q E h => ?_) (fun cdv A outer s H vs Q E hr h => ?_)
  · obtain ⟨pu, bk, rfl, _⟩ := h
    rfl
  · obtain ⟨pu, bk, rfl, ⟨p, ps, rfl, hp, hpd⟩, hne, hnd, hlen, q⟩ := h
    refine ⟨_, pss_cons (ps_if (PW.pt (pw_or (pt_not (pt_val (pe_call (ok_isSeq T.isSeq.F R.N.mIsi T.mList T.mTup) (hr.mono (by decide)) rfl T.isSeq.m T.isSeq.F.kp T.isSeq.b .nil pass0 (pa_cons (pv 0) pa_nil))))
          (pw_or1 (pt_not (pt_val (pe_callB (cr_all rfl) (by rfl) R.N.mAll (by decide +kernel) (pa_cons (pe_lc (own := [("part", 1)]) (g := gName 1) (tt := tYes) (by rfl) scAreP.nd (pi_seq (pv 0))
            (blkOk_by (N := ["parts", "part"]) (sc := defScope sAreP) (by decide +kernel)) (fun _ _ _ _ _ => pg_name (i := 1) scAreP.nd rfl (Or.inl rfl)) (fun _ _ _ _ _ => pts_nil)
            (fun _ _ _ _ _ => pe_callB (show CallR _ (.builtin "isinstance") (rIsi K) from call_isi) (by rfl) R.N.mIsi (by decide +kernel) (pa_cons (pv 1) (pa_cons (pe_glob (v := .ref T.C) (by rfl) T.mC rfl) pa_nil)))) pa_nil)))))))
        (pss_one (ps_ret pe_bl)) pss_nil)
      (pss_one (ps_ret (pe_chain op_lt op_eq pe_int (pe_callB call_len_seq (by rfl) R.N.mLen PySem.boot_len (pa_cons (pv 0) pa_nil))
        (pe_callB cr_lenX (by rfl) R.N.mLen PySem.boot_len (pa_cons (pe_callTy (cr_setX rfl) (by rfl) B.mSet (by decide +kernel) (pa_cons (pe_lc (own := [("part", 1)]) (g := gName 1) (tt := tYes) (by rfl) scAreP.nd (pi_seq (pv 0))
            (blkOk_by (N := ["parts", "part"]) (sc := defScope sAreP) (by decide +kernel)) (fun _ _ _ _ _ => pg_name (i := 1) scAreP.nd rfl (Or.inl rfl)) (fun _ _ _ _ _ => pts_nil)
            (fun _ _ _ _ _ => (show PE _ _ (tFld K (tVar 1) "name") from pe_fld (pv 1) rfl))) pa_nil)) pa_nil))))), ?_⟩
    obtain ⟨t0, hk, ht1, ht2⟩ := seq_kind hp
    refine ⟨_, rfl, _, t0, true, rfl, ht1, hk, ht2, fun H1 s1 m1 => ⟨true, rfl, iteF ?_⟩⟩
    have hpl : ps.length = bk.length := paired_len hpd
    have big : (1001 : Nat) ≤ sizeLine := by decide
    have hp1 := hp.same s1
    have hpd1 := paired_mono (fun _ _ z => PtAt.same z s1) hpd
    unfold tNot tB tCB tCons
    refine lcw_seq (fun R r => ⟨_, rfl, r⟩) hp1 (by rw [List.length_map]; omega) (out := fun i => (ps[i]?).map fun _ => V.bl true) (fun i x Hi S Y hx si _ hY => ?_) (fun D H2 hD s2 hD2 => ?_)
    · rw [List.getElem?_map] at hx
      cases hxi : ps[i]? with
      | none => rw [hxi] at hx; cases hx
      | some a =>
      rw [hxi] at hx
      cases hx
      obtain ⟨qq, hq, hpt⟩ := paired_at hpd1 hxi
      obtain ⟨dx, tp, us, ha, _, _⟩ := hpt.same si
      refine ⟨rfl, _, rfl, .ref a, .ref T.C, _, _, true, rfl, .own _, .base (.ins ha T.cl T.pA T.cN T.cT T.pM), T.kC, ?_⟩
      exact hY _ (by show (ps[i]?).map _ = _; rw [hxi]; rfl) _ (Same.refl _)
    · rw [List.length_map, out_map] at hD2
      refine ⟨D, ps.map fun _ => true, rfl, SqL.of (by rw [hD2, List.map_map]; rfl), ?_⟩
      rw [all_tt]
      refine ⟨true, rfl, iteF ?_⟩
      have hp2 := hp1.same s2
      have hpd2 := paired_mono (fun _ _ z => PtAt.same z s2) hpd1
      refine ⟨_, rfl, p, _, rfl, hp2, _, _, rfl, rfl, true, ?_, iteT ?_⟩
      · rw [List.length_map, hpl]
        have : 0 < bk.length := List.length_pos_iff.mpr hne
        show V.bl (decide ((0 : Int) < (bk.length : Int))) = V.bl true
        rw [decide_eq_true (by omega)]
      show tLc (iSeq K (tVar 0)) (gName 1) tYes (tFld K (tVar 1) "name") [1] _ H2 _
      refine lcw_seq (fun R r => ⟨_, rfl, r⟩) hp2 (by rw [List.length_map]; omega) (out := fun i => (bk[i]?).map fun q => V.str q.1) (fun i x Hi S Y hx si _ hY => ?_) (fun D3 H3 hD3 s3 hD4 => ?_)
      · rw [List.getElem?_map] at hx
        cases hxi : ps[i]? with
        | none => rw [hxi] at hx; cases hx
        | some a =>
        rw [hxi] at hx
        cases hx
        obtain ⟨qq, hq, hpt⟩ := paired_at hpd2 hxi
        obtain ⟨dx, tp, us, ha, _, _⟩ := hpt.same si
        refine ⟨rfl, _, rfl, a, T.C, dx, _, .str qq.1, rfl, ha, T.cl, T.noN, part_name, ?_⟩
        exact hY _ (by show (bk[i]?).map _ = _; rw [hq]; rfl) _ (Same.refl _)
      · rw [List.length_map, hpl, out_map] at hD4
        refine ⟨D3, bk.map (·.1), rfl, SqL.of (by rw [hD4, List.map_map]; rfl), by rw [List.length_map]; omega, fun S hS => ?_⟩
        have hul := uniq_of_nodup hnd
        refine ⟨S, uniq (bk.map (·.1)), rfl, upd_same, by rw [hul, List.length_map]; omega, ?_⟩
        rw [hul, List.length_map, List.length_map, hpl]
        refine ⟨rfl, ?_⟩
        rw [decide_eq_true rfl]
        exact q _ (((s1.trans s2).trans s3).trans (Same.new hS))
end
end Pn

namespace Pn
open PySem L2 TL
section
variable {P : Program} {w : World} {K : PySem.W.Frag} {mg : Str → Option Value} {base : Heap}
/-! ### the attributes of rows -/
def Attr (R : TRows K mg) (H : Hp) (a : Addr) (r : RowD) (f : Str) (v : V) : Prop := ∃ dx fs, H a = some (.ins (clsOf R r) dx fs) ∧ Cls K (clsOf R r) ∧ NoAttr K (clsOf R r) f ∧ fs.lookup f = some v
theorem at_counter (T : TRows K mg) {H : Hp} {a : Addr} {r : RowD} {c : Str} (h : RowAt T H a r) (e : cntOf r = some c) : Attr T H a r "counter" (.str c) := by
  obtain ⟨dx, ha⟩ := h
  cases r with
  | note _ _ => cases e; exact ⟨dx, _, ha, T.note.cl, T.note.noC, by rw [lookup_putF, if_neg (by decide +kernel), lookup_putF, if_pos rfl]⟩
  | skip _ _ => cases e; exact ⟨dx, _, ha, T.skip.cl, T.skip.noC, by rw [lookup_putF, if_neg (by decide +kernel), lookup_putF, if_pos rfl]⟩
  | set _ _ => cases e; exact ⟨dx, _, ha, T.set.cl, T.set.noC, by rw [lookup_putF, if_neg (by decide +kernel), lookup_putF, if_pos rfl]⟩
  | keep _ => cases e; exact ⟨dx, _, ha, T.keep.cl, T.keep.noF, by rw [lookup_putF, if_pos rfl]⟩
  | back _ => cases e; exact ⟨dx, _, ha, T.back.cl, T.back.noF, by rw [lookup_putF, if_pos rfl]⟩
  | ref _ => cases e
  | put _ => cases e
  | opn _ => cases e
theorem at_part (T : TRows K mg) {H : Hp} {a : Addr} {z : Str} (h : RowAt T H a (.put z)) : Attr T H a (.put z) "part" (.str z) := by
  obtain ⟨dx, ha⟩ := h
  exact ⟨dx, _, ha, T.put.cl, T.put.noF, by rw [lookup_putF, if_pos rfl]⟩
theorem at_name (T : TRows K mg) {H : Hp} {a : Addr} {z : Str} (h : RowAt T H a (.opn z)) : Attr T H a (.opn z) "name" (.str z) := by
  obtain ⟨dx, ha⟩ := h
  exact ⟨dx, _, ha, T.open_.cl, T.open_.noF, by rw [lookup_putF, if_pos rfl]⟩
theorem at_reflab (T : TRows K mg) {H : Hp} {a : Addr} {z : Str} (h : RowAt T H a (.ref z)) : Attr T H a (.ref z) "label" (.str z) := by
  obtain ⟨dx, ha⟩ := h
  exact ⟨dx, _, ha, T.ref.cl, T.ref.noF, by rw [lookup_putF, if_pos rfl]⟩
theorem at_notelab (T : TRows K mg) {H : Hp} {a : Addr} {c z : Str} (h : RowAt T H a (.note c z)) : Attr T H a (.note c z) "label" (.str z) := by
  obtain ⟨dx, ha⟩ := h
  exact ⟨dx, _, ha, T.note.cl, T.note.noL, by rw [lookup_putF, if_pos rfl]⟩
theorem at_word (T : TRows K mg) {H : Hp} {a : Addr} {r : RowD} (h : RowAt T H a r) : Attr T H a r "word" (.str (rowWord r)) := row_word T h
theorem word_cnt (r : RowD) : inV (.str (rowWord r)) cwV = (cntOf r).isSome := by
  have e : cwV = (["note", "skip", "set", "keep", "back"] : List Str).map V.str := rfl
  rw [e, inV_strs]
  cases r with
  | note _ _ => exact (by decide +kernel : decide (("note" : Str) ∈ (["note", "skip", "set", "keep", "back"] : List Str)) = true)
  | skip _ _ => exact (by decide +kernel : decide (("skip" : Str) ∈ (["note", "skip", "set", "keep", "back"] : List Str)) = true)
  | set _ _ => exact (by decide +kernel : decide (("set" : Str) ∈ (["note", "skip", "set", "keep", "back"] : List Str)) = true)
  | keep _ => exact (by decide +kernel : decide (("keep" : Str) ∈ (["note", "skip", "set", "keep", "back"] : List Str)) = true)
  | back _ => exact (by decide +kernel : decide (("back" : Str) ∈ (["note", "skip", "set", "keep", "back"] : List Str)) = true)
  | ref _ => exact (by decide +kernel : decide (("ref" : Str) ∈ (["note", "skip", "set", "keep", "back"] : List Str)) = false)
  | put _ => exact (by decide +kernel : decide (("put" : Str) ∈ (["note", "skip", "set", "keep", "back"] : List Str)) = false)
  | opn _ => exact (by decide +kernel : decide (("open" : Str) ∈ (["note", "skip", "set", "keep", "back"] : List Str)) = false)
/-- a row as it stands, looked up in a list of rows -/
theorem rows_at {R : TRows K mg} {H : Hp} {us : List Addr} {rs : List RowD} (h : RowsIn R H us rs) {i : Nat} {x : V} (hx : (us.map V.ref)[i]? = some x) : ∃ u r, us[i]? = some u ∧ rs[i]? = some r ∧ x = .ref u ∧ RowAt R H u r := by
  rw [List.getElem?_map] at hx
  cases hu : us[i]? with
  | none => rw [hu] at hx; cases hx
  | some u =>
    rw [hu] at hx
    cases hx
    obtain ⟨r, hr, hrow⟩ := paired_at h hu
    exact ⟨u, r, rfl, hr, rfl, hrow⟩
/-! ### names_put -/
def putOf : RowD → Option Str
  | .put z => some z
  | _ => none
theorem puts_eq (rs : List RowD) : putsOf rs = rs.filterMap putOf := rfl
theorem put_word {r : RowD} : decide (V.str (rowWord r) = V.str "put") = (putOf r).isSome := by
  cases r <;> first | exact (by decide +kernel : decide (V.str "note" = V.str "put") = false) | exact (by decide +kernel : decide (V.str "skip" = V.str "put") = false) | exact (by decide +kernel : decide (V.str "set" = V.str "put") = false) | exact (by decide +kernel : decide (V.str "keep" = V.str "put") = false) | exact (by decide +kernel : decide (V.str "back" = V.str "put") = false) | exact (by decide +kernel : decide (V.str "ref" = V.str "put") = false) | exact (by decide +kernel : decide (V.str "put" = V.str "put") = true) | exact (by decide +kernel : decide (V.str "open" = V.str "put") = false)
def spNPut {R : TRows K mg} (T : TPart R) : Sp := fun vs H Q _ => ∃ (a : Addr) (q : PartD), vs = [.ref a] ∧ PtAt T H a q.1 q.2 ∧ q.2.length ≤ 100 ∧ ∀ (D : Addr) (H' : Hp), H D = none → Same H H' → H' D = some (.lst ((putsOf q.2).map V.str)) → Q (.ref D) H'
theorem scNPut : FnScope ["part", "row"] ["part"] (defScope sNPut) := ⟨rfl, rfl, rfl, by decide +kernel, rfl, by decide +kernel, by decide +kernel⟩
theorem ok_nPut {R : TRows K mg} {T : TPart R} (B : TBks T) : FnOk P w K mg base CX0 1 B.nPut.f B.nPut.fd ["part"] (spNPut T) := by
  refine B.nPut.F.ok scNPut (fun vs H Q E h => ?_) (fun cdv A outer s H vs Q E hr h => ?_)
  · obtain ⟨a, q, rfl, _⟩ := h
    rfl
  · obtain ⟨a, qq, rfl, ⟨dx, tp, us, ha, htp, hus⟩, hl, q⟩ := h
    refine ⟨_, pss_one (ps_ret (pe_lc (own := [("row", 1)]) (g := gName 1) (by rfl) scNPut.nd (pi_tup (pe_fld (pv 0) rfl))
      (blkOk_by (N := ["part", "row"]) (sc := defScope sNPut) (by decide +kernel)) (fun _ _ _ _ _ => pg_name (i := 1) scNPut.nd rfl (Or.inl rfl))
      (fun _ _ _ _ _ => pts_one (pt_cmpR op_eq (show PE _ _ (tFld K (tVar 1) "word") from pe_fld (pv 1) rfl) pe_str (nomark _))) (fun _ _ _ _ _ => (show PE _ _ (tFld K (tVar 1) "part") from pe_fld (pv 1) rfl)))), ?_⟩
    have hul : us.length = qq.2.length := paired_len hus
    refine lcw_tup (fun R r => ⟨_, rfl, a, T.C, dx, _, .ref tp, rfl, ha, T.cl, T.noR, part_rows, r⟩) htp (by rw [List.length_map]; omega) (out := fun i => (qq.2[i]?).bind fun r => (putOf r).map V.str) (fun i x Hi S Y hx si hS hY => ?_) (fun D H2 hD s2 hD2 => q D H2 hD s2 ?_)
    · obtain ⟨u, r, hu, hr2, rfl, hrow⟩ := rows_at hus hx
      obtain ⟨dw, fw, w1, w2, w3, w4⟩ := at_word R (hrow.same si)
      refine ⟨rfl, _, rfl, u, _, dw, fw, _, rfl, w1, w2, w3, w4, rfl, _, rfl, ?_⟩
      have hb : (qq.2[i]?).bind (fun r => (putOf r).map V.str) = (putOf r).map V.str := by rw [hr2]; rfl
      rw [put_word]
      cases hp : putOf r with
      | none =>
        refine iteF ?_
        exact hS (by rw [hp] at hb; exact hb) _ (Same.refl _)
      | some z =>
        refine iteT ?_
        obtain rfl : r = .put z := by
          cases r with
          | put y => cases hp; rfl
          | _ => cases hp
        obtain ⟨dp, fp, p1, p2, p3, p4⟩ := at_part R (hrow.same si)
        exact ⟨_, rfl, u, _, dp, fp, _, rfl, p1, p2, p3, p4, hY _ (by rw [hp] at hb; exact hb) _ (Same.refl _)⟩
    · rw [hD2, List.length_map, hul, out_filter, puts_eq, List.map_filterMap]
/-! ### puts_are_earlier -/
def spPEarly {R : TRows K mg} (T : TPart R) : Sp := fun vs H Q _ => ∃ (pu : V) (bk : List PartD), vs = [pu] ∧ PtsArg T H pu bk ∧ Earlier bk ∧ bk.length ≤ 50 ∧ (∀ p ∈ bk, p.2.length ≤ 100) ∧ ∀ H', Same H H' → Q (.bl true) H'
theorem scPEarly : FnScope ["parts", "earlier", "part", "name"] ["parts"] (defScope sPEarly) := ⟨rfl, rfl, rfl, by decide +kernel, rfl, by decide +kernel, by decide +kernel⟩
theorem puts_len (rs : List RowD) : (putsOf rs).length ≤ rs.length := List.length_filterMap_le _ _
theorem pts_at {R : TRows K mg} {T : TPart R} {H : Hp} {ps : List Addr} {bk : List PartD} (h : Paired (fun a (q : PartD) => PtAt T H a q.1 q.2) ps bk) {i : Nat} {x : V} (hx : (ps.map V.ref)[i]? = some x) : ∃ a q, ps[i]? = some a ∧ bk[i]? = some q ∧ x = .ref a ∧ PtAt T H a q.1 q.2 := by
  rw [List.getElem?_map] at hx
  cases hu : ps[i]? with
  | none => rw [hu] at hx; cases hx
  | some u =>
    rw [hu] at hx
    cases hx
    obtain ⟨r, hr, hrow⟩ := paired_at h hu
    exact ⟨u, r, rfl, hr, rfl, hrow⟩
theorem ok_pEarly {R : TRows K mg} {T : TPart R} (B : TBks T) : FnOk P w K mg base CX0 2 B.pEarly.f B.pEarly.fd ["parts"] (spPEarly T) := by
  refine B.pEarly.F.ok scPEarly (fun vs H Q E h => ?_) (fun cdv A outer s H vs Q E hr h => ?_)
  · obtain ⟨pu, bk, rfl, _⟩ := h
    rfl
  · obtain ⟨pu, bk, rfl, ⟨p, ps, rfl, hp, hpd⟩, he, hlen, hrl, q⟩ := h
    refine ⟨_, pss_cons (ps_set (i := 1) scPEarly.nd rfl (Or.inr rfl) (pe_lst pa_nil))
      (pss_cons (ps_for PassesOwn.never rfl (pi_seq (pv 0)) (pg_name (i := 2) scPEarly.nd rfl (Or.inl rfl))
        (pss_cons (ps_if (pt_not (pt_val (pe_callB (cr_all rfl) (by rfl) R.N.mAll (by decide +kernel) (pa_cons (pe_lc (own := [("name", 3)]) (g := gName 3) (tt := tYes) (by rfl) scPEarly.nd (pi_list (pe_call (ok_nPut B) hr rfl B.nPut.m B.nPut.F.kp B.nPut.b .nil pass0 (pa_cons (pv 2) pa_nil)))
            (blkOk_by (N := ["parts", "earlier", "part", "name"]) (sc := defScope sPEarly) (by decide +kernel)) (fun _ _ _ _ _ => pg_name (i := 3) scPEarly.nd rfl (Or.inl rfl)) (fun _ _ _ _ _ => pts_nil)
            (fun _ _ _ _ _ => pe_cmpR (show OpR _ (compareOp .In) (rIn K false) from op_in_seq) (pv 3) (pv 1) rfl)) pa_nil)))) (pss_one (ps_ret pe_bl)) pss_nil)
        (pss_one (ps_expr (pe_bm PySem.F.plainAttrs_list PySem.F.slot_list_append PySem.F.type_list_append mt_append (pv 1) (pa_cons (pe_fld (pv 2) rfl) pa_nil))))))
      (pss_one (ps_ret pe_bl))), ?_⟩
    have hpl : ps.length = bk.length := paired_len hpd
    have big : (1001 : Nat) ≤ sizeLine := by decide
    refine ⟨Nat.zero_le _, fun F hF => ?_⟩
    have s1 := Same.new (o := .lst []) hF
    have hF1 : upd H F (.lst []) F = some (.lst []) := upd_same
    generalize upd H F (.lst []) = H1 at s1 hF1 ⊢
    have hFn : H F = none := hF
    refine forw_seq (fun R r => ⟨_, rfl, r⟩) hp (fun i σ Hi => ∃ x2 x3, σ = [some (.ref p), some (.ref F), x2, x3] ∧ Same H Hi ∧ Hi F = some (.lst (((bk.take i).map (·.1)).map V.str))) ⟨_, _, rfl, s1, hF1⟩ (fun i σ Hi hP => by obtain ⟨_, _, _, s, _⟩ := hP; exact s) (fun i x σ Hi hx hP => ?_) (fun σ Hi hP => ?_)
    · obtain ⟨x2, x3, rfl, s3, hFi⟩ := hP
      obtain ⟨a, qq, ha, hq, rfl, hpt⟩ := pts_at hpd hx
      have hqm := List.mem_of_getElem? hq
      have hi : i < bk.length := (List.getElem?_eq_some_iff.mp hq).1
      have hpt3 := hpt.same s3
      refine ⟨_, rfl, a, qq, rfl, hpt3, hrl qq hqm, fun D H4 hD s4 hD4 => ?_⟩
      have hpu : (putsOf qq.2).length ≤ 100 := Nat.le_trans (puts_len _) (hrl qq hqm)
      have hF4 := s4 _ _ hFi
      refine ⟨D, rfl, ⟨_, SqL.of hD4⟩, fun D2 hD2 => lc_list (xs := (putsOf qq.2).map V.str) (fun j Hj => Same H4 Hj ∧ Hj D2 = some (.lst ((List.range j).filterMap fun j => ((putsOf qq.2)[j]?).map fun _ => V.bl true))) ⟨Same.new hD2, upd_same⟩ (fun j Hj _ hP => SqL.of (hP.1 _ _ hD4))
        (lc_keep (by rw [List.length_map]; omega) (fun j y Hj S Y hy sj _ hY => ?_) hD2) (fun Hj hP => ?_)⟩
      · rw [List.getElem?_map] at hy
        cases hz : (putsOf qq.2)[j]? with
        | none => rw [hz] at hy; cases hy
        | some z =>
        rw [hz] at hy
        cases hy
        have hin := he i qq hq z (mem_puts.mp (List.mem_of_getElem? hz))
        refine ⟨rfl, _, rfl, _, rfl, F, _, rfl, .inl (SqL.of (sj _ _ hF4)), rfl, flat_strs, ?_⟩
        have e : inV (.str z) (((bk.take i).map (·.1)).map V.str) = true := by rw [inV_strs]; exact decide_eq_true hin
        show Y (.bl (inV (.str z) (((bk.take i).map (·.1)).map V.str))) Hj
        rw [e]
        exact hY _ (by show ((putsOf qq.2)[j]?).map _ = _; rw [hz]; rfl) _ (Same.refl _)
      · obtain ⟨s5, hD5⟩ := hP
        rw [List.length_map, out_map] at hD5
        refine ⟨D2, (putsOf qq.2).map fun _ => true, rfl, SqL.of (by rw [hD5, List.map_map]; rfl), ?_⟩
        rw [all_tt]
        refine ⟨true, rfl, iteF ?_⟩
        obtain ⟨dx, tp, us, hat, _, _⟩ := hpt3.same (s4.trans s5)
        have hF5 := s5 _ _ hF4
        refine ⟨_, rfl, .inl ⟨rfl, _, SqL.of hF5⟩, _, rfl, a, T.C, dx, _, .str qq.1, rfl, hat, T.cl, T.noN, part_name, F, _, _, rfl, rfl, hF5, ?_, ?_⟩
        · rw [List.length_map, List.length_map, List.length_take]
          omega
        · refine ⟨_, _, rfl, Same.updn ((s3.trans s4).trans s5) hFn, ?_⟩
          rw [upd_same, List.take_add_one, hq, List.map_append, List.map_append]
          rfl
    · obtain ⟨_, _, rfl, s3, _⟩ := hP
      exact q _ s3
/-! ### refs_are_known -/
def spRefsK (R : TRows K mg) : Sp := fun vs H Q _ => ∃ (p : Addr) (us : List Addr) (rs : List RowD), vs = [.ref p] ∧ Sq K H p (us.map V.ref) ∧ RowsIn R H us rs ∧ rs.length ≤ 4000 ∧ (∀ l, RowD.ref l ∈ rs → ∃ c, RowD.note c l ∈ rs) ∧ ∀ H', Same H H' → Q (.bl true) H'
theorem scRefsK : FnScope ["rows", "labels", "row"] ["rows"] (defScope sRefsK) := ⟨rfl, rfl, rfl, by decide +kernel, rfl, by decide +kernel, by decide +kernel⟩
theorem note_word {r : RowD} : decide (V.str (rowWord r) = V.str "note") = (labOf r).isSome := by
  cases r with
  | note _ _ => exact (by decide +kernel : decide (V.str "note" = V.str "note") = true)
  | skip _ _ => exact (by decide +kernel : decide (V.str "skip" = V.str "note") = false)
  | set _ _ => exact (by decide +kernel : decide (V.str "set" = V.str "note") = false)
  | keep _ => exact (by decide +kernel : decide (V.str "keep" = V.str "note") = false)
  | back _ => exact (by decide +kernel : decide (V.str "back" = V.str "note") = false)
  | ref _ => exact (by decide +kernel : decide (V.str "ref" = V.str "note") = false)
  | put _ => exact (by decide +kernel : decide (V.str "put" = V.str "note") = false)
  | opn _ => exact (by decide +kernel : decide (V.str "open" = V.str "note") = false)
theorem ref_word {r : RowD} : decide (V.str (rowWord r) = V.str "ref") = (refOf r).isSome := by
  cases r with
  | note _ _ => exact (by decide +kernel : decide (V.str "note" = V.str "ref") = false)
  | skip _ _ => exact (by decide +kernel : decide (V.str "skip" = V.str "ref") = false)
  | set _ _ => exact (by decide +kernel : decide (V.str "set" = V.str "ref") = false)
  | keep _ => exact (by decide +kernel : decide (V.str "keep" = V.str "ref") = false)
  | back _ => exact (by decide +kernel : decide (V.str "back" = V.str "ref") = false)
  | ref _ => exact (by decide +kernel : decide (V.str "ref" = V.str "ref") = true)
  | put _ => exact (by decide +kernel : decide (V.str "put" = V.str "ref") = false)
  | opn _ => exact (by decide +kernel : decide (V.str "open" = V.str "ref") = false)
theorem ok_refsK {R : TRows K mg} {T : TPart R} (B : TBks T) : FnOk P w K mg base CX0 1 B.refsK.f B.refsK.fd ["rows"] (spRefsK R) := by
  refine B.refsK.F.ok scRefsK (fun vs H Q E h => ?_) (fun cdv A outer s H vs Q E hr h => ?_)
  · obtain ⟨p, us, rs, rfl, _⟩ := h
    rfl
  · obtain ⟨p, us, rs, rfl, hp, hus, hlen, hrf, q⟩ := h
    refine ⟨_, pss_cons (ps_set (i := 1) scRefsK.nd rfl (Or.inr rfl) (pe_lc (own := [("row", 2)]) (g := gName 2) (by rfl) scRefsK.nd (pi_seq (pv 0))
      (blkOk_by (N := ["rows", "labels", "row"]) (sc := defScope sRefsK) (by decide +kernel)) (fun _ _ _ _ _ => pg_name (i := 2) scRefsK.nd rfl (Or.inl rfl))
      (fun _ _ _ _ _ => pts_one (pt_cmpR op_eq (show PE _ _ (tFld K (tVar 2) "word") from pe_fld (pv 2) rfl) pe_str (nomark _))) (fun _ _ _ _ _ => (show PE _ _ (tFld K (tVar 2) "label") from pe_fld (pv 2) rfl))))
      (pss_one (ps_ret (pe_callB (cr_all rfl) (by rfl) R.N.mAll (by decide +kernel) (pa_cons (pe_lc (own := [("row", 2)]) (g := gName 2) (by rfl) scRefsK.nd (pi_seq (pv 0))
      (blkOk_by (N := ["rows", "labels", "row"]) (sc := defScope sRefsK) (by decide +kernel)) (fun _ _ _ _ _ => pg_name (i := 2) scRefsK.nd rfl (Or.inl rfl))
      (fun _ _ _ _ _ => pts_one (pt_cmpR op_eq (show PE _ _ (tFld K (tVar 2) "word") from pe_fld (pv 2) rfl) pe_str (nomark _))) (fun _ _ _ _ _ => pe_cmpR (show OpR _ (compareOp .In) (rIn K false) from op_in_seq) (show PE _ _ (tFld K (tVar 2) "label") from pe_fld (pv 2) rfl) (pv 1) rfl)) pa_nil)))), ?_⟩
    have hul : us.length = rs.length := paired_len hus
    unfold tSeq tAsg
    refine lcw_seq (fun R r => ⟨_, rfl, r⟩) hp (by rw [List.length_map]; omega) (out := fun i => (rs[i]?).bind fun r => (labOf r).map V.str) (fun i x Hi S Y hx si hS hY => ?_) (fun D H2 hD s2 hD2 => ?_)
    · obtain ⟨u, r, hu, hr2, rfl, hrow⟩ := rows_at hus hx
      obtain ⟨dw, fw, w1, w2, w3, w4⟩ := at_word R (hrow.same si)
      refine ⟨rfl, _, rfl, u, _, dw, fw, _, rfl, w1, w2, w3, w4, rfl, _, rfl, ?_⟩
      have hb : (rs[i]?).bind (fun r => (labOf r).map V.str) = (labOf r).map V.str := by rw [hr2]; rfl
      rw [note_word]
      cases hp2 : labOf r with
      | none =>
        refine iteF ?_
        exact hS (by rw [hp2] at hb; exact hb) _ (Same.refl _)
      | some z =>
        refine iteT ?_
        obtain ⟨c, rfl⟩ : ∃ c, r = .note c z := by
          cases r with
          | note c y => cases hp2; exact ⟨c, rfl⟩
          | _ => cases hp2
        obtain ⟨dp, fp, p1, p2, p3, p4⟩ := at_notelab R (hrow.same si)
        exact ⟨_, rfl, u, _, dp, fp, _, rfl, p1, p2, p3, p4, hY _ (by rw [hp2] at hb; exact hb) _ (Same.refl _)⟩
    · rw [List.length_map, hul, out_filter] at hD2
      have hD3 : H2 D = some (.lst ((rs.filterMap labOf).map V.str)) := by rw [hD2, List.map_filterMap]
      have hus2 := hus.same s2
      unfold gName tRet tCB tCons
      dsimp only
      refine lcw_seq (fun R r => ⟨_, rfl, r⟩) (hp.same s2) (by rw [List.length_map]; omega) (out := fun i => (rs[i]?).bind fun r => (refOf r).map fun _ => V.bl true) (fun i x Hi S Y hx si hS hY => ?_) (fun D4 H4 hD4 s4 hD5 => ?_)
      · obtain ⟨u, r, hu, hr2, rfl, hrow⟩ := rows_at hus2 hx
        obtain ⟨dw, fw, w1, w2, w3, w4⟩ := at_word R (hrow.same si)
        refine ⟨rfl, _, rfl, u, _, dw, fw, _, rfl, w1, w2, w3, w4, rfl, _, rfl, ?_⟩
        have hb : (rs[i]?).bind (fun r => (refOf r).map fun _ => V.bl true) = (refOf r).map fun _ => V.bl true := by rw [hr2]; rfl
        rw [ref_word]
        cases hp2 : refOf r with
        | none =>
          refine iteF ?_
          exact hS (by rw [hp2] at hb; exact hb) _ (Same.refl _)
        | some z =>
          refine iteT ?_
          obtain rfl : r = .ref z := by
            cases r with
            | ref y => cases hp2; rfl
            | _ => cases hp2
          obtain ⟨dp, fp, p1, p2, p3, p4⟩ := at_reflab R (hrow.same si)
          refine ⟨_, rfl, u, _, dp, fp, _, rfl, p1, p2, p3, p4, _, rfl, D, _, rfl, .inl (SqL.of (si _ _ hD3)), rfl, flat_strs, ?_⟩
          obtain ⟨c, hc⟩ := hrf z (List.mem_of_getElem? hr2)
          have e : inV (.str z) ((rs.filterMap labOf).map V.str) = true := by
            rw [inV_strs]
            exact decide_eq_true (List.mem_filterMap.mpr ⟨_, hc, rfl⟩)
          show Y (.bl (inV (.str z) ((rs.filterMap labOf).map V.str))) Hi
          rw [e]
          exact hY _ (by rw [hp2] at hb; exact hb) _ (Same.refl _)
      · rw [List.length_map, hul, out_filter] at hD5
        refine ⟨D4, (rs.filterMap refOf).map fun _ => true, rfl, SqL.of (by rw [hD5, List.map_map, List.map_filterMap]; rfl), ?_⟩
        rw [all_tt]
        exact q _ (s2.trans s4)
/-! ### counters_are_known -/
def spCKnown {R : TRows K mg} (T : TPart R) : Sp := fun vs H Q _ => ∃ (cu pu : V) (cs : List (Str × Str)) (bk : List PartD), vs = [cu, pu] ∧ CsArg K H cu cs ∧ PtsArg T H pu bk ∧ cs.length ≤ 100 ∧ bk.length ≤ 50 ∧ (∀ p ∈ bk, p.2.length ≤ 100) ∧ (∀ p ∈ bk, ∀ r ∈ p.2, ∀ c, cntOf r = some c → c ∈ cs.map (·.1)) ∧ ∀ H', Same H H' → Q (.bl true) H'
theorem scCKnown : FnScope ["counters", "parts", "names", "rows", "name", "upper", "part", "row"] ["counters", "parts"] (defScope sCKnown) := ⟨rfl, rfl, rfl, by decide +kernel, rfl, by decide +kernel, by decide +kernel⟩
theorem ok_cKnown {R : TRows K mg} {T : TPart R} (B : TBks T) : FnOk P w K mg base CX0 1 B.cKnown.f B.cKnown.fd ["counters", "parts"] (spCKnown T) := by
  refine B.cKnown.F.ok scCKnown (fun vs H Q E h => ?_) (fun cdv A outer s H vs Q E hr h => ?_)
  · obtain ⟨cu, pu, cs, bk, rfl, _⟩ := h
    rfl
  · obtain ⟨cu, pu, cs, bk, rfl, ⟨cp, ts, rfl, hcp, hcd⟩, ⟨p, ps, rfl, hp, hpd⟩, hcl, hbl, hrl, hcn, q⟩ := h
    refine ⟨_, pss_cons (ps_set (i := 2) scCKnown.nd rfl (Or.inr rfl) (pe_lc (own := [("name", 4), ("upper", 5)]) (g := gTup K 2 (gCons (gName 4) (gCons (gName 5) gNil))) (tt := tYes) (by rfl) scCKnown.nd (pi_seq (pv 0))
        (blkOk_by (N := ["counters", "parts", "names", "rows", "name", "upper", "part", "row"]) (sc := defScope sCKnown) (by decide +kernel)) (fun _ _ _ _ _ => pg_tup (by rfl) (pgs_cons (pg_name (i := 4) scCKnown.nd rfl (Or.inl rfl)) (pgs_cons (pg_name (i := 5) scCKnown.nd rfl (Or.inl rfl)) pgs_nil))) (fun _ _ _ _ _ => pts_nil) (fun _ _ _ _ _ => pv 4)))
      (pss_cons (ps_setLc2 (i := 3) (own := [("part", 6), ("row", 7)]) (vs1 := [7]) (g := gName 6) (g1 := gName 7) (tt := tYes) (by rfl) scCKnown.nd rfl rfl (sw_true rfl rfl rfl (by decide +kernel)) (pi_seq (pv 1))
        (blkOk_by (N := ["counters", "parts", "names", "rows", "name", "upper", "part", "row"]) (sc := defScope sCKnown) (by decide +kernel)) (by decide) (fun _ _ _ _ _ => pg_name (i := 6) scCKnown.nd rfl (Or.inl rfl)) (fun _ _ _ _ _ => pts_nil)
        (fun _ _ _ _ _ => (show PI _ _ _ (iTup K (tFld K (tVar 6) "rows")) from pi_tup (pe_fld (pv 6) rfl))) (fun _ _ _ _ _ => pg_name (i := 7) scCKnown.nd rfl (Or.inl rfl))
        (fun _ _ _ _ _ => pts_one (pt_cmpR (show OpR _ (compareOp .In) (rIn K false) from op_in_seq) (show PE _ _ (tFld K (tVar 7) "word") from pe_fld (pv 7) rfl) (pe_glob (v := .ref B.cw) (by rfl) B.mCW rfl) rfl)) (fun _ _ _ _ _ => pv 7))
      (pss_one (ps_ret (pe_callB (cr_all rfl) (by rfl) R.N.mAll (by decide +kernel) (pa_cons (pe_lc (own := [("row", 7)]) (g := gName 7) (tt := tYes) (by rfl) scCKnown.nd (pi_list (pv 3))
        (blkOk_by (N := ["counters", "parts", "names", "rows", "name", "upper", "part", "row"]) (sc := defScope sCKnown) (by decide +kernel)) (fun _ _ _ _ _ => pg_name (i := 7) scCKnown.nd rfl (Or.inl rfl)) (fun _ _ _ _ _ => pts_nil)
        (fun _ _ _ _ _ => pe_cmpR (show OpR _ (compareOp .In) (rIn K false) from op_in_seq) (show PE _ _ (tFld K (tVar 7) "counter") from pe_fld (pv 7) rfl) (pv 2) rfl)) pa_nil))))), ?_⟩
    have hpl : ps.length = bk.length := paired_len hpd
    have htl : ts.length = cs.length := paired_len hcd
    unfold tSeq tAsg
    refine lcw_seq (fun R r => ⟨_, rfl, r⟩) hcp (by rw [List.length_map]; omega) (out := fun i => (cs[i]?).map fun c => V.str c.1) (fun i x Hi S Y hx si hS hY => ?_) (fun D H2 hD s2 hD2 => ?_)
    · rw [List.getElem?_map] at hx
      cases hxi : ts[i]? with
      | none => rw [hxi] at hx; cases hx
      | some t =>
      rw [hxi] at hx
      cases hx
      obtain ⟨c, hc, ht⟩ := paired_at hcd hxi
      refine ⟨t, _, rfl, Same.sqt si ht, rfl, _, _, rfl, _, _, rfl, rfl, rfl, _, rfl, ?_⟩
      exact hY _ (by show (cs[i]?).map _ = _; rw [hc]; rfl) _ (Same.refl _)
    rw [List.length_map, htl, out_map] at hD2
    have hN : H2 D = some (.lst ((cs.map (·.1)).map V.str)) := by rw [hD2, List.map_map]; rfl
    have hpd2 := paired_mono (fun _ _ z => PtAt.same z s2) hpd
    have hp2 := hp.same s2
    clear hD2
    unfold gName
    dsimp only
    -- the rows that count
    have second : ∀ (σ : L2.St) (Q' : VK), σ = [some (.ref cp), some (.ref p), some (.ref D), none, none, none, none, none] → (∀ (L : Addr) (H3 : Hp) (acc : List (Addr × RowD)), Same H2 H3 → H3 L = some (.lst (acc.map fun x => V.ref x.1)) → acc.length ≤ 5000 → (∀ x ∈ acc, RowAt R H3 x.1 x.2 ∧ ∃ c, cntOf x.2 = some c ∧ c ∈ cs.map (·.1)) → Q' (.ref L) H3) →
        tLc2 (iSeq K (tVar 1)) (gName 6) tYes (iTup K (tFld K (tVar 6) "rows")) (gName 7) (tTest (tOp (rIn K false) (tFld K (tVar 7) "word") (tC (.ref B.cw)))) (tVar 7) [6, 7] [7] σ H2 Q' := by
      intro σ Q' hσ hQ
      subst hσ
      have body : ∀ L, H2 L = none → ∀ {J : It} {G : Hp → Prop}, Walk J (ps.map V.ref).length G (YAt (ps.map V.ref)) → (∀ Hi, Same H2 Hi → G Hi) → _ := fun L hL {J G} wk hG =>
        lc2_walk (K := K) (xs := ps.map V.ref) (D := L) (H := H2) (Q := Q') (vs := [6, 7]) (vs1 := [7]) (k := 6) (k1 := 7) (te1 := tFld K (tVar 6) "rows") (tt1 := tTest (tOp (rIn K false) (tFld K (tVar 7) "word") (tC (.ref B.cw)))) (te := tVar 7)
          (σ := [some (.ref cp), some (.ref p), some (.ref D), none, none, none, none, none]) wk rfl
          (fun i j Hi => Same H2 Hi ∧ ∃ acc : List (Addr × RowD), Hi L = some (.lst (acc.map fun x => V.ref x.1)) ∧ acc.length ≤ 100 * i + j ∧ (∀ x ∈ acc, RowAt R Hi x.1 x.2 ∧ ∃ c, cntOf x.2 = some c ∧ c ∈ cs.map (·.1)))
          ⟨Same.new hL, [], upd_same, Nat.le_refl _, fun x h => by cases h⟩ (fun i Hi hP => hG Hi hP.1) (fun _ => rfl)
          (fun i x Hi hx hP => ?inn) (fun Hi hP => ?fin)
      case inn =>
        obtain ⟨a, qq, ha, hq, rfl, hpt⟩ := pts_at hpd2 hx
        obtain ⟨si, _⟩ := hP
        obtain ⟨dx, tp, us, hat, htp, hus⟩ := hpt
        have hqm := List.mem_of_getElem? hq
        have hul : us.length = qq.2.length := paired_len hus
        refine ⟨tp, us.map V.ref, fun R' r => ⟨_, rfl, a, T.C, dx, _, .ref tp, rfl, si _ _ hat, T.cl, T.noR, part_rows, r⟩, fun j Hj hP => Same.sqt hP.1 htp, fun Hj hP => ?_, fun j y Hj hy hP => ⟨rfl, ?_⟩⟩
        · obtain ⟨sj, acc, h1, h2, h3⟩ := hP
          refine ⟨sj, acc, h1, ?_, h3⟩
          rw [List.length_map] at h2
          have := hrl qq hqm
          omega
        · obtain ⟨sj, acc, h1, h2, h3⟩ := hP
          obtain ⟨u, r, hu, hr2, rfl, hrow⟩ := rows_at hus hy
          have hrow2 := hrow.same sj
          obtain ⟨dw, fw, w1, w2, w3, w4⟩ := at_word R hrow2
          have hj : j < us.length := (List.getElem?_eq_some_iff.mp hu).1
          have hi : i < ps.length := (List.getElem?_eq_some_iff.mp ha).1
          refine ⟨_, rfl, u, _, dw, fw, _, rfl, w1, w2, w3, w4, B.cw, cwV, rfl, .inr (B.hCW _), rfl, rfl, ?_⟩
          refine ⟨_, rfl, ?_⟩
          show if inV (.str (rowWord r)) cwV = true then _ else _
          rw [word_cnt]
          cases hc : cntOf r with
          | none =>
            refine iteF ?_
            exact ⟨sj, acc, h1, by omega, h3⟩
          | some c =>
            refine iteT ⟨_, rfl, _, h1, ?_, Same.updn sj hL, acc ++ [(u, r)], ?_, ?_, ?_⟩
            · rw [List.length_map]
              have big : (6001 : Nat) ≤ sizeLine := by decide
              have h5 : acc.length ≤ 100 * 50 + 100 := by
                have := hrl qq hqm
                omega
              omega
            · rw [upd_same, List.map_append]
              rfl
            · rw [List.length_append]
              show acc.length + 1 ≤ _
              omega
            · intro x hx2
              have up : ∀ {u' : Addr} {r' : RowD}, RowAt R Hj u' r' → RowAt R (upd Hj L (.lst (acc.map (fun x => V.ref x.1) ++ [.ref u]))) u' r' := fun hh => by
                obtain ⟨dy, e⟩ := hh
                obtain ⟨gs, eg⟩ := insRow_ins R dy _
                exact ⟨dy, by rw [upd_ne (fun z => by rw [z, h1, eg] at e; cases e)]; exact e⟩
              rcases List.mem_append.mp hx2 with hx2 | hx2
              · exact ⟨up (h3 x hx2).1, (h3 x hx2).2⟩
              · rw [List.mem_singleton.mp hx2]
                exact ⟨up hrow2, c, hc, hcn qq hqm r (List.mem_of_getElem? hr2) c hc⟩
      case fin =>
        obtain ⟨si, acc, h1, h2, h3⟩ := hP
        rw [List.length_map] at h2
        exact hQ L Hi acc si h1 (by omega) h3
      exact hp2.elim (fun h => .inl ⟨_, rfl, p, rfl, ⟨_, h⟩, fun L hL => body L hL walk_list (fun Hi s => s.seq h)⟩) (fun h => .inr ⟨_, rfl, p, rfl, ⟨_, h⟩, fun L hL => body L hL walk_tup (fun Hi s => Same.sqt s h)⟩)
    refine second _ _ rfl (fun L H3 acc s3 hL3 hlen hall => ?_)
    unfold tRet tCB tCons
    refine lcw_list (fun R r => ⟨_, rfl, r⟩) (SqL.of hL3) (by rw [List.length_map]; omega) (out := fun i => (acc[i]?).map fun _ => V.bl true) (fun i x Hi S Y hx si hS hY => ?_) (fun D4 H4 hD4 s4 hD5 => ?_)
    · rw [List.getElem?_map] at hx
      cases hxi : acc[i]? with
      | none => rw [hxi] at hx; cases hx
      | some xr =>
      rw [hxi] at hx
      cases hx
      obtain ⟨hrow, c, hc, hcm⟩ := hall xr (List.mem_of_getElem? hxi)
      obtain ⟨dp, fp, p1, p2, p3, p4⟩ := at_counter R (hrow.same si) hc
      refine ⟨rfl, _, rfl, xr.1, _, dp, fp, _, rfl, p1, p2, p3, p4, _, rfl, D, _, rfl, .inl (SqL.of (si _ _ (s3 _ _ hN))), rfl, flat_strs, ?_⟩
      have e : inV (.str c) ((cs.map (·.1)).map V.str) = true := by rw [inV_strs]; exact decide_eq_true hcm
      show Y (.bl (inV (.str c) ((cs.map (·.1)).map V.str))) Hi
      rw [e]
      exact hY _ (by show (acc[i]?).map _ = _; rw [hxi]; rfl) _ (Same.refl _)
    · rw [List.length_map, out_map] at hD5
      refine ⟨D4, acc.map fun _ => true, rfl, SqL.of (by rw [hD5, List.map_map]; rfl), ?_⟩
      rw [all_tt]
      exact q _ ((s2.trans s3).trans s4)
end
end Pn

namespace Pn
open PySem L2 TL
section
variable {P : Program} {w : World} {K : PySem.W.Frag} {mg : Str → Option Value} {base : Heap}
/-! ### the last part -/
theorem last_at {ps : List Addr} {bk : List PartD} {F : Addr → PartD → Prop} (h : Paired F ps bk) (ne : bk ≠ []) : ∃ (a : Addr) (q : PartD) (ps' : List Addr) (bk' : List PartD), ps = ps' ++ [a] ∧ bk = bk' ++ [q] ∧ F a q ∧ lastName bk = q.1 := by
  have hl : ps.length = bk.length := paired_len h
  obtain ⟨bk', q, rfl⟩ : ∃ bi q, bk = bi ++ [q] := ⟨_, _, (List.dropLast_concat_getLast ne).symm⟩
  obtain ⟨ps', a, rfl⟩ : ∃ pi a, ps = pi ++ [a] := ⟨_, _, (List.dropLast_concat_getLast (by intro z; rw [z] at hl; simp at hl)).symm⟩
  have hli : ps'.length = bk'.length := by simpa using hl
  obtain ⟨q2, hq, hF⟩ := paired_at h (show (ps' ++ [a])[ps'.length]? = some a by simp)
  rw [hli] at hq
  obtain rfl : q = q2 := by simpa using hq
  exact ⟨a, q, ps', bk', rfl, rfl, hF, by unfold lastName; simp⟩
theorem seq_last {H : Hp} {p : Addr} {ps' : List Addr} {a : Addr} (h : Sq K H p ((ps' ++ [a]).map V.ref)) {Q : VK} (q : Q (.ref a) H) : rIx K (.ref p) (.int (-1)) H Q := by
  have e : atI ((ps' ++ [a]).map V.ref) (-1) = some (.ref a) := by rw [List.map_append]; exact atI_last _ _
  rcases h with h | h
  · exact .inl ⟨p, _, _, _, rfl, rfl, h, e, q⟩
  · exact .inr (.inl ⟨p, _, _, _, rfl, rfl, h, e, q⟩)
/-! ### names_reached -/
def spNReach {R : TRows K mg} (T : TPart R) : Sp := fun vs H Q _ => ∃ (pu : V) (bk : List PartD), vs = [pu] ∧ PtsArg T H pu bk ∧ bk ≠ [] ∧ bk.length ≤ 50 ∧ (∀ p ∈ bk, p.2.length ≤ 100) ∧ ∀ (F : Addr) (H' : Hp), H F = none → Same H H' → H' F = some (.lst ((reached bk).map V.str)) → Q (.ref F) H'
theorem scNReach : FnScope ["parts", "names", "part"] ["parts"] (defScope sNReach) := ⟨rfl, rfl, rfl, by decide +kernel, rfl, by decide +kernel, by decide +kernel⟩
theorem reach_len {l : List PartD} {ns : List Str} (h : ∀ p ∈ l, p.2.length ≤ 100) : (reach l ns).length ≤ ns.length + 100 * l.length := by
  induction l with
  | nil => exact Nat.le_refl _
  | cons p l ih =>
    show (reachStep p (reach l ns)).length ≤ _
    have q := ih fun x hx => h x (List.mem_cons_of_mem _ hx)
    have q2 := puts_len p.2
    have q3 := h p List.mem_cons_self
    unfold reachStep
    rw [List.length_cons]
    split
    · rw [List.length_append]; omega
    · omega
theorem ok_nReach {R : TRows K mg} {T : TPart R} (B : TBks T) : FnOk P w K mg base CX0 2 B.nReach.f B.nReach.fd ["parts"] (spNReach T) := by
  refine B.nReach.F.ok scNReach (fun vs H Q E h => ?_) (fun cdv A outer s H vs Q E hr h => ?_)
  · obtain ⟨pu, bk, rfl, _⟩ := h
    rfl
  · obtain ⟨pu, bk, rfl, ⟨p, ps, rfl, hp, hpd⟩, ne, hlen, hrl, q⟩ := h
    refine ⟨_, pss_cons (ps_set (i := 1) scNReach.nd rfl (Or.inl rfl) (pe_lst (pa_cons (pe_fld (pe_ix ix_seq (pv 0) (pe_un un_neg pe_int) (fun _ _ => rfl)) rfl) pa_nil)))
      (pss_cons (ps_for PassesOwn.never rfl (RT.pi_revA (by rfl) B.mRev (pv 0)) (pg_name (i := 2) scNReach.nd rfl (Or.inl rfl))
        (pss_one (ps_if (pt_cmpR op_in_seq (pe_fld (pv 2) rfl) (pv 1) rfl)
          (pss_one (ps_expr (pe_bm PySem.F.plainAttrs_list PySem.F.slot_list_extend PySem.F.type_list_extend mt_extend (pv 1) (pa_cons (pe_call (ok_nPut B) hr rfl B.nPut.m B.nPut.F.kp B.nPut.b .nil pass0 (pa_cons (pv 2) pa_nil)) pa_nil)))) pss_nil)))
      (pss_one (ps_ret (pv 1)))), ?_⟩
    obtain ⟨a, ql, ps', bk', e1, e2, hla, hln⟩ := last_at hpd ne
    have hpl : ps.length = bk.length := paired_len hpd
    have big : (10001 : Nat) ≤ sizeLine := by decide
    obtain ⟨dx, tp, us, hat, _, _⟩ := id hla
    have hp0 := hp
    rw [e1] at hp0
    refine ⟨_, rfl, _, rfl, seq_last hp0 ⟨a, T.C, dx, _, .str ql.1, rfl, hat, T.cl, T.noN, part_name, (by show 1 ≤ sizeLine; decide), fun F hF => ?_⟩⟩
    have s1 := Same.new (o := .lst [.str ql.1]) hF
    have hF1 : upd H F (.lst [.str ql.1]) F = some (.lst ([lastName bk].map V.str)) := by rw [upd_same, hln]; rfl
    have hFn := hF
    generalize upd H F (.lst [.str ql.1]) = H1 at s1 hF1 ⊢
    have start : reach (bk.drop (bk.length - 0)) [lastName bk] = [lastName bk] := by rw [Nat.sub_zero, List.drop_length]; rfl
    refine ⟨_, rfl, p, _, rfl, (hp.elim (fun h => .inl ⟨s1.seq h, RT.for_Itv (xs := ps.map V.ref) (fun i σ Hi => ∃ x2, σ = [some (.ref p), some (.ref F), x2] ∧ Same H Hi ∧ Hi F = some (.lst ((reach (bk.drop (bk.length - i)) [lastName bk]).map V.str))) ⟨_, rfl, s1, by rw [start]; exact hF1⟩ (fun i σ Hi hP => ?keep) (fun i x σ Hi hi hx hP => ?turn) (fun σ Hi hP => ?done)⟩)
      (fun h => .inr ⟨Same.sqt s1 h, RT.for_ItvT (xs := ps.map V.ref) (fun i σ Hi => ∃ x2, σ = [some (.ref p), some (.ref F), x2] ∧ Same H Hi ∧ Hi F = some (.lst ((reach (bk.drop (bk.length - i)) [lastName bk]).map V.str))) ⟨_, rfl, s1, by rw [start]; exact hF1⟩ (fun i σ Hi hP => ?keep2) (fun i x σ Hi hi hx hP => ?turn2) (fun σ Hi hP => ?done2)⟩))⟩
    case keep =>
      obtain ⟨_, _, s3, hFi⟩ := hP
      exact s3.seq h
    case keep2 =>
      obtain ⟨_, _, s3, hFi⟩ := hP
      exact Same.sqt s3 h
    case done | done2 =>
      obtain ⟨_, rfl, s3, hFi⟩ := hP
      rw [List.length_map, hpl, Nat.sub_self, List.drop_zero] at hFi
      exact ⟨_, rfl, q F _ hFn s3 hFi⟩
    case turn | turn2 =>
      obtain ⟨x2, rfl, s3, hFi⟩ := hP
      rw [List.length_map] at hi hx
      obtain ⟨a2, qq, ha2, hq, rfl, hpt⟩ := pts_at hpd hx
      have hqm := List.mem_of_getElem? hq
      have hdrop : bk.drop (bk.length - (i + 1)) = qq :: bk.drop (bk.length - i) := by
        have e4 : ps.length - 1 - i = bk.length - (i + 1) := by omega
        rw [e4] at hq
        have lt : bk.length - (i + 1) < bk.length := by omega
        rw [List.drop_eq_getElem_cons lt]
        have e5 : bk[bk.length - (i + 1)] = qq := by
          rw [List.getElem?_eq_getElem lt] at hq
          exact Option.some.inj hq
        rw [e5]
        congr 2
        omega
      have hstep : reach (bk.drop (bk.length - (i + 1))) [lastName bk] = reachStep qq (reach (bk.drop (bk.length - i)) [lastName bk]) := by rw [hdrop]; rfl
      obtain ⟨dx2, tp2, us2, hat2, _, _⟩ := hpt.same s3
      refine ⟨_, rfl, a2, T.C, dx2, _, .str qq.1, rfl, hat2, T.cl, T.noN, part_name, _, rfl, F, _, rfl, .inl (SqL.of hFi), rfl, flat_strs, _, rfl, ?_⟩
      show if inV (.str qq.1) ((reach (bk.drop (bk.length - i)) [lastName bk]).map V.str) = true then _ else _
      rw [inV_strs]
      have hlr := reach_len (l := bk.drop (bk.length - i)) (ns := [lastName bk]) (fun p hp => hrl p (List.mem_of_mem_drop hp))
      have hll : (bk.drop (bk.length - i)).length ≤ 50 := by rw [List.length_drop]; omega
      by_cases hin : qq.1 ∈ reach (bk.drop (bk.length - i)) [lastName bk]
      · refine iteTD (decide_eq_true hin) ?_
        refine ⟨_, rfl, .inl ⟨rfl, _, SqL.of hFi⟩, _, rfl, a2, qq, rfl, hpt.same s3, hrl qq hqm, fun D H4 hD s4 hD4 => ⟨F, D, _, _, rfl, rfl, s4 _ _ hFi, hD4, ?_, ?_⟩⟩
        · rw [List.length_map, List.length_map]
          have h1 := puts_len qq.2
          have h2 := hrl qq hqm
          rw [List.length_singleton] at hlr
          omega
        · refine ⟨_, rfl, Same.updn (s3.trans s4) hFn, ?_⟩
          rw [upd_same, hstep]
          unfold reachStep
          rw [if_pos hin, List.map_append]
      · refine iteFD (decide_eq_false hin) ?_
        refine ⟨_, rfl, s3, ?_⟩
        rw [hstep]
        unfold reachStep
        rw [if_neg hin]
        exact hFi
end
end Pn

namespace Pn
open PySem L2 TL
section
variable {P : Program} {w : World} {K : PySem.W.Frag} {mg : Str → Option Value} {base : Heap}
/-! ### unroll -/
def spUnr1 {R : TRows K mg} (T : TPart R) : Sp := fun vs H Q _ => ∃ (a kp : Addr) (q : PartD) (kvs : List (Key × V)) (kn : List PartD), vs = [.ref a, .ref kp] ∧ PtAt T H a q.1 q.2 ∧ H kp = some (.dK kvs) ∧ q.2.length ≤ 100 ∧ (unrollIn kn q.2).length ≤ 4000 ∧
  (∀ z, RowD.put z ∈ q.2 → ∃ (rs : List RowD) (f : Addr) (us : List Addr), kn.lookup z = some rs ∧ valV kvs (.inr z) = some (.ref f) ∧ H f = some (.lst (us.map V.ref)) ∧ RowsIn R H us rs) ∧
  ∀ (F : Addr) (H' : Hp) (us : List Addr), H F = none → Same H H' → H' F = some (.lst (us.map V.ref)) → RowsIn R H' us (unrollIn kn q.2) → Q (.ref F) H'
theorem scUnr1 : FnScope ["part", "flat", "rows", "row"] ["part", "flat"] (defScope sUnr1) := ⟨rfl, rfl, rfl, by decide +kernel, rfl, by decide +kernel, by decide +kernel⟩
theorem unroll_take {kn : List PartD} {rs : List RowD} {j : Nat} {r : RowD} (h : rs[j]? = some r) : unrollIn kn (rs.take (j + 1)) = unrollIn kn (rs.take j) ++ expand kn r := by
  unfold unrollIn
  rw [List.take_add_one, h, List.flatMap_append]
  show _ ++ List.flatMap _ [r] = _
  rw [List.flatMap_singleton]
theorem unroll_le {kn : List PartD} {rs : List RowD} {j : Nat} : (unrollIn kn (rs.take j)).length ≤ (unrollIn kn rs).length := by
  have e : unrollIn kn rs = unrollIn kn (rs.take j) ++ unrollIn kn (rs.drop j) := by
    unfold unrollIn
    rw [← List.flatMap_append, List.take_append_drop]
  rw [e, List.length_append]
  omega
theorem ok_unr1 {R : TRows K mg} {T : TPart R} (B : TBks T) : FnOk P w K mg base CX0 1 B.unroll.f B.unroll.fd ["part", "flat"] (spUnr1 T) := by
  refine B.unroll.F.ok scUnr1 (fun vs H Q E h => ?_) (fun cdv A outer s H vs Q E hr h => ?_)
  · obtain ⟨a, kp, q, kvs, kn, rfl, _⟩ := h
    rfl
  · obtain ⟨a, kp, qq, kvs, kn, rfl, ⟨dx, tp, us, ha, htp, hus⟩, hK, hl, hul, hkn, q⟩ := h
    refine ⟨_, pss_cons (ps_set (i := 2) scUnr1.nd rfl (Or.inl rfl) (pe_lst pa_nil))
      (pss_cons (ps_for PassesOwn.never rfl (pi_tup (pe_fld (pv 0) rfl)) (pg_name (i := 3) scUnr1.nd rfl (Or.inl rfl))
        (pss_one (ps_if (pt_cmpR op_eq (pe_fld (pv 3) rfl) pe_str (nomark _))
          (pss_one (ps_expr (pe_bm PySem.F.plainAttrs_list PySem.F.slot_list_extend PySem.F.type_list_extend mt_extend (pv 2) (pa_cons (pe_dget (roomU hr) (pv 1) (pe_fld (pv 3) rfl) (fun _ _ => rfl)) pa_nil))))
          (pss_one (ps_expr (pe_bm PySem.F.plainAttrs_list PySem.F.slot_list_append PySem.F.type_list_append mt_append (pv 2) (pa_cons (pv 3) pa_nil)))))))
      (pss_one (ps_ret (pv 2)))), ?_⟩
    refine ⟨Nat.zero_le _, fun F hF => ?_⟩
    have s1 := Same.new (o := .lst []) hF
    have hF1 : upd H F (.lst []) F = some (.lst (([] : List Addr).map V.ref)) := upd_same
    generalize upd H F (.lst []) = H1 at s1 hF1 ⊢
    have huq : us.length = qq.2.length := paired_len hus
    have big : (10001 : Nat) ≤ sizeLine := by decide
    unfold gName tSeq
    dsimp only
    refine forw_tup (fun R r => ⟨_, rfl, a, T.C, dx, _, .ref tp, rfl, s1 _ _ ha, T.cl, T.noR, part_rows, r⟩) (Same.sqt s1 htp) (fun j σ Hj => ∃ x3 fs, σ = [some (.ref a), some (.ref kp), some (.ref F), x3] ∧ Same H Hj ∧ Hj F = some (.lst ((fs : List Addr).map V.ref)) ∧ RowsIn R H fs (unrollIn kn (qq.2.take j))) ⟨_, [], rfl, s1, hF1, .nil⟩ (fun j σ Hj hP => by obtain ⟨_, _, _, s, _⟩ := hP; exact Same.sqt s htp) (fun j x σ Hj hx hP => ?_) (fun σ Hj hP => ?_)
    · obtain ⟨x3, fs, rfl, sj, hFj, hfs⟩ := hP
      obtain ⟨u, r, hu, hr2, rfl, hrow⟩ := rows_at hus hx
      obtain ⟨dw, fw, w1, w2, w3, w4⟩ := at_word R (hrow.same sj)
      have hfl : fs.length = _ := paired_len hfs
      have hle := unroll_le (kn := kn) (rs := qq.2) (j := j)
      have hle2 := unroll_le (kn := kn) (rs := qq.2) (j := j + 1)
      rw [unroll_take hr2, List.length_append] at hle2
      refine ⟨_, rfl, u, _, dw, fw, _, rfl, w1, w2, w3, w4, rfl, _, rfl, ?_⟩
      rw [put_word]
      cases hp : putOf r with
      | none =>
        refine iteF ?_
        have he : expand kn r = [r] := by
          cases r with
          | put y => cases hp
          | _ => rfl
        refine ⟨_, rfl, .inl ⟨rfl, _, SqL.of hFj⟩, _, rfl, F, _, _, rfl, rfl, hFj, ?_, ?_⟩
        · rw [List.length_map]; omega
        · refine ⟨_, fs ++ [u], rfl, Same.updn sj hF, by rw [upd_same, List.map_append]; rfl, ?_⟩
          rw [unroll_take hr2, he]
          exact paired_snoc hrow hfs
      | some z =>
        refine iteT ?_
        obtain rfl : r = .put z := by
          cases r with
          | put y => cases hp; rfl
          | _ => cases hp
        obtain ⟨dp, fp, p1, p2, p3, p4⟩ := at_part R (hrow.same sj)
        obtain ⟨rs, f, gs, hlk, hv, hf, hgs⟩ := hkn z (List.mem_of_getElem? hr2)
        have he : expand kn (.put z) = rs := by show (kn.lookup z).getD [] = rs; rw [hlk]; rfl
        rw [he] at hle2
        have hgl : gs.length = rs.length := paired_len hgs
        refine ⟨_, rfl, .inl ⟨rfl, _, SqL.of hFj⟩, _, rfl, _, rfl, u, _, dp, fp, _, rfl, p1, p2, p3, p4, kp, _, rfl, (by have g := DGet.k (k := Sum.inr z) (sj _ _ hK); rw [hv] at g; exact g), ?_⟩
        refine ⟨F, f, _, _, rfl, rfl, hFj, sj _ _ hf, ?_, ?_⟩
        · rw [List.length_map, List.length_map]; omega
        · refine ⟨_, fs ++ gs, rfl, Same.updn sj hF, by rw [upd_same, List.map_append], ?_⟩
          rw [unroll_take hr2, he]
          exact paired_app hfs hgs
    · obtain ⟨x3, fs, rfl, sj, hFj, hfs⟩ := hP
      rw [List.length_map, huq, List.take_length] at hfs
      exact ⟨_, rfl, q F Hj fs hF sj hFj (hfs.same sj)⟩
/-! ### unrolled_text -/
def spUText {R : TRows K mg} (T : TPart R) : Sp := fun vs H Q _ => ∃ (pu : V) (bk : List PartD), vs = [pu] ∧ PtsArg T H pu bk ∧ bk ≠ [] ∧ (bk.map (·.1)).Nodup ∧ bk.length ≤ 50 ∧ (∀ p ∈ bk, p.2.length ≤ 100) ∧ Earlier bk ∧ (∀ z rs, (z, rs) ∈ knowns bk → rs.length ≤ 4000) ∧
  ∀ (t : Addr) (H' : Hp) (us : List Addr), Same H H' → SqT K H' t (us.map V.ref) → RowsIn R H' us (unrolled bk) → Q (.ref t) H'
theorem scUText : FnScope ["parts", "names", "flat", "part"] ["parts"] (defScope sUText) := ⟨rfl, rfl, rfl, by decide +kernel, rfl, by decide +kernel, by decide +kernel⟩
theorem rowsin_dk {R : TRows K mg} {H : Hp} {k : Addr} {kvs kv2 : List (Key × V)} (hK : H k = some (.dK kvs)) {us : List Addr} {rs : List RowD} (h : RowsIn R H us rs) : RowsIn R (upd H k (.dK kv2)) us rs :=
  paired_mono (fun a r e => by
    obtain ⟨dy, e⟩ := e
    obtain ⟨gs, eg⟩ := insRow_ins R dy r
    exact ⟨dy, by rw [upd_ne (fun z => by rw [z, hK, eg] at e; cases e)]; exact e⟩) h
theorem last_reached {bk : List PartD} : lastName bk ∈ reached bk := reach_sub _ (List.mem_singleton.mpr rfl)
theorem ok_uText {R : TRows K mg} {T : TPart R} (B : TBks T) : FnOk P w K mg base CX0 3 B.uText.f B.uText.fd ["parts"] (spUText T) := by
  refine B.uText.F.ok scUText (fun vs H Q E h => ?_) (fun cdv A outer s H vs Q E hr h => ?_)
  · obtain ⟨pu, bk, rfl, _⟩ := h
    rfl
  · obtain ⟨pu, bk, rfl, harg, ne, hnd, hlen, hrl, hea, hsm, q⟩ := h
    obtain ⟨p, ps, rfl, hp, hpd⟩ := id harg
    refine ⟨_, pss_cons (ps_set (i := 1) scUText.nd rfl (Or.inl rfl) (pe_call (ok_nReach B) hr rfl B.nReach.m B.nReach.F.kp B.nReach.b .nil pass0 (pa_cons (pv 0) pa_nil)))
      (pss_cons (ps_set (i := 2) scUText.nd rfl (Or.inl rfl) pe_dnewK)
      (pss_cons (ps_for PassesOwn.never rfl (pi_seq (pv 0)) (pg_name (i := 3) scUText.nd rfl (Or.inl rfl))
        (pss_one (ps_if (pt_cmpR op_in_seq (pe_fld (pv 3) rfl) (pv 1) rfl)
          (pss_one (ps_dput (roomU hr) (pv 2) (pe_fld (pv 3) rfl) (pe_call (ok_unr1 B) (hr.mono (by decide)) rfl B.unroll.m B.unroll.F.kp B.unroll.b .nil pass0 (pa_cons (pv 3) (pa_cons (pv 2) pa_nil))) (by rfl))) pss_nil)))
      (pss_one (ps_ret (pe_callTy call_tuple_of (by rfl) T.mTup (by decide +kernel) (pa_cons (pe_dget (roomU hr) (pv 2) (pe_fld (pe_ix ix_seq (pv 0) (pe_un un_neg pe_int) (fun _ _ => rfl)) rfl) (fun _ _ => rfl)) pa_nil)))))), ?_⟩
    refine ⟨_, rfl, .ref p, bk, rfl, harg, ne, hlen, hrl, fun N H1 hN s1 hN1 => ?_⟩
    unfold gName
    dsimp only
    refine fun kp hkp => ?_
    have s2 := s1.trans (Same.new (o := .dK []) hkp)
    have hN2 := Same.new (o := .dK []) hkp _ _ hN1
    have hK0 : upd H1 kp (.dK []) kp = some (.dK []) := upd_same
    have hkH : H kp = none := s1.free hkp
    generalize upd H1 kp (.dK []) = H2 at s2 hN2 hK0 ⊢
    have hpl : ps.length = bk.length := paired_len hpd
    have big : (10001 : Nat) ≤ sizeLine := by decide
    have nN : N ≠ kp := fun z => by rw [z, hK0] at hN2; cases hN2
    unfold tSeq
    dsimp only
    refine forw_seq (fun R r => ⟨_, rfl, r⟩) hp (fun i σ Hi => ∃ x3 kvs, σ = [some (.ref p), some (.ref N), some (.ref kp), x3] ∧ Same H Hi ∧ Hi N = some (.lst ((reached bk).map V.str)) ∧ Hi kp = some (.dK kvs) ∧ kvs.length ≤ i ∧
        ∀ z rs, (knowns (bk.take i)).lookup z = some rs → z ∈ reached bk → ∃ (f : Addr) (us : List Addr), valV kvs (.inr z) = some (.ref f) ∧ Hi f = some (.lst (us.map V.ref)) ∧ RowsIn R Hi us rs)
      ⟨_, [], rfl, s2, hN2, hK0, Nat.le_refl _, fun z rs h => by cases h⟩ (fun i σ Hi hP => by obtain ⟨_, _, _, s, _⟩ := hP; exact s) (fun i x σ Hi hx hP => ?_) (fun σ Hi hP => ?_)
    · obtain ⟨x3, kvs, rfl, si, hNi, hKi, hkl, hkn⟩ := hP
      obtain ⟨a, qq, ha, hq, rfl, hpt⟩ := pts_at hpd hx
      have hqm := List.mem_of_getElem? hq
      have hi : i < bk.length := (List.getElem?_eq_some_iff.mp hq).1
      obtain ⟨dx, tp, us, hat, _, _⟩ := hpt.same si
      have hkt : knowns (bk.take (i + 1)) = (qq.1, unrollIn (knowns (bk.take i)) qq.2) :: knowns (bk.take i) := by
        rw [List.take_add_one, hq]
        exact knowns_snoc _ _
      refine ⟨_, rfl, a, T.C, dx, _, .str qq.1, rfl, hat, T.cl, T.noN, part_name, _, rfl, N, _, rfl, .inl (SqL.of hNi), rfl, flat_strs, _, rfl, ?_⟩
      show if inV (.str qq.1) ((reached bk).map V.str) = true then _ else _
      rw [inV_strs]
      by_cases hin : qq.1 ∈ reached bk
      · refine iteTD (decide_eq_true hin) ?_
        refine ⟨_, rfl, _, rfl, a, kp, qq, kvs, knowns (bk.take i), rfl, hpt.same si, hKi, hrl qq hqm, hsm _ _ (knowns_mono _ (knowns_in hq)), fun z hz => ?_, fun F H4 gs hF4 s4 hF5 hgs => ?_⟩
        · have hzm := hea i qq hq z hz
          have hzk : z ∈ (knowns (bk.take i)).map (·.1) := by rw [knowns_len]; exact List.mem_reverse.mpr hzm
          obtain ⟨rs, hlk, _⟩ := lookup_of_mem hzk
          have hzr : z ∈ reached bk := reach_closed (no_later hnd hea) qq hqm hin z hz
          obtain ⟨f, us, h1, h2, h3⟩ := hkn z rs hlk hzr
          exact ⟨rs, f, us, hlk, h1, h2, h3⟩
        · have nF : F ≠ kp := fun z => by rw [z, hKi] at hF4; cases hF4
          have hK4 := s4 _ _ hKi
          refine ⟨_, rfl, _, rfl, a, T.C, dx, _, .str qq.1, rfl, s4 _ _ hat, T.cl, T.noN, part_name, kp, _, rfl, DPut.k (k := Sum.inr qq.1) hK4 (by omega), ?_⟩
          refine ⟨_, putK kvs (.inr qq.1) (.ref F), rfl, Same.updn (si.trans s4) hkH, ?_, upd_same, ?_, ?_⟩
          · rw [upd_ne nN]
            exact s4 _ _ hNi
          · have := putK_len kvs (Sum.inr qq.1 : Key) (V.ref F)
            omega
          · intro z rs hz hzr
            rw [hkt, List.lookup_cons] at hz
            rw [valV_put]
            by_cases e : z = qq.1
            · subst e
              rw [beq_self_eq_true] at hz
              have hz2 := Option.some.inj hz
              subst hz2
              rw [if_pos rfl]
              exact ⟨F, gs, rfl, by rw [upd_ne nF]; exact hF5, rowsin_dk hK4 hgs⟩
            · rw [show (z == qq.1) = false from by simpa using e] at hz
              rw [if_neg (fun q => e (by injection q))]
              obtain ⟨f, us2, h1, h2, h3⟩ := hkn z rs hz hzr
              exact ⟨f, us2, h1, by rw [upd_ne (fun x => by rw [x, hKi] at h2; cases h2)]; exact s4 _ _ h2, rowsin_dk hK4 (h3.same s4)⟩
      · refine iteFD (decide_eq_false hin) ?_
        refine ⟨_, kvs, rfl, si, hNi, hKi, by omega, fun z rs hz hzr => ?_⟩
        rw [hkt, List.lookup_cons] at hz
        rw [show (z == qq.1) = false from by simpa using fun e : z = qq.1 => hin (e ▸ hzr)] at hz
        exact hkn z rs hz hzr
    · obtain ⟨x3, kvs, rfl, si, hNi, hKi, hkl, hkn⟩ := hP
      rw [List.length_map, hpl, List.take_length] at hkn
      obtain ⟨a, ql, ps', bk', e1, e2, hla, hln⟩ := last_at hpd ne
      have hp0 := hp.same si
      rw [e1] at hp0
      obtain ⟨dx, tp, us0, hat, _, _⟩ := hla.same si
      have hk2 : knowns bk = (ql.1, unrollIn (knowns bk') ql.2) :: knowns bk' := by rw [e2]; exact knowns_snoc _ _
      have hu : unrolled bk = unrollIn (knowns bk') ql.2 := by
        unfold unrolled
        rw [hk2]
        rfl
      obtain ⟨f, us, h1, h2, h3⟩ := hkn ql.1 (unrollIn (knowns bk') ql.2) (by rw [hk2]; simp) (by rw [← hln]; exact last_reached)
      refine ⟨_, rfl, _, rfl, _, rfl, seq_last hp0 ⟨a, T.C, dx, _, .str ql.1, rfl, hat, T.cl, T.noN, part_name, kp, _, rfl, (by have g := DGet.k (k := Sum.inr ql.1) hKi; rw [h1] at g; exact g), ?_⟩⟩
      refine ⟨f, us.map V.ref, rfl, .inl ⟨SqL.of h2, fun l hl2 => ?_⟩⟩
      have s9 := Same.new (o := .tup (us.map V.ref)) hl2
      exact q l _ us (si.trans s9) (SqT.of upd_same) (by rw [hu]; exact h3.same s9)
end
end Pn

namespace Pn
open PySem L2
/-! ### tuple(list), of which it is known that it keeps no own attributes, and dict(..) of such a tuple of pairs -/
def TupX (H : Hp) (a : Addr) (xs : List V) : Prop := ∃ o : Obj, o.dict = none ∧ H a = some (.frz o (.tup xs))
theorem TupX.same {H H' : Hp} {a : Addr} {xs : List V} (h : TupX H a xs) (s : Same H H') : TupX H' a xs := by
  obtain ⟨o, d, e⟩ := h
  exact ⟨o, d, s _ _ e⟩
theorem TupX.sqt {K : PySem.W.Frag} {H : Hp} {a : Addr} {xs : List V} (h : TupX H a xs) : SqT K H a xs := by
  obtain ⟨o, _, e⟩ := h
  exact .inl (.inr ⟨o, e⟩)
def rTupX (K : PySem.W.Frag) : List V → Hp → VK → Prop := fun xs H Q => ∃ (p : Addr) (ys : List V), xs = [.ref p] ∧ SqL K H p ys ∧ ∀ (l : Addr) (H' : Hp), H l = none → Same H H' → Mo H H' → (∀ b, b ≠ l → H' b = H b) → TupX H' l ys → Q (.ref l) H'
theorem cr_tupX {X : Cx} : CallR X (.type "tuple") (rTupX X.K) := by
  rintro pins s σ H xs us Q I r ⟨p, ys, rfl, hq, q⟩
  obtain ⟨u, rfl, rx⟩ := vals1 r
  cases rx
  obtain ⟨its, rv, pl, hz⟩ := I.list hq
  have hlen := rv.length
  refine call_tuple_list pl.isList (fun h' kp => ?_) (by simp only [List.size_toArray] <;> omega)
  have I1 : Inv X pins σ H { s with heap := h' } := I.kept (t' := s.toks) kp
  have fr := I1.hok.fresh (Nat.le_refl _)
  let o : Obj := { cls := .type "tuple", data := .seq its.toArray }
  have I2 : Inv X pins σ (upd H h'.objs.size (.frz o (.tup ys))) { s with heap := h'.push o } :=
    I1.laid (t' := s.toks) (fun b ob e => Heap.get?_push_of_some _ e) (Nat.le_refl _) ⟨Heap.get?_push_size _ rfl, hz, its, rv, PyProof.Rows.IsTup.new _ _⟩
  exact ⟨.ref h'.objs.size, _, I2, rfl, q _ _ fr (Same.new fr) Mo.upd (fun b nb => upd_ne nb) ⟨o, rfl, upd_same⟩⟩
/-- .. or of such a tuple: the very same -/
def rTupX2 (K : PySem.W.Frag) : List V → Hp → VK → Prop := fun xs H Q => ∃ (p : Addr) (ys : List V), xs = [.ref p] ∧ (SqL K H p ys ∨ TupX H p ys) ∧ ∀ (l : Addr) (H' : Hp), Same H H' → TupX H' l ys → Q (.ref l) H'
theorem cr_tupX2 {X : Cx} : CallR X (.type "tuple") (rTupX2 X.K) := by
  rintro pins s σ H xs us Q I r ⟨p, ys, rfl, hq | hq, q⟩
  · exact cr_tupX pins s σ H _ us Q I r ⟨p, ys, rfl, hq, fun l H' _ s' _ _ h => q l H' s' h⟩
  · exact call_tuple_of pins s σ H _ us Q I r ⟨p, ys, rfl, .inr ⟨hq.sqt, q p H (Same.refl _) hq⟩⟩
theorem vps_of {X : Cx} {pins : List (Addr × Obj)} {σ : L2.St} {H : Hp} {s : Shared} (I : Inv X pins σ H s) {ps : List Addr} {kvs : List (Key × V)} (h : Paired (fun p kv => SqT X.K H p [kV kv.1, kv.2]) ps kvs) :
    ∃ (prs : List (Key × Value)) (vps : List (Value × Value)), KV kvs prs ∧ prs.length = ps.length ∧ vps.length = ps.length ∧
      ∀ (j : Nat) (k v : Value), vps[j]? = some (k, v) → ∃ (b : Addr) (kk : Key), ps[j]? = some b ∧ s.heap.IsTuple b #[k, v] ∧ prs[j]? = some (kk, v) ∧ keyIs kk k = true := by
  induction h with
  | nil => exact ⟨[], [], .nil, rfl, rfl, fun j k v e => by simp at e⟩
  | cons a b ih =>
    rename_i p kv l m
    obtain ⟨prs, vps, h1, h2, h3, h4⟩ := ih
    obtain ⟨its, rv, ht, _⟩ := I.tuple a
    obtain ⟨u, y, rfl, ru, ry⟩ := vals2 rv
    refine ⟨(kv.1, y) :: prs, (u, y) :: vps, .cons ⟨rfl, ry⟩ h1, by simp [h2], by simp [h3], fun j k v e => ?_⟩
    cases j with
    | zero =>
      obtain ⟨rfl, rfl⟩ : u = k ∧ y = v := by simpa using e
      exact ⟨p, kv.1, rfl, ht, rfl, kV_is (P := X.prog) (w := X.w) ru⟩
    | succ j =>
      obtain ⟨c, kk, g1, g2, g3, g4⟩ := h4 j k v (by simpa using e)
      exact ⟨c, kk, by simpa using g1, g2, by simpa using g3, g4⟩
def rDictX (K : PySem.W.Frag) : List V → Hp → VK → Prop := fun xs H Q => ∃ (a : Addr) (ps : List Addr) (kvs : List (Key × V)), xs = [.ref a] ∧ TupX H a (ps.map V.ref) ∧ Paired (fun p kv => SqT K H p [kV kv.1, kv.2]) ps kvs ∧
  ∀ p, H p = none → Q (.ref p) (upd H p (.dK (mergeK [] kvs)))
theorem cr_dictX {X : Cx} (hc : X.calm = true) : CallR X (.type "dict") (rDictX X.K) := by
  rintro pins s σ H xs us Q I r ⟨a, ps, kvs, rfl, ⟨o, hod, ha⟩, hp, q⟩
  obtain ⟨u, rfl, rx⟩ := vals1 r
  cases rx
  obtain ⟨ho, hz, its, rv, o2, ho2, hcl, n, hdat⟩ := I.hok a _ ha
  obtain rfl : o = o2 := Option.some.inj (ho.symm.trans ho2)
  have ei := refs_at rv
  subst ei
  rw [List.length_map] at hz
  obtain ⟨prs, vps, rel, hl, hv, hat⟩ := vps_of I hp
  refine PySem.call_dict_pairs (knd := mixKind X.prog X.w) (kvs := prs) (PairArg.tuple a (ps.map Value.ref).toArray (fun j => (ps[j]?).getD 0) vps) (I.ok.hd hc) ⟨⟨o, n, ho, hcl, hod, hdat⟩, by simp [hv], fun j k v e => ?_⟩ ⟨by rw [hl, hv], fun i key v e => ?_⟩ (by rw [hv]; exact hz) fun h' tk hd' k => ?_
  · obtain ⟨b, kk, g1, g2, _⟩ := hat j k v e
    exact ⟨by simp [g1], .inl (by show s.heap.IsTuple ((ps[j]?).getD 0) _; rw [g1]; exact g2)⟩
  · obtain ⟨b, kk, _, _, g3, g4⟩ := hat i key v e
    exact ⟨kk, g3, g4⟩
  · have hm : (s.heap.objs.size == sysModules) = false := beq_eq_false_iff_ne.mpr (Nat.ne_of_gt I.big)
    have hln : (mergeK [] kvs).length ≤ sizeLine := by
      have h1 := length_mergeK kvs []
      have h2 := rel.length
      rw [List.length_nil] at h1
      omega
    exact ⟨.ref s.heap.objs.size, _, I.laid (t' := tk) (fun b ob e => k b ob (by simp) e) (Nat.le_refl _) (show ObjOk X.prog X.w _ _ _ (.dK (mergeK [] kvs)) from ⟨hln, hm, merged [] prs, KV.merge rel .nil, hd'⟩), rfl, q _ (I.hok.fresh (Nat.le_refl _))⟩
/-! ### what such a dict holds -/
def csKv (cs : List (Str × Str)) : List (Key × V) := cs.map fun c => (Sum.inr c.1, V.str c.2)
theorem merge_out : ∀ {cs : List (Str × Str)} {kv : List (Key × V)} {z : Str}, z ∉ cs.map (·.1) → valV (mergeK kv (csKv cs)) (.inr z) = valV kv (.inr z)
  | [], kv, z, _ => rfl
  | c :: cs, kv, z, h => by
    have h1 : z ≠ c.1 := fun e => h (by rw [e]; exact List.mem_cons_self)
    have h2 : z ∉ cs.map (·.1) := fun e => h (List.mem_cons_of_mem _ e)
    show valV (mergeK (putK kv (.inr c.1) (.str c.2)) (csKv cs)) (.inr z) = _
    rw [merge_out h2, valV_put, if_neg (fun e => h1 (by injection e))]
theorem merge_in : ∀ {cs : List (Str × Str)} {kv : List (Key × V)} {c : Str × Str}, (cs.map (·.1)).Nodup → c ∈ cs → valV (mergeK kv (csKv cs)) (.inr c.1) = some (.str c.2)
  | [], kv, c, _, h => by cases h
  | d :: cs, kv, c, nd, h => by
    rw [List.map_cons, List.nodup_cons] at nd
    show valV (mergeK (putK kv (.inr d.1) (.str d.2)) (csKv cs)) (.inr c.1) = _
    rcases List.mem_cons.mp h with rfl | h
    · rw [merge_out nd.1, valV_put, if_pos rfl]
    · exact merge_in nd.2 h
end Pn

namespace Pn
open PySem L2 TL
abbrev sBInit : Stmt := inClass (top 52) 0
abbrev sBNames : Stmt := inClass (top 52) 2
abbrev sBTops : Stmt := inClass (top 52) 3
abbrev sBUnr : Stmt := inClass (top 52) 4
abbrev sBChain : Stmt := inClass (top 52) 7
/-! ### chains -/
inductive Climb (cs : List (Str × Str)) : Str → List Str → Prop
  | top {z : Str} : (z, ("" : Str)) ∈ cs → Climb cs z [z]
  | up {z u : Str} {l : List Str} : (z, u) ∈ cs → u ≠ "" → Climb cs u l → Climb cs z (z :: l)
theorem Climb.head {cs : List (Str × Str)} {z : Str} {l : List Str} (h : Climb cs z l) : ∃ r, l = z :: r := by
  cases h with
  | top _ => exact ⟨[], rfl⟩
  | up _ _ _ => exact ⟨_, rfl⟩
theorem climbs {cs : List (Str × Str)} (t : TreeOk cs) : ∀ (i : Nat) (c : Str × Str), cs[i]? = some c → ∃ l, Climb cs c.1 l ∧ l.length ≤ i + 1 := by
  intro i
  induction i using Nat.strongRecOn with
  | ind i ih =>
    intro c hc
    have hm : (c.1, c.2) ∈ cs := List.mem_of_getElem? hc
    by_cases e : c.2 = ""
    · exact ⟨[c.1], .top (by rw [e] at hm; exact hm), by simp⟩
    · obtain ⟨d, hd, hde⟩ := List.mem_map.mp ((t i c hc).resolve_left e)
      obtain ⟨j, hj⟩ := List.getElem?_of_mem hd
      have hji : j < i := by
        have h1 := (List.getElem?_eq_some_iff.mp hj).1
        rw [List.length_take] at h1
        omega
      rw [List.getElem?_take_of_lt hji] at hj
      obtain ⟨l, h1, h2⟩ := ih j hji d hj
      exact ⟨c.1 :: l, .up hm e (by rw [← hde]; exact h1), by simp; omega⟩
def opens (rs : List RowD) : List Str := rs.filterMap fun r => match r with | .opn z => some z | _ => none
def opnOf : RowD → Option Str
  | .opn z => some z
  | _ => none
theorem opens_eq (rs : List RowD) : opens rs = rs.filterMap opnOf := rfl
theorem opn_word {r : RowD} : decide (V.str (rowWord r) = V.str "open") = (opnOf r).isSome := by
  cases r <;> first | exact (by decide +kernel : decide (V.str "note" = V.str "open") = false) | exact (by decide +kernel : decide (V.str "skip" = V.str "open") = false) | exact (by decide +kernel : decide (V.str "set" = V.str "open") = false) | exact (by decide +kernel : decide (V.str "keep" = V.str "open") = false) | exact (by decide +kernel : decide (V.str "back" = V.str "open") = false) | exact (by decide +kernel : decide (V.str "ref" = V.str "open") = false) | exact (by decide +kernel : decide (V.str "put" = V.str "open") = false) | exact (by decide +kernel : decide (V.str "open" = V.str "open") = true)
def topOf (c : Str × Str) : Option Str := if c.2 = "" then some c.1 else none
def topsOf (cs : List (Str × Str)) : List Str := cs.filterMap topOf
section
variable {P : Program} {w : World} {K : PySem.W.Frag} {mg : Str → Option Value} {base : Heap}
def rTupS (K : PySem.W.Frag) : List V → Hp → VK → Prop := fun xs H Q => ∃ (p : Addr) (ys : List V), xs = [.ref p] ∧ Sq K H p ys ∧ ∀ (t : Addr) (H' : Hp), Same H H' → SqT K H' t ys → Q (.ref t) H'
theorem cr_tupS {X : Cx} : CallR X (.type "tuple") (rTupS X.K) := by
  intro pins s σ H xs us Q I r h
  obtain ⟨p, ys, rfl, hp, q⟩ := h
  exact call_tuple_of pins s σ H _ us Q I r ⟨p, ys, rfl, hp.elim (fun h => .inl ⟨h, fun l hl => q l _ (Same.new hl) (SqT.of upd_same)⟩) (fun h => .inr ⟨h, q p H (Same.refl _) h⟩)⟩
structure TPr (K : PySem.W.Frag) (C : Addr) (nm qual : Str) (st : Stmt) : Type where
  p : Addr
  g : Addr
  fd : FuncData
  F : Fun K nm qual st g fd
  b : Binds K fd ["self"] []
  P : PropOf K C nm p g
structure TBk {K : PySem.W.Frag} {mg : Str → Option Value} {R : TRows K mg} (T : TPart R) : Type extends TBks T where
  mSort : mg "sorted" = none
  mDict : mg "dict" = none
  C : Addr
  mC : mg "Book" = some (.ref C)
  fI : Addr
  fdI : FuncData
  FI : Fun K "__init__" "Book.__init__" sBInit fI fdI
  bI : Binds K fdI ["self", "counters", "parts"] []
  M : Mk K C fI
  cl : Cls K C
  noC : NoAttr K C "counters"
  noP : NoAttr K C "parts"
  noF : NoAttr K C "flat"
  names : TPr K C "names" "Book.names" sBNames
  tops : TPr K C "tops" "Book.tops" sBTops
  unr : TPr K C "unrolled" "Book.unrolled" sBUnr
  chain : TMeth K C "chain" "Book.chain" sBChain ["self", "name"]
def insBook (C dx : Addr) (c p f : V) : HO := .ins C dx (putF "flat" f (putF "parts" p (putF "counters" c [])))
theorem book_c {c p f : V} : (putF "flat" f (putF "parts" p (putF "counters" c ([] : List (Str × V))))).lookup ("counters" : Str) = some c := by
  rw [lookup_putF, if_neg (by decide +kernel), lookup_putF, if_neg (by decide +kernel), lookup_putF, if_pos rfl]
theorem book_p {c p f : V} : (putF "flat" f (putF "parts" p (putF "counters" c ([] : List (Str × V))))).lookup ("parts" : Str) = some p := by
  rw [lookup_putF, if_neg (by decide +kernel), lookup_putF, if_pos rfl]
theorem book_f {c p f : V} : (putF "flat" f (putF "parts" p (putF "counters" c ([] : List (Str × V))))).lookup ("flat" : Str) = some f := by
  rw [lookup_putF, if_pos rfl]
def CsIn (K : PySem.W.Frag) (H : Hp) (ts : List Addr) (cs : List (Str × Str)) : Prop := Paired (fun t (c : Str × Str) => SqT K H t [.str c.1, .str c.2]) ts cs
theorem CsIn.same {H H' : Hp} {ts : List Addr} {cs : List (Str × Str)} (h : CsIn K H ts cs) (s : Same H H') : CsIn K H' ts cs := paired_mono (fun _ _ z => Same.sqt s z) h
def PtsIn {R : TRows K mg} (T : TPart R) (H : Hp) (ps : List Addr) (bk : List PartD) : Prop := Paired (fun a (q : PartD) => PtAt T H a q.1 q.2) ps bk
theorem PtsIn.same {R : TRows K mg} {T : TPart R} {H H' : Hp} {ps : List Addr} {bk : List PartD} (h : PtsIn T H ps bk) (s : Same H H') : PtsIn T H' ps bk := paired_mono (fun _ _ z => PtAt.same z s) h
def BookAt {R : TRows K mg} {T : TPart R} (B : TBk T) (H : Hp) (a : Addr) (cs : List (Str × Str)) (bk : List PartD) : Prop :=
  ∃ dx ct pt ft ts ps us, H a = some (insBook B.C dx (.ref ct) (.ref pt) (.ref ft)) ∧ (TupX H ct (ts.map V.ref) ∧ CsIn K H ts cs) ∧ (SqT K H pt (ps.map V.ref) ∧ PtsIn T H ps bk) ∧ SqT K H ft (us.map V.ref) ∧ RowsIn R H us (unrolled bk)
theorem BookAt.same {R : TRows K mg} {T : TPart R} {B : TBk T} {H H' : Hp} {a : Addr} {cs : List (Str × Str)} {bk : List PartD} (h : BookAt B H a cs bk) (s : Same H H') : BookAt B H' a cs bk := by
  obtain ⟨dx, ct, pt, ft, ts, ps, us, h1, ⟨h2, h3⟩, ⟨h4, h5⟩, h6, h7⟩ := h
  exact ⟨dx, ct, pt, ft, ts, ps, us, s _ _ h1, ⟨h2.same s, h3.same s⟩, ⟨Same.sqt s h4, h5.same s⟩, Same.sqt s h6, h7.same s⟩
/-! ### Book(counters, parts) -/
theorem rows_ne {R : TRows K mg} {H : Hp} {us : List Addr} {rs : List RowD} {x C dx : Addr} (h : RowsIn R H us rs) (hx : H x = some (.ins C dx [])) : ∀ u ∈ us, u ≠ x := by
  intro u hu e
  obtain ⟨i, hi⟩ := List.getElem?_of_mem hu
  obtain ⟨r, _, hr⟩ := paired_at h hi
  obtain ⟨dw, fw, w1, _, _, w4⟩ := at_word R hr
  rw [e, hx] at w1
  cases w1
  cases w4
theorem rows_upd {R : TRows K mg} {H : Hp} {us : List Addr} {rs : List RowD} {x : Addr} {o : HO} (h : RowsIn R H us rs) (n : ∀ u ∈ us, u ≠ x) : RowsIn R (upd H x o) us rs := by
  induction h with
  | nil => exact .nil
  | cons a b ih =>
    refine .cons ?_ (ih fun u hu => n u (List.mem_cons_of_mem _ hu))
    obtain ⟨dy, e⟩ := a
    exact ⟨dy, by rw [upd_ne (n _ List.mem_cons_self)]; exact e⟩
theorem tupx_ins {H : Hp} {x C dx a : Addr} {fs : List (Str × V)} {o : HO} {xs : List V} (hx : H x = some (.ins C dx fs)) (h : TupX H a xs) : TupX (upd H x o) a xs := by
  obtain ⟨u, d, e⟩ := h
  exact ⟨u, d, by rw [upd_ne (fun z => by rw [z, hx] at e; cases e)]; exact e⟩
def spBInit {R : TRows K mg} {T : TPart R} (B : TBk T) : Sp := fun vs H Q _ => ∃ (x dx cp : Addr) (pu : V) (ts : List Addr) (cs : List (Str × Str)) (bk : List PartD) (Hb : Hp), vs = [.ref x, .ref cp, pu] ∧ H x = some (.ins B.C dx []) ∧ Hb x = none ∧ Same Hb H ∧
  (SqL K Hb cp (ts.map V.ref) ∨ TupX Hb cp (ts.map V.ref)) ∧ CsIn K Hb ts cs ∧ PtsArg T Hb pu bk ∧ BookV cs bk ∧ ∀ H', Same Hb H' → BookAt B H' x cs bk → Q .non H'
theorem scBInit : FnScope ["self", "counters", "parts", "flat"] ["self", "counters", "parts"] (defScope sBInit) := ⟨rfl, rfl, rfl, by decide +kernel, rfl, by decide +kernel, by decide +kernel⟩
theorem unrolled_small {cs : List (Str × Str)} {bk : List PartD} (ok : BookV cs bk) : (unrolled bk).length ≤ 4000 := by
  unfold unrolled
  cases h : (knowns bk).head? with
  | none => exact Nat.zero_le _
  | some x =>
    cases hk : knowns bk with
    | nil => rw [hk] at h; cases h
    | cons y l =>
      rw [hk] at h
      obtain rfl : y = x := Option.some.inj h
      exact ok.small y.1 y.2 (by rw [hk]; exact List.mem_cons_self)
theorem ok_bInit {R : TRows K mg} {T : TPart R} (B : TBk T) : FnOk P w K mg base CX0 4 B.fI B.fdI ["self", "counters", "parts"] (spBInit B) := by
  refine B.FI.ok scBInit (fun vs H Q E h => ?_) (fun cdv A outer s H vs Q E hr h => ?_)
  · obtain ⟨x, dx, cp, pu, ts, cs, bk, Hb, rfl, _⟩ := h
    rfl
  · obtain ⟨x, dx, cp, pu, ts, cs, bk, Hb, rfl, hx, hxb, sb, hcp, hcd, hP, ok, q⟩ := h
    refine ⟨_, pss_cons (ps_if (pt_not (pt_val (pe_call (ok_areC B.toTBks) (hr.mono (by decide)) rfl B.areC.m B.areC.F.kp B.areC.b .nil pass0 (pa_cons (pv 1) pa_nil)))) pss_never pss_nil)
      (pss_cons (ps_if (pt_not (pt_val (pe_call (ok_areP B.toTBks) (hr.mono (by decide)) rfl B.areP.m B.areP.F.kp B.areP.b .nil pass0 (pa_cons (pv 2) pa_nil)))) pss_never pss_nil)
      (pss_cons (ps_if (pt_not (pt_val (pe_call (ok_cKnown B.toTBks) (hr.mono (by decide)) rfl B.cKnown.m B.cKnown.F.kp B.cKnown.b .nil pass0 (pa_cons (pv 1) (pa_cons (pv 2) pa_nil))))) pss_never pss_nil)
      (pss_cons (ps_if (pt_not (pt_val (pe_call (ok_pEarly B.toTBks) (hr.mono (by decide)) rfl B.pEarly.m B.pEarly.F.kp B.pEarly.b .nil pass0 (pa_cons (pv 2) pa_nil)))) pss_never pss_nil)
      (pss_cons (ps_set (i := 3) scBInit.nd rfl (Or.inl rfl) (pe_call (ok_uText B.toTBks) hr rfl B.uText.m B.uText.F.kp B.uText.b .nil pass0 (pa_cons (pv 2) pa_nil)))
      (pss_cons (ps_if (pt_not (pt_val (pe_call (ok_refsK B.toTBks) (hr.mono (by decide)) rfl B.refsK.m B.refsK.F.kp B.refsK.b .nil pass0 (pa_cons (pv 3) pa_nil)))) pss_never pss_nil)
      (pss_cons (ps_fld (pv 0) (pe_callTy cr_tupX2 (by rfl) T.mTup (by decide +kernel) (pa_cons (pv 1) pa_nil)) rfl)
      (pss_cons (ps_fld (pv 0) (pe_callTy cr_tupS (by rfl) T.mTup (by decide +kernel) (pa_cons (pv 2) pa_nil)) rfl)
      (pss_one (ps_fld (pv 0) (pv 3) rfl))))))))), ?_⟩
    have hC : CsArg K Hb (.ref cp) cs := ⟨cp, ts, rfl, hcp.imp id TupX.sqt, hcd⟩
    have hrl : ∀ p ∈ bk, p.2.length ≤ 100 := fun p hp => (ok.rows p hp).2.1
    refine ⟨_, rfl, .ref cp, cs, rfl, hC.same sb, ok.c, fun H1 s1 => ⟨true, rfl, iteF ?_⟩⟩
    have b1 := sb.trans s1
    refine ⟨_, rfl, pu, bk, rfl, hP.same b1, ok.b0, ok.nd, ok.len, fun H2 s2 => ⟨true, rfl, iteF ?_⟩⟩
    have b2 := b1.trans s2
    refine ⟨_, rfl, _, rfl, .ref cp, pu, cs, bk, rfl, hC.same b2, hP.same b2, ok.c.len, ok.len, hrl, ok.cnt, fun H3 s3 => ⟨true, rfl, iteF ?_⟩⟩
    have b3 := b2.trans s3
    refine ⟨_, rfl, pu, bk, rfl, hP.same b3, ok.puts, ok.len, hrl, fun H4 s4 => ⟨true, rfl, iteF ?_⟩⟩
    have b4 := b3.trans s4
    refine ⟨_, rfl, pu, bk, rfl, hP.same b4, ok.b0, ok.nd, ok.len, hrl, ok.puts, ok.small, fun ft H5 us s5 hft hus => ?_⟩
    have b5 := b4.trans s5
    unfold gName
    dsimp only
    refine ⟨_, rfl, ft, us, unrolled bk, rfl, .inr hft, hus, unrolled_small ok, ok.refs, fun H6 s6 => ⟨true, rfl, iteF ?_⟩⟩
    have b6 := b5.trans s6
    have hx6 : H6 x = some (.ins B.C dx []) := s6 _ _ (s5 _ _ (s4 _ _ (s3 _ _ (s2 _ _ (s1 _ _ hx)))))
    have hft6 := Same.sqt s6 hft
    have hus6 := hus.same s6
    have hne := rows_ne hus6 hx6
    refine ⟨_, rfl, cp, ts.map V.ref, rfl, hcp.imp b6.seq (fun h => h.same b6), fun ct H7 s7 hX => ?_⟩
    have b7 := b6.trans s7
    have hx7 := s7 _ _ hx6
    refine ⟨_, rfl, x, B.C, dx, [], rfl, hx7, B.cl, B.noC, (by show 0 < 1000; decide), ?_⟩
    have b8 : Same Hb (upd H7 x (.ins B.C dx (putF "counters" (.ref ct) []))) := Same.updn b7 hxb
    have hX8 := tupx_ins (o := .ins B.C dx (putF "counters" (.ref ct) [])) hx7 hX
    have hft8 := sqt_ins (o := .ins B.C dx (putF "counters" (.ref ct) [])) hx7 (Same.sqt s7 hft6)
    have hus8 := rows_upd (o := .ins B.C dx (putF "counters" (.ref ct) [])) (hus6.same s7) hne
    have hx8 : upd H7 x (.ins B.C dx (putF "counters" (.ref ct) [])) x = some (.ins B.C dx (putF "counters" (.ref ct) [])) := upd_same
    generalize upd H7 x (.ins B.C dx (putF "counters" (.ref ct) [])) = H8 at b8 hX8 hft8 hus8 hx8 ⊢
    obtain ⟨p, ps, rfl, hp, hpd⟩ := hP
    refine ⟨_, rfl, p, ps.map V.ref, rfl, hp.same b8, fun pt H9 s9 hpt => ?_⟩
    have hx9 := s9 _ _ hx8
    refine ⟨_, rfl, x, B.C, dx, _, rfl, hx9, B.cl, B.noP, (by show 1 < 1000; decide), ?_⟩
    have b10 : Same Hb (upd H9 x (.ins B.C dx (putF "parts" (.ref pt) (putF "counters" (.ref ct) [])))) := Same.updn (b8.trans s9) hxb
    have hX10 := tupx_ins (o := .ins B.C dx (putF "parts" (.ref pt) (putF "counters" (.ref ct) []))) hx9 (hX8.same s9)
    have hft10 := sqt_ins (o := .ins B.C dx (putF "parts" (.ref pt) (putF "counters" (.ref ct) []))) hx9 (Same.sqt s9 hft8)
    have hpt10 := sqt_ins (o := .ins B.C dx (putF "parts" (.ref pt) (putF "counters" (.ref ct) []))) hx9 hpt
    have hus10 := rows_upd (o := .ins B.C dx (putF "parts" (.ref pt) (putF "counters" (.ref ct) []))) (hus8.same s9) hne
    have hx10 : upd H9 x (.ins B.C dx (putF "parts" (.ref pt) (putF "counters" (.ref ct) []))) x = some (.ins B.C dx (putF "parts" (.ref pt) (putF "counters" (.ref ct) []))) := upd_same
    generalize upd H9 x (.ins B.C dx (putF "parts" (.ref pt) (putF "counters" (.ref ct) []))) = H10 at b10 hX10 hft10 hpt10 hus10 hx10 ⊢
    refine ⟨_, rfl, _, rfl, x, B.C, dx, _, rfl, hx10, B.cl, B.noF, (by show 2 < 1000; decide), ?_⟩
    have b11 : Same Hb (upd H10 x (insBook B.C dx (.ref ct) (.ref pt) (.ref ft))) := Same.updn b10 hxb
    exact q _ b11 ⟨dx, ct, pt, ft, ts, ps, us, upd_same, ⟨tupx_ins hx10 hX10, hcd.same b11⟩, ⟨sqt_ins hx10 hpt10, PtsIn.same hpd b11⟩, sqt_ins hx10 hft10, rows_upd hus10 hne⟩
end
end Pn

namespace Pn
open PySem L2 TL
section
variable {P : Program} {w : World} {K : PySem.W.Frag} {mg : Str → Option Value} {base : Heap}
/-! ### names, tops, unrolled -/
theorem scBNames : FnScope ["self", "row"] ["self"] (defScope sBNames) := ⟨rfl, rfl, rfl, by decide +kernel, rfl, by decide +kernel, by decide +kernel⟩
def spBNames {R : TRows K mg} {T : TPart R} (B : TBk T) : Sp := fun vs H Q _ => ∃ (a : Addr) (cs : List (Str × Str)) (bk : List PartD), vs = [.ref a] ∧ BookAt B H a cs bk ∧ (unrolled bk).length < 4000 ∧ (uniq (opens (unrolled bk))).length < 64 ∧
  ∀ (t : Addr) (H' : Hp) (ys : List Str), Same H H' → SqT K H' t (ys.map V.str) → ys.Perm (uniq (opens (unrolled bk))) → PyProof.Rows.sortedS ys = true → Q (.ref t) H'
theorem ok_bNames {R : TRows K mg} {T : TPart R} (B : TBk T) : FnOk P w K mg base CX0 1 B.names.g B.names.fd ["self"] (spBNames B) := by
  refine B.names.F.ok scBNames (fun vs H Q E h => ?_) (fun cdv A outer s H vs Q E hr h => ?_)
  · obtain ⟨a, cs, bk, rfl, _⟩ := h
    rfl
  · obtain ⟨a, cs, bk, rfl, ⟨dx, ct, pt, ft, ts, ps, us, ha, _, _, hft, hus⟩, hl, hn, q⟩ := h
    refine ⟨_, pss_one (ps_ret (pe_callTy cr_tupS (by rfl) T.mTup (by decide +kernel) (pa_cons (pe_callB (cr_sortX rfl) (by rfl) B.mSort (by decide +kernel) (pa_cons (pe_callTy (cr_setX rfl) (by rfl) B.mSet (by decide +kernel) (pa_cons
      (pe_lc (own := [("row", 1)]) (g := gName 1) (by rfl) scBNames.nd (pi_tup (pe_fld (pv 0) rfl))
      (blkOk_by (N := ["self", "row"]) (sc := defScope sBNames) (by decide +kernel)) (fun _ _ _ _ _ => pg_name (i := 1) scBNames.nd rfl (Or.inl rfl))
      (fun _ _ _ _ _ => pts_one (pt_cmpR op_eq (show PE _ _ (tFld K (tVar 1) "word") from pe_fld (pv 1) rfl) pe_str (nomark _))) (fun _ _ _ _ _ => (show PE _ _ (tFld K (tVar 1) "name") from pe_fld (pv 1) rfl))) pa_nil)) pa_nil)) pa_nil))), ?_⟩
    have hul : us.length = (unrolled bk).length := paired_len hus
    unfold tRet tCB tCons
    refine lcw_tup (fun R r => ⟨_, rfl, a, B.C, dx, _, .ref ft, rfl, ha, B.cl, B.noF, book_f, r⟩) hft (by rw [List.length_map]; omega) (out := fun i => ((unrolled bk)[i]?).bind fun r => (opnOf r).map V.str) (fun i x Hi S Y hx si hS hY => ?_) (fun D H2 hD s2 hD2 => ?_)
    · obtain ⟨u, r, hu, hr2, rfl, hrow⟩ := rows_at hus hx
      obtain ⟨dw, fw, w1, w2, w3, w4⟩ := at_word R (hrow.same si)
      refine ⟨rfl, _, rfl, u, _, dw, fw, _, rfl, w1, w2, w3, w4, rfl, _, rfl, ?_⟩
      have hb : ((unrolled bk)[i]?).bind (fun r => (opnOf r).map V.str) = (opnOf r).map V.str := by rw [hr2]; rfl
      rw [opn_word]
      cases hp : opnOf r with
      | none =>
        refine iteF ?_
        exact hS (by rw [hp] at hb; exact hb) _ (Same.refl _)
      | some z =>
        refine iteT ?_
        obtain rfl : r = .opn z := by
          cases r with
          | opn y => cases hp; rfl
          | _ => cases hp
        obtain ⟨dp, fp, p1, p2, p3, p4⟩ := at_name R (hrow.same si)
        exact ⟨_, rfl, u, _, dp, fp, _, rfl, p1, p2, p3, p4, hY _ (by rw [hp] at hb; exact hb) _ (Same.refl _)⟩
    · have hD3 : H2 D = some (.lst ((opens (unrolled bk)).map V.str)) := by rw [hD2, List.length_map, hul, out_filter, opens_eq, List.map_filterMap]
      have hol : (opens (unrolled bk)).length ≤ (unrolled bk).length := List.length_filterMap_le _ _
      refine ⟨D, opens (unrolled bk), rfl, SqL.of hD3, by omega, fun S hS => ?_⟩
      refine ⟨S, uniq (opens (unrolled bk)), rfl, upd_same, hn, fun ys p hp hs hpn => ?_⟩
      refine ⟨p, ys.map V.str, rfl, .inl (SqL.of upd_same), fun t H' s' ht => q t H' ys ?_ ht hp hs⟩
      exact (s2.trans (Same.new hS)).trans ((Same.new hpn).trans s')
theorem scBUnr : FnScope ["self"] ["self"] (defScope sBUnr) := ⟨rfl, rfl, rfl, by decide +kernel, rfl, by decide +kernel, by decide +kernel⟩
def spBUnr {R : TRows K mg} {T : TPart R} (B : TBk T) : Sp := fun vs H Q _ => ∃ (a : Addr) (cs : List (Str × Str)) (bk : List PartD), vs = [.ref a] ∧ BookAt B H a cs bk ∧
  ∀ (t : Addr) (us : List Addr), SqT K H t (us.map V.ref) → RowsIn R H us (unrolled bk) → Q (.ref t) H
theorem ok_bUnr {R : TRows K mg} {T : TPart R} (B : TBk T) : FnOk P w K mg base CX0 1 B.unr.g B.unr.fd ["self"] (spBUnr B) := by
  refine B.unr.F.ok scBUnr (fun vs H Q E h => ?_) (fun cdv A outer s H vs Q E hr h => ?_)
  · obtain ⟨a, cs, bk, rfl, _⟩ := h
    rfl
  · obtain ⟨a, cs, bk, rfl, ⟨dx, ct, pt, ft, ts, ps, us, ha, _, _, hft, hus⟩, q⟩ := h
    refine ⟨_, pss_one (ps_ret (pe_fld (pv 0) rfl)), ?_⟩
    exact ⟨_, rfl, a, B.C, dx, _, .ref ft, rfl, ha, B.cl, B.noF, book_f, q ft us hft hus⟩
end
end Pn

namespace Pn
open PySem L2 TL
section
variable {P : Program} {w : World} {K : PySem.W.Frag} {mg : Str → Option Value} {base : Heap}
def spBTops {R : TRows K mg} {T : TPart R} (B : TBk T) : Sp := fun vs H Q _ => ∃ (a : Addr) (cs : List (Str × Str)) (bk : List PartD), vs = [.ref a] ∧ BookAt B H a cs bk ∧ cs.length ≤ 100 ∧
  ∀ (t : Addr) (H' : Hp), Same H H' → SqT K H' t ((topsOf cs).map V.str) → Q (.ref t) H'
end
end Pn

namespace Pn
open PySem L2 TL
section
variable {P : Program} {w : World} {K : PySem.W.Frag} {mg : Str → Option Value} {base : Heap}
/-! ### chain -/
theorem scBChain : FnScope ["self", "name", "uppers", "above"] ["self", "name"] (defScope sBChain) := ⟨rfl, rfl, rfl, by decide +kernel, rfl, by decide +kernel, by decide +kernel⟩
def spBChain {R : TRows K mg} {T : TPart R} (B : TBk T) : Sp := fun vs H Q _ => ∃ (a : Addr) (cs : List (Str × Str)) (bk : List PartD) (z : Str) (l : List Str), vs = [.ref a, .str z] ∧ BookAt B H a cs bk ∧ CsOk cs ∧ Climb cs z l ∧ l.length ≤ 1000 ∧
  ∀ (t : Addr) (H' : Hp), Same H H' → SqT K H' t (l.reverse.map V.str) → Q (.ref t) H'
theorem Climb.mem {cs : List (Str × Str)} {z : Str} {l : List Str} (h : Climb cs z l) : ∃ c ∈ cs, c.1 = z := by
  cases h with
  | top h => exact ⟨_, h, rfl⟩
  | up h _ _ => exact ⟨_, h, rfl⟩
theorem ok_bChain {R : TRows K mg} {T : TPart R} (B : TBk T) : FnOk P w K mg base CX0 4 B.chain.f B.chain.fd ["self", "name"] (spBChain B) := by
  refine B.chain.F.ok scBChain (fun vs H Q E h => ?_) (fun cdv A outer s H vs Q E hr h => ?_)
  · obtain ⟨a, cs, bk, z, l, rfl, _⟩ := h
    rfl
  · obtain ⟨a, cs, bk, z, l, rfl, ⟨dx, ct, pt, ft, ts, ps, us, ha, ⟨hct, hts⟩, _, _, _⟩, ok, hcl, hll, q⟩ := h
    refine ⟨_, pss_cons (ps_set (i := 2) scBChain.nd rfl (Or.inl rfl) (pe_callTy (cr_dictX rfl) (by rfl) B.mDict (by decide +kernel) (pa_cons (pe_fld (pv 0) rfl) pa_nil)))
      (pss_cons (ps_if (PW.pt (pw_or (pt_not (pt_val (pe_call R.N.okName (hr.mono (by decide)) rfl R.N.isName.m R.N.isName.F.kp R.N.isName.b .nil pass0 (pa_cons (pv 1) pa_nil)))) (pw_or1 (pt_cmp (pc_dnotin (roomU hr) (pv 1) (pv 2)))))) pss_never pss_nil)
      (pss_cons (ps_set (i := 3) scBChain.nd rfl (Or.inl rfl) (pe_lst (pa_cons (pv 1) pa_nil)))
      (pss_cons (ps_while PassesOwn.never (pt_cmpR op_ne (pe_dget (roomU hr) (pv 2) (pe_ix ix_list (pv 3) (pe_un un_neg pe_int) (fun _ _ => rfl)) (fun _ _ => rfl)) pe_str (nomark _))
        (pss_one (ps_expr (pe_bm PySem.F.plainAttrs_list PySem.F.slot_list_append PySem.F.type_list_append mt_append (pv 3) (pa_cons (pe_dget (roomU hr) (pv 2) (pe_ix ix_list (pv 3) (pe_un un_neg pe_int) (fun _ _ => rfl)) (fun _ _ => rfl)) pa_nil)))))
      (pss_one (ps_ret (pe_callTy cr_tupS (by rfl) T.mTup (by decide +kernel) (pa_cons (pe_revL (pv 3)) pa_nil))))))), ?_⟩
    obtain ⟨c0, hc0, rfl⟩ := hcl.mem
    refine ⟨_, rfl, a, B.C, dx, _, .ref ct, rfl, ha, B.cl, B.noC, book_c, ct, ts, csKv cs, rfl, hct, ?_, fun kp hkp => ?_⟩
    · unfold csKv
      clear q hcl hc0 ok hct
      induction hts with
      | nil => exact .nil
      | cons a b ih => exact .cons a ih
    have s1 := Same.new (o := .dK (mergeK [] (csKv cs))) hkp
    have hK1 : upd H kp (.dK (mergeK [] (csKv cs))) kp = some (.dK (mergeK [] (csKv cs))) := upd_same
    have hget : ∀ c ∈ cs, valV (mergeK [] (csKv cs)) (.inr c.1) = some (.str c.2) := fun c hc => merge_in ok.nd hc
    generalize upd H kp (.dK (mergeK [] (csKv cs))) = H1 at s1 hK1 ⊢
    generalize mergeK [] (csKv cs) = kvs at hK1 hget
    have hnm := ok.nm c0 hc0
    unfold gName
    dsimp only
    refine ⟨_, rfl, .str c0.1, .str c0.1, rfl, .str _, Nat.le_trans (name_ok hnm).2 (by decide), fun H2 s2 m2 => ⟨nameS c0.1, rfl, ?_⟩⟩
    rw [hnm]
    refine iteF ?_
    have hK2 := s2 _ _ hK1
    refine ⟨_, rfl, _, rfl, kp, _, rfl, (by have g := DGet.k (k := Sum.inr c0.1) hK2; rw [hget c0 hc0] at g; exact g), false, rfl, iteF ?_⟩
    refine ⟨_, rfl, (by show 1 ≤ sizeLine; decide), fun F hF => ?_⟩
    have s3 := (s1.trans s2).trans (Same.new (o := .lst [.str c0.1]) hF)
    have hK3 := Same.new (o := .lst [.str c0.1]) hF _ _ hK2
    have hFn : H F = none := (s1.trans s2).free hF
    have hF3 : upd H2 F (.lst [.str c0.1]) F = some (.lst (([] ++ [c0.1]).map V.str)) := upd_same
    generalize upd H2 F (.lst [.str c0.1]) = H3 at s3 hK3 hF3 ⊢
    have nKF : kp ≠ F := fun e => by rw [e, hF3] at hK3; cases hK3
    obtain ⟨r0, hr0⟩ := hcl.head
    refine ⟨fun m σ Hi => ∃ (cur : Str) (rest pre : List Str), σ = [some (.ref a), some (.str c0.1), some (.ref kp), some (.ref F)] ∧ Same H Hi ∧ Hi kp = some (.dK kvs) ∧ Hi F = some (.lst ((pre ++ [cur]).map V.str)) ∧ Climb cs cur (cur :: rest) ∧ l = pre ++ cur :: rest ∧ m = rest.length,
      ⟨_, c0.1, r0, [], rfl, s3, hK3, hF3, by rw [← hr0]; exact hcl, hr0, rfl⟩, ?_⟩
    rintro m σ Hi ⟨cur, rest, pre, rfl, si, hKi, hFi, hci, hl, rfl⟩
    have hat : atI ((pre ++ [cur]).map V.str) (-1) = some (.str cur) := by rw [List.map_append]; exact atI_last _ _
    cases hci with
    | top hm =>
      refine ⟨_, rfl, _, rfl, _, rfl, F, _, _, .str cur, rfl, rfl, SqL.of hFi, hat, kp, _, rfl, (by have g := DGet.k (k := Sum.inr cur) hKi; rw [hget _ hm] at g; exact g), rfl, _, rfl, iteFD (by show (!decide (V.str ("" : Str) = V.str "")) = false; decide +kernel) ?_⟩
      refine ⟨_, rfl, F, _, rfl, SqL.of hFi, fun p hp => ⟨p, _, rfl, .inl (SqL.of upd_same), fun t H' s' ht => q t H' ((si.trans (Same.new hp)).trans s') ?_⟩⟩
      rw [hl, List.map_reverse]
      exact ht
    | up hm hne hcu =>
      rename_i u
      obtain ⟨r2, hr2⟩ := hcu.head
      refine ⟨_, rfl, _, rfl, _, rfl, F, _, _, .str cur, rfl, rfl, SqL.of hFi, hat, kp, _, rfl, (by have g := DGet.k (k := Sum.inr cur) hKi; rw [hget _ hm] at g; exact g), rfl, _, rfl, iteTD (by rw [Bool.not_eq_true', decide_eq_false_iff_not]; exact fun z => hne (V.str.inj z)) ?_⟩
      refine ⟨_, fun σ' H' h => h, ?_⟩
      refine ⟨_, rfl, .inl ⟨rfl, _, SqL.of hFi⟩, _, rfl, _, rfl, _, rfl, F, _, _, .str cur, rfl, rfl, SqL.of hFi, hat, kp, _, rfl, (by have g := DGet.k (k := Sum.inr cur) hKi; rw [hget _ hm] at g; exact g), F, _, _, rfl, rfl, hFi, ?_, ?_⟩
      · rw [List.length_map, List.length_append]
        have big : (2000 : Nat) ≤ sizeLine := by decide
        have : l.length = pre.length + (rest.length + 1) := by rw [hl, List.length_append, List.length_cons]
        show pre.length + 1 < sizeLine
        omega
      · refine ⟨r2.length, by rw [hr2]; exact Nat.lt_succ_self _, u, r2, pre ++ [cur], rfl, Same.updn si hFn, by rw [upd_ne nKF]; exact hKi, by rw [upd_same, List.map_append (l₁ := pre ++ [cur])]; rfl, by rw [← hr2]; exact hcu, by rw [hl, hr2]; simp, rfl⟩
end
end Pn

namespace Pn
open PySem L2 TL
/-! ### drawn books are good books -/
theorem knowns_small {bk : List PartD} (h : PutsOk bk) : ∀ i, i ≤ bk.length → ∀ z rs, (z, rs) ∈ knowns (bk.take i) → rs.length ≤ 6 ^ i := by
  intro i
  induction i with
  | zero => intro _ z rs hm; cases hm
  | succ i ih =>
    intro hi z rs hm
    have lt : i < bk.length := hi
    have hp : bk[i]? = some bk[i] := List.getElem?_eq_getElem lt
    have hkt : knowns (bk.take (i + 1)) = (bk[i].1, unrollIn (knowns (bk.take i)) bk[i].2) :: knowns (bk.take i) := by
      rw [List.take_add_one, hp]
      exact knowns_snoc _ _
    rw [hkt] at hm
    have ih2 := ih (by omega)
    have p6 : 6 ^ i ≤ 6 ^ (i + 1) := Nat.pow_le_pow_right (by decide) (by omega)
    have p1 : 1 ≤ 6 ^ i := Nat.one_le_pow _ _ (by decide)
    rcases List.mem_cons.mp hm with e | hm
    · injection e with e1 e2
      subst e2
      obtain ⟨h6, hput⟩ := h i _ hp
      have key : ∀ l : List RowD, (∀ y, RowD.put y ∈ l → y ∈ (bk.take i).map (·.1)) → (unrollIn (knowns (bk.take i)) l).length ≤ l.length * 6 ^ i := by
        intro l
        induction l with
        | nil => intro _; exact Nat.zero_le _
        | cons r l ihl =>
          intro hl
          have q := ihl fun y hy => hl y (List.mem_cons_of_mem _ hy)
          have e : unrollIn (knowns (bk.take i)) (r :: l) = expand (knowns (bk.take i)) r ++ unrollIn (knowns (bk.take i)) l := rfl
          rw [e, List.length_append, List.length_cons, Nat.add_mul, Nat.one_mul]
          have he : (expand (knowns (bk.take i)) r).length ≤ 6 ^ i := by
            cases r with
            | put y =>
              have hy := hl y List.mem_cons_self
              have hyk : y ∈ (knowns (bk.take i)).map (·.1) := by rw [knowns_len]; exact List.mem_reverse.mpr hy
              obtain ⟨rs2, h1, h2⟩ := lookup_of_mem hyk
              show ((List.lookup y (knowns (bk.take i))).getD []).length ≤ _
              rw [h1]
              exact ih2 y rs2 h2
            | _ => exact p1
          omega
      have q := key bk[i].2 hput
      have q2 : bk[i].2.length * 6 ^ i ≤ 6 * 6 ^ i := Nat.mul_le_mul_right _ h6
      rw [Nat.pow_succ]
      omega
    · exact Nat.le_trans (ih2 z rs hm) p6
theorem nodup_take {l : List Str} {n : Nat} (h : l.Nodup) : (l.take n).Nodup := (List.take_sublist n l).nodup h
theorem row_cnt {d : Pool} {cs : List (Str × Str)} {parts : List Str} {r : RowD} {c : Str} (h : rowFine d cs parts r) (e : cntOf r = some c) : c ∈ cs.map (·.1) := by
  cases r with
  | note _ _ => cases e; exact h.1
  | skip _ _ => cases e; exact h.1
  | set _ _ => cases e; exact h.1
  | keep _ => cases e; exact h
  | back _ => cases e; exact h
  | ref _ => cases e
  | put _ => cases e
  | opn _ => cases e
theorem bookV {d : Pool} {cs : List (Str × Str)} {bk : List PartD} (h : BookOk d cs bk) : BookV cs bk := by
  have fl := pool_fine d h.hd
  have hcs : ∀ x ∈ cs.map (·.1), nameS x = true := fun x hx => by
    rw [h.cn] at hx
    exact fl.names x (by simp [List.mem_of_mem_take hx])
  have hbk : ∀ x ∈ bk.map (·.1), nameS x = true := fun x hx => by
    rw [h.bn] at hx
    exact fl.names x (by simp [List.mem_of_mem_take hx])
  have c3 := h.c3
  have b3 := h.b3
  exact {
    c := ⟨fun c hc => hcs _ (List.mem_map.mpr ⟨c, hc, rfl⟩), by rw [h.cn]; exact nodup_take fl.cn, h.ct, by omega⟩
    b0 := h.b0
    nd := by rw [h.bn]; exact nodup_take fl.pn
    len := by omega
    rows := fun p hp => by
      obtain ⟨i, hi⟩ := List.getElem?_of_mem hp
      have h6 := (h.puts i p hi).1
      refine ⟨Nat.le_trans (name_ok (hbk _ (List.mem_map.mpr ⟨p, hp, rfl⟩))).2 (by decide), by omega, fun r hr => ?_⟩
      rcases h.rows p hp r hr with f | ⟨l, rfl, _, hn⟩
      · exact fine_valid fl hcs hbk f
      · exact hn
    cnt := fun p hp r hr c e => by
      rcases h.rows p hp r hr with f | ⟨l, rfl, _, _⟩
      · exact row_cnt f e
      · cases e
    puts := puts_earlier h.puts
    small := fun z rs hm => by
      have q := knowns_small h.puts bk.length (Nat.le_refl _) z rs (by rw [List.take_length]; exact hm)
      have : 6 ^ bk.length ≤ 6 ^ 3 := Nat.pow_le_pow_right (by decide) b3
      have e : (6 : Nat) ^ 3 = 216 := by decide
      omega
    refs := fun l hl => by
      have q := unrolled_all (G := RowIn d cs bk) h.rows _ hl
      rcases q with f | ⟨l2, e, hm, _⟩
      · exact absurd f id
      · cases e
        obtain ⟨c, hc, _⟩ := labels_of hm
        exact ⟨c, hc⟩ }
theorem flat_small {d : Pool} {cs : List (Str × Str)} {bk : List PartD} (h : BookOk d cs bk) : (unrolled bk).length ≤ 216 := by
  unfold unrolled
  cases hk : knowns bk with
  | nil => exact Nat.zero_le _
  | cons y l =>
    have q := knowns_small h.puts bk.length (Nat.le_refl _) y.1 y.2 (by rw [List.take_length, hk]; exact List.mem_cons_self)
    have : 6 ^ bk.length ≤ 6 ^ 3 := Nat.pow_le_pow_right (by decide) h.b3
    exact Nat.le_trans q this
theorem len_sub : ∀ {l m : List Str}, l.Nodup → (∀ z ∈ l, z ∈ m) → l.length ≤ m.length
  | [], _, _, _ => Nat.zero_le _
  | x :: l, m, nd, h => by
    rw [List.nodup_cons] at nd
    have hx := h x List.mem_cons_self
    have q := len_sub (l := l) (m := m.erase x) nd.2 fun z hz => (List.mem_erase_of_ne (fun e => nd.1 (by rw [← e]; exact hz))).mpr (h z (List.mem_cons_of_mem _ hz))
    rw [List.length_erase_of_mem hx] at q
    have := List.length_pos_of_mem hx
    rw [List.length_cons]
    omega
theorem opens_few {d : Pool} {cs : List (Str × Str)} {bk : List PartD} (h : BookOk d cs bk) : (uniq (opens (unrolled bk))).length < 64 := by
  have fl := pool_fine d h.hd
  have sub : ∀ z ∈ uniq (opens (unrolled bk)), z ∈ d.x := fun z hz => by
    rw [uniq_has] at hz
    obtain ⟨r, hr, e⟩ := List.mem_filterMap.mp hz
    have q := unrolled_all (G := RowIn d cs bk) h.rows r hr
    cases r with
    | opn y =>
      cases e
      rcases q with f | ⟨l2, e, _⟩
      · exact f
      · cases e
    | _ => cases e
  have q : (uniq (opens (unrolled bk))).length ≤ d.x.length := len_sub (uniq_nodup _) sub
  rw [fl.xl] at q
  omega
end Pn

namespace Pn
open PySem L2 TL
section
variable {P : Program} {w : World} {K : PySem.W.Frag} {mg : Str → Option Value} {base : Heap}
def PtOf {R : TRows K mg} (T : TPart R) (H : Hp) (x : Addr) (n : Str) (us : List Addr) : Prop := ∃ dx tp, H x = some (insPart T.C dx (.str n) (.ref tp)) ∧ SqT K H tp (us.map V.ref)
theorem PtOf.same {R : TRows K mg} {T : TPart R} {H H' : Hp} {a : Addr} {n : Str} {us : List Addr} (h : PtOf T H a n us) (s : Same H H') : PtOf T H' a n us := by
  obtain ⟨dx, tp, h1, h2⟩ := h
  exact ⟨dx, tp, s _ _ h1, Same.sqt s h2⟩
theorem PtOf.at {R : TRows K mg} {T : TPart R} {H : Hp} {a : Addr} {n : Str} {us : List Addr} {rs : List RowD} (h : PtOf T H a n us) (g : RowsIn R H us rs) : PtAt T H a n rs := by
  obtain ⟨dx, tp, h1, h2⟩ := h
  exact ⟨dx, tp, us, h1, h2, g⟩
theorem rows_flags {R : TRows K mg} {H : Hp} : ∀ {us : List Addr} {rs : List RowD}, RowsIn R H us rs → Paired (RowFlag R H) (us.map V.ref) (us.map fun _ => true)
  | _, _, .nil => .nil
  | _, _, .cons a b => .cons (.inl ⟨rfl, _, _, rfl, a⟩) (rows_flags b)
theorem all_true {α : Type} (l : List α) : (l.map fun _ => true).all id = true := by
  induction l with
  | nil => rfl
  | cons _ _ ih => exact ih
theorem part_made {R : TRows K mg} (T : TPart R) {H : Hp} {p : Addr} {us : List Addr} {rs : List RowD} {n : Str} (hp : SqL K H p (us.map V.ref) ∨ SqT K H p (us.map V.ref)) (hus : RowsIn R H us rs) (hn : nameS n = true) (hl : us.length ≤ 1000)
    {RR : Addr → Hp → Prop} (k : ∀ x H', Same H H' → PtOf T H' x n us → RR x H') :
    ∀ x dx, H x = none → H dx = none → dx ≠ x → spPartInit R T.C T.IP.C [.ref x, .str n, .ref p] (upd (upd H dx (.own x)) x (.ins T.C dx [])) (fun v H2 => v = .non ∧ RR x H2) E0 := fun x dx hx hdx ne => by
  have s1 : Same H (upd (upd H dx (.own x)) x (.ins T.C dx [])) := ins_same2 hx hdx
  have hnl : n.length ≤ 4 := (name_ok hn).2
  refine ⟨x, dx, .str n, .ref p, .str n, some (us.map V.ref, us.map fun _ => true), rfl, upd_same, .str n, (show n.length ≤ 900 by omega), ⟨p, rfl, hp.elim (fun h => .inl (s1.seq h)) (fun h => .inr (Same.sqt s1 h)), rows_flags (hus.same s1), by rw [List.length_map]; exact hl⟩,
    fun z => absurd hn (by rw [show nameS n = false from z]; decide), fun _ z => absurd (all_true us) (by rw [show (us.map fun _ => true).all id = false from z]; decide), fun _ _ xs bs e tp H' kp m htp hi => ⟨rfl, k x H' (kpi_same2 hx hdx kp) ⟨dx, tp, hi, ?_⟩⟩⟩
  have e := Option.some.inj e
  injection e with e1 e2
  rw [e1]
  exact htp
end
end Pn

namespace Pn
open PySem L2 TL
section
variable {P : Program} {w : World} {K : PySem.W.Frag} {mg : Str → Option Value} {base : Heap}
theorem sqt_lst {H : Hp} {D a : Addr} {xs ys zs : List V} (hD : H D = some (.lst xs)) (h : SqT K H a zs) : SqT K (upd H D (.lst ys)) a zs := by
  rcases h with (s | ⟨u, s⟩) | s
  · exact .inl (.inl (by rw [upd_ne (fun z => by rw [z, hD] at s; cases s)]; exact s))
  · exact .inl (.inr ⟨u, by rw [upd_ne (fun z => by rw [z, hD] at s; cases s)]; exact s⟩)
  · exact .inr s
theorem rowsin_lst {R : TRows K mg} {H : Hp} {D : Addr} {xs ys : List V} (hD : H D = some (.lst xs)) {us : List Addr} {rs : List RowD} (h : RowsIn R H us rs) : RowsIn R (upd H D (.lst ys)) us rs :=
  paired_mono (fun a r e => by
    obtain ⟨dy, e⟩ := e
    obtain ⟨gs, eg⟩ := insRow_ins R dy r
    exact ⟨dy, by rw [upd_ne (fun z => by rw [z, hD, eg] at e; cases e)]; exact e⟩) h
theorem ptat_lst {R : TRows K mg} {T : TPart R} {H : Hp} {D : Addr} {xs ys : List V} (hD : H D = some (.lst xs)) {a : Addr} {n : Str} {rs : List RowD} (h : PtAt T H a n rs) : PtAt T (upd H D (.lst ys)) a n rs := by
  obtain ⟨dx, tp, us, h1, h2, h3⟩ := h
  exact ⟨dx, tp, us, by rw [upd_ne (fun z => by rw [z, hD] at h1; cases h1)]; exact h1, sqt_lst hD h2, rowsin_lst hD h3⟩
theorem book_made {R : TRows K mg} {T : TPart R} (B : TBk T) {H : Hp} {cp : Addr} {ts : List Addr} {cs : List (Str × Str)} {pu : V} {bk : List PartD} (hcp : SqL K H cp (ts.map V.ref) ∨ TupX H cp (ts.map V.ref)) (hcd : CsIn K H ts cs) (hP : PtsArg T H pu bk) (ok : BookV cs bk) {RR : Addr → Hp → Prop}
    (k : ∀ x H', Same H H' → BookAt B H' x cs bk → RR x H') : ∀ x dx, H x = none → H dx = none → dx ≠ x → spBInit B [.ref x, .ref cp, pu] (upd (upd H dx (.own x)) x (.ins B.C dx [])) (fun v H2 => v = .non ∧ RR x H2) E0 := fun x dx hx hdx ne =>
  ⟨x, dx, cp, pu, ts, cs, bk, H, rfl, upd_same, hx, ins_same2 hx hdx, hcp, hcd, hP, ok, fun H' s h => ⟨rfl, k x H' s h⟩⟩
theorem csIn_of {H : Hp} {ts : List Addr} {cs : List (Str × Str)} (h : Paired (fun t (p : Str × Str) => H t = some (.tup [.str p.1, .str p.2])) ts cs) : CsIn K H ts cs := paired_mono (fun _ _ e => SqT.of e) h
/-! ### _law_made_book -/
def spMadeBook {R : TRows K mg} {T : TPart R} (B : TBk T) : Sp := fun vs H Q _ => ∃ (t c pl : Addr) (cs : List (Str × Str)) (bk : List PartD), vs = [.ref t] ∧ SqT K H t [.ref c, .ref pl] ∧ CsAt H c cs ∧ PartsAt H pl bk ∧ BookV cs bk ∧ (∀ p ∈ bk, nameS p.1 = true) ∧
  ∀ (x : Addr) (H' : Hp), Same H H' → BookAt B H' x cs bk → Q (.ref x) H'
end
end Pn

namespace Pn
open PySem L2 TL
abbrev sCLine : Stmt := top 46
abbrev sBStr : Stmt := inClass (top 52) 12
/-! ### the text of a book -/
def cLine (n u : Str) : Str := if u = "" then Str.empty ++ ("counter " : Str) ++ n else Str.empty ++ ("counter " : Str) ++ n ++ (" under " : Str) ++ u
def bookText (cs : List (Str × Str)) (bk : List PartD) : Str := Txt.join "\n" (cs.map (fun c => cLine c.1 c.2) ++ bk.map fun p => partText p.1 p.2)
theorem joinN_len : ∀ l : List Str, (joinL (tl "\n") (l.map tl)).length ≤ (l.map (·.length)).sum + l.length
  | [] => Nat.le_refl _
  | [a] => by
    show (tl a).length ≤ a.length + 0 + 1
    rw [← len_tl]
    omega
  | a :: b :: r => by
    have q := joinN_len (b :: r)
    show (tl a ++ (tl "\n" ++ joinL (tl "\n") ((b :: r).map tl))).length ≤ _
    rw [List.length_append, List.length_append, ← len_tl, show (tl "\n").length = 1 from by decide +kernel]
    simp only [List.map_cons, List.sum_cons, List.length_cons] at q ⊢
    omega
theorem join_le (l : List Str) : (Txt.join "\n" l).length ≤ (l.map (·.length)).sum + l.length := by
  have e : tl (Txt.join "\n" l) = joinL (tl "\n") (l.map tl) := by rw [join_eq]; exact tl_join "\n" l
  rw [len_tl, e]
  exact joinN_len l
theorem cLine_len {n u : Str} (hn : n.length ≤ 100) (hu : u.length ≤ 100) : (cLine n u).length ≤ 300 := by
  have l1 : (Str.empty : Str).length + ("counter " : Str).length = 8 := by decide +kernel
  have l2 : (" under " : Str).length = 7 := by decide +kernel
  unfold cLine
  split
  · rw [strLen_append, strLen_append]; omega
  · rw [strLen_append, strLen_append, strLen_append, strLen_append]; omega
theorem partText_len {n : Str} {rs : List RowD} (h : partOk n rs) : (partText n rs).length ≤ 7000 := by
  obtain ⟨h1, h2, h3⟩ := h
  have q := join_le (partHead n :: rs.map rowText)
  have r := rows_sum h3
  have e : (partHead n).length = ("part " : Str).length + n.length := strLen_append _ _
  have e2 : ("part " : Str).length = 5 := by decide +kernel
  unfold partText
  simp only [List.map_cons, List.sum_cons, List.length_cons, List.length_map] at q r ⊢
  omega
theorem sum_le {α : Type} {f : α → Nat} {k : Nat} : ∀ {l : List α}, (∀ x ∈ l, f x ≤ k) → (l.map f).sum ≤ k * l.length
  | [], _ => Nat.le_refl _
  | x :: l, h => by
    have q := sum_le (l := l) fun y hy => h y (List.mem_cons_of_mem _ hy)
    have r := h x List.mem_cons_self
    rw [List.map_cons, List.sum_cons, List.length_cons, Nat.mul_add]
    omega
theorem book_fits {cs : List (Str × Str)} {bk : List PartD} (hc : ∀ c ∈ cs, c.1.length ≤ 100 ∧ c.2.length ≤ 100) (h1 : cs.length ≤ 100) (hp : ∀ p ∈ bk, partOk p.1 p.2) (h2 : bk.length ≤ 50) :
    ((cs.map (fun c => cLine c.1 c.2) ++ bk.map fun p => partText p.1 p.2).map (·.length)).sum + (cs.map (fun c => cLine c.1 c.2) ++ bk.map fun p => partText p.1 p.2).length * ("\n" : Str).length ≤ 16777216 := by
  have e2 : ("\n" : Str).length = 1 := by decide +kernel
  have a := sum_le (l := cs) (f := fun c => (cLine c.1 c.2).length) (k := 300) fun c h => cLine_len (hc c h).1 (hc c h).2
  have b := sum_le (l := bk) (f := fun p => (partText p.1 p.2).length) (k := 7000) fun p h => partText_len (hp p h)
  rw [e2, List.map_append, List.sum_append, List.length_append, List.map_map, List.map_map, List.length_map, List.length_map]
  show (cs.map fun c => (cLine c.1 c.2).length).sum + (bk.map fun p => (partText p.1 p.2).length).sum + _ ≤ _
  omega
section
variable {P : Program} {w : World} {K : PySem.W.Frag} {mg : Str → Option Value} {base : Heap}
def spCLine : Sp := fun vs H Q _ => ∃ n u : Str, vs = [.str n, .str u] ∧ n.length ≤ 100 ∧ u.length ≤ 100 ∧ Q (.str (cLine n u)) H
theorem scCLine : FnScope ["name", "upper"] ["name", "upper"] (defScope sCLine) := ⟨rfl, rfl, rfl, by decide +kernel, rfl, by decide +kernel, by decide +kernel⟩
theorem ok_cLine {f : Addr} {fd : FuncData} (F : Fun K "counter_line" "counter_line" sCLine f fd) : FnOk P w K mg base CX0 1 f fd ["name", "upper"] spCLine := by
  refine F.ok scCLine (fun vs H Q E h => ?_) (fun cdv A outer s H vs Q E hr h => ?_)
  · obtain ⟨n, u, rfl, _⟩ := h
    rfl
  · obtain ⟨n, u, rfl, hn, hu, q⟩ := h
    refine ⟨_, pss_cons (ps_if (pt_cmpR op_eq (pv 1) pe_str (nomark _)) (pss_one (ps_ret (pe_joined (.cons pe_str (.cons (pe_fmt (pv 0)) .nil))))) pss_nil)
      (pss_one (ps_ret (pe_joined (.cons pe_str (.cons (pe_fmt (pv 0)) (.cons pe_str (.cons (pe_fmt (pv 1)) .nil))))))), ?_⟩
    have l1 : (Str.empty : Str).length + ("counter " : Str).length = 8 := by decide +kernel
    have l2 : (" under " : Str).length = 7 := by decide +kernel
    have big : (1001 : Nat) ≤ sizeLine := by decide
    refine ⟨_, rfl, rfl, _, rfl, ?_⟩
    by_cases hz : u = ""
    · refine iteTD (decide_eq_true (by rw [hz])) ?_
      have e : cLine n u = Str.empty ++ ("counter " : Str) ++ n := if_pos hz
      rw [e] at q
      exact ⟨_, rfl, (by decide +kernel), _, rfl, .inl ⟨n, rfl, Nat.le_trans hn (by decide), n, rfl, by rw [strLen_append, strLen_append]; omega, q⟩⟩
    · refine iteFD (decide_eq_false fun z => hz (V.str.inj z)) ?_
      have e : cLine n u = Str.empty ++ ("counter " : Str) ++ n ++ (" under " : Str) ++ u := if_neg hz
      rw [e] at q
      exact ⟨_, rfl, (by decide +kernel), _, rfl, .inl ⟨n, rfl, Nat.le_trans hn (by decide), n, rfl, by rw [strLen_append, strLen_append]; omega, _, rfl, by rw [strLen_append, strLen_append, strLen_append]; omega, _, rfl, .inl ⟨u, rfl, Nat.le_trans hu (by decide), u, rfl, by rw [strLen_append, strLen_append, strLen_append, strLen_append]; omega, q⟩⟩⟩
/-- what str(book) wants -/
structure TBStr {K : PySem.W.Frag} {mg : Str → Option Value} {R : TRows K mg} {T : TPart R} (B : TBk T) : Type where
  cline : At K mg "counter_line" sCLine ["name", "upper"]
  str : TMeth K B.C "__str__" "Book.__str__" sBStr ["self"]
def spBStr {R : TRows K mg} {T : TPart R} (B : TBk T) : Sp := fun vs H Q _ => ∃ (a : Addr) (cs : List (Str × Str)) (bk : List PartD), vs = [.ref a] ∧ BookAt B H a cs bk ∧ (∀ c ∈ cs, c.1.length ≤ 100 ∧ c.2.length ≤ 100) ∧ cs.length ≤ 100 ∧ (∀ p ∈ bk, partOk p.1 p.2) ∧ bk.length ≤ 50 ∧ ∀ H', Same H H' → Q (.str (bookText cs bk)) H'
theorem scBStr : FnScope ["self", "counters", "parts", "name", "upper", "part"] ["self"] (defScope sBStr) := ⟨rfl, rfl, rfl, by decide +kernel, rfl, by decide +kernel, by decide +kernel⟩
theorem ok_bStr {R : TRows K mg} {T : TPart R} {B : TBk T} (S : TBStr B) : FnOk P w K mg base CX0 8 S.str.f S.str.fd ["self"] (spBStr B) := by
  refine S.str.F.ok scBStr (fun vs H Q E h => ?_) (fun cdv A outer s H vs Q E hr h => ?_)
  · obtain ⟨a, cs, bk, rfl, _⟩ := h
    rfl
  · obtain ⟨a, cs, bk, rfl, ⟨dx, ct, pt, ft, ts, ps, us, ha, ⟨hct, hts⟩, ⟨hpt, hps⟩, _, _⟩, hc, hcl, hp, hpl, q⟩ := h
    refine ⟨_, pss_cons (ps_setLc (i := 1) (own := [("name", 3), ("upper", 4)]) (g := gTup K 2 (gCons (gName 3) (gCons (gName 4) gNil))) (tt := tYes) (by rfl) scBStr.nd rfl rfl (sw_true rfl rfl rfl (by decide +kernel)) (pi_tup (pe_fld (pv 0) rfl))
        (blkOk_by (N := ["self", "counters", "parts", "name", "upper", "part"]) (sc := defScope sBStr) (by decide +kernel)) (fun _ _ _ _ _ => pg_tup (by rfl) (pgs_cons (pg_name (i := 3) scBStr.nd rfl (Or.inl rfl)) (pgs_cons (pg_name (i := 4) scBStr.nd rfl (Or.inl rfl)) pgs_nil))) (fun _ _ _ _ _ => pts_nil)
        (fun _ _ _ _ _ => pe_call (ok_cLine S.cline.F) (hr.mono (by decide)) rfl S.cline.m S.cline.F.kp S.cline.b .nil pass0 (pa_cons (pv 3) (pa_cons (pv 4) pa_nil))))
      (pss_cons (ps_setLc (i := 2) (own := [("part", 5)]) (g := gName 5) (tt := tYes) (by rfl) scBStr.nd rfl rfl (sw_true rfl rfl rfl (by decide +kernel)) (pi_tup (pe_fld (pv 0) rfl))
        (blkOk_by (N := ["self", "counters", "parts", "name", "upper", "part"]) (sc := defScope sBStr) (by decide +kernel)) (fun _ _ _ _ _ => pg_name (i := 5) scBStr.nd rfl (Or.inl rfl)) (fun _ _ _ _ _ => pts_nil)
        (fun _ _ _ _ _ => pe_callTy (show CallR _ (.type "str") (rStrPart T) from call_strPartK (K := K) (mg := mg) rfl rfl T (hr.mono (by decide))) (by rfl) R.N.mStr (by decide +kernel) (pa_cons (pv 5) pa_nil)))
      (pss_one (ps_ret (pe_join pe_str (pe_lst (StX.pa_star (pv 1) (StX.pa_star (pv 2) pa_nil))))))), ?_⟩
    have htl : ts.length = cs.length := paired_len hts
    have hpl2 : ps.length = bk.length := paired_len hps
    have big : (1001 : Nat) ≤ sizeLine := by decide
    refine ⟨_, rfl, a, B.C, dx, _, .ref ct, rfl, ha, B.cl, B.noC, book_c, ct, rfl, ⟨_, hct.sqt⟩, fun D hD => lc_tup (xs := ts.map V.ref) (fun i Hi => Same H Hi ∧ Hi D = some (.lst ((cs.take i).map fun c => V.str (cLine c.1 c.2)))) ⟨Same.new hD, upd_same⟩ (fun i Hi _ hP => Same.sqt hP.1 hct.sqt) (fun i z Hi hz hP => ?turn) (fun Hi hP => ?fin)⟩
    case turn =>
      obtain ⟨s3, hDi⟩ := hP
      rw [List.getElem?_map] at hz
      cases hui : ts[i]? with
      | none => rw [hui] at hz; cases hz
      | some u =>
      rw [hui] at hz
      cases hz
      obtain ⟨c, hcc, htc⟩ := paired_at hts hui
      have hcm := List.mem_of_getElem? hcc
      refine ⟨u, _, rfl, Same.sqt s3 htc, rfl, _, _, rfl, _, _, rfl, rfl, rfl, _, rfl, _, rfl, c.1, c.2, rfl, (hc c hcm).1, (hc c hcm).2, _, hDi, ?_, Same.updn s3 hD, ?_⟩
      · rw [List.length_map, List.length_take]
        omega
      · rw [upd_same, List.take_add_one, hcc, List.map_append]
        rfl
    case fin =>
      obtain ⟨s3, hDi⟩ := hP
      rw [List.length_map, htl, List.take_length] at hDi
      refine ⟨_, rfl, a, B.C, dx, _, .ref pt, rfl, s3 _ _ ha, B.cl, B.noP, book_p, pt, rfl, ⟨_, Same.sqt s3 hpt⟩, fun D2 hD2 => lc_tup (g := gName 5) (tt := tYes) (vs := [5]) (xs := ps.map V.ref) (fun i Hj => Same Hi Hj ∧ Hj D2 = some (.lst ((bk.take i).map fun p => V.str (partText p.1 p.2)))) ⟨Same.new hD2, upd_same⟩ (fun i Hj _ hP => Same.sqt hP.1 (Same.sqt s3 hpt)) (fun i z Hj hz hP => ?turn2) (fun Hj hP => ?fin2)⟩
      case turn2 =>
        obtain ⟨s4, hDj⟩ := hP
        obtain ⟨u, p, hu, hpp, rfl, hpa⟩ := pts_at hps hz
        have hpm := List.mem_of_getElem? hpp
        refine ⟨rfl, _, rfl, u, p.1, p.2, rfl, (hpa.same s3).same s4, hp p hpm, fun Hk s5 => ⟨_, s5 _ _ hDj, ?_, Same.updn (s4.trans s5) hD2, ?_⟩⟩
        · rw [List.length_map, List.length_take]
          omega
        · rw [upd_same, List.take_add_one, hpp, List.map_append]
          rfl
      case fin2 =>
        obtain ⟨s4, hDj⟩ := hP
        rw [List.length_map, hpl2, List.take_length] at hDj
        have hD4 := s4 _ _ hDi
        have e1 : Hj D = some (.lst ((cs.map fun c => cLine c.1 c.2).map V.str)) := by rw [hD4, List.map_map]; rfl
        have e2 : Hj D2 = some (.lst ((bk.map fun p => partText p.1 p.2).map V.str)) := by rw [hDj, List.map_map]; rfl
        refine ⟨⟨_, rfl⟩, ?_⟩
        refine ⟨_, rfl, D, (cs.map fun c => cLine c.1 c.2).map V.str, rfl, .inr (SqL.of e1), ?_⟩
        refine ⟨_, rfl, D2, (bk.map fun p => partText p.1 p.2).map V.str, rfl, .inr (SqL.of e2), ?_⟩
        refine ⟨?_, fun l hl2 => ?_⟩
        · show ((cs.map fun (c : Str × Str) => cLine c.1 c.2).map V.str ++ ((bk.map fun (p : PartD) => partText p.1 p.2).map V.str ++ [])).length ≤ sizeLine
          rw [List.append_nil, List.length_append, List.length_map, List.length_map, List.length_map, List.length_map]
          omega
        · refine ⟨"\n", l, (cs.map fun c => cLine c.1 c.2) ++ bk.map fun p => partText p.1 p.2, rfl, rfl, .inl (SqL.of (by rw [upd_same, List.append_nil, List.map_append])), book_fits hc hcl hp hpl, ?_⟩
          exact q _ ((s3.trans s4).trans (Same.new hl2))
end
end Pn

namespace Pn
open PySem L2 TL
abbrev sBEq : Stmt := inClass (top 52) 13
abbrev sBLen : Stmt := inClass (top 52) 11
abbrev sBNum : Stmt := inClass (top 52) 5
abbrev sBPartOf : Stmt := inClass (top 52) 6
section
variable {P : Program} {w : World} {K : PySem.W.Frag} {mg : Str → Option Value} {base : Heap}
/-- a book that can be told as a text -/
def bookOk (cs : List (Str × Str)) (bk : List PartD) : Prop := (∀ c ∈ cs, c.1.length ≤ 100 ∧ c.2.length ≤ 100) ∧ cs.length ≤ 100 ∧ (∀ p ∈ bk, partOk p.1 p.2) ∧ bk.length ≤ 50
theorem bookOk_of {cs : List (Str × Str)} {bk : List PartD} (ok : BookV cs bk) : bookOk cs bk := by
  refine ⟨fun c hc => ?_, ok.c.len, ok.rows, ok.len⟩
  have h1 := (name_ok (ok.c.nm c hc)).2
  refine ⟨by omega, ?_⟩
  obtain ⟨i, hi⟩ := List.getElem?_of_mem hc
  rcases ok.c.up i c hi with z | z
  · rw [z]; decide +kernel
  · obtain ⟨d, hd, e⟩ := List.mem_map.mp z
    rw [← e]
    have := (name_ok (ok.c.nm d (List.mem_of_mem_take hd))).2
    omega
def rStrBook {R : TRows K mg} {T : TPart R} (B : TBk T) : List V → Hp → VK → Prop := fun xs H Q => ∃ (a : Addr) (cs : List (Str × Str)) (bk : List PartD), xs = [.ref a] ∧ BookAt B H a cs bk ∧ bookOk cs bk ∧ ∀ H', Same H H' → Q (.str (bookText cs bk)) H'
theorem call_strBook {X : Cx} {R : TRows X.K X.mg} {T : TPart R} {B : TBk T} (S : TBStr B) (hr : Room 10 X.A) : CallR X (.type "str") (rStrBook B) := by
  intro pins s σ H xs us Q I r h
  obtain ⟨a, cs, bk, rfl, hb, ok, q⟩ := h
  obtain ⟨dx, ct, pt, ft, ts, ps, us2, e, _⟩ := id hb
  exact call_strIns (ok_bStr S) S.str.hf hr S.str.b pass0 pins s σ H _ us Q I r ⟨a, _, dx, _, rfl, e, S.str.hs, a, cs, bk, rfl, hb, ok.1, ok.2.1, ok.2.2.1, ok.2.2.2, fun H' s' => ⟨_, rfl, q H' s'⟩⟩
theorem call_strBookK {X : Cx} {K : PySem.W.Frag} {mg : Str → Option Value} (hK : X.K = K) (hm : X.mg = mg) {R : TRows K mg} {T : TPart R} {B : TBk T} (S : TBStr B) (hr : Room 10 X.A) : CallR X (.type "str") (rStrBook B) := by
  subst hK
  subst hm
  exact call_strBook S hr
/-- what book == other wants -/
structure TBEq {K : PySem.W.Frag} {mg : Str → Option Value} {R : TRows K mg} {T : TPart R} (B : TBk T) : Type extends TBStr B where
  eq : TMeth K B.C "__eq__" "Book.__eq__" sBEq ["self", "other"]
  pA : PySem.W.findIn K (.ref B.C) "__class__" = some (some (.builtin "object.__class__"))
  pM : PySem.W.mroIn K B.C (.type "object") = some true
  kC : PySem.W.kitOne K (.ref B.C) (.ref B.C) = some true
  kS : PySem.W.kitOne K (.type "str") (.ref B.C) = some false
def spBEq {R : TRows K mg} {T : TPart R} (B : TBk T) : Sp := fun vs H Q _ => ∃ (a : Addr) (y : V) (cs : List (Str × Str)) (bk : List PartD), vs = [.ref a, y] ∧ BookAt B H a cs bk ∧ bookOk cs bk ∧
  ((∃ z, y = .str z ∧ Q (.bl false) H) ∨ ∃ (b : Addr) (cs2 : List (Str × Str)) (bk2 : List PartD), y = .ref b ∧ BookAt B H b cs2 bk2 ∧ bookOk cs2 bk2 ∧ ∀ H', Same H H' → Q (.bl (decide (bookText cs bk = bookText cs2 bk2))) H')
theorem scBEq : FnScope ["self", "other"] ["self", "other"] (defScope sBEq) := ⟨rfl, rfl, rfl, by decide +kernel, rfl, by decide +kernel, by decide +kernel⟩
theorem ok_bEq {R : TRows K mg} {T : TPart R} {B : TBk T} (S : TBEq B) : FnOk P w K mg base CX0 11 S.eq.f S.eq.fd ["self", "other"] (spBEq B) := by
  refine S.eq.F.ok scBEq (fun vs H Q E h => ?_) (fun cdv A outer s H vs Q E hr h => ?_)
  · obtain ⟨a, y, cs, bk, rfl, _⟩ := h
    rfl
  · obtain ⟨a, y, cs, bk, rfl, ha, hok, q⟩ := h
    refine ⟨_, pss_one (ps_ret (pe_and (pe_callB call_isi (by rfl) R.N.mIsi (by decide +kernel) (pa_cons (pv 1) (pa_cons (pe_glob (v := .ref B.C) (by rfl) B.mC rfl) pa_nil)))
      (pe_one (pe_cmpR op_eq (pe_callTy (call_strBookK (K := K) (mg := mg) rfl rfl S.toTBStr hr) (by rfl) R.N.mStr (by decide +kernel) (pa_cons (pv 0) pa_nil)) (pe_callTy (call_strBookK (K := K) (mg := mg) rfl rfl S.toTBStr hr) (by rfl) R.N.mStr (by decide +kernel) (pa_cons (pv 1) pa_nil)) (nomark _))))), ?_⟩
    rcases q with ⟨z, rfl, q⟩ | ⟨b, cs2, bk2, rfl, hb, hokb, q⟩
    · refine ⟨_, rfl, .str z, .ref B.C, _, _, false, rfl, .own _, .base (.str z), S.kS, _, rfl, iteF ?_⟩
      exact q
    · obtain ⟨dy, _, _, _, _, _, _, hb2, _⟩ := id hb
      refine ⟨_, rfl, .ref b, .ref B.C, _, _, true, rfl, .own _, .base (.ins hb2 B.cl S.pA T.cN T.cT S.pM), S.kC, _, rfl, iteT ?_⟩
      refine ⟨_, rfl, a, cs, bk, rfl, ha, hok, fun H1 s1 => ⟨_, rfl, b, cs2, bk2, rfl, hb.same s1, hokb, fun H2 s2 => ⟨rfl, ?_⟩⟩⟩
      have e : decide (V.str (bookText cs bk) = V.str (bookText cs2 bk2)) = decide (bookText cs bk = bookText cs2 bk2) := by
        by_cases h : bookText cs bk = bookText cs2 bk2
        · rw [h, decide_eq_true rfl, decide_eq_true rfl]
        · rw [decide_eq_false h, decide_eq_false (fun z => h (V.str.inj z))]
      rw [e]
      exact q H2 (s1.trans s2)
/-! ### len(book) -/
theorem scBLen : FnScope ["self"] ["self"] (defScope sBLen) := ⟨rfl, rfl, rfl, by decide +kernel, rfl, by decide +kernel, by decide +kernel⟩
def spBLen {R : TRows K mg} {T : TPart R} (B : TBk T) : Sp := fun vs H Q _ => ∃ (a : Addr) (cs : List (Str × Str)) (bk : List PartD), vs = [.ref a] ∧ BookAt B H a cs bk ∧ Q (.int (bk.length : Int)) H
theorem ok_bLen {R : TRows K mg} {T : TPart R} {B : TBk T} (L : TMeth K B.C "__len__" "Book.__len__" sBLen ["self"]) : FnOk P w K mg base CX0 1 L.f L.fd ["self"] (spBLen B) := by
  refine L.F.ok scBLen (fun vs H Q E h => ?_) (fun cdv A outer s H vs Q E hr h => ?_)
  · obtain ⟨a, cs, bk, rfl, _⟩ := h
    rfl
  · obtain ⟨a, cs, bk, rfl, ⟨dx, ct, pt, ft, ts, ps, us, ha, _, ⟨hpt, hps⟩, _, _⟩, q⟩ := h
    refine ⟨_, pss_one (ps_ret (pe_callB call_len_seq (by rfl) R.N.mLen PySem.boot_len (pa_cons (pe_fld (pv 0) rfl) pa_nil))), ?_⟩
    have e : (((ps.map V.ref).length : Nat) : Int) = bk.length := by rw [List.length_map, show ps.length = bk.length from paired_len hps]
    exact ⟨_, rfl, a, B.C, dx, _, .ref pt, rfl, ha, B.cl, B.noP, book_p, pt, _, rfl, .inr hpt, by rw [e]; exact q⟩
end
end Pn

namespace Pn
open PySem L2 TL
/-! ### a book stands apart from lists -/
section
variable {P : Program} {w : World} {K : PySem.W.Frag} {mg : Str → Option Value} {base : Heap}
theorem sqt_hid {H : Hp} {b a : Addr} {xs zs : List V} (hb : H b = some (.lst xs)) (h : SqT K H a zs) : SqT K (hid H b) a zs := by
  rcases h with (s | ⟨u, s⟩) | s
  · exact .inl (.inl (hid_get s fun z => by rw [z, hb] at s; cases s))
  · exact .inl (.inr ⟨u, hid_get s fun z => by rw [z, hb] at s; cases s⟩)
  · exact .inr s
theorem rowsin_hid {R : TRows K mg} {H : Hp} {b : Addr} {xs : List V} (hb : H b = some (.lst xs)) {us : List Addr} {rs : List RowD} (h : RowsIn R H us rs) : RowsIn R (hid H b) us rs :=
  paired_mono (fun a r e => by
    obtain ⟨dy, e⟩ := e
    obtain ⟨gs, eg⟩ := insRow_ins R dy r
    exact ⟨dy, hid_get e fun z => by rw [z, hb, eg] at e; cases e⟩) h
theorem ptat_hid {R : TRows K mg} {T : TPart R} {H : Hp} {b : Addr} {xs : List V} (hb : H b = some (.lst xs)) {a : Addr} {n : Str} {rs : List RowD} (h : PtAt T H a n rs) : PtAt T (hid H b) a n rs := by
  obtain ⟨dx, tp, us, h1, h2, h3⟩ := h
  exact ⟨dx, tp, us, hid_get h1 (fun z => by rw [z, hb] at h1; cases h1), sqt_hid hb h2, rowsin_hid hb h3⟩
theorem book_hid {R : TRows K mg} {T : TPart R} {B : TBk T} {H : Hp} {b a : Addr} {xs : List V} {cs : List (Str × Str)} {bk : List PartD} (hb : H b = some (.lst xs)) (h : BookAt B H a cs bk) : BookAt B (hid H b) a cs bk := by
  obtain ⟨dx, ct, pt, ft, ts, ps, us, h1, ⟨⟨o, d, h2⟩, h3⟩, ⟨h4, h5⟩, h6, h7⟩ := h
  exact ⟨dx, ct, pt, ft, ts, ps, us, hid_get h1 (fun z => by rw [z, hb] at h1; cases h1), ⟨⟨o, d, hid_get h2 fun z => by rw [z, hb] at h2; cases h2⟩, paired_mono (fun _ _ e => sqt_hid hb e) h3⟩, ⟨sqt_hid hb h4, paired_mono (R := fun a (q : PartD) => PtAt T H a q.1 q.2) (fun _ _ e => ptat_hid hb e) h5⟩, sqt_hid hb h6, rowsin_hid hb h7⟩
theorem hid_upd_sub {H : Hp} {b : Addr} {o : HO} : Same (hid H b) (upd H b o) := fun a u e => by
  have h := hid_sub a u e
  have n : a ≠ b := fun z => by rw [z] at e; unfold hid at e; rw [if_pos rfl] at e; cases e
  rw [upd_ne n]
  exact h
theorem book_lst {R : TRows K mg} {T : TPart R} {B : TBk T} {H : Hp} {b a : Addr} {xs ys : List V} {cs : List (Str × Str)} {bk : List PartD} (hb : H b = some (.lst xs)) (h : BookAt B H a cs bk) : BookAt B (upd H b (.lst ys)) a cs bk := (book_hid hb h).same hid_upd_sub
theorem kp_same {b : Addr} {H H' : Hp} (k : Kp b H H') : Same (hid H b) H' := fun a o e => by
  have n : a ≠ b := fun z => by rw [z] at e; unfold hid at e; rw [if_pos rfl] at e; cases e
  exact k a o (hid_sub a o e) n
theorem book_kp {R : TRows K mg} {T : TPart R} {B : TBk T} {H H' : Hp} {b a : Addr} {cs : List (Str × Str)} {bk : List PartD} (hb : BoxAt H b) (k : Kp b H H') (h : BookAt B H a cs bk) : BookAt B H' a cs bk := by
  obtain ⟨x, y, _, e⟩ := hb
  exact (book_hid e h).same (kp_same k)
theorem part_one {bk : List PartD} (nd : (bk.map (·.1)).Nodup) {p q : PartD} (hp : p ∈ bk) (hq : q ∈ bk) (e : p.1 = q.1) : p = q := by
  induction bk with
  | nil => cases hp
  | cons r bk ih =>
    rw [List.map_cons, List.nodup_cons] at nd
    rcases List.mem_cons.mp hp with h1 | h1
    · rcases List.mem_cons.mp hq with h2 | h2
      · rw [h1, h2]
      · exact absurd (List.mem_map.mpr ⟨q, h2, by rw [← e, h1]⟩) nd.1
    · rcases List.mem_cons.mp hq with h2 | h2
      · exact absurd (List.mem_map.mpr ⟨p, h1, by rw [e, h2]⟩) nd.1
      · exact ih nd.2 h1 h2
end
end Pn

namespace Pn
open PySem PySem.Spec PyProof.Rows L2
/-! ### xs[1::2] -/
def odds {α : Type} : List α → List α
  | _ :: b :: r => b :: odds r
  | _ => []
theorem odds_map {α β : Type} (f : α → β) : ∀ l : List α, odds (l.map f) = (odds l).map f
  | [] => rfl
  | [_] => rfl
  | _ :: b :: r => by
    show f b :: odds (r.map f) = f b :: (odds r).map f
    rw [odds_map f r]
theorem odds_len {α : Type} : ∀ l : List α, (odds l).length ≤ l.length
  | [] => Nat.le_refl _
  | [_] => Nat.zero_le _
  | _ :: b :: r => by
    have q := odds_len r
    show (odds r).length + 1 ≤ r.length + 1 + 1
    omega
theorem odds_sub {α : Type} : ∀ (l : List α), ∀ x ∈ odds l, x ∈ l
  | [], _, h => nomatch h
  | [_], _, h => nomatch h
  | _ :: b :: r, x, h => by
    rcases List.mem_cons.mp (show x ∈ b :: odds r from h) with rfl | h
    · simp
    · exact List.mem_cons_of_mem _ (List.mem_cons_of_mem _ (odds_sub r x h))
theorem fm_congr {α β : Type} {f g : α → Option β} : ∀ {l : List α}, (∀ x ∈ l, f x = g x) → l.filterMap f = l.filterMap g
  | [], _ => rfl
  | x :: l, h => by
    rw [List.filterMap_cons, List.filterMap_cons, h x List.mem_cons_self, fm_congr fun y hy => h y (List.mem_cons_of_mem _ hy)]
theorem odds_pick {α : Type} : ∀ l : List α, (List.range (l.length / 2)).filterMap (fun k => l[1 + 2 * k]?) = odds l
  | [] => by
    simp [odds]
  | [_] => by
    simp [odds]
  | a :: b :: r => by
    have e : (a :: b :: r).length / 2 = r.length / 2 + 1 := by
      rw [List.length_cons, List.length_cons]
      omega
    rw [e, List.range_succ_eq_map, List.filterMap_cons]
    show b :: _ = b :: odds r
    congr 1
    rw [List.filterMap_map, ← odds_pick r]
    refine fm_congr fun k _ => ?_
    show (a :: b :: r)[1 + 2 * (k + 1)]? = r[1 + 2 * k]?
    rw [show 1 + 2 * (k + 1) = (1 + 2 * k) + 1 + 1 by omega]
    rfl
theorem pick_odds (items : Array Value) : slicePick items (some 1) none (some 2) = (odds items.toList).toArray := by
  have hb : sliceBounds (some 1) none (some 2) items.size = (max 0 (min 1 (items.size : Int)), (items.size : Int), 2) := rfl
  unfold slicePick
  rw [hb]
  show ((sliceRange (max 0 (min 1 (items.size : Int))) (items.size : Int) 2).filterMap (items[·]?)).toArray = _
  congr 1
  rw [← odds_pick, Array.length_toList]
  have e : sliceRange (max 0 (min 1 (items.size : Int))) (items.size : Int) 2 = (List.range (items.size / 2)).map fun k => 1 + 2 * k := by
    show (List.range (if max 0 (min 1 (items.size : Int)) < (items.size : Int) then ((items.size : Int) - max 0 (min 1 (items.size : Int)) + 2 - 1) / 2 else 0).toNat).map (fun (k : Nat) => (max 0 (min 1 (items.size : Int)) + 2 * (k : Int)).toNat) = _
    have hc : (if max 0 (min 1 (items.size : Int)) < (items.size : Int) then ((items.size : Int) - max 0 (min 1 (items.size : Int)) + 2 - 1) / 2 else 0).toNat = items.size / 2 := by
      split <;> omega
    rw [hc]
    apply List.map_congr_left
    intro k hk
    have h := List.mem_range.mp hk
    omega
  rw [e, List.filterMap_map]
  refine fm_congr fun k _ => ?_
  show items[1 + 2 * k]? = items.toList[1 + 2 * k]?
  rw [Array.getElem?_toList]
theorem vals_odds : ∀ {xs : List V} {us : List Value}, Vals xs us → Vals (odds xs) (odds us)
  | _, _, .nil => .nil
  | _, _, .cons _ .nil => .nil
  | _, _, .cons _ (.cons b r) => .cons b (vals_odds r)
def tOdd (K : PySem.W.Frag) (te : TE) : TE := fun σ H Q => te σ H fun x H1 => ∃ a xs, x = .ref a ∧ SqL K H1 a xs ∧ ∀ p, H1 p = none → Q (.ref p) (upd H1 p (.lst (odds xs)))
theorem pe_odd {X : Cx} {e : Expr} {te : TE} {k k2 : Nat} {p1 p2 p3 pos : Pos} (he : PE X e te) : PE X (.Subscript e (.Slice (some (.Constant (.int 1) k p1)) none (some (.Constant (.int 2) k2 p2)) p3) pos) (tOdd X.K te) := by
  refine ⟨fun pins s σ H Q I h => ?_⟩
  refine Subscript_ (thn (he.run pins s σ H _ I h) fun v s1 hv => ?_)
  obtain ⟨x, H1, I1, r1, a, xs, rfl, hx, q⟩ := hv
  cases r1
  have hst : PO X (some (.Constant (.int 2) k2 p2)) (tPart (tC (.int 2))) := po_some pe_int
  have hlo : PO X (some (.Constant (.int 1) k p1)) (tPart (tC (.int 1))) := po_some pe_int
  refine wpAny_Slice (thn (hlo.run pins s1 σ H1 (fun o H2 => o = some 1 ∧ H2 = H1) I1 ⟨1, rfl, rfl, rfl⟩) fun vl s2 hl => ?_)
  obtain ⟨l, H2, I2, pl, rfl, rfl⟩ := hl
  refine thn (po_none.run pins s2 σ H2 (fun o H3 => o = none ∧ H3 = H2) I2 ⟨rfl, rfl⟩) fun vu s3 hu => ?_
  obtain ⟨u, H3, I3, pu, rfl, rfl⟩ := hu
  refine thn (hst.run pins s3 σ H3 (fun o H4 => o = some 2 ∧ H4 = H3) I3 ⟨2, rfl, rfl, rfl⟩) fun vs s4 hs => ?_
  obtain ⟨o, H4, I4, ps, rfl, rfl⟩ := hs
  have I5 : Inv X pins σ H4 { s4 with heap := s4.heap.push { cls := .type "slice", data := .fields #[vl, vu, vs] } } := I4.kept (t' := s4.toks) fun b ob q => Heap.get?_push_of_some _ q
  obtain ⟨its, r, ht, hz⟩ := I5.list hx
  have hlen := r.length
  show wpAny (model X.prog X.w) X.A (subscriptTail e (.Slice (some (.Constant (.int 1) k p1)) none (some (.Constant (.int 2) k2 p2)) p3) (.ref a) (.ref s4.heap.objs.size)) (EP X pins σ Q) X.xe { s4 with heap := s4.heap.push { cls := .type "slice", data := .fields #[vl, vu, vs] } }
  refine tail_any (ops := [.ref a, .ref s4.heap.objs.size]) ht.isList.typeIs (PySem.slot_list_getitem.lookup) ?_ (by with_unfolding_all rfl)
  refine wpAny_getItem_list_slice ht.isList (Heap.IsSliceOf.new _ vl vu vs) pl pu ps (by decide) ?_ (by rw [List.size_toArray]; omega)
  rw [pick_odds]
  have hol := odds_len xs
  refine ⟨.ref _, _, I5.laid (t' := s4.toks) (o := .lst (odds xs)) (fun b ob q => Heap.get?_push_of_some _ q) (Nat.le_refl _) ?_, rfl, q _ (I5.hok.fresh (Nat.le_refl _))⟩
  exact ⟨by omega, _, 0, vals_odds r, Heap.get?_push_size _ rfl⟩
/-! ### C(..), C a class that a local name holds -/
def tMakeL (i : Nat) (C : Addr) (sp : Sp) (dvs : List V) (E : XK) (t : TA) : TE := fun σ H Q => σ[i]? = some (some (.ref C)) ∧ tMake C sp dvs E t σ H Q
theorem pe_makeL {X : Cx} {CX : CXT} {k i : Nat} {f C : Addr} {fd : FuncData} {ps : List Str} {sp : Sp} {dvs : List V} {ds : List Value} {E : XK} {x : Str} {p pos : Pos} {e : Expr} {es : List Expr} {t : TA}
    (M : Mk X.K C f) (F : FnOk X.prog X.w X.K X.mg X.base CX k f fd ps sp) (hr : Room (k + 1) X.A) (hN : X.N[i]? = some x) (hv : Vis X.env.scope x) (hb : Binds X.K fd ps ds) (hd : Vals dvs ds) (hx : Passes CX X E)
    (ha : PA X (e :: es) t) (hdb : (x == ("__debug__" : Str)) = false := by decide) (hcd : (x == ("__classdict__" : Str)) = false := by decide)
    (he : starEach (e :: es) X.env = (false, eval e X.env) :: starEach es X.env := by rfl) (hpl : (backTo pos (starEach es X.env)).any (·.1) = false := by rfl) :
    PE X (.Call (.Name x p) (e :: es) [] pos) (tMakeL i C sp dvs E t) := by
  refine ⟨fun pins s σ H Q I h => ?_⟩
  obtain ⟨hs, ht⟩ := h
  refine wpAny_Call_Name_kw (thn ((pe_var (pos := p) hN hv hdb hcd).run pins s σ H (fun v H1 => v = .ref C ∧ H1 = H) I ⟨.ref C, hs, rfl, rfl⟩) fun u s1 hu => ?_)
  obtain ⟨v, H1, I1, r1, rfl, rfl⟩ := hu
  cases r1
  refine PySem.W.callWith_K (h₀ := X.base) I1.ok.mod.kin M.kp (thn (ha.run pos pins s1 σ H1 _ I1 ht) fun us s2 hu => ?_) he hpl
  obtain ⟨vs, H2, I2, r, q⟩ := hu
  exact ⟨I2.kIn, run_make M F hr hb hd hx I2 r q⟩
end Pn

namespace Pn
open PySem PySem.Spec PyProof.Rows L2
/-! ### enumerate(list, start) -/
/-- the things of the list at l with numbers from k, each in a new pair -/
def IteF (K : PySem.W.Frag) (l : Addr) (k : Int) : It :=
  ⟨fun i H => ∃ (xs : List V) (x : V), SqL K H l xs ∧ xs[i]? = some x, fun i H v H' => ∃ T x, v = .ref T ∧ H T = none ∧ H' = upd H T (.tup [.int (k + (i : Nat)), x]) ∧ ∀ xs, SqL K H l xs → xs[i]? = some x, fun i H => ∃ xs : List V, SqL K H l xs ∧ xs.length ≤ i⟩
theorem lst_apart {h : Heap} {t e it : Addr} {its : Array Value} {i : Nat} {c : Int} {old : Value} (p : h.IsList t its) (he : IsEnum h e it c old) (hit : h.IsListIter it t i) : t ≠ it ∧ t ≠ e := by
  obtain ⟨o, ho, hc, _⟩ := p
  constructor
  · intro z
    subst z
    obtain ⟨o2, ho2, hc2, _⟩ := hit
    rw [ho] at ho2
    cases Option.some.inj ho2
    rw [hc] at hc2
    exact absurd hc2 (by decide)
  · intro z
    subst z
    have q : h.get? t = some _ := he
    rw [ho] at q
    have e2 := Option.some.inj q
    rw [e2] at hc
    have e3 : Value.type "enumerate" = Value.type "list" := hc
    exact absurd e3 (by decide)
section
variable {prog : Program} {w : World} {A : Around} {E : Value → Shared → Prop} {s : Shared}
theorem enum_outF {e it t : Addr} {its : Array Value} {i : Nat} {c : Int} {old : Value} {Q : Option Value → Shared → Prop} (hh : A.handled = none) (he : IsEnum s.heap e it c old) (hit : s.heap.IsListIter it t i) (hp : s.heap.IsList t its) (hi : its.size ≤ i)
    (hQ : ∀ h', Heap.ExtBut it s.heap h' → Q none { s with heap := h' }) : wpAny (model prog w) A (pyNext (.ref e)) Q E s := by
  have D : Draws prog w A.in1 it [it, t] i (fun _ _ => False) (fun j h => j = i ∧ h.IsListIter it t i ∧ h.IsList t its) := {
    live := fun _ _ st => by obtain ⟨_, ⟨o, ho, _⟩, _⟩ := st; exact ⟨o, ho⟩
    frame := fun _ _ _ st hk => ⟨st.1, st.2.1.at fun o e => hk it (by simp) o e, st.2.2.at fun o e => hk t (by simp) o e⟩
    item := fun j s Q E hj st _ => absurd st.1 (Nat.ne_of_lt hj)
    done := fun s Q E st hE => wpAny_nextOf_list_end hh st.2.1 st.2.2 (by simp [hi]) hE }
  exact wpAny_pyNext_enum_endD D he ⟨rfl, hit, hp⟩ hQ
end
theorem turn_enumF {P : Program} {w : World} {K : PySem.W.Frag} {elts : List Expr} {kk : Nat} {tpos : Pos} (t e it : Addr) (k : Int) :
    Turn P w K (.Tuple elts kk tpos) (IteF K t k) [e, it] e (fun i h => (∃ old, IsEnum h e it (k + ((i : Nat) : Int)) old) ∧ h.IsListIter it t i ∧ e ≠ it) where
  mem := by simp
  obj := fun i h st b hb => by
    obtain ⟨⟨old, he⟩, ⟨o, ho, hc, hd⟩, _⟩ := st
    have e' : b = e ∨ b = it := by simpa using hb
    rcases e' with z | z
    · rw [z]; exact ⟨_, he, fun v q => nomatch q⟩
    · rw [z]; exact ⟨o, ho, fun v q => by rw [hd] at q; cases q⟩
  keep := fun i h h' st k => by
    obtain ⟨⟨old, he⟩, hi, hne⟩ := st
    exact ⟨⟨old, k e (by simp) _ he⟩, hi.at fun o q => k it (by simp) o q, hne⟩
  item := by
    intro X hP hw hK hc i pins s σ H E I hf st hg
    subst hP hw hK
    obtain ⟨⟨old, he⟩, hit, hne⟩ := st
    obtain ⟨xs, x, hq, hx⟩ := hg
    obtain ⟨its, rv, p0, hz⟩ := I.list hq
    have p := p0.isList
    obtain ⟨u, hu, ru⟩ := rv.get hx
    obtain ⟨n1, n2⟩ := lst_apart p he hit
    have hel : e < s.heap.objs.size := Heap.lt_size he
    have hil : it < s.heap.objs.size := by
      obtain ⟨_, q, _⟩ := hit
      exact Heap.lt_size q
    have hn : i < its.toArray.size := by
      rw [List.size_toArray]
      exact (List.getElem?_eq_some_iff.mp hu).1
    refine wpAny_pyNext_enum_itemC (Draws.list (prog := X.prog) (w := X.w) (A := X.A.in1) (I.ok.hd hc) it t n1 its.toArray) he ⟨hit, p⟩ hn hne (by simp [hne, Ne.symm n2]) fun y h' tk hy ho hs hT hsz hk => ?_
    have ey : y = u := by
      rw [List.getElem?_toArray, hu] at hy
      exact (Option.some.inj hy).symm
    subst ey
    refine ⟨_, rfl, wpAny_letOwnedTupleGo_enum (s := { s with heap := h', toks := tk + 1 }) ho fun h'' he' sb => ?_⟩
    have hT2 : h''.get? s.heap.objs.size = some { cls := .type "tuple", data := .seq #[.int (k + (i : Nat)) tk, y] } := (sb.2 _ (Nat.ne_of_gt hel)).trans hT
    have new : ObjOk X.prog X.w (upd H s.heap.objs.size (.tup [.int (k + (i : Nat)), x])) h'' s.heap.objs.size (.tup [.int (k + (i : Nat)), x]) :=
      ⟨by show 2 ≤ sizeLine; decide, [.int (k + (i : Nat)) tk, y], .cons ⟨_, rfl⟩ (.cons ru .nil), ⟨_, hT2, rfl, _, rfl⟩⟩
    have I1 : Inv X pins σ (upd H s.heap.objs.size (.tup [.int (k + (i : Nat)), x])) { s with heap := h'', toks := tk + 1 } :=
      I.turnedNew (ch := [e, it]) (fun b ob hb q => by
        have b1 : b ≠ e := fun z => hb (by simp [z])
        have b2 : b ≠ it := fun z => hb (by simp [z])
        exact (sb.2 b b1).trans (hk b ob b1 b2 q)) hf (Nat.le_refl _) new
    refine ⟨.ref s.heap.objs.size, _, I1, rfl, ⟨_, x, rfl, I.hok.fresh (Nat.le_refl _), rfl, fun ys hy2 => by rw [I.list_inj hy2 hq]; exact hx⟩, ⟨⟨y, ?_⟩, hs.1.at fun o q => (sb.2 it (Ne.symm hne)).trans q, hne⟩, fun b hb => ?_⟩
    · rw [show k + ((i + 1 : Nat) : Int) = k + (i : Int) + 1 by omega]
      exact he'
    · have hb' : b < s.heap.objs.size := by
        have e2 : b = e ∨ b = it := by simpa using hb
        rcases e2 with rfl | rfl
        · exact hel
        · exact hil
      rw [upd_ne (Nat.ne_of_lt hb')]
      exact (hf b hb).1
  done := by
    intro X hP hw hK hc i pins s σ H E I hf st hg
    subst hP hw hK
    obtain ⟨⟨old, he⟩, hit, hne⟩ := st
    obtain ⟨xs, hq, hx⟩ := hg
    obtain ⟨its, rv, p, hz⟩ := I.list hq
    obtain ⟨f0, f1, f2, f3, f4, f5⟩ := hf it (by simp)
    exact enum_outF (A := X.A) (I.ok.hd hc) he hit p.isList (by rw [List.size_toArray, ← rv.length]; exact hx) fun h' eb => ⟨rfl, I.turned (t' := s.toks) (fun b o hb q => eb b o hb q) f0 f1 f3 f4 f5⟩
  self := fun A i s Q E st h => by
    obtain ⟨⟨_, he⟩, _⟩ := st
    exact wpAny_pyIter_enum he h
def iEnumF (K : PySem.W.Frag) (ta : TA) : TI := fun σ H R => ta σ H fun vs H1 => ∃ (t : Addr) (k : Int) (xs : List V), vs = [.ref t, .int k] ∧ 0 ≤ k ∧ k < 2 ^ 62 ∧ SqL K H1 t xs ∧ R (IteF K t k) H1
theorem pi_enumF {X : Cx} {e e2 : Expr} {ta : TA} {p pos tpos : Pos} {elts : List Expr} {kk : Nat} (hg : Gl X "enumerate") (hm : X.mg "enumerate" = none) (ha : PA X [e, e2] ta) (hs : starEach [e, e2] X.env = (false, eval e X.env) :: starEach [e2] X.env := by rfl) (hpl : (backTo pos (starEach [e2] X.env)).any (·.1) = false := by rfl) :
    PI X (.Tuple elts kk tpos) (.Call (.Name "enumerate" p) [e, e2] [] pos) (iEnumF X.K ta) := by
  refine ⟨fun pins s σ H R I h => ?_⟩
  refine Call_ (ld_blt I hg hm boot_enumerate (PyProof.Rows.callWith_type1 (thn (ha.run pos pins s σ H _ I h) fun us s1 hu => ?_) hs hpl))
  obtain ⟨vs, H1, I1, r1, t, k, xs, rfl, k0, k1, hq, q⟩ := hu
  cases r1 with
  | cons r rr =>
    cases rr with
    | cons r2 rr =>
      cases rr
      cases r
      obtain ⟨tk, rfl⟩ := r2
      obtain ⟨its, rv, p', hz⟩ := I1.list hq
      refine enum_begins (begins_list t its.toArray) p'.isList (by omega) (by omega) fun h' he hit hsz hk => wpAny_pyIter_enum he ?_
      have I2 : Inv X pins σ H1 { s1 with heap := h' } := I1.kept (t' := s1.toks) hk
      refine ⟨s1.heap.objs.size + 1, [s1.heap.objs.size + 1, s1.heap.objs.size], _, _, H1, rfl, I2, turn_enumF t (s1.heap.objs.size + 1) s1.heap.objs.size k, ⟨⟨.none, by simpa using he⟩, ⟨_, hit, rfl, rfl⟩, Nat.succ_ne_self _⟩, fun b hb => ?_, q⟩
      have hle : s1.heap.objs.size ≤ b := by
        have e2 : b = s1.heap.objs.size + 1 ∨ b = s1.heap.objs.size := by simpa using hb
        rcases e2 with rfl | rfl
        · exact Nat.le_succ _
        · exact Nat.le_refl _
      exact I1.fpOk hle (I1.hok.fresh hle)
theorem walk_enumF {K : PySem.W.Frag} {t : Addr} {k : Int} {xs : List V} : Walk (IteF K t k) xs.length (fun H => SqL K H t xs) (YPair (fun i => some (.int (k + (i : Nat)))) (fun i => xs[i]?)) :=
  ⟨fun i _ hi q => ⟨xs, xs[i], q, by simp [hi]⟩, fun _ q => ⟨xs, q, Nat.le_refl _⟩, fun i H v H' _ q y => by
    obtain ⟨T, x, h1, h2, h3, h4⟩ := y
    exact ⟨T, .int (k + (i : Nat)), x, h1, h2, h3, rfl, h4 xs q⟩⟩
end Pn

namespace Pn
open PySem L2 TL
/-! ### the text of a book, line by line -/
theorem joinL_two (s a : List Nat) {l : List (List Nat)} (h : l ≠ []) : joinL s (a :: l) = a ++ (s ++ joinL s l) := by
  cases l with
  | nil => exact absurd rfl h
  | cons b r => rfl
theorem joinL_cat (s : List Nat) {l m : List (List Nat)} (hl : l ≠ []) (hm : m ≠ []) : joinL s (l ++ m) = joinL s l ++ (s ++ joinL s m) := by
  induction l with
  | nil => exact absurd rfl hl
  | cons a l ih =>
    by_cases e : l = []
    · subst e
      exact joinL_two s a hm
    · rw [List.cons_append, joinL_two s a (by simp [e]), joinL_two s a e, ih e]
      simp only [List.append_assoc]
theorem joinL_flat (s : List Nat) : ∀ {ps : List (List (List Nat))}, (∀ p ∈ ps, p ≠ []) → joinL s (ps.map (joinL s)) = joinL s ps.flatten
  | [], _ => rfl
  | [p], _ => by simp [joinL]
  | p :: q :: r, h => by
    have ih := joinL_flat s (ps := q :: r) fun x hx => h x (List.mem_cons_of_mem _ hx)
    have hne : (q :: r).flatten ≠ [] := by
      rw [List.flatten_cons]
      have := h q (by simp)
      simp [this]
    have e : (p :: q :: r).flatten = p ++ (q :: r).flatten := List.flatten_cons
    rw [List.map_cons, joinL_two s _ (by simp), ih, e, joinL_cat s (h p List.mem_cons_self) hne]
/-- the lines of a book -/
def partLines (p : PartD) : List Str := partHead p.1 :: p.2.map rowText
def bookLines (cs : List (Str × Str)) (bk : List PartD) : List Str := cs.map (fun c => cLine c.1 c.2) ++ bk.flatMap partLines
theorem joinN_lines (l : List Str) : tl (Txt.join "\n" l) = joinL (tl "\n") (l.map tl) := by rw [join_eq]; exact tl_join "\n" l
theorem lines_text (cs : List (Str × Str)) (bk : List PartD) : Txt.join "\n" (bookLines cs bk) = bookText cs bk := by
  apply ext_tl
  unfold bookText bookLines
  rw [joinN_lines, joinN_lines, List.map_append, List.map_append]
  have e1 : (bk.map fun p => partText p.1 p.2).map tl = (bk.map fun p => (partLines p).map tl).map (joinL (tl "\n")) := by
    rw [List.map_map, List.map_map]
    refine List.map_congr_left fun p _ => ?_
    show tl (Txt.join "\n" (partLines p)) = _
    rw [joinN_lines]
    rfl
  have e2 : (bk.flatMap partLines).map tl = (bk.map fun p => (partLines p).map tl).flatten := by
    rw [List.flatMap_def, List.map_flatten, List.map_map]
    rfl
  have hne : ∀ p ∈ bk.map fun p => (partLines p).map tl, p ≠ [] := fun p hp => by
    obtain ⟨q, _, rfl⟩ := List.mem_map.mp hp
    simp [partLines]
  rw [e1, e2]
  by_cases hb : bk = []
  · subst hb
    rfl
  · have h1 : (bk.map fun p => (partLines p).map tl).map (joinL (tl "\n")) ≠ [] := by simp [hb]
    have h2 : (bk.map fun p => (partLines p).map tl).flatten ≠ [] := by
      cases bk with
      | nil => exact absurd rfl hb
      | cons q r => simp [partLines]
    by_cases hc : (cs.map fun c => cLine c.1 c.2).map tl = []
    · rw [hc, List.nil_append, List.nil_append, joinL_flat _ hne]
    · rw [joinL_cat _ hc h2, joinL_cat _ hc h1, joinL_flat _ hne]
end Pn

namespace Pn
open PySem L2 TL
/-! ### what the lines of a book's text tell -/
/-- the counter that a line's words tell -/
def ctOf (ws : List Str) : Option (Str × Str) :=
  if ws[0]? = some ("counter" : Str) ∧ (odds ws).all nameS = true then match ws with
    | [_, a] => some (a, "")
    | [_, a, u, b] => if u = "under" then some (a, b) else none
    | _ => none
  else none
def lineCt (l : Str) : Option (Str × Str) := ctOf (Txt.split l " ")
/-- the counters ahead of all other lines -/
def takeC : List Str → List (Str × Str)
  | [] => []
  | l :: r => match lineCt l with
    | none => []
    | some c => c :: takeC r
theorem takeC_len : ∀ ls : List Str, (takeC ls).length ≤ ls.length
  | [] => Nat.le_refl _
  | l :: r => by
    unfold takeC
    cases lineCt l with
    | none => exact Nat.zero_le _
    | some c => exact Nat.succ_le_succ (takeC_len r)
theorem takeC_some {ls : List Str} {i : Nat} {l : Str} {c : Str × Str} (h : ls[i]? = some l) (hc : lineCt l = some c) : takeC (ls.drop i) = c :: takeC (ls.drop (i + 1)) := by
  have e : ls.drop i = l :: ls.drop (i + 1) := by
    obtain ⟨hi, e⟩ := List.getElem?_eq_some_iff.mp h
    rw [← e]
    exact List.drop_eq_getElem_cons hi
  rw [e]
  show (match lineCt l with | none => [] | some c => c :: takeC (ls.drop (i + 1))) = _
  rw [hc]
theorem takeC_none {ls : List Str} {i : Nat} {l : Str} (h : ls[i]? = some l) (hc : lineCt l = none) : takeC (ls.drop i) = [] := by
  have e : ls.drop i = l :: ls.drop (i + 1) := by
    obtain ⟨hi, e⟩ := List.getElem?_eq_some_iff.mp h
    rw [← e]
    exact List.drop_eq_getElem_cons hi
  rw [e]
  show (match lineCt l with | none => [] | some c => c :: takeC (ls.drop (i + 1))) = _
  rw [hc]
def partIs (ws : List Str) : Bool := decide (ws.length = 2) && (decide (ws[0]? = some ("part" : Str)) && nameS (ws.getD 1 ""))
def linePart (l : Str) : Bool := partIs (Txt.split l " ")
def lineName (l : Str) : Str := (Txt.split l " ").getD 1 ""
theorem linePart_name {l : Str} (h : linePart l = true) : nameS (lineName l) = true := by
  unfold linePart partIs at h
  rw [Bool.and_eq_true, Bool.and_eq_true] at h
  exact h.2.2
def addRow (ds : List PartD) (r : RowD) : Option (List PartD) := match ds.getLast? with
  | none => none
  | some p => some (ds.dropLast ++ [(p.1, p.2 ++ [r])])
theorem addRow_snoc (ds : List PartD) (p : PartD) (r : RowD) : addRow (ds ++ [p]) r = some (ds ++ [(p.1, p.2 ++ [r])]) := by
  unfold addRow
  rw [List.getLast?_append]
  simp
def rdStep (ds : List PartD) (l : Str) : Option (List PartD) :=
  if linePart l = true then some (ds ++ [(lineName l, [])]) else match rowOf (Txt.split l " ") with
    | none => none
    | some r => addRow ds r
def rdGo : List PartD → List Str → Option (List PartD)
  | ds, [] => some ds
  | ds, l :: r => (rdStep ds l).bind fun d => rdGo d r
theorem rdGo_app (m : List Str) : ∀ (l : List Str) (ds : List PartD), rdGo ds (l ++ m) = (rdGo ds l).bind fun d => rdGo d m
  | [], ds => rfl
  | x :: l, ds => by
    show (rdStep ds x).bind (fun d => rdGo d (l ++ m)) = ((rdStep ds x).bind fun d => rdGo d l).bind _
    cases rdStep ds x with
    | none => rfl
    | some d => exact rdGo_app m l d
theorem rdGo_step {ls : List Str} {i : Nat} {l : Str} {ds bk : List PartD} (h : ls[i]? = some l) (g : rdGo ds (ls.drop i) = some bk) : ∃ d, rdStep ds l = some d ∧ rdGo d (ls.drop (i + 1)) = some bk := by
  have e : ls.drop i = l :: ls.drop (i + 1) := by
    obtain ⟨hi, e⟩ := List.getElem?_eq_some_iff.mp h
    rw [← e]
    exact List.drop_eq_getElem_cons hi
  rw [e] at g
  have g : (rdStep ds l).bind (fun d => rdGo d (ls.drop (i + 1))) = some bk := g
  cases hs : rdStep ds l with
  | none => rw [hs] at g; cases g
  | some d => rw [hs] at g; exact ⟨d, rfl, g⟩
/-! ### a book's own text -/
theorem split_sp {ws : List Str} (h0 : ws ≠ []) (h : ∀ x ∈ ws, 32 ∉ tl x) : Txt.split (Txt.join " " ws) " " = ws := split_join (s := 32) (S := []) (by decide +kernel) (by decide +kernel) h0 h
theorem split_nl {ws : List Str} (h0 : ws ≠ []) (h : ∀ x ∈ ws, 10 ∉ tl x) : Txt.split (Txt.join "\n" ws) "\n" = ws := split_join (s := 10) (S := []) (by decide +kernel) (by decide +kernel) h0 h
theorem tlE : tl Str.empty = [] := by decide +kernel
theorem cLine_words (n u : Str) : cLine n u = Txt.join " " (if u = "" then ([("counter" : Str), n] : List Str) else ([("counter" : Str), n, ("under" : Str), u] : List Str)) := by
  unfold cLine
  have e1 : tl ("counter " : Str) = tl ("counter" : Str) ++ tl (" " : Str) := by decide +kernel
  have e2 : tl (" under " : Str) = tl (" " : Str) ++ (tl ("under" : Str) ++ tl (" " : Str)) := by decide +kernel
  have j : ∀ l : List Str, tl (Txt.join " " l) = joinL (tl " ") (l.map tl) := fun l => by rw [join_eq]; exact tl_join " " l
  split
  · apply ext_tl
    rw [tl_append, tl_append, tlE, e1, j]
    show [] ++ (tl ("counter" : Str) ++ tl " ") ++ tl n = tl ("counter" : Str) ++ (tl " " ++ tl n)
    simp only [List.nil_append, List.append_assoc]
  · apply ext_tl
    rw [tl_append, tl_append, tl_append, tl_append, tlE, e1, e2, j]
    show [] ++ (tl ("counter" : Str) ++ tl " ") ++ tl n ++ (tl " " ++ (tl ("under" : Str) ++ tl " ")) ++ tl u = tl ("counter" : Str) ++ (tl " " ++ (tl n ++ (tl " " ++ (tl ("under" : Str) ++ (tl " " ++ tl u)))))
    simp only [List.nil_append, List.append_assoc]
theorem name_at {z : Str} (h : nameS z = true) {c : Nat} (hc : lok c = false) : c ∉ tl z := fun hm => by
  unfold nameS at h
  rw [Bool.and_eq_true] at h
  have q := List.all_eq_true.mp h.2 c hm
  rw [hc] at q
  cases q
theorem head_words {n : Str} : partHead n = Txt.join " " ([("part" : Str), n] : List Str) := by
  unfold partHead
  have e1 : tl ("part " : Str) = tl ("part" : Str) ++ tl (" " : Str) := by decide +kernel
  have j : tl (Txt.join " " ([("part" : Str), n] : List Str)) = joinL (tl " ") (([("part" : Str), n] : List Str).map tl) := by rw [join_eq]; exact tl_join " " _
  apply ext_tl
  rw [tl_append, e1, j]
  show (tl ("part" : Str) ++ tl " ") ++ tl n = tl ("part" : Str) ++ (tl " " ++ tl n)
  simp only [List.append_assoc]
theorem ws2 {a b : Str} (ha : 32 ∉ tl a) (hb : 32 ∉ tl b) : ∀ x ∈ [a, b], 32 ∉ tl x := fun x hx => by
  rcases List.mem_cons.mp hx with rfl | hx
  · exact ha
  · rw [List.mem_singleton.mp hx]; exact hb
theorem head_split {n : Str} (h : nameS n = true) : Txt.split (partHead n) " " = ([("part" : Str), n] : List Str) := by
  rw [head_words]
  exact split_sp (by simp) (ws2 (by decide +kernel) (name_free h))
theorem cLine_split {n u : Str} (hn : nameS n = true) (hu : u = "" ∨ nameS u = true) : Txt.split (cLine n u) " " = if u = "" then ([("counter" : Str), n] : List Str) else ([("counter" : Str), n, ("under" : Str), u] : List Str) := by
  rw [cLine_words]
  split
  · exact split_sp (by simp) (ws2 (by decide +kernel) (name_free hn))
  · rename_i h
    have hu := hu.resolve_left h
    refine split_sp (by simp) fun x hx => ?_
    rcases List.mem_cons.mp hx with rfl | hx
    · decide +kernel
    · rcases List.mem_cons.mp hx with rfl | hx
      · exact name_free hn
      · exact ws2 (by decide +kernel) (name_free hu) x hx
theorem line_ct {n u : Str} (hn : nameS n = true) (hu : u = "" ∨ nameS u = true) : lineCt (cLine n u) = some (n, u) := by
  unfold lineCt
  rw [cLine_split hn hu]
  split
  · rename_i h
    subst h
    show (if _ then _ else _) = _
    rw [if_pos ⟨rfl, by show (nameS n && true) = true; rw [hn]; rfl⟩]
  · rename_i h
    have hu := hu.resolve_left h
    show (if _ then _ else _) = _
    rw [if_pos ⟨rfl, by show (nameS n && (nameS u && true)) = true; rw [hn, hu]; rfl⟩]
    show (if ("under" : Str) = "under" then _ else _) = _
    rw [if_pos rfl]
theorem head_noct {n : Str} (h : nameS n = true) : lineCt (partHead n) = none := by
  unfold lineCt
  rw [head_split h]
  unfold ctOf
  rw [if_neg]
  intro z
  exact absurd (Option.some.inj z.1) (by decide +kernel)
theorem head_part {n : Str} (h : nameS n = true) : linePart (partHead n) = true ∧ lineName (partHead n) = n := by
  unfold linePart lineName
  rw [head_split h]
  refine ⟨?_, rfl⟩
  show (decide (2 = 2) && (decide (some ("part" : Str) = some ("part" : Str)) && nameS n)) = true
  rw [h, decide_eq_true rfl, decide_eq_true rfl]
  rfl
theorem row_noPart {r : RowD} (h : rowValid r) : linePart (rowText r) = false := by
  have e : Txt.split (rowText r) " " = rowWords r := split_join (s := 32) (S := []) (by decide +kernel) (by decide +kernel) (fun z => by have := (words_small h).2.1; rw [z] at this; exact absurd this (by decide)) (words_back h).1
  have hw : (rowWords r)[0]? ≠ some ("part" : Str) := by
    cases r with
    | note c l =>
      have q : (rowWords (.note c l))[0]? = some ("note" : Str) := by
        show (if l = "" then ([("note" : Str), c] : List Str) else [("note" : Str), c, l])[0]? = _
        split <;> rfl
      rw [q]
      exact fun z => absurd (Option.some.inj z) (by decide +kernel)
    | _ => exact fun z => absurd (Option.some.inj z) (by decide +kernel)
  unfold linePart partIs
  rw [e, decide_eq_false hw]
  simp
theorem takeC_lines {cs : List (Str × Str)} (h : ∀ c : Str × Str, c ∈ cs → nameS c.1 = true ∧ (c.2 = "" ∨ nameS c.2 = true)) {rest : List Str} (hr : takeC rest = []) : takeC (cs.map (fun (c : Str × Str) => cLine c.1 c.2) ++ rest) = cs := by
  induction cs with
  | nil => exact hr
  | cons c cs ih =>
    have hc := h c List.mem_cons_self
    show (match lineCt (cLine c.1 c.2) with | none => [] | some d => d :: takeC (cs.map (fun (c : Str × Str) => cLine c.1 c.2) ++ rest)) = _
    rw [line_ct hc.1 hc.2]
    show (c.1, c.2) :: takeC _ = _
    rw [ih fun x hx => h x (List.mem_cons_of_mem _ hx)]
theorem rdGo_rows {ds : List PartD} {n : Str} : ∀ {rs acc : List RowD}, (∀ r ∈ rs, rowValid r) → rdGo (ds ++ [(n, acc)]) (rs.map rowText) = some (ds ++ [(n, acc ++ rs)])
  | [], acc, _ => by rw [List.append_nil]; rfl
  | r :: rs, acc, h => by
    have hr := h r List.mem_cons_self
    have e : rdStep (ds ++ [(n, acc)]) (rowText r) = some (ds ++ [(n, acc ++ [r])]) := by
      unfold rdStep
      rw [if_neg (by rw [row_noPart hr]; decide), row_back hr]
      exact addRow_snoc ds (n, acc) r
    show (rdStep (ds ++ [(n, acc)]) (rowText r)).bind (fun d => rdGo d (rs.map rowText)) = _
    rw [e]
    have q := rdGo_rows (ds := ds) (n := n) (rs := rs) (acc := acc ++ [r]) fun x hx => h x (List.mem_cons_of_mem _ hx)
    rw [List.append_assoc] at q
    exact q
theorem rdGo_parts : ∀ {bk ds : List PartD}, (∀ p ∈ bk, nameS p.1 = true ∧ ∀ r ∈ p.2, rowValid r) → rdGo ds (bk.flatMap partLines) = some (ds ++ bk)
  | [], ds, _ => by rw [List.append_nil]; rfl
  | p :: bk, ds, h => by
    have hp := h p List.mem_cons_self
    have e : rdGo ds (partLines p) = some (ds ++ [p]) := by
      have e1 : rdStep ds (partHead p.1) = some (ds ++ [(p.1, [])]) := by
        unfold rdStep
        rw [if_pos (head_part hp.1).1, (head_part hp.1).2]
      show (rdStep ds (partHead p.1)).bind (fun d => rdGo d (p.2.map rowText)) = _
      rw [e1]
      exact rdGo_rows hp.2
    rw [List.flatMap_cons, rdGo_app, e]
    show rdGo (ds ++ [p]) _ = _
    rw [rdGo_parts fun x hx => h x (List.mem_cons_of_mem _ hx), List.append_assoc]
    rfl
theorem takeC_head {bk : List PartD} (hn : ∀ p ∈ bk, nameS p.1 = true) : takeC (bk.flatMap partLines) = [] := by
  cases bk with
  | nil => rfl
  | cons p bk =>
    rw [List.flatMap_cons]
    show (match lineCt (partHead p.1) with | none => [] | some c => c :: takeC (p.2.map rowText ++ bk.flatMap partLines)) = _
    rw [head_noct (hn p List.mem_cons_self)]
theorem nl_joined {ws : List Str} (h : ∀ x ∈ ws, 10 ∉ tl x) : 10 ∉ tl (Txt.join " " ws) := by
  have j : tl (Txt.join " " ws) = joinL (tl " ") (ws.map tl) := by rw [join_eq]; exact tl_join " " ws
  rw [j]
  have e0 : 10 ∉ tl (" " : Str) := by decide +kernel
  induction ws with
  | nil => exact fun z => nomatch z
  | cons a r ih =>
    cases r with
    | nil => exact h a List.mem_cons_self
    | cons b r =>
      show 10 ∉ tl a ++ (tl " " ++ joinL (tl " ") ((b :: r).map tl))
      intro z
      rcases List.mem_append.mp z with z | z
      · exact h a List.mem_cons_self z
      · rcases List.mem_append.mp z with z | z
        · exact e0 z
        · exact ih (fun x hx => h x (List.mem_cons_of_mem _ hx)) (by rw [join_eq]; exact tl_join " " _) z
theorem num_nl (n : Nat) : 10 ∉ tl (numStr n) := fun h => by
  rw [tl_numStr] at h
  have q := numL_digits n 10 h
  omega
theorem row_nl {r : RowD} (h : rowValid r) : 10 ∉ tl (rowText r) := by
  refine nl_joined ?_
  have one : ∀ {a : Str}, 10 ∉ tl a → ∀ {l : List Str}, (∀ x ∈ l, 10 ∉ tl x) → ∀ x ∈ a :: l, 10 ∉ tl x := fun ha _ hl x hx => by
    rcases List.mem_cons.mp hx with rfl | hx
    · exact ha
    · exact hl x hx
  have no : ∀ x ∈ ([] : List Str), 10 ∉ tl x := fun x hx => nomatch hx
  have nm : ∀ {z : Str}, nameS z = true → 10 ∉ tl z := fun h => name_at h (by decide)
  cases r with
  | note c l =>
    by_cases hl : l = ""
    · have e : rowWords (.note c l) = (["note", c] : List Str) := if_pos hl
      rw [e]
      exact one (by decide +kernel) (one (nm h.1) no)
    · have e : rowWords (.note c l) = (["note", c, l] : List Str) := if_neg hl
      rw [e]
      exact one (by decide +kernel) (one (nm h.1) (one (nm (h.2.resolve_left hl)) no))
  | skip c n => exact one (by decide +kernel) (one (nm h.1) (one (num_nl n) no))
  | set c n => exact one (by decide +kernel) (one (nm h.1) (one (num_nl n) no))
  | keep c => exact one (by decide +kernel) (one (nm h) no)
  | back c => exact one (by decide +kernel) (one (nm h) no)
  | ref c => exact one (by decide +kernel) (one (nm h) no)
  | put c => exact one (by decide +kernel) (one (nm h) no)
  | opn c => exact one (by decide +kernel) (one (nm h) no)
/-- what is asked of a book whose text is read -/
structure TextOk (cs : List (Str × Str)) (bk : List PartD) : Prop where
  c : ∀ c ∈ cs, nameS c.1 = true ∧ (c.2 = "" ∨ nameS c.2 = true)
  n : ∀ p ∈ bk, nameS p.1 = true
  r : ∀ p ∈ bk, ∀ r ∈ p.2, rowValid r
  b : bk ≠ []
theorem book_split {cs : List (Str × Str)} {bk : List PartD} (h : TextOk cs bk) : Txt.split (bookText cs bk) "\n" = bookLines cs bk := by
  rw [← lines_text]
  have nm : ∀ {z : Str}, nameS z = true → 10 ∉ tl z := fun h => name_at h (by decide)
  have hne : bk.flatMap partLines ≠ [] := by
    cases hb : bk with
    | nil => exact absurd hb h.b
    | cons p r => rw [List.flatMap_cons]; simp [partLines]
  refine split_nl (fun z => hne (List.append_eq_nil_iff.mp z).2) fun x hx => ?_
  rcases List.mem_append.mp hx with hx | hx
  · obtain ⟨c, hc, rfl⟩ := List.mem_map.mp hx
    have q := h.c c hc
    rw [cLine_words]
    refine nl_joined fun y hy => ?_
    split at hy
    · rcases List.mem_cons.mp hy with rfl | hy
      · decide +kernel
      · rw [List.mem_singleton.mp hy]; exact nm q.1
    · rename_i hu
      rcases List.mem_cons.mp hy with rfl | hy
      · decide +kernel
      rcases List.mem_cons.mp hy with rfl | hy
      · exact nm q.1
      rcases List.mem_cons.mp hy with rfl | hy
      · decide +kernel
      · rw [List.mem_singleton.mp hy]; exact nm (q.2.resolve_left hu)
  · obtain ⟨p, hp, hx⟩ := List.mem_flatMap.mp hx
    rcases List.mem_cons.mp hx with rfl | hx
    · rw [head_words]
      refine nl_joined fun y hy => ?_
      rcases List.mem_cons.mp hy with rfl | hy
      · decide +kernel
      · rw [List.mem_singleton.mp hy]; exact nm (h.n p hp)
    · obtain ⟨r, hr, rfl⟩ := List.mem_map.mp hx
      exact row_nl (h.r p hp r hr)
theorem book_back {cs : List (Str × Str)} {bk : List PartD} (h : TextOk cs bk) : takeC (bookLines cs bk) = cs ∧ rdGo [] ((bookLines cs bk).drop cs.length) = some bk := by
  unfold bookLines
  refine ⟨takeC_lines h.c (takeC_head h.n), ?_⟩
  rw [List.drop_left' (by rw [List.length_map])]
  have q := rdGo_parts (bk := bk) (ds := []) fun p hp => ⟨h.n p hp, h.r p hp⟩
  exact q
theorem text_ok {cs : List (Str × Str)} {bk : List PartD} (h : BookV cs bk) (hn : ∀ p ∈ bk, nameS p.1 = true) : TextOk cs bk := by
  refine ⟨fun c hc => ⟨h.c.nm c hc, ?_⟩, hn, fun p hp => (h.rows p hp).2.2, h.b0⟩
  obtain ⟨i, hi⟩ := List.getElem?_of_mem hc
  rcases h.c.up i c hi with e | e
  · exact .inl e
  · obtain ⟨d, hd, hde⟩ := List.mem_map.mp e
    have := h.c.nm d (List.mem_of_mem_take hd)
    rw [hde] at this
    exact .inr this
/-- a line that is short and of good signs -/
def Lined (x : Str) : Prop := x.length ≤ 400 ∧ PyData.strOk x = true
theorem strOk_app {a b : Str} (ha : PyData.strOk a = true) (hb : PyData.strOk b = true) : PyData.strOk (a ++ b) = true := strOk_tl.mpr fun c hc => by
  rw [tl_append] at hc
  exact (List.mem_append.mp hc).elim (strOk_tl.mp ha c) (strOk_tl.mp hb c)
theorem row_lined {r : RowD} (h : rowValid r) : Lined (rowText r) := by
  obtain ⟨h1, h2, h3⟩ := words_small h
  have key : ∀ l : List Str, (∀ x ∈ l, x.length ≤ 20 ∧ PyData.strOk x = true) → (Txt.join " " l).length ≤ 21 * l.length ∧ PyData.strOk (Txt.join " " l) = true := by
    intro l
    have j : tl (Txt.join " " l) = joinL (tl " ") (l.map tl) := by rw [join_eq]; exact tl_join " " l
    rw [len_tl, strOk_tl, j]
    clear j
    induction l with
    | nil => exact fun _ => ⟨Nat.le_refl _, fun c hc => nomatch hc⟩
    | cons a r ih =>
      intro h
      have ha := h a List.mem_cons_self
      have la := ha.1
      rw [len_tl] at la
      cases r with
      | nil => exact ⟨by show (tl a).length ≤ 21 * 1; omega, strOk_tl.mp ha.2⟩
      | cons b r =>
        obtain ⟨i1, i2⟩ := ih fun x hx => h x (List.mem_cons_of_mem _ hx)
        have e0 : (tl (" " : Str)).length = 1 := by decide +kernel
        refine ⟨?_, fun c hc => ?_⟩
        · show (tl a ++ (tl " " ++ joinL (tl " ") ((b :: r).map tl))).length ≤ 21 * ((b :: r).length + 1)
          rw [List.length_append, List.length_append]
          omega
        · rcases List.mem_append.mp (show c ∈ tl a ++ (tl " " ++ joinL (tl " ") ((b :: r).map tl)) from hc) with hc | hc
          · exact strOk_tl.mp ha.2 c hc
          · rcases List.mem_append.mp hc with hc | hc
            · exact strOk_tl.mp (by decide +kernel : PyData.strOk " " = true) c hc
            · exact i2 c hc
  have q := key (rowWords r) h3
  exact ⟨Nat.le_trans q.1 (by omega), q.2⟩
theorem lines_lined {cs : List (Str × Str)} {bk : List PartD} (h : TextOk cs bk) : ∀ x ∈ bookLines cs bk, Lined x := fun x hx => by
  have nl : ∀ {z : Str}, nameS z = true → z.length ≤ 4 ∧ PyData.strOk z = true := fun h => ⟨(name_ok h).2, (name_ok h).1⟩
  rcases List.mem_append.mp hx with hx | hx
  · obtain ⟨c, hc, rfl⟩ := List.mem_map.mp hx
    have q := h.c c hc
    have q1 := nl q.1
    have q2 : c.2.length ≤ 4 ∧ PyData.strOk c.2 = true := by
      rcases q.2 with e | e
      · rw [e]; decide +kernel
      · exact nl e
    refine ⟨Nat.le_trans (cLine_len (Nat.le_trans q1.1 (by decide)) (Nat.le_trans q2.1 (by decide))) (by decide), ?_⟩
    show PyData.strOk (cLine c.1 c.2) = true
    unfold cLine
    split
    · exact strOk_app (strOk_app (by decide +kernel) (by decide +kernel)) q1.2
    · exact strOk_app (strOk_app (strOk_app (strOk_app (by decide +kernel) (by decide +kernel)) q1.2) (by decide +kernel)) q2.2
  · obtain ⟨p, hp, hx⟩ := List.mem_flatMap.mp hx
    rcases List.mem_cons.mp hx with rfl | hx
    · have q := nl (h.n p hp)
      refine ⟨?_, strOk_app (by decide +kernel) q.2⟩
      have e : (partHead p.1).length = ("part " : Str).length + p.1.length := strLen_append _ _
      have e2 : ("part " : Str).length = 5 := by decide +kernel
      omega
    · obtain ⟨r, hr, rfl⟩ := List.mem_map.mp hx
      exact row_lined (h.r p hp r hr)
end Pn

namespace Pn
open PySem L2 TL
abbrev sRdC : Stmt := top 47
abbrev sRdCs : Stmt := top 48
abbrev sIsPL : Stmt := top 49
abbrev sRdL : Stmt := top 50
abbrev sRdPs : Stmt := top 51
abbrev sBRead : Stmt := inClass (top 52) 1
/-! ### Book.read(text) of a text that is a book's -/
/-- what Book.read wants; read_row's rows are the book's -/
structure TBRead {K : PySem.W.Frag} {mg : Str → Option Value} (Rd : TRead K mg) {T : TPart Rd.R} (B : TBk T) : Type where
  hsub : PySem.W.exmOne K (.ref Rd.M.IT.C) (.ref Rd.R.N.IR.C) = some false
  mEn : mg "enumerate" = none
  rdc : At K mg "read_counter" sRdC ["line"]
  rdcs : At K mg "read_counters" sRdCs ["lines"]
  isPL : At K mg "is_part_line" sIsPL ["line"]
  rdl : At K mg "read_line" sRdL ["line", "at"]
  rdps : At K mg "read_parts" sRdPs ["lines", "start"]
  fR : Addr
  fdR : FuncData
  FR : Fun K "read" "Book.read" sBRead fR fdR
  bR : Binds K fdR ["cls", "text"] []
  mc : Value
  pR : Addr
  cr : ClX.CRead K B.C mc
  cm : ClX.CMet K B.C mc "read" pR fR
section
variable {P : Program} {w : World} {K : PySem.W.Frag} {mg : Str → Option Value} {base : Heap}
theorem lined_words {l : Str} (h : Lined l) : ∀ x ∈ Txt.split l " ", x.length ≤ 400 ∧ PyData.strOk x = true := fun x hx => by
  have q := split_len (z := l) rfl x hx
  exact ⟨Nat.le_trans q.1 h.1, strOk_tl.mpr fun c hc => strOk_tl.mp h.2 c (q.2 c hc)⟩
theorem split_some (l : Str) : ∃ a r, Txt.split l " " = a :: r := by
  cases h : Txt.split l " " with
  | nil =>
    have e := PySem.StrLaws.join_split l " "
    rw [h] at e
    have e2 : l = "" := by rw [← e]; decide +kernel
    rw [e2] at h
    exact absurd h (by decide +kernel)
  | cons a r => exact ⟨a, r, rfl⟩
theorem joinL_count {s : List Nat} (hs : 1 ≤ s.length) : ∀ l : List (List Nat), l.length ≤ (joinL s l).length + 1
  | [] => Nat.zero_le _
  | [a] => Nat.le_add_left 1 _
  | a :: b :: r => by
    have q := joinL_count hs (b :: r)
    show (b :: r).length + 1 ≤ (a ++ (s ++ joinL s (b :: r))).length + 1
    rw [List.length_append, List.length_append]
    omega
theorem split_count (l : Str) {y : Str} (hy : 1 ≤ (tl y).length) : (Txt.split l y).length ≤ l.length + 1 := by
  have e := PySem.StrLaws.join_split l y
  have q := joinL_count hy ((Txt.split l y).map tl)
  rw [← tl_join, e, List.length_map, ← len_tl] at q
  exact q
def spRdC (K : PySem.W.Frag) : Sp := fun vs H Q _ => ∃ l : Str, vs = [.str l] ∧ Lined l ∧ (lineCt l = none → ∀ H', Same H H' → Q .non H') ∧ ∀ c, lineCt l = some c → ∀ (t : Addr) (H' : Hp), Same H H' → SqT K H' t [.str c.1, .str c.2] → Q (.ref t) H'
theorem scRdC : FnScope ["line", "words", "word"] ["line"] (defScope sRdC) := ⟨rfl, rfl, rfl, by decide +kernel, rfl, by decide +kernel, by decide +kernel⟩
theorem ok_rdC {Rd : TRead K mg} {T : TPart Rd.R} {B : TBk T} (S : TBRead Rd B) : FnOk P w K mg base CX0 3 S.rdc.f S.rdc.fd ["line"] (spRdC K) := by
  refine S.rdc.F.ok scRdC (fun vs H Q E h => ?_) (fun cdv A outer s H vs Q E hr h => ?_)
  · obtain ⟨l, rfl, _⟩ := h
    rfl
  · obtain ⟨l, rfl, hl, q1, q2⟩ := h
    refine ⟨_, pss_cons (ps_set (i := 1) scRdC.nd rfl (Or.inl rfl) (pe_split (pv 0) pe_str))
      (pss_cons (ps_if (PW.pt (pw_or (pt_cmpR op_ne (pe_ix ix_list (pv 1) pe_int (fun _ _ => rfl)) pe_str (nomark _))
          (pw_or1 (pt_not (pt_val (pe_callB (cr_all rfl) (by rfl) Rd.M.mAll (by decide +kernel) (pa_cons (pe_lc (own := [("word", 2)]) (g := gName 2) (tt := tYes) (by rfl) scRdC.nd (pi_list (pe_odd (pv 1)))
            (blkOk_by (N := ["line", "words", "word"]) (sc := defScope sRdC) (by decide +kernel)) (fun _ _ _ _ _ => pg_name (i := 2) scRdC.nd rfl (Or.inl rfl)) (fun _ _ _ _ _ => pts_nil)
            (fun _ _ _ _ _ => pe_call Rd.R.N.okName (hr.mono (by decide)) rfl Rd.R.N.isName.m Rd.R.N.isName.F.kp Rd.R.N.isName.b .nil pass0 (pa_cons (pv 2) pa_nil))) pa_nil))))))) (pss_one (ps_ret pe_non)) pss_nil)
      (pss_cons (ps_if (pt_cmpR op_eq (pe_callB call_len_seq (by rfl) Rd.M.mLen PySem.boot_len (pa_cons (pv 1) pa_nil)) pe_int (nomark _))
        (pss_one (ps_ret (pe_tup (pa_cons (pe_ix ix_list (pv 1) pe_int (fun _ _ => rfl)) (pa_cons pe_str pa_nil))))) pss_nil)
      (pss_cons (ps_if (PW.pt (pw_and (pt_cmpR op_eq (pe_callB call_len_seq (by rfl) Rd.M.mLen PySem.boot_len (pa_cons (pv 1) pa_nil)) pe_int (nomark _)) (pw_and1 (pt_cmpR op_eq (pe_ix ix_list (pv 1) pe_int (fun _ _ => rfl)) pe_str (nomark _)))))
        (pss_one (ps_ret (pe_tup (pa_cons (pe_ix ix_list (pv 1) pe_int (fun _ _ => rfl)) (pa_cons (pe_ix ix_list (pv 1) pe_int (fun _ _ => rfl)) pa_nil))))) pss_nil)
      (pss_one (ps_ret pe_non))))), ?_⟩
    have big : (1001 : Nat) ≤ sizeLine := by decide
    refine ⟨_, rfl, ⟨_, rfl⟩, l, " ", rfl, rfl, by decide +kernel, Nat.le_trans (Nat.add_le_add_right hl.1 2) (by decide), fun p hp => ?_⟩
    have s1 : Same H (upd H p (.lst ((Txt.split l " ").map V.str))) := Same.new hp
    have hP : upd H p (.lst ((Txt.split l " ").map V.str)) p = some (.lst ((Txt.split l " ").map V.str)) := upd_same
    have hw := lined_words hl
    have hwl := split_count l (y := " ") (by decide +kernel)
    have q1' : ctOf (Txt.split l " ") = none → ∀ H', Same H H' → Q .non H' := q1
    have q2' : ∀ c, ctOf (Txt.split l " ") = some c → ∀ (t : Addr) (H' : Hp), Same H H' → SqT K H' t [.str c.1, .str c.2] → Q (.ref t) H' := q2
    obtain ⟨a, ws, ew⟩ := split_some l
    generalize upd H p (.lst ((Txt.split l " ").map V.str)) = G at s1 hP ⊢
    rw [ew] at hw hP q1' q2' hwl
    clear q1 q2 ew
    refine ⟨_, rfl, p, _, 0, .str a, rfl, rfl, SqL.of hP, atI_nat (j := 0) rfl, rfl, _, rfl, ?_⟩
    by_cases ha : a = "counter"
    · refine iteFD (by rw [ha]; decide +kernel) ?_
      unfold tNot tB tCB tCons
      have hO : ∀ x ∈ odds (a :: ws), x.length ≤ 900 := fun x hx => Nat.le_trans (hw x (odds_sub _ x hx)).1 (by decide)
      have hOl := odds_len (a :: ws)
      refine ⟨_, rfl, p, _, rfl, SqL.of hP, fun p1 hp1 => ?_⟩
      rw [odds_map]
      have s2 := s1.trans (Same.new (o := .lst ((odds (a :: ws)).map V.str)) hp1)
      have hP2 := Same.new (o := .lst ((odds (a :: ws)).map V.str)) hp1 _ _ hP
      have hO2 : upd G p1 (.lst ((odds (a :: ws)).map V.str)) p1 = some (.lst ((odds (a :: ws)).map V.str)) := upd_same
      generalize upd G p1 (.lst ((odds (a :: ws)).map V.str)) = G2 at s2 hP2 hO2 ⊢
      have fin : ∀ b, (odds (a :: ws)).all nameS = b → ∀ G3, Same H G3 → G3 p = some (.lst ((a :: ws).map V.str)) → (b = false → ctOf (a :: ws) = none) ∧ (b = true → ctOf (a :: ws) = match a :: ws with
          | [_, x] => some (x, "")
          | [_, x, u, y] => if u = "under" then some (x, y) else none
          | _ => none) := fun b hb G3 _ _ => by
        unfold ctOf
        constructor
        · intro e
          rw [if_neg fun z => by rw [hb, e] at z; exact absurd z.2 (by decide)]
        · intro e
          refine (if_pos ⟨by rw [ha]; rfl, by rw [hb, e]⟩).trans ?_
          rcases ws with _ | ⟨x, _ | ⟨u, _ | ⟨y, _ | ⟨v, r⟩⟩⟩⟩ <;> rfl
      refine ⟨p1, rfl, ⟨_, SqL.of hO2⟩, fun D hD => lc_list (xs := (odds (a :: ws)).map V.str) (fun i Hi => Same G2 Hi ∧ Hi D = some (.lst ((List.range i).filterMap fun i => ((odds (a :: ws))[i]?).map fun z => V.bl (nameS z)))) ⟨Same.new hD, upd_same⟩ (fun _ _ _ hP => hP.1.seq (SqL.of hO2)) (lc_keep (by rw [List.length_map]; have := hl.1; omega) (fun i x Hi S Y hx si _ hY => ?_) hD) (fun G3 hG => ?_)⟩
      · rw [List.getElem?_map] at hx
        cases hxi : (odds (a :: ws))[i]? with
        | none => rw [hxi] at hx; cases hx
        | some z =>
        rw [hxi] at hx
        cases hx
        refine ⟨rfl, _, rfl, .str z, .str z, rfl, .str z, hO z (List.mem_of_getElem? hxi), fun H' s' m' => ?_⟩
        exact hY _ (by show ((odds (a :: ws))[i]?).map _ = _; rw [hxi]; rfl) _ s'
      · obtain ⟨s3, hD3⟩ := hG
        rw [List.length_map, out_map] at hD3
        refine ⟨D, (odds (a :: ws)).map nameS, rfl, SqL.of (by rw [hD3, List.map_map]; rfl), ?_⟩
        have hP3 := s3 _ _ hP2
        have s4 := s2.trans s3
        have eall : ((odds (a :: ws)).map nameS).all id = (odds (a :: ws)).all nameS := by rw [List.all_map]; rfl
        rw [eall]
        obtain ⟨f1, f2⟩ := fin _ rfl G3 s4 hP3
        cases hb : (odds (a :: ws)).all nameS with
        | false => exact ⟨false, rfl, iteT (q1' (f1 hb) _ s4)⟩
        | true =>
          have f3 := f2 hb
          refine ⟨true, rfl, iteF ?_⟩
          have tup : ∀ x y : Str, (x, y) = (x, y) → ctOf (a :: ws) = some (x, y) → ∀ t, G3 t = none → Q (.ref t) (upd G3 t (.tup [.str x, .str y])) := fun x y _ e t ht => q2' _ e t _ (s4.trans (Same.new ht)) (SqT.of upd_same)
          match ws, hP3, f3, q1', tup with
          | [], hP3, f3, q1', tup =>
            refine ⟨_, rfl, p, _, rfl, .inl (SqL.of hP3), rfl, _, rfl, iteFD rfl ?_⟩
            refine ⟨_, rfl, p, _, rfl, .inl (SqL.of hP3), rfl, _, rfl, iteFD rfl (iteF ?_)⟩
            exact q1' f3 _ s4
          | [x], hP3, f3, q1', tup =>
            refine ⟨_, rfl, p, _, rfl, .inl (SqL.of hP3), rfl, _, rfl, iteTD rfl ?_⟩
            exact ⟨_, rfl, p, _, 1, .str x, rfl, rfl, SqL.of hP3, rfl, (by show 2 ≤ sizeLine; decide), fun t ht => tup x "" rfl f3 t ht⟩
          | [x, u], hP3, f3, q1', tup =>
            refine ⟨_, rfl, p, _, rfl, .inl (SqL.of hP3), rfl, _, rfl, iteFD rfl ?_⟩
            refine ⟨_, rfl, p, _, rfl, .inl (SqL.of hP3), rfl, _, rfl, iteFD rfl (iteF ?_)⟩
            exact q1' f3 _ s4
          | [x, u, y], hP3, f3, q1', tup =>
            refine ⟨_, rfl, p, _, rfl, .inl (SqL.of hP3), rfl, _, rfl, iteFD rfl ?_⟩
            refine ⟨_, rfl, p, _, rfl, .inl (SqL.of hP3), rfl, _, rfl, iteTD rfl ?_⟩
            refine ⟨_, rfl, p, _, 2, .str u, rfl, rfl, SqL.of hP3, rfl, rfl, _, rfl, ?_⟩
            by_cases hu : u = "under"
            · refine iteTD (decide_eq_true (by rw [hu])) ?_
              exact ⟨_, rfl, p, _, 1, .str x, rfl, rfl, SqL.of hP3, rfl, _, rfl, p, _, 3, .str y, rfl, rfl, SqL.of hP3, rfl, (by show 2 ≤ sizeLine; decide), fun t ht => tup x y rfl (by rw [f3]; exact if_pos hu) t ht⟩
            · refine iteFD (decide_eq_false fun z => hu (V.str.inj z)) ?_
              exact q1' (by rw [f3]; exact if_neg hu) _ s4
          | x :: u :: y :: v :: r, hP3, f3, q1', tup =>
            have h2 : decide (V.int (((a :: x :: u :: y :: v :: r).map V.str).length : Int) = V.int 2) = false := decide_eq_false fun zz => by
              have := V.int.inj zz
              simp only [List.length_map, List.length_cons] at this
              omega
            have h4 : decide (V.int (((a :: x :: u :: y :: v :: r).map V.str).length : Int) = V.int 4) = false := decide_eq_false fun zz => by
              have := V.int.inj zz
              simp only [List.length_map, List.length_cons] at this
              omega
            refine ⟨_, rfl, p, _, rfl, .inl (SqL.of hP3), rfl, _, rfl, iteFD h2 ?_⟩
            refine ⟨_, rfl, p, _, rfl, .inl (SqL.of hP3), rfl, _, rfl, iteFD h4 (iteF ?_)⟩
            exact q1' f3 _ s4
    · refine iteTD (by rw [Bool.not_eq_true', decide_eq_false_iff_not]; exact fun z => ha (V.str.inj z)) (iteT (q1' ?_ _ s1))
      unfold ctOf
      rw [if_neg fun z => ha (Option.some.inj z.1)]
def spRdCs (K : PySem.W.Frag) : Sp := fun vs H Q _ => ∃ (lp : Addr) (ls : List Str), vs = [.ref lp] ∧ SqL K H lp (ls.map V.str) ∧ (∀ x ∈ ls, Lined x) ∧ ls.length ≤ 9000 ∧
  ∀ (F : Addr) (ts : List Addr) (H' : Hp), Same H H' → H' F = some (.lst (ts.map V.ref)) → CsIn K H' ts (takeC ls) → Q (.ref F) H'
theorem scRdCs : FnScope ["lines", "counters", "line", "pair"] ["lines"] (defScope sRdCs) := ⟨rfl, rfl, rfl, by decide +kernel, rfl, by decide +kernel, by decide +kernel⟩
theorem ok_rdCs {Rd : TRead K mg} {T : TPart Rd.R} {B : TBk T} (S : TBRead Rd B) : FnOk P w K mg base CX0 4 S.rdcs.f S.rdcs.fd ["lines"] (spRdCs K) := by
  refine S.rdcs.F.ok scRdCs (fun vs H Q E h => ?_) (fun cdv A outer s H vs Q E hr h => ?_)
  · obtain ⟨lp, ls, rfl, _⟩ := h
    rfl
  · obtain ⟨lp, ls, rfl, hlp, hok, hll, q⟩ := h
    refine ⟨_, pss_cons (ps_set (i := 1) scRdCs.nd rfl (Or.inl rfl) (pe_lst pa_nil))
      (pss_cons (ps_for PassesOwn.never rfl (pi_list (pv 0)) (pg_name (i := 2) scRdCs.nd rfl (Or.inl rfl))
        (pss_cons (ps_set (i := 3) scRdCs.nd rfl (Or.inl rfl) (pe_call (ok_rdC S) hr rfl S.rdc.m S.rdc.F.kp S.rdc.b .nil pass0 (pa_cons (pv 2) pa_nil)))
        (pss_cons (ps_if (pt_cmp (pc_isN (pv 3))) (pss_one (ps_ret (pv 1))) pss_nil)
        (pss_one (ps_expr (pe_bm PySem.F.plainAttrs_list PySem.F.slot_list_append PySem.F.type_list_append mt_append (pv 1) (pa_cons (pv 3) pa_nil)))))))
      (pss_one (ps_ret (pv 1)))), ?_⟩
    have big : (10001 : Nat) ≤ sizeLine := by decide
    refine ⟨Nat.zero_le _, fun F hF => ?_⟩
    have hF1 : upd H F (.lst []) F = some (.lst []) := upd_same
    have s1 := Same.new (o := .lst []) hF
    generalize upd H F (.lst []) = H1 at hF1 s1 ⊢
    refine ⟨_, rfl, lp, rfl, ⟨_, s1.seq hlp⟩, for_list (xs := ls.map V.str) (fun i σ Hi => ∃ (x2 x3 : Option V) (ts : List Addr) (cs : List (Str × Str)), σ = [some (.ref lp), some (.ref F), x2, x3] ∧ Same H Hi ∧ Hi F = some (.lst (ts.map V.ref)) ∧ CsIn K Hi ts cs ∧ cs.length ≤ i ∧ takeC ls = cs ++ takeC (ls.drop i)) ⟨_, _, [], [], rfl, s1, hF1, .nil, Nat.le_refl _, rfl⟩ (fun i σ Hi _ hP => by obtain ⟨_, _, _, _, _, s, _⟩ := hP; exact s.seq hlp) (fun i x σ Hi hx hP => ?turn) (fun σ Hi hP => ?done)⟩
    case done =>
      obtain ⟨x2, x3, ts, cs, rfl, si, hFi, hcs, _, he⟩ := hP
      rw [List.length_map, List.drop_length] at he
      have he : takeC ls = cs := by rw [he]; exact List.append_nil cs
      exact ⟨_, rfl, q F ts Hi si hFi (by rw [he]; exact hcs)⟩
    case turn =>
      obtain ⟨x2, x3, ts, cs, rfl, si, hFi, hcs, hcl, he⟩ := hP
      rw [List.getElem?_map] at hx
      cases hxi : ls[i]? with
      | none => rw [hxi] at hx; cases hx
      | some l =>
      rw [hxi] at hx
      cases hx
      have hi : i < ls.length := (List.getElem?_eq_some_iff.mp hxi).1
      have htl : ts.length = cs.length := paired_len hcs
      refine ⟨_, rfl, l, rfl, hok l (List.mem_of_getElem? hxi), fun hn H' s' => ?_, fun c hc t H' s' ht => ?_⟩
      · unfold gName
        dsimp only
        refine ⟨_, rfl, _, rfl, iteTD (decide_eq_true rfl) ⟨_, rfl, ?_⟩⟩
        rw [takeC_none hxi hn, List.append_nil] at he
        exact q F ts H' (si.trans s') (s' _ _ hFi) (by rw [he]; exact hcs.same s')
      · unfold gName
        dsimp only
        refine ⟨_, rfl, _, rfl, iteFD (decide_eq_false fun z => nomatch z) ?_⟩
        have hF2 := s' _ _ hFi
        refine ⟨_, rfl, .inl ⟨rfl, _, SqL.of hF2⟩, _, rfl, F, _, _, rfl, rfl, hF2, ?_, ?_⟩
        · rw [List.length_map]
          omega
        · refine ⟨_, _, ts ++ [t], cs ++ [c], rfl, Same.updn (si.trans s') hF, by rw [upd_same, List.map_append]; rfl, ?_, by rw [List.length_append]; exact Nat.succ_le_succ hcl, by rw [he, takeC_some hxi hc, List.append_assoc]; rfl⟩
          exact paired_snoc (R := fun u (c : Str × Str) => SqT K (upd H' F (.lst (ts.map V.ref ++ [V.ref t]))) u [.str c.1, .str c.2]) (sqt_lst hF2 ht) (paired_mono (fun _ _ z => sqt_lst hF2 z) (hcs.same s'))
def spIsPL : Sp := fun vs H Q _ => ∃ l : Str, vs = [.str l] ∧ Lined l ∧ ∀ H', Same H H' → Q (.bl (linePart l)) H'
theorem scIsPL : FnScope ["line", "words"] ["line"] (defScope sIsPL) := ⟨rfl, rfl, rfl, by decide +kernel, rfl, by decide +kernel, by decide +kernel⟩
theorem ok_isPL {Rd : TRead K mg} {T : TPart Rd.R} {B : TBk T} (S : TBRead Rd B) : FnOk P w K mg base CX0 3 S.isPL.f S.isPL.fd ["line"] spIsPL := by
  refine S.isPL.F.ok scIsPL (fun vs H Q E h => ?_) (fun cdv A outer s H vs Q E hr h => ?_)
  · obtain ⟨l, rfl, _⟩ := h
    rfl
  · obtain ⟨l, rfl, hl, q⟩ := h
    refine ⟨_, pss_cons (ps_set (i := 1) scIsPL.nd rfl (Or.inl rfl) (pe_split (pv 0) pe_str))
      (pss_one (ps_ret (pe_and (pe_cmpR op_eq (pe_callB call_len_seq (by rfl) Rd.M.mLen PySem.boot_len (pa_cons (pv 1) pa_nil)) pe_int (nomark _)) (pe_and (pe_cmpR op_eq (pe_ix ix_list (pv 1) pe_int (fun _ _ => rfl)) pe_str (nomark _))
        (pe_one (pe_call Rd.R.N.okName (hr.mono (by decide)) rfl Rd.R.N.isName.m Rd.R.N.isName.F.kp Rd.R.N.isName.b .nil pass0 (pa_cons (pe_ix ix_list (pv 1) pe_int (fun _ _ => rfl)) pa_nil))))))), ?_⟩
    refine ⟨_, rfl, ⟨_, rfl⟩, l, " ", rfl, rfl, by decide +kernel, Nat.le_trans (Nat.add_le_add_right hl.1 2) (by decide), fun p hp => ?_⟩
    have s1 : Same H (upd H p (.lst ((Txt.split l " ").map V.str))) := Same.new hp
    have hP : upd H p (.lst ((Txt.split l " ").map V.str)) p = some (.lst ((Txt.split l " ").map V.str)) := upd_same
    have hw := lined_words hl
    have q' : ∀ H', Same H H' → Q (.bl (partIs (Txt.split l " "))) H' := q
    generalize upd H p (.lst ((Txt.split l " ").map V.str)) = G at s1 hP ⊢
    generalize Txt.split l " " = ws at hw hP q'
    unfold gName
    dsimp only
    refine ⟨_, rfl, p, _, rfl, .inl (SqL.of hP), rfl, _, rfl, ?_⟩
    match ws, hP, hw, q' with
    | [], hP, hw, q' => exact iteFD rfl (q' _ s1)
    | [a], hP, hw, q' => exact iteFD rfl (q' _ s1)
    | [a, b], hP, hw, q' =>
      refine iteTD rfl ?_
      refine ⟨_, rfl, p, _, 0, .str a, rfl, rfl, SqL.of hP, rfl, rfl, _, rfl, ?_⟩
      by_cases ha : a = "part"
      · refine iteTD (decide_eq_true (by rw [ha])) ?_
        refine ⟨_, rfl, p, _, 1, .str b, rfl, rfl, SqL.of hP, rfl, .str b, .str b, rfl, .str b, Nat.le_trans (hw b (by simp)).1 (by decide), fun H' s' m' => ?_⟩
        have e : partIs [a, b] = nameS b := by
          show (decide (2 = 2) && (decide (some a = some ("part" : Str)) && nameS b)) = nameS b
          rw [ha, decide_eq_true rfl, decide_eq_true rfl]
          rfl
        rw [e] at q'
        exact q' _ (s1.trans s')
      · refine iteFD (decide_eq_false fun z => ha (V.str.inj z)) ?_
        have e : partIs [a, b] = false := by
          show (decide (2 = 2) && (decide (some a = some ("part" : Str)) && nameS b)) = false
          rw [decide_eq_false (fun z => ha (Option.some.inj z)), decide_eq_true rfl]
          rfl
        rw [e] at q'
        exact q' _ s1
    | a :: b :: c :: r, hP, hw, q' =>
      have h2 : decide (V.int (((a :: b :: c :: r).map V.str).length : Int) = V.int 2) = false := decide_eq_false fun zz => by
        have := V.int.inj zz
        simp only [List.length_map, List.length_cons] at this
        omega
      have e : partIs (a :: b :: c :: r) = false := by
        unfold partIs
        rw [decide_eq_false (by simp only [List.length_cons]; omega)]
        rfl
      rw [e] at q'
      exact iteFD h2 (q' _ s1)
def spRdL (Rd : TRead K mg) : Sp := fun vs H Q _ => ∃ (l : Str) (k : Int) (r : RowD), vs = [.str l, .int k] ∧ Lined l ∧ rowOf (Txt.split l " ") = some r ∧ ∀ a H', Same H H' → RowAt Rd.R H' a r → Q (.ref a) H'
theorem scRdL : FnScope ["line", "at"] ["line", "at"] (defScope sRdL) := ⟨rfl, rfl, rfl, by decide +kernel, rfl, by decide +kernel, by decide +kernel⟩
theorem ok_rdL {Rd : TRead K mg} {T : TPart Rd.R} {B : TBk T} (S : TBRead Rd B) : FnOk P w K mg base CX0 8 S.rdl.f S.rdl.fd ["line", "at"] (spRdL Rd) := by
  refine S.rdl.F.ok scRdL (fun vs H Q E h => ?_) (fun cdv A outer s H vs Q E hr h => ?_)
  · obtain ⟨l, k, r, rfl, _⟩ := h
    rfl
  · obtain ⟨l, k, r, rfl, hl, hrow, q⟩ := h
    refine ⟨_, pss_one (ps_try_only rfl rfl ⟨rfl, by decide, .inl Rd.M.IT.m⟩ takes0
      (fun W pn xe tk _ => pss_one (ps_ret (pe_callS (okReadRow Rd S.hsub) hr rfl Rd.read.m Rd.read.F.kp Rd.read.b (fun σ => passAt tk σ) (pa_cons (pv 0) pa_nil))))
      (fun a oe cls d pn hz hf => pss_never)), ?_⟩
    exact ⟨_, rfl, l, rfl, Nat.le_trans hl.1 (by decide), hl.2, fun r2 hr2 a H1 hs hm hat => by rw [hrow] at hr2; cases hr2; exact q a H1 hs hat, fun hn => by rw [hrow] at hn; cases hn⟩
end
end Pn

namespace Pn
open PySem L2 TL
/-! ### read_parts, Book.read -/
section
variable {P : Program} {w : World} {K : PySem.W.Frag} {mg : Str → Option Value} {base : Heap}
theorem hidS {H H' : Hp} (s : Same H H') (b : Addr) : Same (hid H b) (hid H' b) := fun a o e => by
  unfold hid at e ⊢
  by_cases h : a = b
  · rw [if_pos h] at e; cases e
  · rw [if_neg h] at e ⊢; exact s a o e
theorem hid2_upd {H : Hp} {a b : Addr} {o : HO} : hid (hid (upd H b o) a) b = hid (hid H a) b := by
  funext x
  unfold hid
  by_cases h : x = b
  · rw [if_pos h, if_pos h]
  · rw [if_neg h, if_neg h]
    by_cases h2 : x = a
    · rw [if_pos h2, if_pos h2]
    · rw [if_neg h2, if_neg h2, upd_ne h]
def Draft (R : TRows K mg) (H : Hp) (q : Addr) (p : PartD) : Prop := ∃ (ra : Addr) (us : List Addr), H q = some (.tup [.str p.1, .ref ra]) ∧ H ra = some (.lst (us.map V.ref)) ∧ RowsIn R H us p.2
theorem Draft.same {R : TRows K mg} {H H' : Hp} {q : Addr} {p : PartD} (h : Draft R H q p) (s : Same H H') : Draft R H' q p := by
  obtain ⟨ra, us, h1, h2, h3⟩ := h
  exact ⟨ra, us, s _ _ h1, s _ _ h2, h3.same s⟩
theorem rowsHidF {R : TRows K mg} {H : Hp} {F : Addr} {xs : List V} (hF : H F = some (.lst xs)) {us : List Addr} {rs : List RowD} (h : RowsIn R H us rs) : RowsIn R (hid H F) us rs :=
  paired_mono (fun a r e => by
    obtain ⟨dy, e⟩ := e
    obtain ⟨gs, eg⟩ := insRow_ins R dy r
    exact ⟨dy, hid_get e fun z => by rw [z, hF, eg] at e; cases e⟩) h
/-- the drafts at F; the last one's rows are open -/
def Drafts (R : TRows K mg) (G H : Hp) (F : Addr) (qs : List Addr) (ds : List PartD) : Prop := H F = some (.lst (qs.map V.ref)) ∧ ((qs = [] ∧ ds = []) ∨ ∃ (qi : List Addr) (ql : Addr) (di : List PartD) (dl : PartD) (rl : Addr) (us : List Addr),
  qs = qi ++ [ql] ∧ ds = di ++ [dl] ∧ (rl ≠ F ∧ G rl = none) ∧ Paired (Draft R (hid (hid H F) rl)) qi di ∧ H ql = some (.tup [.str dl.1, .ref rl]) ∧ H rl = some (.lst (us.map V.ref)) ∧ RowsIn R H us dl.2)
theorem Drafts.same {R : TRows K mg} {G H H' : Hp} {F : Addr} {qs : List Addr} {ds : List PartD} (h : Drafts R G H F qs ds) (s : Same H H') : Drafts R G H' F qs ds := by
  obtain ⟨h1, h2⟩ := h
  refine ⟨s _ _ h1, h2.imp id ?_⟩
  rintro ⟨qi, ql, di, dl, rl, us, e1, e2, e3, e4, e5, e6, e7⟩
  exact ⟨qi, ql, di, dl, rl, us, e1, e2, e3, paired_mono (fun _ _ z => z.same (hidS (hidS s F) rl)) e4, s _ _ e5, s _ _ e6, e7.same s⟩
theorem Drafts.closed {R : TRows K mg} {G H : Hp} {F : Addr} {qs : List Addr} {ds : List PartD} (h : Drafts R G H F qs ds) : Paired (Draft R (hid H F)) qs ds := by
  obtain ⟨h1, ⟨rfl, rfl⟩ | ⟨qi, ql, di, dl, rl, us, rfl, rfl, ⟨e3, _⟩, e4, e5, e6, e7⟩⟩ := h
  · exact .nil
  · exact paired_snoc ⟨rl, us, hid_get e5 (fun z => by rw [z, h1] at e5; cases e5), hid_get e6 e3, rowsHidF h1 e7⟩ (paired_mono (fun _ _ z => z.same hid_sub) e4)
theorem Drafts.part {R : TRows K mg} {G H H1 : Hp} {F rl ql : Addr} {qs : List Addr} {ds : List PartD} {n : Str} (h : Drafts R G H F qs ds) (s : Same H H1) (sg : Same G H1) (hr : H1 rl = none) (hq : upd H1 rl (.lst []) ql = none) :
    Drafts R G (upd (upd (upd H1 rl (.lst [])) ql (.tup [.str n, .ref rl])) F (.lst (qs.map V.ref ++ [.ref ql]))) F (qs ++ [ql]) (ds ++ [(n, [])]) := by
  have hF := s _ _ h.1
  have n1 : rl ≠ F := fun z => by rw [z, hF] at hr; cases hr
  have n2 : ql ≠ rl := fun z => by rw [z, upd_same] at hq; cases hq
  have hq1 : H1 ql = none := by rw [upd_ne n2] at hq; exact hq
  have n3 : ql ≠ F := fun z => by rw [z, hF] at hq1; cases hq1
  refine ⟨by rw [upd_same, List.map_append]; rfl, .inr ⟨qs, ql, ds, (n, []), rl, [], rfl, rfl, ⟨n1, sg.free hr⟩, paired_mono (fun _ _ z => z.same fun a o e => ?_) h.closed, by rw [upd_ne n3, upd_same], by rw [upd_ne n1, upd_ne (Ne.symm n2), upd_same]; rfl, .nil⟩⟩
  have nF : a ≠ F := fun z => by rw [z] at e; unfold hid at e; rw [if_pos rfl] at e; cases e
  have e1 := s _ _ (hid_sub _ _ e)
  have nr : a ≠ rl := ne_of_none e1 hr
  have nq : a ≠ ql := ne_of_none e1 hq1
  exact hid_get (hid_get (by rw [upd_ne nF, upd_ne nq, upd_ne nr]; exact e1) nF) nr
theorem cutV_from (xs : List V) {k : Nat} (h : k ≤ xs.length) : cutV xs (some (k : Int)) none = xs.drop k := by
  unfold cutV
  rw [HT.sIx_none, HT.sIx_nat, Nat.min_eq_left h]
  exact List.take_of_length_le (by rw [List.length_drop]; omega)
theorem at_last {l : List Addr} {a : Addr} : atI ((l ++ [a]).map V.ref) (-1) = some (.ref a) := by
  rw [List.map_append]
  exact atI_last _ _
theorem addRow_some {ds d : List PartD} {r : RowD} (h : addRow ds r = some d) : ∃ di dl, ds = di ++ [dl] ∧ d = di ++ [(dl.1, dl.2 ++ [r])] := by
  rcases List.eq_nil_or_concat ds with rfl | ⟨di, dl, rfl⟩
  · cases h
  · rw [List.concat_eq_append, addRow_snoc] at h
    exact ⟨di, dl, by rw [List.concat_eq_append], (Option.some.inj h).symm⟩
def spRdPs {Rd : TRead K mg} (T : TPart Rd.R) : Sp := fun vs H Q _ => ∃ (lp : Addr) (n : Nat) (ls : List Str) (bk : List PartD), vs = [.ref lp, .int (n : Int)] ∧ SqL K H lp (ls.map V.str) ∧ (∀ x ∈ ls, Lined x) ∧ ls.length ≤ 9000 ∧ n ≤ ls.length ∧ rdGo [] (ls.drop n) = some bk ∧
  (∀ p ∈ bk, nameS p.1 = true ∧ p.2.length ≤ 1000) ∧ bk.length ≤ 1000 ∧ ∀ (D : Addr) (as : List Addr) (H' : Hp), Same H H' → H' D = some (.lst (as.map V.ref)) → PtsIn T H' as bk → Q (.ref D) H'
theorem scRdPs : FnScope ["lines", "start", "drafts", "at", "line", "name", "rows"] ["lines", "start"] (defScope sRdPs) := ⟨rfl, rfl, rfl, by decide +kernel, rfl, by decide +kernel, by decide +kernel⟩
theorem ok_rdPs {Rd : TRead K mg} {T : TPart Rd.R} {B : TBk T} (S : TBRead Rd B) : FnOk P w K mg base CX0 9 S.rdps.f S.rdps.fd ["lines", "start"] (spRdPs T) := by
  refine S.rdps.F.ok scRdPs (fun vs H Q E h => ?_) (fun cdv A outer s H vs Q E hr h => ?_)
  · obtain ⟨lp, n, ls, bk, rfl, _⟩ := h
    rfl
  · obtain ⟨lp, n, ls, bk, rfl, hlp, hok, hll, hn, hgo, hbk, hbl, q⟩ := h
    refine ⟨_, pss_cons (ps_set (i := 2) scRdPs.nd rfl (Or.inl rfl) (pe_lst pa_nil))
      (pss_cons (ps_for PassesOwn.never rfl (pi_enumF (by rfl) S.mEn (pa_cons (pe_slice sl_list (pv 0) (po_some (pv 1)) po_none) (pa_cons (pv 1) pa_nil))) (pg_tup (by rfl) (pgs_cons (pg_name (i := 3) scRdPs.nd rfl (Or.inl rfl)) (pgs_cons (pg_name (i := 4) scRdPs.nd rfl (Or.inl rfl)) pgs_nil)))
        (pss_one (ps_if (pt_val (pe_call (ok_isPL S) (hr.mono (by decide)) rfl S.isPL.m S.isPL.F.kp S.isPL.b .nil pass0 (pa_cons (pv 4) pa_nil)))
          (pss_one (ps_expr (pe_bm PySem.F.plainAttrs_list PySem.F.slot_list_append PySem.F.type_list_append mt_append (pv 2) (pa_cons (pe_tup (pa_cons (pe_ix ix_list (pe_split (pv 4) pe_str) pe_int (fun _ _ => rfl)) (pa_cons (pe_lst pa_nil) pa_nil))) pa_nil))))
          (pss_one (ps_if (pt_cmpR op_eq (pe_callB call_len_seq (by rfl) Rd.M.mLen PySem.boot_len (pa_cons (pv 2) pa_nil)) pe_int (nomark _)) pss_never
            (pss_one (ps_expr (pe_bm PySem.F.plainAttrs_list PySem.F.slot_list_append PySem.F.type_list_append mt_append (pe_ix ix_tup (pe_ix ix_list (pv 2) (pe_un un_neg pe_int) (fun _ _ => rfl)) pe_int (fun _ _ => rfl))
              (pa_cons (pe_call (ok_rdL S) hr rfl S.rdl.m S.rdl.F.kp S.rdl.b .nil pass0 (pa_cons (pv 4) (pa_cons (pv 3) pa_nil))) pa_nil)))))))))
      (pss_one (ps_ret (pe_lc (own := [("name", 5), ("rows", 6)]) (g := gTup K 2 (gCons (gName 5) (gCons (gName 6) gNil))) (tt := tYes) (by rfl) scRdPs.nd (pi_list (pv 2))
        (blkOk_by (N := ["lines", "start", "drafts", "at", "line", "name", "rows"]) (sc := defScope sRdPs) (by decide +kernel)) (fun _ _ _ _ _ => pg_tup (by rfl) (pgs_cons (pg_name (i := 5) scRdPs.nd rfl (Or.inl rfl)) (pgs_cons (pg_name (i := 6) scRdPs.nd rfl (Or.inl rfl)) pgs_nil))) (fun _ _ _ _ _ => pts_nil)
        (fun _ _ _ _ _ => pe_make T.M (okPartInit T) (hr.mono (by decide)) rfl T.mC T.bI .nil passN0 (pa_cons (pv 5) (pa_cons (pv 6) pa_nil))))))), ?_⟩
    have big : (10001 : Nat) ≤ sizeLine := by decide
    refine ⟨Nat.zero_le _, fun F hF => ?_⟩
    have hF1 : upd H F (.lst []) F = some (.lst []) := upd_same
    have s1 := Same.new (o := .lst []) hF
    generalize upd H F (.lst []) = H1 at hF1 s1 ⊢
    refine ⟨_, rfl, _, rfl, _, rfl, lp, _, rfl, s1.seq hlp, fun p2 hp2 => ?_⟩
    rw [cutV_from _ (by rw [List.length_map]; exact hn), ← List.map_drop]
    have s2 := s1.trans (Same.new (o := .lst ((ls.drop n).map V.str)) hp2)
    have hF2 := Same.new (o := .lst ((ls.drop n).map V.str)) hp2 _ _ hF1
    have hL2 : upd H1 p2 (.lst ((ls.drop n).map V.str)) p2 = some (.lst ((ls.drop n).map V.str)) := upd_same
    have nF2 : p2 ≠ F := fun z => by rw [z, hF1] at hp2; cases hp2
    have hp2H : H p2 = none := s1.free hp2
    have hok' : ∀ x ∈ ls.drop n, Lined x := fun x hx => hok x (List.mem_of_mem_drop hx)
    have hll' : (ls.drop n).length ≤ 9000 := by rw [List.length_drop]; omega
    generalize ls.drop n = L at hgo hL2 hok' hll' hF2 s2 ⊢
    generalize upd H1 p2 (.lst (L.map V.str)) = H2 at s2 hF2 hL2 ⊢
    refine ⟨_, rfl, p2, (n : Int), L.map V.str, rfl, by omega, Int.lt_of_le_of_lt (show (n : Int) ≤ 9000 by omega) (by decide), SqL.of hL2, for_it (n := (L.map V.str).length) walk_enumF (fun i σ Hi => ∃ (x3 x4 : Option V) (qs : List Addr) (ds : List PartD), σ = [some (.ref lp), some (.int (n : Int)), some (.ref F), x3, x4, none, none] ∧ Same (hid H2 F) (hid Hi F) ∧ Drafts Rd.R (hid H2 F) Hi F qs ds ∧ rdGo ds (L.drop i) = some bk ∧ ds.length ≤ i ∧ ∀ p ∈ ds, p.2.length ≤ i)
      ⟨_, _, [], [], rfl, Same.refl _, ⟨hF2, .inl ⟨rfl, rfl⟩⟩, hgo, Nat.le_refl _, fun p hp => nomatch hp⟩ (fun i σ Hi _ hP => by obtain ⟨_, _, _, _, _, s, _⟩ := hP; exact SqL.of (hid_sub _ _ (s _ _ (hid_get hL2 nF2)))) (fun i x σ Hi Hi' hi hP hY => ?turn) (fun σ Hi hP => ?done)⟩
    case turn =>
      obtain ⟨x3, x4, qs, ds, rfl, si, hD, hg, hdl, hdr⟩ := hP
      obtain ⟨T', xx, yy, rfl, hT', rfl, e1, e2⟩ := hY
      obtain rfl : V.int ((n : Int) + (i : Nat)) = xx := Option.some.inj e1
      have e2 : (L.map V.str)[i]? = some yy := e2
      rw [List.getElem?_map] at e2
      cases hxi : L[i]? with
      | none => rw [hxi] at e2; cases e2
      | some l =>
      rw [hxi] at e2
      cases e2
      have hiL : i < L.length := (List.getElem?_eq_some_iff.mp hxi).1
      obtain ⟨d, hs, hg2⟩ := rdGo_step hxi hg
      have hl := hok' l (List.mem_of_getElem? hxi)
      have sk := Same.new (o := .tup [.int ((n : Int) + (i : Nat)), .str l]) hT'
      have hD1 := hD.same sk
      have hF3 := hD1.1
      refine ⟨T', _, rfl, SqT.of upd_same, rfl, _, _, rfl, _, _, rfl, rfl, ?_⟩
      have S1 : Same (hid H2 F) (hid (upd Hi T' (.tup [.int ((n : Int) + (i : Nat)), .str l])) F) := si.trans (hidS sk F)
      generalize upd Hi T' (.tup [.int ((n : Int) + (i : Nat)), .str l]) = H3 at hD1 hF3 S1 ⊢
      refine ⟨_, rfl, l, rfl, hl, fun H4 s4 => ⟨linePart l, rfl, ?_⟩⟩
      have hD2 := hD1.same s4
      have hF4 := hD2.1
      have S2 := S1.trans (hidS s4 F)
      have hql : qs.length = ds.length := by
        have := paired_len hD2.closed
        exact this
      unfold rdStep at hs
      cases hpl : linePart l with
      | true =>
        rw [if_pos hpl] at hs
        cases hs
        refine iteT ?_
        refine ⟨_, rfl, .inl ⟨rfl, _, SqL.of hF4⟩, _, rfl, ⟨_, rfl⟩, l, " ", rfl, rfl, by decide +kernel, Nat.le_trans (Nat.add_le_add_right hl.1 2) (by decide), fun p hp => ?_⟩
        have s5 : Same H4 (upd H4 p (.lst ((Txt.split l " ").map V.str))) := Same.new hp
        have hP : upd H4 p (.lst ((Txt.split l " ").map V.str)) p = some (.lst ((Txt.split l " ").map V.str)) := upd_same
        have hnm : (Txt.split l " ")[1]? = some (lineName l) := by
          have h2 := hpl
          unfold linePart partIs at h2
          rw [Bool.and_eq_true] at h2
          have h3 : (Txt.split l " ").length = 2 := of_decide_eq_true h2.1
          unfold lineName
          rw [List.getD_eq_getElem?_getD, List.getElem?_eq_getElem (by omega)]
          rfl
        generalize upd H4 p (.lst ((Txt.split l " ").map V.str)) = H5 at s5 hP ⊢
        refine ⟨_, _, 1, .str (lineName l), rfl, rfl, SqL.of hP, atI_nat (j := 1) (by rw [List.getElem?_map, hnm]; rfl), Nat.zero_le _, fun rl hrl => ⟨by show 2 ≤ sizeLine; decide, fun ql hql2 => ?_⟩⟩
        have hF6 := s5 _ _ hF4
        have n1 : rl ≠ F := fun z => by rw [z, hF6] at hrl; cases hrl
        have n3 : ql ≠ F := fun z => by rw [z, upd_ne (Ne.symm n1), hF6] at hql2; cases hql2
        refine ⟨F, qs.map V.ref, _, rfl, rfl, by rw [upd_ne (Ne.symm n3), upd_ne (Ne.symm n1)]; exact hF6, by rw [List.length_map]; omega, ?_⟩
        refine ⟨_, _, qs ++ [ql], ds ++ [(lineName l, [])], rfl, ?_, hD2.part s5 ((S2.trans (hidS s5 F)).trans hid_sub) hrl hql2, hg2, by rw [List.length_append]; exact Nat.succ_le_succ hdl, fun p hp => ?_⟩
        · refine S2.trans ((hidS s5 F).trans fun a o e => ?_)
          have nF : a ≠ F := fun z => by rw [z] at e; unfold hid at e; rw [if_pos rfl] at e; cases e
          have e5 := hid_sub _ _ e
          exact hid_get (by rw [upd_ne nF, upd_ne (ne_of_none (Same.new hrl _ _ e5) hql2), upd_ne (ne_of_none e5 hrl)]; exact e5) nF
        · rcases List.mem_append.mp hp with hp | hp
          · exact Nat.le_trans (hdr p hp) (Nat.le_succ i)
          · rw [List.mem_singleton.mp hp]; exact Nat.zero_le _
      | false =>
        rw [if_neg (by rw [hpl]; decide)] at hs
        refine iteF ?_
        cases hro : rowOf (Txt.split l " ") with
        | none => rw [hro] at hs; cases hs
        | some r =>
        rw [hro] at hs
        obtain ⟨di, dl, rfl, rfl⟩ := addRow_some hs
        refine ⟨_, rfl, F, _, rfl, .inl (SqL.of hF4), rfl, _, rfl, iteFD (decide_eq_false fun z => by
          have := V.int.inj z
          rw [List.length_map, hql, List.length_append] at this
          simp only [List.length_cons, List.length_nil] at this
          omega) ?_⟩
        obtain ⟨_, ⟨_, z⟩ | ⟨qi, ql, di2, dl2, rl, us, rfl, ed, ⟨n1, g1⟩, hpi, h5, h6, h7⟩⟩ := hD2
        · simp at z
        obtain ⟨rfl, e⟩ := List.append_inj' ed rfl
        cases List.singleton_inj.mp e
        refine ⟨_, rfl, _, rfl, F, _, _, .ref ql, rfl, rfl, SqL.of hF4, at_last, ql, _, _, .ref rl, rfl, rfl, SqT.of h5, rfl, .inl ⟨rfl, _, SqL.of h6⟩, _, rfl, _, rfl, l, _, r, rfl, hl, hro, fun a H5 s5 ha => ?_⟩
        have h6' := s5 _ _ h6
        have hul : us.length = dl.2.length := paired_len h7
        have hdi := hdr dl (by simp)
        refine ⟨rl, us.map V.ref, _, rfl, rfl, h6', by rw [List.length_map]; omega, ?_⟩
        refine ⟨_, _, qi ++ [ql], di ++ [(dl.1, dl.2 ++ [r])], rfl, ?_, ⟨by rw [upd_ne (Ne.symm n1)]; exact s5 _ _ hF4, .inr ⟨qi, ql, di, (dl.1, dl.2 ++ [r]), rl, us ++ [a], rfl, rfl, ⟨n1, g1⟩, ?_, ?_, by rw [upd_same, List.map_append]; rfl, ?_⟩⟩, hg2, ?_, fun p hp => ?_⟩
        · intro a' o e
          have nr : a' ≠ rl := fun z => by rw [z, g1] at e; cases e
          have nF : a' ≠ F := fun z => by rw [z] at e; unfold hid at e; rw [if_pos rfl] at e; cases e
          exact hid_get (by rw [upd_ne nr]; exact hid_sub _ _ (hidS s5 F _ _ (S2 _ _ e))) nF
        · rw [hid2_upd]
          exact paired_mono (fun _ _ z => z.same (hidS (hidS s5 F) rl)) hpi
        · rw [upd_ne (fun z => by rw [z, h6] at h5; cases h5)]
          exact s5 _ _ h5
        · exact rowsin_lst h6' (paired_snoc ha (h7.same s5))
        · rw [List.length_append] at hdl ⊢
          exact Nat.le_succ_of_le hdl
        · rcases List.mem_append.mp hp with hp | hp
          · exact Nat.le_trans (hdr p (List.mem_append_left _ hp)) (Nat.le_succ i)
          · rw [List.mem_singleton.mp hp]
            show (dl.2 ++ [r]).length ≤ i + 1
            rw [List.length_append]
            exact Nat.succ_le_succ hdi
    case done =>
      obtain ⟨x3, x4, qs, ds, rfl, si, hD, hg, hdl, hdr⟩ := hP
      rw [List.length_map, List.drop_length] at hg
      cases Option.some.inj hg
      have hc : Paired (Draft Rd.R Hi) qs bk := paired_mono (fun _ _ z => Draft.same z hid_sub) hD.closed
      have hF3 := hD.1
      have sH : Same H Hi := fun a o e => hid_sub _ _ (si _ _ (hid_get (s2 _ _ e) (ne_of_none e hF)))
      have hql : qs.length = bk.length := paired_len hc
      refine ⟨_, rfl, F, rfl, ⟨_, SqL.of hF3⟩, fun D hDn => lc_list (xs := qs.map V.ref) (fun i Hj => ∃ as : List Addr, Same Hi Hj ∧ Hj D = some (.lst (as.map V.ref)) ∧ PtsIn T Hj as (bk.take i)) ⟨[], Same.new hDn, upd_same, .nil⟩ (fun i Hj _ hP => by obtain ⟨_, s, _⟩ := hP; exact SqL.of (s _ _ hF3)) (fun i z Hj hz hP => ?turn2) (fun Hj hP => ?fin2)⟩
      case turn2 =>
        obtain ⟨as, sj, hDj, has⟩ := hP
        rw [List.getElem?_map] at hz
        cases hxi : qs[i]? with
        | none => rw [hxi] at hz; cases hz
        | some u =>
        rw [hxi] at hz
        cases hz
        obtain ⟨p, hp, ra, us, hu, hra, hus⟩ := paired_at hc hxi
        have hpm := List.mem_of_getElem? hp
        obtain ⟨hp1, hp2⟩ := hbk p hpm
        have hul : us.length = p.2.length := paired_len hus
        have hal : as.length = (bk.take i).length := paired_len has
        rw [List.length_take] at hal
        refine ⟨u, _, rfl, SqT.of (sj _ _ hu), rfl, _, _, rfl, _, _, rfl, rfl, rfl, _, rfl, _, rfl, ?_⟩
        refine part_made T (.inl (SqL.of (sj _ _ hra))) (hus.same sj) hp1 (by omega) fun x H' s' h => ⟨_, s' _ _ hDj, ?_, as ++ [x], Same.updn (sj.trans s') hDn, by rw [upd_same, List.map_append]; rfl, ?_⟩
        · rw [List.length_map]
          omega
        · rw [List.take_add_one, hp]
          have hD' := s' _ _ hDj
          have old : PtsIn T (upd H' D (.lst (as.map V.ref ++ [V.ref x]))) as (bk.take i) := paired_mono (R := fun a (q : PartD) => PtAt T H' a q.1 q.2) (fun _ _ z => ptat_lst hD' z) (has.same s')
          have new : PtAt T (upd H' D (.lst (as.map V.ref ++ [V.ref x]))) x p.1 p.2 := ptat_lst hD' (h.at ((hus.same sj).same s'))
          exact paired_snoc (R := fun a (q : PartD) => PtAt T (upd H' D (.lst (as.map V.ref ++ [V.ref x]))) a q.1 q.2) new old
      case fin2 =>
        obtain ⟨as, sj, hDj, has⟩ := hP
        rw [List.length_map, hql, List.take_length] at has
        exact q D as Hj (sH.trans sj) hDj has
end
end Pn

namespace Pn
open PySem L2 TL
section
variable {P : Program} {w : World} {K : PySem.W.Frag} {mg : Str → Option Value} {base : Heap}
/-- a text that is a book's -/
structure ReadOk (z : Str) (cs : List (Str × Str)) (bk : List PartD) : Prop where
  len : z.length ≤ 1000000
  lined : ∀ x ∈ Txt.split z "\n", Lined x
  many : (Txt.split z "\n").length ≤ 9000
  c : takeC (Txt.split z "\n") = cs
  p : rdGo [] ((Txt.split z "\n").drop cs.length) = some bk
  ok : BookV cs bk
  nm : ∀ p ∈ bk, nameS p.1 = true
def spBRead {Rd : TRead K mg} {T : TPart Rd.R} (B : TBk T) : Sp := fun vs H Q _ => ∃ (z : Str) (cs : List (Str × Str)) (bk : List PartD), vs = [.ref B.C, .str z] ∧ ReadOk z cs bk ∧ ∀ (x : Addr) (H' : Hp), Same H H' → BookAt B H' x cs bk → Q (.ref x) H'
theorem scBRead : FnScope ["cls", "text", "lines", "counters"] ["cls", "text"] (defScope sBRead) := ⟨rfl, rfl, rfl, by decide +kernel, rfl, by decide +kernel, by decide +kernel⟩
theorem ok_bRead {Rd : TRead K mg} {T : TPart Rd.R} {B : TBk T} (S : TBRead Rd B) : FnOk P w K mg base CX0 10 S.fR S.fdR ["cls", "text"] (spBRead B) := by
  refine S.FR.ok scBRead (fun vs H Q E h => ?_) (fun cdv A outer s H vs Q E hr h => ?_)
  · obtain ⟨z, cs, bk, rfl, _⟩ := h
    rfl
  · obtain ⟨z, cs, bk, rfl, ok, q⟩ := h
    refine ⟨_, pss_cons (ps_set (i := 2) scBRead.nd rfl (Or.inl rfl) (pe_split (pv 1) pe_str))
      (pss_cons (ps_set (i := 3) scBRead.nd rfl (Or.inl rfl) (pe_call (ok_rdCs S) (hr.mono (by decide)) rfl S.rdcs.m S.rdcs.F.kp S.rdcs.b .nil pass0 (pa_cons (pv 2) pa_nil)))
      (pss_one (ps_ret (pe_makeL (i := 0) B.M (ok_bInit B) (hr.mono (by decide)) rfl (Or.inl rfl) B.bI .nil pass0 (pa_cons (pv 3) (pa_cons
        (pe_call (ok_rdPs S) hr rfl S.rdps.m S.rdps.F.kp S.rdps.b .nil pass0 (pa_cons (pv 2) (pa_cons (pe_callB call_len_seq (by rfl) Rd.M.mLen PySem.boot_len (pa_cons (pv 3) pa_nil)) pa_nil))) pa_nil)))))), ?_⟩
    refine ⟨_, rfl, ⟨_, rfl⟩, z, "\n", rfl, rfl, by decide +kernel, Nat.le_trans (Nat.add_le_add_right ok.len 2) (by decide), fun p hp => ?_⟩
    have s1 : Same H (upd H p (.lst ((Txt.split z "\n").map V.str))) := Same.new hp
    have hP : upd H p (.lst ((Txt.split z "\n").map V.str)) p = some (.lst ((Txt.split z "\n").map V.str)) := upd_same
    generalize upd H p (.lst ((Txt.split z "\n").map V.str)) = G at s1 hP ⊢
    refine ⟨_, rfl, p, _, rfl, SqL.of hP, ok.lined, ok.many, fun F ts H2 s2 hF hcs => ?_⟩
    have htl : ts.length = (takeC (Txt.split z "\n")).length := paired_len hcs
    have hP2 := s2 _ _ hP
    refine ⟨rfl, _, rfl, _, rfl, _, rfl, F, _, rfl, .inl (SqL.of hF), p, (ts.map V.ref).length, Txt.split z "\n", bk, rfl, SqL.of hP2, ok.lined, ok.many, ?_, ?_, fun p hp => ⟨ok.nm p hp, Nat.le_trans (ok.ok.rows p hp).2.1 (by decide)⟩, Nat.le_trans ok.ok.len (by decide), fun D as H3 s3 hD hps => ?_⟩
    · rw [List.length_map, htl]
      exact takeC_len _
    · rw [List.length_map, htl, ok.c]
      exact ok.p
    · rw [ok.c] at hcs
      exact book_made B (.inl (SqL.of (s3 _ _ hF))) (hcs.same s3) ⟨D, as, rfl, .inl (SqL.of hD), hps⟩ ok.ok fun x H' s' h => q x H' (((s1.trans s2).trans s3).trans s') h
theorem text_read {cs : List (Str × Str)} {bk : List PartD} (h : BookV cs bk) (hn : ∀ p ∈ bk, nameS p.1 = true) : ReadOk (bookText cs bk) cs bk := by
  have ok := text_ok h hn
  have e := book_split ok
  obtain ⟨h1, h2⟩ := book_back ok
  have hc := h.c.len
  have hb := h.len
  have nl : ∀ {z : Str}, nameS z = true → z.length ≤ 100 := fun h => Nat.le_trans (name_ok h).2 (by decide)
  refine ⟨?_, ?_, ?_, ?_, ?_, h, hn⟩
  · have fit := join_le (cs.map (fun (c : Str × Str) => cLine c.1 c.2) ++ bk.map fun p => partText p.1 p.2)
    have a := sum_le (l := cs) (f := fun c => (cLine c.1 c.2).length) (k := 300) fun c hc => cLine_len (nl (ok.c c hc).1) (by rcases (ok.c c hc).2 with e | e; rw [e]; decide +kernel; exact nl e)
    have b := sum_le (l := bk) (f := fun p => (partText p.1 p.2).length) (k := 7000) fun p hp => partText_len (h.rows p hp)
    rw [List.map_append, List.sum_append, List.length_append, List.map_map, List.map_map, List.length_map, List.length_map] at fit
    have fit : (bookText cs bk).length ≤ (cs.map fun c => (cLine c.1 c.2).length).sum + (bk.map fun p => (partText p.1 p.2).length).sum + (cs.length + bk.length) := fit
    omega
  · rw [e]
    exact lines_lined ok
  · rw [e]
    unfold bookLines
    have b := sum_le (l := bk) (f := fun p => (partLines p).length) (k := 101) fun p hp => by
      show (p.2.map rowText).length + 1 ≤ 101
      rw [List.length_map]
      have := (h.rows p hp).2.1
      omega
    rw [List.length_append, List.length_map, List.length_flatMap]
    have b : (bk.map fun p => (partLines p).length).sum ≤ 101 * bk.length := b
    omega
  · rw [e]
    exact h1
  · rw [e]
    exact h2
end
end Pn

namespace Pn
open PySem L2 TL
/-! ### rows made of good names -/
section
variable {P : Program} {w : World} {K : PySem.W.Frag} {mg : Str → Option Value} {base : Heap}
theorem nl_name {z : Str} (h : nameS z = true) : dlen (.str z) := Nat.le_trans (name_ok h).2 (by show 4 ≤ 900; decide)
theorem note_mk (R : TRows K mg) {H : Hp} {c l : Str} (hc : nameS c = true) (hl : l = "" ∨ nameS l = true) {RR : Addr → Hp → Prop} (k : ∀ x H', Same H H' → RowAt R H' x (.note c l) → RR x H') :
    ∀ x dx, H x = none → H dx = none → dx ≠ x → spNoteInit K R.note.C R.N.IR.C [.ref x, .str c, .str l] (upd (upd H dx (.own x)) x (.ins R.note.C dx [])) (fun v H2 => v = .non ∧ RR x H2) E0 := fun x dx hx hdx ne =>
  ⟨x, dx, .str c, .str l, .str c, .str l, rfl, upd_same, .str c, nl_name hc, .str l, (by rcases hl with rfl | z; exact (by decide +kernel : ("" : Str).length ≤ 900); exact nl_name z), str_shaped (by rcases hl with rfl | z; decide +kernel; exact (name_ok z).1), fun hn hg H1 kp m hi => ⟨rfl, k x H1 (kpi_same2 hx hdx kp) ⟨dx, hi⟩⟩, fun hn => absurd hc (by rw [show nameS c = false from hn]; decide), fun _ hg => absurd (lab_of hl) (by rw [hg]; decide)⟩
theorem skip_mk (R : TRows K mg) {H : Hp} {c : Str} {n : Nat} (hc : nameS c = true) (hn : 1 ≤ n) {RR : Addr → Hp → Prop} (k : ∀ x H', Same H H' → RowAt R H' x (.skip c n) → RR x H') :
    ∀ x dx, H x = none → H dx = none → dx ≠ x → spSkipInit K R.skip.C R.N.IR.C [.ref x, .str c, .int (n : Int)] (upd (upd H dx (.own x)) x (.ins R.skip.C dx [])) (fun v H2 => v = .non ∧ RR x H2) E0 := fun x dx hx hdx ne =>
  ⟨x, dx, .str c, .int (n : Int), .str c, .int (n : Int), rfl, upd_same, .str c, nl_name hc, .int _, fun _ _ H1 kp m hi => ⟨rfl, k x H1 (kpi_same2 hx hdx kp) ⟨dx, hi⟩⟩, fun z => absurd hc (by rw [show nameS c = false from z]; decide), fun _ z => absurd (skip_of (n := n) (by omega)) (by rw [z]; decide)⟩
theorem set_mk (R : TRows K mg) {H : Hp} {c : Str} {n : Nat} (hc : nameS c = true) {RR : Addr → Hp → Prop} (k : ∀ x H', Same H H' → RowAt R H' x (.set c n) → RR x H') :
    ∀ x dx, H x = none → H dx = none → dx ≠ x → spSetInit K R.set.C R.N.IR.C [.ref x, .str c, .int (n : Int)] (upd (upd H dx (.own x)) x (.ins R.set.C dx [])) (fun v H2 => v = .non ∧ RR x H2) E0 := fun x dx hx hdx ne =>
  ⟨x, dx, .str c, .int (n : Int), .str c, .int (n : Int), rfl, upd_same, .str c, nl_name hc, .int _, fun _ _ H1 kp m hi => ⟨rfl, k x H1 (kpi_same2 hx hdx kp) ⟨dx, hi⟩⟩, fun z => absurd hc (by rw [show nameS c = false from z]; decide), fun _ z => absurd (set_of (n := n)) (by rw [z]; decide)⟩
theorem keep_mk (R : TRows K mg) {H : Hp} {c : Str} (hc : nameS c = true) {RR : Addr → Hp → Prop} (k : ∀ x H', Same H H' → RowAt R H' x (.keep c) → RR x H') :
    ∀ x dx, H x = none → H dx = none → dx ≠ x → spKeepInit K R.keep.C R.N.IR.C [.ref x, .str c] (upd (upd H dx (.own x)) x (.ins R.keep.C dx [])) (fun v H2 => v = .non ∧ RR x H2) E0 := fun x dx hx hdx ne =>
  ⟨x, dx, .str c, .str c, rfl, upd_same, .str c, nl_name hc, fun hn H1 kp m hi => ⟨rfl, k x H1 (kpi_same2 hx hdx kp) ⟨dx, hi⟩⟩, fun hn => absurd hc (by rw [show nameS c = false from hn]; decide)⟩
theorem back_mk (R : TRows K mg) {H : Hp} {c : Str} (hc : nameS c = true) {RR : Addr → Hp → Prop} (k : ∀ x H', Same H H' → RowAt R H' x (.back c) → RR x H') :
    ∀ x dx, H x = none → H dx = none → dx ≠ x → spBackInit K R.back.C R.N.IR.C [.ref x, .str c] (upd (upd H dx (.own x)) x (.ins R.back.C dx [])) (fun v H2 => v = .non ∧ RR x H2) E0 := fun x dx hx hdx ne =>
  ⟨x, dx, .str c, .str c, rfl, upd_same, .str c, nl_name hc, fun hn H1 kp m hi => ⟨rfl, k x H1 (kpi_same2 hx hdx kp) ⟨dx, hi⟩⟩, fun hn => absurd hc (by rw [show nameS c = false from hn]; decide)⟩
theorem ref_mk (R : TRows K mg) {H : Hp} {c : Str} (hc : nameS c = true) {RR : Addr → Hp → Prop} (k : ∀ x H', Same H H' → RowAt R H' x (.ref c) → RR x H') :
    ∀ x dx, H x = none → H dx = none → dx ≠ x → spRefInit K R.ref.C R.N.IR.C [.ref x, .str c] (upd (upd H dx (.own x)) x (.ins R.ref.C dx [])) (fun v H2 => v = .non ∧ RR x H2) E0 := fun x dx hx hdx ne =>
  ⟨x, dx, .str c, .str c, rfl, upd_same, .str c, nl_name hc, fun hn H1 kp m hi => ⟨rfl, k x H1 (kpi_same2 hx hdx kp) ⟨dx, hi⟩⟩, fun hn => absurd hc (by rw [show nameS c = false from hn]; decide)⟩
theorem put_mk (R : TRows K mg) {H : Hp} {c : Str} (hc : nameS c = true) {RR : Addr → Hp → Prop} (k : ∀ x H', Same H H' → RowAt R H' x (.put c) → RR x H') :
    ∀ x dx, H x = none → H dx = none → dx ≠ x → spPutInit K R.put.C R.N.IR.C [.ref x, .str c] (upd (upd H dx (.own x)) x (.ins R.put.C dx [])) (fun v H2 => v = .non ∧ RR x H2) E0 := fun x dx hx hdx ne =>
  ⟨x, dx, .str c, .str c, rfl, upd_same, .str c, nl_name hc, fun hn H1 kp m hi => ⟨rfl, k x H1 (kpi_same2 hx hdx kp) ⟨dx, hi⟩⟩, fun hn => absurd hc (by rw [show nameS c = false from hn]; decide)⟩
theorem open_mk (R : TRows K mg) {H : Hp} {c : Str} (hc : nameS c = true) {RR : Addr → Hp → Prop} (k : ∀ x H', Same H H' → RowAt R H' x (.opn c) → RR x H') :
    ∀ x dx, H x = none → H dx = none → dx ≠ x → spOpenInit K R.open_.C R.N.IR.C [.ref x, .str c] (upd (upd H dx (.own x)) x (.ins R.open_.C dx [])) (fun v H2 => v = .non ∧ RR x H2) E0 := fun x dx hx hdx ne =>
  ⟨x, dx, .str c, .str c, rfl, upd_same, .str c, nl_name hc, fun hn H1 kp m hi => ⟨rfl, k x H1 (kpi_same2 hx hdx kp) ⟨dx, hi⟩⟩, fun hn => absurd hc (by rw [show nameS c = false from hn]; decide)⟩
end
/-! ### good books, by looking at all -/
def rowB : RowD → Bool
  | .note c l => nameS c && (decide (l = "") || nameS l)
  | .skip c n => nameS c && (decide (1 ≤ n) && decide (n < 10 ^ 10))
  | .set c n => nameS c && decide (n < 10 ^ 10)
  | .keep c => nameS c
  | .back c => nameS c
  | .ref c => nameS c
  | .put c => nameS c
  | .opn c => nameS c
theorem rowB_ok : ∀ {r : RowD}, rowB r = true → rowValid r
  | .note c l, h => by
    have h : (nameS c && (decide (l = "") || nameS l)) = true := h
    rw [Bool.and_eq_true, Bool.or_eq_true] at h
    exact ⟨h.1, h.2.imp of_decide_eq_true id⟩
  | .skip c n, h => by
    have h : (nameS c && (decide (1 ≤ n) && decide (n < 10 ^ 10))) = true := h
    rw [Bool.and_eq_true, Bool.and_eq_true] at h
    exact ⟨h.1, of_decide_eq_true h.2.1, of_decide_eq_true h.2.2⟩
  | .set c n, h => by
    have h : (nameS c && decide (n < 10 ^ 10)) = true := h
    rw [Bool.and_eq_true] at h
    exact ⟨h.1, of_decide_eq_true h.2⟩
  | .keep _, h => h
  | .back _, h => h
  | .ref _, h => h
  | .put _, h => h
  | .opn _, h => h
def treeB (cs : List (Str × Str)) : Bool := (List.range cs.length).all fun i => match cs[i]? with
  | some p => decide (p.2 = "") || decide (p.2 ∈ (cs.take i).map (·.1))
  | none => true
theorem treeB_ok {cs : List (Str × Str)} (h : treeB cs = true) : TreeOk cs := fun i p hp => by
  have q := List.all_eq_true.mp h i (List.mem_range.mpr (List.getElem?_eq_some_iff.mp hp).1)
  rw [hp] at q
  have q : (decide (p.2 = "") || decide (p.2 ∈ (cs.take i).map (·.1))) = true := q
  rw [Bool.or_eq_true] at q
  exact q.imp of_decide_eq_true of_decide_eq_true
def earlyB (bk : List PartD) : Bool := (List.range bk.length).all fun i => match bk[i]? with
  | some p => (putsOf p.2).all fun z => decide (z ∈ (bk.take i).map (·.1))
  | none => true
theorem earlyB_ok {bk : List PartD} (h : earlyB bk = true) : Earlier bk := fun i p hp z hz => by
  have q := List.all_eq_true.mp h i (List.mem_range.mpr (List.getElem?_eq_some_iff.mp hp).1)
  rw [hp] at q
  have q : (putsOf p.2).all (fun z => decide (z ∈ (bk.take i).map (·.1))) = true := q
  exact of_decide_eq_true (List.all_eq_true.mp q z (mem_puts.mpr hz))
def csB (cs : List (Str × Str)) : Bool := (cs.all fun c => nameS c.1) && (decide ((cs.map (·.1)).Nodup) && (treeB cs && decide (cs.length ≤ 100)))
theorem csB_ok {cs : List (Str × Str)} (h : csB cs = true) : CsOk cs := by
  unfold csB at h
  rw [Bool.and_eq_true, Bool.and_eq_true, Bool.and_eq_true] at h
  obtain ⟨h1, h2, h3, h4⟩ := h
  exact ⟨fun c hc => List.all_eq_true.mp h1 c hc, of_decide_eq_true h2, treeB_ok h3, of_decide_eq_true h4⟩
def bookB (cs : List (Str × Str)) (bk : List PartD) : Bool := csB cs && (decide (bk ≠ []) && (decide ((bk.map (·.1)).Nodup) && (decide (bk.length ≤ 50) && ((bk.all fun p => nameS p.1 && (decide (p.2.length ≤ 100) && p.2.all rowB)) &&
  ((bk.all fun p => (p.2.filterMap cntOf).all fun c => decide (c ∈ cs.map (·.1))) && (earlyB bk && ((knowns bk).all (fun x => decide (x.2.length ≤ 4000)) && ((unrolled bk).filterMap refOf).all fun l => (unrolled bk).any fun r => labOf r == some l)))))))
theorem bookB_ok {cs : List (Str × Str)} {bk : List PartD} (h : bookB cs bk = true) : BookV cs bk ∧ ∀ p ∈ bk, nameS p.1 = true := by
  unfold bookB at h
  simp only [Bool.and_eq_true] at h
  obtain ⟨h1, h2, h3, h4, h5, h6, h7, h8, h9⟩ := h
  have rows : ∀ p ∈ bk, nameS p.1 = true ∧ p.2.length ≤ 100 ∧ ∀ r ∈ p.2, rowValid r := fun p hp => by
    have q := List.all_eq_true.mp h5 p hp
    simp only [Bool.and_eq_true] at q
    exact ⟨q.1, of_decide_eq_true q.2.1, fun r hr => rowB_ok (List.all_eq_true.mp q.2.2 r hr)⟩
  refine ⟨{ c := csB_ok h1, b0 := of_decide_eq_true h2, nd := of_decide_eq_true h3, len := of_decide_eq_true h4, rows := fun p hp => ⟨Nat.le_trans (name_ok (rows p hp).1).2 (by decide), (rows p hp).2⟩, cnt := fun p hp r hr c hc => ?_, puts := earlyB_ok h7, small := fun z rs hz => of_decide_eq_true (List.all_eq_true.mp h8 (z, rs) hz), refs := fun l hl => ?_ }, fun p hp => (rows p hp).1⟩
  · exact of_decide_eq_true (List.all_eq_true.mp (List.all_eq_true.mp h6 p hp) c (List.mem_filterMap.mpr ⟨r, hr, hc⟩))
  · have q := List.all_eq_true.mp h9 l (List.mem_filterMap.mpr ⟨.ref l, hl, rfl⟩)
    obtain ⟨r, hr, e⟩ := List.any_eq_true.mp q
    cases r with
    | note c z =>
      have e : (some z == some l) = true := e
      rw [beq_iff_eq] at e
      cases e
      exact ⟨c, hr⟩
    | _ => cases e
end Pn

namespace Pn
open PySem PySem.Spec PyProof.Rows L2
/-! ### comprehensions that make objects; what stands although lists change -/
def SameN (H H' : Hp) : Prop := ∀ a o, H a = some o → (∀ xs, o ≠ HO.lst xs) → H' a = some o
theorem SameN.of {H H' : Hp} (s : Same H H') : SameN H H' := fun a o e _ => s a o e
theorem SameN.trans {H H1 H2 : Hp} (s : SameN H H1) (t : SameN H1 H2) : SameN H H2 := fun a o e n => t a o (s a o e n) n
theorem SameN.upd {H : Hp} {D : Addr} {xs : List V} {o : HO} (h : H D = some (.lst xs)) : SameN H (upd H D o) := fun a u e n => by
  rw [upd_ne (fun z => by rw [z, h] at e; cases e; exact n _ rfl)]
  exact e
theorem paired_cat {α β : Type} {R : α → β → Prop} {l2 : List α} {m2 : List β} (h2 : Paired R l2 m2) : ∀ {l : List α} {m : List β}, Paired R l m → Paired R (l ++ l2) (m ++ m2)
  | _, _, .nil => h2
  | _, _, .cons a b => .cons a (paired_cat h2 b)
theorem lcw_objs {K : PySem.W.Frag} {tl : TE} {g : TG} {tt : TT} {te : TE} {vs : List Nat} {σ : L2.St} {H : Hp} {Q : VK} {p : Addr} {xs : List V} {α : Type} {R : Hp → Addr → α → Prop} {cs : List α} (hR : ∀ {H H' : Hp} {t : Addr} {c : α}, SameN H H' → R H t c → R H' t c)
    (h0 : ∀ R : VK, R (.ref p) H → tl σ H R) (hp : SqL K H p xs) (hl : xs.length ≤ 1000) (hc : xs.length = cs.length)
    (turn : ∀ (i : Nat) (x : V) (c : α) (Hi : Hp) (S : Hp → Prop) (Y : VK), xs[i]? = some x → cs[i]? = some c → Same H Hi → (∀ t H', Same Hi H' → R H' t c → Y (.ref t) H') → g x (wipe σ vs) Hi fun σ2 H2 => wipe σ2 vs = wipe σ vs ∧ tt σ2 H2 fun b H3 => if b = true then te σ2 H3 Y else S H3)
    (fin : ∀ (D : Addr) (H' : Hp) (ts : List Addr), H D = none → Same H H' → H' D = some (.lst (ts.map V.ref)) → Paired (R H') ts cs → Q (.ref D) H') : tLc (iList K tl) g tt te vs σ H Q := by
  refine h0 _ ⟨p, rfl, ⟨_, hp⟩, fun D hD => lc_list (xs := xs) (fun i Hi => Same H Hi ∧ ∃ ts : List Addr, Hi D = some (.lst (ts.map V.ref)) ∧ ts.length ≤ i ∧ Paired (R Hi) ts (cs.take i)) ⟨Same.new hD, [], upd_same, Nat.le_refl _, .nil⟩ (fun _ _ _ hP => hP.1.seq hp) (fun i x Hi hx hP => ?_) (fun Hi hP => ?_)⟩
  · obtain ⟨s, ts, hd, hn, pd⟩ := hP
    have hi : i < xs.length := (List.getElem?_eq_some_iff.mp hx).1
    have hi2 : i < cs.length := by omega
    have hc2 : cs[i]? = some cs[i] := List.getElem?_eq_getElem hi2
    refine turn i x _ Hi _ _ hx hc2 s fun t H' s' r => ⟨_, s' _ _ hd, small1000 (by rw [List.length_map]; omega), (fun a o e => ?_), ts ++ [t], by rw [upd_same, List.map_append]; rfl, by rw [List.length_append]; exact Nat.add_le_add_right hn 1, ?_⟩
    · rw [upd_ne (ne_of_none e hD)]
      exact s' _ _ (s _ _ e)
    · have n2 : SameN H' (upd H' D (.lst (ts.map V.ref ++ [V.ref t]))) := SameN.upd (s' _ _ hd)
      rw [List.take_add_one, hc2]
      exact paired_snoc (hR n2 r) (paired_mono (fun _ _ z => hR ((SameN.of s').trans n2) z) pd)
  · obtain ⟨s, ts, hd, _, pd⟩ := hP
    rw [hc, List.take_length] at pd
    exact fin D Hi ts hD s hd pd
end Pn

namespace Pn
open PySem L2 TL
abbrev sIsPairF : Stmt := top 8
abbrev sAreFill : Stmt := top 63
abbrev sIsFilled : Stmt := top 64
/-! ### which values can stand in a filling -/
def fillB : RowD → Bool
  | .skip _ _ => true
  | .set _ _ => true
  | _ => false
def pairD : PyData → Bool
  | .tuple [_, _] => true
  | _ => false
def tupT : PyData → Bool
  | .tuple _ => true
  | _ => false
theorem kit_tupT : ∀ d : PyData, kitB (tyD d) "tuple" = some (tupT d)
  | .none => (by decide +kernel : kitB "NoneType" "tuple" = some false)
  | .bool _ => (by decide +kernel : kitB "bool" "tuple" = some false)
  | .int _ => (by decide +kernel : kitB "int" "tuple" = some false)
  | .str _ => (by decide +kernel : kitB "str" "tuple" = some false)
  | .list _ => (by decide +kernel : kitB "list" "tuple" = some false)
  | .tuple _ => (by decide +kernel : kitB "tuple" "tuple" = some true)
  | .dict _ => (by decide +kernel : kitB "dict" "tuple" = some false)
theorem dpAll_len {K : PySem.W.Frag} {H : Hp} : ∀ {vs : List V} {ds : List PyData}, DpAll K H vs ds → vs.length = ds.length
  | _, _, .nil => rfl
  | _, _, .cons _ b => congrArg Nat.succ (dpAll_len b)
theorem pair_len (ds : List PyData) : pairD (.tuple ds) = decide ((ds.length : Int) = 2) := by
  match ds with
  | [] => rfl
  | [_] => rfl
  | [_, _] => rfl
  | _ :: _ :: _ :: l =>
    show false = _
    refine (decide_eq_false fun z => ?_).symm
    simp only [List.length_cons] at z
    omega
section
variable {P : Program} {w : World} {K : PySem.W.Frag} {mg : Str → Option Value} {base : Heap}
/-- a row that can stand in a filling, another row, or data -/
def FillFlag (R : TRows K mg) (H : Hp) (x : V) (b : Bool) : Prop := (∃ a r, x = .ref a ∧ RowAt R H a r ∧ b = fillB r) ∨ (b = false ∧ ∃ d, Dp K H x d)
theorem FillFlag.same {R : TRows K mg} {H H' : Hp} {x : V} {b : Bool} (h : FillFlag R H x b) (s : Same H H') : FillFlag R H' x b := by
  rcases h with ⟨a, r, ex, h, e⟩ | ⟨e, d, h⟩
  · exact .inl ⟨a, r, ex, h.same s, e⟩
  · exact .inr ⟨e, d, dp_same s d x h⟩
structure TFil {K : PySem.W.Frag} {mg : Str → Option Value} (R : TRows K mg) : Type where
  kF : ∀ r, PySem.W.kitAny K (.ref (clsOf R r)) [.ref R.skip.C, .ref R.set.C] = some (fillB r)
  kD : ∀ d : PyData, PySem.W.kitAny K (.type (tyD d)) [.ref R.skip.C, .ref R.set.C] = some false
  kS : ∀ r, PySem.W.kitAny K (.ref (clsOf R r)) [.type "list", .type "tuple"] = some false
  cA : ∀ r, PySem.W.findIn K (.ref (clsOf R r)) "__class__" = some (some (.builtin "object.__class__"))
  cN : PySem.W.specialIn K (.builtin "object.__class__") "__get__" = some (some (.builtin "getset_descriptor.__get__"))
  cT : PySem.W.takesIn K (.builtin "object.__class__") = some true
  cM : ∀ r, PySem.W.mroIn K (clsOf R r) (.type "object") = some true
  mList : mg "list" = none
  mTup : mg "tuple" = none
  isSeq : At K mg "is_sequence" sIsSeq ["value"]
  isPair : At K mg "is_pair" sIsPairF ["value"]
  areF : At K mg "are_fillable" sAreFill ["rows"]
  isF : At K mg "is_filled" sIsFilled ["value"]
theorem row_ty {R : TRows K mg} (T : TFil R) {H : Hp} {a : Addr} {r : RowD} (h : RowAt R H a r) : TyX K H (.ref a) (.ref (clsOf R r)) := by
  obtain ⟨dy, h⟩ := h
  obtain ⟨gs, eg⟩ := insRow_ins R dy r
  rw [eg] at h
  exact .base (.ins h (cls_of R r) (T.cA r) T.cN T.cT (T.cM r))
theorem fill_kit {R : TRows K mg} (T : TFil R) {H : Hp} {x : V} {b : Bool} (h : FillFlag R H x b) : ∃ t, TyX K H x t ∧ PySem.W.kitAny K t [.ref R.skip.C, .ref R.set.C] = some b := by
  rcases h with ⟨a, r, rfl, h, rfl⟩ | ⟨rfl, d, h⟩
  · exact ⟨_, row_ty T h, T.kF r⟩
  · exact ⟨_, dp_ty h, T.kD d⟩
/-- what stands as rows: no sequence, or one of so many things -/
def FRows (R : TRows K mg) (H : Hp) (u : V) : Option (List V × List Bool) → Prop
  | none => (∃ d, Dp K H u d ∧ seqD d = false) ∨ ∃ a r, u = .ref a ∧ RowAt R H a r
  | some (xs, bs) => ∃ p, u = .ref p ∧ (SqL K H p xs ∨ SqT K H p xs) ∧ Paired (FillFlag R H) xs bs ∧ xs.length ≤ 1000
theorem FRows.same {R : TRows K mg} {H H' : Hp} {u : V} {o : Option (List V × List Bool)} (h : FRows R H u o) (s : Same H H') : FRows R H' u o := by
  cases o with
  | none =>
    rcases h with ⟨d, h, e⟩ | ⟨a, r, e, h⟩
    · exact .inl ⟨d, dp_same s d u h, e⟩
    · exact .inr ⟨a, r, e, h.same s⟩
  | some o =>
    obtain ⟨p, e, h, hp, hl⟩ := h
    exact ⟨p, e, h.elim (fun h => .inl (s.seq h)) (fun h => .inr (Same.sqt s h)), paired_mono (fun _ _ z => z.same s) hp, hl⟩
def argF : Option (List V × List Bool) → Bool
  | none => false
  | some (_, bs) => bs.all id
def spAreFill (R : TRows K mg) : Sp := fun vs H Q _ => ∃ (u : V) (o : Option (List V × List Bool)), vs = [u] ∧ FRows R H u o ∧ ∀ H', Same H H' → Q (.bl (argF o)) H'
theorem scAreFill : FnScope ["rows", "row"] ["rows"] (defScope sAreFill) := ⟨rfl, rfl, rfl, by decide +kernel, rfl, by decide +kernel, by decide +kernel⟩
theorem ok_areFill {R : TRows K mg} (T : TFil R) : FnOk P w K mg base CX0 2 T.areF.f T.areF.fd ["rows"] (spAreFill R) := by
  refine T.areF.F.ok scAreFill (fun vs H Q E h => ?_) (fun cdv A outer s H vs Q E hr h => ?_)
  · obtain ⟨u, o, rfl, _⟩ := h
    rfl
  · obtain ⟨u, o, rfl, ha, q⟩ := h
    refine ⟨_, pss_one (ps_ret (pe_and (pe_call (ok_isSeq T.isSeq.F R.N.mIsi T.mList T.mTup) (hr.mono (by decide)) rfl T.isSeq.m T.isSeq.F.kp T.isSeq.b .nil pass0 (pa_cons (pv 0) pa_nil))
      (pe_one (pe_callB (cr_all rfl) (by rfl) R.N.mAll (by decide +kernel) (pa_cons (pe_lc (own := [("row", 1)]) (g := gName 1) (tt := tYes) (by rfl) scAreFill.nd (pi_seq (pv 0))
            (blkOk_by (N := ["rows", "row"]) (sc := defScope sAreFill) (by decide +kernel)) (fun _ _ _ _ _ => pg_name (i := 1) scAreFill.nd rfl (Or.inl rfl)) (fun _ _ _ _ _ => pts_nil)
            (fun _ _ _ _ _ => pe_callB (show CallR _ (.builtin "isinstance") (rIsiT K) from call_isiT) (by rfl) R.N.mIsi (by decide +kernel) (pa_cons (pv 1) (pa_cons (pe_tup (pa_cons (pe_glob (v := .ref R.skip.C) (by rfl) R.skip.m rfl) (pa_cons (pe_glob (v := .ref R.set.C) (by rfl) R.set.m rfl) pa_nil))) pa_nil)))) pa_nil))))), ?_⟩
    cases o with
    | none =>
      have key : ∃ t, PySem.W.kitAny K t [.type "list", .type "tuple"] = some false ∧ TyX K H u t ∧ ∀ H', Same H H' → TyX K H' u t := by
        rcases ha with ⟨d, hd, hs⟩ | ⟨a, r, rfl, h⟩
        · exact ⟨_, by rw [kit_seq, hs], dp_ty hd, fun H' s' => dp_ty (dp_same s' d u hd)⟩
        · exact ⟨_, T.kS r, row_ty T h, fun H' s' => row_ty T (h.same s')⟩
      obtain ⟨t, k1, k2, k3⟩ := key
      refine ⟨_, rfl, u, t, false, rfl, k2, k1, k3, fun H1 s1 m1 => ⟨false, rfl, ?_⟩⟩
      exact q _ s1
    | some o =>
      obtain ⟨xs, bs⟩ := o
      obtain ⟨p, rfl, hp, hpd, hxl⟩ := ha
      have htk : ∃ t, PySem.W.kitAny K t [.type "list", .type "tuple"] = some true ∧ TyX K H (.ref p) t ∧ ∀ H', Same H H' → TyX K H' (.ref p) t := by
        rcases hp with hp | hp
        · exact ⟨_, kit_two (by decide +kernel : kitB "list" "list" = some true) (by decide +kernel : kitB "list" "tuple" = some false), sql_ty hp, fun H' s' => sql_ty (s'.seq hp)⟩
        · exact ⟨_, kit_two (by decide +kernel : kitB "tuple" "list" = some false) (by decide +kernel : kitB "tuple" "tuple" = some true), sqt_ty hp, fun H' s' => sqt_ty (Same.sqt s' hp)⟩
      obtain ⟨t, hk, ht1, ht2⟩ := htk
      refine ⟨_, rfl, _, t, true, rfl, ht1, hk, ht2, fun H2 hs2 hm2 => ⟨true, rfl, ?_⟩⟩
      have hp2 : SqL K H2 p xs ∨ SqT K H2 p xs := hp.elim (fun h => .inl (hs2.seq h)) (fun h => .inr (Same.sqt hs2 h))
      have hpd2 := paired_mono (fun _ _ z => z.same hs2) hpd
      have hbl : xs.length = bs.length := paired_len hpd
      refine iteT ?_
      dsimp only [tCB, tCons, tNil]
      have two : 2 ≤ sizeLine := by decide
      refine lcw_seq (K := K) (tl := tVar 0) (p := p) (xs := xs) (out := fun i => (bs[i]?).map V.bl) ?h0 hp2 (Nat.le_trans hxl (by decide)) ?tn ?fn
      case h0 => exact fun R z => ⟨_, rfl, z⟩
      case tn =>
        intro m x Hi S Y hx sI h0 h1
        obtain ⟨b, hb, hfl⟩ := paired_at hpd2 hx
        have hfi := hfl.same sI
        refine ⟨rfl, _, rfl, two, fun t ht => ?_⟩
        obtain ⟨ty, hty, hkt⟩ := fill_kit T (hfi.same (Same.new (o := .tup [.ref R.skip.C, .ref R.set.C]) ht))
        exact ⟨x, t, _, ty, _, b, rfl, upd_same, .cons (.own _) (.cons (.own _) .nil), hty, hkt, h1 (.bl b) (by show Option.map V.bl bs[m]? = _; rw [hb]; rfl) _ (Same.new ht)⟩
      case fn =>
        intro D H3 hD s3 h3
        have eo : (List.range xs.length).filterMap (fun i => (bs[i]?).map V.bl) = bs.map V.bl := by
          rw [hbl]
          exact out_map (l := bs) (f := V.bl)
        rw [eo] at h3
        exact ⟨D, bs, rfl, SqL.of h3, q _ (hs2.trans s3)⟩
/-- a pair of a name and rows, or none -/
def FillE (R : TRows K mg) (H : Hp) (v : V) (b : Bool) : Prop := (b = false ∧ ∃ d, Dp K H v d ∧ pairD d = false) ∨
  ∃ (t : Addr) (y u : V) (e : PyData) (o : Option (List V × List Bool)), v = .ref t ∧ SqT K H t [y, u] ∧ Dp K H y e ∧ dlen e ∧ (nameD e = false ∧ b = false ∨ nameD e = true ∧ FRows R H u o ∧ b = argF o)
theorem FillE.same {R : TRows K mg} {H H' : Hp} {v : V} {b : Bool} (h : FillE R H v b) (s : Same H H') : FillE R H' v b := by
  rcases h with ⟨e, d, h, hp⟩ | ⟨t, y, u, e, o, ev, ht, hy, hl, h⟩
  · exact .inl ⟨e, d, dp_same s d v h, hp⟩
  · exact .inr ⟨t, y, u, e, o, ev, Same.sqt s ht, dp_same s e y hy, hl, h.imp id fun ⟨a, b, c⟩ => ⟨a, b.same s, c⟩⟩
def spIsPairF (K : PySem.W.Frag) : Sp := fun vs H Q _ => ∃ (v : V) (b : Bool), vs = [v] ∧ ((∃ d, Dp K H v d ∧ pairD d = b) ∨ (b = true ∧ ∃ t y u, v = .ref t ∧ SqT K H t [y, u])) ∧ Q (.bl b) H
theorem scIsPairF : FnScope ["value"] ["value"] (defScope sIsPairF) := ⟨rfl, rfl, rfl, by decide +kernel, rfl, by decide +kernel, by decide +kernel⟩
theorem ok_isPairF {R : TRows K mg} (T : TFil R) : FnOk P w K mg base CX0 1 T.isPair.f T.isPair.fd ["value"] (spIsPairF K) := by
  refine T.isPair.F.ok scIsPairF (fun vs H Q E h => ?_) (fun cdv A outer s H vs Q E hr h => ?_)
  · obtain ⟨v, b, rfl, _⟩ := h
    rfl
  · obtain ⟨v, b, rfl, hd, q⟩ := h
    refine ⟨_, pss_one (ps_ret (pe_and (pe_callB call_isi (by rfl) R.N.mIsi (by decide +kernel) (pa_cons (pv 0) (pa_cons (pe_bltn (v := .ty "tuple") (by rfl) T.mTup (by decide +kernel) rfl) pa_nil)))
      (pe_one (pe_cmpR op_eq (pe_callB call_len_seq (by rfl) R.N.mLen PySem.boot_len (pa_cons (pv 0) pa_nil)) pe_int (nomark _))))), ?_⟩
    have eqi : ∀ n : Int, decide (V.int n = V.int 2) = decide (n = 2) := fun n => decide_eq_decide.mpr ⟨fun z => V.int.inj z, fun z => congrArg V.int z⟩
    rcases hd with ⟨d, hd, rfl⟩ | ⟨rfl, t, y, u, rfl, ht⟩
    · refine ⟨_, rfl, v, .ty "tuple", _, _, tupT d, rfl, .ty _, dp_ty hd, kit_ty (kit_tupT d), _, rfl, ?_⟩
      cases d with
      | none => exact q
      | str z => exact q
      | list ds => exact q
      | dict ds => exact q
      | int i => exact q
      | bool i => exact q
      | tuple ds =>
        refine iteT ?_
        cases hd with
        | tup s a =>
          refine ⟨_, rfl, _, _, rfl, .inr s, rfl, ?_⟩
          rw [pair_len, ← dpAll_len a] at q
          show Q (V.bl (decide (V.int _ = V.int 2))) H
          rw [eqi]
          exact q
    · refine ⟨_, rfl, _, .ty "tuple", _, _, true, rfl, .ty _, sqt_ty ht, kit_ty (by decide +kernel : kitB "tuple" "tuple" = some true), _, rfl, iteT ?_⟩
      refine ⟨_, rfl, _, _, rfl, .inr ht, rfl, ?_⟩
      exact q
def spIsFilled (R : TRows K mg) : Sp := fun vs H Q _ => ∃ (v : V) (b : Bool), vs = [v] ∧ FillE R H v b ∧ ∀ H', Same H H' → Q (.bl b) H'
theorem scIsFilled : FnScope ["value"] ["value"] (defScope sIsFilled) := ⟨rfl, rfl, rfl, by decide +kernel, rfl, by decide +kernel, by decide +kernel⟩
theorem ok_isFilled {R : TRows K mg} (T : TFil R) : FnOk P w K mg base CX0 3 T.isF.f T.isF.fd ["value"] (spIsFilled R) := by
  refine T.isF.F.ok scIsFilled (fun vs H Q E h => ?_) (fun cdv A outer s H vs Q E hr h => ?_)
  · obtain ⟨v, b, rfl, _⟩ := h
    rfl
  · obtain ⟨v, b, rfl, hv, q⟩ := h
    refine ⟨_, pss_one (ps_ret (pe_and (pe_call (ok_isPairF T) (hr.mono (by decide)) rfl T.isPair.m T.isPair.F.kp T.isPair.b .nil pass0 (pa_cons (pv 0) pa_nil))
      (pe_and (pe_call R.N.okName (hr.mono (by decide)) rfl R.N.isName.m R.N.isName.F.kp R.N.isName.b .nil pass0 (pa_cons (pe_ix ix_tup (pv 0) pe_int (fun _ _ => rfl)) pa_nil))
      (pe_one (pe_call (ok_areFill T) (hr.mono (by decide)) rfl T.areF.m T.areF.F.kp T.areF.b .nil pass0 (pa_cons (pe_ix ix_tup (pv 0) pe_int (fun _ _ => rfl)) pa_nil)))))), ?_⟩
    rcases hv with ⟨rfl, d, hd, hp⟩ | ⟨t, y, u, e, o, rfl, ht, hy, hl, h⟩
    · refine ⟨_, rfl, v, false, rfl, .inl ⟨d, hd, hp⟩, false, rfl, ?_⟩
      exact q _ (Same.refl _)
    · refine ⟨_, rfl, _, true, rfl, .inr ⟨rfl, t, y, u, rfl, ht⟩, true, rfl, iteT ?_⟩
      refine ⟨_, rfl, t, _, _, y, rfl, rfl, ht, atI_nat (j := 0) rfl, y, e, rfl, hy, hl, fun H1 s1 m1 => ⟨nameD e, rfl, ?_⟩⟩
      rcases h with ⟨hn, rfl⟩ | ⟨hn, hr2, rfl⟩
      · rw [hn]
        exact q _ s1
      · rw [hn]
        refine iteT ?_
        exact ⟨_, rfl, t, _, _, u, rfl, rfl, Same.sqt s1 ht, atI_nat (j := 1) rfl, u, o, rfl, hr2.same s1, fun H2 s2 => q _ (s1.trans s2)⟩
end
end Pn

namespace Pn
open PySem PySem.Spec PyProof.Rows L2 TL
abbrev sFInit : Stmt := inClass (top 66) 0
abbrev sIFInit : Stmt := inClass (top 15) 0
/-! ### Filling.__init__: what is made, what is refused -/
def rLenSq (K : PySem.W.Frag) : List V → Hp → VK → Prop := fun xs H Q => ∃ (p : Addr) (ys : List V), xs = [.ref p] ∧ (SqL K H p ys ∨ SqT K H p ys) ∧ Q (.int ys.length) H
theorem call_len_sq {X : Cx} : CallR X (.builtin "len") (rLenSq X.K) := call_len_seq
def rTupO (K : PySem.W.Frag) : List V → Hp → VK → Prop := fun xs H Q => ∃ (p : Addr) (ys : List V), xs = [.ref p] ∧ ((SqL K H p ys ∧ ∀ l, H l = none → Q (.ref l) (upd H l (.tup ys))) ∨ (SqT K H p ys ∧ Q (.ref p) H))
theorem call_tupO {X : Cx} : CallR X (.type "tuple") (rTupO X.K) := call_tuple_of
/-- the empty tuple that stands in the written part, and keeps no own attributes -/
def TupB (K : PySem.W.Frag) (a : Addr) : Prop := ∃ (o : Obj) (n : Nat), K.lookup a = some o ∧ o.cls = .type "tuple" ∧ o.dict = none ∧ o.data = .seq #[] n
theorem TupB.sqt {K : PySem.W.Frag} {H : Hp} {a : Addr} (h : TupB K a) : SqT K H a [] := by
  obtain ⟨o, n, hk, hc, _, hd⟩ := h
  exact .inr ⟨o, #[], n, hk, hc, hd, Nat.zero_le _, .nil⟩
/-- a tuple to make a dict of -/
def TupY (K : PySem.W.Frag) (H : Hp) (a : Addr) (xs : List V) : Prop := TupX H a xs ∨ (TupB K a ∧ xs = [])
theorem TupY.sqt {K : PySem.W.Frag} {H : Hp} {a : Addr} {xs : List V} (h : TupY K H a xs) : SqT K H a xs := by
  rcases h with h | ⟨h, rfl⟩
  · exact h.sqt
  · exact h.sqt
theorem TupY.same {K : PySem.W.Frag} {H H' : Hp} {a : Addr} {xs : List V} (h : TupY K H a xs) (s : Same H H') : TupY K H' a xs := h.imp (fun z => z.same s) id
theorem cr_dictB {X : Cx} (hc : X.calm = true) : CallR X (.type "dict") (fun xs H Q => ∃ a : Addr, xs = [.ref a] ∧ TupB X.K a ∧ ∀ p, H p = none → Q (.ref p) (upd H p (.dK []))) := by
  rintro pins s σ H xs us Q I r ⟨a, rfl, ⟨o, n, hk, hcl, hod, hdat⟩, q⟩
  obtain ⟨u, rfl, rx⟩ := vals1 r
  cases rx
  have ho := I.kIn a o hk
  refine PySem.call_dict_pairs (knd := mixKind X.prog X.w) (kvs := []) (PairArg.tuple a #[] (fun _ => 0) []) (I.ok.hd hc) ⟨⟨o, n, ho, hcl, hod, hdat⟩, rfl, fun j k v e => nomatch e⟩ ⟨rfl, fun i key v e => nomatch e⟩ (Nat.zero_le _) fun h' tk hd' k => ?_
  have hm : (s.heap.objs.size == sysModules) = false := beq_eq_false_iff_ne.mpr (Nat.ne_of_gt I.big)
  exact ⟨.ref s.heap.objs.size, _, I.laid (t' := tk) (fun b ob e => k b ob (by simp) e) (Nat.le_refl _) (show ObjOk X.prog X.w _ _ _ (.dK []) from ⟨Nat.zero_le _, hm, merged [] [], .nil, hd'⟩), rfl, q _ (I.hok.fresh (Nat.le_refl _))⟩
def rDictX2 (K : PySem.W.Frag) : List V → Hp → VK → Prop := fun xs H Q => ∃ (a : Addr) (ps : List Addr) (kvs : List (Key × V)), xs = [.ref a] ∧ (SqL K H a (ps.map V.ref) ∨ TupY K H a (ps.map V.ref)) ∧ Paired (fun p kv => SqT K H p [kV kv.1, kv.2]) ps kvs ∧
  ∀ p, H p = none → Q (.ref p) (upd H p (.dK (mergeK [] kvs)))
theorem cr_dictX2 {X : Cx} (hc : X.calm = true) : CallR X (.type "dict") (rDictX2 X.K) := by
  rintro pins s σ H xs us Q I r ⟨a, ps, kvs, rfl, hq | hq | ⟨hq, hz⟩, hp, q⟩
  · exact call_dictP hc pins s σ H _ us Q I r ⟨a, ps, kvs, rfl, hq, hp, q⟩
  · exact cr_dictX hc pins s σ H _ us Q I r ⟨a, ps, kvs, rfl, hq, hp, q⟩
  · have pz : ps = [] := List.map_eq_nil_iff.mp hz
    subst pz
    cases hp
    exact cr_dictB hc pins s σ H _ us Q I r ⟨a, rfl, hq, q⟩
theorem roomV {k : Nat} {A : Around} (r : Room k A) : A.units + 1 < PySem.cLine := by have := r.un; omega
/-- raised, from a heap on -/
def RaiseF (C : Addr) (H : Hp) (E : XK) (wd : V) : Prop := ∀ (e : Addr) (H' : Hp), Same H H' → H' e = some (.xd [("word", wd)]) → E (.ref C) (some e) H'
theorem if_made {C : Addr} {H H1 : Hp} {E : XK} {wd : V} (s : Same H H1) (h : RaiseF C H E wd) {a : Addr} (ha : H1 a = none) (dx : Addr) (h1 : (upd H1 a (exo a C none)) dx = none) (h2 : dx ≠ a) :
    E (.ref C) (some dx) (upd (del (upd (upd (upd H1 a (exo a C none)) dx (exd dx [("word", wd)])) a (exo a C (some dx))) a) dx (.xd [("word", wd)])) :=
  h dx _ (s.trans (same_made ha (by rw [upd_ne h2] at h1; exact h1))) upd_same
/-- a name, where its rows stand, the rows -/
abbrev FilD := Str × Addr × List RowD
section
variable {P : Program} {w : World} {K : PySem.W.Frag} {mg : Str → Option Value} {base : Heap}
theorem scIFInit : FnScope ["self", "word"] ["self", "word"] (defScope sIFInit) := ⟨rfl, rfl, rfl, by decide +kernel, rfl, by decide +kernel, by decide +kernel⟩
theorem okIFInit (T : TExc K mg "InvalidFilling" "InvalidFilling.__init__" "word" sIFInit) : FnOk P w K mg base CX0 1 T.fI T.fd ["self", "word"] (spXInit K "word") := by
  refine T.F.ok scIFInit (fun vs H Q E h => ?_) (fun cdv A outer s H vs Q E hr h => ?_)
  · obtain ⟨a, C, v, rfl, _⟩ := h
    rfl
  · obtain ⟨a, C, v, rfl, ha, O, no, q⟩ := h
    refine ⟨_, pss_one (ps_ost (pv 0) (pv 1)), ?_⟩
    exact ⟨_, rfl, _, rfl, a, C, rfl, O, no, .inl ⟨ha, fun dx h1 h2 => q dx h1 h2⟩⟩
structure TFill {K : PySem.W.Frag} {mg : Str → Option Value} (R : TRows K mg) : Type extends TFil R where
  mSet : mg "set" = none
  mSorted : mg "sorted" = none
  mDict : mg "dict" = none
  IF : TExc K mg "InvalidFilling" "InvalidFilling.__init__" "word" sIFInit
  C : Addr
  mC : mg "Filling" = some (.ref C)
  fI : Addr
  fdI : FuncData
  dP : Addr
  hP : ∀ H, SqT K H dP []
  FI : FunD K "__init__" "Filling.__init__" (defArgs sFInit) (defBody sFInit) (defScope sFInit) [.ref dP] [] fI fdI
  bI : Binds K fdI ["self", "parts"] []
  M : Mk K C fI
  cl : Cls K C
  noF : NoAttr K C "filled"
/-- rows as they stand: a list or a tuple of rows that can stand in a filling -/
def FRowsAt (R : TRows K mg) (H : Hp) (q : Addr) (us : List Addr) (rs : List RowD) : Prop := (SqL K H q (us.map V.ref) ∨ SqT K H q (us.map V.ref)) ∧ Paired (fun u r => RowAt R H u r) us rs ∧ (∀ r ∈ rs, fillB r = true) ∧ rs.length ≤ 1000
theorem FRowsAt.same {R : TRows K mg} {H H' : Hp} {q : Addr} {us : List Addr} {rs : List RowD} (h : FRowsAt R H q us rs) (s : Same H H') : FRowsAt R H' q us rs := by
  obtain ⟨a, b, c⟩ := h
  exact ⟨a.elim (fun h => .inl (s.seq h)) (fun h => .inr (Same.sqt s h)), paired_mono (fun _ _ z => z.same s) b, c⟩
/-- a good pair -/
def FPair (R : TRows K mg) (H : Hp) (t : Addr) (c : FilD) : Prop := SqT K H t [.str c.1, .ref c.2.1] ∧ nameS c.1 = true ∧ ∃ us, FRowsAt R H c.2.1 us c.2.2
theorem FPair.same {R : TRows K mg} {H H' : Hp} {t : Addr} {c : FilD} (h : FPair R H t c) (s : Same H H') : FPair R H' t c := by
  obtain ⟨a, b, us, d⟩ := h
  exact ⟨Same.sqt s a, b, us, d.same s⟩
theorem flags_all {R : TRows K mg} {H : Hp} : ∀ {us : List Addr} {rs : List RowD}, Paired (fun u r => RowAt R H u r) us rs → (∀ r ∈ rs, fillB r = true) → Paired (FillFlag R H) (us.map V.ref) (rs.map fun _ => true)
  | _, _, .nil, _ => .nil
  | _, _, .cons a b, h => .cons (.inl ⟨_, _, rfl, a, (h _ List.mem_cons_self).symm⟩) (flags_all b fun r hr => h r (List.mem_cons_of_mem _ hr))
theorem FPair.fillE {R : TRows K mg} {H : Hp} {t : Addr} {c : FilD} (h : FPair R H t c) : FillE R H (.ref t) true := by
  obtain ⟨a, b, us, d, e, f, g⟩ := h
  refine .inr ⟨t, .str c.1, .ref c.2.1, .str c.1, some (us.map V.ref, c.2.2.map fun _ => true), rfl, a, .str _, ?_, .inr ⟨b, ⟨c.2.1, rfl, d, flags_all e f, by rw [List.length_map, paired_len e]; exact g⟩, ?_⟩⟩
  · show c.1.length ≤ 900
    exact Nat.le_trans (name_ok b).2 (by decide)
  · show true = (c.2.2.map fun _ => true).all id
    symm
    rw [List.all_eq_true]
    intro x hx
    obtain ⟨_, _, rfl⟩ := List.mem_map.mp hx
    rfl
/-- what is no sequence -/
def NoSq (K : PySem.W.Frag) (H : Hp) (v : V) : Prop := ∃ t, TyX K H v t ∧ PySem.W.kitAny K t [.type "list", .type "tuple"] = some false ∧ ∀ H', Same H H' → TyX K H' v t
/-- what a filling keeps -/
def FilAt (R : TRows K mg) (H : Hp) (tp : Addr) (cs : List FilD) : Prop := ∃ (ps : List Addr) (ys : List Str), SqT K H tp (ps.map V.ref) ∧ ys.Perm (uniq ((cs.filter fun c => decide (c.2.2 ≠ [])).map (·.1))) ∧ sortedS ys = true ∧
  Paired (fun p y => ∃ (c : FilD) (q : Addr) (us : List Addr), c ∈ cs ∧ c.1 = y ∧ SqT K H p [.str y, .ref q] ∧ SqT K H q (us.map V.ref) ∧ Paired (fun u r => RowAt R H u r) us c.2.2 ∧ ∀ r ∈ c.2.2, fillB r = true) ps ys
def insFil (C dx : Addr) (u : V) : HO := .ins C dx (putF "filled" u [])
def spFInit (R : TRows K mg) (C CF : Addr) : Sp := fun vs H Q E => ∃ (x dx : Addr) (v : V), vs = [.ref x, v] ∧ H x = some (.ins C dx []) ∧
  ((NoSq K H v ∧ RaiseF CF H E (.str "parts")) ∨
   (∃ (p : Addr) (xs : List V) (bs : List Bool), v = .ref p ∧ (SqL K H p xs ∨ SqT K H p xs) ∧ Paired (FillE R H) xs bs ∧ xs.length ≤ 1000 ∧ bs.all id = false ∧ RaiseF CF H E (.str "parts")) ∨
   (∃ (p : Addr) (ts : List Addr) (cs : List FilD), v = .ref p ∧ (SqL K H p (ts.map V.ref) ∨ SqT K H p (ts.map V.ref)) ∧ Paired (FPair R H) ts cs ∧ cs.length ≤ 60 ∧ ¬ (cs.map (·.1)).Nodup ∧ RaiseF CF H E (.str "name")) ∨
   (∃ (p : Addr) (ts : List Addr) (cs : List FilD), v = .ref p ∧ (SqL K H p (ts.map V.ref) ∨ TupY K H p (ts.map V.ref)) ∧ Paired (FPair R H) ts cs ∧ cs.length ≤ 60 ∧ (cs.map (·.1)).Nodup ∧
     ∀ (tp : Addr) (H' : Hp), KpI x H H' → FilAt R H' tp cs → H' x = some (insFil C dx (.ref tp)) → Q .non H'))
/-! ### names, each once -/
theorem sub_len {α : Type} [DecidableEq α] : ∀ {l m : List α}, l.Nodup → (∀ z ∈ l, z ∈ m) → l.length ≤ m.length
  | [], _, _, _ => Nat.zero_le _
  | a :: l, m, nd, h => by
    rw [List.nodup_cons] at nd
    have ha := h a List.mem_cons_self
    have q := sub_len (l := l) (m := m.erase a) nd.2 fun z hz => (List.mem_erase_of_ne (fun e => nd.1 (by rw [← e]; exact hz))).mpr (h z (List.mem_cons_of_mem _ hz))
    rw [List.length_erase_of_mem ha] at q
    have p := List.length_pos_of_mem ha
    rw [List.length_cons]
    omega
theorem uniq_all {l : List Str} (h : l.Nodup) : (uniq l).length = l.length := Nat.le_antisymm (uniq_len l) (sub_len h fun z hz => (uniq_has l z).mpr hz)
theorem uniq_less : ∀ {l : List Str}, ¬ l.Nodup → (uniq l).length < l.length
  | [], h => absurd List.nodup_nil h
  | a :: l, h => by
    rw [List.nodup_cons] at h
    by_cases ha : a ∈ l
    · refine Nat.lt_of_le_of_lt (sub_len (m := l) (uniq_nodup _) fun z hz => ?_) (Nat.lt_succ_self _)
      rcases List.mem_cons.mp ((uniq_has _ z).mp hz) with rfl | q
      · exact ha
      · exact q
    · have hl : ¬ l.Nodup := fun z => h ⟨ha, z⟩
      have ih := uniq_less hl
      have q := sub_len (m := a :: uniq l) (uniq_nodup (a :: l)) fun z hz => by
        rcases List.mem_cons.mp ((uniq_has _ z).mp hz) with rfl | q
        · exact List.mem_cons_self
        · exact List.mem_cons_of_mem _ ((uniq_has l z).mpr q)
      rw [List.length_cons] at q ⊢
      omega
theorem merge_outF {f : FilD → V} : ∀ {cs : List FilD} {kv : List (Key × V)} {z : Str}, z ∉ cs.map (·.1) → valV (mergeK kv (cs.map fun c => (Sum.inr c.1, f c))) (.inr z) = valV kv (.inr z)
  | [], kv, z, _ => rfl
  | c :: cs, kv, z, h => by
    have h1 : z ≠ c.1 := fun e => h (by rw [e]; exact List.mem_cons_self)
    have h2 : z ∉ cs.map (·.1) := fun e => h (List.mem_cons_of_mem _ e)
    show valV (mergeK (putK kv (.inr c.1) (f c)) (cs.map fun c => (Sum.inr c.1, f c))) (.inr z) = _
    rw [merge_outF h2, valV_put, if_neg (fun e => h1 (by injection e))]
theorem merge_inF {f : FilD → V} : ∀ {cs : List FilD} {kv : List (Key × V)} {c : FilD}, (cs.map (·.1)).Nodup → c ∈ cs → valV (mergeK kv (cs.map fun c => (Sum.inr c.1, f c))) (.inr c.1) = some (f c)
  | [], kv, c, _, h => by cases h
  | d :: cs, kv, c, nd, h => by
    rw [List.map_cons, List.nodup_cons] at nd
    show valV (mergeK (putK kv (.inr d.1) (f d)) (cs.map fun c => (Sum.inr c.1, f c))) (.inr c.1) = _
    rcases List.mem_cons.mp h with rfl | h
    · rw [merge_outF nd.1, valV_put, if_pos rfl]
    · exact merge_inF nd.2 h
/-- one if whose body is only a raise, told by a flag -/
theorem stepEither {tt : TT} {A C : TS} {D : Ends} {σ : L2.St} {H : Hp} (b : Bool) (G : Hp → Prop) (h1 : ∀ Q : Bool → Hp → Prop, (∀ H', G H' → Q b H') → tt σ H Q) (hT : b = true → ∀ H', G H' → A { D with nx := C D } σ H') (hF : b = false → ∀ H', G H' → C D σ H') : tSeq (tIfS tt A tNext) C D σ H := h1 _ fun H' g => by
  cases b with
  | true =>
    rw [if_pos rfl]
    exact hT rfl H' g
  | false =>
    rw [if_neg Bool.false_ne_true]
    exact hF rfl H' g
theorem pairs_flags {R : TRows K mg} {H : Hp} : ∀ {ts : List Addr} {cs : List FilD}, Paired (FPair R H) ts cs → Paired (FillE R H) (ts.map V.ref) (cs.map fun _ => true)
  | _, _, .nil => .nil
  | _, _, .cons a b => .cons a.fillE (pairs_flags b)
theorem fil_true {α : Type} (l : List α) : (l.map fun _ => true).all id = true := by
  rw [List.all_eq_true]
  intro x hx
  obtain ⟨_, _, rfl⟩ := List.mem_map.mp hx
  rfl
theorem kind_seq {K : PySem.W.Frag} {H : Hp} {p : Addr} {xs : List V} (hp : SqL K H p xs ∨ SqT K H p xs) : ∃ t, PySem.W.kitAny K t [.type "list", .type "tuple"] = some true ∧ TyX K H (.ref p) t ∧ ∀ H', Same H H' → TyX K H' (.ref p) t := by
  rcases hp with hp | hp
  · exact ⟨_, kit_two (by decide +kernel : kitB "list" "list" = some true) (by decide +kernel : kitB "list" "tuple" = some false), sql_ty hp, fun H' s' => sql_ty (s'.seq hp)⟩
  · exact ⟨_, kit_two (by decide +kernel : kitB "tuple" "list" = some false) (by decide +kernel : kitB "tuple" "tuple" = some true), sqt_ty hp, fun H' s' => sqt_ty (Same.sqt s' hp)⟩
theorem sqt_sameN {K : PySem.W.Frag} {H H' : Hp} {a : Addr} {xs : List V} (s : SameN H H') (h : SqT K H a xs) : SqT K H' a xs := by
  rcases h with (e | ⟨o, e⟩) | e
  · exact .inl (.inl (s _ _ e fun _ z => nomatch z))
  · exact .inl (.inr ⟨o, s _ _ e fun _ z => nomatch z⟩)
  · exact .inr e
theorem RowAt.sameN {R : TRows K mg} {H H' : Hp} {a : Addr} {r : RowD} (s : SameN H H') (h : RowAt R H a r) : RowAt R H' a r := by
  obtain ⟨dx, e⟩ := h
  obtain ⟨gs, eg⟩ := insRow_ins R dx r
  exact ⟨dx, s _ _ e fun _ z => by rw [eg] at z; cases z⟩
theorem filter_out : ∀ cs : List FilD, cs.filterMap (fun c => if c.2.2 = [] then none else some (V.str c.1)) = ((cs.filter fun c => decide (c.2.2 ≠ [])).map (·.1)).map V.str
  | [] => rfl
  | c :: cs => by
    by_cases h : c.2.2 = []
    · rw [List.filterMap_cons, List.filter_cons]
      simp only [h, if_true, ne_eq, not_true, decide_false, Bool.false_eq_true, if_false]
      exact filter_out cs
    · rw [List.filterMap_cons, List.filter_cons]
      simp only [h, if_false, ne_eq, not_false_iff, decide_true, if_true, List.map_cons]
      rw [filter_out cs]
theorem pairs_kv {R : TRows K mg} {H : Hp} : ∀ {ts : List Addr} {cs : List FilD}, Paired (FPair R H) ts cs → Paired (fun p (kv : Key × V) => SqT K H p [kV kv.1, kv.2]) ts (cs.map fun c => (Sum.inr c.1, V.ref c.2.1))
  | _, _, .nil => .nil
  | _, _, .cons a b => .cons a.1 (pairs_kv b)
/-- what stands as one pair of a filling -/
def FOne (R : TRows K mg) (cs : List FilD) (H : Hp) (p : Addr) (y : Str) : Prop := ∃ (c : FilD) (q : Addr) (us : List Addr), c ∈ cs ∧ c.1 = y ∧ SqT K H p [.str y, .ref q] ∧ SqT K H q (us.map V.ref) ∧ Paired (fun u r => RowAt R H u r) us c.2.2 ∧ ∀ r ∈ c.2.2, fillB r = true
theorem FOne.sameN {R : TRows K mg} {cs : List FilD} {H H' : Hp} {p : Addr} {y : Str} (s : SameN H H') (h : FOne R cs H p y) : FOne R cs H' p y := by
  obtain ⟨c, q, us, h1, h2, h3, h4, h5, h6⟩ := h
  exact ⟨c, q, us, h1, h2, sqt_sameN s h3, sqt_sameN s h4, paired_mono (fun _ _ z => RowAt.sameN s z) h5, h6⟩
theorem FOne.ins {R : TRows K mg} {cs : List FilD} {H : Hp} {p x C dx : Addr} {y : Str} {o : HO} (hx : H x = some (.ins C dx [])) (h : FOne R cs H p y) : FOne R cs (upd H x o) p y := by
  obtain ⟨c, q, us, h1, h2, h3, h4, h5, h6⟩ := h
  refine ⟨c, q, us, h1, h2, sqt_ins hx h3, sqt_ins hx h4, paired_mono (fun u r z => ?_) h5, h6⟩
  obtain ⟨dy, fs, e, _, _, hl⟩ := row_word R z
  have ne : u ≠ x := fun w => by
    rw [w, hx] at e
    cases e
    cases hl
  obtain ⟨d2, e2⟩ := z
  exact ⟨d2, by rw [upd_ne ne]; exact e2⟩
theorem scFInit : FnScope ["self", "parts", "names", "given", "pair", "name", "rows"] ["self", "parts"] (defScope sFInit) := ⟨rfl, rfl, rfl, by decide +kernel, rfl, by decide +kernel, by decide +kernel⟩
theorem okFInit {R : TRows K mg} (T : TFill R) : FnOk P w K mg base (L2.CX P w) 5 T.fI T.fdI ["self", "parts"] (spFInit R T.C T.IF.C) := by
  refine T.FI.ok scFInit (fun vs H Q E h => ?_) (fun cdv A outer s H vs Q E hr h => ?_)
  · obtain ⟨x, dx, v, rfl, _⟩ := h
    rfl
  · obtain ⟨x, dx, v, rfl, hx, h⟩ := h
    refine ⟨_, (pss_cons (ps_if (PW.pt (pw_or (pt_not (pt_val (pe_call (ok_isSeq T.isSeq.F R.N.mIsi T.mList T.mTup) (hr.mono (by decide)) rfl T.isSeq.m T.isSeq.F.kp T.isSeq.b .nil pass0 (pa_cons (pv 1) pa_nil)))) (pw_or1 (pt_not (pt_val (pe_callB (cr_all rfl) (by rfl) R.N.mAll (by decide +kernel) (pa_cons (pe_lc (own := [("pair", 4)]) (g := gName 4) (tt := tYes) (by rfl) scFInit.nd (pi_seq (pv 1))
 (blkOk_by (N := ["self", "parts", "names", "given", "pair", "name", "rows"]) (sc := defScope sFInit) (by decide +kernel)) (fun _ _ _ _ _ => (pg_name (i := 4) scFInit.nd rfl (Or.inl rfl))) (fun _ _ _ _ _ => pts_nil) (fun _ _ _ _ _ => (pe_call (ok_isFilled T.toTFil) (hr.mono (by decide)) rfl T.isF.m T.isF.F.kp T.isF.b .nil pass0 (pa_cons (pv 4) pa_nil)))) pa_nil))))))) (pss_one (ps_raise rfl (takes_of rfl rfl rfl rfl) (pmk_oex T.IF.O T.IF.iC T.IF.tI (okIFInit T.IF) (hr.mono (by decide)) T.IF.b .nil pass0 rfl T.IF.m (pa_cons pe_str pa_nil)))) pss_nil)
(pss_cons (ps_if (pt_cmpR op_lt (pe_callB cr_lenX (by rfl) R.N.mLen PySem.boot_len (pa_cons (pe_callTy (cr_setX rfl) (by rfl) T.mSet (by decide +kernel) (pa_cons (pe_lc (own := [("name", 5), ("rows", 6)]) (g := gTup K 2 (gCons (gName 5) (gCons (gName 6) gNil))) (tt := tYes) (by rfl) scFInit.nd (pi_seq (pv 1))
 (blkOk_by (N := ["self", "parts", "names", "given", "pair", "name", "rows"]) (sc := defScope sFInit) (by decide +kernel)) (fun _ _ _ _ _ => (pg_tup (by rfl) (pgs_cons (pg_name (i := 5) scFInit.nd rfl (Or.inl rfl)) (pgs_cons (pg_name (i := 6) scFInit.nd rfl (Or.inl rfl)) pgs_nil)))) (fun _ _ _ _ _ => pts_nil) (fun _ _ _ _ _ => (pv 5))) pa_nil)) pa_nil)) (pe_callB (show CallR _ (.builtin "len") (rLenSq K) from call_len_sq) (by rfl) R.N.mLen PySem.boot_len (pa_cons (pv 1) pa_nil)) (nomark _)) (pss_one (ps_raise rfl (takes_of rfl rfl rfl rfl) (pmk_oex T.IF.O T.IF.iC T.IF.tI (okIFInit T.IF) (hr.mono (by decide)) T.IF.b .nil pass0 rfl T.IF.m (pa_cons pe_str pa_nil)))) pss_nil)
(pss_cons (ps_set (i := 2) scFInit.nd rfl (Or.inl rfl) (pe_callB (cr_sortX rfl) (by rfl) T.mSorted (by decide +kernel) (pa_cons (pe_callTy (cr_setX rfl) (by rfl) T.mSet (by decide +kernel) (pa_cons (pe_lc (own := [("name", 5), ("rows", 6)]) (g := gTup K 2 (gCons (gName 5) (gCons (gName 6) gNil))) (by rfl) scFInit.nd (pi_seq (pv 1))
 (blkOk_by (N := ["self", "parts", "names", "given", "pair", "name", "rows"]) (sc := defScope sFInit) (by decide +kernel)) (fun _ _ _ _ _ => (pg_tup (by rfl) (pgs_cons (pg_name (i := 5) scFInit.nd rfl (Or.inl rfl)) (pgs_cons (pg_name (i := 6) scFInit.nd rfl (Or.inl rfl)) pgs_nil)))) (fun _ _ _ _ _ => pts_one (pt_cmpR op_gt (pe_callB (show CallR _ (.builtin "len") (rLenSq K) from call_len_sq) (by rfl) R.N.mLen PySem.boot_len (pa_cons (pv 6) pa_nil)) pe_int (nomark _))) (fun _ _ _ _ _ => (pv 5))) pa_nil)) pa_nil)))
(pss_cons (ps_set (i := 3) scFInit.nd rfl (Or.inr rfl) (pe_callTy (cr_dictX2 rfl) (by rfl) T.mDict (by decide +kernel) (pa_cons (pv 1) pa_nil)))
(pss_one (ps_fld (pv 0) (pe_callTy (show CallR _ (.type "tuple") (rTupO K) from call_tupO) (by rfl) T.mTup (by decide +kernel) (pa_cons (pe_lc (own := [("name", 5)]) (g := gName 5) (tt := tYes) (by rfl) scFInit.nd (pi_list (pv 2))
 (blkOk_by (N := ["self", "parts", "names", "given", "pair", "name", "rows"]) (sc := defScope sFInit) (by decide +kernel)) (fun _ _ _ _ _ => (pg_name (i := 5) scFInit.nd rfl (Or.inl rfl))) (fun _ _ _ _ _ => pts_nil) (fun _ _ _ _ _ => (pe_tup (pa_cons (pv 5) (pa_cons (pe_callTy (show CallR _ (.type "tuple") (rTupO K) from call_tupO) (by rfl) T.mTup (by decide +kernel) (pa_cons (pe_dget (roomV hr) (pv 3) (pv 5) (fun _ _ => rfl)) pa_nil)) pa_nil))))) pa_nil)) rfl)))))), ?_⟩
    rcases h with ⟨⟨t, ty, hk, keep⟩, hz⟩ | h
    · refine stepEither true (fun H' => Same H H') (fun Q' hQ => ?_) (fun _ H1 s1 => ?_) (fun z => nomatch z)
      · exact ⟨_, rfl, v, t, false, rfl, ty, hk, keep, fun H1 s1 m1 => ⟨false, rfl, hQ _ s1⟩⟩
      · exact ⟨(by show 1 ≤ 1000; decide), fun a ha => ⟨a, T.IF.C, _, rfl, upd_same, T.IF.O, T.IF.noF, fun dx g1 g2 => ⟨rfl, dx, _, upd_same, by rw [upd_ne g2, upd_same], by rw [upd_ne g2] at g1; exact g1, if_made s1 hz ha dx g1 g2⟩⟩⟩
    have first : ∀ (p : Addr) (xs : List V) (bs : List Bool), v = .ref p → (SqL K H p xs ∨ SqT K H p xs) → Paired (FillE R H) xs bs → xs.length ≤ 1000 → ∀ Q' : Bool → Hp → Prop, (∀ H', Same H H' → Q' (!bs.all id) H') →
        (tOr (tNot (tB (tCall (spIsSeq K) [] E0 (tCons (tVar 1) tNil)))) (tNot (tB (tCB (rAll K) (tCons (tLc (iSeq K (tVar 1)) (gName 4) tYes (tCall (spIsFilled R) [] E0 (tCons (tVar 4) tNil)) [4]) tNil))))) (L2.start ["self", "parts", "names", "given", "pair", "name", "rows"] [.ref x, v]) H Q' := by
      intro p xs bs hv hp hpd hxl Q' hQ
      subst hv
      obtain ⟨t, hk, ht1, ht2⟩ := kind_seq hp
      refine ⟨_, rfl, _, t, true, rfl, ht1, hk, ht2, fun H1 s1 m1 => ⟨true, rfl, iteF ?_⟩⟩
      dsimp only [tNot, tB, tCB, tCons, tNil]
      have hp1 : SqL K H1 p xs ∨ SqT K H1 p xs := hp.elim (fun h => .inl (s1.seq h)) (fun h => .inr (Same.sqt s1 h))
      have hpd1 := paired_mono (fun _ _ z => z.same s1) hpd
      have hbl : xs.length = bs.length := paired_len hpd
      refine lcw_seq (K := K) (tl := tVar 1) (p := p) (xs := xs) (out := fun i => (bs[i]?).map V.bl) ?h0 hp1 (Nat.le_trans hxl (by decide)) ?tn ?fn
      case h0 => exact fun R z => ⟨_, rfl, z⟩
      case tn =>
        intro m y Hi S Y hy sI h0 h1
        obtain ⟨b, hb, hfl⟩ := paired_at hpd1 hy
        exact ⟨rfl, _, rfl, y, b, rfl, hfl.same sI, fun H' s' => h1 (.bl b) (by show Option.map V.bl bs[m]? = _; rw [hb]; rfl) H' s'⟩
      case fn =>
        intro D H3 hD s3 h3
        have eo : (List.range xs.length).filterMap (fun i => (bs[i]?).map V.bl) = bs.map V.bl := by
          rw [hbl]
          exact out_map (l := bs) (f := V.bl)
        rw [eo] at h3
        exact ⟨D, bs, rfl, SqL.of h3, bs.all id, rfl, hQ _ (s1.trans s3)⟩
    rcases h with ⟨p, xs, bs, rfl, hp, hpd, hxl, hall, hz⟩ | h
    · refine stepEither true (fun H' => Same H H') (fun Q' hQ => first p xs bs rfl hp hpd hxl Q' (fun H' s => by rw [hall]; exact hQ _ s)) (fun _ H1 s1 => ?_) (fun z => nomatch z)
      exact ⟨(by show 1 ≤ 1000; decide), fun a ha => ⟨a, T.IF.C, _, rfl, upd_same, T.IF.O, T.IF.noF, fun dx g1 g2 => ⟨rfl, dx, _, upd_same, by rw [upd_ne g2, upd_same], by rw [upd_ne g2] at g1; exact g1, if_made s1 hz ha dx g1 g2⟩⟩⟩
    have both : ∃ (p : Addr) (ts : List Addr) (cs : List FilD), v = .ref p ∧ (SqL K H p (ts.map V.ref) ∨ SqT K H p (ts.map V.ref)) ∧ Paired (FPair R H) ts cs ∧ cs.length ≤ 60 ∧ ((¬ (cs.map (·.1)).Nodup ∧ RaiseF T.IF.C H E (.str "name")) ∨
        ((cs.map (·.1)).Nodup ∧ (SqL K H p (ts.map V.ref) ∨ TupY K H p (ts.map V.ref)) ∧ ∀ (tp : Addr) (H' : Hp), KpI x H H' → FilAt R H' tp cs → H' x = some (insFil T.C dx (.ref tp)) → Q .non H')) := by
      rcases h with ⟨p, ts, cs, e, hp, pd, hl, nd, hz⟩ | ⟨p, ts, cs, e, hp, pd, hl, nd, q⟩
      · exact ⟨p, ts, cs, e, hp, pd, hl, .inl ⟨nd, hz⟩⟩
      · exact ⟨p, ts, cs, e, hp.imp id TupY.sqt, pd, hl, .inr ⟨nd, hp, q⟩⟩
    clear h
    obtain ⟨p, ts, cs, rfl, hp, pd, hcl, h⟩ := both
    have htl : ts.length = cs.length := paired_len pd
    have h60 : (ts.map V.ref).length ≤ 1000 := by rw [List.length_map]; omega
    refine stepEither false (fun H' => Same H H') (fun Q' hQ => first p (ts.map V.ref) (cs.map fun _ => true) rfl hp (pairs_flags pd) h60 Q' (fun H' s => by rw [fil_true]; exact hQ _ s)) (fun z => nomatch z) (fun _ H1 s1 => ?_)
    clear first
    have hp1 : SqL K H1 p (ts.map V.ref) ∨ SqT K H1 p (ts.map V.ref) := hp.elim (fun h => .inl (s1.seq h)) (fun h => .inr (Same.sqt s1 h))
    have pd1 := paired_mono (fun _ _ z => z.same s1) pd
    refine stepEither (!decide (cs.map (·.1)).Nodup) (fun H' => Same H1 H') (fun Q' hQ => ?t2) (fun e H2 s2 => ?bad) (fun e H2 s2 => ?rest2)
    case t2 =>
      dsimp only [tTest, tOp, tCB, tCons, tNil]
      refine lcw_seq (K := K) (tl := tVar 1) (p := p) (xs := ts.map V.ref) (out := fun i => (cs[i]?).map fun c => V.str c.1) ?h0 hp1 (Nat.le_trans h60 (by decide)) ?tn ?fn
      case h0 => exact fun R z => ⟨_, rfl, z⟩
      case tn =>
        intro m y Hi S Y hy sI h0 h1
        rw [List.getElem?_map] at hy
        obtain ⟨t, ht, rfl⟩ := Option.map_eq_some_iff.mp hy
        obtain ⟨c, hc, hP⟩ := paired_at pd1 ht
        exact ⟨t, _, rfl, Same.sqt sI hP.1, rfl, _, _, rfl, _, _, rfl, rfl, rfl, _, rfl, h1 (.str c.1) (by show Option.map (fun c : FilD => V.str c.1) cs[m]? = _; rw [hc]; rfl) Hi (Same.refl _)⟩
      case fn =>
        intro D H3 hD s3 h3
        have eo : (List.range (ts.map V.ref).length).filterMap (fun i => (cs[i]?).map fun c => V.str c.1) = (cs.map (·.1)).map V.str := by
          rw [List.length_map, htl, List.map_map]
          exact out_map (l := cs) (f := fun c => V.str c.1)
        rw [eo] at h3
        refine ⟨D, cs.map (·.1), rfl, SqL.of h3, by rw [List.length_map]; omega, fun a ha => ?_⟩
        have sa := s3.trans (Same.new (o := SetX P w a (uniq (cs.map (·.1)))) ha)
        refine ⟨a, uniq (cs.map (·.1)), rfl, upd_same, Nat.le_trans (uniq_len _) (by rw [List.length_map]; omega), ?_⟩
        refine ⟨_, rfl, p, ts.map V.ref, rfl, hp1.elim (fun h => .inl (sa.seq h)) (fun h => .inr (Same.sqt sa h)), ?_⟩
        refine ⟨_, _, rfl, rfl, _, rfl, ?_⟩
        rw [show decide (((uniq (cs.map (·.1))).length : Int) < ((ts.map V.ref).length : Int)) = !decide (cs.map (·.1)).Nodup from ?_]
        · exact hQ _ sa
        · by_cases nd : (cs.map (·.1)).Nodup
          · have e := uniq_all nd
            rw [List.length_map] at e
            rw [decide_eq_true nd]
            refine decide_eq_false ?_
            rw [List.length_map, htl, e]
            omega
          · have e := uniq_less nd
            rw [List.length_map] at e
            rw [decide_eq_false nd]
            refine decide_eq_true ?_
            rw [List.length_map, htl]
            omega
    case bad =>
      have nd : ¬ (cs.map (·.1)).Nodup := by simpa using e
      rcases h with ⟨_, hz⟩ | ⟨y, _⟩
      · exact ⟨(by show 1 ≤ 1000; decide), fun a ha => ⟨a, T.IF.C, _, rfl, upd_same, T.IF.O, T.IF.noF, fun dx g1 g2 => ⟨rfl, dx, _, upd_same, by rw [upd_ne g2, upd_same], by rw [upd_ne g2] at g1; exact g1, if_made (s1.trans s2) hz ha dx g1 g2⟩⟩⟩
      · exact absurd y nd
    case rest2 =>
    have nd : (cs.map (·.1)).Nodup := by simpa using e
    obtain ⟨hpx, q⟩ : (SqL K H p (ts.map V.ref) ∨ TupY K H p (ts.map V.ref)) ∧ ∀ (tp : Addr) (H' : Hp), KpI x H H' → FilAt R H' tp cs → H' x = some (insFil T.C dx (.ref tp)) → Q .non H' := by
      rcases h with ⟨z, _⟩ | ⟨_, a, b⟩
      · exact absurd nd z
      · exact ⟨a, b⟩
    clear h
    have s02 := s1.trans s2
    have hp2 : SqL K H2 p (ts.map V.ref) ∨ SqT K H2 p (ts.map V.ref) := hp1.elim (fun h => .inl (s2.seq h)) (fun h => .inr (Same.sqt s2 h))
    have pd2 := paired_mono (fun _ _ z => z.same s2) pd1
    refine stepSet (fun v H' => ∃ (g : Addr) (ys : List Str), v = .ref g ∧ Same H2 H' ∧ H' g = some (.lst (ys.map V.str)) ∧ ys.Perm (uniq ((cs.filter fun c => decide (c.2.2 ≠ [])).map (·.1))) ∧ sortedS ys = true) (fun Q' hQ => ?t3) (fun v H3 hC => ?rest3)
    case t3 =>
      dsimp only [tCB, tCons, tNil]
      refine lcw_seq (K := K) (tl := tVar 1) (p := p) (xs := ts.map V.ref) (out := fun i => (cs[i]?).bind fun c => if c.2.2 = [] then none else some (V.str c.1)) ?h0 hp2 (Nat.le_trans h60 (by decide)) ?tn ?fn
      case h0 => exact fun R z => ⟨_, rfl, z⟩
      case tn =>
        intro m y Hi S Y hy sI h0 h1
        rw [List.getElem?_map] at hy
        obtain ⟨t, ht, rfl⟩ := Option.map_eq_some_iff.mp hy
        obtain ⟨c, hc, hP⟩ := paired_at pd2 ht
        obtain ⟨g1, _, us, g2, g3, _⟩ := hP.same sI
        have lu := paired_len g3
        have oc : (fun i => (cs[i]?).bind fun c : FilD => if c.2.2 = [] then none else some (V.str c.1)) m = if c.2.2 = [] then none else some (V.str c.1) := by
          show (cs[m]?).bind _ = _
          rw [hc]
          rfl
        refine ⟨t, _, rfl, g1, rfl, _, _, rfl, _, _, rfl, rfl, rfl, ?_⟩
        refine ⟨_, rfl, c.2.1, us.map V.ref, rfl, g2, ?_⟩
        refine ⟨_, _, rfl, rfl, _, rfl, ?_⟩
        by_cases hz : c.2.2 = []
        · rw [if_pos hz] at oc
          rw [if_neg (by rw [List.length_map, lu, hz]; decide)]
          exact h0 oc _ (Same.refl _)
        · rw [if_neg hz] at oc
          have pos := List.length_pos_iff.mpr hz
          rw [if_pos (by rw [List.length_map, lu]; exact decide_eq_true (by omega))]
          exact ⟨_, rfl, h1 _ oc _ (Same.refl _)⟩
      case fn =>
        intro D H3 hD s3 h3
        have eo : (List.range (ts.map V.ref).length).filterMap (fun i => (cs[i]?).bind fun c => if c.2.2 = [] then none else some (V.str c.1)) = ((cs.filter fun c => decide (c.2.2 ≠ [])).map (·.1)).map V.str := by
          rw [List.length_map, htl, ← filter_out]
          exact out_filter
        rw [eo] at h3
        have few : ((cs.filter fun c => decide (c.2.2 ≠ [])).map (·.1)).length ≤ 60 := by
          rw [List.length_map]
          exact Nat.le_trans (List.length_filter_le _ _) hcl
        refine ⟨D, _, rfl, SqL.of h3, by omega, fun a ha => ?_⟩
        have sa := s3.trans (Same.new (o := SetX P w a (uniq ((cs.filter fun c => decide (c.2.2 ≠ [])).map (·.1)))) ha)
        refine ⟨a, _, rfl, upd_same, Nat.lt_of_le_of_lt (Nat.le_trans (uniq_len _) few) (by decide), fun ys g perm sorted hg => ?_⟩
        exact hQ _ _ ⟨g, ys, rfl, sa.trans (Same.new hg), upd_same, perm, sorted⟩
    case rest3 =>
    obtain ⟨g, ys, rfl, s3, hg, perm, sorted⟩ := hC
    have s03 := s02.trans s3
    have pd3 := paired_mono (fun _ _ z => z.same s3) pd2
    refine stepSet (fun v H' => ∃ (g2 : Addr), v = .ref g2 ∧ Same H3 H' ∧ H' g2 = some (.dK (mergeK [] (cs.map fun c => (Sum.inr c.1, V.ref c.2.1))))) (fun Q' hQ => ?t4) (fun v H4 hC => ?rest4)
    case t4 => exact ⟨_, rfl, p, ts, _, rfl, hpx.imp (fun h => s03.seq h) (fun h => h.same s03), pairs_kv pd3, fun g hg => hQ _ _ ⟨g, rfl, Same.new hg, upd_same⟩⟩
    case rest4 =>
    obtain ⟨g2, rfl, s4, hg2⟩ := hC
    have s04 := s03.trans s4
    have pd4 := paired_mono (fun _ _ z => z.same s4) pd3
    have hg4 := s4 _ _ hg
    have two : 2 ≤ sizeLine := by decide
    have yl : ys.length ≤ 60 := by
      rw [perm.length_eq]
      refine Nat.le_trans (uniq_len _) ?_
      rw [List.length_map]
      exact Nat.le_trans (List.length_filter_le _ _) hcl
    dsimp only [sFld, tCB, tCons, tNil]
    refine lcw_objs (K := K) (tl := tVar 2) (p := g) (xs := ys.map V.str) (cs := ys) (R := fun H t y => FOne R cs H t y) (fun s z => z.sameN s) ?h0 (SqL.of hg4) (by rw [List.length_map]; omega) (by rw [List.length_map]) ?tn ?fn
    case h0 => exact fun R z => ⟨_, rfl, z⟩
    case tn =>
      intro m yv y Hi S Y hy hys sI k
      rw [List.getElem?_map, hys] at hy
      cases hy
      have hm : y ∈ uniq ((cs.filter fun c => decide (c.2.2 ≠ [])).map (·.1)) := perm.mem_iff.mp (List.mem_of_getElem? hys)
      obtain ⟨c, hcm, rfl⟩ := List.mem_map.mp ((uniq_has _ y).mp hm)
      have hc := (List.mem_filter.mp hcm).1
      obtain ⟨t, hP⟩ := Paired.right pd4 c hc
      obtain ⟨g1, _, us, h2, h3, h4, _⟩ := hP.same sI
      have hd : DGet Hi g2 (.str c.1) (some (.ref c.2.1)) := by
        have z := DGet.k (k := (Sum.inr c.1 : Key)) (sI _ _ hg2)
        rw [merge_inF (f := fun c => V.ref c.2.1) nd hc] at z
        exact z
      refine ⟨rfl, _, rfl, _, rfl, _, rfl, g2, .ref c.2.1, rfl, hd, c.2.1, us.map V.ref, rfl, ?_⟩
      rcases h2 with h2 | h2
      · refine .inl ⟨h2, fun l hl => ⟨two, fun t ht => ?_⟩⟩
        have a1 := Same.new (o := .tup (us.map V.ref)) hl
        have a2 := Same.new (o := .tup [.str c.1, .ref l]) ht
        exact k t _ (a1.trans a2) ⟨c, l, us, hc, rfl, SqT.of upd_same, SqT.of (a2 _ _ upd_same), paired_mono (fun _ _ z => z.same (a1.trans a2)) h3, h4⟩
      · refine .inr ⟨h2, ⟨two, fun t ht => ?_⟩⟩
        have a2 := Same.new (o := .tup [.str c.1, .ref c.2.1]) ht
        exact k t _ a2 ⟨c, c.2.1, us, hc, rfl, SqT.of upd_same, Same.sqt a2 h2, paired_mono (fun _ _ z => z.same a2) h3, h4⟩
    case fn =>
      intro D H5 ps hD s5 h5 pp
      refine ⟨D, ps.map V.ref, rfl, .inl ⟨SqL.of h5, fun tp htp => ?_⟩⟩
      have s6 := Same.new (o := .tup (ps.map V.ref)) htp
      have s06 := (s04.trans s5).trans s6
      have hx6 := s06 _ _ hx
      have pp6 := paired_mono (fun _ _ z => FOne.sameN (SameN.of s6) z) pp
      have ht6 : SqT K (upd H5 tp (.tup (ps.map V.ref))) tp (ps.map V.ref) := SqT.of upd_same
      generalize upd H5 tp (.tup (ps.map V.ref)) = H6 at s6 s06 hx6 pp6 ht6 ⊢
      refine ⟨_, rfl, x, T.C, dx, [], rfl, hx6, T.cl, T.noF, (by show 0 < 1000; decide), ?_⟩
      refine q tp _ (fun b o e n => by rw [upd_ne n]; exact s06 _ _ e) ⟨ps, ys, sqt_ins hx6 ht6, perm, sorted, paired_mono (fun _ _ z => FOne.ins hx6 z) pp6⟩ upd_same
end
end Pn

namespace Pn
open PySem PySem.Spec PyProof.Rows L2 TL
abbrev sFText : Stmt := top 65
abbrev sFNames : Stmt := inClass (top 66) 1
abbrev sFRows : Stmt := inClass (top 66) 2
abbrev sFStr : Stmt := inClass (top 66) 3
/-! ### a filling told: its names, its rows, its text -/
abbrev FD := Str × List RowD
def fText (d : FD) : Str := Str.empty ++ d.1 ++ (": " : Str) ++ Txt.join ", " (d.2.map rowText)
def filText (ds : List FD) : Str := if ds = [] then "-" else Txt.join "; " (ds.map fText)
section
variable {P : Program} {w : World} {K : PySem.W.Frag} {mg : Str → Option Value} {base : Heap}
/-- one name with its rows -/
def FItem (R : TRows K mg) (H : Hp) (p : Addr) (d : FD) : Prop := ∃ (q : Addr) (us : List Addr), SqT K H p [.str d.1, .ref q] ∧ SqT K H q (us.map V.ref) ∧ Paired (fun u r => RowAt R H u r) us d.2
theorem FItem.same {R : TRows K mg} {H H' : Hp} {p : Addr} {d : FD} (h : FItem R H p d) (s : Same H H') : FItem R H' p d := by
  obtain ⟨q, us, h1, h2, h3⟩ := h
  exact ⟨q, us, Same.sqt s h1, Same.sqt s h2, paired_mono (fun _ _ z => z.same s) h3⟩
/-- a filling -/
def FilI {R : TRows K mg} (T : TFill R) (H : Hp) (a : Addr) (ds : List FD) : Prop := ∃ (dx tp : Addr) (ps : List Addr), H a = some (insFil T.C dx (.ref tp)) ∧ SqT K H tp (ps.map V.ref) ∧ Paired (FItem R H) ps ds
theorem FilI.same {R : TRows K mg} {T : TFill R} {H H' : Hp} {a : Addr} {ds : List FD} (h : FilI T H a ds) (s : Same H H') : FilI T H' a ds := by
  obtain ⟨dx, tp, ps, h1, h2, h3⟩ := h
  exact ⟨dx, tp, ps, s _ _ h1, Same.sqt s h2, paired_mono (fun _ _ z => z.same s) h3⟩
/-- of so few names and rows that it can be told -/
def filOk (ds : List FD) : Prop := ds.length ≤ 60 ∧ ∀ d ∈ ds, nameS d.1 = true ∧ d.2.length ≤ 100 ∧ ∀ r ∈ d.2, rowValid r
theorem fil_fld {u : V} : (putF "filled" u ([] : List (Str × V))).lookup ("filled" : Str) = some u := by
  rw [lookup_putF, if_pos rfl]
structure TFilM {R : TRows K mg} (T : TFill R) : Type where
  S : TStrs R
  ftext : At K mg "filled_text" sFText ["name", "rows"]
  names : TPr K T.C "names" "Filling.names" sFNames
  rowsFor : TMeth K T.C "rows_for" "Filling.rows_for" sFRows ["self", "name"]
  str : TMeth K T.C "__str__" "Filling.__str__" sFStr ["self"]
theorem rows_len {rs : List RowD} (h : ∀ r ∈ rs, rowValid r) : ((rs.map rowText).map (·.length)).sum ≤ 63 * rs.length := by
  induction rs with
  | nil => exact Nat.le_refl _
  | cons r rs ih =>
    have h1 := (sm_row (h r List.mem_cons_self)).1
    have h2 := ih fun x hx => h x (List.mem_cons_of_mem _ hx)
    simp only [List.map_cons, List.sum_cons, List.length_cons] at h2 ⊢
    omega
def spFText (R : TRows K mg) : Sp := fun vs H Q _ => ∃ (z : Str) (q : Addr) (us : List Addr) (rs : List RowD), vs = [.str z, .ref q] ∧ SqT K H q (us.map V.ref) ∧ Paired (fun u r => RowAt R H u r) us rs ∧ nameS z = true ∧ rs.length ≤ 100 ∧ (∀ r ∈ rs, rowValid r) ∧ ∀ H', Same H H' → Q (.str (fText (z, rs))) H'
theorem scFText : FnScope ["name", "rows", "texts", "row"] ["name", "rows"] (defScope sFText) := ⟨rfl, rfl, rfl, by decide +kernel, rfl, by decide +kernel, by decide +kernel⟩
theorem ok_ftext {R : TRows K mg} {T : TFill R} (S : TFilM T) : FnOk P w K mg base CX0 4 S.ftext.f S.ftext.fd ["name", "rows"] (spFText R) := by
  refine S.ftext.F.ok scFText (fun vs H Q E h => ?_) (fun cdv A outer s H vs Q E hr h => ?_)
  · obtain ⟨z, q, us, rs, rfl, _⟩ := h
    rfl
  · obtain ⟨z, qa, us, rs, rfl, hq, hus, hz, hl, hv, q⟩ := h
    refine ⟨_, (pss_cons (ps_set (i := 2) scFText.nd rfl (Or.inl rfl) (pe_join pe_str (pe_lc (own := [("row", 3)]) (g := gName 3) (tt := tYes) (by rfl) scFText.nd (pi_tup (pv 1))
 (blkOk_by (N := ["name", "rows", "texts", "row"]) (sc := defScope sFText) (by decide +kernel)) (fun _ _ _ _ _ => (pg_name (i := 3) scFText.nd rfl (Or.inl rfl))) (fun _ _ _ _ _ => pts_nil) (fun _ _ _ _ _ => (pe_callTy (show CallR _ (.type "str") (rStrRow R) from call_strRowK (K := K) (mg := mg) rfl rfl R S.S hr) (by rfl) R.N.mStr (by decide +kernel) (pa_cons (pv 3) pa_nil))))))
(pss_one (ps_ret (pe_joined (.cons (pe_fmt (pv 0)) (.cons pe_str (.cons (pe_fmt (pv 2)) .nil))))))), ?_⟩
    have hul := paired_len hus
    refine stepSet (fun v H' => Same H H' ∧ v = .str (Txt.join ", " (rs.map rowText))) (fun Q' hQ => ?t1) (fun v H1 hC => ?r1)
    case t1 =>
      refine ⟨⟨_, rfl⟩, ?_⟩
      refine lcw_tup (K := K) (tl := tVar 1) (p := qa) (xs := us.map V.ref) (out := fun i => (rs[i]?).map fun r => V.str (rowText r)) ?h0 hq (by rw [List.length_map, hul]; omega) ?tn ?fn
      case h0 => exact fun R z => ⟨_, rfl, z⟩
      case tn =>
        intro m y Hi S' Y hy sI h0 h1
        rw [List.getElem?_map] at hy
        obtain ⟨u, hu, rfl⟩ := Option.map_eq_some_iff.mp hy
        obtain ⟨r, hr2, hrow⟩ := paired_at hus hu
        exact ⟨rfl, _, rfl, u, r, rfl, hrow.same sI, valid_small (hv r (List.mem_of_getElem? hr2)), h1 _ (by show Option.map (fun r => V.str (rowText r)) rs[m]? = _; rw [hr2]; rfl) Hi (Same.refl _)⟩
      case fn =>
        intro D H' hD sD hDl
        have eo : (List.range (us.map V.ref).length).filterMap (fun i => (rs[i]?).map fun r => V.str (rowText r)) = (rs.map rowText).map V.str := by
          rw [List.length_map, hul, List.map_map]
          exact out_map (l := rs) (f := fun r => V.str (rowText r))
        rw [eo] at hDl
        have h63 := rows_len hv
        refine ⟨", ", D, rs.map rowText, rfl, rfl, .inl (SqL.of hDl), ?_, hQ _ _ ⟨sD, rfl⟩⟩
        rw [List.length_map, show (", " : Str).length = 2 by decide +kernel]
        omega
    case r1 =>
    obtain ⟨s1, rfl⟩ := hC
    try dsimp only [List.set]
    have h63 := rows_len hv
    have jl : (Txt.join ", " (rs.map rowText)).length ≤ 7000 := by
      have e : Txt.join ", " (rs.map rowText) = Str.join ", " (rs.map rowText) := join_eq _ _
      have := StrLaws.join_length_le ", " (rs.map rowText)
      rw [e]
      rw [List.length_map, show (", " : Str).length = 2 by decide +kernel] at this
      omega
    have zl := (name_ok hz).2
    refine ⟨_, rfl, .inl ⟨z, rfl, Nat.le_trans zl (by decide), z, rfl, ?l1, ": ", rfl, ?l2, _, rfl, .inl ⟨_, rfl, Nat.le_trans jl (by decide), _, rfl, ?l3, ?_⟩⟩⟩
    case l1 =>
      rw [strLen_append]
      exact Nat.le_trans (Nat.add_le_add_left zl _) (by decide +kernel)
    case l2 =>
      rw [strLen_append, strLen_append]
      exact Nat.le_trans (Nat.add_le_add_right (Nat.add_le_add_left zl _) _) (by decide +kernel)
    case l3 =>
      rw [strLen_append, strLen_append, strLen_append]
      exact Nat.le_trans (Nat.add_le_add (Nat.add_le_add_right (Nat.add_le_add_left zl _) _) jl) (by decide +kernel)
    exact q _ s1
end
end Pn

namespace Pn
open PySem PySem.Spec PyProof.Rows L2 TL
section
variable {P : Program} {w : World} {K : PySem.W.Frag} {mg : Str → Option Value} {base : Heap}
def spFNames {R : TRows K mg} (T : TFill R) : Sp := fun vs H Q _ => ∃ (a : Addr) (ds : List FD), vs = [.ref a] ∧ FilI T H a ds ∧ ds.length ≤ 60 ∧ ∀ tp H', Same H H' → SqT K H' tp (ds.map fun d => V.str d.1) → Q (.ref tp) H'
theorem scFNames : FnScope ["self", "name", "rows"] ["self"] (defScope sFNames) := ⟨rfl, rfl, rfl, by decide +kernel, rfl, by decide +kernel, by decide +kernel⟩
theorem ok_fNames {R : TRows K mg} {T : TFill R} (S : TFilM T) : FnOk P w K mg base CX0 2 S.names.g S.names.fd ["self"] (spFNames T) := by
  refine S.names.F.ok scFNames (fun vs H Q E h => ?_) (fun cdv A outer s H vs Q E hr h => ?_)
  · obtain ⟨a, ds, rfl, _⟩ := h
    rfl
  · obtain ⟨a, ds, rfl, ⟨dx, tp, ps, ha, htp, hps⟩, hl, q⟩ := h
    refine ⟨_, (pss_one (ps_ret (pe_callTy (show CallR _ (.type "tuple") (rTupO K) from call_tupO) (by rfl) T.mTup (by decide +kernel) (pa_cons (pe_lc (own := [("name", 1), ("rows", 2)]) (g := gTup K 2 (gCons (gName 1) (gCons (gName 2) gNil))) (tt := tYes) (by rfl) scFNames.nd (pi_tup (pe_fld (pv 0) rfl))
 (blkOk_by (N := ["self", "name", "rows"]) (sc := defScope sFNames) (by decide +kernel)) (fun _ _ _ _ _ => (pg_tup (by rfl) (pgs_cons (pg_name (i := 1) scFNames.nd rfl (Or.inl rfl)) (pgs_cons (pg_name (i := 2) scFNames.nd rfl (Or.inl rfl)) pgs_nil)))) (fun _ _ _ _ _ => pts_nil) (fun _ _ _ _ _ => (pv 1))) pa_nil)))), ?_⟩
    have hpl := paired_len hps
    dsimp only [tRet, tCB, tCons, tNil]
    refine lcw_tup (K := K) (tl := tFld K (tVar 0) "filled") (p := tp) (xs := ps.map V.ref) (out := fun i => (ds[i]?).map fun d => V.str d.1) ?h0 htp (by rw [List.length_map]; omega) ?tn ?fn
    case h0 => exact fun R' z => ⟨_, rfl, a, T.C, dx, _, .ref tp, rfl, ha, T.cl, T.noF, fil_fld, z⟩
    case tn =>
      intro m y Hi S' Y hy sI h0 h1
      rw [List.getElem?_map] at hy
      obtain ⟨p, hp, rfl⟩ := Option.map_eq_some_iff.mp hy
      obtain ⟨d, hd, q', us, g1, _⟩ := paired_at hps hp
      exact ⟨p, _, rfl, Same.sqt sI g1, rfl, _, _, rfl, _, _, rfl, rfl, rfl, _, rfl, h1 (.str d.1) (by show Option.map (fun d : FD => V.str d.1) ds[m]? = _; rw [hd]; rfl) Hi (Same.refl _)⟩
    case fn =>
      intro D H' hD sD hDl
      have eo : (List.range (ps.map V.ref).length).filterMap (fun i => (ds[i]?).map fun d => V.str d.1) = ds.map fun d => V.str d.1 := by
        rw [List.length_map, hpl]
        exact out_map (l := ds) (f := fun d => V.str d.1)
      rw [eo] at hDl
      exact ⟨D, _, rfl, .inl ⟨SqL.of hDl, fun l hl2 => q l _ (Same.trans sD (Same.new hl2)) (SqT.of upd_same)⟩⟩
def spFStr {R : TRows K mg} (T : TFill R) : Sp := fun vs H Q _ => ∃ (a : Addr) (ds : List FD), vs = [.ref a] ∧ FilI T H a ds ∧ filOk ds ∧ ∀ H', Same H H' → Q (.str (filText ds)) H'
theorem scFStr : FnScope ["self", "name", "rows"] ["self"] (defScope sFStr) := ⟨rfl, rfl, rfl, by decide +kernel, rfl, by decide +kernel, by decide +kernel⟩
theorem fText_len {d : FD} (hz : nameS d.1 = true) (hl : d.2.length ≤ 100) (hv : ∀ r ∈ d.2, rowValid r) : (fText d).length ≤ 7100 := by
  have h63 := rows_len hv
  have zl := (name_ok hz).2
  have e : Txt.join ", " (d.2.map rowText) = Str.join ", " (d.2.map rowText) := join_eq _ _
  have j := StrLaws.join_length_le ", " (d.2.map rowText)
  rw [List.length_map, show (", " : Str).length = 2 by decide +kernel] at j
  unfold fText
  rw [strLen_append, strLen_append, strLen_append, e, show Str.empty.length = 0 by decide +kernel, show (": " : Str).length = 2 by decide +kernel]
  omega
theorem fil_sum : ∀ {ds : List FD}, (∀ d ∈ ds, nameS d.1 = true ∧ d.2.length ≤ 100 ∧ ∀ r ∈ d.2, rowValid r) → ((ds.map fText).map (·.length)).sum ≤ 7100 * ds.length
  | [], _ => Nat.le_refl _
  | d :: ds, h => by
    obtain ⟨a, b, c⟩ := h d List.mem_cons_self
    have h1 := fText_len a b c
    have h2 := fil_sum fun x hx => h x (List.mem_cons_of_mem _ hx)
    simp only [List.map_cons, List.sum_cons, List.length_cons] at h2 ⊢
    omega
theorem ok_fStr {R : TRows K mg} {T : TFill R} (S : TFilM T) : FnOk P w K mg base CX0 5 S.str.f S.str.fd ["self"] (spFStr T) := by
  refine S.str.F.ok scFStr (fun vs H Q E h => ?_) (fun cdv A outer s H vs Q E hr h => ?_)
  · obtain ⟨a, ds, rfl, _⟩ := h
    rfl
  · obtain ⟨a, ds, rfl, ⟨dx, tp, ps, ha, htp, hps⟩, ⟨hl, hok⟩, q⟩ := h
    refine ⟨_, (pss_cons (ps_if (pt_cmpR op_eq (pe_callB (show CallR _ (.builtin "len") (rLenSq K) from call_len_sq) (by rfl) R.N.mLen PySem.boot_len (pa_cons (pe_fld (pv 0) rfl) pa_nil)) pe_int (nomark _)) (pss_one (ps_ret pe_str)) pss_nil)
(pss_one (ps_ret (pe_join pe_str (pe_lc (own := [("name", 1), ("rows", 2)]) (g := gTup K 2 (gCons (gName 1) (gCons (gName 2) gNil))) (tt := tYes) (by rfl) scFStr.nd (pi_tup (pe_fld (pv 0) rfl))
 (blkOk_by (N := ["self", "name", "rows"]) (sc := defScope sFStr) (by decide +kernel)) (fun _ _ _ _ _ => (pg_tup (by rfl) (pgs_cons (pg_name (i := 1) scFStr.nd rfl (Or.inl rfl)) (pgs_cons (pg_name (i := 2) scFStr.nd rfl (Or.inl rfl)) pgs_nil)))) (fun _ _ _ _ _ => pts_nil) (fun _ _ _ _ _ => (pe_call (ok_ftext S) (hr.mono (by decide)) rfl S.ftext.m S.ftext.F.kp S.ftext.b .nil pass0 (pa_cons (pv 1) (pa_cons (pv 2) pa_nil))))))))), ?_⟩
    have hpl := paired_len hps
    refine ⟨_, rfl, a, T.C, dx, _, .ref tp, rfl, ha, T.cl, T.noF, fil_fld, tp, _, rfl, .inr htp, rfl, _, rfl, ?_⟩
    have el : decide (V.int ((ps.map V.ref).length : Nat) = V.int 0) = decide (ds = []) := by
      rw [List.length_map, hpl]
      cases ds with
      | nil => simp
      | cons d ds =>
        refine (decide_eq_false fun z => ?_).trans (decide_eq_false (by simp)).symm
        have e := V.int.inj z
        simp only [List.length_cons] at e
        omega
    rw [el]
    by_cases hz : ds = []
    · refine iteTD (decide_eq_true hz) ?_
      have e : filText ds = "-" := if_pos hz
      rw [e] at q
      exact q H (Same.refl _)
    · refine iteFD (decide_eq_false hz) ?_
      have e : filText ds = Txt.join "; " (ds.map fText) := if_neg hz
      rw [e] at q
      refine ⟨⟨_, rfl⟩, ?_⟩
      refine lcw_tup (K := K) (tl := tFld K (tVar 0) "filled") (p := tp) (xs := ps.map V.ref) (out := fun i => (ds[i]?).map fun d => V.str (fText d)) ?h0 htp (by rw [List.length_map]; omega) ?tn ?fn
      case h0 => exact fun R' z => ⟨_, rfl, a, T.C, dx, _, .ref tp, rfl, ha, T.cl, T.noF, fil_fld, z⟩
      case tn =>
        intro m y Hi S' Y hy sI h0 h1
        rw [List.getElem?_map] at hy
        obtain ⟨p, hp, rfl⟩ := Option.map_eq_some_iff.mp hy
        obtain ⟨d, hd, q', us, g1, g2, g3⟩ := paired_at hps hp
        obtain ⟨o1, o2, o3⟩ := hok d (List.mem_of_getElem? hd)
        exact ⟨p, _, rfl, Same.sqt sI g1, rfl, _, _, rfl, _, _, rfl, rfl, rfl, _, rfl, _, rfl, d.1, q', us, d.2, rfl, Same.sqt sI g2, paired_mono (fun _ _ z => z.same sI) g3, o1, o2, o3, fun H' s' => h1 _ (by show Option.map (fun d : FD => V.str (fText d)) ds[m]? = _; rw [hd]; rfl) H' s'⟩
      case fn =>
        intro D H' hD sD hDl
        have eo : (List.range (ps.map V.ref).length).filterMap (fun i => (ds[i]?).map fun d => V.str (fText d)) = (ds.map fText).map V.str := by
          rw [List.length_map, hpl, List.map_map]
          exact out_map (l := ds) (f := fun d => V.str (fText d))
        rw [eo] at hDl
        have fs := fil_sum hok
        refine ⟨"; ", D, ds.map fText, rfl, rfl, .inl (SqL.of hDl), ?_, q _ sD⟩
        rw [List.length_map, show ("; " : Str).length = 2 by decide +kernel]
        omega
end
end Pn

namespace Pn
open PySem PySem.Spec PyProof.Rows L2 TL
abbrev sFEq : Stmt := inClass (top 66) 4
section
variable {P : Program} {w : World} {K : PySem.W.Frag} {mg : Str → Option Value} {base : Heap}
/-! ### two fillings compared -/
structure TFilE {R : TRows K mg} {T : TFill R} (S : TFilM T) : Type where
  eq : TMeth K T.C "__eq__" "Filling.__eq__" sFEq ["self", "other"]
  cA : PySem.W.findIn K (.ref T.C) "__class__" = some (some (.builtin "object.__class__"))
  cM : PySem.W.mroIn K T.C (.type "object") = some true
  kC : PySem.W.kitOne K (.ref T.C) (.ref T.C) = some true
  kD : ∀ d : PyData, PySem.W.kitOne K (.type (tyD d)) (.ref T.C) = some false
def rStrFil {R : TRows K mg} (T : TFill R) : List V → Hp → VK → Prop := fun xs H Q => ∃ (a : Addr) (ds : List FD), xs = [.ref a] ∧ FilI T H a ds ∧ filOk ds ∧ ∀ H', Same H H' → Q (.str (filText ds)) H'
theorem call_strFil {X : Cx} {R : TRows X.K X.mg} {T : TFill R} (S : TFilM T) (hr : Room 7 X.A) : CallR X (.type "str") (rStrFil T) := by
  intro pins s σ H xs us Q I rv h
  obtain ⟨a, ds, rfl, hp, hok, q⟩ := h
  obtain ⟨dx, tp, ps, ha, h2⟩ := id hp
  exact call_strIns (ok_fStr S) S.str.hf hr S.str.b pass0 pins s σ H _ us Q I rv ⟨a, _, dx, _, rfl, ha, S.str.hs, a, ds, rfl, hp, hok, fun H' s' => ⟨_, rfl, q H' s'⟩⟩
theorem call_strFilK {X : Cx} {K : PySem.W.Frag} {mg : Str → Option Value} (hK : X.K = K) (hm : X.mg = mg) {R : TRows K mg} {T : TFill R} (S : TFilM T) (hr : Room 7 X.A) : CallR X (.type "str") (rStrFil T) := by
  subst hK
  subst hm
  exact call_strFil S hr
def spFEq {R : TRows K mg} (T : TFill R) : Sp := fun vs H Q _ => ∃ (a : Addr) (y : V) (ds : List FD), vs = [.ref a, y] ∧ FilI T H a ds ∧ filOk ds ∧ ((∃ d, Dp K H y d ∧ Q (.bl false) H) ∨ ∃ (b : Addr) (es : List FD), y = .ref b ∧ FilI T H b es ∧ filOk es ∧ ∀ H', Same H H' → Q (.bl (decide (filText ds = filText es))) H')
theorem scFEq : FnScope ["self", "other"] ["self", "other"] (defScope sFEq) := ⟨rfl, rfl, rfl, by decide +kernel, rfl, by decide +kernel, by decide +kernel⟩
theorem ok_fEq {R : TRows K mg} {T : TFill R} {S : TFilM T} (Z : TFilE S) : FnOk P w K mg base CX0 8 Z.eq.f Z.eq.fd ["self", "other"] (spFEq T) := by
  refine Z.eq.F.ok scFEq (fun vs H Q E h => ?_) (fun cdv A outer s H vs Q E hr h => ?_)
  · obtain ⟨a, y, ds, rfl, _⟩ := h
    rfl
  · obtain ⟨a, y, ds, rfl, ha, hok, q⟩ := h
    refine ⟨_, pss_one (ps_ret (pe_and (pe_callB call_isi (by rfl) R.N.mIsi (by decide +kernel) (pa_cons (pv 1) (pa_cons (pe_glob (v := .ref T.C) (by rfl) T.mC rfl) pa_nil)))
      (pe_one (pe_cmpR op_eq (pe_callTy (call_strFilK (K := K) (mg := mg) rfl rfl S hr) (by rfl) R.N.mStr (by decide +kernel) (pa_cons (pv 0) pa_nil)) (pe_callTy (call_strFilK (K := K) (mg := mg) rfl rfl S hr) (by rfl) R.N.mStr (by decide +kernel) (pa_cons (pv 1) pa_nil)) (nomark _))))), ?_⟩
    rcases q with ⟨d, hd, q⟩ | ⟨b, es, rfl, hb, hokb, q⟩
    · refine ⟨_, rfl, y, .ref T.C, _, _, false, rfl, .own _, dp_ty hd, Z.kD d, _, rfl, iteF ?_⟩
      exact q
    · obtain ⟨dy, tq, ps2, hb2, _⟩ := id hb
      refine ⟨_, rfl, .ref b, .ref T.C, _, _, true, rfl, .own _, .base (.ins hb2 T.cl Z.cA T.cN T.cT Z.cM), Z.kC, _, rfl, iteT ?_⟩
      refine ⟨_, rfl, a, ds, rfl, ha, hok, fun H1 s1 => ⟨_, rfl, b, es, rfl, hb.same s1, hokb, fun H2 s2 => ⟨rfl, ?_⟩⟩⟩
      have e : decide (V.str (filText ds) = V.str (filText es)) = decide (filText ds = filText es) := by
        by_cases h : filText ds = filText es
        · rw [h, decide_eq_true rfl, decide_eq_true rfl]
        · rw [decide_eq_false h, decide_eq_false (fun z => h (V.str.inj z))]
      rw [e]
      exact q H2 (s1.trans s2)
end
end Pn

namespace Pn
open PySem PySem.W PyProof.Rows
/-! ### a text == an own instance: the text declines, the instance is asked -/
theorem meets_str_eq_ref {z : Str} {t : Tok} {a : Addr} : Meets (Builtin.«str.__eq__» ⟨[.str z t, .ref a], []⟩) (fun _ R s => (∃ o : Obj, s.heap.get? a = some o ∧ ∀ y u, o.data ≠ .prim (.str y u)) ∧ R (.ok (.ret .notImplemented)) s) := by
  refine Meets.of_wp fun prog w A R s hS => ?_
  obtain ⟨⟨o, ho, hd⟩, q⟩ := hS
  have as : ∀ {Q : Option PySem.Str → Shared → Prop} {E : Value → Shared → Prop}, Q none s → wpAny (model prog w) A.in1 (asStr? (.ref a)) Q E s := fun {Q E} h => by
    simp only [asStr?]
    refine wpAny_bind (wpAny_load ho ?_)
    split
    · rename_i y u e
      exact absurd e (hd y u)
    · exact wpAny_pure h
  unfold Builtin.«str.__eq__» Builtin.Str.strCompare
  refine wpAny_bind (wpAny_of_eq (show Builtin.Str.strSlot "__eq__" 1 ⟨[.str z t, .ref a], []⟩ = pure (.str z t, z, [.ref a]) from rfl) ?_)
  show wpAny _ _ (asStr? (.ref a) >>= _) _ _ _
  refine wpAny_bind (as ?_)
  repeat (first
    | exact ⟨_, rfl, q⟩
    | wp_step)
theorem cmp_str_ins {prog : Program} {w : World} {A : Around} {E : Value → Shared → Prop} {s : Shared} {K : Frag} {x C L f : Addr} {h₀ : Heap} {m : Str → Option Value} {ox : Obj} {od : Option Obj} {z : Str} {t : Tok} {Q : Value → Shared → Prop}
    (hu : A.units < PySem.cLine) (F : Fr h₀ L s.heap m) (X₀ : K.In h₀) (I : InstAt s.heap x ox C od) (hd : ∀ y u, ox.data ≠ .prim (.str y u)) (hn : subIn K (.ref C) (.type "str") = some false)
    (hs : findIn K (.ref C) (cmpInfo .Eq).2.2 = some (some (.ref f))) (hf : isFn K (.ref f) = true)
    (h : wpAny (model prog w) A (call (.ref f) [.ref x, .str z t]) (PySem.W.CmpBack Q) E s) : wpAny (model prog w) A (richCompare .Eq (.str z t) (.ref x)) Q E s := by
  have X := X₀.keeps F.keep
  have two : wpAny (model prog w) A (tryCompare (.ref x) (cmpInfo .Eq).2.2 (.str z t)) (fun r s' => ∃ v, r = some v ∧ Q v s') E s := by
    unfold tryCompare
    refine wpAny_bind (ifBound_K X I hs hf (wpAny_mono h (fun v s' hv => ?_) fun _ _ e => e))
    cases v <;> first | exact hv.elim | exact wpAny_pure ⟨_, rfl, hv⟩
  unfold richCompare
  simp only [(typeIs_str s z t).oneThing_none]
  refine wpAny_holding (wpAny_bind (wpAny_cRoomFor hu ?_))
  refine wpAny_bind (wpAny_typeOf (typeIs_str s z t) (wpAny_bind (I.type.here ?_)))
  rw [if_pos (by rfl)]
  refine wpAny_bind ((looks_subIn X hn).here ?_)
  simp only [Bool.false_eq_true, if_false, Bool.not_false, if_true]
  have ho : s.heap.get? x = some ox := I.1
  refine wpAny_bind (m := tryCompare (.str z t) _ (.ref x)) (wpAny_tryCompare_declines (typeIs_str s z t) PySem.F.slot_str_eq (call_meets PySem.F.slot_str_eq (typeIs_str s z t) PySem.F.entry_str_eq (PySem.F.args_str_eq_2 _ _) meets_str_eq_ref ⟨⟨ox, ho, hd⟩, rfl, ?_⟩))
  refine wpAny_bind (wpAny_mono two (fun r s' z => ?_) fun _ _ e => e)
  obtain ⟨v, rfl, hq⟩ := z
  exact wpAny_pure hq
end Pn

namespace Pn
open PySem L2
section
variable {X : Cx} {CX : CXT} {k : Nat} {f : Addr} {fd : FuncData} {ps : List Str} {sp : Sp} {E : XK}
/-- a text == data, or an own instance whose class has an __eq__ of its own -/
def rEqSO (K : PySem.W.Frag) (f : Addr) (sp : Sp) (E : XK) : R2 := fun x y H Q => rEqD K x y H Q ∨ ∃ (z : Str) (a C dx : Addr) (fs : List (Str × V)), x = .str z ∧ y = .ref a ∧ H a = some (.ins C dx fs) ∧ PySem.W.findIn K (.ref C) "__eq__" = some (some (.ref f)) ∧ PySem.W.subIn K (.ref C) (.type "str") = some false ∧ sp [y, x] H Q E
theorem op_eqSO (F : FnOk X.prog X.w X.K X.mg X.base CX k f fd ps sp) (hf : PySem.W.isFn X.K (.ref f) = true) (hu : X.A.units + 64 < PySem.cLine) (hr : Room k X.A) (hb : Binds X.K fd ps []) (hx : Passes CX X E) : OpR X (compareOp .Eq) (rEqSO X.K f sp E) := by
  intro pins s σ H x y v u Q I rx ry h
  rcases h with h | ⟨z, a, C, dx, fs, rfl, rfl, ha, hs, hn, q⟩
  · exact op_eqD hu pins s σ H x y v u Q I rx ry h
  obtain ⟨t, rfl⟩ := rx
  cases ry
  obtain ⟨mA, O, _⟩ := ins_get I.hok ha
  obtain ⟨od, J, _⟩ := O.look
  obtain ⟨m, hF⟩ := I.fr
  show wpAny (model X.prog X.w) X.A (richCompare .Eq (.str z t) (.ref a)) (EP X pins σ Q) X.xe s
  refine cmp_str_ins hr.units0 hF I.ok.mod.kin J (fun _ _ e => by cases e) hn hs hf ?_
  refine wpAny_mono (run_fnA F hr I.env0 hb hx I (.cons (show RelV (.ref a) (Value.ref a) from rfl) (.cons (show RelV (.str z) (Value.str z t) from ⟨t, rfl⟩) .nil)) q) (fun w s' z => ?_) fun _ _ x => x
  obtain ⟨z', H', I', rz, qz⟩ := z
  exact SlX.cmpback rz ⟨z', H', I', rz, qz⟩
end
end Pn

namespace Pn
open PySem PySem.Spec PyProof.Rows L2 TL
section
variable {P : Program} {w : World} {K : PySem.W.Frag} {mg : Str → Option Value} {base : Heap}
theorem roomW {k : Nat} {A : Around} (r : Room k A) : A.units + 64 < PySem.cLine := by have := r.un; omega
/-! ### the rows for a name -/
def spFRows {R : TRows K mg} (T : TFill R) : Sp := fun vs H Q _ => ∃ (a : Addr) (y : V) (ds : List FD), vs = [.ref a, y] ∧ FilI T H a ds ∧ filOk ds ∧
  ((∃ z : Str, y = .str z ∧ PyData.strOk z = true ∧ (∀ d ∈ ds, d.1 = z → ∀ q us, SqT K H q (us.map V.ref) → Paired (fun u r => RowAt R H u r) us d.2 → Q (.ref q) H) ∧ ((∀ d ∈ ds, d.1 ≠ z) → ∀ p, H p = none → Q (.ref p) (upd H p (.tup [])))) ∨
   (∃ e : PyData, Dp K H y e ∧ SeqAt.shaped e = true ∧ (∀ s, e ≠ .str s) ∧ ∀ p, H p = none → Q (.ref p) (upd H p (.tup []))) ∨
   (∃ (b : Addr) (es : List FD), y = .ref b ∧ FilI T H b es ∧ filOk es ∧ PySem.W.subIn K (.ref T.C) (.type "str") = some false ∧ ∀ p, H p = none → Q (.ref p) (upd H p (.tup []))))
theorem scFRows : FnScope ["self", "name", "one", "rows"] ["self", "name"] (defScope sFRows) := ⟨rfl, rfl, rfl, by decide +kernel, rfl, by decide +kernel, by decide +kernel⟩
theorem eqv_ss (a z : Str) : PyData.eqv (.str a) (.str z) = decide (a = z) := by
  have e : PyData.eqv (.str a) (.str z) = (a == z) := by simp [PyData.eqv]
  rw [e]
  by_cases h : a = z
  · rw [h, decide_eq_true rfl]
    exact beq_self_eq_true z
  · rw [decide_eq_false h]
    exact beq_eq_false_iff_ne.mpr h
theorem eqv_sn {a : Str} {e : PyData} (h : ∀ s, e ≠ .str s) : PyData.eqv (.str a) e = false := by
  cases e with
  | str s => exact absurd rfl (h s)
  | none => simp [PyData.eqv]
  | bool b => simp [PyData.eqv]
  | int i => simp [PyData.eqv]
  | list l => simp [PyData.eqv]
  | tuple l => simp [PyData.eqv]
  | dict l => simp [PyData.eqv]
theorem ok_fRows {R : TRows K mg} {T : TFill R} {S : TFilM T} (Z : TFilE S) : FnOk P w K mg base CX0 10 S.rowsFor.f S.rowsFor.fd ["self", "name"] (spFRows T) := by
  refine S.rowsFor.F.ok scFRows (fun vs H Q E h => ?_) (fun cdv A outer s H vs Q E hr h => ?_)
  · obtain ⟨a, y, ds, rfl, _⟩ := h
    rfl
  · obtain ⟨a, y, ds, rfl, hF, hok, q⟩ := h
    refine ⟨_, (pss_cons (ps_for PassesOwn.never rfl (pi_tup (pe_fld (pv 0) rfl)) (pg_tup (by rfl) (pgs_cons (pg_name (i := 2) scFRows.nd rfl (Or.inl rfl)) (pgs_cons (pg_name (i := 3) scFRows.nd rfl (Or.inl rfl)) pgs_nil)))
(pss_one (ps_if (pt_cmpR (op_eqSO (ok_fEq Z) Z.eq.hf (roomW hr) (hr.mono (by decide)) Z.eq.b pass0) (pv 2) (pv 1) (nomark _)) (pss_one (ps_ret (pv 3))) pss_nil)))
(pss_one (ps_ret (pe_tup pa_nil)))), ?_⟩
    obtain ⟨dx, tp, ps, ha, htp, hps⟩ := id hF
    have hpl := paired_len hps
    refine ⟨_, rfl, a, T.C, dx, _, .ref tp, rfl, ha, T.cl, T.noF, fil_fld, tp, rfl, ⟨_, htp⟩, for_tup (xs := ps.map V.ref) (fun i σ Hx => (∃ y2 y3, σ = [some (.ref a), some y, y2, y3]) ∧ Hx = H ∧ ∀ z, y = .str z → ∀ j d, j < i → ds[j]? = some d → d.1 ≠ z) ⟨⟨_, _, rfl⟩, rfl, fun _ _ j d h => absurd h (Nat.not_lt_zero _)⟩ (fun i σ Hx _ hP => by obtain ⟨_, rfl, _⟩ := hP; exact htp) (fun i v σ Hx hv hP => ?turn) (fun σ Hx hP => ?fin)⟩
    case fin =>
      obtain ⟨⟨y2, y3, rfl⟩, rfl, no⟩ := hP
      rw [List.length_map, hpl] at no
      refine ⟨Nat.zero_le _, fun p hp => ?_⟩
      rcases q with ⟨z, rfl, _, _, q⟩ | ⟨e, _, _, _, q⟩ | ⟨b, es, _, _, _, _, q⟩
      · exact q (fun d hd => by
          obtain ⟨j, hj⟩ := List.mem_iff_getElem?.mp hd
          exact no z rfl j d (List.getElem?_eq_some_iff.mp hj).1 hj) p hp
      · exact q p hp
      · exact q p hp
    case turn =>
      obtain ⟨⟨y2, y3, rfl⟩, rfl, no⟩ := hP
      rw [List.getElem?_map] at hv
      obtain ⟨p, hp, rfl⟩ := Option.map_eq_some_iff.mp hv
      obtain ⟨d, hd, q', us, g1, g2, g3⟩ := paired_at hps hp
      obtain ⟨o1, _, _⟩ := hok.2 d (List.mem_of_getElem? hd)
      have sh1 : SeqAt.shaped (.str d.1) = true := str_shaped (name_ok o1).1
      refine ⟨p, _, rfl, g1, rfl, _, _, rfl, _, _, rfl, rfl, ?_⟩
      try dsimp only [List.set]
      have go : ∀ z, y = .str z → d.1 ≠ z → ∀ j d', j < i + 1 → ds[j]? = some d' → d'.1 ≠ z := fun z e ne j d' hj hd' => by
        rcases Nat.lt_or_ge j i with h | h
        · exact no z e j d' h hd'
        · obtain rfl : j = i := by omega
          rw [hd] at hd'
          cases hd'
          exact ne
      rcases q with ⟨z, rfl, zok, q, _⟩ | ⟨e, he, hsh, hne, q⟩ | ⟨b, es, rfl, hb, hbo, hsub, q⟩
      · refine ⟨_, rfl, _, rfl, .inl ⟨.str d.1, .str z, .str _, .str _, sh1, str_shaped zok, _, rfl, ?_⟩⟩
        rw [eqv_ss]
        by_cases h : d.1 = z
        · refine iteTD (decide_eq_true h) ?_
          exact ⟨_, rfl, q d (List.mem_of_getElem? hd) h q' us g2 g3⟩
        · refine iteFD (decide_eq_false h) ?_
          exact ⟨⟨_, _, rfl⟩, rfl, fun z' e => by cases e; exact go z rfl h⟩
      · refine ⟨_, rfl, _, rfl, .inl ⟨.str d.1, e, .str _, he, sh1, hsh, _, rfl, ?_⟩⟩
        rw [eqv_sn hne]
        refine iteF ?_
        exact ⟨⟨_, _, rfl⟩, rfl, fun z' ez => by subst ez; cases he; exact absurd rfl (hne z')⟩
      · obtain ⟨dy, tq, ps2, hb2, _⟩ := id hb
        refine ⟨_, rfl, _, rfl, .inr ⟨d.1, b, T.C, dy, _, rfl, rfl, hb2, Z.eq.hs, hsub, b, .str d.1, es, rfl, hb, hbo, .inl ⟨.str d.1, .str _, _, rfl, ?_⟩⟩⟩
        refine iteF ?_
        exact ⟨⟨_, _, rfl⟩, rfl, fun z' ez => by cases ez⟩
end
end Pn

namespace Pn
open PySem PySem.Spec PyProof.Rows L2 TL
section
variable {K : PySem.W.Frag} {mg : Str → Option Value}
/-! ### from what Filling.__init__ leaves to a filling with what it tells -/
theorem fil_items {R : TRows K mg} {cs : List FilD} {H : Hp} : ∀ {ps : List Addr} {ys : List Str}, Paired (fun p y => ∃ (c : FilD) (q : Addr) (us : List Addr), c ∈ cs ∧ c.1 = y ∧ SqT K H p [.str y, .ref q] ∧ SqT K H q (us.map V.ref) ∧ Paired (fun u r => RowAt R H u r) us c.2.2 ∧ ∀ r ∈ c.2.2, fillB r = true) ps ys →
    ∃ ds : List FD, Paired (FItem R H) ps ds ∧ ds.map (·.1) = ys ∧ ∀ d ∈ ds, ∃ c ∈ cs, c.1 = d.1 ∧ c.2.2 = d.2
  | _, _, .nil => ⟨[], .nil, rfl, fun _ z => nomatch z⟩
  | _, _, .cons ⟨c, q, us, hc, e, h1, h2, h3, _⟩ b => by
    obtain ⟨ds, g1, g2, g3⟩ := fil_items b
    refine ⟨(c.1, c.2.2) :: ds, .cons ⟨q, us, by rw [e]; exact h1, h2, h3⟩ g1, by rw [List.map_cons, g2, ← e], fun d hd => ?_⟩
    rcases List.mem_cons.mp hd with rfl | hd
    · exact ⟨c, hc, rfl, rfl⟩
    · exact g3 d hd
/-- the rows of a name among pairs of different names -/
theorem one_rows {cs : List FilD} (nd : (cs.map (·.1)).Nodup) {c c' : FilD} (h : c ∈ cs) (h' : c' ∈ cs) (e : c.1 = c'.1) : c = c' := by
  induction cs with
  | nil => cases h
  | cons x cs ih =>
    rw [List.map_cons, List.nodup_cons] at nd
    rcases List.mem_cons.mp h with rfl | h1
    · rcases List.mem_cons.mp h' with rfl | h2
      · rfl
      · exact absurd (e ▸ List.mem_map_of_mem (f := (·.1)) h2) nd.1
    · rcases List.mem_cons.mp h' with rfl | h2
      · exact absurd (e.symm ▸ List.mem_map_of_mem (f := (·.1)) h1) nd.1
      · exact ih nd.2 h1 h2
/-- a made filling -/
theorem filI_of {R : TRows K mg} (T : TFill R) {cs : List FilD} {H : Hp} {x dx tp : Addr} (hx : H x = some (insFil T.C dx (.ref tp))) (h : FilAt R H tp cs) (nd : (cs.map (·.1)).Nodup) :
    ∃ ds : List FD, FilI T H x ds ∧ (ds.map (·.1)).Perm (uniq ((cs.filter fun c => decide (c.2.2 ≠ [])).map (·.1))) ∧ sortedS (ds.map (·.1)) = true ∧ ∀ d ∈ ds, ∃ c ∈ cs, c.1 = d.1 ∧ c.2.2 = d.2 := by
  obtain ⟨ps, ys, h1, h2, h3, h4⟩ := h
  obtain ⟨ds, g1, g2, g3⟩ := fil_items h4
  exact ⟨ds, ⟨dx, tp, ps, hx, h1, g1⟩, by rw [g2]; exact h2, by rw [g2]; exact h3, g3⟩
end
end Pn

namespace Pn
open PySem L2
theorem iteTB {c : Bool} {A B : Prop} (hc : c = true) (h : A) : if c = true then A else B := by
  rw [if_pos hc]
  exact h
theorem iteFB {c : Bool} {A B : Prop} (hc : c = false) (h : B) : if c = true then A else B := by
  rw [hc, if_neg Bool.false_ne_true]
  exact h
theorem kF {A B : Hp → Prop} {H : Hp} (h : B H) : (fun (b : Bool) H1 => if b = true then A H1 else B H1) false H := by
  show if false = true then A H else B H
  rw [if_neg Bool.false_ne_true]
  exact h
abbrev sDeal : Stmt := top 75
abbrev sDraw : Stmt := top 76
/-! ### draws out of a deal: a list of a list of great numbers and a number -/
/-- the heap but for a deal -/
def hh (H : Hp) (d g : Addr) : Hp := hid (hid H d) g
def DealAt (H : Hp) (d g : Addr) : Prop := d ≠ g ∧ ∃ (xs : List Int) (m : Int), H d = some (.lst [.ref g, .int m]) ∧ H g = some (.lst (xs.map V.int)) ∧ (∀ x ∈ xs, 0 ≤ x) ∧ 0 ≤ m ∧ m < 2147483647 ∧ xs.length ≤ 63
theorem hh_ne {H : Hp} {d g a : Addr} {o : HO} (h : hh H d g a = some o) : a ≠ d ∧ a ≠ g ∧ H a = some o := by
  unfold hh hid at h
  by_cases h1 : a = g
  · rw [if_pos h1] at h; cases h
  · rw [if_neg h1] at h
    by_cases h2 : a = d
    · rw [if_pos h2] at h; cases h
    · rw [if_neg h2] at h; exact ⟨h2, h1, h⟩
theorem hh_get {H : Hp} {d g a : Addr} {o : HO} (h : H a = some o) (n1 : a ≠ d) (n2 : a ≠ g) : hh H d g a = some o := hid_get (hid_get h n1) n2
theorem hh_sub {H : Hp} {d g : Addr} : Same (hh H d g) H := fun _ _ e => (hh_ne e).2.2
theorem hh_same {H H' : Hp} {d g : Addr} (s : Same H H') : Same (hh H d g) (hh H' d g) := fun _ _ e => by
  obtain ⟨n1, n2, e⟩ := hh_ne e
  exact hh_get (s _ _ e) n1 n2
theorem hh_d {H : Hp} {d g : Addr} {o : HO} : Same (hh H d g) (hh (upd H d o) d g) := fun _ _ e => by
  obtain ⟨n1, n2, e⟩ := hh_ne e
  exact hh_get (by rw [upd_ne n1]; exact e) n1 n2
theorem hh_g {H : Hp} {d g : Addr} {o : HO} : Same (hh H d g) (hh (upd H g o) d g) := fun _ _ e => by
  obtain ⟨n1, n2, e⟩ := hh_ne e
  exact hh_get (by rw [upd_ne n2]; exact e) n1 n2
theorem DealAt.there {H : Hp} {d g : Addr} (h : DealAt H d g) : H d ≠ none ∧ H g ≠ none := by
  obtain ⟨_, xs, m, e1, e2, _⟩ := h
  refine ⟨fun z => ?_, fun z => ?_⟩
  · rw [e1] at z; cases z
  · rw [e2] at z; cases z
theorem DealAt.new {H : Hp} {d g p : Addr} {o : HO} (h : DealAt H d g) (hp : H p = none) : DealAt (upd H p o) d g := by
  obtain ⟨n, xs, m, e1, e2, r⟩ := h
  exact ⟨n, xs, m, by rw [upd_ne (ne_of_none e1 hp)]; exact e1, by rw [upd_ne (ne_of_none e2 hp)]; exact e2, r⟩
theorem DealAt.same {H H' : Hp} {d g : Addr} (h : DealAt H d g) (s : Same H H') : DealAt H' d g := by
  obtain ⟨n, xs, m, e1, e2, r⟩ := h
  exact ⟨n, xs, m, s _ _ e1, s _ _ e2, r⟩
theorem DealAt.upd {H : Hp} {d g p : Addr} {o : HO} (h : DealAt H d g) (n1 : p ≠ d) (n2 : p ≠ g) : DealAt (upd H p o) d g := by
  obtain ⟨n, xs, m, e1, e2, r⟩ := h
  exact ⟨n, xs, m, by rw [upd_ne n1.symm]; exact e1, by rw [upd_ne n2.symm]; exact e2, r⟩
/-- what is new beside a deal -/
theorem DealAt.nd {H : Hp} {d g p : Addr} (h : DealAt H d g) (hp : H p = none) : p ≠ d ∧ p ≠ g := ⟨fun z => h.there.1 (z ▸ hp), fun z => h.there.2 (z ▸ hp)⟩
theorem hh_new {H : Hp} {d g p : Addr} {o : HO} (hp : H p = none) : Same (hh H d g) (hh (upd H p o) d g) := hh_same (Same.new hp)
theorem hh_at {H : Hp} {d g p : Addr} {o : HO} (h : DealAt H d g) (hp : H p = none) : hh (upd H p o) d g p = some o := hh_get upd_same (h.nd hp).1 (h.nd hp).2
theorem ints_at {xs : List Int} {i : Nat} {x : Int} (h : xs[i]? = some x) : (xs.map V.int)[i]? = some (.int x) := by rw [List.getElem?_map, h]; rfl
section
variable {P : Program} {w : World} {K : PySem.W.Frag} {mg : Str → Option Value} {base : Heap}
def spDraw : Sp := fun vs H Q _ => ∃ (d g : Addr) (m : Int), vs = [.ref d, .int m] ∧ DealAt H d g ∧ 0 < m ∧ m < 2147483648 ∧ ∀ (r : Int) (H' : Hp), 0 ≤ r → r < m → DealAt H' d g → Same (hh H d g) (hh H' d g) → Mo H H' → Q (.int r) H'
theorem scDraw : FnScope ["_law_deal_here", "_law_many", "_law_left"] ["_law_deal_here", "_law_many"] (defScope sDraw) := ⟨rfl, rfl, rfl, by decide +kernel, rfl, by decide +kernel, by decide +kernel⟩
theorem dp_intsL (K : PySem.W.Frag) (H : Hp) : ∀ xs : List Int, DpAll K H (xs.map V.int) (xs.map PyData.int)
  | [] => .nil
  | _ :: r => .cons (.int _) (dp_intsL K H r)
theorem intsL_sh (xs : List Int) : SeqAt.shaped (.list (xs.map PyData.int)) = true := by
  have a : ∀ l : List Int, PyData.canLayAll0 (l.map PyData.int) = true ∧ PyData.depthAll (l.map PyData.int) = 0 := by
    intro l
    induction l with
    | nil => exact ⟨by simp only [List.map_nil, PyData.canLayAll0], by simp only [List.map_nil, PyData.depthAll]⟩
    | cons x l ih => exact ⟨by simp only [List.map_cons, PyData.canLayAll0, PyData.canLay0, ih.1, Bool.and_self], by simp only [List.map_cons, PyData.depthAll, PyData.depth, ih.2, Nat.max_self]⟩
  unfold SeqAt.shaped
  simp only [PyData.canLay0, PyData.depth, (a xs).1, (a xs).2, Bool.true_and]
  decide
theorem intsL_nil (xs : List Int) : PyData.eqv (.list (xs.map PyData.int)) (.list []) = xs.isEmpty := by
  cases xs with
  | nil => decide +kernel
  | cons x l => simp [PyData.eqv, PyData.eqvAll]
/-- a deal and what it holds, beside what stood ahead -/
structure DL (H0 H : Hp) (d g : Addr) (xs : List Int) (mm : Int) : Prop where
  ne : d ≠ g
  hd : H d = some (.lst [.ref g, .int mm])
  hg : H g = some (.lst (xs.map V.int))
  pos : ∀ x ∈ xs, 0 ≤ x
  lo : 0 ≤ mm
  hi : mm < 2147483647
  len : xs.length ≤ 63
  s : Same (hh H0 d g) (hh H d g)
  m : Mo H0 H
theorem DL.new {H0 H : Hp} {d g p : Addr} {xs : List Int} {mm : Int} {o : HO} (D : DL H0 H d g xs mm) (hp : H p = none) : DL H0 (upd H p o) d g xs mm :=
  ⟨D.ne, by rw [upd_ne (ne_of_none D.hd hp)]; exact D.hd, by rw [upd_ne (ne_of_none D.hg hp)]; exact D.hg, D.pos, D.lo, D.hi, D.len, D.s.trans (hh_new hp), D.m.trans Mo.upd⟩
theorem DL.setG {H0 H : Hp} {d g : Addr} {xs ys : List Int} {mm : Int} (D : DL H0 H d g xs mm) (hp : ∀ y ∈ ys, 0 ≤ y) (hl : ys.length ≤ 63) : DL H0 (upd H g (.lst (ys.map V.int))) d g ys mm :=
  ⟨D.ne, by rw [upd_ne D.ne]; exact D.hd, upd_same, hp, D.lo, D.hi, hl, D.s.trans hh_g, D.m.trans Mo.upd⟩
theorem DL.setD {H0 H : Hp} {d g : Addr} {xs : List Int} {mm m2 : Int} (D : DL H0 H d g xs mm) (l : 0 ≤ m2) (h : m2 < 2147483647) : DL H0 (upd H d (.lst [.ref g, .int m2])) d g xs m2 :=
  ⟨D.ne, upd_same, by rw [upd_ne D.ne.symm]; exact D.hg, D.pos, l, h, D.len, D.s.trans hh_d, D.m.trans Mo.upd⟩
theorem DL.at {H0 H : Hp} {d g : Addr} {xs : List Int} {mm : Int} (D : DL H0 H d g xs mm) : DealAt H d g := ⟨D.ne, xs, mm, D.hd, D.hg, D.pos, D.lo, D.hi, D.len⟩
theorem ok_draw {f : Addr} {fd : FuncData} (F : Fun K "_law_draw" "_law_draw" sDraw f fd) (mI : mg "int" = none) : FnOk P w K mg base CX0 1 f fd ["_law_deal_here", "_law_many"] spDraw := by
  refine F.ok scDraw (fun vs H Q E h => ?_) (fun cdv A outer s H vs Q E hr h => ?_)
  · obtain ⟨d, g, m, rfl, _⟩ := h
    rfl
  · obtain ⟨d, g, m, rfl, hD, h0, h1, k⟩ := h
    refine ⟨_, pss_cons (ps_while PassesOwn.never (PW.pt (pw_and (pt_cmpR (op_neD hr.units) (pe_ix ix_list (pv 0) pe_int (fun _ _ => rfl)) (pe_lst pa_nil) (nomark _)) (pw_and1 (pt_cmpR op_eq (pe_ix ix_list (pe_ix ix_list (pv 0) pe_int (fun _ _ => rfl)) (pe_un un_neg pe_int) (fun _ _ => rfl)) pe_int (nomark _)))))
        (pss_one (ps_expr (pe_bm0 PySem.F.plainAttrs_list PySem.F.slot_list_pop PySem.F.type_list_pop mt_pop (pe_ix ix_list (pv 0) pe_int (fun _ _ => rfl))))))
      (pss_cons (ps_if (pt_cmpR (op_neD hr.units) (pe_ix ix_list (pv 0) pe_int (fun _ _ => rfl)) (pe_lst pa_nil) (nomark _))
        (pss_cons (ps_set (i := 2) scDraw.nd rfl (Or.inl rfl) (pe_bm0 PySem.F.plainAttrs_list PySem.F.slot_list_pop PySem.F.type_list_pop mt_pop (pe_ix ix_list (pv 0) pe_int (fun _ _ => rfl))))
        (pss_cons (ps_expr (pe_bm PySem.F.plainAttrs_list PySem.F.slot_list_append PySem.F.type_list_append mt_append (pe_ix ix_list (pv 0) pe_int (fun _ _ => rfl)) (pa_cons (pe_op op_fdivW (pv 2) (pv 1)) pa_nil)))
        (pss_one (ps_ret (pe_op op_mod (pe_callTy call_int1 (by rfl) mI (by decide +kernel) (pa_cons (pv 2) pa_nil)) (pv 1)))))) pss_nil)
      (pss_cons (ps_asg (pe_op op_mod (pe_callTy call_int1 (by rfl) mI (by decide +kernel) (pa_cons (pe_op op_add (pe_op op_mul (pe_ix ix_list (pv 0) pe_int (fun _ _ => rfl)) pe_int) pe_int) pa_nil)) pe_int) (pg_sub (pv 0) pe_int set_list))
      (pss_one (ps_ret (pe_op op_mod (pe_callTy call_int1 (by rfl) mI (by decide +kernel) (pa_cons (pe_op op_fdiv (pe_ix ix_list (pv 0) pe_int (fun _ _ => rfl)) pe_int) pa_nil)) (pv 1)))))), ?_⟩
    obtain ⟨ne, xs0, mm0, e1, e2, e3, e4, e5, e6⟩ := hD
    have rev2 : ∀ (l : List Int) (x : Int), ((l ++ [x]).map V.int).dropLast = l.map V.int := fun l x => by rw [List.map_append]; exact List.dropLast_concat
    have lst2 : ∀ (l : List Int) (x : Int), ((l ++ [x]).map V.int)[((l ++ [x]).map V.int).length - 1]? = some (.int x) := fun l x => by
      rw [List.map_append, List.length_append]
      show (l.map V.int ++ [V.int x])[(l.map V.int).length + 1 - 1]? = _
      rw [Nat.add_sub_cancel, List.getElem?_append_right (Nat.le_refl _), Nat.sub_self]
      rfl
    refine ⟨fun n σ Hc => ∃ (x2 : Option V) (xs : List Int), σ = [some (.ref d), some (.int m), x2] ∧ xs.length = n ∧ DL H Hc d g xs mm0, ⟨_, none, xs0, rfl, rfl, ne, e1, e2, e3, e4, e5, e6, Same.refl _, Mo.refl _⟩, fun n σ Hc hP => ?_⟩
    obtain ⟨x2, xs, rfl, hn, D⟩ := hP
    refine ⟨_, rfl, d, _, _, _, rfl, rfl, SqL.of D.hd, rfl, (by show 0 ≤ sizeLine; decide), fun p hp => ?_⟩
    have D1 := D.new (o := .lst []) hp
    refine ⟨.list (xs.map PyData.int), .list [], .lst (SqL.of D1.hg) (dp_intsL _ _ xs), .lst (SqL.of upd_same) .nil, intsL_sh xs, by decide +kernel, _, rfl, ?_⟩
    rw [intsL_nil]
    generalize upd Hc p (.lst []) = Hp1 at D1 ⊢
    have hx : ∀ (l : List Int) (x : Int), atI ((l ++ [x]).map V.int) (-1) = some (.int x) := fun l x => by rw [List.map_append]; exact atI_last _ _
    rcases List.eq_nil_or_concat xs with hxs | ⟨l, x, hxs⟩
    · subst hxs
      refine iteFB rfl ?_
      refine iteF ?_
      refine ⟨_, rfl, d, _, _, _, rfl, rfl, SqL.of D1.hd, rfl, (by show 0 ≤ sizeLine; decide), fun p2 hp2 => ?_⟩
      have D2 := D1.new (o := .lst []) hp2
      refine ⟨.list (([] : List Int).map PyData.int), .list [], .lst (SqL.of D2.hg) (dp_intsL _ _ []), .lst (SqL.of upd_same) .nil, intsL_sh [], by decide +kernel, _, rfl, ?_⟩
      rw [intsL_nil]
      generalize upd Hp1 p2 (.lst []) = Hp2 at D2 ⊢
      refine iteFB rfl ?_
      have a1 := D2.lo
      have a2 := D2.hi
      refine ⟨_, rfl, _, _, _, _, rfl, rfl, SqL.of D2.hd, rfl, _, _, rfl, rfl, .inl ⟨by omega, by omega⟩, _, _, rfl, rfl, .inl ⟨_, rfl, _, _, rfl, rfl, (by show (0 : Int) < 2147483647; decide), ?_⟩⟩
      refine ⟨_, rfl, _, _, _, _, rfl, rfl, D2.hd, rfl, ?_⟩
      have D3 := D2.setD (m2 := (mm0 * 48271 + 23) % 2147483647) (by omega) (by omega)
      refine ⟨_, rfl, _, _, _, _, rfl, rfl, SqL.of D3.hd, rfl, _, _, rfl, rfl, ⟨by decide, by decide⟩, .inl ⟨_, rfl, _, rfl, _, _, rfl, rfl, h0, ?_⟩⟩
      exact k _ _ (Int.emod_nonneg _ (by omega)) (Int.emod_lt_of_pos _ h0) D3.at D3.s D3.m
    · rw [List.concat_eq_append] at hxs
      subst hxs
      have hne : (!(l ++ [x]).isEmpty) = true := by cases l <;> rfl
      rw [hne]
      refine iteT ?_
      refine ⟨_, rfl, d, _, _, _, rfl, rfl, SqL.of D1.hd, rfl, 1, rfl, g, _, _, _, rfl, rfl, SqL.of D1.hg, hx l x, rfl, _, rfl, ?_⟩
      have px : 0 ≤ x := D.pos x (by simp)
      have pl : ∀ y ∈ l, 0 ≤ y := fun y hy => D.pos y (by simp [hy])
      have ll : l.length + 1 ≤ 63 := by have := D.len; rw [List.length_append] at this; exact this
      by_cases hz : x = 0
      · subst hz
        refine iteTB (by simp) ?_
        refine ⟨fun σ' H' => ∃ (x2 : Option V) (xs : List Int), σ' = [some (.ref d), some (.int m), x2] ∧ xs.length = l.length ∧ DL H H' d g xs mm0, fun σ' H' q => ⟨l.length, by rw [← hn, List.length_append]; exact Nat.lt_succ_self _, q⟩, ?_⟩
        refine ⟨_, rfl, d, _, _, _, rfl, rfl, SqL.of D1.hd, rfl, .inl ⟨rfl, _, SqL.of D1.hg⟩, g, _, _, rfl, rfl, D1.hg, lst2 l 0, ?_⟩
        rw [rev2]
        exact ⟨x2, l, rfl, rfl, D1.setG pl (by omega)⟩
      · refine iteFB (by simp [hz]) ?_
        refine ⟨_, rfl, d, _, _, _, rfl, rfl, SqL.of D1.hd, rfl, (by show 0 ≤ sizeLine; decide), fun p2 hp2 => ?_⟩
        have D2 := D1.new (o := .lst []) hp2
        refine ⟨.list ((l ++ [x]).map PyData.int), .list [], .lst (SqL.of D2.hg) (dp_intsL _ _ _), .lst (SqL.of upd_same) .nil, intsL_sh _, by decide +kernel, _, rfl, ?_⟩
        rw [intsL_nil, hne]
        generalize upd Hp1 p2 (.lst []) = Hp2 at D2 ⊢
        refine iteT ?_
        refine ⟨_, rfl, d, _, _, _, rfl, rfl, SqL.of D2.hd, rfl, .inl ⟨rfl, _, SqL.of D2.hg⟩, g, _, _, rfl, rfl, D2.hg, lst2 l x, ?_⟩
        rw [rev2]
        have D3 := D2.setG pl (by omega)
        refine ⟨_, rfl, d, _, _, _, rfl, rfl, SqL.of D3.hd, rfl, .inl ⟨rfl, _, SqL.of D3.hg⟩, _, rfl, _, rfl, _, _, rfl, rfl, wide_div (b := 40) h0 (by omega) (by decide) (by decide), g, _, _, rfl, rfl, D3.hg, small1000 (by rw [List.length_map]; omega), ?_⟩
        have D4 := D3.setG (ys := l ++ [x / m]) (fun y hy => by
          rcases List.mem_append.mp hy with hy | hy
          · exact pl y hy
          · rw [List.mem_singleton.mp hy]; exact Int.ediv_nonneg px (by omega)) (by rw [List.length_append]; exact ll)
        rw [List.map_append] at D4
        refine ⟨_, rfl, .inl ⟨_, rfl, _, rfl, _, _, rfl, rfl, h0, ?_⟩⟩
        exact k _ _ (Int.emod_nonneg _ (by omega)) (Int.emod_lt_of_pos _ h0) D4.at D4.s D4.m
def spPick (K : PySem.W.Frag) : Sp := fun vs H Q _ => ∃ (d g a : Addr) (xs : List V), vs = [.ref d, .ref a] ∧ DealAt H d g ∧ SqL K (hh H d g) a xs ∧ 0 < xs.length ∧ xs.length < 1000000 ∧ ∀ (v : V) (H' : Hp), v ∈ xs → DealAt H' d g → Same (hh H d g) (hh H' d g) → Mo H H' → Q v H'
def absI (x : Int) : Int := if x < 0 then -x else x
theorem cut_ints (ns : List Int) (lo hi : Option Int) : ∃ us : List Int, cutV (ns.map V.int) lo hi = us.map V.int ∧ us.length ≤ ns.length := by
  refine ⟨(ns.drop (HT.sIx (ns.map V.int).length 0 lo)).take (HT.sIx (ns.map V.int).length (ns.map V.int).length hi - HT.sIx (ns.map V.int).length 0 lo), ?_, ?_⟩
  · unfold cutV
    rw [List.map_take, List.map_drop]
  · rw [List.length_take, List.length_drop]
    omega
def spDeal (K : PySem.W.Frag) : Sp := fun vs H Q _ => ∃ (a : Addr) (ns : List Int), vs = [.ref a] ∧ SqL K H a (ns.map V.int) ∧ ns.length ≤ 63 ∧ ∀ (d g : Addr) (H' : Hp), DealAt H' d g → Same H (hh H' d g) → Q (.ref d) H'
theorem scDeal : FnScope ["_law_script", "_law_cell", "_law_cells", "_law_mixed_here"] ["_law_script"] (defScope sDeal) := ⟨rfl, rfl, rfl, by decide +kernel, rfl, by decide +kernel, by decide +kernel⟩
theorem ok_deal {f : Addr} {fd : FuncData} (F : Fun K "_law_deal" "_law_deal" sDeal f fd) (mI : mg "int" = none) (mA : mg "abs" = none) : FnOk P w K mg base CX0 1 f fd ["_law_script"] (spDeal K) := by
  refine F.ok scDeal (fun vs H Q E h => ?_) (fun cdv A outer s H vs Q E hr h => ?_)
  · obtain ⟨a, ns, rfl, _⟩ := h
    rfl
  · obtain ⟨a, ns, rfl, hS, hl, q⟩ := h
    refine ⟨_, pss_cons (ps_par (i := 2) (j := 3) (by rfl) scDeal.nd rfl rfl (by decide) rfl rfl (pa_cons (pe_lc (own := [("_law_cell", 1)]) (g := gName 1) (tt := tYes) (by rfl) scDeal.nd (pi_list (pe_slice sl_list (pv 0) po_none (po_some pe_int)))
          (blkOk_by (N := ["_law_script", "_law_cell", "_law_cells", "_law_mixed_here"]) (sc := defScope sDeal) (by decide +kernel)) (fun _ _ _ _ _ => pg_name (i := 1) scDeal.nd rfl (Or.inl rfl)) (fun _ _ _ _ _ => pts_nil)
          (fun _ _ _ _ _ => pe_callB call_abs (by rfl) mA (by decide +kernel) (pa_cons (pv 1) pa_nil))) (pa_cons pe_int pa_nil)) (by rfl))
      (pss_cons (ps_for PassesOwn.never rfl (pi_list (pv 2)) (pg_name (i := 1) scDeal.nd rfl (Or.inl rfl))
        (pss_one (ps_set (i := 3) scDeal.nd rfl (Or.inl rfl) (pe_op op_mod (pe_callTy call_int1 (by rfl) mI (by decide +kernel) (pa_cons (pe_op op_add (pe_op op_mul (pv 3) pe_int) (pe_op op_mod (pe_callTy call_int1 (by rfl) mI (by decide +kernel) (pa_cons (pv 1) pa_nil)) pe_int)) pa_nil)) pe_int))))
      (pss_one (ps_ret (pe_lst (pa_cons (pe_revL (pe_lc (own := [("_law_cell", 1)]) (g := gName 1) (by rfl) scDeal.nd (pi_list (pv 2))
          (blkOk_by (N := ["_law_script", "_law_cell", "_law_cells", "_law_mixed_here"]) (sc := defScope sDeal) (by decide +kernel)) (fun _ _ _ _ _ => pg_name (i := 1) scDeal.nd rfl (Or.inl rfl)) (fun _ _ _ _ _ => pts_one (pt_cmpR op_ge (pv 1) (pe_op op_pow pe_int pe_int) (nomark _)))
          (fun _ _ _ _ _ => pv 1))) (pa_cons (pv 3) pa_nil)))))), ?_⟩
    obtain ⟨us, hu, hul⟩ := cut_ints ns none (some 60)
    refine ⟨_, rfl, 60, rfl, a, _, rfl, hS, fun p hp => ?_⟩
    rw [hu]
    have s1 : Same H (upd H p (.lst (us.map V.int))) := Same.new hp
    have hp1 : upd H p (.lst (us.map V.int)) p = some (.lst (us.map V.int)) := upd_same
    generalize upd H p (.lst (us.map V.int)) = H1 at s1 hp1 ⊢
    refine ⟨p, rfl, ⟨_, SqL.of hp1⟩, fun D hD => lc_it (walk_list (xs := us.map V.int)) (fun i Hi => Hi D = some (.lst (((us.take i).map absI).map V.int)) ∧ Same H1 Hi) ⟨upd_same, Same.new hD⟩ (fun i Hi _ hP => SqL.of (hP.2 _ _ hp1)) (fun i x Hi Hj hi hP hY => ?turn1) (fun Hi hP => ?done1)⟩
    case turn1 =>
      obtain ⟨rfl, hx⟩ := hY
      obtain ⟨hDi, hs⟩ := hP
      rw [List.getElem?_map] at hx
      cases hxi : us[i]? with
      | none => rw [hxi] at hx; cases hx
      | some u =>
      rw [hxi] at hx
      cases hx
      have hi2 : i < us.length := by rw [List.length_map] at hi; exact hi
      refine ⟨rfl, _, rfl, _, rfl, _, hDi, small1000 (by rw [List.length_map, List.length_map]; have := List.length_take_le i us; omega), ?_, fun b o e => ?_⟩
      · rw [upd_same, List.take_add_one, hxi, List.map_append, List.map_append]
        rfl
      · rw [upd_ne (ne_of_none e hD)]
        exact hs _ _ e
    case done1 =>
      obtain ⟨hD1, hs⟩ := hP
      rw [List.length_map, List.take_length] at hD1
      have hpos : ∀ x ∈ us.map absI, 0 ≤ x := fun x hx => by
        obtain ⟨y, _, rfl⟩ := List.mem_map.mp hx
        unfold absI
        split <;> omega
      have hcl : (us.map absI).length ≤ 63 := by rw [List.length_map]; omega
      generalize us.map absI = cs at hD1 hpos hcl
      have s2 := s1.trans hs
      refine ⟨_, _, rfl, ?_⟩
      refine ⟨_, rfl, D, rfl, ⟨_, SqL.of hD1⟩, for_list (xs := cs.map V.int) (fun i σ Hc => ∃ (x1 : Option V) (m : Int), σ = [some (.ref a), x1, some (.ref D), some (.int m)] ∧ 0 ≤ m ∧ m < 2147483647 ∧ Hc = Hi) ⟨_, _, rfl, by decide, by decide, rfl⟩ (fun i σ Hc _ hP => by obtain ⟨_, _, _, _, _, rfl⟩ := hP; exact SqL.of hD1) (fun i x σ Hc hx hP => ?turn2) (fun σ Hc hP => ?done2)⟩
      case turn2 =>
        obtain ⟨x1, m, rfl, m0, m1, rfl⟩ := hP
        rw [List.getElem?_map] at hx
        cases hxi : cs[i]? with
        | none => rw [hxi] at hx; cases hx
        | some c =>
        rw [hxi] at hx
        cases hx
        refine ⟨_, rfl, _, _, rfl, rfl, .inl ⟨by omega, by omega⟩, _, rfl, .inl ⟨_, rfl, _, _, rfl, rfl, (by show (0 : Int) < 2147483629; decide), _, _, rfl, rfl, .inl ⟨_, rfl, _, _, rfl, rfl, (by show (0 : Int) < 2147483647; decide), ?_⟩⟩⟩
        exact ⟨_, _, rfl, by omega, by omega, rfl⟩
      case done2 =>
        obtain ⟨x1, m, rfl, m0, m1, rfl⟩ := hP
        refine ⟨_, rfl, D, rfl, ⟨_, SqL.of hD1⟩, fun D2 hD2 => lc_it (walk_list (xs := cs.map V.int)) (fun i Hi2 => ∃ l : List Int, l.length ≤ i ∧ (∀ x ∈ l, 0 ≤ x) ∧ Hi2 D2 = some (.lst (l.map V.int)) ∧ Same Hc Hi2) ⟨[], Nat.le_refl _, (fun x hx => by cases hx), upd_same, Same.new hD2⟩ (fun i Hi2 _ hP => by obtain ⟨_, _, _, _, h⟩ := hP; exact SqL.of (h _ _ hD1)) (fun i x Hi2 Hj hi hP hY => ?turn3) (fun Hi2 hP => ?done3)⟩
        case turn3 =>
          obtain ⟨rfl, hx⟩ := hY
          obtain ⟨l, l1, l2, l3, l4⟩ := hP
          rw [List.getElem?_map] at hx
          cases hxi : cs[i]? with
          | none => rw [hxi] at hx; cases hx
          | some c =>
          rw [hxi] at hx
          cases hx
          have hi2 : i < cs.length := by rw [List.length_map] at hi; exact hi
          refine ⟨rfl, _, rfl, _, _, rfl, rfl, ⟨by decide, by decide, by decide⟩, _, _, rfl, rfl, _, rfl, ?_⟩
          refine ite2 (fun _ => ?_) (fun _ => ?_)
          · refine ⟨_, rfl, _, l3, small1000 (by rw [List.length_map]; omega), l ++ [c], by rw [List.length_append]; exact Nat.add_le_add_right l1 1, fun x hx => ?_, by rw [upd_same, List.map_append]; rfl, fun b o e => ?_⟩
            · rcases List.mem_append.mp hx with hx | hx
              · exact l2 x hx
              · rw [List.mem_singleton.mp hx]; exact hpos c (List.mem_of_getElem? hxi)
            · rw [upd_ne (ne_of_none e hD2)]
              exact l4 _ _ e
          · exact ⟨l, by omega, l2, l3, l4⟩
        case done3 =>
          obtain ⟨l, l1, l2, l3, l4⟩ := hP
          refine ⟨D2, _, rfl, SqL.of l3, fun g hg => ?_⟩
          refine ⟨_, rfl, (by show 2 ≤ sizeLine; decide), fun d hd => ?_⟩
          have s3 : Same H Hi2 := s2.trans l4
          have hg0 := s3.free hg
          have hgd : g ≠ d := fun z => by rw [← z, upd_same] at hd; cases hd
          have hd0 : H d = none := s3.free ((Same.new hg).free hd)
          refine q d g _ ⟨hgd.symm, l.reverse, m, upd_same, ?_, fun x hx => l2 x (List.mem_reverse.mp hx), m0, m1, ?_⟩ fun b o e => hh_get ?_ (ne_of_none e hd0) (ne_of_none e hg0)
          · rw [upd_ne hgd, upd_same, List.map_reverse]
          · rw [List.length_reverse]
            rw [List.length_map] at l1
            omega
          · rw [upd_ne (ne_of_none e hd0), upd_ne (ne_of_none e hg0)]
            exact s3 _ _ e
end
end Pn

namespace Pn
open PySem L2 TL
abbrev sMixed : Stmt := top 77
abbrev sNames : Stmt := top 78
/-! ### a list of names in another order, its first names -/
theorem perm_erase {α : Type} : ∀ {l : List α} {k : Nat} {y : α}, l[k]? = some y → (y :: l.eraseIdx k).Perm l
  | [], k, y, h => by simp at h
  | a :: l, 0, y, h => by
    simp only [List.getElem?_cons_zero, Option.some.injEq] at h
    subst h
    exact .refl _
  | a :: l, k + 1, y, h => by
    rw [List.getElem?_cons_succ] at h
    rw [List.eraseIdx_cons_succ]
    exact (List.Perm.swap a y _).trans (.cons a (perm_erase h))
theorem erase_map {α β : Type} (f : α → β) : ∀ (l : List α) (k : Nat), (l.map f).eraseIdx k = (l.eraseIdx k).map f
  | [], _ => rfl
  | _ :: _, 0 => rfl
  | a :: l, k + 1 => congrArg (f a :: ·) (erase_map f l k)
theorem cut_upto (xs : List V) {k : Nat} (h : k ≤ xs.length) : cutV xs none (some (k : Int)) = xs.take k := by
  unfold cutV
  rw [HT.sIx_none, HT.sIx_nat]
  simp [Nat.min_eq_left h]
structure TDealN (K : PySem.W.Frag) (mg : Str → Option Value) : Type where
  mI : mg "int" = none
  mA : mg "abs" = none
  mL : mg "len" = none
  mLs : mg "list" = none
  deal : At K mg "_law_deal" sDeal ["_law_script"]
  draw : At K mg "_law_draw" sDraw ["_law_deal_here", "_law_many"]
  mixed : At K mg "_law_mixed" sMixed ["_law_deal_here", "_law_some"]
  names : At K mg "_law_names" sNames ["_law_deal_here", "_law_many"]
section
variable {P : Program} {w : World} {K : PySem.W.Frag} {mg : Str → Option Value} {base : Heap}
theorem TDealN.okDraw (T : TDealN K mg) : FnOk P w K mg base CX0 1 T.draw.f T.draw.fd ["_law_deal_here", "_law_many"] spDraw := ok_draw T.draw.F T.mI
theorem TDealN.okDeal (T : TDealN K mg) : FnOk P w K mg base CX0 1 T.deal.f T.deal.fd ["_law_script"] (spDeal K) := ok_deal T.deal.F T.mI T.mA
def spMixed (K : PySem.W.Frag) : Sp := fun vs H Q _ => ∃ (d g a : Addr) (ss : List Str), vs = [.ref d, .ref a] ∧ DealAt H d g ∧ SqL K (hh H d g) a (ss.map V.str) ∧ ss.length ≤ 100 ∧ (∀ z ∈ ss, PyData.strOk z = true) ∧
  ∀ (l : Addr) (zs : List Str) (H' : Hp), zs.Perm ss → DealAt H' d g → Same (hh H d g) (hh H' d g) → Mo H H' → hh H' d g l = some (.lst (zs.map V.str)) → Q (.ref l) H'
theorem scMixed : FnScope ["_law_deal_here", "_law_some", "_law_left", "_law_found"] ["_law_deal_here", "_law_some"] (defScope sMixed) := ⟨rfl, rfl, rfl, by decide +kernel, rfl, by decide +kernel, by decide +kernel⟩
theorem TDealN.okMixed (T : TDealN K mg) : FnOk P w K mg base CX0 2 T.mixed.f T.mixed.fd ["_law_deal_here", "_law_some"] (spMixed K) := by
  refine T.mixed.F.ok scMixed (fun vs H Q E h => ?_) (fun cdv A outer s H vs Q E hr h => ?_)
  · obtain ⟨d, g, a, ss, rfl, _⟩ := h
    rfl
  · obtain ⟨d, g, a, ss, rfl, hD, hS, hl, hok, q⟩ := h
    refine ⟨_, (pss_cons (ps_par (i := 2) (j := 3) (by rfl) scMixed.nd rfl rfl (by decide) rfl rfl (pa_cons (pe_callTy call_list_of (by rfl) T.mLs (by decide +kernel) (pa_cons (pv 1) pa_nil)) (pa_cons (pe_lst pa_nil) pa_nil)) (by rfl))
(pss_cons (ps_while PassesOwn.never (pt_cmpR (op_neD hr.units) (pv 2) (pe_lst pa_nil) (nomark _))
(pss_one (ps_expr (pe_bm PySem.F.plainAttrs_list PySem.F.slot_list_append PySem.F.type_list_append mt_append (pv 3) (pa_cons (pe_bm PySem.F.plainAttrs_list PySem.F.slot_list_pop PySem.F.type_list_pop mt_popAt (pv 2) (pa_cons (pe_call T.okDraw (hr.mono (by decide)) rfl T.draw.m T.draw.F.kp T.draw.b .nil pass0 (pa_cons (pv 0) (pa_cons (pe_callB call_len_seq (by rfl) T.mL PySem.boot_len (pa_cons (pv 2) pa_nil)) pa_nil))) pa_nil)) pa_nil)))))
(pss_one (ps_ret (pv 3))))), ?_⟩
    refine ⟨_, rfl, a, _, rfl, .inl (hh_sub.seq hS), fun L hL => ?_⟩
    refine ⟨(by show 0 ≤ sizeLine; decide), fun F hF => ?_⟩
    have n1 := hD.nd hL
    have hD1 := hD.new (o := .lst (ss.map V.str)) hL
    have n2 := hD1.nd hF
    have hD2 := hD1.new (o := .lst []) hF
    have s2 : Same (hh H d g) (hh (upd (upd H L (.lst (ss.map V.str))) F (.lst [])) d g) := (hh_new hL).trans (hh_new hF)
    have m2 : Mo H (upd (upd H L (.lst (ss.map V.str))) F (.lst [])) := Mo.upd.trans Mo.upd
    have nLF : L ≠ F := fun z => by rw [← z, upd_same] at hF; cases hF
    have eL : (upd (upd H L (.lst (ss.map V.str))) F (.lst [])) L = some (.lst (ss.map V.str)) := by rw [upd_ne nLF]; exact upd_same
    have eF : (upd (upd H L (.lst (ss.map V.str))) F (.lst [])) F = some (.lst []) := upd_same
    have hFn : H F = none := by rw [upd_ne nLF.symm] at hF; exact hF
    generalize upd (upd H L (.lst (ss.map V.str))) F (.lst []) = H2 at hD2 s2 m2 eL eF ⊢
    refine ⟨_, _, rfl, ?_⟩
    try dsimp only [List.set]
    refine ⟨fun n σ Hc => ∃ (ls fs : List Str), σ = [some (.ref d), some (.ref a), some (.ref L), some (.ref F)] ∧ ls.length = n ∧ (fs ++ ls).Perm ss ∧ DealAt Hc d g ∧ Same (hh H d g) (hh Hc d g) ∧ Mo H Hc ∧ Hc L = some (.lst (ls.map V.str)) ∧ Hc F = some (.lst (fs.map V.str)),
      ⟨_, ss, [], rfl, rfl, .refl _, hD2, s2, m2, eL, eF⟩, fun n σ Hc hP => ?_⟩
    obtain ⟨ls, fs, rfl, hn, perm, hDc, sc, mc, hLc, hFc⟩ := hP
    have ok1 : ∀ z ∈ ls, PyData.strOk z = true := fun z hz => hok z (perm.mem_iff.mp (List.mem_append_right _ hz))
    have len1 : fs.length + ls.length = ss.length := by rw [← List.length_append]; exact perm.length_eq
    refine ⟨_, rfl, (by show 0 ≤ sizeLine; decide), fun p hp => ?_⟩
    have hLp := Same.new (o := .lst []) hp _ _ hLc
    refine ⟨.list (ls.map PyData.str), .list [], .lst (SqL.of hLp) (dp_strL ls), .lst (SqL.of upd_same) .nil, strL_sh ok1, by decide +kernel, _, rfl, ?_⟩
    rw [strsL_nil]
    have hDp := hDc.new (o := .lst []) hp
    have np := hDc.nd hp
    have sp := sc.trans (hh_new (o := .lst []) hp)
    have mp : Mo H (upd Hc p (.lst [])) := mc.trans Mo.upd
    have hFp := Same.new (o := .lst []) hp _ _ hFc
    generalize upd Hc p (.lst []) = Hp at hDp sp mp hLp hFp ⊢
    cases ls with
    | nil =>
      refine iteFB rfl ?_
      refine ⟨_, rfl, ?_⟩
      rw [List.append_nil] at perm
      exact q F fs Hp perm hDp sp mp (hh_get hFp n2.1 n2.2)
    | cons z0 ls0 =>
      refine iteTB rfl ?_
      have ll : (z0 :: ls0).length ≤ 100 := by omega
      refine ⟨fun σ' H' => ∃ (ls fs : List Str), σ' = [some (.ref d), some (.ref a), some (.ref L), some (.ref F)] ∧ ls.length = ls0.length ∧ (fs ++ ls).Perm ss ∧ DealAt H' d g ∧ Same (hh H d g) (hh H' d g) ∧ Mo H H' ∧ H' L = some (.lst (ls.map V.str)) ∧ H' F = some (.lst (fs.map V.str)),
        fun σ' H' q => ⟨ls0.length, by rw [← hn]; exact Nat.lt_succ_self _, q⟩, ?_⟩
      refine ⟨_, rfl, .inl ⟨rfl, _, SqL.of hFp⟩, ?_⟩
      refine ⟨_, rfl, .inl ⟨rfl, _, SqL.of hLp⟩, ?_⟩
      refine ⟨_, rfl, _, rfl, L, _, rfl, .inl (SqL.of hLp), ?_⟩
      refine ⟨d, g, _, rfl, hDp, by simp, by simp only [List.length_map]; omega, fun r H' r0 r1 hD' hs hm => ?_⟩
      rw [List.length_map] at r1
      obtain ⟨k, rfl⟩ : ∃ k : Nat, r = (k : Int) := ⟨r.toNat, by omega⟩
      have hk : k < (z0 :: ls0).length := by omega
      have hL' := hh_sub _ _ (hs _ _ (hh_get hLp n1.1 n1.2))
      have hF' := hh_sub _ _ (hs _ _ (hh_get hFp n2.1 n2.2))
      have gy : (z0 :: ls0)[k]? = some (z0 :: ls0)[k] := List.getElem?_eq_getElem hk
      refine ⟨L, _, _, k, .str (z0 :: ls0)[k], rfl, rfl, hL', by omega, by omega, ?sq, by rw [List.getElem?_map, gy]; rfl, ?_⟩
      case sq =>
        rw [List.length_map]
        have e := PySem.StrLaws.seqIndex_nonneg (i := (k : Int)) (n := (z0 :: ls0).length) (by omega) (by omega)
        rw [Int.toNat_natCast] at e
        exact e
      refine ⟨F, _, _, rfl, rfl, by rw [upd_ne nLF.symm]; exact hF', small1000 (by rw [List.length_map]; omega), ?_⟩
      refine ⟨(z0 :: ls0).eraseIdx k, fs ++ [(z0 :: ls0)[k]], rfl, by rw [List.length_eraseIdx_of_lt hk]; rfl, ?_, (hD'.upd n1.1 n1.2).upd n2.1 n2.2, ?_, ?_, ?_, ?_⟩
      · refine List.Perm.trans ?_ perm
        rw [List.append_assoc]
        exact List.Perm.append_left _ (perm_erase gy)
      · intro c o e
        have e1 := hs _ _ (sp _ _ e)
        obtain ⟨c1, c2, c3⟩ := hh_ne e1
        obtain ⟨_, _, e0⟩ := hh_ne e
        exact hh_get (by rw [upd_ne (ne_of_none e0 hFn), upd_ne (ne_of_none e0 hL)]; exact c3) c1 c2
      · exact ((mp.trans hm).trans Mo.upd).trans Mo.upd
      · rw [upd_ne nLF, upd_same, erase_map]
      · rw [upd_same, List.map_append]
        rfl
def names16 : List Str := ["a", "ab", "abc", "c", "f", "fig", "sec", "zzzz", "x", "y", "now", "box", "at", "n", "text", "on"]
theorem names16_ok : names16.Nodup ∧ (∀ z ∈ names16, PyData.strOk z = true) ∧ ∀ z ∈ names16, nameS z = true := by decide +kernel
def spNames (K : PySem.W.Frag) : Sp := fun vs H Q _ => ∃ (d g : Addr) (m : Nat), vs = [.ref d, .int (m : Int)] ∧ DealAt H d g ∧ m ≤ 16 ∧
  ∀ (l : Addr) (zs : List Str) (H' : Hp), zs.Nodup → (∀ z ∈ zs, z ∈ names16) → zs.length = m → DealAt H' d g → Same (hh H d g) (hh H' d g) → Mo H H' → hh H' d g l = some (.lst (zs.map V.str)) → Q (.ref l) H'
theorem scNames : FnScope ["_law_deal_here", "_law_many", "_law_some"] ["_law_deal_here", "_law_many"] (defScope sNames) := ⟨rfl, rfl, rfl, by decide +kernel, rfl, by decide +kernel, by decide +kernel⟩
theorem TDealN.okNames (T : TDealN K mg) : FnOk P w K mg base CX0 3 T.names.f T.names.fd ["_law_deal_here", "_law_many"] (spNames K) := by
  refine T.names.F.ok scNames (fun vs H Q E h => ?_) (fun cdv A outer s H vs Q E hr h => ?_)
  · obtain ⟨d, g, m, rfl, _⟩ := h
    rfl
  · obtain ⟨d, g, m, rfl, hD, hm, q⟩ := h
    refine ⟨_, (pss_cons (ps_set (i := 2) scNames.nd rfl (Or.inl rfl) (pe_lst (pa_cons pe_str (pa_cons pe_str (pa_cons pe_str (pa_cons pe_str (pa_cons pe_str (pa_cons pe_str (pa_cons pe_str (pa_cons pe_str (pa_cons pe_str (pa_cons pe_str (pa_cons pe_str (pa_cons pe_str (pa_cons pe_str (pa_cons pe_str (pa_cons pe_str (pa_cons pe_str pa_nil))))))))))))))))))
(pss_one (ps_ret (pe_slice sl_list (pe_call T.okMixed (hr.mono (by decide)) rfl T.mixed.m T.mixed.F.kp T.mixed.b .nil pass0 (pa_cons (pv 0) (pa_cons (pv 2) pa_nil))) po_none (po_some (pv 1)))))), ?_⟩
    refine ⟨(by show 16 ≤ sizeLine; decide), fun p hp => ?_⟩
    have hD1 := hD.new (o := .lst (names16.map V.str)) hp
    have s1 : Same (hh H d g) (hh (upd H p (.lst (names16.map V.str))) d g) := hh_new hp
    have e1 := hh_at (o := .lst (names16.map V.str)) hD hp
    refine ⟨_, rfl, _, rfl, d, g, p, names16, rfl, hD1, SqL.of e1, by decide, names16_ok.2.1, fun l zs H' perm hD' hs hm' hl => ?_⟩
    have nd : zs.Nodup := perm.nodup_iff.mpr names16_ok.1
    have zl : zs.length = 16 := perm.length_eq
    refine ⟨_, rfl, (m : Int), rfl, l, _, rfl, SqL.of (hh_sub _ _ hl), fun u hu => ?_⟩
    rw [cut_upto _ (by rw [List.length_map, zl]; exact hm), ← List.map_take]
    have hD2 := hD'.new (o := .lst ((zs.take m).map V.str)) hu
    refine q u (zs.take m) _ (nd.sublist (List.take_sublist _ _)) (fun z hz => perm.mem_iff.mp (List.mem_of_mem_take hz)) (by rw [List.length_take, zl]; omega) hD2 ((s1.trans hs).trans (hh_new hu)) ((Mo.upd.trans hm').trans Mo.upd) (hh_at hD' hu)
end
end Pn

namespace Pn
open PySem L2 SeqAt
open MeetsSeq MeetsSeq2 MeetsSeq3 SeqRoads2
open AutoSeq1 (wpAny_loadPart')
/-! ### xs.extend(a tuple) -/
theorem ext_tup (l : Addr) (items : Array Value) (n : Nat) (b : Addr) (items2 : Array Value) (n2 : Nat) (dd : Option Addr) (sl : Array (Option Value)) (hs0 : ¬(!items.isEmpty && Builtin.List.listTooLong (items.size + items2.size)) = true) (hs1 : items.size ≤ sizeLine) (hs2 : items.size + items2.size ≤ sizeLine + 1) :
    Meets (Builtin.«list.extend» ⟨[.ref l, .ref b], []⟩) (fun _ R s => s.heap.get? l = some { cls := .type "list", dict := none, data := .seq items n, slots := #[] } ∧ s.heap.get? b = some { cls := .type "tuple", dict := dd, data := .seq items2 n2, slots := sl } ∧ R (.ok (.ret Value.none)) { s with heap := s.heap.update l (Obj.mapSeq fun x => x ++ items2), toks := s.toks }) :=
  .of_wp fun prog w A R s h => by
    obtain ⟨hp, g, d, tk, os⟩ := s
    obtain ⟨hl, hb, h⟩ := h
    have f2 := AutoSeq1.sub_tuple_tuple
    have f3 := AutoSeq1.sub_list_list
    have f4 := AutoSeq1.sub_tuple_list
    have f5 := AutoSeq1.sub_list_tuple
    have hz' : (items ++ items2).size ≤ sizeLine + 1 := by rw [Array.size_append]; exact hs2
    wp_walk using (wpAny_updateSeq hl rfl (hz := hs1) (_hz' := hz')), wpAny_loadPart' hl, wpAny_loadPart' hb
    exact ⟨_, rfl, h⟩
def rExtendT (K : PySem.W.Frag) : V → List V → Hp → VK → Prop := fun x vs H Q => ∃ l b xs zs, x = .ref l ∧ vs = [.ref b] ∧ H l = some (.lst xs) ∧ SqT K H b zs ∧ xs.length + zs.length ≤ sizeLine ∧ Q .non (upd H l (.lst (xs ++ zs)))
theorem mt_extendT {X : Cx} : MtM X "list.extend" (rExtendT X.K) := by
  intro pins s σ H x vs v us Q I rx rv h
  obtain ⟨l, b, xs, zs, rfl, rfl, hH, hB, hz, q⟩ := h
  cases rx
  obtain ⟨u, rfl, ru⟩ := rv.one
  cases ru
  obtain ⟨z, its, n, r, hl, e⟩ := I.lstM hH
  obtain ⟨its2, r2, ⟨⟨oc, od, odt, osl⟩, ho, hc, n2, hd⟩, _⟩ := I.tuple hB
  simp only at hc hd
  subst hc hd
  have hl2 := r2.length
  have hsz : its.toArray.size + its2.toArray.size ≤ sizeLine := by rw [List.size_toArray, List.size_toArray]; omega
  have hlong : ¬ (!its.toArray.isEmpty && Builtin.List.listTooLong (its.toArray.size + its2.toArray.size)) = true := by
    rw [notLongL hsz, Bool.and_false]
    exact Bool.false_ne_true
  refine call_meets F.slot_list_extend ⟨_, e, rfl⟩ F.entry_list_extend (F.args_list_extend_2 _ _)
    (ext_tup l its.toArray n b its2.toArray n2 od osl hlong (by rw [List.size_toArray]; omega) (by omega)) ⟨e, ho, ?_⟩
  refine ⟨.non, _, I.lset (its' := its ++ its2) hH e (by simp) (r.append r2) ?_, rfl, q⟩
  rw [List.length_append]
  omega
end Pn

namespace Pn
open PySem PySem.Spec PyProof.Rows L2 TL
abbrev sGoing : Stmt := top 57
abbrev sOwn : Stmt := top 58
abbrev sStep : Stmt := top 59
abbrev sReck : Stmt := top 60
abbrev sDone : Stmt := top 70
/-! ### numbers: what a row does with the numbers and boxes of all counters -/
abbrev Trm := Str × Int
def goOn : RowD → Nat
  | .note _ _ => 1
  | .skip _ n => n
  | _ => 0
def stayT : Trm × Trm := (("now", 0), ("box", 0))
def ownT : RowD → Trm × Trm
  | .set _ n => (("at", (n : Int)), ("box", 0))
  | .keep _ => (("now", 0), ("now", 0))
  | .back _ => (("box", 0), ("box", 0))
  | r => (("now", (goOn r : Int)), ("box", 0))
def stepR (r : RowD) (ch : List Str) (own : Str) : Trm × Trm := match cntOf r with
  | none => stayT
  | some c => if c ∈ ch then (if c = own then ownT r else if 0 < goOn r then (("at", 0), ("box", 0)) else stayT) else stayT
def reckT (t : Trm) (n k : Int) : Int := if t.1 = "now" then n + t.2 else if t.1 = "box" then k + t.2 else t.2
/-- a chain and its counter -/
abbrev Chn := List Str × Str
def doneOne (r : RowD) (c : Chn) (s : Int × Int) : Int × Int := (reckT (stepR r c.1 c.2).1 s.1 s.2, reckT (stepR r c.1 c.2).2 s.1 s.2)
def doneS (r : RowD) (L : List Chn) (st : List (Int × Int)) : List (Int × Int) := List.zipWith (doneOne r) L st
def TermAt (K : PySem.W.Frag) (H : Hp) (a : Addr) (t : Trm) : Prop := SqT K H a [.str t.1, .int t.2]
def StepAt (K : PySem.W.Frag) (H : Hp) (a : Addr) (s : Trm × Trm) : Prop := ∃ b c, SqT K H a [.ref b, .ref c] ∧ TermAt K H b s.1 ∧ TermAt K H c s.2
theorem StepAt.same {K : PySem.W.Frag} {H H' : Hp} {a : Addr} {s : Trm × Trm} (h : StepAt K H a s) (m : Same H H') : StepAt K H' a s := by
  obtain ⟨b, c, h1, h2, h3⟩ := h
  exact ⟨b, c, Same.sqt m h1, Same.sqt m h2, Same.sqt m h3⟩
theorem wtT {a b : Str} (h : a = b) : decide (V.str a = V.str b) = true := by rw [h]; exact decide_eq_true rfl
theorem wtF {a b : Str} (h : a ≠ b) : decide (V.str a = V.str b) = false := decide_eq_false fun z => h (V.str.inj z)
section
variable {P : Program} {w : World} {K : PySem.W.Frag} {mg : Str → Option Value} {base : Heap}
theorem is_note {r : RowD} (e : rowWord r = "note") : ∃ c l, r = .note c l := by
  cases r with
  | note _ _ => exact ⟨_, _, rfl⟩
  | skip _ _ => exact absurd e (show ("skip" : Str) ≠ "note" by decide +kernel)
  | set _ _ => exact absurd e (show ("set" : Str) ≠ "note" by decide +kernel)
  | keep _ => exact absurd e (show ("keep" : Str) ≠ "note" by decide +kernel)
  | back _ => exact absurd e (show ("back" : Str) ≠ "note" by decide +kernel)
  | ref _ => exact absurd e (show ("ref" : Str) ≠ "note" by decide +kernel)
  | put _ => exact absurd e (show ("put" : Str) ≠ "note" by decide +kernel)
  | opn _ => exact absurd e (show ("open" : Str) ≠ "note" by decide +kernel)
theorem is_skip {r : RowD} (e : rowWord r = "skip") : ∃ c n, r = .skip c n := by
  cases r with
  | note _ _ => exact absurd e (show ("note" : Str) ≠ "skip" by decide +kernel)
  | skip _ _ => exact ⟨_, _, rfl⟩
  | set _ _ => exact absurd e (show ("set" : Str) ≠ "skip" by decide +kernel)
  | keep _ => exact absurd e (show ("keep" : Str) ≠ "skip" by decide +kernel)
  | back _ => exact absurd e (show ("back" : Str) ≠ "skip" by decide +kernel)
  | ref _ => exact absurd e (show ("ref" : Str) ≠ "skip" by decide +kernel)
  | put _ => exact absurd e (show ("put" : Str) ≠ "skip" by decide +kernel)
  | opn _ => exact absurd e (show ("open" : Str) ≠ "skip" by decide +kernel)
theorem is_set {r : RowD} (e : rowWord r = "set") : ∃ c n, r = .set c n := by
  cases r with
  | note _ _ => exact absurd e (show ("note" : Str) ≠ "set" by decide +kernel)
  | skip _ _ => exact absurd e (show ("skip" : Str) ≠ "set" by decide +kernel)
  | set _ _ => exact ⟨_, _, rfl⟩
  | keep _ => exact absurd e (show ("keep" : Str) ≠ "set" by decide +kernel)
  | back _ => exact absurd e (show ("back" : Str) ≠ "set" by decide +kernel)
  | ref _ => exact absurd e (show ("ref" : Str) ≠ "set" by decide +kernel)
  | put _ => exact absurd e (show ("put" : Str) ≠ "set" by decide +kernel)
  | opn _ => exact absurd e (show ("open" : Str) ≠ "set" by decide +kernel)
theorem is_keep {r : RowD} (e : rowWord r = "keep") : ∃ c, r = .keep c := by
  cases r with
  | note _ _ => exact absurd e (show ("note" : Str) ≠ "keep" by decide +kernel)
  | skip _ _ => exact absurd e (show ("skip" : Str) ≠ "keep" by decide +kernel)
  | set _ _ => exact absurd e (show ("set" : Str) ≠ "keep" by decide +kernel)
  | keep _ => exact ⟨_, rfl⟩
  | back _ => exact absurd e (show ("back" : Str) ≠ "keep" by decide +kernel)
  | ref _ => exact absurd e (show ("ref" : Str) ≠ "keep" by decide +kernel)
  | put _ => exact absurd e (show ("put" : Str) ≠ "keep" by decide +kernel)
  | opn _ => exact absurd e (show ("open" : Str) ≠ "keep" by decide +kernel)
theorem is_back {r : RowD} (e : rowWord r = "back") : ∃ c, r = .back c := by
  cases r with
  | note _ _ => exact absurd e (show ("note" : Str) ≠ "back" by decide +kernel)
  | skip _ _ => exact absurd e (show ("skip" : Str) ≠ "back" by decide +kernel)
  | set _ _ => exact absurd e (show ("set" : Str) ≠ "back" by decide +kernel)
  | keep _ => exact absurd e (show ("keep" : Str) ≠ "back" by decide +kernel)
  | back _ => exact ⟨_, rfl⟩
  | ref _ => exact absurd e (show ("ref" : Str) ≠ "back" by decide +kernel)
  | put _ => exact absurd e (show ("put" : Str) ≠ "back" by decide +kernel)
  | opn _ => exact absurd e (show ("open" : Str) ≠ "back" by decide +kernel)
theorem is_ref {r : RowD} (e : rowWord r = "ref") : ∃ c, r = .ref c := by
  cases r with
  | note _ _ => exact absurd e (show ("note" : Str) ≠ "ref" by decide +kernel)
  | skip _ _ => exact absurd e (show ("skip" : Str) ≠ "ref" by decide +kernel)
  | set _ _ => exact absurd e (show ("set" : Str) ≠ "ref" by decide +kernel)
  | keep _ => exact absurd e (show ("keep" : Str) ≠ "ref" by decide +kernel)
  | back _ => exact absurd e (show ("back" : Str) ≠ "ref" by decide +kernel)
  | ref _ => exact ⟨_, rfl⟩
  | put _ => exact absurd e (show ("put" : Str) ≠ "ref" by decide +kernel)
  | opn _ => exact absurd e (show ("open" : Str) ≠ "ref" by decide +kernel)
theorem is_put {r : RowD} (e : rowWord r = "put") : ∃ c, r = .put c := by
  cases r with
  | note _ _ => exact absurd e (show ("note" : Str) ≠ "put" by decide +kernel)
  | skip _ _ => exact absurd e (show ("skip" : Str) ≠ "put" by decide +kernel)
  | set _ _ => exact absurd e (show ("set" : Str) ≠ "put" by decide +kernel)
  | keep _ => exact absurd e (show ("keep" : Str) ≠ "put" by decide +kernel)
  | back _ => exact absurd e (show ("back" : Str) ≠ "put" by decide +kernel)
  | ref _ => exact absurd e (show ("ref" : Str) ≠ "put" by decide +kernel)
  | put _ => exact ⟨_, rfl⟩
  | opn _ => exact absurd e (show ("open" : Str) ≠ "put" by decide +kernel)
theorem is_open {r : RowD} (e : rowWord r = "open") : ∃ c, r = .opn c := by
  cases r with
  | note _ _ => exact absurd e (show ("note" : Str) ≠ "open" by decide +kernel)
  | skip _ _ => exact absurd e (show ("skip" : Str) ≠ "open" by decide +kernel)
  | set _ _ => exact absurd e (show ("set" : Str) ≠ "open" by decide +kernel)
  | keep _ => exact absurd e (show ("keep" : Str) ≠ "open" by decide +kernel)
  | back _ => exact absurd e (show ("back" : Str) ≠ "open" by decide +kernel)
  | ref _ => exact absurd e (show ("ref" : Str) ≠ "open" by decide +kernel)
  | put _ => exact absurd e (show ("put" : Str) ≠ "open" by decide +kernel)
  | opn _ => exact ⟨_, rfl⟩
theorem ifFld {R : TRows K mg} {H : Hp} {a : Addr} {r : RowD} {f v z : Str} {i : Nat} {A C : TS} {D : Ends} {σ : L2.St} (h : Attr R H a r f (.str v)) (h0 : σ[i]? = some (some (.ref a))) (hT : v = z → A { D with nx := C D } σ H) (hF : v ≠ z → C D σ H) :
    tSeq (tIfS (tTest (tOp rEq (tFld K (tVar i) f) (tC (.str z)))) A tNext) C D σ H := by
  obtain ⟨dx, fs, e1, e2, e3, e4⟩ := h
  refine ⟨_, h0, a, clsOf R r, dx, fs, .str v, rfl, e1, e2, e3, e4, rfl, _, rfl, ?_⟩
  by_cases e : v = z
  · exact iteTD (wtT e) (hT e)
  · exact iteFD (wtF e) (hF e)
theorem fld_var {R : TRows K mg} {H : Hp} {a : Addr} {r : RowD} {f : Str} {v : V} {i : Nat} {σ : L2.St} {Q : VK} (h : Attr R H a r f v) (h0 : σ[i]? = some (some (.ref a))) (q : Q v H) : tFld K (tVar i) f σ H Q := by
  obtain ⟨dx, fs, e1, e2, e3, e4⟩ := h
  exact ⟨_, h0, a, clsOf R r, dx, fs, v, rfl, e1, e2, e3, e4, q⟩
theorem at_by (T : TRows K mg) {H : Hp} {a : Addr} {c : Str} {n : Nat} (h : RowAt T H a (.skip c n)) : Attr T H a (.skip c n) "by" (.int (n : Int)) := by
  obtain ⟨dx, ha⟩ := h
  exact ⟨dx, _, ha, T.skip.cl, T.skip.noF, by rw [lookup_putF, if_pos rfl]⟩
theorem at_to (T : TRows K mg) {H : Hp} {a : Addr} {c : Str} {n : Nat} (h : RowAt T H a (.set c n)) : Attr T H a (.set c n) "to" (.int (n : Int)) := by
  obtain ⟨dx, ha⟩ := h
  exact ⟨dx, _, ha, T.set.cl, T.set.noF, by rw [lookup_putF, if_pos rfl]⟩
structure TNum1 {K : PySem.W.Frag} {mg : Str → Option Value} {R : TRows K mg} {T : TPart R} (B : TBk T) : Type where
  sn : Addr
  mSN : mg "SAME_NUMBER" = some (.ref sn)
  hSN : ∀ H, TermAt K H sn ("now", 0)
  sb : Addr
  mSB : mg "SAME_BOX" = some (.ref sb)
  hSB : ∀ H, TermAt K H sb ("box", 0)
  sy : Addr
  mSY : mg "STAY" = some (.ref sy)
  hSY : ∀ H, StepAt K H sy stayT
  going : At K mg "going_on" sGoing ["row"]
  own : At K mg "own_step" sOwn ["row"]
  step : At K mg "step_of" sStep ["row", "chain"]
  reck : At K mg "reckoned" sReck ["term", "number", "kept"]
  done : At K mg "done" sDone ["row", "chains", "state"]
variable {R : TRows K mg} {T : TPart R} {B : TBk T}
def spGoing (R : TRows K mg) : Sp := fun vs H Q _ => ∃ (u : Addr) (r : RowD), vs = [.ref u] ∧ RowAt R H u r ∧ Q (.int (goOn r : Int)) H
theorem scGoing : FnScope ["row"] ["row"] (defScope sGoing) := ⟨rfl, rfl, rfl, by decide +kernel, rfl, by decide +kernel, by decide +kernel⟩
theorem ok_goingOn (N : TNum1 B) : FnOk P w K mg base CX0 1 N.going.f N.going.fd ["row"] (spGoing R) := by
  refine N.going.F.ok scGoing (fun vs H Q E h => ?_) (fun cdv A outer s H vs Q E hr h => ?_)
  · obtain ⟨u, r, rfl, _⟩ := h
    rfl
  · obtain ⟨u, r, rfl, hu, q⟩ := h
    refine ⟨_, (pss_cons (ps_if (pt_cmpR op_eq (pe_fld (pv 0) rfl) pe_str (nomark _)) (pss_one (ps_ret pe_int)) pss_nil)
(pss_cons (ps_if (pt_cmpR op_eq (pe_fld (pv 0) rfl) pe_str (nomark _)) (pss_one (ps_ret (pe_fld (pv 0) rfl))) pss_nil)
(pss_one (ps_ret pe_int)))), ?_⟩
    refine ifFld (i := 0) (at_word R hu) rfl (fun e => ?_) (fun n1 => ?_)
    · obtain ⟨c, l, rfl⟩ := is_note e
      exact q
    refine ifFld (i := 0) (at_word R hu) rfl (fun e => ?_) (fun n2 => ?_)
    · obtain ⟨c, n, rfl⟩ := is_skip e
      exact fld_var (i := 0) (at_by R hu) rfl q
    · have e : goOn r = 0 := by
        cases r with
        | note c l => exact absurd rfl n1
        | skip c n => exact absurd rfl n2
        | _ => rfl
      rw [e] at q
      exact q
def spOwn (R : TRows K mg) : Sp := fun vs H Q _ => ∃ (u : Addr) (r : RowD), vs = [.ref u] ∧ RowAt R H u r ∧ ∀ t H', Same H H' → StepAt K H' t (ownT r) → Q (.ref t) H'
theorem scOwn : FnScope ["row"] ["row"] (defScope sOwn) := ⟨rfl, rfl, rfl, by decide +kernel, rfl, by decide +kernel, by decide +kernel⟩
theorem ok_ownStep (N : TNum1 B) : FnOk P w K mg base CX0 2 N.own.f N.own.fd ["row"] (spOwn R) := by
  refine N.own.F.ok scOwn (fun vs H Q E h => ?_) (fun cdv A outer s H vs Q E hr h => ?_)
  · obtain ⟨u, r, rfl, _⟩ := h
    rfl
  · obtain ⟨u, r, rfl, hu, q⟩ := h
    refine ⟨_, (pss_cons (ps_if (pt_cmpR op_eq (pe_fld (pv 0) rfl) pe_str (nomark _)) (pss_one (ps_ret (pe_tup (pa_cons (pe_tup (pa_cons pe_str (pa_cons (pe_fld (pv 0) rfl) pa_nil))) (pa_cons (pe_glob (v := .ref N.sb) (by rfl) N.mSB rfl) pa_nil))))) pss_nil)
(pss_cons (ps_if (pt_cmpR op_eq (pe_fld (pv 0) rfl) pe_str (nomark _)) (pss_one (ps_ret (pe_tup (pa_cons (pe_glob (v := .ref N.sn) (by rfl) N.mSN rfl) (pa_cons (pe_glob (v := .ref N.sn) (by rfl) N.mSN rfl) pa_nil))))) pss_nil)
(pss_cons (ps_if (pt_cmpR op_eq (pe_fld (pv 0) rfl) pe_str (nomark _)) (pss_one (ps_ret (pe_tup (pa_cons (pe_glob (v := .ref N.sb) (by rfl) N.mSB rfl) (pa_cons (pe_glob (v := .ref N.sb) (by rfl) N.mSB rfl) pa_nil))))) pss_nil)
(pss_one (ps_ret (pe_tup (pa_cons (pe_tup (pa_cons pe_str (pa_cons (pe_call (ok_goingOn N) (hr.mono (by decide)) rfl N.going.m N.going.F.kp N.going.b .nil pass0 (pa_cons (pv 0) pa_nil)) pa_nil))) (pa_cons (pe_glob (v := .ref N.sb) (by rfl) N.mSB rfl) pa_nil)))))))), ?_⟩
    have two : 2 ≤ sizeLine := by decide
    have last : ownT r = ((("now" : Str), (goOn r : Int)), (("box" : Str), (0 : Int))) → tRet (tTup (tCons (tTup (tCons (tC (.str "now")) (tCons (tCall (spGoing R) [] E0 (tCons (tVar 0) tNil)) tNil))) (tCons (tC (.ref N.sb)) tNil))) { nx := fun _ H' => Q .non H', rt := Q } (L2.start ["row"] [.ref u]) H := fun e => by
      rw [e] at q
      refine ⟨_, rfl, u, r, rfl, hu, two, fun t1 h1 => ⟨two, fun t2 h2 => ?_⟩⟩
      have s1 := Same.new (o := .tup [.str "now", .int (goOn r : Int)]) h1
      have s2 := Same.new (o := .tup [.ref t1, .ref N.sb]) h2
      exact q t2 _ (s1.trans s2) ⟨t1, N.sb, SqT.of upd_same, SqT.of (s2 _ _ upd_same), N.hSB _⟩
    refine ifFld (i := 0) (at_word R hu) rfl (fun e => ?_) (fun n1 => ?_)
    · obtain ⟨c, n, rfl⟩ := is_set e
      refine fld_var (i := 0) (at_to R hu) rfl ⟨two, fun t1 h1 => ⟨two, fun t2 h2 => ?_⟩⟩
      have s1 := Same.new (o := .tup [.str "at", .int (n : Int)]) h1
      have s2 := Same.new (o := .tup [.ref t1, .ref N.sb]) h2
      exact q t2 _ (s1.trans s2) ⟨t1, N.sb, SqT.of upd_same, SqT.of (s2 _ _ upd_same), N.hSB _⟩
    refine ifFld (i := 0) (at_word R hu) rfl (fun e => ?_) (fun n2 => ?_)
    · obtain ⟨c, rfl⟩ := is_keep e
      exact ⟨two, fun t2 h2 => q t2 _ (Same.new h2) ⟨N.sn, N.sn, SqT.of upd_same, N.hSN _, N.hSN _⟩⟩
    refine ifFld (i := 0) (at_word R hu) rfl (fun e => ?_) (fun n3 => ?_)
    · obtain ⟨c, rfl⟩ := is_back e
      exact ⟨two, fun t2 h2 => q t2 _ (Same.new h2) ⟨N.sb, N.sb, SqT.of upd_same, N.hSB _, N.hSB _⟩⟩
    refine last ?_
    cases r with
    | set c n => exact absurd rfl n1
    | keep c => exact absurd rfl n2
    | back c => exact absurd rfl n3
    | _ => rfl
/-- where a counter stands in its chain: last -/
def EndAt (ch : List Str) (z : Str) : Prop := ∃ pre, ch = pre ++ [z]
def spStep (R : TRows K mg) : Sp := fun vs H Q _ => ∃ (u k : Addr) (r : RowD) (ch : List Str) (z : Str), vs = [.ref u, .ref k] ∧ RowAt R H u r ∧ SqT K H k (ch.map V.str) ∧ EndAt ch z ∧ ∀ t H', Same H H' → StepAt K H' t (stepR r ch z) → Q (.ref t) H'
theorem scStep : FnScope ["row", "chain"] ["row", "chain"] (defScope sStep) := ⟨rfl, rfl, rfl, by decide +kernel, rfl, by decide +kernel, by decide +kernel⟩
theorem ok_stepOf (N : TNum1 B) : FnOk P w K mg base CX0 3 N.step.f N.step.fd ["row", "chain"] (spStep R) := by
  refine N.step.F.ok scStep (fun vs H Q E h => ?_) (fun cdv A outer s H vs Q E hr h => ?_)
  · obtain ⟨u, k, r, ch, z, rfl, _⟩ := h
    rfl
  · obtain ⟨u, k, r, ch, z, rfl, hu, hk, ⟨pre, hz⟩, q⟩ := h
    refine ⟨_, (pss_cons (ps_if (PW.pt (pw_or (pt_cmpR op_notIn_seq (pe_fld (pv 0) rfl) (pe_glob (v := .ref B.cw) (by rfl) B.mCW rfl) rfl) (pw_or1 (pt_cmpR op_notIn_seq (pe_fld (pv 0) rfl) (pv 1) rfl)))) (pss_one (ps_ret (pe_glob (v := .ref N.sy) (by rfl) N.mSY rfl))) pss_nil)
(pss_cons (ps_if (pt_cmpR op_eq (pe_fld (pv 0) rfl) (pe_ix ix_tup (pv 1) (pe_un un_neg pe_int) (fun _ _ => rfl)) (nomark _)) (pss_one (ps_ret (pe_call (ok_ownStep N) (hr.mono (by decide)) rfl N.own.m N.own.F.kp N.own.b .nil pass0 (pa_cons (pv 0) pa_nil)))) pss_nil)
(pss_cons (ps_if (pt_cmpR op_gt (pe_call (ok_goingOn N) (hr.mono (by decide)) rfl N.going.m N.going.F.kp N.going.b .nil pass0 (pa_cons (pv 0) pa_nil)) pe_int (nomark _)) (pss_one (ps_ret (pe_tup (pa_cons (pe_tup (pa_cons pe_str (pa_cons pe_int pa_nil))) (pa_cons (pe_glob (v := .ref N.sb) (by rfl) N.mSB rfl) pa_nil))))) pss_nil)
(pss_one (ps_ret (pe_glob (v := .ref N.sy) (by rfl) N.mSY rfl)))))), ?_⟩
    have two : 2 ≤ sizeLine := by decide
    have flatS : ∀ l : List Str, (l.map V.str).all flatV = true := fun l => by
      rw [List.all_eq_true]
      intro v hv
      obtain ⟨x, _, rfl⟩ := List.mem_map.mp hv
      rfl
    have stay : stepR r ch z = stayT → Q (.ref N.sy) H := fun e => q N.sy H (Same.refl _) (by rw [e]; exact N.hSY _)
    obtain ⟨dx, fs, e1, e2, e3, e4⟩ := at_word R hu
    refine ⟨_, rfl, u, clsOf R r, dx, fs, .str (rowWord r), rfl, e1, e2, e3, e4, B.cw, cwV, rfl, .inr (B.hCW _), rfl, rfl, _, rfl, ?_⟩
    cases hc : cntOf r with
    | none =>
      refine iteTD (by show (!inV (.str (rowWord r)) cwV) = true; rw [word_cnt, hc]; rfl) (iteT (stay ?_))
      unfold stepR
      rw [hc]
    | some c =>
      refine iteFD (by show (!inV (.str (rowWord r)) cwV) = false; rw [word_cnt, hc]; rfl) ?_
      obtain ⟨dx, fs, e1, e2, e3, e4⟩ := at_counter R hu hc
      refine ⟨_, rfl, u, clsOf R r, dx, fs, .str c, rfl, e1, e2, e3, e4, _, rfl, k, ch.map V.str, rfl, .inr hk, rfl, flatS ch, _, rfl, ?_⟩
      have ei : inV (.str c) (ch.map V.str) = decide (c ∈ ch) := inV_strs ..
      by_cases hm : c ∈ ch
      case neg =>
        refine iteTD (by show (!inV (.str c) (ch.map V.str)) = true; rw [ei, decide_eq_false hm]; rfl) (stay ?_)
        unfold stepR
        rw [hc]
        exact if_neg hm
      case pos =>
      refine iteFD (by show (!inV (.str c) (ch.map V.str)) = false; rw [ei, decide_eq_true hm]; rfl) ?_
      have hat : atI (ch.map V.str) (-1) = some (.str z) := by rw [hz, List.map_append]; exact atI_last _ _
      refine ⟨_, rfl, u, clsOf R r, dx, fs, .str c, rfl, e1, e2, e3, e4, _, rfl, _, rfl, k, _, _, .str z, rfl, rfl, hk, hat, rfl, _, rfl, ?_⟩
      have es : stepR r ch z = if c = z then ownT r else if 0 < goOn r then (((("at" : Str), (0 : Int)), (("box" : Str), (0 : Int))) : Trm × Trm) else stayT := by
        unfold stepR
        rw [hc]
        exact if_pos hm
      by_cases he : c = z
      · refine iteTD (wtT he) ?_
        rw [if_pos he] at es
        rw [es] at q
        exact ⟨_, rfl, u, r, rfl, hu, q⟩
      · refine iteFD (wtF he) ?_
        rw [if_neg he] at es
        refine ⟨_, rfl, u, r, rfl, hu, _, _, rfl, rfl, _, rfl, ?_⟩
        by_cases hg : 0 < goOn r
        · refine iteTD (by simp only [decide_eq_true_iff]; omega) ?_
          rw [if_pos hg] at es
          rw [es] at q
          refine ⟨two, fun t1 h1 => ⟨two, fun t2 h2 => ?_⟩⟩
          have s1 := Same.new (o := .tup [.str "at", .int 0]) h1
          have s2 := Same.new (o := .tup [.ref t1, .ref N.sb]) h2
          exact q t2 _ (s1.trans s2) ⟨t1, N.sb, SqT.of upd_same, SqT.of (s2 _ _ upd_same), N.hSB _⟩
        · refine iteFD (by simp only [decide_eq_false_iff_not]; omega) ?_
          rw [if_neg hg] at es
          exact stay es
def spReck (K : PySem.W.Frag) : Sp := fun vs H Q _ => ∃ (t : Addr) (m : Trm) (n k : Int), vs = [.ref t, .int n, .int k] ∧ TermAt K H t m ∧ Q (.int (reckT m n k)) H
theorem scReck : FnScope ["term", "number", "kept", "word", "more"] ["term", "number", "kept"] (defScope sReck) := ⟨rfl, rfl, rfl, by decide +kernel, rfl, by decide +kernel, by decide +kernel⟩
theorem ok_reck (N : TNum1 B) : FnOk P w K mg base CX0 1 N.reck.f N.reck.fd ["term", "number", "kept"] (spReck K) := by
  refine N.reck.F.ok scReck (fun vs H Q E h => ?_) (fun cdv A outer s H vs Q E hr h => ?_)
  · obtain ⟨t, m, n, k, rfl, _⟩ := h
    rfl
  · obtain ⟨t, m, n, k, rfl, ht, q⟩ := h
    refine ⟨_, (pss_cons (ps_asg (pv 0) (pg_tup (by rfl) (pgs_cons (pg_name (i := 3) scReck.nd rfl (Or.inl rfl)) (pgs_cons (pg_name (i := 4) scReck.nd rfl (Or.inl rfl)) pgs_nil))))
(pss_cons (ps_if (pt_cmpR op_eq (pv 3) pe_str (nomark _)) (pss_one (ps_ret (pe_op op_add (pv 1) (pv 4)))) pss_nil)
(pss_cons (ps_if (pt_cmpR op_eq (pv 3) pe_str (nomark _)) (pss_one (ps_ret (pe_op op_add (pv 2) (pv 4)))) pss_nil)
(pss_one (ps_ret (pv 4)))))), ?_⟩
    refine ⟨_, rfl, t, _, rfl, ht, rfl, _, _, rfl, _, _, rfl, rfl, ?_⟩
    try dsimp only [List.set]
    unfold reckT at q
    refine ⟨_, rfl, rfl, _, rfl, ?_⟩
    by_cases h1 : m.1 = "now"
    · rw [if_pos h1] at q
      exact iteTD (wtT h1) ⟨_, rfl, _, rfl, _, _, rfl, rfl, q⟩
    rw [if_neg h1] at q
    refine iteFD (wtF h1) ⟨_, rfl, rfl, _, rfl, ?_⟩
    by_cases h2 : m.1 = "box"
    · rw [if_pos h2] at q
      exact iteTD (wtT h2) ⟨_, rfl, _, rfl, _, _, rfl, rfl, q⟩
    rw [if_neg h2] at q
    exact iteFD (wtF h2) ⟨_, rfl, q⟩
theorem sqt_dk {H : Hp} {D a : Addr} {kvs : List (Key × V)} {o : HO} {xs : List V} (hD : H D = some (.dK kvs)) (h : SqT K H a xs) : SqT K (upd H D o) a xs := by
  rcases h with (e | ⟨u, e⟩) | e
  · exact .inl (.inl (by rw [upd_ne (fun z => by rw [z, hD] at e; cases e)]; exact e))
  · exact .inl (.inr ⟨u, by rw [upd_ne (fun z => by rw [z, hD] at e; cases e)]; exact e⟩)
  · exact .inr e
theorem valV_none {k : Key} : ∀ {kvs : List (Key × V)}, k ∉ kvs.map (·.1) → valV kvs k = none
  | [], _ => rfl
  | p :: r, h => by
    rw [List.map_cons, List.mem_cons, not_or] at h
    rw [valV_neg fun e => h.1 e.symm]
    exact valV_none h.2
/-- a name that comes behind is no key yet -/
theorem key_new {H : Hp} {kvs : List (Key × V)} {zs : List Str} {st : List (Int × Int)} {i : Nat} {z : Str} (pd : Paired (fun (kv : Key × V) (z : Str × (Int × Int)) => ∃ t : Addr, kv = (.inr z.1, .ref t) ∧ SqT K H t [.int z.2.1, .int z.2.2]) kvs ((zs.zip st).take i)) (nd : zs.Nodup) (hz : zs[i]? = some z) : valV kvs (.inr z) = none := by
  refine valV_none fun hm => ?_
  obtain ⟨kv, hkv, ek⟩ := List.mem_map.mp hm
  obtain ⟨j, hj⟩ := List.getElem?_of_mem hkv
  obtain ⟨y, hy, t, e, _⟩ := paired_at pd hj
  have hjl := (List.getElem?_eq_some_iff.mp hy).1
  rw [List.length_take] at hjl
  rw [List.getElem?_take, if_pos (by omega)] at hy
  have h1 := (List.getElem?_zip_eq_some.mp hy).1
  rw [e] at ek
  have e2 : y.1 = z := by injection ek
  rw [e2] at h1
  have l1 := (List.getElem?_eq_some_iff.mp h1)
  have l2 := (List.getElem?_eq_some_iff.mp hz)
  obtain ⟨a1, b1⟩ := l1
  obtain ⟨a2, b2⟩ := l2
  exact List.pairwise_iff_getElem.mp nd j i a1 a2 (by omega) (b1.trans b2.symm)
/-- the chains of all counters, in a list -/
def ChnAt (K : PySem.W.Frag) (H : Hp) (k : Addr) (c : Chn) : Prop := SqT K H k (c.1.map V.str) ∧ EndAt c.1 c.2
/-- the numbers and boxes of all counters -/
def StAt (K : PySem.W.Frag) (H : Hp) (sp : Addr) (zs : List Str) (st : List (Int × Int)) : Prop := ∃ kvs : List (Key × V), H sp = some (.dK kvs) ∧ Paired (fun (kv : Key × V) (z : Str × (Int × Int)) => ∃ t : Addr, kv = (.inr z.1, .ref t) ∧ SqT K H t [.int z.2.1, .int z.2.2]) kvs (zs.zip st)
theorem StAt.same {H H' : Hp} {sp : Addr} {zs : List Str} {st : List (Int × Int)} (h : StAt K H sp zs st) (s : Same H H') : StAt K H' sp zs st := by
  obtain ⟨kvs, a, b⟩ := h
  exact ⟨kvs, s _ _ a, paired_mono (fun _ _ ⟨t, e, z⟩ => ⟨t, e, Same.sqt s z⟩) b⟩
theorem st_get {H : Hp} {sp : Addr} {zs : List Str} {st : List (Int × Int)} (h : StAt K H sp zs st) (nd : zs.Nodup) {i : Nat} {z : Str} {s : Int × Int} (hz : zs[i]? = some z) (hs : st[i]? = some s) : ∃ t : Addr, DGet H sp (.str z) (some (.ref t)) ∧ SqT K H t [.int s.1, .int s.2] := by
  obtain ⟨kvs, a, b⟩ := h
  have go : ∀ {kvs : List (Key × V)} {zs : List Str} {st : List (Int × Int)} {i : Nat}, Paired (fun (kv : Key × V) (z : Str × (Int × Int)) => ∃ t : Addr, kv = (.inr z.1, .ref t) ∧ SqT K H t [.int z.2.1, .int z.2.2]) kvs (zs.zip st) → zs.Nodup → zs[i]? = some z → st[i]? = some s →
      ∃ t : Addr, valV kvs (.inr z) = some (.ref t) ∧ SqT K H t [.int s.1, .int s.2] := by
    intro kvs
    induction kvs with
    | nil =>
      intro zs st i h nd hz hs
      cases zs with
      | nil => cases hz
      | cons a zs =>
        cases st with
        | nil => cases hs
        | cons b st => cases h
    | cons kv kvs ih =>
      intro zs st i h nd hz hs
      cases zs with
      | nil => cases hz
      | cons a zs =>
        cases st with
        | nil => cases hs
        | cons b st =>
          cases h with
          | cons h1 h2 =>
            obtain ⟨t, rfl, ht⟩ := h1
            rw [List.nodup_cons] at nd
            cases i with
            | zero =>
              cases hz
              cases hs
              exact ⟨t, valV_pos rfl, ht⟩
            | succ i =>
              obtain ⟨t2, g1, g2⟩ := ih h2 nd.2 hz hs
              refine ⟨t2, ?_, g2⟩
              rw [valV_neg fun e => ?_]
              · exact g1
              · injection e with e
                have e2 : a = z := e
                exact nd.1 (by rw [e2]; exact List.mem_of_getElem? hz)
  obtain ⟨t, g1, g2⟩ := go b nd hz hs
  exact ⟨t, .inl ⟨kvs, .inr z, .inl a, rfl, g1.symm⟩, g2⟩
def spDone (R : TRows K mg) : Sp := fun vs H Q _ => ∃ (u cl sp : Addr) (ks : List Addr) (r : RowD) (L : List Chn) (st : List (Int × Int)), vs = [.ref u, .ref cl, .ref sp] ∧ RowAt R H u r ∧ SqL K H cl (ks.map V.ref) ∧ Paired (ChnAt K H) ks L ∧ L.length ≤ 100 ∧ (L.map (·.2)).Nodup ∧ StAt K H sp (L.map (·.2)) st ∧ st.length = L.length ∧
  ∀ sp' H', Same H H' → StAt K H' sp' (L.map (·.2)) (doneS r L st) → Q (.ref sp') H'
theorem scDone : FnScope ["row", "chains", "state", "after", "chain", "number", "kept", "now", "box"] ["row", "chains", "state"] (defScope sDone) := ⟨rfl, rfl, rfl, by decide +kernel, rfl, by decide +kernel, by decide +kernel⟩
theorem ok_done (N : TNum1 B) : FnOk P w K mg base CX0 4 N.done.f N.done.fd ["row", "chains", "state"] (spDone R) := by
  refine N.done.F.ok scDone (fun vs H Q E h => ?_) (fun cdv A outer s H vs Q E hr h => ?_)
  · obtain ⟨u, cl, sp, ks, r, L, st, rfl, _⟩ := h
    rfl
  · obtain ⟨u, cl, sp, ks, r, L, st, rfl, hu, hcl, hks, hl, nd, hst, hsl, q⟩ := h
    refine ⟨_, (pss_cons (ps_set (i := 3) scDone.nd rfl (Or.inl rfl) pe_dnewK)
(pss_cons (ps_for PassesOwn.never rfl (pi_list (pv 1)) (pg_name (i := 4) scDone.nd rfl (Or.inl rfl))
(pss_cons (ps_asg (pe_dget (roomU hr) (pv 2) (pe_ix ix_tup (pv 4) (pe_un un_neg pe_int) (fun _ _ => rfl)) (fun _ _ => rfl)) (pg_tup (by rfl) (pgs_cons (pg_name (i := 5) scDone.nd rfl (Or.inl rfl)) (pgs_cons (pg_name (i := 6) scDone.nd rfl (Or.inl rfl)) pgs_nil))))
(pss_cons (ps_asg (pe_call (ok_stepOf N) (hr.mono (by decide)) rfl N.step.m N.step.F.kp N.step.b .nil pass0 (pa_cons (pv 0) (pa_cons (pv 4) pa_nil))) (pg_tup (by rfl) (pgs_cons (pg_name (i := 7) scDone.nd rfl (Or.inl rfl)) (pgs_cons (pg_name (i := 8) scDone.nd rfl (Or.inl rfl)) pgs_nil))))
(pss_one (ps_dput (roomU hr) (pv 3) (pe_ix ix_tup (pv 4) (pe_un un_neg pe_int) (fun _ _ => rfl)) (pe_tup (pa_cons (pe_call (ok_reck N) (hr.mono (by decide)) rfl N.reck.m N.reck.F.kp N.reck.b .nil pass0 (pa_cons (pv 7) (pa_cons (pv 5) (pa_cons (pv 6) pa_nil)))) (pa_cons (pe_call (ok_reck N) (hr.mono (by decide)) rfl N.reck.m N.reck.F.kp N.reck.b .nil pass0 (pa_cons (pv 8) (pa_cons (pv 5) (pa_cons (pv 6) pa_nil)))) pa_nil))) (by rfl))))))
(pss_one (ps_ret (pv 3))))), ?_⟩
    have two : 2 ≤ sizeLine := by decide
    have hkl := paired_len hks
    intro D hD
    have s1 := Same.new (o := .dK []) hD
    have e1 : (upd H D (.dK [])) D = some (.dK []) := upd_same
    generalize upd H D (.dK []) = H1 at s1 e1 ⊢
    have hdl : (doneS r L st).length = L.length := by
      unfold doneS
      rw [List.length_zipWith]
      omega
    refine ⟨_, rfl, cl, rfl, ⟨_, s1.seq hcl⟩, for_list (xs := ks.map V.ref) (fun i σ Hx => ∃ y4 y5 y6 y7 y8, σ = [some (.ref u), some (.ref cl), some (.ref sp), some (.ref D), y4, y5, y6, y7, y8] ∧ Same H Hx ∧ ∃ kvs : List (Key × V), Hx D = some (.dK kvs) ∧
        Paired (fun (kv : Key × V) (z : Str × (Int × Int)) => ∃ t : Addr, kv = (.inr z.1, .ref t) ∧ SqT K Hx t [.int z.2.1, .int z.2.2]) kvs (((L.map (·.2)).zip (doneS r L st)).take i))
      ⟨_, _, _, _, _, rfl, s1, [], e1, .nil⟩ (fun i σ Hx _ hP => by obtain ⟨_, _, _, _, _, _, h, _⟩ := hP; exact h.seq hcl) (fun i v σ Hx hv hP => ?turn) (fun σ Hx hP => ?fin)⟩
    case fin =>
      obtain ⟨y4, y5, y6, y7, y8, rfl, sx, kvs, e2, pd⟩ := hP
      rw [List.take_of_length_le (by rw [List.length_map, hkl, List.length_zip, List.length_map]; omega)] at pd
      exact ⟨_, rfl, q D Hx sx ⟨kvs, e2, pd⟩⟩
    case turn =>
      obtain ⟨y4, y5, y6, y7, y8, rfl, sx, kvs, e2, pd⟩ := hP
      rw [List.getElem?_map] at hv
      obtain ⟨k, hk, rfl⟩ := Option.map_eq_some_iff.mp hv
      obtain ⟨c, hc, hkc, hend⟩ := paired_at hks hk
      have hil := (List.getElem?_eq_some_iff.mp hc).1
      have hs : st[i]? = some st[i] := List.getElem?_eq_getElem (by omega)
      have hz : (L.map (·.2))[i]? = some c.2 := by rw [List.getElem?_map, hc]; rfl
      obtain ⟨t, g1, g2⟩ := st_get (hst.same sx) nd hz hs
      have hat : atI (c.1.map V.str) (-1) = some (.str c.2) := by obtain ⟨pre, e⟩ := hend; rw [e, List.map_append]; exact atI_last _ _
      try dsimp only [List.set]
      refine ⟨_, rfl, _, rfl, _, rfl, k, _, _, .str c.2, rfl, rfl, Same.sqt sx hkc, hat, sp, .ref t, rfl, g1, t, _, rfl, g2, rfl, _, _, rfl, _, _, rfl, rfl, ?_⟩
      try dsimp only [List.set]
      refine ⟨_, rfl, _, rfl, u, k, r, c.1, c.2, rfl, hu.same sx, Same.sqt sx hkc, hend, fun t2 H2 s2 hstep => ?_⟩
      obtain ⟨b1, b2, f1, f2, f3⟩ := hstep
      refine ⟨t2, _, rfl, f1, rfl, _, _, rfl, _, _, rfl, rfl, ?_⟩
      try dsimp only [List.set]
      have sx2 := Same.trans sx s2
      refine ⟨_, rfl, _, rfl, _, rfl, b1, _, _, _, rfl, f2, _, rfl, _, rfl, _, rfl, b2, _, _, _, rfl, f3, two, fun t3 ht3 => ?_⟩
      have s3 := Same.new (o := .tup [.int (doneOne r c st[i]).1, .int (doneOne r c st[i]).2]) ht3
      have e3 : (upd H2 t3 (.tup [.int (doneOne r c st[i]).1, .int (doneOne r c st[i]).2])) D = some (.dK kvs) := s3 _ _ (s2 _ _ e2)
      have hkv : kvs.length ≤ 100 := by
        rw [paired_len pd, List.length_take]
        have := hkl
        omega
      have hn : valV kvs (.inr c.2) = none := key_new pd nd hz
      refine ⟨_, rfl, _, rfl, _, rfl, k, _, _, .str c.2, rfl, rfl, Same.sqt (Same.trans sx2 s3) hkc, hat, D, _, rfl, DPut.k (k := .inr c.2) e3 (small1000 (by omega)), ?_⟩
      refine ⟨_, _, _, _, _, rfl, fun a o e => ?_, _, upd_same, ?_⟩
      · rw [upd_ne (ne_of_none e hD)]
        exact s3 _ _ (sx2 _ _ e)
      · rw [putK_new _ hn]
        have hdi : ((L.map (·.2)).zip (doneS r L st))[i]? = some (c.2, doneOne r c st[i]) := List.getElem?_zip_eq_some.mpr ⟨hz, by unfold doneS; rw [List.getElem?_zipWith, hc, hs]⟩
        rw [List.take_add_one, hdi]
        refine paired_snoc ⟨t3, rfl, sqt_dk e3 (SqT.of upd_same)⟩ (paired_mono (fun _ _ z => ?_) pd)
        obtain ⟨t4, h4, h5⟩ := z
        exact ⟨t4, h4, sqt_dk e3 (Same.sqt s3 (Same.sqt s2 h5))⟩
end
end Pn

namespace Pn
open PySem PySem.Spec PyProof.Rows L2 TL
abbrev sTold : Stmt := top 71
abbrev sLinks : Stmt := top 72
section
variable {K : PySem.W.Frag} {tl : TE} {g : TG} {tt : TT} {te : TE} {vs : List Nat} {σ : L2.St} {H : Hp} {Q : VK} {p : Addr} {xs : List V}
/-- [e for n, x in enumerate(xs) if ..] -/
theorem lcw_enum {ta : TA} (h0 : ∀ R : List V → Hp → Prop, R [.ref p] H → ta σ H R) (hp : SqL K H p xs) (hl : xs.length ≤ 10000) {out : Nat → Option V}
    (turn : ∀ (i : Nat) (x : V) (t : Addr) (Hi : Hp) (S : Hp → Prop) (Y : VK), xs[i]? = some x → Same H Hi → Hi t = some (.tup [.int (i : Int), x]) → (out i = none → ∀ H', Same Hi H' → S H') → (∀ v, out i = some v → ∀ H', Same Hi H' → Y v H') →
      g (.ref t) (wipe σ vs) Hi fun σ2 H2 => wipe σ2 vs = wipe σ vs ∧ tt σ2 H2 fun b H3 => if b = true then te σ2 H3 Y else S H3)
    (fin : ∀ (D : Addr) (H' : Hp), H D = none → Same H H' → H' D = some (.lst ((List.range xs.length).filterMap out)) → Q (.ref D) H') : tLc (iEnum K ta) g tt te vs σ H Q := by
  refine h0 _ ⟨p, xs, rfl, hp, fun D hD => ?_⟩
  refine ⟨fun i m Hi => m = xs.length - i ∧ i ≤ xs.length ∧ Same H Hi ∧ Hi D = some (.lst ((List.range i).filterMap out)), ⟨_, rfl, Nat.zero_le _, Same.new hD, upd_same⟩, ?_⟩
  rintro i m Hi ⟨rfl, hi, s, hd⟩
  by_cases lt : i < xs.length
  · have hx : xs[i]? = some xs[i] := List.getElem?_eq_getElem lt
    refine .inr ⟨⟨xs, _, s.seq hp, hx⟩, fun H' => Same H H' ∧ H' D = some (.lst ((List.range (i + 1)).filterMap out)), fun H' z => ⟨xs.length - (i + 1), by omega, rfl, lt, z.1, z.2⟩, fun v H' y => ?_⟩
    obtain ⟨t, x, rfl, ht, rfl, hx2⟩ := y
    have e := hx2 xs (s.seq hp)
    have st := Same.new (o := .tup [.int (i : Int), x]) ht
    refine turn i x t _ _ _ e (s.trans st) upd_same (fun h0 H3 s3 => ⟨(s.trans st).trans s3, ?_⟩) (fun v hv H3 s3 => ⟨_, s3 _ _ (st _ _ hd), ?_, ?_, ?_⟩)
    · rw [range_out, h0, List.append_nil]
      exact s3 _ _ (st _ _ hd)
    · have h1 : ((List.range i).filterMap out).length ≤ (List.range i).length := List.length_filterMap_le _ _
      rw [List.length_range] at h1
      have h2 : (10001 : Nat) ≤ sizeLine := by decide
      omega
    · exact fun a o e => by
        rw [upd_ne (ne_of_none e hD)]
        exact s3 _ _ (st _ _ (s _ _ e))
    · rw [upd_same, range_out, hv]
  · obtain rfl : i = xs.length := by omega
    exact .inl ⟨⟨xs, s.seq hp, Nat.le_refl _⟩, fin D Hi hD s hd⟩
end
theorem filt_map {α β : Type} (p : α → Bool) (f : α → β) : ∀ l : List α, l.filterMap (fun i => if p i = true then some (f i) else none) = (l.filter p).map f
  | [] => rfl
  | a :: l => by
    cases h : p a with
    | true => rw [List.filterMap_cons, List.filter_cons, h, if_pos rfl, if_pos rfl, filt_map p f l]; rfl
    | false => rw [List.filterMap_cons, List.filter_cons, h, if_neg Bool.false_ne_true, if_neg Bool.false_ne_true, filt_map p f l]
theorem last_split {α : Type} {l : List α} {x : α} (h : l.getLast? = some x) : ∃ pre, l = pre ++ [x] := by
  have ne : l ≠ [] := fun e => by rw [e] at h; cases h
  refine ⟨l.dropLast, ?_⟩
  rw [List.getLast?_eq_some_getLast ne, Option.some.injEq] at h
  rw [← h]
  exact (List.dropLast_concat_getLast ne).symm
/-! ### which note a reference means -/
/-- the places of a label among labels -/
def placesOf (lab : Str) (labs : List Str) : List Nat := (List.range labs.length).filter fun i => decide (labs[i]? = some lab)
def toldN (lab : Str) (ahead : Nat) (labs : List Str) : Nat := ((((placesOf lab labs).filter fun i => decide (i < ahead)).getLast?).orElse fun _ => (placesOf lab labs).head?).getD 0
/-- the notes' labels -/
def nlabsOf (rs : List RowD) : List Str := rs.filterMap fun r => match r with | .note _ l => some l | _ => none
def NoteAt {K : PySem.W.Frag} {mg : Str → Option Value} (R : TRows K mg) (H : Hp) (u : Addr) (l : Str) : Prop := ∃ c, RowAt R H u (.note c l)
section
variable {P : Program} {w : World} {K : PySem.W.Frag} {mg : Str → Option Value} {base : Heap} {R : TRows K mg} {T : TPart R} {B : TBk T}
structure TNum2 {K : PySem.W.Frag} {mg : Str → Option Value} {R : TRows K mg} {T : TPart R} (B : TBk T) : Type extends TNum1 B where
  mEnum : mg "enumerate" = none
  told : At K mg "note_told" sTold ["label", "ahead", "notes"]
  links : At K mg "links" sLinks ["book"]
def spTold (R : TRows K mg) : Sp := fun vs H Q _ => ∃ (lab : Str) (ah : Nat) (nl : Addr) (us : List Addr) (labs : List Str), vs = [.str lab, .int (ah : Int), .ref nl] ∧ SqL K H nl (us.map V.ref) ∧ Paired (NoteAt R H) us labs ∧ labs.length ≤ 5000 ∧ lab ∈ labs ∧ ∀ H', Same H H' → Q (.int (toldN lab ah labs : Int)) H'
theorem scTold : FnScope ["label", "ahead", "notes", "numbers", "earlier", "number", "note"] ["label", "ahead", "notes"] (defScope sTold) := ⟨rfl, rfl, rfl, by decide +kernel, rfl, by decide +kernel, by decide +kernel⟩
theorem ok_told (N : TNum2 B) : FnOk P w K mg base CX0 2 N.told.f N.told.fd ["label", "ahead", "notes"] (spTold R) := by
  refine N.told.F.ok scTold (fun vs H Q E h => ?_) (fun cdv A outer s H vs Q E hr h => ?_)
  · obtain ⟨lab, ah, nl, us, labs, rfl, _⟩ := h
    rfl
  · obtain ⟨lab, ah, nl, us, labs, rfl, hnl, hus, hll, hm, q⟩ := h
    refine ⟨_, (pss_cons (ps_setLc (i := 3) (own := [("number", 5), ("note", 6)]) (g := gTup K 2 (gCons (gName 5) (gCons (gName 6) gNil))) (by rfl) scTold.nd rfl rfl (sw_true rfl rfl rfl (by decide +kernel)) (pi_enum (by rfl) N.mEnum (pa_cons (pv 2) pa_nil))
 (blkOk_by (N := ["label", "ahead", "notes", "numbers", "earlier", "number", "note"]) (sc := defScope sTold) (by decide +kernel)) (fun _ _ _ _ _ => (pg_tup (by rfl) (pgs_cons (pg_name (i := 5) scTold.nd rfl (Or.inl rfl)) (pgs_cons (pg_name (i := 6) scTold.nd rfl (Or.inl rfl)) pgs_nil)))) (fun _ _ _ _ _ => pts_one (pt_cmpR op_eq (show PE _ _ (tFld K (tVar 6) "label") from pe_fld (pv 6) rfl) (pv 0) (nomark _))) (fun _ _ _ _ _ => (pv 5)))
(pss_cons (ps_setLc (i := 4) (own := [("number", 5)]) (g := gName 5) (by rfl) scTold.nd rfl rfl (sw_true rfl rfl rfl (by decide +kernel)) (pi_list (pv 3))
 (blkOk_by (N := ["label", "ahead", "notes", "numbers", "earlier", "number", "note"]) (sc := defScope sTold) (by decide +kernel)) (fun _ _ _ _ _ => (pg_name (i := 5) scTold.nd rfl (Or.inl rfl))) (fun _ _ _ _ _ => pts_one (pt_cmpR op_lt (pv 5) (pv 1) (nomark _))) (fun _ _ _ _ _ => (pv 5)))
(pss_cons (ps_if (pt_cmpR op_gt (pe_callB (show CallR _ (.builtin "len") (rLenSq K) from call_len_sq) (by rfl) R.N.mLen PySem.boot_len (pa_cons (pv 4) pa_nil)) pe_int (nomark _)) (pss_one (ps_ret (pe_ix ix_list (pv 4) (pe_un un_neg pe_int) (fun _ _ => rfl)))) pss_nil)
(pss_one (ps_ret (pe_ix ix_list (pv 3) pe_int (fun _ _ => rfl))))))), ?_⟩
    have hul := paired_len hus
    have pl : (placesOf lab labs).length ≤ labs.length := by
      unfold placesOf
      have := List.length_filter_le (fun i => decide (labs[i]? = some lab)) (List.range labs.length)
      rw [List.length_range] at this
      exact this
    have pne : placesOf lab labs ≠ [] := fun z => by
      obtain ⟨i, hi⟩ := List.getElem?_of_mem hm
      have : i ∈ placesOf lab labs := List.mem_filter.mpr ⟨List.mem_range.mpr (List.getElem?_eq_some_iff.mp hi).1, decide_eq_true hi⟩
      rw [z] at this
      cases this
    refine stepSet (fun v H' => ∃ n1 : Addr, v = .ref n1 ∧ Same H H' ∧ H' n1 = some (.lst ((placesOf lab labs).map fun i : Nat => V.int (i : Int)))) (fun Q' hQ => ?c1) (fun v H1 hC => ?r1)
    case c1 =>
      refine lcw_enum (K := K) (p := nl) (xs := us.map V.ref) (out := fun i : Nat => if decide (labs[i]? = some lab) = true then some (V.int (i : Int)) else none) (fun R z => ⟨_, rfl, z⟩) hnl (by rw [List.length_map]; omega) (fun i x t Hi S Y hx sI ht h0 h1 => ?tn) (fun D H' hD sD hDl => ?fn)
      case fn =>
        rw [filt_map, List.length_map, hul] at hDl
        exact hQ _ _ ⟨D, rfl, sD, hDl⟩
      case tn =>
        rw [List.getElem?_map] at hx
        obtain ⟨u, hu, rfl⟩ := Option.map_eq_some_iff.mp hx
        obtain ⟨l, hl, c, hrow⟩ := paired_at hus hu
        obtain ⟨dx, fs, e1, e2, e3, e4⟩ := at_notelab R (hrow.same sI)
        refine ⟨t, _, rfl, SqT.of ht, rfl, _, _, rfl, _, _, rfl, rfl, rfl, ?_⟩
        refine ⟨_, rfl, u, _, dx, fs, .str l, rfl, e1, e2, e3, e4, _, rfl, rfl, _, rfl, ?_⟩
        by_cases he : l = lab
        · have oc : (fun i : Nat => if decide (labs[i]? = some lab) = true then some (V.int (i : Int)) else none) i = some (V.int (i : Int)) := if_pos (decide_eq_true (by rw [hl, he]))
          exact iteTD (wtT he) ⟨_, rfl, h1 _ oc _ (Same.refl _)⟩
        · have oc : (fun i : Nat => if decide (labs[i]? = some lab) = true then some (V.int (i : Int)) else none) i = none := if_neg (by rw [hl, decide_eq_true_iff]; exact fun z => he (Option.some.inj z))
          exact iteFD (wtF he) (h0 oc _ (Same.refl _))
    case r1 =>
    obtain ⟨n1, rfl, s1, hn1⟩ := hC
    try dsimp only [List.set]
    generalize hps : placesOf lab labs = ps at pl pne hn1
    refine stepSet (fun v H' => ∃ n2 : Addr, v = .ref n2 ∧ Same H1 H' ∧ H' n2 = some (.lst ((ps.filter fun i => decide (i < ah)).map fun i : Nat => V.int (i : Int)))) (fun Q' hQ => ?c2) (fun v H2 hC => ?r2)
    case c2 =>
      refine lcw_list (K := K) (tl := tVar 3) (p := n1) (xs := ps.map fun i : Nat => V.int (i : Int)) (out := fun i => (ps[i]?).bind fun m => if decide (m < ah) = true then some (V.int (m : Int)) else none) ?h0 (SqL.of hn1) (by rw [List.length_map]; omega) ?tn2 ?fn2
      case h0 => exact fun R z => ⟨_, rfl, z⟩
      case tn2 =>
        intro i x Hi S Y hx sI h0 h1
        rw [List.getElem?_map] at hx
        obtain ⟨m, hmm, rfl⟩ := Option.map_eq_some_iff.mp hx
        have oc : (fun i => (ps[i]?).bind fun m => if decide (m < ah) = true then some (V.int (m : Int)) else none) i = if decide (m < ah) = true then some (V.int (m : Int)) else none := by
          show (ps[i]?).bind _ = _
          rw [hmm]
          rfl
        refine ⟨rfl, _, rfl, _, rfl, _, _, rfl, rfl, _, rfl, ?_⟩
        by_cases he : m < ah
        · rw [if_pos (decide_eq_true he)] at oc
          exact iteTD (by simp only [decide_eq_true_iff]; omega) ⟨_, rfl, h1 _ oc _ (Same.refl _)⟩
        · rw [if_neg (by simpa using he)] at oc
          exact iteFD (by simp only [decide_eq_false_iff_not]; omega) (h0 oc _ (Same.refl _))
      case fn2 =>
        intro D H' hD sD hDl
        have eo : (List.range (ps.map fun i : Nat => V.int (i : Int)).length).filterMap (fun i => (ps[i]?).bind fun m => if decide (m < ah) = true then some (V.int (m : Int)) else none) = (ps.filter fun i => decide (i < ah)).map fun i : Nat => V.int (i : Int) := by
          rw [List.length_map, out_filter, filt_map]
        rw [eo] at hDl
        exact hQ _ _ ⟨D, rfl, sD, hDl⟩
    case r2 =>
    obtain ⟨n2, rfl, s2, hn2⟩ := hC
    try dsimp only [List.set]
    have s12 := s1.trans s2
    have qe : ∀ m : Nat, toldN lab ah labs = m → Q (.int (m : Int)) H2 := fun m e => by rw [← e]; exact q H2 s12
    unfold toldN at qe
    rw [hps] at qe
    generalize (ps.filter fun i => decide (i < ah)) = es at hn2 qe
    refine ⟨_, rfl, n2, _, rfl, .inl (SqL.of hn2), _, _, rfl, rfl, _, rfl, ?_⟩
    cases hes : es.getLast? with
    | none =>
      have ez : es = [] := List.getLast?_eq_none_iff.mp hes
      subst ez
      refine iteFD (by decide) ?_
      obtain ⟨m, r, rfl⟩ : ∃ m r, ps = m :: r := by
        cases ps with
        | nil => exact absurd rfl pne
        | cons m r => exact ⟨m, r, rfl⟩
      refine ⟨_, rfl, n1, _, _, .int (m : Int), rfl, rfl, SqL.of (s2 _ _ hn1), atI_nat (j := 0) rfl, qe m (by rw [hes]; rfl)⟩
    | some m =>
      obtain ⟨pre, rfl⟩ := last_split hes
      refine iteTD (by rw [decide_eq_true_iff, List.length_map, List.length_append, List.length_singleton]; omega) ?_
      refine ⟨_, rfl, _, rfl, n2, _, _, .int (m : Int), rfl, rfl, SqL.of hn2, (by rw [List.map_append]; exact atI_last _ _), qe m (by rw [hes]; rfl)⟩
theorem range_outG {α : Type} (out : Nat → Option α) (i : Nat) : (List.range (i + 1)).filterMap out = (List.range i).filterMap out ++ (match out i with | none => [] | some v => [v]) := by
  rw [List.range_succ, List.filterMap_append]
  cases h : out i with
  | none => simp [h]
  | some v => simp [h]
/-- the references with the notes that they mean -/
def linkOf (labs : List Str) (n : Nat) : RowD → Option (Str × Nat)
  | .ref l => some (l, toldN l n labs)
  | _ => none
def linkAt (labs : List Str) (rs : List RowD) (i : Nat) : Option (Str × Nat) := (rs[i]?).bind (linkOf labs (nlabsOf (rs.take i)).length)
def linksM (rs : List RowD) : List (Str × Nat) := (List.range rs.length).filterMap (linkAt (nlabsOf rs) rs)
def LinkAt (K : PySem.W.Frag) (H : Hp) (t : Addr) (x : Str × Nat) : Prop := SqT K H t [.str x.1, .int (x.2 : Int)]
def noteV (x : Addr × RowD) : Option V := match x.2 with
  | .note _ _ => some (.ref x.1)
  | _ => none
theorem notes_out {H : Hp} {us : List Addr} {rs : List RowD} (h : RowsIn R H us rs) : ∃ ns : List Addr, (us.zip rs).filterMap noteV = ns.map V.ref ∧ Paired (NoteAt R H) ns (nlabsOf rs) := by
  unfold RowsIn at h
  induction h with
  | nil => exact ⟨[], rfl, .nil⟩
  | @cons u r us rs a b ih =>
    obtain ⟨ns, e, p⟩ := ih
    cases r with
    | note c l => exact ⟨u :: ns, by rw [List.zip_cons_cons, List.filterMap_cons]; show V.ref u :: _ = _; rw [e]; rfl, .cons ⟨c, a⟩ p⟩
    | _ => exact ⟨ns, by rw [List.zip_cons_cons, List.filterMap_cons]; exact e, p⟩
theorem nlabs_len (rs : List RowD) : (nlabsOf rs).length ≤ rs.length := List.length_filterMap_le _ _
theorem nlabs_snoc (rs : List RowD) (r : RowD) : nlabsOf (rs ++ [r]) = nlabsOf rs ++ (match r with | .note _ l => [l] | _ => []) := by
  unfold nlabsOf
  rw [List.filterMap_append]
  cases r <;> rfl
def spLinks {R : TRows K mg} {T : TPart R} (B : TBk T) : Sp := fun vs H Q _ => ∃ (a : Addr) (cs : List (Str × Str)) (bk : List PartD), vs = [.ref a] ∧ BookAt B H a cs bk ∧ (unrolled bk).length ≤ 4000 ∧ (∀ l, RowD.ref l ∈ unrolled bk → l ∈ nlabsOf (unrolled bk)) ∧
  ∀ (t : Addr) (ts : List Addr) (H' : Hp), Same H H' → H' t = some (.lst (ts.map V.ref)) → Paired (LinkAt K H') ts (linksM (unrolled bk)) → Q (.ref t) H'
theorem scLinks : FnScope ["book", "row", "notes", "pairs", "ahead"] ["book"] (defScope sLinks) := ⟨rfl, rfl, rfl, by decide +kernel, rfl, by decide +kernel, by decide +kernel⟩
theorem book_ins {H : Hp} {a : Addr} {cs : List (Str × Str)} {bk : List PartD} (h : BookAt B H a cs bk) : ∃ dx fs, H a = some (.ins B.C dx fs) := by
  obtain ⟨dx, ct, pt, ft, ts, ps, us, ha, _⟩ := h
  exact ⟨dx, _, ha⟩
theorem ok_links (N : TNum2 B) : FnOk P w K mg base CX0 3 N.links.f N.links.fd ["book"] (spLinks B) := by
  refine N.links.F.ok scLinks (fun vs H Q E h => ?_) (fun cdv A outer s H vs Q E hr h => ?_)
  · obtain ⟨a, cs, bk, rfl, _⟩ := h
    rfl
  · obtain ⟨a, cs, bk, rfl, hB, hl, hrf, q⟩ := h
    refine ⟨_, (pss_cons (ps_setLc (i := 2) (own := [("row", 1)]) (g := gName 1) (by rfl) scLinks.nd rfl rfl (sw_true rfl rfl rfl (by decide +kernel)) (pi_tup (pe_prop (pv 0) B.cl B.unr.P (ok_bUnr B) (hr.mono (by decide)) B.unr.b .nil pass0 rfl))
 (blkOk_by (N := ["book", "row", "notes", "pairs", "ahead"]) (sc := defScope sLinks) (by decide +kernel)) (fun _ _ _ _ _ => (pg_name (i := 1) scLinks.nd rfl (Or.inl rfl))) (fun _ _ _ _ _ => pts_one (pt_cmpR op_eq (show PE _ _ (tFld K (tVar 1) "word") from pe_fld (pv 1) rfl) pe_str (nomark _))) (fun _ _ _ _ _ => (pv 1)))
(pss_cons (ps_set (i := 3) scLinks.nd rfl (Or.inl rfl) (pe_lst pa_nil))
(pss_cons (ps_set (i := 4) scLinks.nd rfl (Or.inl rfl) pe_int)
(pss_cons (ps_for PassesOwn.never rfl (pi_tup (pe_prop (pv 0) B.cl B.unr.P (ok_bUnr B) (hr.mono (by decide)) B.unr.b .nil pass0 rfl)) (pg_name (i := 1) scLinks.nd rfl (Or.inl rfl))
(pss_cons (ps_if (pt_cmpR op_eq (pe_fld (pv 1) rfl) pe_str (nomark _)) (pss_one (ps_aug (i := 4) scLinks.nd rfl (Or.inl rfl) pe_int ip_add)) pss_nil)
(pss_one (ps_if (pt_cmpR op_eq (pe_fld (pv 1) rfl) pe_str (nomark _)) (pss_one (ps_expr (pe_bm PySem.F.plainAttrs_list PySem.F.slot_list_append PySem.F.type_list_append mt_append (pv 3) (pa_cons (pe_tup (pa_cons (pe_fld (pv 1) rfl) (pa_cons (pe_call (ok_told N) (hr.mono (by decide)) rfl N.told.m N.told.F.kp N.told.b .nil pass0 (pa_cons (pe_fld (pv 1) rfl) (pa_cons (pv 4) (pa_cons (pv 2) pa_nil)))) pa_nil))) pa_nil)))) pss_nil))))
(pss_one (ps_ret (pv 3))))))), ?_⟩
    have two : 2 ≤ sizeLine := by decide
    obtain ⟨dx, fs, ha⟩ := book_ins hB
    refine stepSet (fun v H' => ∃ (nl : Addr) (ns : List Addr), v = .ref nl ∧ Same H H' ∧ H' nl = some (.lst (ns.map V.ref)) ∧ Paired (NoteAt R H') ns (nlabsOf (unrolled bk))) (fun Q' hQ => ?c1) (fun v H1 hC => ?r1)
    case c1 =>
      refine ⟨_, rfl, a, dx, fs, rfl, ha, a, cs, bk, rfl, hB, fun ft us hft hus => ?_⟩
      have hul : us.length = (unrolled bk).length := paired_len hus
      show tLc (iTup K (tC (.ref ft))) _ _ _ _ _ _ _
      refine lcw_tup (K := K) (tl := tC (.ref ft)) (p := ft) (xs := us.map V.ref) (out := fun i => ((us.zip (unrolled bk))[i]?).bind noteV) (fun R z => z) hft (by rw [List.length_map]; omega) ?tn ?fn
      case tn =>
        intro i x Hi S Y hx sI h0 h1
        rw [List.getElem?_map] at hx
        obtain ⟨u, hu, rfl⟩ := Option.map_eq_some_iff.mp hx
        obtain ⟨r, hr2, hrow⟩ := paired_at hus hu
        have hz : (us.zip (unrolled bk))[i]? = some (u, r) := List.getElem?_zip_eq_some.mpr ⟨hu, hr2⟩
        have oc : (fun i => ((us.zip (unrolled bk))[i]?).bind noteV) i = noteV (u, r) := by
          show ((us.zip (unrolled bk))[i]?).bind noteV = _
          rw [hz]
          rfl
        obtain ⟨dw, fw, w1, w2, w3, w4⟩ := at_word R (hrow.same sI)
        refine ⟨rfl, _, rfl, u, _, dw, fw, _, rfl, w1, w2, w3, w4, rfl, _, rfl, ?_⟩
        by_cases he : rowWord r = "note"
        · obtain ⟨c, l, rfl⟩ := is_note he
          exact iteTD (wtT he) ⟨_, rfl, h1 _ oc _ (Same.refl _)⟩
        · refine iteFD (wtF he) (h0 ?_ _ (Same.refl _))
          rw [oc]
          cases r with
          | note c l => exact absurd rfl he
          | _ => rfl
      case fn =>
        intro D H' hD sD hDl
        obtain ⟨ns, e, p⟩ := notes_out hus
        have eo : (List.range (us.map V.ref).length).filterMap (fun i => ((us.zip (unrolled bk))[i]?).bind noteV) = ns.map V.ref := by
          have lz : (us.map V.ref).length = (us.zip (unrolled bk)).length := by rw [List.length_map, List.length_zip, hul, Nat.min_self]
          rw [lz, out_filter, e]
        rw [eo] at hDl
        exact hQ _ _ ⟨D, ns, rfl, sD, hDl, paired_mono (fun _ _ ⟨c, z⟩ => ⟨c, z.same sD⟩) p⟩
    case r1 =>
    obtain ⟨nl, ns, rfl, s1, hnl, hns⟩ := hC
    try dsimp only [List.set]
    refine ⟨Nat.zero_le _, fun D hD => ?_⟩
    have s2 := Same.new (o := .lst []) hD
    have e2 : (upd H1 D (.lst [])) D = some (.lst []) := upd_same
    have hDn : D ≠ nl := fun z => by rw [z, hnl] at hD; cases hD
    have hnl2 := s2 _ _ hnl
    have hns2 := paired_mono (fun _ _ ⟨c, z⟩ => (⟨c, z.same s2⟩ : NoteAt R _ _ _)) hns
    generalize upd H1 D (.lst []) = H2 at s2 e2 hnl2 hns2 ⊢
    have hHD : H D = none := s1.free hD
    have s12 := s1.trans s2
    refine ⟨_, rfl, a, dx, fs, rfl, s12 _ _ ha, a, cs, bk, rfl, hB.same s12, fun ft us hft hus => ?_⟩
    have hul : us.length = (unrolled bk).length := paired_len hus
    have lab5 : (nlabsOf (unrolled bk)).length ≤ 5000 := by
      have := nlabs_len (unrolled bk)
      omega
    refine ⟨ft, rfl, ⟨_, hft⟩, for_tup (xs := us.map V.ref) (fun i σ Hx => ∃ y1, σ = [some (.ref a), y1, some (.ref nl), some (.ref D), some (.int ((nlabsOf ((unrolled bk).take i)).length : Int))] ∧ SameN H2 Hx ∧ Same (hid H2 D) Hx ∧ ∃ ts : List Addr, Hx D = some (.lst (ts.map V.ref)) ∧ ts.length ≤ i ∧
        Paired (LinkAt K Hx) ts ((List.range i).filterMap (linkAt (nlabsOf (unrolled bk)) (unrolled bk))))
      ⟨_, rfl, SameN.of (Same.refl _), hid_sub, [], e2, Nat.le_refl _, .nil⟩ (fun i σ Hx _ hP => by obtain ⟨_, _, h, _⟩ := hP; exact sqt_sameN h hft) (fun i v σ Hx hv hP => ?turn) (fun σ Hx hP => ?fin)⟩
    case fin =>
      obtain ⟨y1, rfl, n2, h2, ts, hx, _, pd⟩ := hP
      rw [List.length_map, hul] at pd
      exact ⟨_, rfl, q D ts Hx (fun c o e => h2 _ _ (hid_get (s12 _ _ e) (ne_of_none e hHD))) hx pd⟩
    case turn =>
      obtain ⟨y1, rfl, n2, h2, ts, hx, hti, pd⟩ := hP
      rw [List.getElem?_map] at hv
      obtain ⟨u, hu, rfl⟩ := Option.map_eq_some_iff.mp hv
      obtain ⟨r, hr2, hrow0⟩ := paired_at hus hu
      have hil := (List.getElem?_eq_some_iff.mp hr2).1
      have hrow := RowAt.sameN n2 hrow0
      obtain ⟨dw, fw, w1, w2, w3, w4⟩ := at_word R hrow
      have tk1 : (unrolled bk).take (i + 1) = (unrolled bk).take i ++ [r] := by rw [List.take_add_one, hr2]; rfl
      have lk : linkAt (nlabsOf (unrolled bk)) (unrolled bk) i = linkOf (nlabsOf (unrolled bk)) (nlabsOf ((unrolled bk).take i)).length r := by
        unfold linkAt
        rw [hr2]
        rfl
      try dsimp only [List.set]
      refine ⟨_, rfl, u, _, dw, fw, _, rfl, w1, w2, w3, w4, rfl, _, rfl, ?_⟩
      by_cases h1 : rowWord r = "note"
      · refine iteTD (wtT h1) ?_
        obtain ⟨c, l, rfl⟩ := is_note h1
        refine ⟨_, rfl, _, _, rfl, rfl, ?_⟩
        try dsimp only [List.set]
        refine ⟨_, rfl, u, _, dw, fw, _, rfl, w1, w2, w3, w4, rfl, _, rfl, iteFD (wtF (show ("note" : Str) ≠ "ref" by decide +kernel)) ?_⟩
        refine ⟨_, by rw [tk1, nlabs_snoc, List.length_append]; rfl, n2, h2, ts, hx, Nat.le_succ_of_le hti, ?_⟩
        rw [range_outG, lk]
        show Paired _ _ (_ ++ [])
        rw [List.append_nil]
        exact pd
      · refine iteFD (wtF h1) ?_
        refine ⟨_, rfl, u, _, dw, fw, _, rfl, w1, w2, w3, w4, rfl, _, rfl, ?_⟩
        by_cases h3 : rowWord r = "ref"
        · refine iteTD (wtT h3) ?_
          obtain ⟨l, rfl⟩ := is_ref h3
          obtain ⟨dl, fl, l1, l2, l3, l4⟩ := at_reflab R hrow
          have hlm : l ∈ nlabsOf (unrolled bk) := hrf l (List.mem_of_getElem? hr2)
          refine ⟨_, rfl, .inl ⟨rfl, _, SqL.of hx⟩, ?_⟩
          refine ⟨_, rfl, u, _, dl, fl, _, rfl, l1, l2, l3, l4, ?_⟩
          refine ⟨_, rfl, u, _, dl, fl, _, rfl, l1, l2, l3, l4, _, rfl, _, rfl, l, _, nl, ns, _, rfl, SqL.of (h2 _ _ (hid_get hnl2 hDn.symm)), paired_mono (fun _ _ ⟨c, z⟩ => ⟨c, RowAt.sameN n2 z⟩) hns2, lab5, hlm, fun H3 s3 => ⟨two, fun t ht => ?_⟩⟩
          have s4 := Same.new (o := .tup [.str l, .int (toldN l (nlabsOf ((unrolled bk).take i)).length (nlabsOf (unrolled bk)) : Int)]) ht
          have hx4 := s4 _ _ (s3 _ _ hx)
          have n5 := SameN.upd (o := .lst (ts.map V.ref ++ [V.ref t])) hx4
          refine ⟨D, _, _, rfl, rfl, hx4, Nat.lt_of_le_of_lt (by rw [List.length_map]; omega) (by decide : 4000 < sizeLine), some (.ref u), ?_, (n2.trans (SameN.of (s3.trans s4))).trans n5, fun c o e => ?_, ts ++ [t], by rw [upd_same, List.map_append]; rfl, by rw [List.length_append]; exact Nat.add_le_add_right hti 1, ?_⟩
          · rw [tk1, nlabs_snoc, List.append_nil]
            rfl
          · rw [upd_ne (hid_ne e)]
            exact s4 _ _ (s3 _ _ (h2 _ _ e))
          · rw [range_outG, lk]
            refine paired_snoc ?_ (paired_mono (fun _ _ z => sqt_sameN n5 (Same.sqt s4 (Same.sqt s3 z))) pd)
            exact sqt_sameN n5 (SqT.of upd_same)
        · refine iteFD (wtF h3) ?_
          have e0 : linkOf (nlabsOf (unrolled bk)) (nlabsOf ((unrolled bk).take i)).length r = none := by
            cases r with
            | ref l => exact absurd rfl h3
            | _ => rfl
          refine ⟨some (.ref u), ?_, n2, h2, ts, hx, Nat.le_succ_of_le hti, ?_⟩
          · rw [tk1, nlabs_snoc]
            cases r with
            | note c l => exact absurd rfl h1
            | _ => rw [List.append_nil]; rfl
          · rw [range_outG, lk, e0]
            show Paired _ _ (_ ++ [])
            rw [List.append_nil]
            exact pd
end
end Pn

namespace Pn
open PySem PySem.Spec PyProof.Rows L2 TL
abbrev sNeedC : Stmt := top 68
abbrev sFilled : Stmt := top 69
abbrev sPlInit : Stmt := inClass (top 67) 0
/-! ### the rows of a filling in their places -/
def rowsFor (ds : List FD) (z : Str) : List RowD := ((ds.find? fun d => decide (d.1 = z)).map (·.2)).getD []
def fillOne (ds : List FD) : RowD → List RowD
  | .opn z => rowsFor ds z
  | r => [r]
def filledM (ds : List FD) (rs : List RowD) : List RowD := rs.flatMap (fillOne ds)
theorem find_name {ds : List FD} {z : Str} {d : FD} (h : ds.find? (fun d => decide (d.1 = z)) = some d) : d ∈ ds ∧ d.1 = z := ⟨List.mem_of_find?_eq_some h, by have q := List.find?_some h; simpa using q⟩
theorem fd_one3 {cs : List FD} (nd : (cs.map (·.1)).Nodup) {c c' : FD} (h : c ∈ cs) (h' : c' ∈ cs) (e : c.1 = c'.1) : c = c' := by
  induction cs with
  | nil => cases h
  | cons x cs ih =>
    rw [List.map_cons, List.nodup_cons] at nd
    rcases List.mem_cons.mp h with rfl | h1
    · rcases List.mem_cons.mp h' with rfl | h2
      · rfl
      · exact absurd (e ▸ List.mem_map_of_mem (f := (·.1)) h2) nd.1
    · rcases List.mem_cons.mp h' with rfl | h2
      · exact absurd (e.symm ▸ List.mem_map_of_mem (f := (·.1)) h1) nd.1
      · exact ih nd.2 h1 h2
theorem rowsFor_len {ds : List FD} (o : filOk ds) (z : Str) : (rowsFor ds z).length ≤ 100 := by
  unfold rowsFor
  cases h : ds.find? (fun d => decide (d.1 = z)) with
  | none => exact Nat.zero_le _
  | some d => exact (o.2 d (find_name h).1).2.1
theorem rowsFor_mem {ds : List FD} {z : Str} {r : RowD} (h : r ∈ rowsFor ds z) : ∃ d ∈ ds, d.1 = z ∧ r ∈ d.2 := by
  unfold rowsFor at h
  cases e : ds.find? (fun d => decide (d.1 = z)) with
  | none => rw [e] at h; cases h
  | some d => rw [e] at h; exact ⟨d, (find_name e).1, (find_name e).2, h⟩
section
variable {P : Program} {w : World} {K : PySem.W.Frag} {mg : Str → Option Value} {base : Heap} {R : TRows K mg} {T : TPart R} {B : TBk T} {F : TFill R} {FM : TFilM F}
theorem fil_nof {u : V} : (putF "filled" u ([] : List (Str × V))).lookup ("rows_for" : Str) = none := by
  rw [lookup_putF, if_neg (by decide +kernel)]
  rfl
/-- the rows for a name, once for each name -/
theorem rowsFor_go {H : Hp} {Q : VK} {E : XK} {f : Addr} {ds : List FD} {z : Str} (hF : FilI F H f ds) (o : filOk ds) (nd : (ds.map (·.1)).Nodup) (hz : PyData.strOk z = true)
    (q : ∀ (r : Addr) (us : List Addr) (H' : Hp), Same H H' → SqT K H' r (us.map V.ref) → Paired (fun u r => RowAt R H' u r) us (rowsFor ds z) → Q (.ref r) H') : spFRows F [.ref f, .str z] H Q E := by
  refine ⟨f, .str z, ds, rfl, hF, o, .inl ⟨z, rfl, hz, fun d hd e r us h1 h2 => ?_, fun no r hr => ?_⟩⟩
  · have er : rowsFor ds z = d.2 := by
      unfold rowsFor
      cases h : ds.find? (fun d => decide (d.1 = z)) with
      | none => exact absurd e (by simpa using List.find?_eq_none.mp h d hd)
      | some d' =>
        obtain ⟨h3, h4⟩ := find_name h
        rw [fd_one3 nd h3 hd (h4.trans e.symm)]
        rfl
    rw [← er] at h2
    exact q r us H (Same.refl _) h1 h2
  · have er : rowsFor ds z = [] := by
      unfold rowsFor
      rw [List.find?_eq_none.mpr fun d hd => by simpa using no d hd]
      rfl
    refine q r [] _ (Same.new hr) (SqT.of upd_same) ?_
    rw [er]
    exact .nil
structure TNum3 {K : PySem.W.Frag} {mg : Str → Option Value} {R : TRows K mg} {T : TPart R} {B : TBk T} {F : TFill R} {FM : TFilM F} (FE : TFilE FM) : Type extends TNum2 B where
  needC : At K mg "need_counters" sNeedC ["book", "filling"]
  filledR : At K mg "filled_rows" sFilled ["book", "filling"]
  C : Addr
  mC : mg "Played" = some (.ref C)
  fI : Addr
  fdI : FuncData
  FI : Fun K "__init__" "Played.__init__" sPlInit fI fdI
  bI : Binds K fdI ["self", "notes", "refs", "ends"] []
  M : Mk K C fI
  cl : Cls K C
  noN : NoAttr K C "notes"
  noR : NoAttr K C "refs"
  noE : NoAttr K C "ends"
variable {FE : TFilE FM}
def spFilled (B : TBk T) (F : TFill R) : Sp := fun vs H Q _ => ∃ (a f : Addr) (cs : List (Str × Str)) (bk : List PartD) (ds : List FD), vs = [.ref a, .ref f] ∧ BookAt B H a cs bk ∧ FilI F H f ds ∧ filOk ds ∧ (ds.map (·.1)).Nodup ∧ (unrolled bk).length ≤ 4000 ∧ (∀ z, RowD.opn z ∈ unrolled bk → PyData.strOk z = true) ∧
  ∀ (t : Addr) (us : List Addr) (H' : Hp), H t = none → Same H H' → H' t = some (.lst (us.map V.ref)) → RowsIn R H' us (filledM ds (unrolled bk)) → Q (.ref t) H'
theorem scFilled : FnScope ["book", "filling", "rows", "row"] ["book", "filling"] (defScope sFilled) := ⟨rfl, rfl, rfl, by decide +kernel, rfl, by decide +kernel, by decide +kernel⟩
theorem ok_filledR (N : TNum3 (B := B) FE) : FnOk P w K mg base CX0 11 N.filledR.f N.filledR.fd ["book", "filling"] (spFilled B F) := by
  refine N.filledR.F.ok scFilled (fun vs H Q E h => ?_) (fun cdv A outer s H vs Q E hr h => ?_)
  · obtain ⟨a, f, cs, bk, ds, rfl, _⟩ := h
    rfl
  · obtain ⟨a, f, cs, bk, ds, rfl, hB, hF, ho, nd, hl, hz, q⟩ := h
    refine ⟨_, (pss_cons (ps_set (i := 2) scFilled.nd rfl (Or.inl rfl) (pe_lst pa_nil))
(pss_cons (ps_for PassesOwn.never rfl (pi_tup (pe_prop (pv 0) B.cl B.unr.P (ok_bUnr B) (hr.mono (by decide)) B.unr.b .nil pass0 rfl)) (pg_name (i := 3) scFilled.nd rfl (Or.inl rfl))
(pss_one (ps_if (pt_cmpR op_eq (pe_fld (pv 3) rfl) pe_str (nomark _)) (pss_one (ps_expr (pe_bm PySem.F.plainAttrs_list PySem.F.slot_list_extend PySem.F.type_list_extend mt_extendT (pv 2) (pa_cons (pe_meth (pv 1) F.cl ⟨FM.rowsFor.hs, FM.rowsFor.hf, FM.rowsFor.F.kp⟩ (ok_fRows FE) (hr.mono (by decide)) FM.rowsFor.b .nil pass0 (pa_cons (pe_fld (pv 3) rfl) pa_nil)) pa_nil)))) (pss_one (ps_expr (pe_bm PySem.F.plainAttrs_list PySem.F.slot_list_append PySem.F.type_list_append mt_append (pv 2) (pa_cons (pv 3) pa_nil)))))))
(pss_one (ps_ret (pv 2))))), ?_⟩
    obtain ⟨dx, fs, ha⟩ := book_ins hB
    refine ⟨Nat.zero_le _, fun D hD => ?_⟩
    have s1 := Same.new (o := .lst []) hD
    have e1 : (upd H D (.lst [])) D = some (.lst []) := upd_same
    generalize upd H D (.lst []) = H1 at s1 e1 ⊢
    refine ⟨_, rfl, a, dx, fs, rfl, s1 _ _ ha, a, cs, bk, rfl, hB.same s1, fun ft us hft hus => ?_⟩
    have hul : us.length = (unrolled bk).length := paired_len hus
    refine ⟨ft, rfl, ⟨_, hft⟩, for_tup (xs := us.map V.ref) (fun i σ Hx => ∃ y3, σ = [some (.ref a), some (.ref f), some (.ref D), y3] ∧ SameN H1 Hx ∧ Same H Hx ∧ ∃ ts : List Addr, Hx D = some (.lst (ts.map V.ref)) ∧ ts.length ≤ 100 * i ∧ RowsIn R Hx ts (filledM ds ((unrolled bk).take i)))
      ⟨_, rfl, SameN.of (Same.refl _), s1, [], e1, Nat.le_refl _, .nil⟩ (fun i σ Hx _ hP => by obtain ⟨_, _, h, _⟩ := hP; exact sqt_sameN h hft) (fun i v σ Hx hv hP => ?turn) (fun σ Hx hP => ?fin)⟩
    case fin =>
      obtain ⟨y3, rfl, n2, h2, ts, hx, _, pd⟩ := hP
      rw [List.length_map, hul, List.take_of_length_le (Nat.le_refl _)] at pd
      exact ⟨_, rfl, q D ts Hx hD h2 hx pd⟩
    case turn =>
      obtain ⟨y3, rfl, n2, h2, ts, hx, htl, pd⟩ := hP
      rw [List.getElem?_map] at hv
      obtain ⟨u, hu, rfl⟩ := Option.map_eq_some_iff.mp hv
      obtain ⟨r, hr2, hrow0⟩ := paired_at hus hu
      have hil := (List.getElem?_eq_some_iff.mp hr2).1
      have hrow := RowAt.sameN n2 hrow0
      obtain ⟨dw, fw, w1, w2, w3, w4⟩ := at_word R hrow
      have tk1 : filledM ds ((unrolled bk).take (i + 1)) = filledM ds ((unrolled bk).take i) ++ fillOne ds r := by
        unfold filledM
        rw [List.take_add_one, hr2, List.flatMap_append]
        simp
      have big : (500000 : Nat) ≤ sizeLine := by decide
      try dsimp only [List.set]
      refine ⟨_, rfl, u, _, dw, fw, _, rfl, w1, w2, w3, w4, rfl, _, rfl, ?_⟩
      by_cases h1 : rowWord r = "open"
      · refine iteTD (wtT h1) ?_
        obtain ⟨z, rfl⟩ := is_open h1
        obtain ⟨dn, fn, n1, n3, n4, n5⟩ := at_name R hrow
        have hfx := hF.same h2
        obtain ⟨dxx, tpx, psx, hx0, _⟩ := id hfx
        refine ⟨_, rfl, .inl ⟨rfl, _, SqL.of hx⟩, ?_⟩
        refine ⟨_, rfl, f, dxx, _, rfl, hx0, fil_nof, _, rfl, u, _, dn, fn, _, rfl, n1, n3, n4, n5, ?_⟩
        dsimp only [tNil]
        refine rowsFor_go hfx ho nd (hz z (List.mem_of_getElem? hr2)) fun t us2 H3 s3 ht hus2 => ?_
        have hx3 := s3 _ _ hx
        have n6 := SameN.upd (o := .lst (ts.map V.ref ++ us2.map V.ref)) hx3
        have ul2 := paired_len hus2
        have l100 := rowsFor_len ho z
        refine ⟨D, t, _, _, rfl, rfl, hx3, ht, by rw [List.length_map, List.length_map]; omega, some (.ref u), rfl, (n2.trans (SameN.of s3)).trans n6, fun c o e => ?_, ts ++ us2, by rw [upd_same, List.map_append], by rw [List.length_append]; omega, ?_⟩
        · rw [upd_ne (ne_of_none e hD)]
          exact s3 _ _ (h2 _ _ e)
        · rw [tk1]
          exact paired_cat (paired_mono (fun _ _ z => RowAt.sameN n6 z) hus2) (paired_mono (fun _ _ z => RowAt.sameN n6 (z.same s3)) pd)
      · refine iteFD (wtF h1) ?_
        have eo : fillOne ds r = [r] := by
          cases r with
          | opn z => exact absurd rfl h1
          | _ => rfl
        have n6 := SameN.upd (o := .lst (ts.map V.ref ++ [V.ref u])) hx
        refine ⟨_, rfl, .inl ⟨rfl, _, SqL.of hx⟩, _, rfl, D, _, _, rfl, rfl, hx, Nat.lt_of_le_of_lt (by rw [List.length_map]; omega) (by decide : 400000 < sizeLine), some (.ref u), rfl, n2.trans n6, fun c o e => ?_, ts ++ [u], by rw [upd_same, List.map_append]; rfl, by rw [List.length_append, List.length_singleton]; omega, ?_⟩
        · rw [upd_ne (ne_of_none e hD)]
          exact h2 _ _ e
        · rw [tk1, eo]
          exact paired_snoc (RowAt.sameN n6 hrow) (paired_mono (fun _ _ z => RowAt.sameN n6 z) pd)
end
end Pn

namespace Pn
open PySem PySem.Spec PyProof.Rows L2 TL
section
variable {P : Program} {w : World} {K : PySem.W.Frag} {mg : Str → Option Value} {base : Heap} {R : TRows K mg} {T : TPart R} {B : TBk T} {F : TFill R} {FM : TFilM F} {FE : TFilE FM}
/-! ### what play leaves -/
def insPl (C dx : Addr) (n r e : V) : HO := .ins C dx (putF "ends" e (putF "refs" r (putF "notes" n [])))
theorem pl_n {n r e : V} : (putF "ends" e (putF "refs" r (putF "notes" n ([] : List (Str × V))))).lookup ("notes" : Str) = some n := by
  rw [lookup_putF, if_neg (by decide +kernel), lookup_putF, if_neg (by decide +kernel), lookup_putF, if_pos rfl]
theorem pl_r {n r e : V} : (putF "ends" e (putF "refs" r (putF "notes" n ([] : List (Str × V))))).lookup ("refs" : Str) = some r := by
  rw [lookup_putF, if_neg (by decide +kernel), lookup_putF, if_pos rfl]
theorem pl_e {n r e : V} : (putF "ends" e (putF "refs" r (putF "notes" n ([] : List (Str × V))))).lookup ("ends" : Str) = some e := by
  rw [lookup_putF, if_pos rfl]
def spPlInit (C : Addr) : Sp := fun vs H Q _ => ∃ (x dx : Addr) (n r e : V), vs = [.ref x, n, r, e] ∧ H x = some (.ins C dx []) ∧ ∀ H', KpI x H H' → H' x = some (insPl C dx n r e) → Q .non H'
theorem scPlInit : FnScope ["self", "notes", "refs", "ends"] ["self", "notes", "refs", "ends"] (defScope sPlInit) := ⟨rfl, rfl, rfl, by decide +kernel, rfl, by decide +kernel, by decide +kernel⟩
theorem ok_plInit (N : TNum3 (B := B) FE) : FnOk P w K mg base CX0 1 N.fI N.fdI ["self", "notes", "refs", "ends"] (spPlInit N.C) := by
  refine N.FI.ok scPlInit (fun vs H Q E h => ?_) (fun cdv A outer s H vs Q E hr h => ?_)
  · obtain ⟨x, dx, n, r, e, rfl, _⟩ := h
    rfl
  · obtain ⟨x, dx, n, r, e, rfl, hx, q⟩ := h
    refine ⟨_, (pss_cons (ps_fld (pv 0) (pv 1) rfl) (pss_cons (ps_fld (pv 0) (pv 2) rfl) (pss_one (ps_fld (pv 0) (pv 3) rfl)))), ?_⟩
    refine ⟨_, rfl, _, rfl, x, N.C, dx, _, rfl, hx, N.cl, N.noN, (by show 0 < 1000; decide), ?_⟩
    refine ⟨_, rfl, _, rfl, x, N.C, dx, _, rfl, upd_same, N.cl, N.noR, (by show 1 < 1000; decide), ?_⟩
    refine ⟨_, rfl, _, rfl, x, N.C, dx, _, rfl, upd_same, N.cl, N.noE, (by show 2 < 1000; decide), ?_⟩
    exact q _ (fun b o e n => by rw [upd_ne n, upd_ne n, upd_ne n]; exact e) upd_same
/-! ### are the rows of the filling of counters of the book? -/
def goodC (cs : List (Str × Str)) (r : RowD) : Prop := ∃ c, cntOf r = some c ∧ c ∈ cs.map (·.1)
def spNeedC (B : TBk T) (F : TFill R) : Sp := fun vs H Q _ => ∃ (a f : Addr) (cs : List (Str × Str)) (bk : List PartD) (ds : List FD), vs = [.ref a, .ref f] ∧ BookAt B H a cs bk ∧ FilI F H f ds ∧ filOk ds ∧ (ds.map (·.1)).Nodup ∧ (unrolled bk).length < 4000 ∧ (uniq (opens (unrolled bk))).length < 64 ∧ cs.length ≤ 100 ∧
  (∀ z ∈ opens (unrolled bk), PyData.strOk z = true ∧ ∀ r ∈ rowsFor ds z, goodC cs r) ∧ ∀ (H' : Hp), Same H H' → Q .non H'
theorem scNeedC : FnScope ["book", "filling", "counters", "rows", "name", "upper", "row"] ["book", "filling"] (defScope sNeedC) := ⟨rfl, rfl, rfl, by decide +kernel, rfl, by decide +kernel, by decide +kernel⟩
theorem ok_needC (N : TNum3 (B := B) FE) : FnOk P w K mg base CX0 11 N.needC.f N.needC.fd ["book", "filling"] (spNeedC B F) := by
  refine N.needC.F.ok scNeedC (fun vs H Q E h => ?_) (fun cdv A outer s H vs Q E hr h => ?_)
  · obtain ⟨a, f, cs, bk, ds, rfl, _⟩ := h
    rfl
  · obtain ⟨a, f, cs, bk, ds, rfl, hB, hF, ho, nd, hl, hu, hcl, hz, q⟩ := h
    refine ⟨_, (pss_cons (ps_set (i := 2) scNeedC.nd rfl (Or.inr rfl) (pe_lc (own := [("name", 4), ("upper", 5)]) (g := gTup K 2 (gCons (gName 4) (gCons (gName 5) gNil))) (tt := tYes) (by rfl) scNeedC.nd (pi_tup (pe_fld (pv 0) rfl))
 (blkOk_by (N := ["book", "filling", "counters", "rows", "name", "upper", "row"]) (sc := defScope sNeedC) (by decide +kernel)) (fun _ _ _ _ _ => (pg_tup (by rfl) (pgs_cons (pg_name (i := 4) scNeedC.nd rfl (Or.inl rfl)) (pgs_cons (pg_name (i := 5) scNeedC.nd rfl (Or.inl rfl)) pgs_nil)))) (fun _ _ _ _ _ => pts_nil) (fun _ _ _ _ _ => (pv 4))))
(pss_cons (ps_setLc2 (i := 3) (own := [("name", 4), ("row", 6)]) (vs1 := [6]) (g := gName 4) (g1 := gName 6) (tt := tYes) (tt1 := tYes) (by rfl) scNeedC.nd rfl rfl (sw_true rfl rfl rfl (by decide +kernel)) (pi_tup (pe_prop (pv 0) B.cl B.names.P (ok_bNames B) (hr.mono (by decide)) B.names.b .nil pass0 rfl))
 (blkOk_by (N := ["book", "filling", "counters", "rows", "name", "upper", "row"]) (sc := defScope sNeedC) (by decide +kernel)) (by decide) (fun _ _ _ _ _ => (pg_name (i := 4) scNeedC.nd rfl (Or.inl rfl))) (fun _ _ _ _ _ => pts_nil)
 (fun _ _ _ _ _ => (show PI _ _ _ (iTup K (tMeth F.C "rows_for" (spFRows F) [] E0 (tVar 1) (tCons (tVar 4) tNil))) from pi_tup (pe_meth (pv 1) F.cl ⟨FM.rowsFor.hs, FM.rowsFor.hf, FM.rowsFor.F.kp⟩ (ok_fRows FE) (hr.mono (by decide)) FM.rowsFor.b .nil pass0 (pa_cons (pv 4) pa_nil)))) (fun _ _ _ _ _ => (pg_name (i := 6) scNeedC.nd rfl (Or.inl rfl))) (fun _ _ _ _ _ => pts_nil) (fun _ _ _ _ _ => (pv 6)))
(pss_one (ps_if (pt_not (pt_val (pe_callB (show CallR _ (.builtin "all") (rAll K) from cr_all rfl) (by rfl) R.N.mAll (by decide +kernel) (pa_cons (pe_lc (own := [("row", 6)]) (g := gName 6) (tt := tYes) (by rfl) scNeedC.nd (pi_list (pv 3))
 (blkOk_by (N := ["book", "filling", "counters", "rows", "name", "upper", "row"]) (sc := defScope sNeedC) (by decide +kernel)) (fun _ _ _ _ _ => (pg_name (i := 6) scNeedC.nd rfl (Or.inl rfl))) (fun _ _ _ _ _ => pts_nil) (fun _ _ _ _ _ => (pe_cmpR (show OpR _ (compareOp .In) (rIn K false) from op_in_seq) (show PE _ _ (tFld K (tVar 6) "counter") from pe_fld (pv 6) rfl) (pv 2) rfl))) pa_nil)))) (pss_one ps_never) pss_nil)))), ?_⟩
    obtain ⟨dx, fs, ha⟩ := book_ins hB
    refine stepSet (fun v H' => ∃ nl : Addr, v = .ref nl ∧ Same H H' ∧ H' nl = some (.lst ((cs.map (·.1)).map V.str))) (fun Q' hQ => ?c1) (fun v H1 hC => ?r1)
    case c1 =>
      obtain ⟨dx, ct, pt, ft, ts, ps, us, ha, ⟨hct, hts⟩, _⟩ := hB
      have htl : ts.length = cs.length := paired_len hts
      refine lcw_tup (K := K) (tl := tFld K (tVar 0) "counters") (p := ct) (xs := ts.map V.ref) (out := fun i => (cs[i]?).map fun c => V.str c.1) ?h0 hct.sqt (by rw [List.length_map]; omega) ?tn ?fn
      case h0 => exact fun R' z => ⟨_, rfl, a, B.C, dx, _, .ref ct, rfl, ha, B.cl, B.noC, book_c, z⟩
      case tn =>
        intro i x Hi S Y hx sI h0 h1
        rw [List.getElem?_map] at hx
        obtain ⟨t, ht, rfl⟩ := Option.map_eq_some_iff.mp hx
        obtain ⟨c, hc, hct2⟩ := paired_at hts ht
        exact ⟨t, _, rfl, Same.sqt sI hct2, rfl, _, _, rfl, _, _, rfl, rfl, rfl, _, rfl, h1 (.str c.1) (by show Option.map (fun c : Str × Str => V.str c.1) cs[i]? = _; rw [hc]; rfl) Hi (Same.refl _)⟩
      case fn =>
        intro D H' hD sD hDl
        have eo : (List.range (ts.map V.ref).length).filterMap (fun i => (cs[i]?).map fun c => V.str c.1) = (cs.map (·.1)).map V.str := by
          rw [List.length_map, htl, List.map_map]
          exact out_map (l := cs) (f := fun c => V.str c.1)
        rw [eo] at hDl
        exact hQ _ _ ⟨D, rfl, sD, hDl⟩
    case r1 =>
    obtain ⟨nl, rfl, s1, hnl⟩ := hC
    try dsimp only [List.set]
    refine stepSet (fun v H' => ∃ (rl : Addr) (ts : List Addr) (rs : List RowD), v = .ref rl ∧ Same H1 H' ∧ H' rl = some (.lst (ts.map V.ref)) ∧ RowsIn R H' ts rs ∧ ts.length ≤ 6400 ∧ ∀ r ∈ rs, goodC cs r) (fun Q' hQ => ?c2) (fun v H2 hC => ?r2)
    case c2 =>
      refine ⟨_, rfl, a, dx, fs, rfl, s1 _ _ ha, a, cs, bk, rfl, hB.same s1, hl, hu, fun nt H2 ys s2 hnt perm sorted => ⟨nt, rfl, ⟨_, hnt⟩, fun D hD => ?_⟩⟩
      have hyl : ys.length < 64 := by rw [perm.length_eq]; exact hu
      have hym : ∀ z ∈ ys, z ∈ opens (unrolled bk) := fun z hzm => (uniq_has _ z).mp (perm.mem_iff.mp hzm)
      have hDH : H1 D = none := s2.free hD
      refine ⟨fun i m Hi => m = ys.length - i ∧ i ≤ ys.length ∧ SameN H2 Hi ∧ Same H1 Hi ∧ ∃ (ts : List Addr) (rs : List RowD), Hi D = some (.lst (ts.map V.ref)) ∧ RowsIn R Hi ts rs ∧ ts.length ≤ 100 * i ∧ ∀ r ∈ rs, goodC cs r, ⟨_, rfl, Nat.zero_le _, SameN.of (Same.new hD), Same.trans s2 (Same.new hD), [], [], upd_same, .nil, Nat.le_refl _, fun _ z => nomatch z⟩, ?_⟩
      rintro i m Hi ⟨rfl, hi, n2, h2, ts, rs, hx, pd, hln, hg⟩
      have wk : Walk (Itt K nt) (ys.map V.str).length (fun H => SqT K H nt (ys.map V.str)) (YAt (ys.map V.str)) := walk_tup
      have hnti := sqt_sameN n2 hnt
      by_cases lt : i < ys.length
      · have hgo := wk.goes i Hi (by rw [List.length_map]; exact lt) hnti
        refine .inr ⟨hgo, fun H' => SameN H2 H' ∧ Same H1 H' ∧ ∃ (ts : List Addr) (rs : List RowD), H' D = some (.lst (ts.map V.ref)) ∧ RowsIn R H' ts rs ∧ ts.length ≤ 100 * (i + 1) ∧ ∀ r ∈ rs, goodC cs r, fun H' z => ⟨ys.length - (i + 1), by omega, rfl, lt, z⟩, fun x H' y => ?_⟩
        obtain ⟨rfl, hxv⟩ := wk.yields i Hi x H' (by rw [List.length_map]; exact lt) hnti y
        rw [List.getElem?_map] at hxv
        obtain ⟨z, hzi, rfl⟩ := Option.map_eq_some_iff.mp hxv
        obtain ⟨zok, zgood⟩ := hz z (hym z (List.mem_of_getElem? hzi))
        refine ⟨rfl, ?_⟩
        unfold tYes
        refine iteT ?_
        have hfx := hF.same (Same.trans s1 h2)
        obtain ⟨dxx, tpx, psx, hx0, _⟩ := id hfx
        refine ⟨_, rfl, f, dxx, _, rfl, hx0, fil_nof, _, rfl, ?_⟩
        dsimp only [tNil]
        refine rowsFor_go hfx ho nd zok fun t us2 H3 s3 ht hus2 => ?_
        have ul2 := paired_len hus2
        have l100 := rowsFor_len ho z
        refine ⟨t, rfl, ⟨_, ht⟩, fun j k Hj => k = us2.length - j ∧ j ≤ us2.length ∧ SameN H3 Hj ∧ Same H1 Hj ∧ ∃ (ts : List Addr) (rs : List RowD), Hj D = some (.lst (ts.map V.ref)) ∧ RowsIn R Hj ts rs ∧ ts.length ≤ 100 * i + j ∧ ∀ r ∈ rs, goodC cs r, ⟨us2.length, by simp, Nat.zero_le _, SameN.of (Same.refl _), Same.trans h2 s3, ts, rs, s3 _ _ hx, pd.same s3, hln, hg⟩, ?_⟩
        rintro j k Hj ⟨rfl, hj, n3, h3, ts3, rs3, hx3, pd3, hln3, hg3⟩
        have wt : Walk (Itt K t) (us2.map V.ref).length (fun H => SqT K H t (us2.map V.ref)) (YAt (us2.map V.ref)) := walk_tup
        have htj := sqt_sameN n3 ht
        by_cases lj : j < us2.length
        · refine .inr ⟨wt.goes j Hj (by rw [List.length_map]; exact lj) htj, fun H' => SameN H3 H' ∧ Same H1 H' ∧ ∃ (ts : List Addr) (rs : List RowD), H' D = some (.lst (ts.map V.ref)) ∧ RowsIn R H' ts rs ∧ ts.length ≤ 100 * i + (j + 1) ∧ ∀ r ∈ rs, goodC cs r, fun H' z => ⟨us2.length - (j + 1), by omega, rfl, lj, z⟩, fun y H' yy => ?_⟩
          obtain ⟨rfl, hyv⟩ := wt.yields j Hj y H' (by rw [List.length_map]; exact lj) htj yy
          rw [List.getElem?_map] at hyv
          obtain ⟨u, hu2, rfl⟩ := Option.map_eq_some_iff.mp hyv
          obtain ⟨r, hr2, hrow⟩ := paired_at hus2 hu2
          refine ⟨rfl, ?_⟩
          refine iteT ?_
          have n6 := SameN.upd (o := .lst (ts3.map V.ref ++ [V.ref u])) hx3
          refine ⟨_, rfl, _, hx3, Nat.lt_of_le_of_lt (by rw [List.length_map]; omega) (by decide : 100000 < sizeLine), n3.trans n6, fun c o e => ?_, ts3 ++ [u], rs3 ++ [r], by rw [upd_same, List.map_append]; rfl, paired_snoc (RowAt.sameN n6 (RowAt.sameN n3 hrow)) (paired_mono (fun _ _ z => RowAt.sameN n6 z) pd3), by rw [List.length_append, List.length_singleton]; omega, fun r' hr' => ?_⟩
          · rw [upd_ne (ne_of_none e hDH)]
            exact h3 _ _ e
          · rcases List.mem_append.mp hr' with hr' | hr'
            · exact hg3 r' hr'
            · rw [List.mem_singleton.mp hr']
              exact zgood r (List.mem_of_getElem? hr2)
        · obtain rfl : j = us2.length := by omega
          have st := wt.stops Hj htj
          rw [List.length_map] at st
          exact .inl ⟨st, (n2.trans (SameN.of s3)).trans n3, h3, ts3, rs3, hx3, pd3, by omega, hg3⟩
      · obtain rfl : i = ys.length := by omega
        have st := wk.stops Hi hnti
        rw [List.length_map] at st
        exact .inl ⟨st, hQ _ _ ⟨D, ts, rs, rfl, h2, hx, pd, by omega, hg⟩⟩
    case r2 =>
    obtain ⟨rl, ts, rs, rfl, s2, hrl, hrs, h64, hg⟩ := hC
    try dsimp only [List.set]
    have s12 := s1.trans s2
    have hrsl : ts.length = rs.length := paired_len hrs
    dsimp only [tNot, tB, tCB, tCons, tNil, tIfS]
    refine lcw_list (K := K) (tl := tVar 3) (p := rl) (xs := ts.map V.ref) (out := fun i => (rs[i]?).map fun _ => V.bl true) ?h0 (SqL.of hrl) (by rw [List.length_map]; omega) ?tn3 ?fn3
    case h0 => exact fun R' z => ⟨_, rfl, z⟩
    case tn3 =>
      intro i x Hi S Y hx sI h0 h1
      rw [List.getElem?_map] at hx
      obtain ⟨u, hu2, rfl⟩ := Option.map_eq_some_iff.mp hx
      obtain ⟨r, hr2, hrow⟩ := paired_at hrs hu2
      obtain ⟨c, hc, hcm⟩ := hg r (List.mem_of_getElem? hr2)
      obtain ⟨dw, fw, w1, w2, w3, w4⟩ := at_counter R (hrow.same sI) hc
      have ei : inV (.str c) ((cs.map (·.1)).map V.str) = true := by rw [inV_strs]; exact decide_eq_true hcm
      have flatS : ((cs.map (·.1)).map V.str).all flatV = true := by
        rw [List.all_eq_true]
        intro v hv
        obtain ⟨x, _, rfl⟩ := List.mem_map.mp hv
        rfl
      refine ⟨rfl, _, rfl, u, _, dw, fw, _, rfl, w1, w2, w3, w4, _, rfl, nl, _, rfl, .inl (SqL.of (sI _ _ (s2 _ _ hnl))), rfl, flatS, ?_⟩
      show Y (.bl (inV (.str c) ((cs.map (·.1)).map V.str))) Hi
      rw [ei]
      exact h1 (.bl true) (by show Option.map (fun _ => V.bl true) rs[i]? = _; rw [hr2]; rfl) Hi (Same.refl _)
    case fn3 =>
      intro D H' hD sD hDl
      have eo : (List.range (ts.map V.ref).length).filterMap (fun i => (rs[i]?).map fun _ => V.bl true) = (rs.map fun _ => true).map V.bl := by
        rw [List.length_map, hrsl, List.map_map]
        exact out_map (l := rs) (f := fun _ => V.bl true)
      rw [eo] at hDl
      refine ⟨D, _, rfl, SqL.of hDl, _, rfl, ?_⟩
      have ea : (rs.map fun _ => true).all id = true := by
        rw [List.all_eq_true]
        intro x hx
        obtain ⟨_, _, rfl⟩ := List.mem_map.mp hx
        rfl
      rw [ea]
      refine iteF ?_
      exact q H' (s12.trans sD)
end
end Pn

namespace Pn
open PySem PySem.Spec PyProof.Rows L2 TL
abbrev sPlay : Stmt := top 73
/-! ### play -/
def numAt (zs : List Str) (st : List (Int × Int)) (z : Str) : Int := (((zs.zip st).find? fun x => decide (x.1 = z)).map fun x => x.2.1).getD 0
def chainOf (L : List Chn) (c : Str) : List Str := ((L.find? fun x => decide (x.2 = c)).map (·.1)).getD []
def printsOf (L : List Chn) (st : List (Int × Int)) (c : Str) : List Int := (chainOf L c).map (numAt (L.map (·.2)) st)
def stAfter (L : List Chn) (rs : List RowD) : List (Int × Int) := rs.foldl (fun st r => doneS r L st) (L.map fun _ => ((0 : Int), (0 : Int)))
def noteOf (L : List Chn) (st : List (Int × Int)) : RowD → Option (Str × List Int)
  | .note c _ => some (c, printsOf L st c)
  | _ => none
def noteAt (L : List Chn) (rs : List RowD) (i : Nat) : Option (Str × List Int) := (rs[i]?).bind (noteOf L (stAfter L (rs.take (i + 1))))
def notesM (L : List Chn) (rs : List RowD) : List (Str × List Int) := (List.range rs.length).filterMap (noteAt L rs)
def refsM (lk : List (Str × Nat)) (ns : List (Str × List Int)) : List (Str × Nat × List Int) := lk.map fun x => (x.1, x.2, ((ns[x.2]?).map (·.2)).getD [])
/-- the chains of a book's counters -/
def ChainsOf (cs : List (Str × Str)) (L : List Chn) : Prop := Paired (fun (c : Str × Str) (x : Chn) => x.2 = c.1 ∧ ∃ l, Climb cs c.1 l ∧ l.length ≤ 1000 ∧ x.1 = l.reverse) cs L
def NoteOutAt (K : PySem.W.Frag) (H : Hp) (t : Addr) (x : Str × List Int) : Prop := ∃ p, SqT K H t [.str x.1, .ref p] ∧ SqT K H p (x.2.map V.int)
def RefOutAt (K : PySem.W.Frag) (H : Hp) (t : Addr) (x : Str × Nat × List Int) : Prop := ∃ p, SqT K H t [.str x.1, .int (x.2.1 : Int), .ref p] ∧ SqT K H p (x.2.2.map V.int)
def EndOutAt (K : PySem.W.Frag) (H : Hp) (t : Addr) (s : Int × Int) : Prop := SqT K H t [.int s.1, .int s.2]
theorem NoteOutAt.sameN {K : PySem.W.Frag} {H H' : Hp} {t : Addr} {x : Str × List Int} (s : SameN H H') (h : NoteOutAt K H t x) : NoteOutAt K H' t x := by
  obtain ⟨p, a, b⟩ := h
  exact ⟨p, sqt_sameN s a, sqt_sameN s b⟩
theorem RefOutAt.sameN {K : PySem.W.Frag} {H H' : Hp} {t : Addr} {x : Str × Nat × List Int} (s : SameN H H') (h : RefOutAt K H t x) : RefOutAt K H' t x := by
  obtain ⟨p, a, b⟩ := h
  exact ⟨p, sqt_sameN s a, sqt_sameN s b⟩
theorem StAt.sameN {K : PySem.W.Frag} {H H' : Hp} {sp : Addr} {zs : List Str} {st : List (Int × Int)} (s : SameN H H') (h : StAt K H sp zs st) : StAt K H' sp zs st := by
  obtain ⟨kvs, a, b⟩ := h
  exact ⟨kvs, s _ _ a (fun _ z => nomatch z), paired_mono (fun _ _ ⟨t, e, z⟩ => ⟨t, e, sqt_sameN s z⟩) b⟩
theorem done_len {r : RowD} {L : List Chn} {st : List (Int × Int)} (h : st.length = L.length) : (doneS r L st).length = L.length := by
  unfold doneS
  rw [List.length_zipWith]
  omega
theorem after_len (L : List Chn) (rs : List RowD) : (stAfter L rs).length = L.length := by
  have go : ∀ (rs : List RowD) (st : List (Int × Int)), st.length = L.length → (rs.foldl (fun st r => doneS r L st) st).length = L.length := by
    intro rs
    induction rs with
    | nil => exact fun st h => h
    | cons r rs ih => exact fun st h => ih _ (done_len h)
  exact go rs _ (by rw [List.length_map])
theorem after_snoc (L : List Chn) (rs : List RowD) (r : RowD) : stAfter L (rs ++ [r]) = doneS r L (stAfter L rs) := by
  unfold stAfter
  rw [List.foldl_append]
  rfl
theorem numAt_at {zs : List Str} {st : List (Int × Int)} {i : Nat} {z : Str} {s : Int × Int} (nd : zs.Nodup) (hz : zs[i]? = some z) (hs : st[i]? = some s) : numAt zs st z = s.1 := by
  induction zs generalizing st i with
  | nil => cases hz
  | cons a zs ih =>
    cases st with
    | nil => cases hs
    | cons b st =>
      rw [List.nodup_cons] at nd
      unfold numAt
      cases i with
      | zero =>
        cases hz
        cases hs
        simp
      | succ i =>
        have ne : a ≠ z := fun e => nd.1 (by rw [e]; exact List.mem_of_getElem? hz)
        have q := ih nd.2 hz hs
        unfold numAt at q
        rw [List.zip_cons_cons, List.find?_cons_of_neg (by simpa using ne)]
        exact q
theorem chain_own {cs : List (Str × Str)} {L : List Chn} (h : ChainsOf cs L) : L.map (·.2) = cs.map (·.1) := by
  have go : ∀ {cs0 : List (Str × Str)} {L : List Chn}, Paired (fun (c : Str × Str) (x : Chn) => x.2 = c.1 ∧ ∃ l, Climb cs c.1 l ∧ l.length ≤ 1000 ∧ x.1 = l.reverse) cs0 L → L.map (·.2) = cs0.map (·.1) := by
    intro cs0 L h
    induction h with
    | nil => rfl
    | cons a b ih => rw [List.map_cons, List.map_cons, ih, a.1]
  exact go h
theorem climb_last {cs : List (Str × Str)} {z : Str} {l : List Str} (h : Climb cs z l) : EndAt l.reverse z := by
  obtain ⟨r, e⟩ := h.head
  exact ⟨r.reverse, by rw [e, List.reverse_cons]⟩
theorem climb_in {cs : List (Str × Str)} {z : Str} {l : List Str} (h : Climb cs z l) : ∀ y ∈ l, y ∈ cs.map (·.1) := by
  induction h with
  | top h => intro y hy; rw [List.mem_singleton.mp hy]; exact List.mem_map_of_mem (f := (·.1)) h
  | up h _ _ ih =>
    intro y hy
    rcases List.mem_cons.mp hy with rfl | hy
    · exact List.mem_map_of_mem (f := (·.1)) h
    · exact ih y hy
/-- the chain of a counter -/
theorem chainOf_at {cs : List (Str × Str)} {L : List Chn} (h : ChainsOf cs L) {c : Str} (hc : c ∈ cs.map (·.1)) : ∃ l, Climb cs c l ∧ l.length ≤ 1000 ∧ chainOf L c = l.reverse := by
  have go : ∀ {cs0 : List (Str × Str)} {L : List Chn}, Paired (fun (c : Str × Str) (x : Chn) => x.2 = c.1 ∧ ∃ l, Climb cs c.1 l ∧ l.length ≤ 1000 ∧ x.1 = l.reverse) cs0 L → c ∈ cs0.map (·.1) → ∃ l, Climb cs c l ∧ l.length ≤ 1000 ∧ chainOf L c = l.reverse := by
    intro cs0 L h
    induction h with
    | nil => intro hc; cases hc
    | @cons d x cs0 L a b ih =>
      intro hc
      obtain ⟨e, l, h1, h2, h3⟩ := a
      unfold chainOf
      by_cases ed : x.2 = c
      · refine ⟨l, by rw [← ed, e]; exact h1, h2, ?_⟩
        rw [List.find?_cons_of_pos (by simpa using ed)]
        exact h3
      · rw [List.map_cons] at hc
        rcases List.mem_cons.mp hc with rfl | hc
        · exact absurd e ed
        · obtain ⟨l, g1, g2, g3⟩ := ih hc
          refine ⟨l, g1, g2, ?_⟩
          rw [List.find?_cons_of_neg (by simpa using ed)]
          exact g3
  exact go h hc
section
variable {K : PySem.W.Frag} {tl : TE} {g : TG} {tt : TT} {te : TE} {vs : List Nat} {σ : L2.St} {H : Hp} {Q : VK} {p : Addr} {xs : List V}
theorem lcw_objsT {α : Type} {R : Hp → Addr → α → Prop} {cs : List α} (hR : ∀ {H H' : Hp} {t : Addr} {c : α}, SameN H H' → R H t c → R H' t c)
    (h0 : ∀ R : VK, R (.ref p) H → tl σ H R) (hp : SqT K H p xs) (hl : xs.length ≤ 1000) (hc : xs.length = cs.length)
    (turn : ∀ (i : Nat) (x : V) (c : α) (Hi : Hp) (S : Hp → Prop) (Y : VK), xs[i]? = some x → cs[i]? = some c → Same H Hi → (∀ t H', Same Hi H' → R H' t c → Y (.ref t) H') → g x (wipe σ vs) Hi fun σ2 H2 => wipe σ2 vs = wipe σ vs ∧ tt σ2 H2 fun b H3 => if b = true then te σ2 H3 Y else S H3)
    (fin : ∀ (D : Addr) (H' : Hp) (ts : List Addr), H D = none → Same H H' → H' D = some (.lst (ts.map V.ref)) → Paired (R H') ts cs → Q (.ref D) H') : tLc (iTup K tl) g tt te vs σ H Q := by
  refine h0 _ ⟨p, rfl, ⟨_, hp⟩, fun D hD => lc_tup (xs := xs) (fun i Hi => Same H Hi ∧ ∃ ts : List Addr, Hi D = some (.lst (ts.map V.ref)) ∧ ts.length ≤ i ∧ Paired (R Hi) ts (cs.take i)) ⟨Same.new hD, [], upd_same, Nat.le_refl _, .nil⟩ (fun _ _ _ hP => Same.sqt hP.1 hp) (fun i x Hi hx hP => ?_) (fun Hi hP => ?_)⟩
  · obtain ⟨s, ts, hd, hn, pd⟩ := hP
    have hi : i < xs.length := (List.getElem?_eq_some_iff.mp hx).1
    have hi2 : i < cs.length := by omega
    have hc2 : cs[i]? = some cs[i] := List.getElem?_eq_getElem hi2
    refine turn i x _ Hi _ _ hx hc2 s fun t H' s' r => ⟨_, s' _ _ hd, small1000 (by rw [List.length_map]; omega), (fun a o e => ?_), ts ++ [t], by rw [upd_same, List.map_append]; rfl, by rw [List.length_append]; exact Nat.add_le_add_right hn 1, ?_⟩
    · rw [upd_ne (ne_of_none e hD)]
      exact s' _ _ (s _ _ e)
    · have n2 : SameN H' (upd H' D (.lst (ts.map V.ref ++ [V.ref t]))) := SameN.upd (s' _ _ hd)
      rw [List.take_add_one, hc2]
      exact paired_snoc (hR n2 r) (paired_mono (fun _ _ z => hR ((SameN.of s').trans n2) z) pd)
  · obtain ⟨s, ts, hd, _, pd⟩ := hP
    rw [hc, List.take_length] at pd
    exact fin D Hi ts hD s hd pd
/-- {k: v for x in xs}, the keys new ones -/
theorem dcw_new {tk tv : TE} {keys : List Str} {α : Type} {R : Hp → V → α → Prop} {cs : List α} (hR : ∀ {H H' : Hp} {t : V} {c : α} {D : Addr} {kvs : List (Key × V)} {o : HO}, H D = some (.dK kvs) → H' = upd H D o → R H t c → R H' t c) (hS : ∀ {H H' : Hp} {t : V} {c : α}, Same H H' → R H t c → R H' t c)
    (h0 : ∀ R : VK, R (.ref p) H → tl σ H R) (hp : SqL K H p xs) (hl : xs.length ≤ 1000) (hk : xs.length = keys.length) (hc : xs.length = cs.length) (nd : keys.Nodup)
    (turn : ∀ (i : Nat) (x : V) (z : Str) (c : α) (Hi : Hp) (S : Hp → Prop) (Y : V → V → Hp → Prop), xs[i]? = some x → keys[i]? = some z → cs[i]? = some c → Same H Hi → (∀ v H', Same Hi H' → R H' v c → Y (.str z) v H') → g x (wipe σ vs) Hi fun σ2 H2 => wipe σ2 vs = wipe σ vs ∧ tt σ2 H2 fun b H3 => if b = true then tk σ2 H3 fun y H4 => tv σ2 H4 fun v H5 => Y y v H5 else S H3)
    (fin : ∀ (D : Addr) (H' : Hp) (kvs : List (Key × V)), H D = none → Same H H' → H' D = some (.dK kvs) → Paired (fun (kv : Key × V) (x : Str × α) => kv.1 = .inr x.1 ∧ R H' kv.2 x.2) kvs (keys.zip cs) → Q (.ref D) H') : tDc (iList K tl) g tt tk tv vs σ H Q := by
  refine h0 _ ⟨p, rfl, ⟨_, hp⟩, fun D hD => ?_⟩
  refine ⟨fun i m Hi => m = xs.length - i ∧ i ≤ xs.length ∧ Same H Hi ∧ ∃ kvs : List (Key × V), Hi D = some (.dK kvs) ∧ Paired (fun (kv : Key × V) (x : Str × α) => kv.1 = .inr x.1 ∧ R Hi kv.2 x.2) kvs ((keys.zip cs).take i), ⟨_, rfl, Nat.zero_le _, Same.new hD, [], upd_same, .nil⟩, ?_⟩
  rintro i m Hi ⟨rfl, hi, s, kvs, hd, pd⟩
  have wk : Walk (Itl K p) xs.length (fun H => SqL K H p xs) (YAt xs) := walk_list
  have hpi := s.seq hp
  by_cases lt : i < xs.length
  · refine .inr ⟨wk.goes i Hi lt hpi, fun H' => Same H H' ∧ ∃ kvs : List (Key × V), H' D = some (.dK kvs) ∧ Paired (fun (kv : Key × V) (x : Str × α) => kv.1 = .inr x.1 ∧ R H' kv.2 x.2) kvs ((keys.zip cs).take (i + 1)), fun H' z => ⟨xs.length - (i + 1), by omega, rfl, lt, z⟩, fun x H' y => ?_⟩
    obtain ⟨rfl, hx⟩ := wk.yields i Hi x H' lt hpi y
    have hkz : keys[i]? = some keys[i] := List.getElem?_eq_getElem (by omega)
    have hcz : cs[i]? = some cs[i] := List.getElem?_eq_getElem (by omega)
    refine turn i x _ _ _ _ (fun y v H5 => ∃ kvs k, y = kV k ∧ H5 D = some (.dK kvs) ∧ kvs.length < sizeLine ∧ _) hx hkz hcz s fun v H5 s5 r => ⟨kvs, .inr keys[i], rfl, s5 _ _ hd, ?_, fun a o e => ?_, _, upd_same, ?_⟩
    · rw [paired_len pd, List.length_take, List.length_zip]
      exact small1000 (by omega)
    · rw [upd_ne (ne_of_none e hD)]
      exact s5 _ _ (s _ _ e)
    · have hnew : valV kvs (.inr keys[i]) = none := by
        refine valV_none fun hm => ?_
        obtain ⟨kv, hkv, ek⟩ := List.mem_map.mp hm
        obtain ⟨j, hj⟩ := List.getElem?_of_mem hkv
        obtain ⟨w, hw, e, _⟩ := paired_at pd hj
        have hjl := (List.getElem?_eq_some_iff.mp hw).1
        rw [List.length_take] at hjl
        rw [List.getElem?_take, if_pos (by omega)] at hw
        have h1 := (List.getElem?_zip_eq_some.mp hw).1
        rw [e] at ek
        have e2 : w.1 = keys[i] := by injection ek
        rw [e2] at h1
        obtain ⟨a1, b1⟩ := List.getElem?_eq_some_iff.mp h1
        exact List.pairwise_iff_getElem.mp nd j i a1 (by omega) (by omega) b1
      rw [putK_new _ hnew]
      have hzi : (keys.zip cs)[i]? = some (keys[i], cs[i]) := List.getElem?_zip_eq_some.mpr ⟨hkz, hcz⟩
      rw [List.take_add_one, hzi]
      exact paired_snoc ⟨rfl, hR (s5 _ _ hd) rfl r⟩ (paired_mono (fun _ _ z => ⟨z.1, hR (s5 _ _ hd) rfl (hS s5 z.2)⟩) pd)
  · obtain rfl : i = xs.length := by omega
    rw [List.take_of_length_le (by rw [List.length_zip]; omega)] at pd
    exact .inl ⟨wk.stops Hi hpi, fin D Hi kvs hD s hd pd⟩
end
end Pn

namespace Pn
open PySem PySem.Spec PyProof.Rows L2 TL
section
variable {P : Program} {w : World} {K : PySem.W.Frag} {mg : Str → Option Value} {base : Heap} {R : TRows K mg} {T : TPart R} {B : TBk T} {F : TFill R} {FM : TFilM F}
structure TNum4 {K : PySem.W.Frag} {mg : Str → Option Value} {R : TRows K mg} {T : TPart R} {B : TBk T} {F : TFill R} {FM : TFilM F} (FE : TFilE FM) : Type extends TNum3 (B := B) FE where
  af : Addr
  mAF : mg "AT_FIRST" = some (.ref af)
  hAF : ∀ H, SqT K H af [.int 0, .int 0]
  play : At K mg "play" sPlay ["book", "filling"]
variable {FE : TFilE FM}
/-- what stands behind play -/
def PlayedAt (C : Addr) (K : PySem.W.Frag) (H : Hp) (x : Addr) (ns : List (Str × List Int)) (rf : List (Str × Nat × List Int)) (en : List (Int × Int)) : Prop := ∃ (dx np rp ep : Addr) (ts us ws : List Addr), H x = some (insPl C dx (.ref np) (.ref rp) (.ref ep)) ∧ SqT K H np (ts.map V.ref) ∧ Paired (NoteOutAt K H) ts ns ∧ SqT K H rp (us.map V.ref) ∧ Paired (RefOutAt K H) us rf ∧
  SqT K H ep (ws.map V.ref) ∧ Paired (EndOutAt K H) ws en
/-- a book and a filling that can be played -/
structure Plays (cs : List (Str × Str)) (bk : List PartD) (ds : List FD) (L : List Chn) : Prop where
  ok : CsOk cs
  ch : ChainsOf cs L
  fo : filOk ds
  nd : (ds.map (·.1)).Nodup
  len : (unrolled bk).length < 4000
  few : (uniq (opens (unrolled bk))).length < 64
  cl : cs.length ≤ 100
  opn : ∀ z ∈ opens (unrolled bk), PyData.strOk z = true ∧ ∀ r ∈ rowsFor ds z, goodC cs r
  lab : ∀ l, RowD.ref l ∈ unrolled bk → l ∈ nlabsOf (unrolled bk)
  notes : ∀ c l, RowD.note c l ∈ filledM ds (unrolled bk) → c ∈ cs.map (·.1)
  refs : ∀ x ∈ linksM (unrolled bk), x.2 < (notesM L (filledM ds (unrolled bk))).length
  big : (filledM ds (unrolled bk)).length ≤ 4000
  lk : (linksM (unrolled bk)).length ≤ 1000
theorem opn_in {z : Str} {rs : List RowD} (h : RowD.opn z ∈ rs) : z ∈ opens rs := List.mem_filterMap.mpr ⟨_, h, rfl⟩
theorem links_len (rs : List RowD) : (linksM rs).length ≤ rs.length := by
  unfold linksM
  refine Nat.le_trans (List.length_filterMap_le _ _) ?_
  rw [List.length_range]
  exact Nat.le_refl _
theorem book_nochain {H : Hp} {a : Addr} {cs : List (Str × Str)} {bk : List PartD} (h : BookAt B H a cs bk) : ∃ dx fs, H a = some (.ins B.C dx fs) ∧ fs.lookup ("chain" : Str) = none := by
  obtain ⟨dx, ct, pt, ft, ts, ps, us, ha, _⟩ := h
  exact ⟨dx, _, ha, by rw [lookup_putF, if_neg (by decide +kernel), lookup_putF, if_neg (by decide +kernel), lookup_putF, if_neg (by decide +kernel)]; rfl⟩
def spPlay (B : TBk T) (F : TFill R) (C : Addr) : Sp := fun vs H Q _ => ∃ (a f : Addr) (cs : List (Str × Str)) (bk : List PartD) (ds : List FD) (L : List Chn), vs = [.ref a, .ref f] ∧ BookAt B H a cs bk ∧ FilI F H f ds ∧ Plays cs bk ds L ∧
  ∀ (x : Addr) (H' : Hp), Same H H' → PlayedAt C K H' x (notesM L (filledM ds (unrolled bk))) (refsM (linksM (unrolled bk)) (notesM L (filledM ds (unrolled bk)))) (stAfter L (filledM ds (unrolled bk))) → Q (.ref x) H'
theorem scPlay : FnScope ["book", "filling", "chains", "state", "notes", "row", "prints", "refs", "ends", "name", "upper", "chain", "label", "number"] ["book", "filling"] (defScope sPlay) := ⟨rfl, rfl, rfl, by decide +kernel, rfl, by decide +kernel, by decide +kernel⟩
theorem ok_play (N : TNum4 (B := B) FE) : FnOk P w K mg base CX0 12 N.play.f N.play.fd ["book", "filling"] (spPlay B F N.C) := by
  refine N.play.F.ok scPlay (fun vs H Q E h => ?_) (fun cdv A outer s H vs Q E hr h => ?_)
  · obtain ⟨a, f, cs, bk, ds, L, rfl, _⟩ := h
    rfl
  · obtain ⟨a, f, cs, bk, ds, L, rfl, hB, hF, pl, q⟩ := h
    refine ⟨_, (pss_cons (ps_expr (pe_call (ok_needC N.toTNum3) (hr.mono (by decide)) rfl N.needC.m N.needC.F.kp N.needC.b .nil pass0 (pa_cons (pv 0) (pa_cons (pv 1) pa_nil))))
(pss_cons (ps_setLc (i := 2) (own := [("name", 9), ("upper", 10)]) (g := gTup K 2 (gCons (gName 9) (gCons (gName 10) gNil))) (tt := tYes) (by rfl) scPlay.nd rfl rfl (sw_true rfl rfl rfl (by decide +kernel)) (pi_tup (pe_fld (pv 0) rfl))
 (blkOk_by (N := ["book", "filling", "chains", "state", "notes", "row", "prints", "refs", "ends", "name", "upper", "chain", "label", "number"]) (sc := defScope sPlay) (by decide +kernel)) (fun _ _ _ _ _ => (pg_tup (by rfl) (pgs_cons (pg_name (i := 9) scPlay.nd rfl (Or.inl rfl)) (pgs_cons (pg_name (i := 10) scPlay.nd rfl (Or.inl rfl)) pgs_nil)))) (fun _ _ _ _ _ => pts_nil) (fun _ _ _ _ _ => (pe_meth (pv 0) B.cl ⟨B.chain.hs, B.chain.hf, B.chain.F.kp⟩ (ok_bChain B) (hr.mono (by decide)) B.chain.b .nil pass0 (pa_cons (pv 9) pa_nil))))
(pss_cons (ps_set (i := 3) scPlay.nd rfl (Or.inr rfl) (pe_dc (own := [("chain", 11)]) (g := gName 11) (tt := tYes) (by rfl) scPlay.nd (pi_list (pv 2))
 (blkOk_by (N := ["book", "filling", "chains", "state", "notes", "row", "prints", "refs", "ends", "name", "upper", "chain", "label", "number"]) (sc := defScope sPlay) (by decide +kernel)) (fun _ _ _ _ _ => (pg_name (i := 11) scPlay.nd rfl (Or.inl rfl))) (fun _ _ _ _ _ => pts_nil) (fun _ _ _ _ _ => (pe_ix (show IxR _ (rIxT K) from ix_tup) (pv 11) (pe_un un_neg pe_int) (fun _ _ => rfl))) (fun _ _ _ _ _ => (pe_glob (v := .ref N.af) (by rfl) N.mAF rfl))))
(pss_cons (ps_set (i := 4) scPlay.nd rfl (Or.inr rfl) (pe_lst pa_nil))
(pss_cons (ps_for PassesOwn.never rfl (pi_list (pe_call (ok_filledR N.toTNum3) (hr.mono (by decide)) rfl N.filledR.m N.filledR.F.kp N.filledR.b .nil pass0 (pa_cons (pv 0) (pa_cons (pv 1) pa_nil)))) (pg_name (i := 5) scPlay.nd rfl (Or.inl rfl))
(pss_cons (ps_set (i := 3) scPlay.nd rfl (Or.inr rfl) (pe_call (ok_done N.toTNum1) (hr.mono (by decide)) rfl N.done.m N.done.F.kp N.done.b .nil pass0 (pa_cons (pv 5) (pa_cons (pv 2) (pa_cons (pv 3) pa_nil)))))
(pss_one (ps_if (pt_cmpR op_eq (pe_fld (pv 5) rfl) pe_str (nomark _)) (pss_cons (ps_set (i := 6) scPlay.nd rfl (Or.inl rfl) (pe_callTy (show CallR _ (.type "tuple") (rTupX K) from cr_tupX) (by rfl) T.mTup (by decide +kernel) (pa_cons (pe_lc (own := [("name", 9)]) (g := gName 9) (tt := tYes) (by rfl) scPlay.nd (pi_tup (pe_meth (pv 0) B.cl ⟨B.chain.hs, B.chain.hf, B.chain.F.kp⟩ (ok_bChain B) (hr.mono (by decide)) B.chain.b .nil pass0 (pa_cons (pe_fld (pv 5) rfl) pa_nil)))
 (blkOk_by (N := ["book", "filling", "chains", "state", "notes", "row", "prints", "refs", "ends", "name", "upper", "chain", "label", "number"]) (sc := defScope sPlay) (by decide +kernel)) (fun _ _ _ _ _ => (pg_name (i := 9) scPlay.nd rfl (Or.inl rfl))) (fun _ _ _ _ _ => pts_nil) (fun _ _ _ _ _ => (pe_ix (show IxR _ (rIxT K) from ix_tup) (pe_dget (roomU hr) (pv 3) (pv 9) (fun _ _ => rfl)) pe_int (fun _ _ => rfl)))) pa_nil)))
(pss_one (ps_expr (pe_bm PySem.F.plainAttrs_list PySem.F.slot_list_append PySem.F.type_list_append mt_append (pv 4) (pa_cons (pe_tup (pa_cons (pe_fld (pv 5) rfl) (pa_cons (pv 6) pa_nil))) pa_nil))))) pss_nil))))
(pss_cons (ps_setLc (i := 7) (own := [("label", 12), ("number", 13)]) (g := gTup K 2 (gCons (gName 12) (gCons (gName 13) gNil))) (tt := tYes) (by rfl) scPlay.nd rfl rfl (sw_true rfl rfl rfl (by decide +kernel)) (pi_list (pe_call (ok_links N.toTNum2) (hr.mono (by decide)) rfl N.links.m N.links.F.kp N.links.b .nil pass0 (pa_cons (pv 0) pa_nil)))
 (blkOk_by (N := ["book", "filling", "chains", "state", "notes", "row", "prints", "refs", "ends", "name", "upper", "chain", "label", "number"]) (sc := defScope sPlay) (by decide +kernel)) (fun _ _ _ _ _ => (pg_tup (by rfl) (pgs_cons (pg_name (i := 12) scPlay.nd rfl (Or.inl rfl)) (pgs_cons (pg_name (i := 13) scPlay.nd rfl (Or.inl rfl)) pgs_nil)))) (fun _ _ _ _ _ => pts_nil) (fun _ _ _ _ _ => (pe_tup (pa_cons (pv 12) (pa_cons (pv 13) (pa_cons (pe_ix (show IxR _ (rIxT K) from ix_tup) (pe_ix (show IxR _ (rIxL K) from ix_list) (pv 4) (pv 13) (fun _ _ => rfl)) pe_int (fun _ _ => rfl)) pa_nil))))))
(pss_cons (ps_setLc (i := 8) (own := [("chain", 11)]) (g := gName 11) (tt := tYes) (by rfl) scPlay.nd rfl rfl (sw_true rfl rfl rfl (by decide +kernel)) (pi_list (pv 2))
 (blkOk_by (N := ["book", "filling", "chains", "state", "notes", "row", "prints", "refs", "ends", "name", "upper", "chain", "label", "number"]) (sc := defScope sPlay) (by decide +kernel)) (fun _ _ _ _ _ => (pg_name (i := 11) scPlay.nd rfl (Or.inl rfl))) (fun _ _ _ _ _ => pts_nil) (fun _ _ _ _ _ => (pe_dget (roomU hr) (pv 3) (pe_ix (show IxR _ (rIxT K) from ix_tup) (pv 11) (pe_un un_neg pe_int) (fun _ _ => rfl)) (fun _ _ => rfl))))
(pss_one (ps_ret (pe_make N.M (ok_plInit N.toTNum3) (hr.mono (by decide)) rfl N.mC N.bI .nil pass0 (pa_cons (pe_callTy (show CallR _ (.type "tuple") (rTupX K) from cr_tupX) (by rfl) T.mTup (by decide +kernel) (pa_cons (pv 4) pa_nil)) (pa_cons (pe_callTy (show CallR _ (.type "tuple") (rTupX K) from cr_tupX) (by rfl) T.mTup (by decide +kernel) (pa_cons (pv 7) pa_nil)) (pa_cons (pe_callTy (show CallR _ (.type "tuple") (rTupX K) from cr_tupX) (by rfl) T.mTup (by decide +kernel) (pa_cons (pv 8) pa_nil)) pa_nil))))))))))))), ?_⟩
    have two : 2 ≤ sizeLine := by decide
    have three : 3 ≤ sizeLine := by decide
    have hzs := chain_own pl.ch
    have hLl : L.length = cs.length := by have := congrArg List.length hzs; simpa using this
    have ndz : (L.map (·.2)).Nodup := by rw [hzs]; exact pl.ok.nd
    generalize hrs : filledM ds (unrolled bk) = rs at q
    refine stepDrop (fun H' => Same H H') (fun Q' hQ => ⟨_, rfl, _, rfl, a, f, cs, bk, ds, rfl, hB, hF, pl.fo, pl.nd, pl.len, pl.few, pl.cl, pl.opn, fun H' s => hQ _ _ s⟩) (fun H1 s1 => ?r1)
    case r1 =>
    try dsimp only [List.set]
    refine stepSet (fun v H' => ∃ (cl : Addr) (ks : List Addr), v = .ref cl ∧ Same H H' ∧ H' cl = some (.lst (ks.map V.ref)) ∧ Paired (ChnAt K H') ks L) (fun Q' hQ => ?c2) (fun v H2 hC => ?r2)
    case c2 =>
      obtain ⟨dx, ct, pt, ft, ts, ps, us, ha, ⟨hct, hts⟩, _⟩ := id (hB.same s1)
      have htl : ts.length = cs.length := paired_len hts
      refine lcw_objsT (K := K) (tl := tFld K (tVar 0) "counters") (p := ct) (xs := ts.map V.ref) (cs := L) (R := fun H t c => ChnAt K H t c) (fun s z => ⟨sqt_sameN s z.1, z.2⟩) ?h0 hct.sqt (by rw [List.length_map]; have := pl.cl; omega) (by rw [List.length_map, htl, hLl]) ?tn ?fn
      case h0 => exact fun R' z => ⟨_, rfl, a, B.C, dx, _, .ref ct, rfl, ha, B.cl, B.noC, book_c, z⟩
      case tn =>
        intro i x c Hi S Y hx hcL sI k
        rw [List.getElem?_map] at hx
        obtain ⟨t, ht, rfl⟩ := Option.map_eq_some_iff.mp hx
        obtain ⟨c0, hc0, hct2⟩ := paired_at hts ht
        obtain ⟨c1, hc1, e1, l, k1, k2, k3⟩ := paired_at pl.ch hc0
        rw [hcL] at hc1
        cases hc1
        have hBi := (hB.same s1).same sI
        obtain ⟨dxc, fsc, hac, hno⟩ := book_nochain hBi
        refine ⟨t, _, rfl, Same.sqt sI hct2, rfl, _, _, rfl, _, _, rfl, rfl, rfl, ?_⟩
        refine ⟨_, rfl, a, dxc, fsc, rfl, hac, hno, _, rfl, a, cs, bk, c0.1, l, rfl, hBi, pl.ok, k1, k2, fun t2 H' s' ht2 => k t2 H' s' ⟨?_, ?_⟩⟩
        · rw [k3]; exact ht2
        · rw [k3, e1]; exact climb_last k1
      case fn =>
        intro D H' ks hD sD hDl pd
        exact hQ _ _ ⟨D, ks, rfl, Same.trans s1 sD, hDl, pd⟩
    case r2 =>
    clear s1
    obtain ⟨cl, ks, rfl, s2, hcl, hks⟩ := hC
    have hkl := paired_len hks
    try dsimp only [List.set]
    refine stepSet (fun v H' => ∃ sp : Addr, v = .ref sp ∧ Same H2 H' ∧ StAt K H' sp (L.map (·.2)) (L.map fun _ => ((0 : Int), (0 : Int)))) (fun Q' hQ => ?c3) (fun v H3 hC => ?r3)
    case c3 =>
      refine dcw_new (K := K) (tl := tVar 2) (p := cl) (xs := ks.map V.ref) (keys := L.map (·.2)) (cs := L.map fun _ => ((0 : Int), (0 : Int))) (R := fun H v (s : Int × Int) => ∃ t : Addr, v = .ref t ∧ SqT K H t [.int s.1, .int s.2]) ?hR ?hS ?h0 (SqL.of hcl) (by rw [List.length_map]; have := pl.cl; omega) (by rw [List.length_map, List.length_map, hkl]) (by rw [List.length_map, List.length_map, hkl]) ndz ?tn ?fn
      case hR => exact fun hD e ⟨t, e1, z⟩ => ⟨t, e1, by rw [e]; exact sqt_dk hD z⟩
      case hS => exact fun s ⟨t, e1, z⟩ => ⟨t, e1, Same.sqt s z⟩
      case h0 => exact fun R' z => ⟨_, rfl, z⟩
      case tn =>
        intro i x z c Hi S Y hx hz hc sI k
        rw [List.getElem?_map] at hx hz hc
        obtain ⟨kk, hk, rfl⟩ := Option.map_eq_some_iff.mp hx
        obtain ⟨c0, hc0, rfl⟩ := Option.map_eq_some_iff.mp hz
        obtain ⟨c1, hc1, rfl⟩ := Option.map_eq_some_iff.mp hc
        obtain ⟨c2, hc2, h1, pre, h2⟩ := paired_at hks hk
        rw [hc0] at hc2
        cases hc2
        have hat : atI (c0.1.map V.str) (-1) = some (.str c0.2) := by rw [h2, List.map_append]; exact atI_last _ _
        exact ⟨rfl, _, rfl, _, rfl, kk, _, _, .str c0.2, rfl, rfl, Same.sqt sI h1, hat, k (.ref N.af) Hi (Same.refl _) ⟨N.af, rfl, N.hAF _⟩⟩
      case fn =>
        intro D H' kvs hD sD hDk pd
        refine hQ _ _ ⟨D, rfl, sD, kvs, hDk, paired_mono (fun kv x z => ?_) pd⟩
        obtain ⟨e1, t, e2, z2⟩ := z
        exact ⟨t, by rw [← e1, ← e2], z2⟩
    case r3 =>
    obtain ⟨sp, rfl, s3, hst⟩ := hC
    try dsimp only [List.set]
    have s03 : Same H H3 := Same.trans s2 s3
    refine ⟨Nat.zero_le _, fun nl hnl => ?_⟩
    have s4 := Same.new (o := .lst []) hnl
    have e4 : (upd H3 nl (.lst [])) nl = some (.lst []) := upd_same
    generalize upd H3 nl (.lst []) = H4 at s4 e4 ⊢
    have s04 := Same.trans s03 s4
    refine ⟨_, rfl, _, rfl, a, f, cs, bk, ds, rfl, hB.same s04, hF.same s04, pl.fo, pl.nd, Nat.le_of_lt pl.len, fun z hz => (pl.opn z (opn_in hz)).1, fun rl us H5 hrn s5 hrl hus => ?_⟩
    rw [hrs] at hus
    have hul : us.length = rs.length := paired_len hus
    have rnl : rl ≠ nl := fun w => by rw [w, e4] at hrn; cases hrn
    have e5 := s5 _ _ e4
    have g3 : Same H3 (hid H5 nl) := fun c o e => hid_get (s5 _ _ (s4 _ _ e)) (ne_of_none e hnl)
    have gB := (hB.same s03).same g3
    have gcl := g3 _ _ (s3 _ _ hcl)
    have gks := paired_mono (fun _ _ z => (⟨Same.sqt (Same.trans s3 g3) z.1, z.2⟩ : ChnAt K _ _ _)) hks
    have gst := hst.same g3
    have grl : hid H5 nl rl = some (.lst (us.map V.ref)) := hid_get hrl rnl
    have n5 : SameN H5 (hid H5 nl) := fun c o e n => hid_get e fun w => by
      rw [w, e5] at e
      cases e
      exact n _ rfl
    have gus : RowsIn R (hid H5 nl) us rs := paired_mono (fun _ _ z => RowAt.sameN n5 z) hus
    have g0 : Same H (hid H5 nl) := Same.trans s03 g3
    have nl0 : H nl = none := s03.free hnl
    have hG5 : Same (hid H5 nl) H5 := hid_sub
    have gnl : hid H5 nl nl = none := by unfold hid; rw [if_pos rfl]
    generalize hid H5 nl = G at gnl g3 gB gcl gks gst grl gus g0 hG5 n5
    have lr : rs.length ≤ 4000 := by rw [← hrs]; exact pl.big
    have rowNote : ∀ (i : Nat) (c l : Str), rs[i]? = some (.note c l) → c ∈ cs.map (·.1) := fun i c l e => pl.notes c l (by rw [hrs]; exact List.mem_of_getElem? e)
    refine ⟨rl, rfl, ⟨_, SqL.of (hG5 _ _ grl)⟩, for_list (xs := us.map V.ref) (fun i σ Hx => ∃ (spi : Addr) (y5 y6 y7 y8 y9 y10 y11 y12 y13 : Option V), σ = [some (.ref a), some (.ref f), some (.ref cl), some (.ref spi), some (.ref nl), y5, y6, y7, y8, y9, y10, y11, y12, y13] ∧ Same G Hx ∧ StAt K Hx spi (L.map (·.2)) (stAfter L (rs.take i)) ∧
        ∃ ts : List Addr, Hx nl = some (.lst (ts.map V.ref)) ∧ ts.length ≤ i ∧ Paired (NoteOutAt K Hx) ts ((List.range i).filterMap (noteAt L rs)))
      ⟨sp, _, _, _, _, _, _, _, _, _, rfl, hG5, gst.same hG5, [], e5, Nat.le_refl _, .nil⟩ (fun i σ Hx _ hP => by obtain ⟨_, _, _, _, _, _, _, _, _, _, _, h, _⟩ := hP; exact SqL.of (h _ _ grl)) (fun i v σ Hx hv hP => ?turn) (fun σ Hx hP => ?fin)⟩
    case turn =>
      obtain ⟨spi, y5, y6, y7, y8, y9, y10, y11, y12, y13, rfl, hx, hsti, ts, hxn, htl, pd⟩ := hP
      rw [List.getElem?_map] at hv
      obtain ⟨u, hu, rfl⟩ := Option.map_eq_some_iff.mp hv
      obtain ⟨r, hr2, hrow0⟩ := paired_at gus hu
      have hil := (List.getElem?_eq_some_iff.mp hr2).1
      have hrow := hrow0.same hx
      have tk1 : rs.take (i + 1) = rs.take i ++ [r] := by rw [List.take_add_one, hr2]; rfl
      have hsl := after_len L (rs.take i)
      try dsimp only [List.set]
      refine ⟨_, rfl, _, rfl, _, rfl, u, cl, spi, ks, r, L, _, rfl, hrow, SqL.of (hx _ _ gcl), paired_mono (fun _ _ z => ⟨Same.sqt hx z.1, z.2⟩) gks, by have := pl.cl; omega, ndz, hsti, hsl, fun sp' H6 s6 hst6 => ?_⟩
      rw [← after_snoc, ← tk1] at hst6
      have hx6 := Same.trans hx s6
      have hrow6 := hrow.same s6
      obtain ⟨dw, fw, w1, w2, w3, w4⟩ := at_word R hrow6
      have nat_ : noteAt L rs i = noteOf L (stAfter L (rs.take (i + 1))) r := by
        unfold noteAt
        rw [hr2]
        rfl
      try dsimp only [List.set]
      refine ⟨_, rfl, u, _, dw, fw, _, rfl, w1, w2, w3, w4, rfl, _, rfl, ?_⟩
      by_cases h1 : rowWord r = "note"
      · refine iteTD (wtT h1) ?_
        obtain ⟨c, l, rfl⟩ := is_note h1
        have hcm := rowNote i c l hr2
        obtain ⟨lc, k1, k2, k3⟩ := chainOf_at pl.ch hcm
        have hB6 := gB.same hx6
        obtain ⟨dxc, fsc, hac, hno⟩ := book_nochain hB6
        obtain ⟨dc, fc, c1, c2, c3, c4⟩ := at_counter R hrow6 (c := c) rfl
        refine stepSet (fun v H' => ∃ p : Addr, v = .ref p ∧ Same H6 H' ∧ SqT K H' p ((printsOf L (stAfter L (rs.take (i + 1))) c).map V.int)) (fun Q' hQ => ?c7) (fun v H7 hC => ?r7)
        case c7 =>
          dsimp only [tCB]
          refine ⟨_, rfl, a, dxc, fsc, rfl, hac, hno, _, rfl, u, _, dc, fc, .str c, rfl, c1, c2, c3, c4, a, cs, bk, c, lc, rfl, hB6, pl.ok, k1, k2, fun t H7 s7 ht => ?_⟩
          show tLc (iTup K (tC (.ref t))) (gName 9) tYes (tOp (rIxT K) (tDGet (tVar 3) (tVar 9)) (tC (.int 0))) [9] [some (.ref a), some (.ref f), some (.ref cl), some (.ref sp'), some (.ref nl), some (.ref u), y6, y7, y8, y9, y10, y11, y12, y13] H7 (fun x H1 => rTupX K [x] H1 Q')
          refine lcw_tup (K := K) (tl := tC (.ref t)) (p := t) (xs := lc.reverse.map V.str) (out := fun i_1 => (lc.reverse[i_1]?).map fun z => V.int (numAt (L.map (·.2)) (stAfter L (rs.take (i + 1))) z)) (fun R z => z) ht (by rw [List.length_map, List.length_reverse]; omega) ?tnp ?fnp
          case tnp =>
            intro j y Hj S Y hy sJ h0 k0
            rw [List.getElem?_map] at hy
            obtain ⟨z, hz, rfl⟩ := Option.map_eq_some_iff.mp hy
            have hzm : z ∈ L.map (·.2) := by
              rw [hzs]
              exact climb_in k1 z (List.mem_reverse.mp (List.mem_of_getElem? hz))
            obtain ⟨m, hm⟩ := List.getElem?_of_mem hzm
            have hml := (List.getElem?_eq_some_iff.mp hm).1
            rw [List.length_map] at hml
            have hs : (stAfter L (rs.take (i + 1)))[m]? = some ((stAfter L (rs.take (i + 1)))[m]'(by rw [after_len]; exact hml)) := List.getElem?_eq_getElem _
            obtain ⟨t2, g1, g2⟩ := st_get ((hst6.same s7).same sJ) ndz hm hs
            have en := numAt_at ndz hm hs
            refine ⟨rfl, _, rfl, _, rfl, sp', .ref t2, rfl, g1, t2, _, _, _, rfl, rfl, g2, atI_nat (j := 0) rfl, k0 _ ?_ Hj (Same.refl _)⟩
            show Option.map (fun z => V.int (numAt (L.map (·.2)) (stAfter L (rs.take (i + 1))) z)) lc.reverse[j]? = _
            rw [hz]
            show some (V.int _) = _
            rw [en]
          case fnp =>
            intro D H' hD sD hDl
            have eo : (List.range (lc.reverse.map V.str).length).filterMap (fun i_1 => (lc.reverse[i_1]?).map fun z => V.int (numAt (L.map (·.2)) (stAfter L (rs.take (i + 1))) z)) = (printsOf L (stAfter L (rs.take (i + 1))) c).map V.int := by
              unfold printsOf
              rw [k3, List.length_map, List.map_map]
              exact out_map (l := lc.reverse) (f := fun z => V.int (numAt (L.map (·.2)) (stAfter L (rs.take (i + 1))) z))
            rw [eo] at hDl
            exact ⟨D, _, rfl, SqL.of hDl, fun p H8 _ s8 _ _ hX => hQ _ _ ⟨p, rfl, s7.trans (sD.trans s8), hX.sqt⟩⟩
        case r7 =>
        obtain ⟨p, rfl, s7, hp⟩ := hC
        try dsimp only [List.set]
        have hxn7 := s7 _ _ (s6 _ _ hxn)
        obtain ⟨dd, fd2, d1, d2, d3, d4⟩ := at_counter R (hrow6.same s7) (c := c) rfl
        refine ⟨_, rfl, .inl ⟨rfl, _, SqL.of hxn7⟩, _, rfl, u, _, dd, fd2, .str c, rfl, d1, d2, d3, d4, _, rfl, two, fun t ht => ?_⟩
        have s8 := Same.new (o := .tup [.str c, .ref p]) ht
        have hxn8 := s8 _ _ hxn7
        have n9 := SameN.upd (o := .lst (ts.map V.ref ++ [V.ref t])) hxn8
        have nla : ∀ (z : Addr) (o : HO), G z = some o → z ≠ nl := fun z o e w => by rw [w, gnl] at e; cases e
        refine ⟨nl, _, _, rfl, rfl, hxn8, Nat.lt_of_le_of_lt (by rw [List.length_map]; omega) (by decide : 4000 < sizeLine), sp', some (.ref u), some (.ref p), y7, y8, y9, y10, y11, y12, y13, rfl, fun z o e => ?_, ((hst6.same s7).same s8).sameN n9, ts ++ [t], by rw [upd_same, List.map_append]; rfl, by rw [List.length_append]; exact Nat.add_le_add_right htl 1, ?_⟩
        · rw [upd_ne (nla _ _ e)]
          exact s8 _ _ (s7 _ _ (hx6 _ _ e))
        · rw [range_outG, nat_]
          refine paired_snoc ?_ (paired_mono (fun _ _ z => z.sameN ((SameN.of (s6.trans (s7.trans s8))).trans n9)) pd)
          exact ⟨p, sqt_sameN n9 (SqT.of upd_same), sqt_sameN n9 (Same.sqt s8 hp)⟩
      · refine iteFD (wtF h1) ?_
        have e0 : noteOf L (stAfter L (rs.take (i + 1))) r = none := by
          cases r with
          | note c l => exact absurd rfl h1
          | _ => rfl
        refine ⟨sp', some (.ref u), y6, y7, y8, y9, y10, y11, y12, y13, rfl, hx6, hst6, ts, s6 _ _ hxn, Nat.le_succ_of_le htl, ?_⟩
        rw [range_outG, nat_, e0]
        show Paired _ _ (_ ++ [])
        rw [List.append_nil]
        exact paired_mono (fun _ _ z => z.sameN (SameN.of s6)) pd
    case fin =>
      obtain ⟨spi, y5, y6, y7, y8, y9, y10, y11, y12, y13, rfl, hx, hsti, ts, hxn, htl, pd⟩ := hP
      rw [List.length_map, hul] at pd hsti
      rw [List.take_of_length_le (Nat.le_refl _)] at hsti
      have pd : Paired (NoteOutAt K Hx) ts (notesM L rs) := pd
      try dsimp only [List.set]
      clear sp hst gst rl hrl hrn rnl grl e5 hus hG5 n5
      have gBx := gB.same hx
      have tsl := paired_len pd
      refine stepSet (fun v H' => ∃ (fl : Addr) (us2 : List Addr), v = .ref fl ∧ Same Hx H' ∧ H' fl = some (.lst (us2.map V.ref)) ∧ Paired (RefOutAt K H') us2 (refsM (linksM (unrolled bk)) (notesM L rs))) (fun Q' hQ => ?c8) (fun v H7 hC => ?r8)
      case c8 =>
        refine ⟨_, rfl, a, cs, bk, rfl, gBx, Nat.le_of_lt pl.len, pl.lab, fun lkl lts H6 s6 hlk hlp => ?_⟩
        have hll := paired_len hlp
        have lkb := pl.lk
        show tLc (iList K (tC (.ref lkl))) _ _ _ _ _ _ _
        refine lcw_objs (K := K) (tl := tC (.ref lkl)) (p := lkl) (xs := lts.map V.ref) (cs := refsM (linksM (unrolled bk)) (notesM L rs)) (R := fun H t c => RefOutAt K H t c) (fun s z => z.sameN s) (fun R z => z) (SqL.of hlk) (by rw [List.length_map]; omega) (by rw [List.length_map, hll]; unfold refsM; rw [List.length_map]) ?tn8 ?fn8
        case fn8 =>
          intro D H' us2 hD sD hDl pd2
          exact hQ _ _ ⟨D, us2, rfl, s6.trans sD, hDl, pd2⟩
        case tn8 =>
          intro i x c Hi S Y hx0 hc sI k
          rw [List.getElem?_map] at hx0
          obtain ⟨t0, ht0, rfl⟩ := Option.map_eq_some_iff.mp hx0
          obtain ⟨lk, hlk0, hlt⟩ := paired_at hlp ht0
          unfold refsM at hc
          rw [List.getElem?_map, hlk0] at hc
          obtain rfl : (lk.1, lk.2, ((notesM L rs)[lk.2]?.map (·.2)).getD []) = c := Option.some.inj hc
          have hlt2 := pl.refs lk (List.mem_of_getElem? hlk0)
          rw [hrs] at hlt2
          have hn : (notesM L rs)[lk.2]? = some (notesM L rs)[lk.2] := List.getElem?_eq_getElem hlt2
          have htt : ts[lk.2]? = some (ts[lk.2]'(by omega)) := List.getElem?_eq_getElem (by omega)
          obtain ⟨nt, hnt, pp, p1, p2⟩ := paired_at pd htt
          rw [hn] at hnt
          obtain rfl : (notesM L rs)[lk.2] = nt := Option.some.inj hnt
          have sxi := s6.trans sI
          refine ⟨t0, _, rfl, Same.sqt sI hlt, rfl, _, _, rfl, _, _, rfl, rfl, rfl, ?_⟩
          refine ⟨_, rfl, _, rfl, _, rfl, _, rfl, nl, _, _, .ref (ts[lk.2]'(by omega)), rfl, rfl, SqL.of (sxi _ _ hxn), atI_nat (j := lk.2) (by rw [List.getElem?_map, htt]; rfl), ?_⟩
          refine ⟨_, _, _, .ref pp, rfl, rfl, Same.sqt sxi p1, atI_nat (j := 1) rfl, three, fun t ht => ?_⟩
          refine k t _ (Same.new ht) ⟨pp, SqT.of upd_same, ?_⟩
          rw [hn]
          exact Same.sqt (sxi.trans (Same.new ht)) p2
      case r8 =>
      obtain ⟨fl, us2, rfl, s7, hfl, pd2⟩ := hC
      try dsimp only [List.set]
      have hx7 := Same.trans hx s7
      refine stepSet (fun v H' => ∃ (el : Addr) (ws : List Addr), v = .ref el ∧ Same H7 H' ∧ H' el = some (.lst (ws.map V.ref)) ∧ Paired (EndOutAt K H') ws (stAfter L rs)) (fun Q' hQ => ?c9) (fun v H8 hC => ?r9)
      case c9 =>
        have hsl := after_len L rs
        have hcl9 := pl.cl
        refine lcw_objs (K := K) (tl := tVar 2) (p := cl) (xs := ks.map V.ref) (cs := stAfter L rs) (R := fun H t c => EndOutAt K H t c) (fun s z => sqt_sameN s z) ?h0 (SqL.of (hx7 _ _ gcl)) (by rw [List.length_map]; omega) (by rw [List.length_map, hsl, hkl]) ?tn9 ?fn9
        case h0 => exact fun R z => ⟨_, rfl, z⟩
        case fn9 =>
          intro D H' ws hD sD hDl pd3
          exact hQ _ _ ⟨D, ws, rfl, sD, hDl, pd3⟩
        case tn9 =>
          intro i x c Hi S Y hx0 hc sI k
          rw [List.getElem?_map] at hx0
          obtain ⟨kk, hk, rfl⟩ := Option.map_eq_some_iff.mp hx0
          obtain ⟨c0, hc0, h1, pre, h2⟩ := paired_at gks hk
          have hz : (L.map (·.2))[i]? = some c0.2 := by rw [List.getElem?_map, hc0]; rfl
          have sxi := s7.trans sI
          obtain ⟨t, g1, g2⟩ := st_get (hsti.same sxi) ndz hz hc
          have hat : atI (c0.1.map V.str) (-1) = some (.str c0.2) := by rw [h2, List.map_append]; exact atI_last _ _
          exact ⟨rfl, _, rfl, _, rfl, _, rfl, kk, _, _, .str c0.2, rfl, rfl, Same.sqt (Same.trans hx7 sI) h1, hat, spi, .ref t, rfl, g1, k t Hi (Same.refl _) g2⟩
      case r9 =>
      obtain ⟨el, ws, rfl, s8, hel, pd3⟩ := hC
      try dsimp only [List.set]
      have s78 := s7.trans s8
      refine ⟨_, rfl, nl, _, rfl, SqL.of (s78 _ _ hxn), fun np Ha _ sa _ _ hXa => ?_⟩
      refine ⟨_, rfl, fl, _, rfl, SqL.of (sa _ _ (s8 _ _ hfl)), fun rp Hb _ sb _ _ hXb => ?_⟩
      refine ⟨_, rfl, el, _, rfl, SqL.of (sb _ _ (sa _ _ hel)), fun ep Hc _ sc _ _ hXc => ?_⟩
      intro x dx hx0 hdx ne
      refine ⟨x, dx, .ref np, .ref rp, .ref ep, rfl, upd_same, fun H' kp hi => ⟨rfl, ?_⟩⟩
      have sF := kpi_same2 hx0 hdx kp
      have sBF := sb.trans (sc.trans sF)
      refine q x H' (Same.trans g0 (Same.trans hx (s78.trans (sa.trans sBF)))) ⟨dx, np, rp, ep, ts, us2, ws, hi, (hXa.same sBF).sqt, paired_mono (fun _ _ z => z.sameN (SameN.of (s78.trans (sa.trans sBF)))) pd, (hXb.same (sc.trans sF)).sqt, paired_mono (fun _ _ z => z.sameN (SameN.of (s8.trans (sa.trans sBF)))) pd2, (hXc.same sF).sqt, paired_mono (fun _ _ z => sqt_sameN (SameN.of (sa.trans sBF)) z) pd3⟩
end
end Pn

namespace Pn
open PySem PySem.Spec PyProof.Rows L2 TL
/-! ### the book that this law writes -/
def cs20 : List (Str × Str) := [("c", ""), ("f", "c")]
def bk20 (p q : Str) (m : Nat) : List PartD := [("fig", [.note "f" p, .ref p]),
  ("all", [.ref p, .note "c" q, .put "fig", .ref p, .opn "x", .note "f" "", .put "fig", .ref q] ++ List.replicate m (.note "c" "") ++ [.put "fig", .note "c" q, .ref q, .ref p])]
def lines20 (p q : Str) (m : Nat) : List Str := ((((["counter c", "counter f under c", "part fig", ("note f " : Str) ++ p, ("ref " : Str) ++ p, "part all", ("ref " : Str) ++ p] : List Str) ++
  ([("note c " : Str) ++ q, "put fig", ("ref " : Str) ++ p, "open x", "note f", "put fig"] : List Str)) ++ ([("ref " : Str) ++ q] : List Str)) ++ List.replicate m ("note c" : Str)) ++ (["put fig", ("note c " : Str) ++ q, ("ref " : Str) ++ q, ("ref " : Str) ++ p] : List Str)
def flat20 (p q : Str) (m : Nat) : List RowD := [.ref p, .note "c" q, .note "f" p, .ref p, .ref p, .opn "x", .note "f" "", .note "f" p, .ref p, .ref q] ++ List.replicate m (.note "c" "") ++ [.note "f" p, .ref p, .note "c" q, .ref q, .ref p]
def links20 (p q : Str) (m : Nat) : List (Str × Nat) := [(p, 1), (p, 1), (p, 1), (p, 3), (q, 0), (p, 4 + m), (q, 5 + m), (p, 4 + m)]
def L20 : List Chn := [(["c"], "c"), (["c", "f"], "f")]
def ok20 (p q : Str) (m : Nat) : Bool := bookB cs20 (bk20 p q m) && ((bk20 p q m).all (fun x => nameS x.1) && decide (linksM (flat20 p q m) = links20 p q m))
def words20 (z : Str) : Bool := decide (rowText (.note "f" z) = ("note f " : Str) ++ z) && (decide (rowText (.note "c" z) = ("note c " : Str) ++ z) && decide (rowText (.ref z) = ("ref " : Str) ++ z))
theorem words20_all : names16.all words20 = true := by decide +kernel
theorem const20 : rowText (.put "fig") = "put fig" ∧ rowText (.opn "x") = "open x" ∧ rowText (.note "f" "") = "note f" ∧ rowText (.note "c" "") = "note c" ∧ partHead "fig" = "part fig" ∧ partHead "all" = "part all" ∧ cLine "c" "" = "counter c" ∧ cLine "f" "c" = "counter f under c" := by decide +kernel
theorem lines_eq {p q : Str} (hp : p ∈ names16) (hq : q ∈ names16) (m : Nat) : lines20 p q m = bookLines cs20 (bk20 p q m) := by
  have w : ∀ {z : Str}, z ∈ names16 → rowText (.note "f" z) = ("note f " : Str) ++ z ∧ rowText (.note "c" z) = ("note c " : Str) ++ z ∧ rowText (.ref z) = ("ref " : Str) ++ z := fun {z} hz => by
    have h := List.all_eq_true.mp words20_all z hz
    unfold words20 at h
    rw [Bool.and_eq_true, Bool.and_eq_true] at h
    exact ⟨of_decide_eq_true h.1, of_decide_eq_true h.2.1, of_decide_eq_true h.2.2⟩
  obtain ⟨p1, p2, p3⟩ := w hp
  obtain ⟨q1, q2, q3⟩ := w hq
  obtain ⟨c1, c2, c3, c4, c5, c6, c7, c8⟩ := const20
  unfold lines20 bookLines cs20 bk20 partLines
  simp only [List.map_cons, List.map_nil, List.flatMap_cons, List.flatMap_nil, List.map_append, List.map_replicate, p1, p3, q2, q3, c1, c2, c3, c4, c5, c6, c7, c8, List.cons_append, List.nil_append, List.append_nil, List.append_assoc]
theorem unr20 (p q : Str) : ∀ m, 1 ≤ m → m ≤ 3 → unrolled (bk20 p q m) = flat20 p q m
  | 0, h, _ => nomatch h
  | 1, _, _ => rfl
  | 2, _, _ => rfl
  | 3, _, _ => rfl
  | _ + 4, _, h => by omega
theorem lines_small {p q : Str} (hp : p ∈ names16) (hq : q ∈ names16) (m : Nat) : ∀ x ∈ lines20 p q m, x.length ≤ 30 := by
  have lp := (name_ok (names16_ok.2.2 p hp)).2
  have lq := (name_ok (names16_ok.2.2 q hq)).2
  have k : ∀ {s z : Str}, s.length ≤ 20 → z.length ≤ 4 → (s ++ z).length ≤ 30 := fun h1 h2 => by rw [strLen_append]; omega
  have c : (["counter c", "counter f under c", "part fig", "part all", "put fig", "open x", "note f", "note c"] : List Str).all (fun x => decide (x.length ≤ 30)) = true := by decide +kernel
  have c2 : ∀ z ∈ (["counter c", "counter f under c", "part fig", "part all", "put fig", "open x", "note f", "note c"] : List Str), z.length ≤ 30 := fun z hz => of_decide_eq_true (List.all_eq_true.mp c z hz)
  have l3 : ("note f " : Str).length ≤ 20 ∧ ("note c " : Str).length ≤ 20 ∧ ("ref " : Str).length ≤ 20 := by decide +kernel
  intro x hx
  unfold lines20 at hx
  rcases List.mem_append.mp hx with hx | hx
  · rcases List.mem_append.mp hx with hx | hx
    · rcases List.mem_append.mp hx with hx | hx
      · rcases List.mem_append.mp hx with hx | hx
        · simp only [List.mem_cons, List.not_mem_nil, or_false] at hx
          rcases hx with rfl | rfl | rfl | rfl | rfl | rfl | rfl
          · exact c2 _ (by simp)
          · exact c2 _ (by simp)
          · exact c2 _ (by simp)
          · exact k l3.1 lp
          · exact k l3.2.2 lp
          · exact c2 _ (by simp)
          · exact k l3.2.2 lp
        · simp only [List.mem_cons, List.not_mem_nil, or_false] at hx
          rcases hx with rfl | rfl | rfl | rfl | rfl | rfl
          · exact k l3.2.1 lq
          · exact c2 _ (by simp)
          · exact k l3.2.2 lp
          · exact c2 _ (by simp)
          · exact c2 _ (by simp)
          · exact c2 _ (by simp)
      · rw [List.mem_singleton.mp hx]
        exact k l3.2.2 lq
    · rw [(List.mem_replicate.mp hx).2]
      exact c2 _ (by simp)
  · simp only [List.mem_cons, List.not_mem_nil, or_false] at hx
    rcases hx with rfl | rfl | rfl | rfl
    · exact c2 _ (by simp)
    · exact k l3.2.1 lq
    · exact k l3.2.2 lq
    · exact k l3.2.2 lp
theorem lines_sum {p q : Str} (hp : p ∈ names16) (hq : q ∈ names16) {m : Nat} (hm : m ≤ 3) : ((lines20 p q m).map (·.length)).sum + (lines20 p q m).length * ("\n" : Str).length ≤ 16777216 := by
  have hs : ∀ l : List Str, (∀ x ∈ l, x.length ≤ 30) → (l.map (·.length)).sum ≤ 30 * l.length := by
    intro l
    induction l with
    | nil => intro _; exact Nat.le_refl _
    | cons a l ih =>
      intro h
      have q1 := ih fun x hx => h x (List.mem_cons_of_mem _ hx)
      have q2 := h a List.mem_cons_self
      rw [List.map_cons, List.sum_cons, List.length_cons]
      omega
  have h1 := hs _ (lines_small hp hq m)
  have h2 : (lines20 p q m).length ≤ 21 := by
    unfold lines20
    simp only [List.length_append, List.length_cons, List.length_nil, List.length_replicate]
    omega
  rw [show ("\n" : Str).length = 1 by decide +kernel]
  omega
theorem rep_flat {α : Type} (x : α) : ∀ m : Nat, (List.replicate m [x]).flatten = List.replicate m x
  | 0 => rfl
  | m + 1 => by rw [List.replicate_succ, List.flatten_cons, rep_flat x m, List.replicate_succ]; rfl
theorem read20 {p q : Str} (hp : p ∈ names16) (hq : q ∈ names16) {m : Nat} (ok : ok20 p q m = true) : ReadOk (Txt.join "\n" (lines20 p q m)) cs20 (bk20 p q m) := by
  unfold ok20 at ok
  rw [Bool.and_eq_true, Bool.and_eq_true] at ok
  obtain ⟨h1, h2⟩ := bookB_ok ok.1
  rw [lines_eq hp hq, lines_text]
  exact text_read h1 h2
/-! what the notes print, and the ends -/
def ds20 (k : Nat) : List FD := [("x", [.skip "f" k])]
def es20 : List FD := [("x", [.set "f" 7, .skip "c" 1])]
def rs20 (p q : Str) (m k : Nat) : List RowD := [.ref p, .note "c" q, .note "f" p, .ref p, .ref p, .skip "f" k, .note "f" "", .note "f" p, .ref p, .ref q] ++ List.replicate m (.note "c" "") ++ [.note "f" p, .ref p, .note "c" q, .ref q, .ref p]
def rt20 (p q : Str) (m : Nat) : List RowD := [.ref p, .note "c" q, .note "f" p, .ref p, .ref p, .set "f" 7, .skip "c" 1, .note "f" "", .note "f" p, .ref p, .ref q] ++ List.replicate m (.note "c" "") ++ [.note "f" p, .ref p, .note "c" q, .ref q, .ref p]
theorem fill20 (p q : Str) (k : Nat) : ∀ m, 1 ≤ m → m ≤ 3 → filledM (ds20 k) (flat20 p q m) = rs20 p q m k ∧ filledM es20 (flat20 p q m) = rt20 p q m
  | 0, h, _ => nomatch h
  | 1, _, _ => ⟨rfl, rfl⟩
  | 2, _, _ => ⟨rfl, rfl⟩
  | 3, _, _ => ⟨rfl, rfl⟩
  | _ + 4, _, h => by omega
def notes20 (m k : Nat) : List (Str × List Int) := ([("c", [1]), ("f", [1, 1]), ("f", [1, 1 + (k : Int) + 1]), ("f", [1, 1 + (k : Int) + 1 + 1])] : List (Str × List Int)) ++ ((List.range m).map fun i : Nat => (("c" : Str), [2 + (i : Int)])) ++ ([("f", [1 + (m : Int), 1]), ("c", [2 + (m : Int)])] : List (Str × List Int))
theorem play20 (p q : Str) (k : Nat) : ∀ m, 1 ≤ m → m ≤ 3 → notesM L20 (rs20 p q m k) = notes20 m k ∧ stAfter L20 (rs20 p q m k) = [(2 + (m : Int), 0), (0, 0)]
  | 0, h, _ => nomatch h
  | 1, _, _ => ⟨rfl, rfl⟩
  | 2, _, _ => ⟨rfl, rfl⟩
  | 3, _, _ => ⟨rfl, rfl⟩
  | _ + 4, _, h => by omega
theorem play20t (p q : Str) : ∀ m, 1 ≤ m → m ≤ 3 → (notesM L20 (rt20 p q m))[3]? = some (("f" : Str), ([2, 2] : List Int)) ∧ (notesM L20 (rt20 p q m)).length = 6 + m
  | 0, h, _ => nomatch h
  | 1, _, _ => ⟨rfl, rfl⟩
  | 2, _, _ => ⟨rfl, rfl⟩
  | 3, _, _ => ⟨rfl, rfl⟩
  | _ + 4, _, h => by omega
end Pn

namespace Pn
open PySem PySem.Spec PyProof.Rows L2 TL
set_option maxRecDepth 1000000 in
theorem ok20_all : names16.all (fun p => names16.all fun q => decide (p = q) || ([1, 2, 3] : List Nat).all fun m => ok20 p q m) = true := by decide +kernel
end Pn

namespace Pn
open PySem PySem.Spec PyProof.Rows L2 TL
/-! ### this book can be played -/
theorem chains20 : ChainsOf cs20 L20 := by
  refine .cons ⟨rfl, ["c"], .top (by simp [cs20]), by decide, rfl⟩ (.cons ⟨rfl, ["f", "c"], .up (u := "c") (by simp [cs20]) (by decide +kernel) (.top (by simp [cs20])), by decide, rfl⟩ .nil)
def noteB (r : RowD) : Bool := match r with
  | .note c _ => decide (c ∈ (["c", "f"] : List Str))
  | _ => true
theorem facts20 (p q : Str) (k : Nat) : ∀ m, 1 ≤ m → m ≤ 3 → opens (flat20 p q m) = [("x" : Str)] ∧ (rs20 p q m k).all noteB = true ∧ (rt20 p q m).all noteB = true
  | 0, h, _ => nomatch h
  | 1, _, _ => ⟨rfl, rfl, rfl⟩
  | 2, _, _ => ⟨rfl, rfl, rfl⟩
  | 3, _, _ => ⟨rfl, rfl, rfl⟩
  | _ + 4, _, h => by omega
theorem note_in {rs : List RowD} (h : rs.all noteB = true) {c l : Str} (hm : RowD.note c l ∈ rs) : c ∈ cs20.map (·.1) := by
  have q := List.all_eq_true.mp h _ hm
  have e : c ∈ (["c", "f"] : List Str) := of_decide_eq_true q
  exact e
theorem links_small (p q : Str) (m : Nat) : ∀ x ∈ links20 p q m, x.2 < 6 + m := by
  intro x hx
  unfold links20 at hx
  simp only [List.mem_cons, List.not_mem_nil, or_false] at hx
  rcases hx with rfl | rfl | rfl | rfl | rfl | rfl | rfl | rfl <;> (show _ < 6 + m; omega)
theorem flat_len (p q : Str) (m : Nat) : (flat20 p q m).length = 15 + m := by
  unfold flat20
  simp only [List.length_append, List.length_cons, List.length_nil, List.length_replicate]
  omega
theorem skip_fil {k : Nat} (h1 : 1 ≤ k) (h2 : k ≤ 9) : filOk (ds20 k) := by
  refine ⟨by show 1 ≤ 60; decide, fun d hd => ?_⟩
  rw [List.mem_singleton.mp hd]
  refine ⟨(by decide +kernel : nameS "x" = true), by show 1 ≤ 100; decide, fun r hr => ?_⟩
  rw [List.mem_singleton.mp hr]
  exact ⟨(by decide +kernel : nameS "f" = true), h1, Nat.lt_of_le_of_lt h2 (by decide)⟩
theorem set_fil : filOk es20 := by
  refine ⟨by show 1 ≤ 60; decide, fun d hd => ?_⟩
  rw [List.mem_singleton.mp hd]
  refine ⟨(by decide +kernel : nameS "x" = true), by show 2 ≤ 100; decide, fun r hr => ?_⟩
  rcases List.mem_cons.mp hr with rfl | hr
  · exact ⟨(by decide +kernel : nameS "f" = true), by decide⟩
  · rw [List.mem_singleton.mp hr]
    exact ⟨(by decide +kernel : nameS "c" = true), by decide, by decide⟩
theorem good_c {c : Str} (h : c ∈ (["c", "f"] : List Str)) {r : RowD} (e : cntOf r = some c) : goodC cs20 r := ⟨c, e, h⟩
theorem plays_of {p q : Str} {m : Nat} {ds : List FD} {rs : List RowD} (hm1 : 1 ≤ m) (hm3 : m ≤ 3) (ok : ok20 p q m = true) (fo : filOk ds) (nd : (ds.map (·.1)).Nodup) (hr : ∀ r ∈ rowsFor ds "x", goodC cs20 r) (ef : filledM ds (flat20 p q m) = rs) (hn : rs.all noteB = true) (hl : (notesM L20 rs).length = 6 + m) (hb : rs.length ≤ 4000) :
    Plays cs20 (bk20 p q m) ds L20 := by
  unfold ok20 at ok
  rw [Bool.and_eq_true, Bool.and_eq_true] at ok
  obtain ⟨okV, _⟩ := bookB_ok ok.1
  have lk : linksM (flat20 p q m) = links20 p q m := of_decide_eq_true ok.2.2
  have eu := unr20 p q m hm1 hm3
  obtain ⟨eo, _, _⟩ := facts20 p q 0 m hm1 hm3
  refine { ok := okV.c, ch := chains20, fo := fo, nd := nd, len := ?_, few := ?_, cl := (by show 2 ≤ 100; decide), opn := ?_, lab := ?_, notes := ?_, refs := ?_, big := ?_, lk := ?_ }
  · rw [eu, flat_len]; omega
  · rw [eu, eo]; decide +kernel
  · rw [eu, eo]
    intro z hz
    rw [List.mem_singleton.mp hz]
    exact ⟨by decide +kernel, hr⟩
  · intro l h
    obtain ⟨c, hc⟩ := okV.refs l h
    exact List.mem_filterMap.mpr ⟨_, hc, rfl⟩
  · rw [eu, ef]
    exact fun c l h => note_in hn h
  · rw [eu, ef, lk, hl]
    exact links_small p q m
  · rw [eu, ef]
    exact hb
  · rw [eu, lk]
    show 8 ≤ 1000
    decide
theorem plays20 {p q : Str} {m k : Nat} (hm1 : 1 ≤ m) (hm3 : m ≤ 3) (h1 : 1 ≤ k) (h2 : k ≤ 9) (ok : ok20 p q m = true) : Plays cs20 (bk20 p q m) (ds20 k) L20 := by
  refine plays_of hm1 hm3 ok (skip_fil h1 h2) (show ([("x" : Str)] : List Str).Nodup by decide +kernel) ?_ (fill20 p q k m hm1 hm3).1 (facts20 p q k m hm1 hm3).2.1 ?_ ?_
  · have e : rowsFor (ds20 k) "x" = [.skip "f" k] := rfl
    rw [e]
    intro r hr
    rw [List.mem_singleton.mp hr]
    exact good_c (by simp) rfl
  · rw [(play20 p q k m hm1 hm3).1]
    unfold notes20
    simp only [List.length_append, List.length_cons, List.length_nil, List.length_map, List.length_range]
    omega
  · unfold rs20
    simp only [List.length_append, List.length_cons, List.length_nil, List.length_replicate]
    omega
theorem plays20t {p q : Str} {m : Nat} (hm1 : 1 ≤ m) (hm3 : m ≤ 3) (ok : ok20 p q m = true) : Plays cs20 (bk20 p q m) es20 L20 := by
  refine plays_of hm1 hm3 ok set_fil (by decide +kernel) ?_ (fill20 p q 0 m hm1 hm3).2 (facts20 p q 0 m hm1 hm3).2.2 (play20t p q m hm1 hm3).2 ?_
  · have e : rowsFor es20 "x" = [.set "f" 7, .skip "c" 1] := rfl
    rw [e]
    intro r hr
    rcases List.mem_cons.mp hr with rfl | hr
    · exact good_c (by simp) rfl
    · rw [List.mem_singleton.mp hr]
      exact good_c (by simp) rfl
  · unfold rt20
    simp only [List.length_append, List.length_cons, List.length_nil, List.length_replicate]
    omega
theorem ok20_at {p q : Str} (hp : p ∈ names16) (hq : q ∈ names16) (ne : p ≠ q) {m : Nat} (hm1 : 1 ≤ m) (hm3 : m ≤ 3) : ok20 p q m = true := by
  have h := List.all_eq_true.mp (List.all_eq_true.mp ok20_all p hp) q hq
  rw [Bool.or_eq_true, decide_eq_true_iff] at h
  rcases h with h | h
  · exact absurd h ne
  · refine List.all_eq_true.mp h m ?_
    simp only [List.mem_cons, List.not_mem_nil, or_false]
    omega
/-! what the law asks -/
def due20 (p q : Str) (m k : Nat) : List (Str × Nat × List Int) := [(p, 1, [1, 1]), (p, 1, [1, 1]), (p, 1, [1, 1]), (p, 3, [1, 3 + (k : Int)]), (q, 0, [1]), (p, 4 + m, [1 + (m : Int), 1]), (q, 5 + m, [2 + (m : Int)]), (p, 4 + m, [1 + (m : Int), 1])]
theorem refs20 (p q : Str) (k : Nat) : ∀ m, 1 ≤ m → m ≤ 3 → refsM (links20 p q m) (notes20 m k) = due20 p q m k := by
  have e : 1 + (k : Int) + 1 + 1 = 3 + (k : Int) := by omega
  intro m h1 h3
  unfold notes20 due20
  rw [e]
  match m, h1, h3 with
  | 1, _, _ => rfl
  | 2, _, _ => rfl
  | 3, _, _ => rfl
  | _ + 4, _, h => omega
theorem refs20t (p q : Str) (m : Nat) (h1 : 1 ≤ m) (h3 : m ≤ 3) : (refsM (links20 p q m) (notesM L20 (rt20 p q m)))[3]? = some (p, 3, [2, 2]) := by
  unfold refsM links20
  simp only [List.map_cons, List.getElem?_cons_succ, List.getElem?_cons_zero, (play20t p q m h1 h3).1]
  rfl
end Pn

namespace Pn
open PySem PySem.Spec PyProof.Rows L2 TL
theorem Paired.right_at {α β : Type} {R : α → β → Prop} : ∀ {l : List α} {m : List β} {i : Nat} {y : β}, Paired R l m → m[i]? = some y → ∃ x, l[i]? = some x ∧ R x y
  | _, _, _, _, .nil, h => nomatch h
  | _, _, 0, _, .cons a _, h => by
    cases h
    exact ⟨_, rfl, a⟩
  | _, _, i + 1, _, .cons _ b, h => Paired.right_at b (i := i) h
/-! ### what play leaves, as data -/
def refD (x : Str × Nat × List Int) : PyData := .tuple [.str x.1, .int (x.2.1 : Int), .tuple (x.2.2.map PyData.int)]
def endD (s : Int × Int) : PyData := .tuple [.int s.1, .int s.2]
section
variable {K : PySem.W.Frag} {H : Hp}
theorem dp_ints : ∀ l : List Int, DpAll K H (l.map V.int) (l.map PyData.int)
  | [] => .nil
  | i :: l => .cons (.int i) (dp_ints l)
theorem ref_dp {t : Addr} {x : Str × Nat × List Int} (h : RefOutAt K H t x) : Dp K H (.ref t) (refD x) := by
  obtain ⟨p, a, b⟩ := h
  exact .tup a (.cons (.str _) (.cons (.int _) (.cons (.tup b (dp_ints _)) .nil)))
theorem refs_dp {ts : List Addr} {xs : List (Str × Nat × List Int)} (h : Paired (RefOutAt K H) ts xs) : DpAll K H (ts.map V.ref) (xs.map refD) := by
  induction h with
  | nil => exact .nil
  | cons a b ih => exact .cons (ref_dp a) ih
theorem ends_dp {ts : List Addr} {xs : List (Int × Int)} (h : Paired (EndOutAt K H) ts xs) : DpAll K H (ts.map V.ref) (xs.map endD) := by
  induction h with
  | nil => exact .nil
  | cons a b ih => exact .cons (.tup a (.cons (.int _) (.cons (.int _) .nil))) ih
end
theorem lay_ints : ∀ l : List Int, PyData.canLayAll0 (l.map PyData.int) = true ∧ PyData.depthAll (l.map PyData.int) ≤ 1
  | [] => by simp [PyData.canLayAll0, PyData.depthAll]
  | i :: l => by
    have h := lay_ints l
    simp only [List.map_cons, PyData.canLayAll0, PyData.canLay0, PyData.depthAll, PyData.depth, h.1, Bool.and_true, true_and]
    have := h.2
    omega
theorem lay_ref {x : Str × Nat × List Int} (h : PyData.strOk x.1 = true) : PyData.canLay0 (refD x) = true ∧ PyData.depth (refD x) ≤ 3 := by
  have q := lay_ints x.2.2
  unfold refD
  simp only [PyData.canLayAll0, PyData.canLay0, PyData.depthAll, PyData.depth, q.1, h, Bool.and_true, true_and]
  have := q.2
  omega
theorem lay_refs : ∀ {xs : List (Str × Nat × List Int)}, (∀ x ∈ xs, PyData.strOk x.1 = true) → PyData.canLayAll0 (xs.map refD) = true ∧ PyData.depthAll (xs.map refD) ≤ 3
  | [], _ => by simp [PyData.canLayAll0, PyData.depthAll]
  | x :: xs, h => by
    have a := lay_ref (h x List.mem_cons_self)
    have b := lay_refs (xs := xs) fun y hy => h y (List.mem_cons_of_mem _ hy)
    simp only [List.map_cons, PyData.canLayAll0, PyData.depthAll, a.1, b.1, Bool.and_true, true_and]
    have := a.2
    have := b.2
    omega
theorem lay_ends : ∀ xs : List (Int × Int), PyData.canLayAll0 (xs.map endD) = true ∧ PyData.depthAll (xs.map endD) ≤ 2
  | [] => by simp [PyData.canLayAll0, PyData.depthAll]
  | x :: xs => by
    have b := lay_ends xs
    simp only [List.map_cons, endD, PyData.canLayAll0, PyData.canLay0, PyData.depthAll, PyData.depth, b.1, Bool.and_true, true_and]
    have := b.2
    omega
theorem sh_refs {xs : List (Str × Nat × List Int)} (h : ∀ x ∈ xs, PyData.strOk x.1 = true) : SeqAt.shaped (.list (xs.map refD)) = true := by
  have q := lay_refs h
  refine Bool.and_eq_true_iff.mpr ⟨by simp only [PyData.canLay0]; exact q.1, decide_eq_true ?_⟩
  have := q.2
  simp only [PyData.depth]
  omega
theorem sh_ends (xs : List (Int × Int)) : SeqAt.shaped (.tuple (xs.map endD)) = true := by
  have q := lay_ends xs
  refine Bool.and_eq_true_iff.mpr ⟨by simp only [PyData.canLay0]; exact q.1, decide_eq_true ?_⟩
  have := q.2
  simp only [PyData.depth]
  omega
theorem sh_ref {x : Str × Nat × List Int} (h : PyData.strOk x.1 = true) : SeqAt.shaped (refD x) = true := by
  have q := lay_ref h
  exact Bool.and_eq_true_iff.mpr ⟨q.1, decide_eq_true (Nat.le_trans q.2 (by decide))⟩
/-- a != b of the same data -/
theorem ne_data {K : PySem.W.Frag} {H : Hp} {x y : V} {d : PyData} {Q : VK} (hx : Dp K H x d) (hy : Dp K H y d) (sh : SeqAt.shaped d = true) (q : Q (.bl false) H) : rNeD K x y H Q := by
  refine ⟨d, d, hx, hy, sh, sh, ?_⟩
  rw [SeqAt.eqv_refl d (SeqAt.canLay_of_shaped sh)]
  exact q
section
variable {K : PySem.W.Frag} {H : Hp}
/-- (text, number, (numbers)) is laid -/
theorem ref_lay {z : Str} {nI : Int} {xs : List V} {G : Addr → Addr → Prop} (n : Nat) (is : List Int) (hn : nI = (n : Int)) (hx : xs = is.map V.int) (h3 : xs.length ≤ 3) (q : ∀ p t H', H' = upd (upd H p (.tup xs)) t (.tup [.str z, .int nI, .ref p]) → Same H H' → RefOutAt K H' t (z, n, is) → G p t) :
    xs.length ≤ sizeLine ∧ ∀ p, H p = none → ([V.str z, V.int nI, V.ref p] : List V).length ≤ sizeLine ∧ ∀ t, upd H p (.tup xs) t = none → G p t := by
  refine ⟨Nat.le_trans h3 (by decide), fun p hp => ⟨by show 3 ≤ sizeLine; decide, fun t ht => ?_⟩⟩
  subst hn hx
  have s2 := Same.new (o := .tup [.str z, .int (n : Int), .ref p]) ht
  exact q p t _ rfl ((Same.new hp).trans s2) ⟨p, SqT.of upd_same, SqT.of (s2 _ _ upd_same)⟩
/-- Filling([("x", rows)]) -/
theorem fil_one {mg : Str → Option Value} {R : TRows K mg} (T : TFill R) {CF : Addr} {Q : Addr → Hp → Prop} {E : XK} {o t l : Addr} {z : Str} {us : List Addr} {rs : List RowD} (ho : H o = some (.lst [.ref t])) (ht : H t = some (.tup [.str z, .ref l])) (hl : H l = some (.lst (us.map V.ref))) (hz : nameS z = true)
    (hus : Paired (fun u r => RowAt R H u r) us rs) (hf : ∀ r ∈ rs, fillB r = true) (hn : rs.length ≤ 1000) (ne : rs ≠ []) (q : ∀ (x : Addr) (H2 : Hp), Same H H2 → FilI T H2 x [(z, rs)] → Q x H2) :
    ∀ x dx, H x = none → H dx = none → dx ≠ x → spFInit R T.C CF (.ref x :: ([V.ref o] ++ [])) (upd (upd H dx (.own x)) x (.ins T.C dx [])) (fun v H2 => v = .non ∧ Q x H2) E := by
  intro x dx hx hdx nex
  have s1 : Same H (upd (upd H dx (.own x)) x (.ins T.C dx [])) := ins_same2 hx hdx
  refine ⟨x, dx, .ref o, rfl, upd_same, .inr (.inr (.inr ⟨o, [t], [(z, l, rs)], rfl, .inl (SqL.of (s1 _ _ ho)), .cons ⟨SqT.of (s1 _ _ ht), hz, us, .inl (SqL.of (s1 _ _ hl)), paired_mono (fun _ _ w => w.same s1) hus, hf, hn⟩ .nil, by show 1 ≤ 60; decide, by simp, fun tp H2 kp hF hi => ⟨rfl, ?_⟩⟩))⟩
  obtain ⟨ds, h1, h2, _, h4⟩ := filI_of T hi hF (by simp)
  have ef : ([((z, l, rs) : FilD)].filter fun c => decide (c.2.2 ≠ [])).map (·.1) = [z] := by
    rw [List.filter_cons_of_pos (by simpa using ne)]
    rfl
  rw [ef] at h2
  have eu : uniq [z] = [z] := rfl
  rw [eu, List.perm_singleton] at h2
  have ed : ds = [(z, rs)] := by
    match ds, h2, h4 with
    | [d], h2, h4 =>
      obtain ⟨c, hc, e1, e2⟩ := h4 d List.mem_cons_self
      rw [List.mem_singleton.mp hc] at e1 e2
      obtain ⟨d1, d2⟩ := d
      have e1 : z = d1 := e1
      have e2 : rs = d2 := e2
      rw [e1, e2]
  rw [ed] at h1
  exact q x H2 (kpi_same2 hx hdx kp) h1
end
end Pn

namespace Pn
open PySem PySem.Spec PyProof.Rows L2 TL
abbrev sLaw20 : Stmt := top 79
theorem passX0 {P : Program} {w : World} {X : Cx} : Passes (L2.CX P w) X E0 := fun _ _ _ _ _ _ _ ⟨_, _, _, _, _, _, _, _, _, _, _, _, h⟩ => h.elim
theorem room64 {k : Nat} {A : Around} (r : Room k A) : A.units + 64 < PySem.cLine := by have := r.un; omega
section
variable {P : Program} {w : World} {K : PySem.W.Frag} {mg : Str → Option Value} {base : Heap}
structure TK20 (K : PySem.W.Frag) (mg : Str → Option Value) : Type where
  D : TDealN K mg
  Rd : TRead K mg
  P : TPart Rd.R
  B : TBk P
  rd : TBRead Rd B
  F : TFill Rd.R
  FM : TFilM F
  FE : TFilE FM
  N : TNum4 (B := B) FE
  mR : mg "range" = none
abbrev TK20.R (T : TK20 K mg) : TRows K mg := T.Rd.R
def spLaw20 (K : PySem.W.Frag) : Sp := fun vs H Q _ => ∃ (a : Addr) (ns : List Int), vs = [.ref a] ∧ SqL K H a (ns.map V.int) ∧ ns.length ≤ 63 ∧ ∀ H', Q (.bl true) H'
theorem scLaw20 : FnScope ["_law_script", "_law_deal_here", "_law_turn", "_law_p", "_law_q", "_law_many", "_law_lines", "_law_book_one", "_law_k", "_law_found", "_law_due"] ["_law_script"] (defScope sLaw20) := ⟨rfl, rfl, rfl, by decide +kernel, rfl, by decide +kernel, by decide +kernel⟩
theorem stepEndB {tt : TT} {A : TS} {D : Ends} {σ : L2.St} {H : Hp} (G : Hp → Prop) (h1 : ∀ Q : Bool → Hp → Prop, (∀ H', G H' → Q false H') → tt σ H Q) (h2 : ∀ H', G H' → D.nx σ H') : tIfS tt A tNext D σ H := h1 _ fun H' g => by
  rw [if_neg Bool.false_ne_true]
  exact h2 H' g
theorem book_hh {R : TRows K mg} {T : TPart R} {B : TBk T} {H : Hp} {d g a : Addr} {cs : List (Str × Str)} {bk : List PartD} (hD : DealAt H d g) (h : BookAt B H a cs bk) : BookAt B (hh H d g) a cs bk := by
  obtain ⟨ne, xs, m, h1, h2, _⟩ := hD
  exact book_hid (hid_get h2 ne.symm) (book_hid h1 h)
theorem ok_law20 (T : TK20 K mg) {f : Addr} {fd : FuncData} (F : Fun K "law" "law" sLaw20 f fd) : FnOk P w K mg base CX0 14 f fd ["_law_script"] (spLaw20 K) := by
  refine F.ok scLaw20 (fun vs H Q E h => ?_) (fun cdv A outer s H vs Q E hr h => ?_)
  · obtain ⟨a, ns, rfl, _⟩ := h
    rfl
  · obtain ⟨a, ns, rfl, hS, hl, q⟩ := h
    refine ⟨_, (pss_cons (ps_set (i := 1) scLaw20.nd rfl (Or.inl rfl) (pe_call T.D.okDeal (hr.mono (by decide)) rfl T.D.deal.m T.D.deal.F.kp T.D.deal.b .nil pass0 (pa_cons (pv 0) pa_nil)))
(pss_cons (ps_for PassesOwn.never rfl (pi_range1 (by rfl) T.mR (pa_cons pe_int pa_nil)) (pg_name (i := 2) scLaw20.nd rfl (Or.inl rfl))
(pss_cons (ps_asg (pe_call T.D.okNames (hr.mono (by decide)) rfl T.D.names.m T.D.names.F.kp T.D.names.b .nil pass0 (pa_cons (pv 1) (pa_cons pe_int pa_nil))) (pg_lst (by rfl) (pgs_cons (pg_name (i := 3) scLaw20.nd rfl (Or.inl rfl)) (pgs_cons (pg_name (i := 4) scLaw20.nd rfl (Or.inl rfl)) pgs_nil))))
(pss_cons (ps_set (i := 5) scLaw20.nd rfl (Or.inl rfl) (pe_op op_add pe_int (pe_call T.D.okDraw (hr.mono (by decide)) rfl T.D.draw.m T.D.draw.F.kp T.D.draw.b .nil pass0 (pa_cons (pv 1) (pa_cons pe_int pa_nil)))))
(pss_cons (ps_set (i := 6) scLaw20.nd rfl (Or.inl rfl) (pe_lst (pa_cons pe_str (pa_cons pe_str (pa_cons pe_str (pa_cons (pe_op op_add_str pe_str (pv 3)) (pa_cons (pe_op op_add_str pe_str (pv 3)) (pa_cons pe_str (pa_cons (pe_op op_add_str pe_str (pv 3)) pa_nil)))))))))
(pss_cons (ps_set (i := 6) scLaw20.nd rfl (Or.inl rfl) (pe_op op_cat (pe_op op_cat (pv 6) (pe_lst (pa_cons (pe_op op_add_str pe_str (pv 4)) (pa_cons pe_str (pa_cons (pe_op op_add_str pe_str (pv 3)) (pa_cons pe_str (pa_cons pe_str (pa_cons pe_str pa_nil)))))))) (pe_lst (pa_cons (pe_op op_add_str pe_str (pv 4)) pa_nil))))
(pss_cons (ps_set (i := 6) scLaw20.nd rfl (Or.inl rfl) (pe_op op_cat (pe_op op_cat (pv 6) (pe_op op_rep (pe_lst (pa_cons pe_str pa_nil)) (pv 5))) (pe_lst (pa_cons pe_str (pa_cons (pe_op op_add_str pe_str (pv 4)) (pa_cons (pe_op op_add_str pe_str (pv 4)) (pa_cons (pe_op op_add_str pe_str (pv 3)) pa_nil)))))))
(pss_cons (ps_par (i := 7) (j := 8) (by rfl) scLaw20.nd rfl rfl (by decide) rfl rfl (pa_cons (ClX.pe_cmeth (pe_glob (v := .ref T.B.C) (by rfl) T.B.mC rfl) T.rd.cr T.rd.cm ((ok_bRead T.rd).raw T.rd.bR .nil) (hr.mono (by decide)) pass0 (pa_cons (pe_join pe_str (pv 6)) pa_nil)) (pa_cons (pe_op op_add pe_int (pe_call T.D.okDraw (hr.mono (by decide)) rfl T.D.draw.m T.D.draw.F.kp T.D.draw.b .nil pass0 (pa_cons (pv 1) (pa_cons pe_int pa_nil)))) pa_nil)) (by rfl))
(pss_cons (ps_set (i := 9) scLaw20.nd rfl (Or.inl rfl) (pe_call (ok_play T.N) (hr.mono (by decide)) rfl T.N.play.m T.N.play.F.kp T.N.play.b .nil pass0 (pa_cons (pv 7) (pa_cons (pe_make T.F.M (okFInit T.F) (hr.mono (by decide)) rfl T.F.mC T.F.bI .nil passX0 (pa_cons (pe_lst (pa_cons (pe_tup (pa_cons pe_str (pa_cons (pe_lst (pa_cons (pe_make T.R.skip.M (okSkipInit T.R.skip T.R.N) (hr.mono (by decide)) rfl T.R.skip.m T.R.skip.b .nil passN0 (pa_cons pe_str (pa_cons (pv 8) pa_nil))) pa_nil)) pa_nil))) pa_nil)) pa_nil)) pa_nil))))
(pss_cons (ps_set (i := 10) scLaw20.nd rfl (Or.inl rfl) (pe_lst (pa_cons (pe_tup (pa_cons (pv 3) (pa_cons pe_int (pa_cons (pe_tup (pa_cons pe_int (pa_cons pe_int pa_nil))) pa_nil)))) (pa_cons (pe_tup (pa_cons (pv 3) (pa_cons pe_int (pa_cons (pe_tup (pa_cons pe_int (pa_cons pe_int pa_nil))) pa_nil)))) (pa_cons (pe_tup (pa_cons (pv 3) (pa_cons pe_int (pa_cons (pe_tup (pa_cons pe_int (pa_cons pe_int pa_nil))) pa_nil)))) (pa_cons (pe_tup (pa_cons (pv 3) (pa_cons pe_int (pa_cons (pe_tup (pa_cons pe_int (pa_cons (pe_op op_add pe_int (pv 8)) pa_nil))) pa_nil)))) (pa_cons (pe_tup (pa_cons (pv 4) (pa_cons pe_int (pa_cons (pe_tup (pa_cons pe_int pa_nil)) pa_nil)))) pa_nil)))))))
(pss_cons (ps_set (i := 10) scLaw20.nd rfl (Or.inl rfl) (pe_op op_cat (pv 10) (pe_lst (pa_cons (pe_tup (pa_cons (pv 3) (pa_cons (pe_op op_add pe_int (pv 5)) (pa_cons (pe_tup (pa_cons (pe_op op_add pe_int (pv 5)) (pa_cons pe_int pa_nil))) pa_nil)))) (pa_cons (pe_tup (pa_cons (pv 4) (pa_cons (pe_op op_add pe_int (pv 5)) (pa_cons (pe_tup (pa_cons (pe_op op_add pe_int (pv 5)) pa_nil)) pa_nil)))) (pa_cons (pe_tup (pa_cons (pv 3) (pa_cons (pe_op op_add pe_int (pv 5)) (pa_cons (pe_tup (pa_cons (pe_op op_add pe_int (pv 5)) (pa_cons pe_int pa_nil))) pa_nil)))) pa_nil))))))
(pss_cons (ps_if (PW.pt (pw_or (pt_cmpR (op_neD (room64 hr)) (pe_callTy call_list_of (by rfl) T.P.mList (by decide +kernel) (pa_cons (pe_fld (pv 9) rfl) pa_nil)) (pv 10) (nomark _)) (pw_or1 (pt_cmpR (op_neD (room64 hr)) (pe_fld (pv 9) rfl) (pe_tup (pa_cons (pe_tup (pa_cons (pe_op op_add pe_int (pv 5)) (pa_cons pe_int pa_nil))) (pa_cons (pe_tup (pa_cons pe_int (pa_cons pe_int pa_nil))) pa_nil))) (nomark _))))) (pss_one (ps_ret pe_bl)) pss_nil)
(pss_one (ps_if (pt_cmpR (op_neD (room64 hr)) (pe_ix ix_tup (pe_fld (pe_call (ok_play T.N) (hr.mono (by decide)) rfl T.N.play.m T.N.play.F.kp T.N.play.b .nil pass0 (pa_cons (pv 7) (pa_cons (pe_make T.F.M (okFInit T.F) (hr.mono (by decide)) rfl T.F.mC T.F.bI .nil passX0 (pa_cons (pe_lst (pa_cons (pe_tup (pa_cons pe_str (pa_cons (pe_lst (pa_cons (pe_make T.R.set.M (okSetInit T.R.set T.R.N) (hr.mono (by decide)) rfl T.R.set.m T.R.set.b .nil passN0 (pa_cons pe_str (pa_cons pe_int pa_nil))) (pa_cons (pe_make T.R.skip.M (okSkipInit T.R.skip T.R.N) (hr.mono (by decide)) rfl T.R.skip.m T.R.skip.b .nil passN0 (pa_cons pe_str (pa_cons pe_int pa_nil))) pa_nil))) pa_nil))) pa_nil)) pa_nil)) pa_nil))) rfl) pe_int (fun _ _ => rfl)) (pe_tup (pa_cons (pv 3) (pa_cons pe_int (pa_cons (pe_tup (pa_cons pe_int (pa_cons pe_int pa_nil))) pa_nil)))) (nomark _)) (pss_one (ps_ret pe_bl)) pss_nil)))))))))))))
(pss_one (ps_ret pe_bl)))), ?_⟩
    have one : 1 ≤ sizeLine := by decide
    have two : 2 ≤ sizeLine := by decide
    have three : 3 ≤ sizeLine := by decide
    have seven : 7 ≤ sizeLine := by decide
    refine stepSet (fun v H' => ∃ d g, v = .ref d ∧ DealAt H' d g) (fun Q' hQ => ⟨_, rfl, a, ns, rfl, hS, hl, fun d g H' hD _ => hQ _ _ ⟨d, g, rfl, hD⟩⟩) (fun v H1 hC => ?r1)
    case r1 =>
    obtain ⟨d, g, rfl, hD1⟩ := hC
    try dsimp only [List.set]
    refine ⟨_, rfl, by decide, by decide, for_range (lo := 0) (n := 4) (fun j σ Hc => ∃ y2 y3 y4 y5 y6 y7 y8 y9 y10, σ = [some (.ref a), some (.ref d), y2, y3, y4, y5, y6, y7, y8, y9, y10] ∧ DealAt Hc d g) ⟨_, _, _, _, _, _, _, _, _, rfl, hD1⟩ (fun j σ Hc hj hP => ?turn) (fun σ Hc hP => ?fin)⟩
    case fin =>
      exact q _
    case turn =>
    obtain ⟨y2, y3, y4, y5, y6, y7, y8, y9, y10, rfl, hDc⟩ := hP
    try dsimp only [List.set]
    refine ⟨_, rfl, d, g, 2, rfl, hDc, by decide, fun l zs H2 nd hz hl2 hD2 s2 m2 hl => ?_⟩
    obtain ⟨p, q0, rfl⟩ : ∃ p q0, zs = [p, q0] := by
      match zs, hl2 with
      | [p, q0], _ => exact ⟨p, q0, rfl⟩
    have hp := hz p (by simp)
    have hq := hz q0 (by simp)
    have npq : p ≠ q0 := by
      intro e
      rw [e] at nd
      simp at nd
    refine ⟨l, _, rfl, SqL.of (hh_sub _ _ hl), rfl, _, _, rfl, _, _, rfl, rfl, ?_⟩
    clear s2 m2 hl hz hl2 nd
    try dsimp only [List.set]
    refine stepSet (fun v H' => ∃ m : Nat, v = .int (m : Int) ∧ 1 ≤ m ∧ m ≤ 3 ∧ DealAt H' d g) (fun Q' hQ => ⟨_, rfl, d, g, 3, rfl, hD2, by decide, by decide, fun r H' r0 r1 hD' _ _ => ⟨_, _, rfl, rfl, hQ _ _ ⟨(1 + r).toNat, congrArg V.int (by omega), by omega, by omega, hD'⟩⟩⟩) (fun v H3 hC => ?r3)
    case r3 =>
    obtain ⟨m, rfl, hm1, hm3, hD3⟩ := hC
    have lenS : ∀ {s z : Str}, z ∈ names16 → s.length ≤ 20 → s.length + z.length ≤ sizeLine := fun {s z} hzn hs => by
      have h4 := (name_ok (names16_ok.2.2 z hzn)).2
      exact Nat.le_trans (Nat.add_le_add hs h4) (by decide)
    have len7 : ("note f " : Str).length ≤ 20 ∧ ("note c " : Str).length ≤ 20 ∧ ("ref " : Str).length ≤ 20 := by decide +kernel
    try dsimp only [List.set]
    refine stepSet (fun v H' => ∃ l1 : Addr, v = .ref l1 ∧ Same H3 H' ∧ H' l1 = some (.lst (([("counter c" : Str), "counter f under c", "part fig", ("note f " : Str) ++ p, ("ref " : Str) ++ p, "part all", ("ref " : Str) ++ p] : List Str).map V.str))) (fun Q' hQ => ⟨_, rfl, _, _, rfl, rfl, lenS hp len7.1, _, rfl, _, _, rfl, rfl, lenS hp len7.2.2, _, rfl, _, _, rfl, rfl, lenS hp len7.2.2, seven, fun l1 h1 => hQ _ _ ⟨l1, rfl, Same.new h1, upd_same⟩⟩) (fun v H4 hC => ?r4)
    case r4 =>
    obtain ⟨l1, rfl, s34, hl1⟩ := hC
    try dsimp only [List.set]
    refine stepSet (fun v H' => ∃ l2 : Addr, v = .ref l2 ∧ Same H4 H' ∧ H' l2 = some (.lst (((([("counter c" : Str), "counter f under c", "part fig", ("note f " : Str) ++ p, ("ref " : Str) ++ p, "part all", ("ref " : Str) ++ p] : List Str) ++ ([("note c " : Str) ++ q0, "put fig", ("ref " : Str) ++ p, "open x", "note f", "put fig"] : List Str)) ++ ([("ref " : Str) ++ q0] : List Str)).map V.str))) (fun Q' hQ => ?c5) (fun v H5 hC => ?r5)
    case c5 =>
      refine ⟨_, rfl, _, rfl, _, _, rfl, rfl, lenS hq len7.2.1, _, rfl, _, _, rfl, rfl, lenS hp len7.2.2, (by decide : 6 ≤ sizeLine), fun a1 h1 => ?_⟩
      refine ⟨l1, a1, _, _, rfl, rfl, Same.new h1 _ _ hl1, upd_same, (by decide : 13 ≤ sizeLine), fun a2 h2 => ?_⟩
      refine ⟨_, rfl, _, _, rfl, rfl, lenS hq len7.2.2, one, fun a3 h3 => ?_⟩
      refine ⟨a2, a3, _, _, rfl, rfl, Same.new h3 _ _ upd_same, upd_same, (by decide : 14 ≤ sizeLine), fun a4 h4 => hQ _ _ ⟨a4, rfl, ((((Same.new h1).trans (Same.new h2)).trans (Same.new h3)).trans (Same.new h4)), by rw [List.map_append, List.map_append]; exact upd_same⟩⟩
    case r5 =>
    obtain ⟨l2, rfl, s45, hl2⟩ := hC
    clear hl1
    try dsimp only [List.set]
    refine stepSet (fun v H' => ∃ l3 : Addr, v = .ref l3 ∧ Same H5 H' ∧ H' l3 = some (.lst ((lines20 p q0 m).map V.str))) (fun Q' hQ => ?c6) (fun v H6 hC => ?r6)
    case c6 =>
      refine ⟨_, rfl, one, fun a1 h1 => ⟨_, rfl, a1, (m : Int), _, rfl, rfl, upd_same, by omega, by omega, (by rw [Int.toNat_natCast, List.length_singleton]; exact Nat.le_trans (by omega) three), fun a2 h2 => ?_⟩⟩
      have sb := (Same.new (o := .lst [.str "note c"]) h1).trans (Same.new (o := .lst (List.replicate (m : Int).toNat [V.str "note c"]).flatten) h2)
      refine ⟨l2, a2, _, _, rfl, rfl, sb _ _ hl2, upd_same, ?_, fun a3 h3 => ?_⟩
      · rw [Int.toNat_natCast, rep_flat, List.length_replicate, List.length_map]
        exact Nat.le_trans (Nat.add_le_add_left hm3 _) (by decide : 17 ≤ sizeLine)
      refine ⟨_, rfl, _, _, rfl, rfl, lenS hq len7.2.1, _, rfl, _, _, rfl, rfl, lenS hq len7.2.2, _, rfl, _, _, rfl, rfl, lenS hp len7.2.2, (by decide : 4 ≤ sizeLine), fun a4 h4 => ?_⟩
      refine ⟨a3, a4, _, _, rfl, rfl, Same.new h4 _ _ upd_same, upd_same, ?_, fun a5 h5 => hQ _ _ ⟨a5, rfl, ((sb.trans (Same.new h3)).trans (Same.new h4)).trans (Same.new h5), ?_⟩⟩
      · rw [Int.toNat_natCast, rep_flat, List.length_append, List.length_replicate, List.length_map]
        exact Nat.le_trans (Nat.add_le_add_right (Nat.add_le_add_left hm3 _) _) (by decide : 21 ≤ sizeLine)
      · rw [upd_same, Int.toNat_natCast, rep_flat]
        unfold lines20
        simp only [List.map_append, List.map_replicate, List.map_cons, List.map_nil]
    case r6 =>
    obtain ⟨l3, rfl, s56, hl3⟩ := hC
    clear hl2
    have ok := ok20_at hp hq npq hm1 hm3
    have hD6 := (((hD3.same s34).same s45).same s56)
    try dsimp only [List.set]
    refine ⟨rfl, ⟨_, rfl⟩, _, rfl, "\n", l3, lines20 p q0 m, rfl, rfl, .inl (SqL.of hl3), lines_sum hp hq hm3, _, cs20, bk20 p q0 m, rfl, read20 hp hq ok, fun x H7 s67 hB => ?_⟩
    have hD7 := hD6.same s67
    refine ⟨_, rfl, d, g, 9, rfl, hD7, by decide, by decide, fun r H8 r0 r1 hD8 s78 m78 => ⟨_, _, rfl, rfl, ?_⟩⟩
    obtain ⟨k, hk⟩ : ∃ k : Nat, (1 : Int) + r = (k : Int) := ⟨(1 + r).toNat, by omega⟩
    dsimp only
    rw [hk]
    have hk1 : 1 ≤ k := by omega
    have hk9 : k ≤ 9 := by omega
    have hB8 : BookAt T.B H8 x cs20 (bk20 p q0 m) := ((book_hh hD7 hB).same s78).same hh_sub
    clear hk r0 r1 s78 m78 hB
    refine ⟨_, _, rfl, ?_⟩
    try dsimp only [List.set]
    have eu := unr20 p q0 m hm1 hm3
    have lk : linksM (flat20 p q0 m) = links20 p q0 m := by
      have ok' := ok
      unfold ok20 at ok'
      rw [Bool.and_eq_true, Bool.and_eq_true] at ok'
      exact of_decide_eq_true ok'.2.2
    have hcf : nameS "f" = true := by decide +kernel
    have hcc : nameS "c" = true := by decide +kernel
    have hcx : nameS "x" = true := by decide +kernel
    refine stepSet (fun v H' => ∃ y : Addr, v = .ref y ∧ Same H8 H' ∧ PlayedAt T.N.C K H' y (notes20 m k) (due20 p q0 m k) [(2 + (m : Int), 0), (0, 0)]) (fun Q' hQ => ?c9) (fun v H9 hC => ?r9)
    case c9 =>
      refine ⟨_, rfl, _, rfl, ?_⟩
      refine skip_mk T.R hcf hk1 fun u Ha sa hrow => ?_
      refine ⟨one, fun l1 h1 => ⟨two, fun t1 h2 => ⟨one, fun o1 h3 => ?_⟩⟩⟩
      have s1 := Same.new (o := .lst [.ref u]) h1
      have s2 := Same.new (o := .tup [.str "x", .ref l1]) h2
      have s3 := Same.new (o := .lst [.ref t1]) h3
      refine fil_one T.F (us := [u]) (rs := [.skip "f" k]) upd_same (s3 _ _ upd_same) (s3 _ _ (s2 _ _ upd_same)) hcx (.cons (hrow.same (s1.trans (s2.trans s3))) .nil) (fun r hr => by rw [List.mem_singleton.mp hr]; rfl) (by show 1 ≤ 1000; decide) (by simp) fun fx Hb sb hF => ?_
      have s8b := sa.trans ((s1.trans (s2.trans s3)).trans sb)
      refine ⟨x, fx, cs20, bk20 p q0 m, ds20 k, L20, rfl, hB8.same s8b, hF, plays20 hm1 hm3 hk1 hk9 ok, fun y H' s' hpl => hQ _ _ ⟨y, rfl, s8b.trans s', ?_⟩⟩
      rw [eu, lk, (fill20 p q0 k m hm1 hm3).1, (play20 p q0 k m hm1 hm3).1, (play20 p q0 k m hm1 hm3).2, refs20 p q0 k m hm1 hm3] at hpl
      exact hpl
    case r9 =>
    obtain ⟨y, rfl, s89, hpl⟩ := hC
    try dsimp only [List.set]
    refine stepSet (fun v H' => ∃ (dl : Addr) (ts : List Addr), v = .ref dl ∧ Same H9 H' ∧ H' dl = some (.lst (ts.map V.ref)) ∧ Paired (RefOutAt K H') ts [(p, 1, [1, 1]), (p, 1, [1, 1]), (p, 1, [1, 1]), (p, 3, [1, 3 + (k : Int)]), (q0, 0, [1])]) (fun Q' hQ => ?c10) (fun v H10 hC => ?r10)
    case c10 =>
      refine ⟨_, rfl, ?_⟩
      refine ref_lay (K := K) 1 [1, 1] rfl rfl (by show 2 ≤ 3; decide) fun p1 t1 Ha ea sa ra => ?_
      rw [← ea]
      clear ea
      refine ⟨_, rfl, ?_⟩
      refine ref_lay (K := K) 1 [1, 1] rfl rfl (by show 2 ≤ 3; decide) fun p2 t2 Hb eb sb rb => ?_
      rw [← eb]
      clear eb
      refine ⟨_, rfl, ?_⟩
      refine ref_lay (K := K) 1 [1, 1] rfl rfl (by show 2 ≤ 3; decide) fun p3 t3 Hd ec sc rc => ?_
      rw [← ec]
      clear ec
      refine ⟨_, rfl, _, rfl, _, _, rfl, rfl, ?_⟩
      refine ref_lay (K := K) 3 [1, 3 + (k : Int)] rfl rfl (by show 2 ≤ 3; decide) fun p4 t4 He ee se re => ?_
      rw [← ee]
      clear ee
      refine ⟨_, rfl, ?_⟩
      refine ref_lay (K := K) 0 [1] rfl rfl (by show 1 ≤ 3; decide) fun p5 t5 Hf ef sf rf => ?_
      rw [← ef]
      clear ef
      refine ⟨(by show 5 ≤ sizeLine; decide), fun dl hdl => ?_⟩
      have sg := Same.new (o := .lst [.ref t1, .ref t2, .ref t3, .ref t4, .ref t5]) hdl
      have s5 := sf.trans sg
      have s4 := se.trans s5
      have s3 := sc.trans s4
      have s2 := sb.trans s3
      exact hQ _ _ ⟨dl, [t1, t2, t3, t4, t5], rfl, sa.trans s2, upd_same, .cons (ra.sameN (SameN.of s2)) (.cons (rb.sameN (SameN.of s3)) (.cons (rc.sameN (SameN.of s4)) (.cons (re.sameN (SameN.of s5)) (.cons (rf.sameN (SameN.of sg)) .nil))))⟩
    case r10 =>
    obtain ⟨dl, ts, rfl, s910, hdl, hts⟩ := hC
    try dsimp only [List.set]
    refine stepSet (fun v H' => ∃ (dl2 : Addr) (ts2 : List Addr), v = .ref dl2 ∧ Same H10 H' ∧ H' dl2 = some (.lst (ts2.map V.ref)) ∧ Paired (RefOutAt K H') ts2 (due20 p q0 m k)) (fun Q' hQ => ?c11) (fun v H11 hC => ?r11)
    case c11 =>
      refine ⟨_, rfl, _, rfl, _, rfl, _, _, rfl, rfl, _, rfl, _, _, rfl, rfl, ?_⟩
      refine ref_lay (K := K) (4 + m) [1 + (m : Int), 1] (by omega) rfl (by show 2 ≤ 3; decide) fun p1 t1 Ha ea sa ra => ?_
      rw [← ea]
      clear ea
      refine ⟨_, rfl, _, rfl, _, _, rfl, rfl, _, rfl, _, _, rfl, rfl, ?_⟩
      refine ref_lay (K := K) (5 + m) [2 + (m : Int)] (by omega) rfl (by show 1 ≤ 3; decide) fun p2 t2 Hb eb sb rb => ?_
      rw [← eb]
      clear eb
      refine ⟨_, rfl, _, rfl, _, _, rfl, rfl, _, rfl, _, _, rfl, rfl, ?_⟩
      refine ref_lay (K := K) (4 + m) [1 + (m : Int), 1] (by omega) rfl (by show 2 ≤ 3; decide) fun p3 t3 Hd ec sc rc => ?_
      rw [← ec]
      clear ec
      refine ⟨three, fun a1 h1 => ?_⟩
      have sg := Same.new (o := .lst [.ref t1, .ref t2, .ref t3]) h1
      have tsl := paired_len hts
      refine ⟨dl, a1, _, _, rfl, rfl, sg _ _ (sc _ _ (sb _ _ (sa _ _ hdl))), upd_same, ?_, fun dl2 h2 => ?_⟩
      · rw [List.length_map, tsl]
        exact (by decide : 8 ≤ sizeLine)
      have sh := Same.new (o := .lst (ts.map V.ref ++ [.ref t1, .ref t2, .ref t3])) h2
      have s3 := sg.trans sh
      have s2 := sc.trans s3
      have s1 := sb.trans s2
      refine hQ _ _ ⟨dl2, ts ++ [t1, t2, t3], rfl, sa.trans s1, by rw [upd_same, List.map_append]; rfl, ?_⟩
      exact paired_cat (l2 := [t1, t2, t3]) (m2 := [(p, 4 + m, [1 + (m : Int), 1]), (q0, 5 + m, [2 + (m : Int)]), (p, 4 + m, [1 + (m : Int), 1])]) (.cons (ra.sameN (SameN.of s1)) (.cons (rb.sameN (SameN.of s2)) (.cons (rc.sameN (SameN.of s3)) .nil))) (paired_mono (fun _ _ z => z.sameN (SameN.of (sa.trans s1))) hts)
    case r11 =>
    obtain ⟨dl2, ts2, rfl, s1011, hdl2, hts2⟩ := hC
    clear hts hdl
    have pok : PyData.strOk p = true := (name_ok (names16_ok.2.2 p hp)).1
    have qok : PyData.strOk q0 = true := (name_ok (names16_ok.2.2 q0 hq)).1
    have dok : ∀ x ∈ due20 p q0 m k, PyData.strOk x.1 = true := by
      intro x hx
      unfold due20 at hx
      simp only [List.mem_cons, List.not_mem_nil, or_false] at hx
      rcases hx with rfl | rfl | rfl | rfl | rfl | rfl | rfl | rfl <;> first | exact pok | exact qok
    have s911 := s910.trans s1011
    try dsimp only [List.set]
    refine stepNo (fun H' => Same H11 H') (fun Q' hQ => ?c12) (fun H12 s1112 => ?r12)
    case c12 =>
      obtain ⟨dx, np, rp, ep, us1, us2, us3, hy, hnp, hn, hrp, hr2, hep, he⟩ := hpl
      refine ⟨_, rfl, y, T.N.C, dx, _, .ref rp, rfl, s911 _ _ hy, T.N.cl, T.N.noR, pl_r, rp, _, rfl, .inr (Same.sqt s911 hrp), fun L hL => ?_⟩
      have sL := Same.new (o := .lst (us2.map V.ref)) hL
      refine ⟨_, rfl, ne_data (d := .list ((due20 p q0 m k).map refD)) (.lst (SqL.of upd_same) (refs_dp (paired_mono (fun _ _ z => z.sameN (SameN.of (s911.trans sL))) hr2))) (.lst (SqL.of (sL _ _ hdl2)) (refs_dp (paired_mono (fun _ _ z => z.sameN (SameN.of sL)) hts2))) (sh_refs dok) ?_⟩
      refine ⟨_, rfl, iteF ?_⟩
      refine ⟨_, rfl, y, T.N.C, dx, _, .ref ep, rfl, sL _ _ (s911 _ _ hy), T.N.cl, T.N.noE, pl_e, _, rfl, _, _, rfl, rfl, two, fun t1 h1 => ⟨two, fun t2 h2 => ⟨two, fun t3 h3 => ?_⟩⟩⟩
      have s1 := Same.new (o := .tup [.int (2 + (m : Int)), .int 0]) h1
      have s2 := Same.new (o := .tup [.int 0, .int 0]) h2
      have s3 := Same.new (o := .tup [.ref t1, .ref t2]) h3
      have s123 := s1.trans (s2.trans s3)
      refine ne_data (d := .tuple (([(2 + (m : Int), 0), (0, 0)] : List (Int × Int)).map endD)) (.tup (Same.sqt (s911.trans (sL.trans s123)) hep) (ends_dp (paired_mono (fun _ _ z => Same.sqt (s911.trans (sL.trans s123)) z) he))) (.tup (SqT.of upd_same) (ends_dp (ts := [t1, t2]) (.cons (SqT.of (s3 _ _ (s2 _ _ upd_same))) (.cons (SqT.of (s3 _ _ upd_same)) .nil)))) (sh_ends _) ?_
      exact ⟨_, rfl, hQ _ (sL.trans s123)⟩
    case r12 =>
    clear hpl hts2 hdl2
    have s812 := s89.trans (s911.trans s1112)
    try dsimp only [List.set]
    refine stepEndB (fun H' => Same H12 H') (fun Q' hQ => ?c13) (fun H' s' => ⟨_, _, _, _, _, _, _, _, _, rfl, ((hD8.same s812).same s')⟩)
    case c13 =>
      refine ⟨_, rfl, ?_⟩
      refine set_mk T.R hcf (n := 7) fun u1 Ha sa r1 => ?_
      refine skip_mk T.R hcc (n := 1) (by decide) fun u2 Hb sb r2 => ?_
      refine ⟨two, fun l1 h1 => ⟨two, fun t1 h2 => ⟨one, fun o1 h3 => ?_⟩⟩⟩
      have s1 := Same.new (o := .lst [.ref u1, .ref u2]) h1
      have s2 := Same.new (o := .tup [.str "x", .ref l1]) h2
      have s3 := Same.new (o := .lst [.ref t1]) h3
      have s123 := s1.trans (s2.trans s3)
      refine fil_one T.F (us := [u1, u2]) (rs := [.set "f" 7, .skip "c" 1]) upd_same (s3 _ _ upd_same) (s3 _ _ (s2 _ _ upd_same)) hcx (.cons ((r1.same sb).same s123) (.cons (r2.same s123) .nil)) (fun r hr => by
        rcases List.mem_cons.mp hr with rfl | hr
        · rfl
        · rw [List.mem_singleton.mp hr]; rfl) (by show 2 ≤ 1000; decide) (by simp) fun fx Hd sd hF => ?_
      have s12d := sa.trans (sb.trans (s123.trans sd))
      refine ⟨x, fx, cs20, bk20 p q0 m, es20, L20, rfl, hB8.same (s812.trans s12d), hF, plays20t hm1 hm3 ok, fun y3 He se hpl => ?_⟩
      rw [eu, lk, (fill20 p q0 0 m hm1 hm3).2] at hpl
      obtain ⟨dx, np, rp, ep, us1, us2, us3, hy, hnp, hn, hrp, hr2, hep, he⟩ := hpl
      obtain ⟨t3, ht3, hr3⟩ := Paired.right_at hr2 (refs20t p q0 m hm1 hm3)
      refine ⟨y3, T.N.C, dx, _, .ref rp, rfl, hy, T.N.cl, T.N.noR, pl_r, rp, _, _, .ref t3, rfl, rfl, hrp, atI_nat (j := 3) (by rw [List.getElem?_map, ht3]; rfl), _, rfl, ?_⟩
      refine ref_lay (K := K) 3 [2, 2] rfl rfl (by show 2 ≤ 3; decide) fun p1 t4 Hg eg sg rg => ?_
      rw [← eg]
      clear eg
      refine ne_data (d := refD (p, 3, [2, 2])) (ref_dp (hr3.sameN (SameN.of sg))) (ref_dp rg) (sh_ref pok) ?_
      exact ⟨_, rfl, hQ _ (s12d.trans (se.trans sg))⟩
end
end Pn

namespace Pn
open PySem PySem.Spec PyProof.Rows L2
/-! ### what the top leaves: asked in one run -/
/-- a def that is asked for: where it lies, its names, its statement, its defaults -/
structure DefQ where
  loc : PySem.W.Frag → Addr
  nm : Str
  ql : Str
  st : Stmt
  dv : List He.Dv := []
abbrev FnQ : Type := Option (Str × Str × Addr × Addr × Arguments × FuncBody × Scope × List (Str × Addr))
def fnSeen (K : PySem.W.Frag) (a : Addr) : FnQ := match K.lookup a with
  | some ⟨_, _, .func q, _⟩ => some (q.qualname, q.name, q.builtins, q.globals, q.params, q.body, q.scope, q.closure)
  | _ => none
def DefQ.is (d : DefQ) : FnQ := some (d.ql, d.nm, builtinsNs, mainGlobals, defArgs d.st, .stmts (defBody d.st), defScope d.st, [])
def DefQ.vals (d : DefQ) (K : PySem.W.Frag) : List V := d.dv.map (He.Dv.v K)
def DefQ.good (K : PySem.W.Frag) (d : DefQ) : Bool := match K.lookup (d.loc K) with
  | some ⟨_, _, .func q, _⟩ => PySem.W.keepIn K (.ref (d.loc K)) && (PySem.W.codeIn K q.code d.ql && He.dflB K q.defaults (d.vals K))
  | _ => false
theorem DefQ.funD {K : PySem.W.Frag} {d : DefQ} (e : fnSeen K (d.loc K) = d.is) (c : d.good K = true) : ∃ fd, FunD K d.nm d.ql (defArgs d.st) (defBody d.st) (defScope d.st) (d.vals K) [] (d.loc K) fd := by
  unfold DefQ.good at c
  unfold fnSeen at e
  cases hl : K.lookup (d.loc K) with
  | none => rw [hl] at c; cases c
  | some o =>
    obtain ⟨oc, od, dat, sl⟩ := o
    rw [hl] at c e
    cases dat with
    | func q =>
      obtain ⟨a1, a2, a3, a4, a5, a6, a7, a8, a9, b1, b2, b3, b4, b5, b6⟩ := q
      have e2 : (some (a2, a1, b6, a6, a3, a4, a5, a7) : FnQ) = some (d.ql, d.nm, builtinsNs, mainGlobals, defArgs d.st, .stmts (defBody d.st), defScope d.st, []) := e
      injection e2 with e2
      obtain ⟨rfl, rfl, rfl, rfl, rfl, rfl, rfl, rfl⟩ : a2 = d.ql ∧ a1 = d.nm ∧ b6 = builtinsNs ∧ a6 = mainGlobals ∧ a3 = defArgs d.st ∧ a4 = .stmts (defBody d.st) ∧ a5 = defScope d.st ∧ a7 = [] := by simpa using e2
      have c2 : (PySem.W.keepIn K (.ref (d.loc K)) && (PySem.W.codeIn K b4 d.ql && He.dflB K a8 (d.vals K))) = true := c
      rw [Bool.and_eq_true, Bool.and_eq_true] at c2
      exact ⟨_, ⟨oc, od, a8, a9, b1, b2, b3, b4, b5, sl, rfl, hl, c2.2.1, He.dflB_ok c2.2.2, .inl rfl⟩, c2.1⟩
    | _ => cases c
theorem fun_of {K : PySem.W.Frag} {x ql : Str} {st : Stmt} {f : Addr} {fd : FuncData} (F : FunD K x ql (defArgs st) (defBody st) (defScope st) [] [] f fd) : Fun K x ql st f fd := by
  obtain ⟨⟨oc, od, dV, kV, doc, pm, an, cdv, ct, sl, e, hl, hc, hd, _⟩, hk⟩ := F
  rcases hd with ⟨_, rfl⟩ | ⟨h, _⟩
  · exact ⟨⟨oc, od, kV, doc, pm, an, cdv, ct, sl, e, hl, hc⟩, hk⟩
  · exact absurd rfl h
abbrev Ask : Type := PySem.W.Frag → Bool
def askQ (fn : List DefQ) (ex : List (List Ask)) (K : PySem.W.Frag) : Bool × List FnQ := ((fn.all fun d => d.good K) && ex.all fun l => l.all fun f => f K, fn.map fun d => fnSeen K (d.loc K))
def toldQ (fn : List DefQ) : Bool × List FnQ := (true, fn.map DefQ.is)
/-- what an object leads to: a def's code and defaults, a class's own names, what a tuple or a dict holds -/
def leadsQ (o : Obj) : List Addr := match o.data with
  | .func q => He.refV q.code ++ He.refV q.defaults
  | .cls q => [q.ns]
  | .dict es _ => es.toList.flatMap fun z => He.refV z.val
  | .seq us _ => us.toList.flatMap He.refV
  | .fields us => us.toList.flatMap He.refV
  | _ => []
def levQ (g : Addr → Option Obj) : Nat → List Addr → List Addr
  | 0, as => as
  | n + 1, as => as ++ levQ g n (as.flatMap fun a => match g a with
    | some o => leadsQ o
    | none => [])
/-- the part of the heap that is looked at -/
def partQ (n : Nat) (g : Addr → Option Obj) : PySem.W.Frag := He.frG g (cStatics :: levQ g n [mainGlobals])
def hookQ (n : Nat) (fn : List DefQ) (ex : List (List Ask)) : PySem.W.Hook where
  α := Bool × List FnQ
  obs := fun s => askQ fn ex (partQ n s.heap.get?)
  val := fun _ => toldQ fn
  says := fun _ h => ∃ K : PySem.W.Frag, K.In h ∧ askQ fn ex K = toldQ fn
  of := fun _ _ e => ⟨_, He.frG_in, e⟩
  keeps := fun _ _ _ h k => by
    obtain ⟨K, hK, c⟩ := h
    exact ⟨K, PySem.W.Frag.In.keeps hK k, c⟩
def seenQ (n : Nat) (fn : List DefQ) (ex : List (List Ask)) (s : PySem.W.SharedT) : Bool × List FnQ := askQ fn ex (partQ n (HandSHeadRun.getT s))
theorem seenQ_eq (n : Nat) (fn : List DefQ) (ex : List (List Ask)) (s : PySem.W.SharedT) : seenQ n fn ex s = (hookQ n fn ex).obs s.abs := by
  have e : HandSHeadRun.getT s = s.abs.heap.get? := funext (HandSHeadRun.getT_eq s)
  unfold seenQ
  rw [e]
  rfl
section
variable {fn : List DefQ} {ex : List (List Ask)} {K : PySem.W.Frag}
theorem told_at (c : askQ fn ex K = toldQ fn) (i j : Nat) {l : List Ask} {f : Ask} (hl : ex[i]? = some l := by rfl) (hf : l[j]? = some f := by rfl) : f K = true := by
  have h := congrArg (fun z : Bool × List FnQ => z.1) c
  have h2 : ((fn.all fun d => d.good K) && ex.all fun l => l.all fun f => f K) = true := h
  rw [Bool.and_eq_true, List.all_eq_true, List.all_eq_true] at h2
  exact List.all_eq_true.mp (h2.2 l (List.mem_of_getElem? hl)) f (List.mem_of_getElem? hf)
theorem told_fn (c : askQ fn ex K = toldQ fn) (i : Nat) {d : DefQ} (hd : fn[i]? = some d := by rfl) : ∃ fd, FunD K d.nm d.ql (defArgs d.st) (defBody d.st) (defScope d.st) (d.vals K) [] (d.loc K) fd := by
  have h := congrArg (fun z : Bool × List FnQ => z.1) c
  have h2 : ((fn.all fun d => d.good K) && ex.all fun l => l.all fun f => f K) = true := h
  rw [Bool.and_eq_true, List.all_eq_true] at h2
  have h3 : fn.map (fun d => fnSeen K (d.loc K)) = fn.map DefQ.is := congrArg (fun z : Bool × List FnQ => z.2) c
  have h4 := congrArg (fun l : List FnQ => l[i]?) h3
  simp only [List.getElem?_map, hd, Option.map_some] at h4
  exact DefQ.funD (Option.some.inj h4) (h2.1 d (List.mem_of_getElem? hd))
end
/-- an own exception class -/
def excQ (K : PySem.W.Frag) (C : Addr) (nid : String) : Bool := match K.lookup C with
  | some ⟨.type t, _, .cls cd, sl⟩ => decide (t = "type") && (cd.hasDict && (!cd.hasDel && ((match cd.mro with
    | .ref D :: bm => decide (D = C) && PySem.HandSPX.refsVE bm
    | _ => false) && (match sl.toList with
    | [_, _, _, _, some (.builtin n), _] => decide (n = nid)
    | _ => false))))
  | _ => false
theorem excQ_ok {K : PySem.W.Frag} {C : Addr} {nid : String} (h : excQ K C nid = true) : ∃ nm q N bs bm sn sub ab col dd k0 k1 k2 k3 k5, K.lookup C = some (excClassObj nm q C N bs bm true sn sub ab col dd k0 k1 k2 k3 k5 nid) ∧ PySem.HandSPX.refsVE bm = true := by
  unfold excQ at h
  split at h
  · rename_i t dd cd sl hl
    rw [Bool.and_eq_true, Bool.and_eq_true, Bool.and_eq_true, Bool.and_eq_true] at h
    obtain ⟨h1, h2, h3, h4, h5⟩ := h
    split at h4
    · rename_i D bm hm
      split at h5
      · rename_i k0 k1 k2 k3 n k5 hs
        rw [Bool.and_eq_true] at h4
        obtain ⟨h6, h7⟩ := h4
        have e1 := of_decide_eq_true h1
        have e2 := of_decide_eq_true h6
        have e3 := of_decide_eq_true h5
        obtain ⟨nm, bs, mro, ns, qn, hd, sn, sub, ab, col, del⟩ := cd
        simp only at hm h2 h3
        have e4 : del = false := by simpa using h3
        have e5 : sl = #[k0, k1, k2, k3, some (.builtin n), k5] := by
          obtain ⟨l⟩ := sl
          simp only at hs
          rw [hs]
        subst e1 e2 e3 e4 e5 h2 hm
        exact ⟨nm, qn, ns, bs, bm, sn, sub, ab, col, dd, k0, k1, k2, k3, k5, hl, h7⟩
      · cases h5
    · cases h4
  · cases h
/-- a tuple of the written part -/
def tupQ (K : PySem.W.Frag) (a : Addr) (vs : List He.Dv) : Bool := match K.lookup a with
  | some ⟨.type t, _, .seq its _, _⟩ => decide (t = "tuple") && (decide (its.size ≤ sizeLine) && He.relAll (vs.map (He.Dv.v K)) its.toList)
  | _ => false
theorem tupQ_ok {K : PySem.W.Frag} {a : Addr} {vs : List He.Dv} (h : tupQ K a vs = true) (H : Hp) : SqT K H a (vs.map (He.Dv.v K)) := by
  unfold tupQ at h
  split at h
  · rename_i t d its n sl hl
    rw [Bool.and_eq_true, Bool.and_eq_true] at h
    have e := of_decide_eq_true h.1
    subst e
    exact .inr ⟨_, its, n, hl, rfl, rfl, of_decide_eq_true h.2.1, He.relAll_ok h.2.2⟩
  · cases h
/-- the getter of a property -/
def getterQ (K : PySem.W.Frag) (p : Addr) : Addr := match PySem.W.recIn K p "property" with
  | some (.ref g :: _) => g
  | _ => 0
def propQ (K : PySem.W.Frag) (C : Addr) (nm : Str) : Bool := decide (PySem.W.findIn K (.ref C) nm = some (some (.ref (He.ma K C nm)))) && (decide (PySem.W.specialIn K (.ref (He.ma K C nm)) "__get__" = some (some (.builtin "property.__get__"))) && (decide (PySem.W.takesIn K (.ref (He.ma K C nm)) = some true) &&
  (match PySem.W.recIn K (He.ma K C nm) "property" with
  | some (.ref _ :: _) => true
  | _ => false)))
theorem propQ_ok {K : PySem.W.Frag} {C : Addr} {nm : Str} (h : propQ K C nm = true) : PropOf K C nm (He.ma K C nm) (getterQ K (He.ma K C nm)) := by
  unfold propQ at h
  rw [Bool.and_eq_true, Bool.and_eq_true, Bool.and_eq_true] at h
  obtain ⟨h1, h2, h3, h4⟩ := h
  refine ⟨of_decide_eq_true h1, of_decide_eq_true h2, of_decide_eq_true h3, ?_⟩
  unfold getterQ
  split at h4
  · rename_i g r hr
    exact ⟨r, by rw [hr]⟩
  · cases h4
end Pn

namespace Pn
open PySem PySem.Spec PyProof.Rows L2
/-! ### a classmethod, asked in the same run -/
def cgetQ (K : PySem.W.Frag) (p : Addr) : Addr := match PySem.W.recIn K p "classmethod" with
  | some (.ref g :: _) => g
  | _ => 0
def cfndQ (K : PySem.W.Frag) (C : Addr) (nm : Str) : Bool := match PySem.W.findCls K (.ref C) (.type "type") nm with
  | some (.get (.builtin g) (.ref p) .none (.ref D)) => decide (g = "classmethod.__get__") && (decide (p = He.ma K C nm) && decide (D = C))
  | _ => false
def crecQ (K : PySem.W.Frag) (p : Addr) : Bool := match PySem.W.recIn K p "classmethod" with
  | some (.ref _ :: _) => true
  | _ => false
def cmethQ (K : PySem.W.Frag) (C : Addr) (nm : Str) : Bool := PySem.W.readsIn K C (.type "type") && (decide (PySem.W.specialIn K (.ref C) "__getattribute__" = some (some (.builtin "type.__getattribute__"))) && (cfndQ K C nm && (crecQ K (He.ma K C nm) && PySem.W.fnIn K (cgetQ K (He.ma K C nm)))))
theorem cmethQ_ok {K : PySem.W.Frag} {C : Addr} {nm : Str} (h : cmethQ K C nm = true) : ClX.CRead K C (.type "type") ∧ ClX.CMet K C (.type "type") nm (He.ma K C nm) (cgetQ K (He.ma K C nm)) := by
  unfold cmethQ at h
  rw [Bool.and_eq_true, Bool.and_eq_true, Bool.and_eq_true, Bool.and_eq_true] at h
  obtain ⟨h1, h2, h3, h4, h5⟩ := h
  refine ⟨⟨h1, of_decide_eq_true h2⟩, ⟨?_, ?_, h5⟩⟩
  · unfold cfndQ at h3
    split at h3
    · rename_i g p D e
      rw [Bool.and_eq_true, Bool.and_eq_true] at h3
      obtain ⟨a, b, c⟩ := h3
      have a := of_decide_eq_true a
      have b := of_decide_eq_true b
      have c := of_decide_eq_true c
      rw [e, a, b, c]
    · cases h3
  · unfold crecQ at h4
    unfold cgetQ
    split at h4
    · rename_i g r e
      exact ⟨r, by rw [e]⟩
    · cases h4
end Pn

namespace Pn
open PySem PySem.Spec PyProof.Rows L2
/-! ### a module's tuple of two tuples of a text and a number -/
def stayQ (K : PySem.W.Frag) (a : Addr) : Bool := match K.lookup a with
  | some ⟨.type t, _, .seq its _, _⟩ => decide (t = "tuple") && (decide (its.size ≤ sizeLine) && (match its.toList with
    | [.ref b, .ref c] => tupQ K b [.str "now", .int 0] && tupQ K c [.str "box", .int 0]
    | _ => false))
  | _ => false
theorem stayQ_ok {K : PySem.W.Frag} {a : Addr} (h : stayQ K a = true) : ∀ H : Hp, StepAt K H a stayT := by
  unfold stayQ at h
  split at h
  · rename_i t d its n sl hl
    rw [Bool.and_eq_true, Bool.and_eq_true] at h
    obtain ⟨h1, h2, h3⟩ := h
    have e := of_decide_eq_true h1
    subst e
    split at h3
    · rename_i b c he
      rw [Bool.and_eq_true] at h3
      intro H
      refine ⟨b, c, .inr ⟨_, its, n, hl, rfl, rfl, of_decide_eq_true h2, ?_⟩, tupQ_ok (vs := [.str "now", .int 0]) h3.1 H, tupQ_ok (vs := [.str "box", .int 0]) h3.2 H⟩
      rw [he]
      exact .cons (show RelV (.ref b) (Value.ref b) from rfl) (.cons (show RelV (.ref c) (Value.ref c) from rfl) .nil)
    · cases h3
  · cases h
end Pn

namespace Pn
open PySem PySem.Spec PyProof.Rows L2
def fnQ0 : List DefQ := [
  { loc := fun K => (He.ga K "is_integer"), nm := "is_integer", ql := "is_integer", st := sIsInteger, dv := [] },
  { loc := fun K => (He.ga K "is_number"), nm := "is_number", ql := "is_number", st := sIsNumber, dv := [] },
  { loc := fun K => (He.ga K "is_name"), nm := "is_name", ql := "is_name", st := sIsName, dv := [] },
  { loc := fun K => (He.ma K (He.ga K "InvalidRow") "__init__"), nm := "__init__", ql := "InvalidRow.__init__", st := sIRInit, dv := [] },
  { loc := fun K => (He.ma K (He.ga K "InvalidText") "__init__"), nm := "__init__", ql := "InvalidText.__init__", st := sITInit, dv := [] },
  { loc := fun K => (He.ga K "need_name"), nm := "need_name", ql := "need_name", st := sNeedName, dv := [] },
  { loc := fun K => (He.ma K (He.ga K "Note") "__init__"), nm := "__init__", ql := "Note.__init__", st := sNoteInit, dv := [.str ""] },
  { loc := fun K => (He.ma K (He.ga K "Note") "__str__"), nm := "__str__", ql := "Note.__str__", st := sNoteStr, dv := [] },
  { loc := fun K => (He.ma K (He.ga K "Skip") "__init__"), nm := "__init__", ql := "Skip.__init__", st := sSkipInit, dv := [] },
  { loc := fun K => (He.ma K (He.ga K "Skip") "__str__"), nm := "__str__", ql := "Skip.__str__", st := sSkipStr, dv := [] },
  { loc := fun K => (He.ma K (He.ga K "Set") "__init__"), nm := "__init__", ql := "Set.__init__", st := sSetInit, dv := [] },
  { loc := fun K => (He.ma K (He.ga K "Set") "__str__"), nm := "__str__", ql := "Set.__str__", st := sSetStr, dv := [] }]
def fnQ1 : List DefQ := [
  { loc := fun K => (He.ma K (He.ga K "Keep") "__init__"), nm := "__init__", ql := "Keep.__init__", st := sKeepInit, dv := [] },
  { loc := fun K => (He.ma K (He.ga K "Keep") "__str__"), nm := "__str__", ql := "Keep.__str__", st := sKeepStr, dv := [] },
  { loc := fun K => (He.ma K (He.ga K "Back") "__init__"), nm := "__init__", ql := "Back.__init__", st := sBackInit, dv := [] },
  { loc := fun K => (He.ma K (He.ga K "Back") "__str__"), nm := "__str__", ql := "Back.__str__", st := sBackStr, dv := [] },
  { loc := fun K => (He.ma K (He.ga K "Ref") "__init__"), nm := "__init__", ql := "Ref.__init__", st := sRefInit, dv := [] },
  { loc := fun K => (He.ma K (He.ga K "Ref") "__str__"), nm := "__str__", ql := "Ref.__str__", st := sRefStr, dv := [] },
  { loc := fun K => (He.ma K (He.ga K "Put") "__init__"), nm := "__init__", ql := "Put.__init__", st := sPutInit, dv := [] },
  { loc := fun K => (He.ma K (He.ga K "Put") "__str__"), nm := "__str__", ql := "Put.__str__", st := sPutStr, dv := [] },
  { loc := fun K => (He.ma K (He.ga K "Open") "__init__"), nm := "__init__", ql := "Open.__init__", st := sOpenInit, dv := [] },
  { loc := fun K => (He.ma K (He.ga K "Open") "__str__"), nm := "__str__", ql := "Open.__str__", st := sOpenStr, dv := [] },
  { loc := fun K => (He.ga K "read_number"), nm := "read_number", ql := "read_number", st := sReadNum, dv := [] },
  { loc := fun K => (He.ga K "row_of_two"), nm := "row_of_two", ql := "row_of_two", st := sRow2, dv := [] }]
def fnQ2 : List DefQ := [
  { loc := fun K => (He.ga K "row_of_three"), nm := "row_of_three", ql := "row_of_three", st := sRow3, dv := [] },
  { loc := fun K => (He.ga K "read_row"), nm := "read_row", ql := "read_row", st := sReadRow, dv := [] },
  { loc := fun K => (He.ga K "is_sequence"), nm := "is_sequence", ql := "is_sequence", st := sIsSeq, dv := [] },
  { loc := fun K => (He.ma K (He.ga K "InvalidPart") "__init__"), nm := "__init__", ql := "InvalidPart.__init__", st := sIPInit, dv := [] },
  { loc := fun K => (He.ma K (He.ga K "Part") "__init__"), nm := "__init__", ql := "Part.__init__", st := sPartInit, dv := [.adr (He.dflAt ("Part", some "__init__") 0)] },
  { loc := fun K => (He.ma K (He.ga K "Part") "__str__"), nm := "__str__", ql := "Part.__str__", st := sPartStr, dv := [] },
  { loc := fun K => (He.ma K (He.ga K "Part") "__eq__"), nm := "__eq__", ql := "Part.__eq__", st := sPartEq, dv := [] },
  { loc := fun K => (He.ga K "is_pair"), nm := "is_pair", ql := "is_pair", st := sIsPair, dv := [] },
  { loc := fun K => (He.ga K "are_counters"), nm := "are_counters", ql := "are_counters", st := sAreC, dv := [] },
  { loc := fun K => (He.ga K "are_parts"), nm := "are_parts", ql := "are_parts", st := sAreP, dv := [] },
  { loc := fun K => (He.ga K "counters_are_known"), nm := "counters_are_known", ql := "counters_are_known", st := sCKnown, dv := [] },
  { loc := fun K => (He.ga K "names_put"), nm := "names_put", ql := "names_put", st := sNPut, dv := [] }]
def fnQ3 : List DefQ := [
  { loc := fun K => (He.ga K "puts_are_earlier"), nm := "puts_are_earlier", ql := "puts_are_earlier", st := sPEarly, dv := [] },
  { loc := fun K => (He.ga K "names_reached"), nm := "names_reached", ql := "names_reached", st := sNReach, dv := [] },
  { loc := fun K => (He.ga K "unroll"), nm := "unroll", ql := "unroll", st := sUnr1, dv := [] },
  { loc := fun K => (He.ga K "unrolled_text"), nm := "unrolled_text", ql := "unrolled_text", st := sUText, dv := [] },
  { loc := fun K => (He.ga K "refs_are_known"), nm := "refs_are_known", ql := "refs_are_known", st := sRefsK, dv := [] },
  { loc := fun K => (He.ma K (He.ga K "Book") "__init__"), nm := "__init__", ql := "Book.__init__", st := sBInit, dv := [] },
  { loc := fun K => (getterQ K (He.ma K (He.ga K "Book") "names")), nm := "names", ql := "Book.names", st := sBNames, dv := [] },
  { loc := fun K => (getterQ K (He.ma K (He.ga K "Book") "tops")), nm := "tops", ql := "Book.tops", st := sBTops, dv := [] },
  { loc := fun K => (getterQ K (He.ma K (He.ga K "Book") "unrolled")), nm := "unrolled", ql := "Book.unrolled", st := sBUnr, dv := [] },
  { loc := fun K => (He.ma K (He.ga K "Book") "chain"), nm := "chain", ql := "Book.chain", st := sBChain, dv := [] },
  { loc := fun K => (He.ga K "read_counter"), nm := "read_counter", ql := "read_counter", st := sRdC, dv := [] },
  { loc := fun K => (He.ga K "read_counters"), nm := "read_counters", ql := "read_counters", st := sRdCs, dv := [] }]
def fnQ4 : List DefQ := [
  { loc := fun K => (He.ga K "is_part_line"), nm := "is_part_line", ql := "is_part_line", st := sIsPL, dv := [] },
  { loc := fun K => (He.ga K "read_line"), nm := "read_line", ql := "read_line", st := sRdL, dv := [] },
  { loc := fun K => (He.ga K "read_parts"), nm := "read_parts", ql := "read_parts", st := sRdPs, dv := [] },
  { loc := fun K => (cgetQ K (He.ma K (He.ga K "Book") "read")), nm := "read", ql := "Book.read", st := sBRead, dv := [] },
  { loc := fun K => (He.ma K (He.ga K "InvalidFilling") "__init__"), nm := "__init__", ql := "InvalidFilling.__init__", st := sIFInit, dv := [] },
  { loc := fun K => (He.ma K (He.ga K "Filling") "__init__"), nm := "__init__", ql := "Filling.__init__", st := sFInit, dv := [.adr (He.dflAt ("Filling", some "__init__") 0)] },
  { loc := fun K => (He.ma K (He.ga K "Filling") "rows_for"), nm := "rows_for", ql := "Filling.rows_for", st := sFRows, dv := [] },
  { loc := fun K => (He.ma K (He.ga K "Filling") "__str__"), nm := "__str__", ql := "Filling.__str__", st := sFStr, dv := [] },
  { loc := fun K => (He.ma K (He.ga K "Filling") "__eq__"), nm := "__eq__", ql := "Filling.__eq__", st := sFEq, dv := [] },
  { loc := fun K => (getterQ K (He.ma K (He.ga K "Filling") "names")), nm := "names", ql := "Filling.names", st := sFNames, dv := [] },
  { loc := fun K => (He.ga K "are_fillable"), nm := "are_fillable", ql := "are_fillable", st := sAreFill, dv := [] },
  { loc := fun K => (He.ga K "is_filled"), nm := "is_filled", ql := "is_filled", st := sIsFilled, dv := [] }]
def fnQ5 : List DefQ := [
  { loc := fun K => (He.ga K "filled_text"), nm := "filled_text", ql := "filled_text", st := sFText, dv := [] },
  { loc := fun K => (He.ga K "going_on"), nm := "going_on", ql := "going_on", st := sGoing, dv := [] },
  { loc := fun K => (He.ga K "own_step"), nm := "own_step", ql := "own_step", st := sOwn, dv := [] },
  { loc := fun K => (He.ga K "step_of"), nm := "step_of", ql := "step_of", st := sStep, dv := [] },
  { loc := fun K => (He.ga K "reckoned"), nm := "reckoned", ql := "reckoned", st := sReck, dv := [] },
  { loc := fun K => (He.ga K "done"), nm := "done", ql := "done", st := sDone, dv := [] },
  { loc := fun K => (He.ga K "note_told"), nm := "note_told", ql := "note_told", st := sTold, dv := [] },
  { loc := fun K => (He.ga K "links"), nm := "links", ql := "links", st := sLinks, dv := [] },
  { loc := fun K => (He.ga K "need_counters"), nm := "need_counters", ql := "need_counters", st := sNeedC, dv := [] },
  { loc := fun K => (He.ga K "filled_rows"), nm := "filled_rows", ql := "filled_rows", st := sFilled, dv := [] },
  { loc := fun K => (He.ga K "play"), nm := "play", ql := "play", st := sPlay, dv := [] },
  { loc := fun K => (He.ma K (He.ga K "Played") "__init__"), nm := "__init__", ql := "Played.__init__", st := sPlInit, dv := [] }]
def fnQ6 : List DefQ := [
  { loc := fun K => (He.ga K "_law_deal"), nm := "_law_deal", ql := "_law_deal", st := sDeal, dv := [] },
  { loc := fun K => (He.ga K "_law_draw"), nm := "_law_draw", ql := "_law_draw", st := sDraw, dv := [] },
  { loc := fun K => (He.ga K "_law_mixed"), nm := "_law_mixed", ql := "_law_mixed", st := sMixed, dv := [] },
  { loc := fun K => (He.ga K "_law_names"), nm := "_law_names", ql := "_law_names", st := sNames, dv := [] },
  { loc := fun K => (He.ga K "law"), nm := "law", ql := "law", st := sLaw20, dv := [] }]
def fnQ : List DefQ := fnQ0 ++ fnQ1 ++ fnQ2 ++ fnQ3 ++ fnQ4 ++ fnQ5 ++ fnQ6
def exQ0 : List Ask := [
  fun K => decide (PySem.W.nsIn K mainGlobals "int" = some none),
  fun K => decide (PySem.W.nsIn K mainGlobals "bool" = some none),
  fun K => decide (PySem.W.nsIn K mainGlobals "str" = some none),
  fun K => decide (PySem.W.nsIn K mainGlobals "isinstance" = some none),
  fun K => decide (PySem.W.nsIn K mainGlobals "len" = some none),
  fun K => decide (PySem.W.nsIn K mainGlobals "all" = some none),
  fun K => decide (PySem.W.nsIn K mainGlobals "abs" = some none),
  fun K => decide (PySem.W.nsIn K mainGlobals "range" = some none),
  fun K => decide (PySem.W.nsIn K mainGlobals "list" = some none),
  fun K => decide (PySem.W.nsIn K mainGlobals "tuple" = some none)]
def exQ1 : List Ask := [
  fun K => decide (PySem.W.nsIn K mainGlobals "set" = some none),
  fun K => decide (PySem.W.nsIn K mainGlobals "reversed" = some none),
  fun K => decide (PySem.W.nsIn K mainGlobals "sorted" = some none),
  fun K => decide (PySem.W.nsIn K mainGlobals "dict" = some none),
  fun K => decide (PySem.W.nsIn K mainGlobals "enumerate" = some none),
  fun K => decide (PySem.W.nsIn K mainGlobals "ROW_WORDS" = some (some (.ref (He.ga K "ROW_WORDS")))),
  fun K => He.tupB K "ROW_WORDS" [.str "note", .str "skip", .str "set", .str "keep", .str "back", .str "ref", .str "put", .str "open", .str "part"],
  fun K => (He.Fa.int "LONGEST_NAME" 4).ok K,
  fun K => (He.Fa.int "MOST_DIGITS" 10).ok K,
  fun K => decide (PySem.W.nsIn K mainGlobals "is_integer" = some (some (.ref (He.ga K "is_integer"))))]
def exQ2 : List Ask := [
  fun K => decide (PySem.W.nsIn K mainGlobals "is_number" = some (some (.ref (He.ga K "is_number")))),
  fun K => decide (PySem.W.nsIn K mainGlobals "is_name" = some (some (.ref (He.ga K "is_name")))),
  fun K => decide (PySem.W.nsIn K mainGlobals "NoteError" = some (some (.ref (He.ga K "NoteError")))),
  fun K => decide (PySem.W.nsIn K mainGlobals "InvalidRow" = some (some (.ref (He.ga K "InvalidRow")))),
  fun K => excQ K (He.ga K "InvalidRow") "ValueError.__new__",
  fun K => decide (PySem.W.findIn K (.ref (He.ga K "InvalidRow")) "__setattr__" = some (some (.builtin "object.__setattr__"))),
  fun K => decide (PySem.W.findIn K (.ref (He.ga K "InvalidRow")) "__getattribute__" = some (some (.builtin "BaseException.__getattribute__"))),
  fun K => decide (PySem.W.findIn K (.ref (He.ga K "InvalidRow")) "__getattr__" = some (none)),
  fun K => decide (PySem.W.findIn K (.ref (He.ga K "InvalidRow")) "word" = some (none)),
  fun K => decide (PySem.W.findIn K (.ref (He.ga K "InvalidRow")) "__init__" = some (some (.ref (He.ma K (He.ga K "InvalidRow") "__init__"))))]
def exQ3 : List Ask := [
  fun K => decide (PySem.W.findIn K (.ref (He.ga K "InvalidRow")) "__class__" = some (some (.builtin "object.__class__"))),
  fun K => decide (PySem.W.typeIn K (.ref (He.ma K (He.ga K "InvalidRow") "__init__")) = some (.type "function")),
  fun K => PySem.W.keepIn K (.ref (He.ga K "InvalidRow")),
  fun K => decide (PySem.W.subIn K (.ref (He.ga K "InvalidRow")) (.type "BaseException") = some true),
  fun K => decide (PySem.W.typeIn K (.ref (He.ga K "InvalidRow")) = some (.type "type")),
  fun K => PySem.W.hasDictIn K (He.ga K "InvalidRow"),
  fun K => PySem.W.isClsIn K (He.ga K "InvalidRow"),
  fun K => decide (PySem.W.subIn K (.ref (He.ga K "InvalidRow")) (.ref (He.ga K "InvalidRow")) = some true),
  fun K => decide (PySem.W.mroIn K (He.ga K "InvalidRow") (.type "object") = some true),
  fun K => decide (PySem.W.nsIn K mainGlobals "InvalidText" = some (some (.ref (He.ga K "InvalidText"))))]
def exQ4 : List Ask := [
  fun K => excQ K (He.ga K "InvalidText") "ValueError.__new__",
  fun K => decide (PySem.W.findIn K (.ref (He.ga K "InvalidText")) "__setattr__" = some (some (.builtin "object.__setattr__"))),
  fun K => decide (PySem.W.findIn K (.ref (He.ga K "InvalidText")) "__getattribute__" = some (some (.builtin "BaseException.__getattribute__"))),
  fun K => decide (PySem.W.findIn K (.ref (He.ga K "InvalidText")) "__getattr__" = some (none)),
  fun K => decide (PySem.W.findIn K (.ref (He.ga K "InvalidText")) "at" = some (none)),
  fun K => decide (PySem.W.findIn K (.ref (He.ga K "InvalidText")) "__init__" = some (some (.ref (He.ma K (He.ga K "InvalidText") "__init__")))),
  fun K => decide (PySem.W.findIn K (.ref (He.ga K "InvalidText")) "__class__" = some (some (.builtin "object.__class__"))),
  fun K => decide (PySem.W.typeIn K (.ref (He.ma K (He.ga K "InvalidText") "__init__")) = some (.type "function")),
  fun K => PySem.W.keepIn K (.ref (He.ga K "InvalidText")),
  fun K => decide (PySem.W.subIn K (.ref (He.ga K "InvalidText")) (.type "BaseException") = some true)]
def exQ5 : List Ask := [
  fun K => decide (PySem.W.typeIn K (.ref (He.ga K "InvalidText")) = some (.type "type")),
  fun K => PySem.W.hasDictIn K (He.ga K "InvalidText"),
  fun K => PySem.W.isClsIn K (He.ga K "InvalidText"),
  fun K => decide (PySem.W.subIn K (.ref (He.ga K "InvalidText")) (.ref (He.ga K "InvalidText")) = some true),
  fun K => decide (PySem.W.mroIn K (He.ga K "InvalidText") (.type "object") = some true),
  fun K => decide (PySem.W.nsIn K mainGlobals "need_name" = some (some (.ref (He.ga K "need_name")))),
  fun K => decide (PySem.W.nsIn K mainGlobals "Note" = some (some (.ref (He.ga K "Note")))),
  fun K => decide (PySem.W.findIn K (.ref (He.ga K "Note")) "__init__" = some (some (.ref (He.ma K (He.ga K "Note") "__init__")))),
  fun K => PySem.W.isFn K (.ref (He.ma K (He.ga K "Note") "__init__")),
  fun K => PySem.W.plainGet K (He.ga K "Note") Str.empty]
def exQ6 : List Ask := [
  fun K => PySem.W.hasDictIn K (He.ga K "Note"),
  fun K => PySem.W.plainOver K (He.ga K "Note"),
  fun K => decide (PySem.W.findIn K (.ref (He.ga K "Note")) "__setattr__" = some (some (.builtin "object.__setattr__"))),
  fun K => PySem.W.makesIn K (He.ga K "Note"),
  fun K => PySem.W.keepIn K (.ref (He.ga K "Note")),
  fun K => decide (PySem.W.findIn K (.ref (He.ga K "Note")) "word" = some none),
  fun K => decide (PySem.W.findIn K (.ref (He.ga K "Note")) "counter" = some none),
  fun K => decide (PySem.W.findIn K (.ref (He.ga K "Note")) "label" = some none),
  fun K => decide (PySem.W.findIn K (.ref (He.ga K "Note")) "__str__" = some (some (.ref (He.ma K (He.ga K "Note") "__str__")))),
  fun K => PySem.W.isFn K (.ref (He.ma K (He.ga K "Note") "__str__"))]
def exQ7 : List Ask := [
  fun K => decide (PySem.W.nsIn K mainGlobals "Skip" = some (some (.ref (He.ga K "Skip")))),
  fun K => decide (PySem.W.findIn K (.ref (He.ga K "Skip")) "__init__" = some (some (.ref (He.ma K (He.ga K "Skip") "__init__")))),
  fun K => PySem.W.isFn K (.ref (He.ma K (He.ga K "Skip") "__init__")),
  fun K => PySem.W.plainGet K (He.ga K "Skip") Str.empty,
  fun K => PySem.W.hasDictIn K (He.ga K "Skip"),
  fun K => PySem.W.plainOver K (He.ga K "Skip"),
  fun K => decide (PySem.W.findIn K (.ref (He.ga K "Skip")) "__setattr__" = some (some (.builtin "object.__setattr__"))),
  fun K => PySem.W.makesIn K (He.ga K "Skip"),
  fun K => PySem.W.keepIn K (.ref (He.ga K "Skip")),
  fun K => decide (PySem.W.findIn K (.ref (He.ga K "Skip")) "word" = some none)]
def exQ8 : List Ask := [
  fun K => decide (PySem.W.findIn K (.ref (He.ga K "Skip")) "counter" = some none),
  fun K => decide (PySem.W.findIn K (.ref (He.ga K "Skip")) "by" = some none),
  fun K => decide (PySem.W.findIn K (.ref (He.ga K "Skip")) "__str__" = some (some (.ref (He.ma K (He.ga K "Skip") "__str__")))),
  fun K => PySem.W.isFn K (.ref (He.ma K (He.ga K "Skip") "__str__")),
  fun K => decide (PySem.W.nsIn K mainGlobals "Set" = some (some (.ref (He.ga K "Set")))),
  fun K => decide (PySem.W.findIn K (.ref (He.ga K "Set")) "__init__" = some (some (.ref (He.ma K (He.ga K "Set") "__init__")))),
  fun K => PySem.W.isFn K (.ref (He.ma K (He.ga K "Set") "__init__")),
  fun K => PySem.W.plainGet K (He.ga K "Set") Str.empty,
  fun K => PySem.W.hasDictIn K (He.ga K "Set"),
  fun K => PySem.W.plainOver K (He.ga K "Set")]
def exQ9 : List Ask := [
  fun K => decide (PySem.W.findIn K (.ref (He.ga K "Set")) "__setattr__" = some (some (.builtin "object.__setattr__"))),
  fun K => PySem.W.makesIn K (He.ga K "Set"),
  fun K => PySem.W.keepIn K (.ref (He.ga K "Set")),
  fun K => decide (PySem.W.findIn K (.ref (He.ga K "Set")) "word" = some none),
  fun K => decide (PySem.W.findIn K (.ref (He.ga K "Set")) "counter" = some none),
  fun K => decide (PySem.W.findIn K (.ref (He.ga K "Set")) "to" = some none),
  fun K => decide (PySem.W.findIn K (.ref (He.ga K "Set")) "__str__" = some (some (.ref (He.ma K (He.ga K "Set") "__str__")))),
  fun K => PySem.W.isFn K (.ref (He.ma K (He.ga K "Set") "__str__")),
  fun K => decide (PySem.W.nsIn K mainGlobals "Keep" = some (some (.ref (He.ga K "Keep")))),
  fun K => decide (PySem.W.findIn K (.ref (He.ga K "Keep")) "__init__" = some (some (.ref (He.ma K (He.ga K "Keep") "__init__"))))]
def exQ10 : List Ask := [
  fun K => PySem.W.isFn K (.ref (He.ma K (He.ga K "Keep") "__init__")),
  fun K => PySem.W.plainGet K (He.ga K "Keep") Str.empty,
  fun K => PySem.W.hasDictIn K (He.ga K "Keep"),
  fun K => PySem.W.plainOver K (He.ga K "Keep"),
  fun K => decide (PySem.W.findIn K (.ref (He.ga K "Keep")) "__setattr__" = some (some (.builtin "object.__setattr__"))),
  fun K => PySem.W.makesIn K (He.ga K "Keep"),
  fun K => PySem.W.keepIn K (.ref (He.ga K "Keep")),
  fun K => decide (PySem.W.findIn K (.ref (He.ga K "Keep")) "word" = some none),
  fun K => decide (PySem.W.findIn K (.ref (He.ga K "Keep")) "counter" = some none),
  fun K => decide (PySem.W.findIn K (.ref (He.ga K "Keep")) "__str__" = some (some (.ref (He.ma K (He.ga K "Keep") "__str__"))))]
def exQ11 : List Ask := [
  fun K => PySem.W.isFn K (.ref (He.ma K (He.ga K "Keep") "__str__")),
  fun K => decide (PySem.W.nsIn K mainGlobals "Back" = some (some (.ref (He.ga K "Back")))),
  fun K => decide (PySem.W.findIn K (.ref (He.ga K "Back")) "__init__" = some (some (.ref (He.ma K (He.ga K "Back") "__init__")))),
  fun K => PySem.W.isFn K (.ref (He.ma K (He.ga K "Back") "__init__")),
  fun K => PySem.W.plainGet K (He.ga K "Back") Str.empty,
  fun K => PySem.W.hasDictIn K (He.ga K "Back"),
  fun K => PySem.W.plainOver K (He.ga K "Back"),
  fun K => decide (PySem.W.findIn K (.ref (He.ga K "Back")) "__setattr__" = some (some (.builtin "object.__setattr__"))),
  fun K => PySem.W.makesIn K (He.ga K "Back"),
  fun K => PySem.W.keepIn K (.ref (He.ga K "Back"))]
def exQ12 : List Ask := [
  fun K => decide (PySem.W.findIn K (.ref (He.ga K "Back")) "word" = some none),
  fun K => decide (PySem.W.findIn K (.ref (He.ga K "Back")) "counter" = some none),
  fun K => decide (PySem.W.findIn K (.ref (He.ga K "Back")) "__str__" = some (some (.ref (He.ma K (He.ga K "Back") "__str__")))),
  fun K => PySem.W.isFn K (.ref (He.ma K (He.ga K "Back") "__str__")),
  fun K => decide (PySem.W.nsIn K mainGlobals "Ref" = some (some (.ref (He.ga K "Ref")))),
  fun K => decide (PySem.W.findIn K (.ref (He.ga K "Ref")) "__init__" = some (some (.ref (He.ma K (He.ga K "Ref") "__init__")))),
  fun K => PySem.W.isFn K (.ref (He.ma K (He.ga K "Ref") "__init__")),
  fun K => PySem.W.plainGet K (He.ga K "Ref") Str.empty,
  fun K => PySem.W.hasDictIn K (He.ga K "Ref"),
  fun K => PySem.W.plainOver K (He.ga K "Ref")]
def exQ13 : List Ask := [
  fun K => decide (PySem.W.findIn K (.ref (He.ga K "Ref")) "__setattr__" = some (some (.builtin "object.__setattr__"))),
  fun K => PySem.W.makesIn K (He.ga K "Ref"),
  fun K => PySem.W.keepIn K (.ref (He.ga K "Ref")),
  fun K => decide (PySem.W.findIn K (.ref (He.ga K "Ref")) "word" = some none),
  fun K => decide (PySem.W.findIn K (.ref (He.ga K "Ref")) "label" = some none),
  fun K => decide (PySem.W.findIn K (.ref (He.ga K "Ref")) "__str__" = some (some (.ref (He.ma K (He.ga K "Ref") "__str__")))),
  fun K => PySem.W.isFn K (.ref (He.ma K (He.ga K "Ref") "__str__")),
  fun K => decide (PySem.W.nsIn K mainGlobals "Put" = some (some (.ref (He.ga K "Put")))),
  fun K => decide (PySem.W.findIn K (.ref (He.ga K "Put")) "__init__" = some (some (.ref (He.ma K (He.ga K "Put") "__init__")))),
  fun K => PySem.W.isFn K (.ref (He.ma K (He.ga K "Put") "__init__"))]
def exQ14 : List Ask := [
  fun K => PySem.W.plainGet K (He.ga K "Put") Str.empty,
  fun K => PySem.W.hasDictIn K (He.ga K "Put"),
  fun K => PySem.W.plainOver K (He.ga K "Put"),
  fun K => decide (PySem.W.findIn K (.ref (He.ga K "Put")) "__setattr__" = some (some (.builtin "object.__setattr__"))),
  fun K => PySem.W.makesIn K (He.ga K "Put"),
  fun K => PySem.W.keepIn K (.ref (He.ga K "Put")),
  fun K => decide (PySem.W.findIn K (.ref (He.ga K "Put")) "word" = some none),
  fun K => decide (PySem.W.findIn K (.ref (He.ga K "Put")) "part" = some none),
  fun K => decide (PySem.W.findIn K (.ref (He.ga K "Put")) "__str__" = some (some (.ref (He.ma K (He.ga K "Put") "__str__")))),
  fun K => PySem.W.isFn K (.ref (He.ma K (He.ga K "Put") "__str__"))]
def exQ15 : List Ask := [
  fun K => decide (PySem.W.nsIn K mainGlobals "Open" = some (some (.ref (He.ga K "Open")))),
  fun K => decide (PySem.W.findIn K (.ref (He.ga K "Open")) "__init__" = some (some (.ref (He.ma K (He.ga K "Open") "__init__")))),
  fun K => PySem.W.isFn K (.ref (He.ma K (He.ga K "Open") "__init__")),
  fun K => PySem.W.plainGet K (He.ga K "Open") Str.empty,
  fun K => PySem.W.hasDictIn K (He.ga K "Open"),
  fun K => PySem.W.plainOver K (He.ga K "Open"),
  fun K => decide (PySem.W.findIn K (.ref (He.ga K "Open")) "__setattr__" = some (some (.builtin "object.__setattr__"))),
  fun K => PySem.W.makesIn K (He.ga K "Open"),
  fun K => PySem.W.keepIn K (.ref (He.ga K "Open")),
  fun K => decide (PySem.W.findIn K (.ref (He.ga K "Open")) "word" = some none)]
def exQ16 : List Ask := [
  fun K => decide (PySem.W.findIn K (.ref (He.ga K "Open")) "name" = some none),
  fun K => decide (PySem.W.findIn K (.ref (He.ga K "Open")) "__str__" = some (some (.ref (He.ma K (He.ga K "Open") "__str__")))),
  fun K => PySem.W.isFn K (.ref (He.ma K (He.ga K "Open") "__str__")),
  fun K => decide (PySem.W.nsIn K mainGlobals "read_number" = some (some (.ref (He.ga K "read_number")))),
  fun K => decide (PySem.W.nsIn K mainGlobals "row_of_two" = some (some (.ref (He.ga K "row_of_two")))),
  fun K => decide (PySem.W.nsIn K mainGlobals "row_of_three" = some (some (.ref (He.ga K "row_of_three")))),
  fun K => decide (PySem.W.nsIn K mainGlobals "read_row" = some (some (.ref (He.ga K "read_row")))),
  fun K => decide (PySem.W.nsIn K mainGlobals "Row" = some (some (.ref (He.ga K "Row")))),
  fun K => decide (PySem.W.nsIn K mainGlobals "is_sequence" = some (some (.ref (He.ga K "is_sequence")))),
  fun K => decide (PySem.W.nsIn K mainGlobals "InvalidPart" = some (some (.ref (He.ga K "InvalidPart"))))]
def exQ17 : List Ask := [
  fun K => excQ K (He.ga K "InvalidPart") "ValueError.__new__",
  fun K => decide (PySem.W.findIn K (.ref (He.ga K "InvalidPart")) "__setattr__" = some (some (.builtin "object.__setattr__"))),
  fun K => decide (PySem.W.findIn K (.ref (He.ga K "InvalidPart")) "__getattribute__" = some (some (.builtin "BaseException.__getattribute__"))),
  fun K => decide (PySem.W.findIn K (.ref (He.ga K "InvalidPart")) "__getattr__" = some (none)),
  fun K => decide (PySem.W.findIn K (.ref (He.ga K "InvalidPart")) "word" = some (none)),
  fun K => decide (PySem.W.findIn K (.ref (He.ga K "InvalidPart")) "__init__" = some (some (.ref (He.ma K (He.ga K "InvalidPart") "__init__")))),
  fun K => decide (PySem.W.findIn K (.ref (He.ga K "InvalidPart")) "__class__" = some (some (.builtin "object.__class__"))),
  fun K => decide (PySem.W.typeIn K (.ref (He.ma K (He.ga K "InvalidPart") "__init__")) = some (.type "function")),
  fun K => PySem.W.keepIn K (.ref (He.ga K "InvalidPart")),
  fun K => decide (PySem.W.subIn K (.ref (He.ga K "InvalidPart")) (.type "BaseException") = some true)]
def exQ18 : List Ask := [
  fun K => decide (PySem.W.typeIn K (.ref (He.ga K "InvalidPart")) = some (.type "type")),
  fun K => PySem.W.hasDictIn K (He.ga K "InvalidPart"),
  fun K => PySem.W.isClsIn K (He.ga K "InvalidPart"),
  fun K => decide (PySem.W.subIn K (.ref (He.ga K "InvalidPart")) (.ref (He.ga K "InvalidPart")) = some true),
  fun K => decide (PySem.W.mroIn K (He.ga K "InvalidPart") (.type "object") = some true),
  fun K => decide (PySem.W.nsIn K mainGlobals "Part" = some (some (.ref (He.ga K "Part")))),
  fun K => decide (PySem.W.findIn K (.ref (He.ga K "Part")) "__init__" = some (some (.ref (He.ma K (He.ga K "Part") "__init__")))),
  fun K => PySem.W.isFn K (.ref (He.ma K (He.ga K "Part") "__init__")),
  fun K => tupQ K (He.dflAt ("Part", some "__init__") 0 K) [],
  fun K => PySem.W.plainGet K (He.ga K "Part") Str.empty]
def exQ19 : List Ask := [
  fun K => PySem.W.hasDictIn K (He.ga K "Part"),
  fun K => PySem.W.plainOver K (He.ga K "Part"),
  fun K => decide (PySem.W.findIn K (.ref (He.ga K "Part")) "__setattr__" = some (some (.builtin "object.__setattr__"))),
  fun K => PySem.W.makesIn K (He.ga K "Part"),
  fun K => PySem.W.keepIn K (.ref (He.ga K "Part")),
  fun K => decide (PySem.W.findIn K (.ref (He.ga K "Part")) "name" = some none),
  fun K => decide (PySem.W.findIn K (.ref (He.ga K "Part")) "rows" = some none),
  fun K => decide (PySem.W.findIn K (.ref (He.ga K "Part")) "__str__" = some (some (.ref (He.ma K (He.ga K "Part") "__str__")))),
  fun K => PySem.W.isFn K (.ref (He.ma K (He.ga K "Part") "__str__")),
  fun K => decide (PySem.W.findIn K (.ref (He.ga K "Part")) "__eq__" = some (some (.ref (He.ma K (He.ga K "Part") "__eq__"))))]
def exQ20 : List Ask := [
  fun K => PySem.W.isFn K (.ref (He.ma K (He.ga K "Part") "__eq__")),
  fun K => decide (PySem.W.nsIn K mainGlobals "COUNTING_WORDS" = some (some (.ref (He.ga K "COUNTING_WORDS")))),
  fun K => He.tupB K "COUNTING_WORDS" [.str "note", .str "skip", .str "set", .str "keep", .str "back"],
  fun K => decide (PySem.W.nsIn K mainGlobals "is_pair" = some (some (.ref (He.ga K "is_pair")))),
  fun K => decide (PySem.W.nsIn K mainGlobals "are_counters" = some (some (.ref (He.ga K "are_counters")))),
  fun K => decide (PySem.W.nsIn K mainGlobals "are_parts" = some (some (.ref (He.ga K "are_parts")))),
  fun K => decide (PySem.W.nsIn K mainGlobals "counters_are_known" = some (some (.ref (He.ga K "counters_are_known")))),
  fun K => decide (PySem.W.nsIn K mainGlobals "names_put" = some (some (.ref (He.ga K "names_put")))),
  fun K => decide (PySem.W.nsIn K mainGlobals "puts_are_earlier" = some (some (.ref (He.ga K "puts_are_earlier")))),
  fun K => decide (PySem.W.nsIn K mainGlobals "names_reached" = some (some (.ref (He.ga K "names_reached"))))]
def exQ21 : List Ask := [
  fun K => decide (PySem.W.nsIn K mainGlobals "unroll" = some (some (.ref (He.ga K "unroll")))),
  fun K => decide (PySem.W.nsIn K mainGlobals "unrolled_text" = some (some (.ref (He.ga K "unrolled_text")))),
  fun K => decide (PySem.W.nsIn K mainGlobals "refs_are_known" = some (some (.ref (He.ga K "refs_are_known")))),
  fun K => decide (PySem.W.nsIn K mainGlobals "Book" = some (some (.ref (He.ga K "Book")))),
  fun K => decide (PySem.W.findIn K (.ref (He.ga K "Book")) "__init__" = some (some (.ref (He.ma K (He.ga K "Book") "__init__")))),
  fun K => PySem.W.isFn K (.ref (He.ma K (He.ga K "Book") "__init__")),
  fun K => PySem.W.plainGet K (He.ga K "Book") Str.empty,
  fun K => PySem.W.hasDictIn K (He.ga K "Book"),
  fun K => PySem.W.plainOver K (He.ga K "Book"),
  fun K => decide (PySem.W.findIn K (.ref (He.ga K "Book")) "__setattr__" = some (some (.builtin "object.__setattr__")))]
def exQ22 : List Ask := [
  fun K => PySem.W.makesIn K (He.ga K "Book"),
  fun K => PySem.W.keepIn K (.ref (He.ga K "Book")),
  fun K => decide (PySem.W.findIn K (.ref (He.ga K "Book")) "counters" = some none),
  fun K => decide (PySem.W.findIn K (.ref (He.ga K "Book")) "parts" = some none),
  fun K => decide (PySem.W.findIn K (.ref (He.ga K "Book")) "flat" = some none),
  fun K => propQ K (He.ga K "Book") "names",
  fun K => propQ K (He.ga K "Book") "tops",
  fun K => propQ K (He.ga K "Book") "unrolled",
  fun K => decide (PySem.W.findIn K (.ref (He.ga K "Book")) "chain" = some (some (.ref (He.ma K (He.ga K "Book") "chain")))),
  fun K => PySem.W.isFn K (.ref (He.ma K (He.ga K "Book") "chain"))]
def exQ23 : List Ask := [
  fun K => decide (PySem.W.nsIn K mainGlobals "read_counter" = some (some (.ref (He.ga K "read_counter")))),
  fun K => decide (PySem.W.nsIn K mainGlobals "read_counters" = some (some (.ref (He.ga K "read_counters")))),
  fun K => decide (PySem.W.nsIn K mainGlobals "is_part_line" = some (some (.ref (He.ga K "is_part_line")))),
  fun K => decide (PySem.W.nsIn K mainGlobals "read_line" = some (some (.ref (He.ga K "read_line")))),
  fun K => decide (PySem.W.nsIn K mainGlobals "read_parts" = some (some (.ref (He.ga K "read_parts")))),
  fun K => cmethQ K (He.ga K "Book") "read",
  fun K => decide (PySem.W.nsIn K mainGlobals "InvalidFilling" = some (some (.ref (He.ga K "InvalidFilling")))),
  fun K => excQ K (He.ga K "InvalidFilling") "ValueError.__new__",
  fun K => decide (PySem.W.findIn K (.ref (He.ga K "InvalidFilling")) "__setattr__" = some (some (.builtin "object.__setattr__"))),
  fun K => decide (PySem.W.findIn K (.ref (He.ga K "InvalidFilling")) "__getattribute__" = some (some (.builtin "BaseException.__getattribute__")))]
def exQ24 : List Ask := [
  fun K => decide (PySem.W.findIn K (.ref (He.ga K "InvalidFilling")) "__getattr__" = some (none)),
  fun K => decide (PySem.W.findIn K (.ref (He.ga K "InvalidFilling")) "word" = some (none)),
  fun K => decide (PySem.W.findIn K (.ref (He.ga K "InvalidFilling")) "__init__" = some (some (.ref (He.ma K (He.ga K "InvalidFilling") "__init__")))),
  fun K => decide (PySem.W.findIn K (.ref (He.ga K "InvalidFilling")) "__class__" = some (some (.builtin "object.__class__"))),
  fun K => decide (PySem.W.typeIn K (.ref (He.ma K (He.ga K "InvalidFilling") "__init__")) = some (.type "function")),
  fun K => PySem.W.keepIn K (.ref (He.ga K "InvalidFilling")),
  fun K => decide (PySem.W.subIn K (.ref (He.ga K "InvalidFilling")) (.type "BaseException") = some true),
  fun K => decide (PySem.W.typeIn K (.ref (He.ga K "InvalidFilling")) = some (.type "type")),
  fun K => PySem.W.hasDictIn K (He.ga K "InvalidFilling"),
  fun K => PySem.W.isClsIn K (He.ga K "InvalidFilling")]
def exQ25 : List Ask := [
  fun K => decide (PySem.W.subIn K (.ref (He.ga K "InvalidFilling")) (.ref (He.ga K "InvalidFilling")) = some true),
  fun K => decide (PySem.W.mroIn K (He.ga K "InvalidFilling") (.type "object") = some true),
  fun K => decide (PySem.W.nsIn K mainGlobals "Filling" = some (some (.ref (He.ga K "Filling")))),
  fun K => decide (PySem.W.findIn K (.ref (He.ga K "Filling")) "__init__" = some (some (.ref (He.ma K (He.ga K "Filling") "__init__")))),
  fun K => PySem.W.isFn K (.ref (He.ma K (He.ga K "Filling") "__init__")),
  fun K => tupQ K (He.dflAt ("Filling", some "__init__") 0 K) [],
  fun K => PySem.W.plainGet K (He.ga K "Filling") Str.empty,
  fun K => PySem.W.hasDictIn K (He.ga K "Filling"),
  fun K => PySem.W.plainOver K (He.ga K "Filling"),
  fun K => decide (PySem.W.findIn K (.ref (He.ga K "Filling")) "__setattr__" = some (some (.builtin "object.__setattr__")))]
def exQ26 : List Ask := [
  fun K => PySem.W.makesIn K (He.ga K "Filling"),
  fun K => PySem.W.keepIn K (.ref (He.ga K "Filling")),
  fun K => decide (PySem.W.findIn K (.ref (He.ga K "Filling")) "filled" = some none),
  fun K => decide (PySem.W.findIn K (.ref (He.ga K "Filling")) "rows_for" = some (some (.ref (He.ma K (He.ga K "Filling") "rows_for")))),
  fun K => PySem.W.isFn K (.ref (He.ma K (He.ga K "Filling") "rows_for")),
  fun K => decide (PySem.W.findIn K (.ref (He.ga K "Filling")) "__str__" = some (some (.ref (He.ma K (He.ga K "Filling") "__str__")))),
  fun K => PySem.W.isFn K (.ref (He.ma K (He.ga K "Filling") "__str__")),
  fun K => decide (PySem.W.findIn K (.ref (He.ga K "Filling")) "__eq__" = some (some (.ref (He.ma K (He.ga K "Filling") "__eq__")))),
  fun K => PySem.W.isFn K (.ref (He.ma K (He.ga K "Filling") "__eq__")),
  fun K => propQ K (He.ga K "Filling") "names"]
def exQ27 : List Ask := [
  fun K => decide (PySem.W.nsIn K mainGlobals "are_fillable" = some (some (.ref (He.ga K "are_fillable")))),
  fun K => decide (PySem.W.nsIn K mainGlobals "is_filled" = some (some (.ref (He.ga K "is_filled")))),
  fun K => decide (PySem.W.nsIn K mainGlobals "filled_text" = some (some (.ref (He.ga K "filled_text")))),
  fun K => decide (PySem.W.nsIn K mainGlobals "SAME_NUMBER" = some (some (.ref (He.ga K "SAME_NUMBER")))),
  fun K => He.tupB K "SAME_NUMBER" [.str "now", .int 0],
  fun K => decide (PySem.W.nsIn K mainGlobals "SAME_BOX" = some (some (.ref (He.ga K "SAME_BOX")))),
  fun K => He.tupB K "SAME_BOX" [.str "box", .int 0],
  fun K => decide (PySem.W.nsIn K mainGlobals "STAY" = some (some (.ref (He.ga K "STAY")))),
  fun K => stayQ K (He.ga K "STAY"),
  fun K => decide (PySem.W.nsIn K mainGlobals "AT_FIRST" = some (some (.ref (He.ga K "AT_FIRST"))))]
def exQ28 : List Ask := [
  fun K => He.tupB K "AT_FIRST" [.int 0, .int 0],
  fun K => decide (PySem.W.nsIn K mainGlobals "going_on" = some (some (.ref (He.ga K "going_on")))),
  fun K => decide (PySem.W.nsIn K mainGlobals "own_step" = some (some (.ref (He.ga K "own_step")))),
  fun K => decide (PySem.W.nsIn K mainGlobals "step_of" = some (some (.ref (He.ga K "step_of")))),
  fun K => decide (PySem.W.nsIn K mainGlobals "reckoned" = some (some (.ref (He.ga K "reckoned")))),
  fun K => decide (PySem.W.nsIn K mainGlobals "done" = some (some (.ref (He.ga K "done")))),
  fun K => decide (PySem.W.nsIn K mainGlobals "note_told" = some (some (.ref (He.ga K "note_told")))),
  fun K => decide (PySem.W.nsIn K mainGlobals "links" = some (some (.ref (He.ga K "links")))),
  fun K => decide (PySem.W.nsIn K mainGlobals "need_counters" = some (some (.ref (He.ga K "need_counters")))),
  fun K => decide (PySem.W.nsIn K mainGlobals "filled_rows" = some (some (.ref (He.ga K "filled_rows"))))]
def exQ29 : List Ask := [
  fun K => decide (PySem.W.nsIn K mainGlobals "play" = some (some (.ref (He.ga K "play")))),
  fun K => decide (PySem.W.nsIn K mainGlobals "Played" = some (some (.ref (He.ga K "Played")))),
  fun K => decide (PySem.W.findIn K (.ref (He.ga K "Played")) "__init__" = some (some (.ref (He.ma K (He.ga K "Played") "__init__")))),
  fun K => PySem.W.isFn K (.ref (He.ma K (He.ga K "Played") "__init__")),
  fun K => PySem.W.plainGet K (He.ga K "Played") Str.empty,
  fun K => PySem.W.hasDictIn K (He.ga K "Played"),
  fun K => PySem.W.plainOver K (He.ga K "Played"),
  fun K => decide (PySem.W.findIn K (.ref (He.ga K "Played")) "__setattr__" = some (some (.builtin "object.__setattr__"))),
  fun K => PySem.W.makesIn K (He.ga K "Played"),
  fun K => PySem.W.keepIn K (.ref (He.ga K "Played"))]
def exQ30 : List Ask := [
  fun K => decide (PySem.W.findIn K (.ref (He.ga K "Played")) "notes" = some none),
  fun K => decide (PySem.W.findIn K (.ref (He.ga K "Played")) "refs" = some none),
  fun K => decide (PySem.W.findIn K (.ref (He.ga K "Played")) "ends" = some none),
  fun K => decide (PySem.W.nsIn K mainGlobals "_law_deal" = some (some (.ref (He.ga K "_law_deal")))),
  fun K => decide (PySem.W.nsIn K mainGlobals "_law_draw" = some (some (.ref (He.ga K "_law_draw")))),
  fun K => decide (PySem.W.nsIn K mainGlobals "_law_mixed" = some (some (.ref (He.ga K "_law_mixed")))),
  fun K => decide (PySem.W.nsIn K mainGlobals "_law_names" = some (some (.ref (He.ga K "_law_names")))),
  fun K => decide (PySem.W.nsIn K mainGlobals "law" = some (some (.ref (He.ga K "law")))),
  fun K => decide (PySem.W.specialIn K (.builtin "object.__class__") "__get__" = some (some (.builtin "getset_descriptor.__get__"))),
  fun K => decide (PySem.W.takesIn K (.builtin "object.__class__") = some true)]
def exQ31 : List Ask := [
  fun K => decide (PySem.W.kitOne K (.type "NoneType") (.ref (He.ga K "Row")) = some false),
  fun K => decide (PySem.W.kitOne K (.type "bool") (.ref (He.ga K "Row")) = some false),
  fun K => decide (PySem.W.kitOne K (.type "int") (.ref (He.ga K "Row")) = some false),
  fun K => decide (PySem.W.kitOne K (.type "str") (.ref (He.ga K "Row")) = some false),
  fun K => decide (PySem.W.kitOne K (.type "list") (.ref (He.ga K "Row")) = some false),
  fun K => decide (PySem.W.kitOne K (.type "tuple") (.ref (He.ga K "Row")) = some false),
  fun K => decide (PySem.W.kitOne K (.type "dict") (.ref (He.ga K "Row")) = some false),
  fun K => decide (PySem.W.kitOne K (.ref (He.ga K "Note")) (.ref (He.ga K "Row")) = some true),
  fun K => decide (PySem.W.findIn K (.ref (He.ga K "Note")) "__class__" = some (some (.builtin "object.__class__"))),
  fun K => decide (PySem.W.mroIn K (He.ga K "Note") (.type "object") = some true)]
def exQ32 : List Ask := [
  fun K => decide (PySem.W.kitOne K (.ref (He.ga K "Skip")) (.ref (He.ga K "Row")) = some true),
  fun K => decide (PySem.W.findIn K (.ref (He.ga K "Skip")) "__class__" = some (some (.builtin "object.__class__"))),
  fun K => decide (PySem.W.mroIn K (He.ga K "Skip") (.type "object") = some true),
  fun K => decide (PySem.W.kitOne K (.ref (He.ga K "Set")) (.ref (He.ga K "Row")) = some true),
  fun K => decide (PySem.W.findIn K (.ref (He.ga K "Set")) "__class__" = some (some (.builtin "object.__class__"))),
  fun K => decide (PySem.W.mroIn K (He.ga K "Set") (.type "object") = some true),
  fun K => decide (PySem.W.kitOne K (.ref (He.ga K "Keep")) (.ref (He.ga K "Row")) = some true),
  fun K => decide (PySem.W.findIn K (.ref (He.ga K "Keep")) "__class__" = some (some (.builtin "object.__class__"))),
  fun K => decide (PySem.W.mroIn K (He.ga K "Keep") (.type "object") = some true),
  fun K => decide (PySem.W.kitOne K (.ref (He.ga K "Back")) (.ref (He.ga K "Row")) = some true)]
def exQ33 : List Ask := [
  fun K => decide (PySem.W.findIn K (.ref (He.ga K "Back")) "__class__" = some (some (.builtin "object.__class__"))),
  fun K => decide (PySem.W.mroIn K (He.ga K "Back") (.type "object") = some true),
  fun K => decide (PySem.W.kitOne K (.ref (He.ga K "Ref")) (.ref (He.ga K "Row")) = some true),
  fun K => decide (PySem.W.findIn K (.ref (He.ga K "Ref")) "__class__" = some (some (.builtin "object.__class__"))),
  fun K => decide (PySem.W.mroIn K (He.ga K "Ref") (.type "object") = some true),
  fun K => decide (PySem.W.kitOne K (.ref (He.ga K "Put")) (.ref (He.ga K "Row")) = some true),
  fun K => decide (PySem.W.findIn K (.ref (He.ga K "Put")) "__class__" = some (some (.builtin "object.__class__"))),
  fun K => decide (PySem.W.mroIn K (He.ga K "Put") (.type "object") = some true),
  fun K => decide (PySem.W.kitOne K (.ref (He.ga K "Open")) (.ref (He.ga K "Row")) = some true),
  fun K => decide (PySem.W.findIn K (.ref (He.ga K "Open")) "__class__" = some (some (.builtin "object.__class__")))]
def exQ34 : List Ask := [
  fun K => decide (PySem.W.mroIn K (He.ga K "Open") (.type "object") = some true),
  fun K => decide (PySem.W.findIn K (.ref (He.ga K "Part")) "__class__" = some (some (.builtin "object.__class__"))),
  fun K => decide (PySem.W.mroIn K (He.ga K "Part") (.type "object") = some true),
  fun K => decide (PySem.W.findIn K (.ref (He.ga K "Part")) "__ne__" = some (some (.builtin "object.__ne__"))),
  fun K => decide (PySem.W.kitOne K (.ref (He.ga K "Part")) (.ref (He.ga K "Part")) = some true),
  fun K => decide (PySem.W.kitOne K (.type "str") (.ref (He.ga K "Part")) = some false),
  fun K => PySem.W.notFirst K (He.ga K "Part") (.ref (He.ga K "Part")),
  fun K => PySem.W.notFirst K (He.ga K "Part") (.type "str"),
  fun K => decide (PySem.W.kitAny K (.ref (He.ga K "Note")) [.ref (He.ga K "Skip"), .ref (He.ga K "Set")] = some false),
  fun K => decide (PySem.W.kitAny K (.ref (He.ga K "Note")) [.type "list", .type "tuple"] = some false)]
def exQ35 : List Ask := [
  fun K => decide (PySem.W.kitAny K (.ref (He.ga K "Skip")) [.ref (He.ga K "Skip"), .ref (He.ga K "Set")] = some true),
  fun K => decide (PySem.W.kitAny K (.ref (He.ga K "Skip")) [.type "list", .type "tuple"] = some false),
  fun K => decide (PySem.W.kitAny K (.ref (He.ga K "Set")) [.ref (He.ga K "Skip"), .ref (He.ga K "Set")] = some true),
  fun K => decide (PySem.W.kitAny K (.ref (He.ga K "Set")) [.type "list", .type "tuple"] = some false),
  fun K => decide (PySem.W.kitAny K (.ref (He.ga K "Keep")) [.ref (He.ga K "Skip"), .ref (He.ga K "Set")] = some false),
  fun K => decide (PySem.W.kitAny K (.ref (He.ga K "Keep")) [.type "list", .type "tuple"] = some false),
  fun K => decide (PySem.W.kitAny K (.ref (He.ga K "Back")) [.ref (He.ga K "Skip"), .ref (He.ga K "Set")] = some false),
  fun K => decide (PySem.W.kitAny K (.ref (He.ga K "Back")) [.type "list", .type "tuple"] = some false),
  fun K => decide (PySem.W.kitAny K (.ref (He.ga K "Ref")) [.ref (He.ga K "Skip"), .ref (He.ga K "Set")] = some false),
  fun K => decide (PySem.W.kitAny K (.ref (He.ga K "Ref")) [.type "list", .type "tuple"] = some false)]
def exQ36 : List Ask := [
  fun K => decide (PySem.W.kitAny K (.ref (He.ga K "Put")) [.ref (He.ga K "Skip"), .ref (He.ga K "Set")] = some false),
  fun K => decide (PySem.W.kitAny K (.ref (He.ga K "Put")) [.type "list", .type "tuple"] = some false),
  fun K => decide (PySem.W.kitAny K (.ref (He.ga K "Open")) [.ref (He.ga K "Skip"), .ref (He.ga K "Set")] = some false),
  fun K => decide (PySem.W.kitAny K (.ref (He.ga K "Open")) [.type "list", .type "tuple"] = some false),
  fun K => decide (PySem.W.kitAny K (.type "NoneType") [.ref (He.ga K "Skip"), .ref (He.ga K "Set")] = some false),
  fun K => decide (PySem.W.kitAny K (.type "bool") [.ref (He.ga K "Skip"), .ref (He.ga K "Set")] = some false),
  fun K => decide (PySem.W.kitAny K (.type "int") [.ref (He.ga K "Skip"), .ref (He.ga K "Set")] = some false),
  fun K => decide (PySem.W.kitAny K (.type "str") [.ref (He.ga K "Skip"), .ref (He.ga K "Set")] = some false),
  fun K => decide (PySem.W.kitAny K (.type "list") [.ref (He.ga K "Skip"), .ref (He.ga K "Set")] = some false),
  fun K => decide (PySem.W.kitAny K (.type "tuple") [.ref (He.ga K "Skip"), .ref (He.ga K "Set")] = some false)]
def exQ37 : List Ask := [
  fun K => decide (PySem.W.kitAny K (.type "dict") [.ref (He.ga K "Skip"), .ref (He.ga K "Set")] = some false),
  fun K => decide (PySem.W.findIn K (.ref (He.ga K "Filling")) "__class__" = some (some (.builtin "object.__class__"))),
  fun K => decide (PySem.W.mroIn K (He.ga K "Filling") (.type "object") = some true),
  fun K => decide (PySem.W.kitOne K (.ref (He.ga K "Filling")) (.ref (He.ga K "Filling")) = some true),
  fun K => decide (PySem.W.kitOne K (.type "NoneType") (.ref (He.ga K "Filling")) = some false),
  fun K => decide (PySem.W.kitOne K (.type "bool") (.ref (He.ga K "Filling")) = some false),
  fun K => decide (PySem.W.kitOne K (.type "int") (.ref (He.ga K "Filling")) = some false),
  fun K => decide (PySem.W.kitOne K (.type "str") (.ref (He.ga K "Filling")) = some false),
  fun K => decide (PySem.W.kitOne K (.type "list") (.ref (He.ga K "Filling")) = some false),
  fun K => decide (PySem.W.kitOne K (.type "tuple") (.ref (He.ga K "Filling")) = some false)]
def exQ38 : List Ask := [
  fun K => decide (PySem.W.kitOne K (.type "dict") (.ref (He.ga K "Filling")) = some false),
  fun K => decide (PySem.W.exmOne K (.ref (He.ga K "InvalidText")) (.ref (He.ga K "InvalidRow")) = some false)]
def exR0 : List (List Ask) := [exQ0, exQ1, exQ2, exQ3, exQ4, exQ5, exQ6, exQ7, exQ8, exQ9, exQ10, exQ11, exQ12, exQ13, exQ14, exQ15, exQ16, exQ17, exQ18, exQ19]
def exR1 : List (List Ask) := [exQ20, exQ21, exQ22, exQ23, exQ24, exQ25, exQ26, exQ27, exQ28, exQ29, exQ30, exQ31, exQ32, exQ33, exQ34, exQ35, exQ36, exQ37, exQ38]
def exQ : List (List Ask) := exR0 ++ exR1
theorem facts {P : Program} {w : World} {K : PySem.W.Frag} {h : Heap} {mg : Str → Option Value} {fa : Addr} (X : K.In h) (G : h.Ns mainGlobals mg) (hfa : mg ("law" : Str) = some (.ref fa)) (c : askQ fnQ exQ K = toldQ fnQ) :
    ∃ fd : FuncData, (∀ (s : Shared) (v : Value), BindsTo s fd ⟨[v], []⟩ [("_law_script", v)]) ∧ ∀ base : Heap, K.In base → base.Ns mainGlobals mg → FnOk P w K mg base CX0 14 fa fd ["_law_script"] (spLaw20 K) := by
  have zint : PySem.W.nsIn K mainGlobals "int" = some none := of_decide_eq_true (told_at c 0 0)
  have zbool : PySem.W.nsIn K mainGlobals "bool" = some none := of_decide_eq_true (told_at c 0 1)
  have zstr : PySem.W.nsIn K mainGlobals "str" = some none := of_decide_eq_true (told_at c 0 2)
  have zisinstance : PySem.W.nsIn K mainGlobals "isinstance" = some none := of_decide_eq_true (told_at c 0 3)
  have zlen : PySem.W.nsIn K mainGlobals "len" = some none := of_decide_eq_true (told_at c 0 4)
  have zall : PySem.W.nsIn K mainGlobals "all" = some none := of_decide_eq_true (told_at c 0 5)
  have zabs : PySem.W.nsIn K mainGlobals "abs" = some none := of_decide_eq_true (told_at c 0 6)
  have zrange : PySem.W.nsIn K mainGlobals "range" = some none := of_decide_eq_true (told_at c 0 7)
  have zlist : PySem.W.nsIn K mainGlobals "list" = some none := of_decide_eq_true (told_at c 0 8)
  have ztuple : PySem.W.nsIn K mainGlobals "tuple" = some none := of_decide_eq_true (told_at c 0 9)
  have zset : PySem.W.nsIn K mainGlobals "set" = some none := of_decide_eq_true (told_at c 1 0)
  have zreversed : PySem.W.nsIn K mainGlobals "reversed" = some none := of_decide_eq_true (told_at c 1 1)
  have zsorted : PySem.W.nsIn K mainGlobals "sorted" = some none := of_decide_eq_true (told_at c 1 2)
  have zdict : PySem.W.nsIn K mainGlobals "dict" = some none := of_decide_eq_true (told_at c 1 3)
  have zenumerate : PySem.W.nsIn K mainGlobals "enumerate" = some none := of_decide_eq_true (told_at c 1 4)
  have aROWWORDS : PySem.W.nsIn K mainGlobals "ROW_WORDS" = some (some (.ref (He.ga K "ROW_WORDS"))) := of_decide_eq_true (told_at c 1 5)
  have SROWWORDS : ∀ H : Hp, SqT K H (He.ga K "ROW_WORDS") [.str "note", .str "skip", .str "set", .str "keep", .str "back", .str "ref", .str "put", .str "open", .str "part"] := fun H => He.tupB_ok (x := "ROW_WORDS") (vs := [.str "note", .str "skip", .str "set", .str "keep", .str "back", .str "ref", .str "put", .str "open", .str "part"]) (told_at c 1 6) H
  obtain ⟨tkLONGESTNAME, ILONGESTNAME⟩ := He.int_ok X G (x := "LONGEST_NAME") (i := 4) (told_at c 1 7)
  obtain ⟨tkMOSTDIGITS, IMOSTDIGITS⟩ := He.int_ok X G (x := "MOST_DIGITS") (i := 10) (told_at c 1 8)
  have aisinteger : PySem.W.nsIn K mainGlobals "is_integer" = some (some (.ref (He.ga K "is_integer"))) := of_decide_eq_true (told_at c 1 9)
  obtain ⟨fdisinteger, Yisinteger⟩ := told_fn c 0
  have Xisinteger : Fun K "is_integer" "is_integer" sIsInteger (He.ga K "is_integer") fdisinteger := fun_of Yisinteger
  have aisnumber : PySem.W.nsIn K mainGlobals "is_number" = some (some (.ref (He.ga K "is_number"))) := of_decide_eq_true (told_at c 2 0)
  obtain ⟨fdisnumber, Yisnumber⟩ := told_fn c 1
  have Xisnumber : Fun K "is_number" "is_number" sIsNumber (He.ga K "is_number") fdisnumber := fun_of Yisnumber
  have aisname : PySem.W.nsIn K mainGlobals "is_name" = some (some (.ref (He.ga K "is_name"))) := of_decide_eq_true (told_at c 2 1)
  obtain ⟨fdisname, Yisname⟩ := told_fn c 2
  have Xisname : Fun K "is_name" "is_name" sIsName (He.ga K "is_name") fdisname := fun_of Yisname
  have aNoteError : PySem.W.nsIn K mainGlobals "NoteError" = some (some (.ref (He.ga K "NoteError"))) := of_decide_eq_true (told_at c 2 2)
  have aInvalidRow : PySem.W.nsIn K mainGlobals "InvalidRow" = some (some (.ref (He.ga K "InvalidRow"))) := of_decide_eq_true (told_at c 2 3)
  have xInvalidRow := excQ_ok (K := K) (C := (He.ga K "InvalidRow")) (nid := "ValueError.__new__") (told_at c 2 4)
  have saInvalidRow : PySem.W.findIn K (.ref (He.ga K "InvalidRow")) "__setattr__" = some (some (.builtin "object.__setattr__")) := of_decide_eq_true (told_at c 2 5)
  have gaInvalidRow : PySem.W.findIn K (.ref (He.ga K "InvalidRow")) "__getattribute__" = some (some (.builtin "BaseException.__getattribute__")) := of_decide_eq_true (told_at c 2 6)
  have ggInvalidRow : PySem.W.findIn K (.ref (He.ga K "InvalidRow")) "__getattr__" = some (none) := of_decide_eq_true (told_at c 2 7)
  have nfInvalidRow : PySem.W.findIn K (.ref (He.ga K "InvalidRow")) "word" = some (none) := of_decide_eq_true (told_at c 2 8)
  have inInvalidRow : PySem.W.findIn K (.ref (He.ga K "InvalidRow")) "__init__" = some (some (.ref (He.ma K (He.ga K "InvalidRow") "__init__"))) := of_decide_eq_true (told_at c 2 9)
  have haInvalidRow : PySem.W.findIn K (.ref (He.ga K "InvalidRow")) "__class__" = some (some (.builtin "object.__class__")) := of_decide_eq_true (told_at c 3 0)
  have tiInvalidRow : PySem.W.typeIn K (.ref (He.ma K (He.ga K "InvalidRow") "__init__")) = some (.type "function") := of_decide_eq_true (told_at c 3 1)
  obtain ⟨fdInvalidRow, YInvalidRow⟩ := told_fn c 3
  have XInvalidRow : Fun K "__init__" "InvalidRow.__init__" sIRInit (He.ma K (He.ga K "InvalidRow") "__init__") fdInvalidRow := fun_of YInvalidRow
  have kcInvalidRow : PySem.W.keepIn K (.ref (He.ga K "InvalidRow")) = true := (told_at c 3 2)
  have eCInvalidRow : PySem.W.subIn K (.ref (He.ga K "InvalidRow")) (.type "BaseException") = some true := of_decide_eq_true (told_at c 3 3)
  have tCInvalidRow : PySem.W.typeIn K (.ref (He.ga K "InvalidRow")) = some (.type "type") := of_decide_eq_true (told_at c 3 4)
  have hCInvalidRow : PySem.W.hasDictIn K (He.ga K "InvalidRow") = true := (told_at c 3 5)
  have iCInvalidRow : PySem.W.isClsIn K (He.ga K "InvalidRow") = true := (told_at c 3 6)
  have sCInvalidRow : PySem.W.subIn K (.ref (He.ga K "InvalidRow")) (.ref (He.ga K "InvalidRow")) = some true := of_decide_eq_true (told_at c 3 7)
  have hmInvalidRow : PySem.W.mroIn K (He.ga K "InvalidRow") (.type "object") = some true := of_decide_eq_true (told_at c 3 8)
  have aInvalidText : PySem.W.nsIn K mainGlobals "InvalidText" = some (some (.ref (He.ga K "InvalidText"))) := of_decide_eq_true (told_at c 3 9)
  have xInvalidText := excQ_ok (K := K) (C := (He.ga K "InvalidText")) (nid := "ValueError.__new__") (told_at c 4 0)
  have saInvalidText : PySem.W.findIn K (.ref (He.ga K "InvalidText")) "__setattr__" = some (some (.builtin "object.__setattr__")) := of_decide_eq_true (told_at c 4 1)
  have gaInvalidText : PySem.W.findIn K (.ref (He.ga K "InvalidText")) "__getattribute__" = some (some (.builtin "BaseException.__getattribute__")) := of_decide_eq_true (told_at c 4 2)
  have ggInvalidText : PySem.W.findIn K (.ref (He.ga K "InvalidText")) "__getattr__" = some (none) := of_decide_eq_true (told_at c 4 3)
  have nfInvalidText : PySem.W.findIn K (.ref (He.ga K "InvalidText")) "at" = some (none) := of_decide_eq_true (told_at c 4 4)
  have inInvalidText : PySem.W.findIn K (.ref (He.ga K "InvalidText")) "__init__" = some (some (.ref (He.ma K (He.ga K "InvalidText") "__init__"))) := of_decide_eq_true (told_at c 4 5)
  have haInvalidText : PySem.W.findIn K (.ref (He.ga K "InvalidText")) "__class__" = some (some (.builtin "object.__class__")) := of_decide_eq_true (told_at c 4 6)
  have tiInvalidText : PySem.W.typeIn K (.ref (He.ma K (He.ga K "InvalidText") "__init__")) = some (.type "function") := of_decide_eq_true (told_at c 4 7)
  obtain ⟨fdInvalidText, YInvalidText⟩ := told_fn c 4
  have XInvalidText : Fun K "__init__" "InvalidText.__init__" sITInit (He.ma K (He.ga K "InvalidText") "__init__") fdInvalidText := fun_of YInvalidText
  have kcInvalidText : PySem.W.keepIn K (.ref (He.ga K "InvalidText")) = true := (told_at c 4 8)
  have eCInvalidText : PySem.W.subIn K (.ref (He.ga K "InvalidText")) (.type "BaseException") = some true := of_decide_eq_true (told_at c 4 9)
  have tCInvalidText : PySem.W.typeIn K (.ref (He.ga K "InvalidText")) = some (.type "type") := of_decide_eq_true (told_at c 5 0)
  have hCInvalidText : PySem.W.hasDictIn K (He.ga K "InvalidText") = true := (told_at c 5 1)
  have iCInvalidText : PySem.W.isClsIn K (He.ga K "InvalidText") = true := (told_at c 5 2)
  have sCInvalidText : PySem.W.subIn K (.ref (He.ga K "InvalidText")) (.ref (He.ga K "InvalidText")) = some true := of_decide_eq_true (told_at c 5 3)
  have hmInvalidText : PySem.W.mroIn K (He.ga K "InvalidText") (.type "object") = some true := of_decide_eq_true (told_at c 5 4)
  have aneedname : PySem.W.nsIn K mainGlobals "need_name" = some (some (.ref (He.ga K "need_name"))) := of_decide_eq_true (told_at c 5 5)
  obtain ⟨fdneedname, Yneedname⟩ := told_fn c 5
  have Xneedname : Fun K "need_name" "need_name" sNeedName (He.ga K "need_name") fdneedname := fun_of Yneedname
  have aNote : PySem.W.nsIn K mainGlobals "Note" = some (some (.ref (He.ga K "Note"))) := of_decide_eq_true (told_at c 5 6)
  have inNote : PySem.W.findIn K (.ref (He.ga K "Note")) "__init__" = some (some (.ref (He.ma K (He.ga K "Note") "__init__"))) := of_decide_eq_true (told_at c 5 7)
  have iNote : PySem.W.isFn K (.ref (He.ma K (He.ga K "Note") "__init__")) = true := (told_at c 5 8)
  obtain ⟨fdNote, YNote⟩ := told_fn c 6
  have FNote : FunD K "__init__" "Note.__init__" (defArgs sNoteInit) (defBody sNoteInit) (defScope sNoteInit) [.str ""] [] (He.ma K (He.ga K "Note") "__init__") fdNote := YNote
  have pgNote : PySem.W.plainGet K (He.ga K "Note") Str.empty = true := (told_at c 5 9)
  have hdNote : PySem.W.hasDictIn K (He.ga K "Note") = true := (told_at c 6 0)
  have poNote : PySem.W.plainOver K (He.ga K "Note") = true := (told_at c 6 1)
  have saNote : PySem.W.findIn K (.ref (He.ga K "Note")) "__setattr__" = some (some (.builtin "object.__setattr__")) := of_decide_eq_true (told_at c 6 2)
  have mkNote : PySem.W.makesIn K (He.ga K "Note") = true := (told_at c 6 3)
  have kcNote : PySem.W.keepIn K (.ref (He.ga K "Note")) = true := (told_at c 6 4)
  have nNote0 : PySem.W.findIn K (.ref (He.ga K "Note")) "word" = some none := of_decide_eq_true (told_at c 6 5)
  have nNote1 : PySem.W.findIn K (.ref (He.ga K "Note")) "counter" = some none := of_decide_eq_true (told_at c 6 6)
  have nNote2 : PySem.W.findIn K (.ref (He.ga K "Note")) "label" = some none := of_decide_eq_true (told_at c 6 7)
  have inSNote : PySem.W.findIn K (.ref (He.ga K "Note")) "__str__" = some (some (.ref (He.ma K (He.ga K "Note") "__str__"))) := of_decide_eq_true (told_at c 6 8)
  have iSNote : PySem.W.isFn K (.ref (He.ma K (He.ga K "Note") "__str__")) = true := (told_at c 6 9)
  obtain ⟨fdSNote, YSNote⟩ := told_fn c 7
  have XSNote : Fun K "__str__" "Note.__str__" sNoteStr (He.ma K (He.ga K "Note") "__str__") fdSNote := fun_of YSNote
  have aSkip : PySem.W.nsIn K mainGlobals "Skip" = some (some (.ref (He.ga K "Skip"))) := of_decide_eq_true (told_at c 7 0)
  have inSkip : PySem.W.findIn K (.ref (He.ga K "Skip")) "__init__" = some (some (.ref (He.ma K (He.ga K "Skip") "__init__"))) := of_decide_eq_true (told_at c 7 1)
  have iSkip : PySem.W.isFn K (.ref (He.ma K (He.ga K "Skip") "__init__")) = true := (told_at c 7 2)
  obtain ⟨fdSkip, YSkip⟩ := told_fn c 8
  have XSkip : Fun K "__init__" "Skip.__init__" sSkipInit (He.ma K (He.ga K "Skip") "__init__") fdSkip := fun_of YSkip
  have pgSkip : PySem.W.plainGet K (He.ga K "Skip") Str.empty = true := (told_at c 7 3)
  have hdSkip : PySem.W.hasDictIn K (He.ga K "Skip") = true := (told_at c 7 4)
  have poSkip : PySem.W.plainOver K (He.ga K "Skip") = true := (told_at c 7 5)
  have saSkip : PySem.W.findIn K (.ref (He.ga K "Skip")) "__setattr__" = some (some (.builtin "object.__setattr__")) := of_decide_eq_true (told_at c 7 6)
  have mkSkip : PySem.W.makesIn K (He.ga K "Skip") = true := (told_at c 7 7)
  have kcSkip : PySem.W.keepIn K (.ref (He.ga K "Skip")) = true := (told_at c 7 8)
  have nSkip0 : PySem.W.findIn K (.ref (He.ga K "Skip")) "word" = some none := of_decide_eq_true (told_at c 7 9)
  have nSkip1 : PySem.W.findIn K (.ref (He.ga K "Skip")) "counter" = some none := of_decide_eq_true (told_at c 8 0)
  have nSkip2 : PySem.W.findIn K (.ref (He.ga K "Skip")) "by" = some none := of_decide_eq_true (told_at c 8 1)
  have inSSkip : PySem.W.findIn K (.ref (He.ga K "Skip")) "__str__" = some (some (.ref (He.ma K (He.ga K "Skip") "__str__"))) := of_decide_eq_true (told_at c 8 2)
  have iSSkip : PySem.W.isFn K (.ref (He.ma K (He.ga K "Skip") "__str__")) = true := (told_at c 8 3)
  obtain ⟨fdSSkip, YSSkip⟩ := told_fn c 9
  have XSSkip : Fun K "__str__" "Skip.__str__" sSkipStr (He.ma K (He.ga K "Skip") "__str__") fdSSkip := fun_of YSSkip
  have aSet : PySem.W.nsIn K mainGlobals "Set" = some (some (.ref (He.ga K "Set"))) := of_decide_eq_true (told_at c 8 4)
  have inSet : PySem.W.findIn K (.ref (He.ga K "Set")) "__init__" = some (some (.ref (He.ma K (He.ga K "Set") "__init__"))) := of_decide_eq_true (told_at c 8 5)
  have iSet : PySem.W.isFn K (.ref (He.ma K (He.ga K "Set") "__init__")) = true := (told_at c 8 6)
  obtain ⟨fdSet, YSet⟩ := told_fn c 10
  have XSet : Fun K "__init__" "Set.__init__" sSetInit (He.ma K (He.ga K "Set") "__init__") fdSet := fun_of YSet
  have pgSet : PySem.W.plainGet K (He.ga K "Set") Str.empty = true := (told_at c 8 7)
  have hdSet : PySem.W.hasDictIn K (He.ga K "Set") = true := (told_at c 8 8)
  have poSet : PySem.W.plainOver K (He.ga K "Set") = true := (told_at c 8 9)
  have saSet : PySem.W.findIn K (.ref (He.ga K "Set")) "__setattr__" = some (some (.builtin "object.__setattr__")) := of_decide_eq_true (told_at c 9 0)
  have mkSet : PySem.W.makesIn K (He.ga K "Set") = true := (told_at c 9 1)
  have kcSet : PySem.W.keepIn K (.ref (He.ga K "Set")) = true := (told_at c 9 2)
  have nSet0 : PySem.W.findIn K (.ref (He.ga K "Set")) "word" = some none := of_decide_eq_true (told_at c 9 3)
  have nSet1 : PySem.W.findIn K (.ref (He.ga K "Set")) "counter" = some none := of_decide_eq_true (told_at c 9 4)
  have nSet2 : PySem.W.findIn K (.ref (He.ga K "Set")) "to" = some none := of_decide_eq_true (told_at c 9 5)
  have inSSet : PySem.W.findIn K (.ref (He.ga K "Set")) "__str__" = some (some (.ref (He.ma K (He.ga K "Set") "__str__"))) := of_decide_eq_true (told_at c 9 6)
  have iSSet : PySem.W.isFn K (.ref (He.ma K (He.ga K "Set") "__str__")) = true := (told_at c 9 7)
  obtain ⟨fdSSet, YSSet⟩ := told_fn c 11
  have XSSet : Fun K "__str__" "Set.__str__" sSetStr (He.ma K (He.ga K "Set") "__str__") fdSSet := fun_of YSSet
  have aKeep : PySem.W.nsIn K mainGlobals "Keep" = some (some (.ref (He.ga K "Keep"))) := of_decide_eq_true (told_at c 9 8)
  have inKeep : PySem.W.findIn K (.ref (He.ga K "Keep")) "__init__" = some (some (.ref (He.ma K (He.ga K "Keep") "__init__"))) := of_decide_eq_true (told_at c 9 9)
  have iKeep : PySem.W.isFn K (.ref (He.ma K (He.ga K "Keep") "__init__")) = true := (told_at c 10 0)
  obtain ⟨fdKeep, YKeep⟩ := told_fn c 12
  have XKeep : Fun K "__init__" "Keep.__init__" sKeepInit (He.ma K (He.ga K "Keep") "__init__") fdKeep := fun_of YKeep
  have pgKeep : PySem.W.plainGet K (He.ga K "Keep") Str.empty = true := (told_at c 10 1)
  have hdKeep : PySem.W.hasDictIn K (He.ga K "Keep") = true := (told_at c 10 2)
  have poKeep : PySem.W.plainOver K (He.ga K "Keep") = true := (told_at c 10 3)
  have saKeep : PySem.W.findIn K (.ref (He.ga K "Keep")) "__setattr__" = some (some (.builtin "object.__setattr__")) := of_decide_eq_true (told_at c 10 4)
  have mkKeep : PySem.W.makesIn K (He.ga K "Keep") = true := (told_at c 10 5)
  have kcKeep : PySem.W.keepIn K (.ref (He.ga K "Keep")) = true := (told_at c 10 6)
  have nKeep0 : PySem.W.findIn K (.ref (He.ga K "Keep")) "word" = some none := of_decide_eq_true (told_at c 10 7)
  have nKeep1 : PySem.W.findIn K (.ref (He.ga K "Keep")) "counter" = some none := of_decide_eq_true (told_at c 10 8)
  have inSKeep : PySem.W.findIn K (.ref (He.ga K "Keep")) "__str__" = some (some (.ref (He.ma K (He.ga K "Keep") "__str__"))) := of_decide_eq_true (told_at c 10 9)
  have iSKeep : PySem.W.isFn K (.ref (He.ma K (He.ga K "Keep") "__str__")) = true := (told_at c 11 0)
  obtain ⟨fdSKeep, YSKeep⟩ := told_fn c 13
  have XSKeep : Fun K "__str__" "Keep.__str__" sKeepStr (He.ma K (He.ga K "Keep") "__str__") fdSKeep := fun_of YSKeep
  have aBack : PySem.W.nsIn K mainGlobals "Back" = some (some (.ref (He.ga K "Back"))) := of_decide_eq_true (told_at c 11 1)
  have inBack : PySem.W.findIn K (.ref (He.ga K "Back")) "__init__" = some (some (.ref (He.ma K (He.ga K "Back") "__init__"))) := of_decide_eq_true (told_at c 11 2)
  have iBack : PySem.W.isFn K (.ref (He.ma K (He.ga K "Back") "__init__")) = true := (told_at c 11 3)
  obtain ⟨fdBack, YBack⟩ := told_fn c 14
  have XBack : Fun K "__init__" "Back.__init__" sBackInit (He.ma K (He.ga K "Back") "__init__") fdBack := fun_of YBack
  have pgBack : PySem.W.plainGet K (He.ga K "Back") Str.empty = true := (told_at c 11 4)
  have hdBack : PySem.W.hasDictIn K (He.ga K "Back") = true := (told_at c 11 5)
  have poBack : PySem.W.plainOver K (He.ga K "Back") = true := (told_at c 11 6)
  have saBack : PySem.W.findIn K (.ref (He.ga K "Back")) "__setattr__" = some (some (.builtin "object.__setattr__")) := of_decide_eq_true (told_at c 11 7)
  have mkBack : PySem.W.makesIn K (He.ga K "Back") = true := (told_at c 11 8)
  have kcBack : PySem.W.keepIn K (.ref (He.ga K "Back")) = true := (told_at c 11 9)
  have nBack0 : PySem.W.findIn K (.ref (He.ga K "Back")) "word" = some none := of_decide_eq_true (told_at c 12 0)
  have nBack1 : PySem.W.findIn K (.ref (He.ga K "Back")) "counter" = some none := of_decide_eq_true (told_at c 12 1)
  have inSBack : PySem.W.findIn K (.ref (He.ga K "Back")) "__str__" = some (some (.ref (He.ma K (He.ga K "Back") "__str__"))) := of_decide_eq_true (told_at c 12 2)
  have iSBack : PySem.W.isFn K (.ref (He.ma K (He.ga K "Back") "__str__")) = true := (told_at c 12 3)
  obtain ⟨fdSBack, YSBack⟩ := told_fn c 15
  have XSBack : Fun K "__str__" "Back.__str__" sBackStr (He.ma K (He.ga K "Back") "__str__") fdSBack := fun_of YSBack
  have aRef : PySem.W.nsIn K mainGlobals "Ref" = some (some (.ref (He.ga K "Ref"))) := of_decide_eq_true (told_at c 12 4)
  have inRef : PySem.W.findIn K (.ref (He.ga K "Ref")) "__init__" = some (some (.ref (He.ma K (He.ga K "Ref") "__init__"))) := of_decide_eq_true (told_at c 12 5)
  have iRef : PySem.W.isFn K (.ref (He.ma K (He.ga K "Ref") "__init__")) = true := (told_at c 12 6)
  obtain ⟨fdRef, YRef⟩ := told_fn c 16
  have XRef : Fun K "__init__" "Ref.__init__" sRefInit (He.ma K (He.ga K "Ref") "__init__") fdRef := fun_of YRef
  have pgRef : PySem.W.plainGet K (He.ga K "Ref") Str.empty = true := (told_at c 12 7)
  have hdRef : PySem.W.hasDictIn K (He.ga K "Ref") = true := (told_at c 12 8)
  have poRef : PySem.W.plainOver K (He.ga K "Ref") = true := (told_at c 12 9)
  have saRef : PySem.W.findIn K (.ref (He.ga K "Ref")) "__setattr__" = some (some (.builtin "object.__setattr__")) := of_decide_eq_true (told_at c 13 0)
  have mkRef : PySem.W.makesIn K (He.ga K "Ref") = true := (told_at c 13 1)
  have kcRef : PySem.W.keepIn K (.ref (He.ga K "Ref")) = true := (told_at c 13 2)
  have nRef0 : PySem.W.findIn K (.ref (He.ga K "Ref")) "word" = some none := of_decide_eq_true (told_at c 13 3)
  have nRef1 : PySem.W.findIn K (.ref (He.ga K "Ref")) "label" = some none := of_decide_eq_true (told_at c 13 4)
  have inSRef : PySem.W.findIn K (.ref (He.ga K "Ref")) "__str__" = some (some (.ref (He.ma K (He.ga K "Ref") "__str__"))) := of_decide_eq_true (told_at c 13 5)
  have iSRef : PySem.W.isFn K (.ref (He.ma K (He.ga K "Ref") "__str__")) = true := (told_at c 13 6)
  obtain ⟨fdSRef, YSRef⟩ := told_fn c 17
  have XSRef : Fun K "__str__" "Ref.__str__" sRefStr (He.ma K (He.ga K "Ref") "__str__") fdSRef := fun_of YSRef
  have aPut : PySem.W.nsIn K mainGlobals "Put" = some (some (.ref (He.ga K "Put"))) := of_decide_eq_true (told_at c 13 7)
  have inPut : PySem.W.findIn K (.ref (He.ga K "Put")) "__init__" = some (some (.ref (He.ma K (He.ga K "Put") "__init__"))) := of_decide_eq_true (told_at c 13 8)
  have iPut : PySem.W.isFn K (.ref (He.ma K (He.ga K "Put") "__init__")) = true := (told_at c 13 9)
  obtain ⟨fdPut, YPut⟩ := told_fn c 18
  have XPut : Fun K "__init__" "Put.__init__" sPutInit (He.ma K (He.ga K "Put") "__init__") fdPut := fun_of YPut
  have pgPut : PySem.W.plainGet K (He.ga K "Put") Str.empty = true := (told_at c 14 0)
  have hdPut : PySem.W.hasDictIn K (He.ga K "Put") = true := (told_at c 14 1)
  have poPut : PySem.W.plainOver K (He.ga K "Put") = true := (told_at c 14 2)
  have saPut : PySem.W.findIn K (.ref (He.ga K "Put")) "__setattr__" = some (some (.builtin "object.__setattr__")) := of_decide_eq_true (told_at c 14 3)
  have mkPut : PySem.W.makesIn K (He.ga K "Put") = true := (told_at c 14 4)
  have kcPut : PySem.W.keepIn K (.ref (He.ga K "Put")) = true := (told_at c 14 5)
  have nPut0 : PySem.W.findIn K (.ref (He.ga K "Put")) "word" = some none := of_decide_eq_true (told_at c 14 6)
  have nPut1 : PySem.W.findIn K (.ref (He.ga K "Put")) "part" = some none := of_decide_eq_true (told_at c 14 7)
  have inSPut : PySem.W.findIn K (.ref (He.ga K "Put")) "__str__" = some (some (.ref (He.ma K (He.ga K "Put") "__str__"))) := of_decide_eq_true (told_at c 14 8)
  have iSPut : PySem.W.isFn K (.ref (He.ma K (He.ga K "Put") "__str__")) = true := (told_at c 14 9)
  obtain ⟨fdSPut, YSPut⟩ := told_fn c 19
  have XSPut : Fun K "__str__" "Put.__str__" sPutStr (He.ma K (He.ga K "Put") "__str__") fdSPut := fun_of YSPut
  have aOpen : PySem.W.nsIn K mainGlobals "Open" = some (some (.ref (He.ga K "Open"))) := of_decide_eq_true (told_at c 15 0)
  have inOpen : PySem.W.findIn K (.ref (He.ga K "Open")) "__init__" = some (some (.ref (He.ma K (He.ga K "Open") "__init__"))) := of_decide_eq_true (told_at c 15 1)
  have iOpen : PySem.W.isFn K (.ref (He.ma K (He.ga K "Open") "__init__")) = true := (told_at c 15 2)
  obtain ⟨fdOpen, YOpen⟩ := told_fn c 20
  have XOpen : Fun K "__init__" "Open.__init__" sOpenInit (He.ma K (He.ga K "Open") "__init__") fdOpen := fun_of YOpen
  have pgOpen : PySem.W.plainGet K (He.ga K "Open") Str.empty = true := (told_at c 15 3)
  have hdOpen : PySem.W.hasDictIn K (He.ga K "Open") = true := (told_at c 15 4)
  have poOpen : PySem.W.plainOver K (He.ga K "Open") = true := (told_at c 15 5)
  have saOpen : PySem.W.findIn K (.ref (He.ga K "Open")) "__setattr__" = some (some (.builtin "object.__setattr__")) := of_decide_eq_true (told_at c 15 6)
  have mkOpen : PySem.W.makesIn K (He.ga K "Open") = true := (told_at c 15 7)
  have kcOpen : PySem.W.keepIn K (.ref (He.ga K "Open")) = true := (told_at c 15 8)
  have nOpen0 : PySem.W.findIn K (.ref (He.ga K "Open")) "word" = some none := of_decide_eq_true (told_at c 15 9)
  have nOpen1 : PySem.W.findIn K (.ref (He.ga K "Open")) "name" = some none := of_decide_eq_true (told_at c 16 0)
  have inSOpen : PySem.W.findIn K (.ref (He.ga K "Open")) "__str__" = some (some (.ref (He.ma K (He.ga K "Open") "__str__"))) := of_decide_eq_true (told_at c 16 1)
  have iSOpen : PySem.W.isFn K (.ref (He.ma K (He.ga K "Open") "__str__")) = true := (told_at c 16 2)
  obtain ⟨fdSOpen, YSOpen⟩ := told_fn c 21
  have XSOpen : Fun K "__str__" "Open.__str__" sOpenStr (He.ma K (He.ga K "Open") "__str__") fdSOpen := fun_of YSOpen
  have areadnumber : PySem.W.nsIn K mainGlobals "read_number" = some (some (.ref (He.ga K "read_number"))) := of_decide_eq_true (told_at c 16 3)
  obtain ⟨fdreadnumber, Yreadnumber⟩ := told_fn c 22
  have Xreadnumber : Fun K "read_number" "read_number" sReadNum (He.ga K "read_number") fdreadnumber := fun_of Yreadnumber
  have arowoftwo : PySem.W.nsIn K mainGlobals "row_of_two" = some (some (.ref (He.ga K "row_of_two"))) := of_decide_eq_true (told_at c 16 4)
  obtain ⟨fdrowoftwo, Yrowoftwo⟩ := told_fn c 23
  have Xrowoftwo : Fun K "row_of_two" "row_of_two" sRow2 (He.ga K "row_of_two") fdrowoftwo := fun_of Yrowoftwo
  have arowofthree : PySem.W.nsIn K mainGlobals "row_of_three" = some (some (.ref (He.ga K "row_of_three"))) := of_decide_eq_true (told_at c 16 5)
  obtain ⟨fdrowofthree, Yrowofthree⟩ := told_fn c 24
  have Xrowofthree : Fun K "row_of_three" "row_of_three" sRow3 (He.ga K "row_of_three") fdrowofthree := fun_of Yrowofthree
  have areadrow : PySem.W.nsIn K mainGlobals "read_row" = some (some (.ref (He.ga K "read_row"))) := of_decide_eq_true (told_at c 16 6)
  obtain ⟨fdreadrow, Yreadrow⟩ := told_fn c 25
  have Xreadrow : Fun K "read_row" "read_row" sReadRow (He.ga K "read_row") fdreadrow := fun_of Yreadrow
  have aRow : PySem.W.nsIn K mainGlobals "Row" = some (some (.ref (He.ga K "Row"))) := of_decide_eq_true (told_at c 16 7)
  have aissequence : PySem.W.nsIn K mainGlobals "is_sequence" = some (some (.ref (He.ga K "is_sequence"))) := of_decide_eq_true (told_at c 16 8)
  obtain ⟨fdissequence, Yissequence⟩ := told_fn c 26
  have Xissequence : Fun K "is_sequence" "is_sequence" sIsSeq (He.ga K "is_sequence") fdissequence := fun_of Yissequence
  have aInvalidPart : PySem.W.nsIn K mainGlobals "InvalidPart" = some (some (.ref (He.ga K "InvalidPart"))) := of_decide_eq_true (told_at c 16 9)
  have xInvalidPart := excQ_ok (K := K) (C := (He.ga K "InvalidPart")) (nid := "ValueError.__new__") (told_at c 17 0)
  have saInvalidPart : PySem.W.findIn K (.ref (He.ga K "InvalidPart")) "__setattr__" = some (some (.builtin "object.__setattr__")) := of_decide_eq_true (told_at c 17 1)
  have gaInvalidPart : PySem.W.findIn K (.ref (He.ga K "InvalidPart")) "__getattribute__" = some (some (.builtin "BaseException.__getattribute__")) := of_decide_eq_true (told_at c 17 2)
  have ggInvalidPart : PySem.W.findIn K (.ref (He.ga K "InvalidPart")) "__getattr__" = some (none) := of_decide_eq_true (told_at c 17 3)
  have nfInvalidPart : PySem.W.findIn K (.ref (He.ga K "InvalidPart")) "word" = some (none) := of_decide_eq_true (told_at c 17 4)
  have inInvalidPart : PySem.W.findIn K (.ref (He.ga K "InvalidPart")) "__init__" = some (some (.ref (He.ma K (He.ga K "InvalidPart") "__init__"))) := of_decide_eq_true (told_at c 17 5)
  have haInvalidPart : PySem.W.findIn K (.ref (He.ga K "InvalidPart")) "__class__" = some (some (.builtin "object.__class__")) := of_decide_eq_true (told_at c 17 6)
  have tiInvalidPart : PySem.W.typeIn K (.ref (He.ma K (He.ga K "InvalidPart") "__init__")) = some (.type "function") := of_decide_eq_true (told_at c 17 7)
  obtain ⟨fdInvalidPart, YInvalidPart⟩ := told_fn c 27
  have XInvalidPart : Fun K "__init__" "InvalidPart.__init__" sIPInit (He.ma K (He.ga K "InvalidPart") "__init__") fdInvalidPart := fun_of YInvalidPart
  have kcInvalidPart : PySem.W.keepIn K (.ref (He.ga K "InvalidPart")) = true := (told_at c 17 8)
  have eCInvalidPart : PySem.W.subIn K (.ref (He.ga K "InvalidPart")) (.type "BaseException") = some true := of_decide_eq_true (told_at c 17 9)
  have tCInvalidPart : PySem.W.typeIn K (.ref (He.ga K "InvalidPart")) = some (.type "type") := of_decide_eq_true (told_at c 18 0)
  have hCInvalidPart : PySem.W.hasDictIn K (He.ga K "InvalidPart") = true := (told_at c 18 1)
  have iCInvalidPart : PySem.W.isClsIn K (He.ga K "InvalidPart") = true := (told_at c 18 2)
  have sCInvalidPart : PySem.W.subIn K (.ref (He.ga K "InvalidPart")) (.ref (He.ga K "InvalidPart")) = some true := of_decide_eq_true (told_at c 18 3)
  have hmInvalidPart : PySem.W.mroIn K (He.ga K "InvalidPart") (.type "object") = some true := of_decide_eq_true (told_at c 18 4)
  have aPart : PySem.W.nsIn K mainGlobals "Part" = some (some (.ref (He.ga K "Part"))) := of_decide_eq_true (told_at c 18 5)
  have inPart : PySem.W.findIn K (.ref (He.ga K "Part")) "__init__" = some (some (.ref (He.ma K (He.ga K "Part") "__init__"))) := of_decide_eq_true (told_at c 18 6)
  have iPart : PySem.W.isFn K (.ref (He.ma K (He.ga K "Part") "__init__")) = true := (told_at c 18 7)
  have SDPart : ∀ H : Hp, SqT K H (He.dflAt ("Part", some "__init__") 0 K) [] := fun H => tupQ_ok (vs := []) (told_at c 18 8) H
  obtain ⟨fdPart, YPart⟩ := told_fn c 28
  have FPart : FunD K "__init__" "Part.__init__" (defArgs sPartInit) (defBody sPartInit) (defScope sPartInit) [.ref (He.dflAt ("Part", some "__init__") 0 K)] [] (He.ma K (He.ga K "Part") "__init__") fdPart := YPart
  have pgPart : PySem.W.plainGet K (He.ga K "Part") Str.empty = true := (told_at c 18 9)
  have hdPart : PySem.W.hasDictIn K (He.ga K "Part") = true := (told_at c 19 0)
  have poPart : PySem.W.plainOver K (He.ga K "Part") = true := (told_at c 19 1)
  have saPart : PySem.W.findIn K (.ref (He.ga K "Part")) "__setattr__" = some (some (.builtin "object.__setattr__")) := of_decide_eq_true (told_at c 19 2)
  have mkPart : PySem.W.makesIn K (He.ga K "Part") = true := (told_at c 19 3)
  have kcPart : PySem.W.keepIn K (.ref (He.ga K "Part")) = true := (told_at c 19 4)
  have nPart0 : PySem.W.findIn K (.ref (He.ga K "Part")) "name" = some none := of_decide_eq_true (told_at c 19 5)
  have nPart1 : PySem.W.findIn K (.ref (He.ga K "Part")) "rows" = some none := of_decide_eq_true (told_at c 19 6)
  have instrPart : PySem.W.findIn K (.ref (He.ga K "Part")) "__str__" = some (some (.ref (He.ma K (He.ga K "Part") "__str__"))) := of_decide_eq_true (told_at c 19 7)
  have istrPart : PySem.W.isFn K (.ref (He.ma K (He.ga K "Part") "__str__")) = true := (told_at c 19 8)
  obtain ⟨fdstrPart, YstrPart⟩ := told_fn c 29
  have XstrPart : Fun K "__str__" "Part.__str__" sPartStr (He.ma K (He.ga K "Part") "__str__") fdstrPart := fun_of YstrPart
  have ineqPart : PySem.W.findIn K (.ref (He.ga K "Part")) "__eq__" = some (some (.ref (He.ma K (He.ga K "Part") "__eq__"))) := of_decide_eq_true (told_at c 19 9)
  have ieqPart : PySem.W.isFn K (.ref (He.ma K (He.ga K "Part") "__eq__")) = true := (told_at c 20 0)
  obtain ⟨fdeqPart, YeqPart⟩ := told_fn c 30
  have XeqPart : Fun K "__eq__" "Part.__eq__" sPartEq (He.ma K (He.ga K "Part") "__eq__") fdeqPart := fun_of YeqPart
  have aCOUNTINGWORDS : PySem.W.nsIn K mainGlobals "COUNTING_WORDS" = some (some (.ref (He.ga K "COUNTING_WORDS"))) := of_decide_eq_true (told_at c 20 1)
  have SCOUNTINGWORDS : ∀ H : Hp, SqT K H (He.ga K "COUNTING_WORDS") [.str "note", .str "skip", .str "set", .str "keep", .str "back"] := fun H => He.tupB_ok (x := "COUNTING_WORDS") (vs := [.str "note", .str "skip", .str "set", .str "keep", .str "back"]) (told_at c 20 2) H
  have aispair : PySem.W.nsIn K mainGlobals "is_pair" = some (some (.ref (He.ga K "is_pair"))) := of_decide_eq_true (told_at c 20 3)
  obtain ⟨fdispair, Yispair⟩ := told_fn c 31
  have Xispair : Fun K "is_pair" "is_pair" sIsPair (He.ga K "is_pair") fdispair := fun_of Yispair
  have aarecounters : PySem.W.nsIn K mainGlobals "are_counters" = some (some (.ref (He.ga K "are_counters"))) := of_decide_eq_true (told_at c 20 4)
  obtain ⟨fdarecounters, Yarecounters⟩ := told_fn c 32
  have Xarecounters : Fun K "are_counters" "are_counters" sAreC (He.ga K "are_counters") fdarecounters := fun_of Yarecounters
  have aareparts : PySem.W.nsIn K mainGlobals "are_parts" = some (some (.ref (He.ga K "are_parts"))) := of_decide_eq_true (told_at c 20 5)
  obtain ⟨fdareparts, Yareparts⟩ := told_fn c 33
  have Xareparts : Fun K "are_parts" "are_parts" sAreP (He.ga K "are_parts") fdareparts := fun_of Yareparts
  have acountersareknown : PySem.W.nsIn K mainGlobals "counters_are_known" = some (some (.ref (He.ga K "counters_are_known"))) := of_decide_eq_true (told_at c 20 6)
  obtain ⟨fdcountersareknown, Ycountersareknown⟩ := told_fn c 34
  have Xcountersareknown : Fun K "counters_are_known" "counters_are_known" sCKnown (He.ga K "counters_are_known") fdcountersareknown := fun_of Ycountersareknown
  have anamesput : PySem.W.nsIn K mainGlobals "names_put" = some (some (.ref (He.ga K "names_put"))) := of_decide_eq_true (told_at c 20 7)
  obtain ⟨fdnamesput, Ynamesput⟩ := told_fn c 35
  have Xnamesput : Fun K "names_put" "names_put" sNPut (He.ga K "names_put") fdnamesput := fun_of Ynamesput
  have aputsareearlier : PySem.W.nsIn K mainGlobals "puts_are_earlier" = some (some (.ref (He.ga K "puts_are_earlier"))) := of_decide_eq_true (told_at c 20 8)
  obtain ⟨fdputsareearlier, Yputsareearlier⟩ := told_fn c 36
  have Xputsareearlier : Fun K "puts_are_earlier" "puts_are_earlier" sPEarly (He.ga K "puts_are_earlier") fdputsareearlier := fun_of Yputsareearlier
  have anamesreached : PySem.W.nsIn K mainGlobals "names_reached" = some (some (.ref (He.ga K "names_reached"))) := of_decide_eq_true (told_at c 20 9)
  obtain ⟨fdnamesreached, Ynamesreached⟩ := told_fn c 37
  have Xnamesreached : Fun K "names_reached" "names_reached" sNReach (He.ga K "names_reached") fdnamesreached := fun_of Ynamesreached
  have aunroll : PySem.W.nsIn K mainGlobals "unroll" = some (some (.ref (He.ga K "unroll"))) := of_decide_eq_true (told_at c 21 0)
  obtain ⟨fdunroll, Yunroll⟩ := told_fn c 38
  have Xunroll : Fun K "unroll" "unroll" sUnr1 (He.ga K "unroll") fdunroll := fun_of Yunroll
  have aunrolledtext : PySem.W.nsIn K mainGlobals "unrolled_text" = some (some (.ref (He.ga K "unrolled_text"))) := of_decide_eq_true (told_at c 21 1)
  obtain ⟨fdunrolledtext, Yunrolledtext⟩ := told_fn c 39
  have Xunrolledtext : Fun K "unrolled_text" "unrolled_text" sUText (He.ga K "unrolled_text") fdunrolledtext := fun_of Yunrolledtext
  have arefsareknown : PySem.W.nsIn K mainGlobals "refs_are_known" = some (some (.ref (He.ga K "refs_are_known"))) := of_decide_eq_true (told_at c 21 2)
  obtain ⟨fdrefsareknown, Yrefsareknown⟩ := told_fn c 40
  have Xrefsareknown : Fun K "refs_are_known" "refs_are_known" sRefsK (He.ga K "refs_are_known") fdrefsareknown := fun_of Yrefsareknown
  have aBook : PySem.W.nsIn K mainGlobals "Book" = some (some (.ref (He.ga K "Book"))) := of_decide_eq_true (told_at c 21 3)
  have inBook : PySem.W.findIn K (.ref (He.ga K "Book")) "__init__" = some (some (.ref (He.ma K (He.ga K "Book") "__init__"))) := of_decide_eq_true (told_at c 21 4)
  have iBook : PySem.W.isFn K (.ref (He.ma K (He.ga K "Book") "__init__")) = true := (told_at c 21 5)
  obtain ⟨fdBook, YBook⟩ := told_fn c 41
  have XBook : Fun K "__init__" "Book.__init__" sBInit (He.ma K (He.ga K "Book") "__init__") fdBook := fun_of YBook
  have pgBook : PySem.W.plainGet K (He.ga K "Book") Str.empty = true := (told_at c 21 6)
  have hdBook : PySem.W.hasDictIn K (He.ga K "Book") = true := (told_at c 21 7)
  have poBook : PySem.W.plainOver K (He.ga K "Book") = true := (told_at c 21 8)
  have saBook : PySem.W.findIn K (.ref (He.ga K "Book")) "__setattr__" = some (some (.builtin "object.__setattr__")) := of_decide_eq_true (told_at c 21 9)
  have mkBook : PySem.W.makesIn K (He.ga K "Book") = true := (told_at c 22 0)
  have kcBook : PySem.W.keepIn K (.ref (He.ga K "Book")) = true := (told_at c 22 1)
  have nBook0 : PySem.W.findIn K (.ref (He.ga K "Book")) "counters" = some none := of_decide_eq_true (told_at c 22 2)
  have nBook1 : PySem.W.findIn K (.ref (He.ga K "Book")) "parts" = some none := of_decide_eq_true (told_at c 22 3)
  have nBook2 : PySem.W.findIn K (.ref (He.ga K "Book")) "flat" = some none := of_decide_eq_true (told_at c 22 4)
  obtain ⟨fdnamesBook, YnamesBook⟩ := told_fn c 42
  have XnamesBook : Fun K "names" "Book.names" sBNames (getterQ K (He.ma K (He.ga K "Book") "names")) fdnamesBook := fun_of YnamesBook
  obtain ⟨fdtopsBook, YtopsBook⟩ := told_fn c 43
  have XtopsBook : Fun K "tops" "Book.tops" sBTops (getterQ K (He.ma K (He.ga K "Book") "tops")) fdtopsBook := fun_of YtopsBook
  obtain ⟨fdunrolledBook, YunrolledBook⟩ := told_fn c 44
  have XunrolledBook : Fun K "unrolled" "Book.unrolled" sBUnr (getterQ K (He.ma K (He.ga K "Book") "unrolled")) fdunrolledBook := fun_of YunrolledBook
  have inchainBook : PySem.W.findIn K (.ref (He.ga K "Book")) "chain" = some (some (.ref (He.ma K (He.ga K "Book") "chain"))) := of_decide_eq_true (told_at c 22 8)
  have ichainBook : PySem.W.isFn K (.ref (He.ma K (He.ga K "Book") "chain")) = true := (told_at c 22 9)
  obtain ⟨fdchainBook, YchainBook⟩ := told_fn c 45
  have XchainBook : Fun K "chain" "Book.chain" sBChain (He.ma K (He.ga K "Book") "chain") fdchainBook := fun_of YchainBook
  have areadcounter : PySem.W.nsIn K mainGlobals "read_counter" = some (some (.ref (He.ga K "read_counter"))) := of_decide_eq_true (told_at c 23 0)
  obtain ⟨fdreadcounter, Yreadcounter⟩ := told_fn c 46
  have Xreadcounter : Fun K "read_counter" "read_counter" sRdC (He.ga K "read_counter") fdreadcounter := fun_of Yreadcounter
  have areadcounters : PySem.W.nsIn K mainGlobals "read_counters" = some (some (.ref (He.ga K "read_counters"))) := of_decide_eq_true (told_at c 23 1)
  obtain ⟨fdreadcounters, Yreadcounters⟩ := told_fn c 47
  have Xreadcounters : Fun K "read_counters" "read_counters" sRdCs (He.ga K "read_counters") fdreadcounters := fun_of Yreadcounters
  have aispartline : PySem.W.nsIn K mainGlobals "is_part_line" = some (some (.ref (He.ga K "is_part_line"))) := of_decide_eq_true (told_at c 23 2)
  obtain ⟨fdispartline, Yispartline⟩ := told_fn c 48
  have Xispartline : Fun K "is_part_line" "is_part_line" sIsPL (He.ga K "is_part_line") fdispartline := fun_of Yispartline
  have areadline : PySem.W.nsIn K mainGlobals "read_line" = some (some (.ref (He.ga K "read_line"))) := of_decide_eq_true (told_at c 23 3)
  obtain ⟨fdreadline, Yreadline⟩ := told_fn c 49
  have Xreadline : Fun K "read_line" "read_line" sRdL (He.ga K "read_line") fdreadline := fun_of Yreadline
  have areadparts : PySem.W.nsIn K mainGlobals "read_parts" = some (some (.ref (He.ga K "read_parts"))) := of_decide_eq_true (told_at c 23 4)
  obtain ⟨fdreadparts, Yreadparts⟩ := told_fn c 50
  have Xreadparts : Fun K "read_parts" "read_parts" sRdPs (He.ga K "read_parts") fdreadparts := fun_of Yreadparts
  obtain ⟨fdreadBook, YreadBook⟩ := told_fn c 51
  have XreadBook : Fun K "read" "Book.read" sBRead (cgetQ K (He.ma K (He.ga K "Book") "read")) fdreadBook := fun_of YreadBook
  have CMreadBook := cmethQ_ok (told_at c 23 5)
  have aInvalidFilling : PySem.W.nsIn K mainGlobals "InvalidFilling" = some (some (.ref (He.ga K "InvalidFilling"))) := of_decide_eq_true (told_at c 23 6)
  have xInvalidFilling := excQ_ok (K := K) (C := (He.ga K "InvalidFilling")) (nid := "ValueError.__new__") (told_at c 23 7)
  have saInvalidFilling : PySem.W.findIn K (.ref (He.ga K "InvalidFilling")) "__setattr__" = some (some (.builtin "object.__setattr__")) := of_decide_eq_true (told_at c 23 8)
  have gaInvalidFilling : PySem.W.findIn K (.ref (He.ga K "InvalidFilling")) "__getattribute__" = some (some (.builtin "BaseException.__getattribute__")) := of_decide_eq_true (told_at c 23 9)
  have ggInvalidFilling : PySem.W.findIn K (.ref (He.ga K "InvalidFilling")) "__getattr__" = some (none) := of_decide_eq_true (told_at c 24 0)
  have nfInvalidFilling : PySem.W.findIn K (.ref (He.ga K "InvalidFilling")) "word" = some (none) := of_decide_eq_true (told_at c 24 1)
  have inInvalidFilling : PySem.W.findIn K (.ref (He.ga K "InvalidFilling")) "__init__" = some (some (.ref (He.ma K (He.ga K "InvalidFilling") "__init__"))) := of_decide_eq_true (told_at c 24 2)
  have haInvalidFilling : PySem.W.findIn K (.ref (He.ga K "InvalidFilling")) "__class__" = some (some (.builtin "object.__class__")) := of_decide_eq_true (told_at c 24 3)
  have tiInvalidFilling : PySem.W.typeIn K (.ref (He.ma K (He.ga K "InvalidFilling") "__init__")) = some (.type "function") := of_decide_eq_true (told_at c 24 4)
  obtain ⟨fdInvalidFilling, YInvalidFilling⟩ := told_fn c 52
  have XInvalidFilling : Fun K "__init__" "InvalidFilling.__init__" sIFInit (He.ma K (He.ga K "InvalidFilling") "__init__") fdInvalidFilling := fun_of YInvalidFilling
  have kcInvalidFilling : PySem.W.keepIn K (.ref (He.ga K "InvalidFilling")) = true := (told_at c 24 5)
  have eCInvalidFilling : PySem.W.subIn K (.ref (He.ga K "InvalidFilling")) (.type "BaseException") = some true := of_decide_eq_true (told_at c 24 6)
  have tCInvalidFilling : PySem.W.typeIn K (.ref (He.ga K "InvalidFilling")) = some (.type "type") := of_decide_eq_true (told_at c 24 7)
  have hCInvalidFilling : PySem.W.hasDictIn K (He.ga K "InvalidFilling") = true := (told_at c 24 8)
  have iCInvalidFilling : PySem.W.isClsIn K (He.ga K "InvalidFilling") = true := (told_at c 24 9)
  have sCInvalidFilling : PySem.W.subIn K (.ref (He.ga K "InvalidFilling")) (.ref (He.ga K "InvalidFilling")) = some true := of_decide_eq_true (told_at c 25 0)
  have hmInvalidFilling : PySem.W.mroIn K (He.ga K "InvalidFilling") (.type "object") = some true := of_decide_eq_true (told_at c 25 1)
  have aFilling : PySem.W.nsIn K mainGlobals "Filling" = some (some (.ref (He.ga K "Filling"))) := of_decide_eq_true (told_at c 25 2)
  have inFilling : PySem.W.findIn K (.ref (He.ga K "Filling")) "__init__" = some (some (.ref (He.ma K (He.ga K "Filling") "__init__"))) := of_decide_eq_true (told_at c 25 3)
  have iFilling : PySem.W.isFn K (.ref (He.ma K (He.ga K "Filling") "__init__")) = true := (told_at c 25 4)
  have SDFilling : ∀ H : Hp, SqT K H (He.dflAt ("Filling", some "__init__") 0 K) [] := fun H => tupQ_ok (vs := []) (told_at c 25 5) H
  obtain ⟨fdFilling, YFilling⟩ := told_fn c 53
  have FFilling : FunD K "__init__" "Filling.__init__" (defArgs sFInit) (defBody sFInit) (defScope sFInit) [.ref (He.dflAt ("Filling", some "__init__") 0 K)] [] (He.ma K (He.ga K "Filling") "__init__") fdFilling := YFilling
  have pgFilling : PySem.W.plainGet K (He.ga K "Filling") Str.empty = true := (told_at c 25 6)
  have hdFilling : PySem.W.hasDictIn K (He.ga K "Filling") = true := (told_at c 25 7)
  have poFilling : PySem.W.plainOver K (He.ga K "Filling") = true := (told_at c 25 8)
  have saFilling : PySem.W.findIn K (.ref (He.ga K "Filling")) "__setattr__" = some (some (.builtin "object.__setattr__")) := of_decide_eq_true (told_at c 25 9)
  have mkFilling : PySem.W.makesIn K (He.ga K "Filling") = true := (told_at c 26 0)
  have kcFilling : PySem.W.keepIn K (.ref (He.ga K "Filling")) = true := (told_at c 26 1)
  have nFilling0 : PySem.W.findIn K (.ref (He.ga K "Filling")) "filled" = some none := of_decide_eq_true (told_at c 26 2)
  have inrows_forFilling : PySem.W.findIn K (.ref (He.ga K "Filling")) "rows_for" = some (some (.ref (He.ma K (He.ga K "Filling") "rows_for"))) := of_decide_eq_true (told_at c 26 3)
  have irows_forFilling : PySem.W.isFn K (.ref (He.ma K (He.ga K "Filling") "rows_for")) = true := (told_at c 26 4)
  obtain ⟨fdrows_forFilling, Yrows_forFilling⟩ := told_fn c 54
  have Xrows_forFilling : Fun K "rows_for" "Filling.rows_for" sFRows (He.ma K (He.ga K "Filling") "rows_for") fdrows_forFilling := fun_of Yrows_forFilling
  have instrFilling : PySem.W.findIn K (.ref (He.ga K "Filling")) "__str__" = some (some (.ref (He.ma K (He.ga K "Filling") "__str__"))) := of_decide_eq_true (told_at c 26 5)
  have istrFilling : PySem.W.isFn K (.ref (He.ma K (He.ga K "Filling") "__str__")) = true := (told_at c 26 6)
  obtain ⟨fdstrFilling, YstrFilling⟩ := told_fn c 55
  have XstrFilling : Fun K "__str__" "Filling.__str__" sFStr (He.ma K (He.ga K "Filling") "__str__") fdstrFilling := fun_of YstrFilling
  have ineqFilling : PySem.W.findIn K (.ref (He.ga K "Filling")) "__eq__" = some (some (.ref (He.ma K (He.ga K "Filling") "__eq__"))) := of_decide_eq_true (told_at c 26 7)
  have ieqFilling : PySem.W.isFn K (.ref (He.ma K (He.ga K "Filling") "__eq__")) = true := (told_at c 26 8)
  obtain ⟨fdeqFilling, YeqFilling⟩ := told_fn c 56
  have XeqFilling : Fun K "__eq__" "Filling.__eq__" sFEq (He.ma K (He.ga K "Filling") "__eq__") fdeqFilling := fun_of YeqFilling
  obtain ⟨fdnamesFilling, YnamesFilling⟩ := told_fn c 57
  have XnamesFilling : Fun K "names" "Filling.names" sFNames (getterQ K (He.ma K (He.ga K "Filling") "names")) fdnamesFilling := fun_of YnamesFilling
  have aarefillable : PySem.W.nsIn K mainGlobals "are_fillable" = some (some (.ref (He.ga K "are_fillable"))) := of_decide_eq_true (told_at c 27 0)
  obtain ⟨fdarefillable, Yarefillable⟩ := told_fn c 58
  have Xarefillable : Fun K "are_fillable" "are_fillable" sAreFill (He.ga K "are_fillable") fdarefillable := fun_of Yarefillable
  have aisfilled : PySem.W.nsIn K mainGlobals "is_filled" = some (some (.ref (He.ga K "is_filled"))) := of_decide_eq_true (told_at c 27 1)
  obtain ⟨fdisfilled, Yisfilled⟩ := told_fn c 59
  have Xisfilled : Fun K "is_filled" "is_filled" sIsFilled (He.ga K "is_filled") fdisfilled := fun_of Yisfilled
  have afilledtext : PySem.W.nsIn K mainGlobals "filled_text" = some (some (.ref (He.ga K "filled_text"))) := of_decide_eq_true (told_at c 27 2)
  obtain ⟨fdfilledtext, Yfilledtext⟩ := told_fn c 60
  have Xfilledtext : Fun K "filled_text" "filled_text" sFText (He.ga K "filled_text") fdfilledtext := fun_of Yfilledtext
  have aSAMENUMBER : PySem.W.nsIn K mainGlobals "SAME_NUMBER" = some (some (.ref (He.ga K "SAME_NUMBER"))) := of_decide_eq_true (told_at c 27 3)
  have SSAMENUMBER : ∀ H : Hp, SqT K H (He.ga K "SAME_NUMBER") [.str "now", .int 0] := fun H => He.tupB_ok (x := "SAME_NUMBER") (vs := [.str "now", .int 0]) (told_at c 27 4) H
  have aSAMEBOX : PySem.W.nsIn K mainGlobals "SAME_BOX" = some (some (.ref (He.ga K "SAME_BOX"))) := of_decide_eq_true (told_at c 27 5)
  have SSAMEBOX : ∀ H : Hp, SqT K H (He.ga K "SAME_BOX") [.str "box", .int 0] := fun H => He.tupB_ok (x := "SAME_BOX") (vs := [.str "box", .int 0]) (told_at c 27 6) H
  have aSTAY : PySem.W.nsIn K mainGlobals "STAY" = some (some (.ref (He.ga K "STAY"))) := of_decide_eq_true (told_at c 27 7)
  have SSTAY := stayQ_ok (K := K) (a := (He.ga K "STAY")) (told_at c 27 8)
  have aATFIRST : PySem.W.nsIn K mainGlobals "AT_FIRST" = some (some (.ref (He.ga K "AT_FIRST"))) := of_decide_eq_true (told_at c 27 9)
  have SATFIRST : ∀ H : Hp, SqT K H (He.ga K "AT_FIRST") [.int 0, .int 0] := fun H => He.tupB_ok (x := "AT_FIRST") (vs := [.int 0, .int 0]) (told_at c 28 0) H
  have agoingon : PySem.W.nsIn K mainGlobals "going_on" = some (some (.ref (He.ga K "going_on"))) := of_decide_eq_true (told_at c 28 1)
  obtain ⟨fdgoingon, Ygoingon⟩ := told_fn c 61
  have Xgoingon : Fun K "going_on" "going_on" sGoing (He.ga K "going_on") fdgoingon := fun_of Ygoingon
  have aownstep : PySem.W.nsIn K mainGlobals "own_step" = some (some (.ref (He.ga K "own_step"))) := of_decide_eq_true (told_at c 28 2)
  obtain ⟨fdownstep, Yownstep⟩ := told_fn c 62
  have Xownstep : Fun K "own_step" "own_step" sOwn (He.ga K "own_step") fdownstep := fun_of Yownstep
  have astepof : PySem.W.nsIn K mainGlobals "step_of" = some (some (.ref (He.ga K "step_of"))) := of_decide_eq_true (told_at c 28 3)
  obtain ⟨fdstepof, Ystepof⟩ := told_fn c 63
  have Xstepof : Fun K "step_of" "step_of" sStep (He.ga K "step_of") fdstepof := fun_of Ystepof
  have areckoned : PySem.W.nsIn K mainGlobals "reckoned" = some (some (.ref (He.ga K "reckoned"))) := of_decide_eq_true (told_at c 28 4)
  obtain ⟨fdreckoned, Yreckoned⟩ := told_fn c 64
  have Xreckoned : Fun K "reckoned" "reckoned" sReck (He.ga K "reckoned") fdreckoned := fun_of Yreckoned
  have adone : PySem.W.nsIn K mainGlobals "done" = some (some (.ref (He.ga K "done"))) := of_decide_eq_true (told_at c 28 5)
  obtain ⟨fddone, Ydone⟩ := told_fn c 65
  have Xdone : Fun K "done" "done" sDone (He.ga K "done") fddone := fun_of Ydone
  have anotetold : PySem.W.nsIn K mainGlobals "note_told" = some (some (.ref (He.ga K "note_told"))) := of_decide_eq_true (told_at c 28 6)
  obtain ⟨fdnotetold, Ynotetold⟩ := told_fn c 66
  have Xnotetold : Fun K "note_told" "note_told" sTold (He.ga K "note_told") fdnotetold := fun_of Ynotetold
  have alinks : PySem.W.nsIn K mainGlobals "links" = some (some (.ref (He.ga K "links"))) := of_decide_eq_true (told_at c 28 7)
  obtain ⟨fdlinks, Ylinks⟩ := told_fn c 67
  have Xlinks : Fun K "links" "links" sLinks (He.ga K "links") fdlinks := fun_of Ylinks
  have aneedcounters : PySem.W.nsIn K mainGlobals "need_counters" = some (some (.ref (He.ga K "need_counters"))) := of_decide_eq_true (told_at c 28 8)
  obtain ⟨fdneedcounters, Yneedcounters⟩ := told_fn c 68
  have Xneedcounters : Fun K "need_counters" "need_counters" sNeedC (He.ga K "need_counters") fdneedcounters := fun_of Yneedcounters
  have afilledrows : PySem.W.nsIn K mainGlobals "filled_rows" = some (some (.ref (He.ga K "filled_rows"))) := of_decide_eq_true (told_at c 28 9)
  obtain ⟨fdfilledrows, Yfilledrows⟩ := told_fn c 69
  have Xfilledrows : Fun K "filled_rows" "filled_rows" sFilled (He.ga K "filled_rows") fdfilledrows := fun_of Yfilledrows
  have aplay : PySem.W.nsIn K mainGlobals "play" = some (some (.ref (He.ga K "play"))) := of_decide_eq_true (told_at c 29 0)
  obtain ⟨fdplay, Yplay⟩ := told_fn c 70
  have Xplay : Fun K "play" "play" sPlay (He.ga K "play") fdplay := fun_of Yplay
  have aPlayed : PySem.W.nsIn K mainGlobals "Played" = some (some (.ref (He.ga K "Played"))) := of_decide_eq_true (told_at c 29 1)
  have inPlayed : PySem.W.findIn K (.ref (He.ga K "Played")) "__init__" = some (some (.ref (He.ma K (He.ga K "Played") "__init__"))) := of_decide_eq_true (told_at c 29 2)
  have iPlayed : PySem.W.isFn K (.ref (He.ma K (He.ga K "Played") "__init__")) = true := (told_at c 29 3)
  obtain ⟨fdPlayed, YPlayed⟩ := told_fn c 71
  have XPlayed : Fun K "__init__" "Played.__init__" sPlInit (He.ma K (He.ga K "Played") "__init__") fdPlayed := fun_of YPlayed
  have pgPlayed : PySem.W.plainGet K (He.ga K "Played") Str.empty = true := (told_at c 29 4)
  have hdPlayed : PySem.W.hasDictIn K (He.ga K "Played") = true := (told_at c 29 5)
  have poPlayed : PySem.W.plainOver K (He.ga K "Played") = true := (told_at c 29 6)
  have saPlayed : PySem.W.findIn K (.ref (He.ga K "Played")) "__setattr__" = some (some (.builtin "object.__setattr__")) := of_decide_eq_true (told_at c 29 7)
  have mkPlayed : PySem.W.makesIn K (He.ga K "Played") = true := (told_at c 29 8)
  have kcPlayed : PySem.W.keepIn K (.ref (He.ga K "Played")) = true := (told_at c 29 9)
  have nPlayed0 : PySem.W.findIn K (.ref (He.ga K "Played")) "notes" = some none := of_decide_eq_true (told_at c 30 0)
  have nPlayed1 : PySem.W.findIn K (.ref (He.ga K "Played")) "refs" = some none := of_decide_eq_true (told_at c 30 1)
  have nPlayed2 : PySem.W.findIn K (.ref (He.ga K "Played")) "ends" = some none := of_decide_eq_true (told_at c 30 2)
  have alawdeal : PySem.W.nsIn K mainGlobals "_law_deal" = some (some (.ref (He.ga K "_law_deal"))) := of_decide_eq_true (told_at c 30 3)
  obtain ⟨fdlawdeal, Ylawdeal⟩ := told_fn c 72
  have Xlawdeal : Fun K "_law_deal" "_law_deal" sDeal (He.ga K "_law_deal") fdlawdeal := fun_of Ylawdeal
  have alawdraw : PySem.W.nsIn K mainGlobals "_law_draw" = some (some (.ref (He.ga K "_law_draw"))) := of_decide_eq_true (told_at c 30 4)
  obtain ⟨fdlawdraw, Ylawdraw⟩ := told_fn c 73
  have Xlawdraw : Fun K "_law_draw" "_law_draw" sDraw (He.ga K "_law_draw") fdlawdraw := fun_of Ylawdraw
  have alawmixed : PySem.W.nsIn K mainGlobals "_law_mixed" = some (some (.ref (He.ga K "_law_mixed"))) := of_decide_eq_true (told_at c 30 5)
  obtain ⟨fdlawmixed, Ylawmixed⟩ := told_fn c 74
  have Xlawmixed : Fun K "_law_mixed" "_law_mixed" sMixed (He.ga K "_law_mixed") fdlawmixed := fun_of Ylawmixed
  have alawnames : PySem.W.nsIn K mainGlobals "_law_names" = some (some (.ref (He.ga K "_law_names"))) := of_decide_eq_true (told_at c 30 6)
  obtain ⟨fdlawnames, Ylawnames⟩ := told_fn c 75
  have Xlawnames : Fun K "_law_names" "_law_names" sNames (He.ga K "_law_names") fdlawnames := fun_of Ylawnames
  have alaw : PySem.W.nsIn K mainGlobals "law" = some (some (.ref (He.ga K "law"))) := of_decide_eq_true (told_at c 30 7)
  obtain ⟨fdlaw, Ylaw⟩ := told_fn c 76
  have Xlaw : Fun K "law" "law" sLaw20 (He.ga K "law") fdlaw := fun_of Ylaw
  have hnGet : PySem.W.specialIn K (.builtin "object.__class__") "__get__" = some (some (.builtin "getset_descriptor.__get__")) := of_decide_eq_true (told_at c 30 8)
  have htGet : PySem.W.takesIn K (.builtin "object.__class__") = some true := of_decide_eq_true (told_at c 30 9)
  have kDNoneType : PySem.W.kitOne K (.type "NoneType") (.ref (He.ga K "Row")) = some false := of_decide_eq_true (told_at c 31 0)
  have kDbool : PySem.W.kitOne K (.type "bool") (.ref (He.ga K "Row")) = some false := of_decide_eq_true (told_at c 31 1)
  have kDint : PySem.W.kitOne K (.type "int") (.ref (He.ga K "Row")) = some false := of_decide_eq_true (told_at c 31 2)
  have kDstr : PySem.W.kitOne K (.type "str") (.ref (He.ga K "Row")) = some false := of_decide_eq_true (told_at c 31 3)
  have kDlist : PySem.W.kitOne K (.type "list") (.ref (He.ga K "Row")) = some false := of_decide_eq_true (told_at c 31 4)
  have kDtuple : PySem.W.kitOne K (.type "tuple") (.ref (He.ga K "Row")) = some false := of_decide_eq_true (told_at c 31 5)
  have kDdict : PySem.W.kitOne K (.type "dict") (.ref (He.ga K "Row")) = some false := of_decide_eq_true (told_at c 31 6)
  have kRNote : PySem.W.kitOne K (.ref (He.ga K "Note")) (.ref (He.ga K "Row")) = some true := of_decide_eq_true (told_at c 31 7)
  have cANote : PySem.W.findIn K (.ref (He.ga K "Note")) "__class__" = some (some (.builtin "object.__class__")) := of_decide_eq_true (told_at c 31 8)
  have cMNote : PySem.W.mroIn K (He.ga K "Note") (.type "object") = some true := of_decide_eq_true (told_at c 31 9)
  have kRSkip : PySem.W.kitOne K (.ref (He.ga K "Skip")) (.ref (He.ga K "Row")) = some true := of_decide_eq_true (told_at c 32 0)
  have cASkip : PySem.W.findIn K (.ref (He.ga K "Skip")) "__class__" = some (some (.builtin "object.__class__")) := of_decide_eq_true (told_at c 32 1)
  have cMSkip : PySem.W.mroIn K (He.ga K "Skip") (.type "object") = some true := of_decide_eq_true (told_at c 32 2)
  have kRSet : PySem.W.kitOne K (.ref (He.ga K "Set")) (.ref (He.ga K "Row")) = some true := of_decide_eq_true (told_at c 32 3)
  have cASet : PySem.W.findIn K (.ref (He.ga K "Set")) "__class__" = some (some (.builtin "object.__class__")) := of_decide_eq_true (told_at c 32 4)
  have cMSet : PySem.W.mroIn K (He.ga K "Set") (.type "object") = some true := of_decide_eq_true (told_at c 32 5)
  have kRKeep : PySem.W.kitOne K (.ref (He.ga K "Keep")) (.ref (He.ga K "Row")) = some true := of_decide_eq_true (told_at c 32 6)
  have cAKeep : PySem.W.findIn K (.ref (He.ga K "Keep")) "__class__" = some (some (.builtin "object.__class__")) := of_decide_eq_true (told_at c 32 7)
  have cMKeep : PySem.W.mroIn K (He.ga K "Keep") (.type "object") = some true := of_decide_eq_true (told_at c 32 8)
  have kRBack : PySem.W.kitOne K (.ref (He.ga K "Back")) (.ref (He.ga K "Row")) = some true := of_decide_eq_true (told_at c 32 9)
  have cABack : PySem.W.findIn K (.ref (He.ga K "Back")) "__class__" = some (some (.builtin "object.__class__")) := of_decide_eq_true (told_at c 33 0)
  have cMBack : PySem.W.mroIn K (He.ga K "Back") (.type "object") = some true := of_decide_eq_true (told_at c 33 1)
  have kRRef : PySem.W.kitOne K (.ref (He.ga K "Ref")) (.ref (He.ga K "Row")) = some true := of_decide_eq_true (told_at c 33 2)
  have cARef : PySem.W.findIn K (.ref (He.ga K "Ref")) "__class__" = some (some (.builtin "object.__class__")) := of_decide_eq_true (told_at c 33 3)
  have cMRef : PySem.W.mroIn K (He.ga K "Ref") (.type "object") = some true := of_decide_eq_true (told_at c 33 4)
  have kRPut : PySem.W.kitOne K (.ref (He.ga K "Put")) (.ref (He.ga K "Row")) = some true := of_decide_eq_true (told_at c 33 5)
  have cAPut : PySem.W.findIn K (.ref (He.ga K "Put")) "__class__" = some (some (.builtin "object.__class__")) := of_decide_eq_true (told_at c 33 6)
  have cMPut : PySem.W.mroIn K (He.ga K "Put") (.type "object") = some true := of_decide_eq_true (told_at c 33 7)
  have kROpen : PySem.W.kitOne K (.ref (He.ga K "Open")) (.ref (He.ga K "Row")) = some true := of_decide_eq_true (told_at c 33 8)
  have cAOpen : PySem.W.findIn K (.ref (He.ga K "Open")) "__class__" = some (some (.builtin "object.__class__")) := of_decide_eq_true (told_at c 33 9)
  have cMOpen : PySem.W.mroIn K (He.ga K "Open") (.type "object") = some true := of_decide_eq_true (told_at c 34 0)
  have pAPart : PySem.W.findIn K (.ref (He.ga K "Part")) "__class__" = some (some (.builtin "object.__class__")) := of_decide_eq_true (told_at c 34 1)
  have pMPart : PySem.W.mroIn K (He.ga K "Part") (.type "object") = some true := of_decide_eq_true (told_at c 34 2)
  have nePart : PySem.W.findIn K (.ref (He.ga K "Part")) "__ne__" = some (some (.builtin "object.__ne__")) := of_decide_eq_true (told_at c 34 3)
  have kCPart : PySem.W.kitOne K (.ref (He.ga K "Part")) (.ref (He.ga K "Part")) = some true := of_decide_eq_true (told_at c 34 4)
  have kSPart : PySem.W.kitOne K (.type "str") (.ref (He.ga K "Part")) = some false := of_decide_eq_true (told_at c 34 5)
  have nCPart : PySem.W.notFirst K (He.ga K "Part") (.ref (He.ga K "Part")) = true := (told_at c 34 6)
  have nSPart : PySem.W.notFirst K (He.ga K "Part") (.type "str") = true := (told_at c 34 7)
  have kfNote : PySem.W.kitAny K (.ref (He.ga K "Note")) [.ref (He.ga K "Skip"), .ref (He.ga K "Set")] = some false := of_decide_eq_true (told_at c 34 8)
  have ksNote : PySem.W.kitAny K (.ref (He.ga K "Note")) [.type "list", .type "tuple"] = some false := of_decide_eq_true (told_at c 34 9)
  have kfSkip : PySem.W.kitAny K (.ref (He.ga K "Skip")) [.ref (He.ga K "Skip"), .ref (He.ga K "Set")] = some true := of_decide_eq_true (told_at c 35 0)
  have ksSkip : PySem.W.kitAny K (.ref (He.ga K "Skip")) [.type "list", .type "tuple"] = some false := of_decide_eq_true (told_at c 35 1)
  have kfSet : PySem.W.kitAny K (.ref (He.ga K "Set")) [.ref (He.ga K "Skip"), .ref (He.ga K "Set")] = some true := of_decide_eq_true (told_at c 35 2)
  have ksSet : PySem.W.kitAny K (.ref (He.ga K "Set")) [.type "list", .type "tuple"] = some false := of_decide_eq_true (told_at c 35 3)
  have kfKeep : PySem.W.kitAny K (.ref (He.ga K "Keep")) [.ref (He.ga K "Skip"), .ref (He.ga K "Set")] = some false := of_decide_eq_true (told_at c 35 4)
  have ksKeep : PySem.W.kitAny K (.ref (He.ga K "Keep")) [.type "list", .type "tuple"] = some false := of_decide_eq_true (told_at c 35 5)
  have kfBack : PySem.W.kitAny K (.ref (He.ga K "Back")) [.ref (He.ga K "Skip"), .ref (He.ga K "Set")] = some false := of_decide_eq_true (told_at c 35 6)
  have ksBack : PySem.W.kitAny K (.ref (He.ga K "Back")) [.type "list", .type "tuple"] = some false := of_decide_eq_true (told_at c 35 7)
  have kfRef : PySem.W.kitAny K (.ref (He.ga K "Ref")) [.ref (He.ga K "Skip"), .ref (He.ga K "Set")] = some false := of_decide_eq_true (told_at c 35 8)
  have ksRef : PySem.W.kitAny K (.ref (He.ga K "Ref")) [.type "list", .type "tuple"] = some false := of_decide_eq_true (told_at c 35 9)
  have kfPut : PySem.W.kitAny K (.ref (He.ga K "Put")) [.ref (He.ga K "Skip"), .ref (He.ga K "Set")] = some false := of_decide_eq_true (told_at c 36 0)
  have ksPut : PySem.W.kitAny K (.ref (He.ga K "Put")) [.type "list", .type "tuple"] = some false := of_decide_eq_true (told_at c 36 1)
  have kfOpen : PySem.W.kitAny K (.ref (He.ga K "Open")) [.ref (He.ga K "Skip"), .ref (He.ga K "Set")] = some false := of_decide_eq_true (told_at c 36 2)
  have ksOpen : PySem.W.kitAny K (.ref (He.ga K "Open")) [.type "list", .type "tuple"] = some false := of_decide_eq_true (told_at c 36 3)
  have kdNoneType : PySem.W.kitAny K (.type "NoneType") [.ref (He.ga K "Skip"), .ref (He.ga K "Set")] = some false := of_decide_eq_true (told_at c 36 4)
  have kdbool : PySem.W.kitAny K (.type "bool") [.ref (He.ga K "Skip"), .ref (He.ga K "Set")] = some false := of_decide_eq_true (told_at c 36 5)
  have kdint : PySem.W.kitAny K (.type "int") [.ref (He.ga K "Skip"), .ref (He.ga K "Set")] = some false := of_decide_eq_true (told_at c 36 6)
  have kdstr : PySem.W.kitAny K (.type "str") [.ref (He.ga K "Skip"), .ref (He.ga K "Set")] = some false := of_decide_eq_true (told_at c 36 7)
  have kdlist : PySem.W.kitAny K (.type "list") [.ref (He.ga K "Skip"), .ref (He.ga K "Set")] = some false := of_decide_eq_true (told_at c 36 8)
  have kdtuple : PySem.W.kitAny K (.type "tuple") [.ref (He.ga K "Skip"), .ref (He.ga K "Set")] = some false := of_decide_eq_true (told_at c 36 9)
  have kddict : PySem.W.kitAny K (.type "dict") [.ref (He.ga K "Skip"), .ref (He.ga K "Set")] = some false := of_decide_eq_true (told_at c 37 0)
  have cAF : PySem.W.findIn K (.ref (He.ga K "Filling")) "__class__" = some (some (.builtin "object.__class__")) := of_decide_eq_true (told_at c 37 1)
  have cMF : PySem.W.mroIn K (He.ga K "Filling") (.type "object") = some true := of_decide_eq_true (told_at c 37 2)
  have kCF : PySem.W.kitOne K (.ref (He.ga K "Filling")) (.ref (He.ga K "Filling")) = some true := of_decide_eq_true (told_at c 37 3)
  have kFNoneType : PySem.W.kitOne K (.type "NoneType") (.ref (He.ga K "Filling")) = some false := of_decide_eq_true (told_at c 37 4)
  have kFbool : PySem.W.kitOne K (.type "bool") (.ref (He.ga K "Filling")) = some false := of_decide_eq_true (told_at c 37 5)
  have kFint : PySem.W.kitOne K (.type "int") (.ref (He.ga K "Filling")) = some false := of_decide_eq_true (told_at c 37 6)
  have kFstr : PySem.W.kitOne K (.type "str") (.ref (He.ga K "Filling")) = some false := of_decide_eq_true (told_at c 37 7)
  have kFlist : PySem.W.kitOne K (.type "list") (.ref (He.ga K "Filling")) = some false := of_decide_eq_true (told_at c 37 8)
  have kFtuple : PySem.W.kitOne K (.type "tuple") (.ref (He.ga K "Filling")) = some false := of_decide_eq_true (told_at c 37 9)
  have kFdict : PySem.W.kitOne K (.type "dict") (.ref (He.ga K "Filling")) = some false := of_decide_eq_true (told_at c 38 0)
  have hsub : PySem.W.exmOne K (.ref (He.ga K "InvalidText")) (.ref (He.ga K "InvalidRow")) = some false := of_decide_eq_true (told_at c 38 1)
  have e := hfa.symm.trans (PySem.W.mg_of X G alaw)
  cases e
  have Mint : mg "int" = none := PySem.W.mg_none_of X G zint
  have Mbool : mg "bool" = none := PySem.W.mg_none_of X G zbool
  have Mstr : mg "str" = none := PySem.W.mg_none_of X G zstr
  have Misinstance : mg "isinstance" = none := PySem.W.mg_none_of X G zisinstance
  have Mlen : mg "len" = none := PySem.W.mg_none_of X G zlen
  have Mall : mg "all" = none := PySem.W.mg_none_of X G zall
  have Mabs : mg "abs" = none := PySem.W.mg_none_of X G zabs
  have Mrange : mg "range" = none := PySem.W.mg_none_of X G zrange
  have Mlist : mg "list" = none := PySem.W.mg_none_of X G zlist
  have Mtuple : mg "tuple" = none := PySem.W.mg_none_of X G ztuple
  have Mset : mg "set" = none := PySem.W.mg_none_of X G zset
  have Mreversed : mg "reversed" = none := PySem.W.mg_none_of X G zreversed
  have Msorted : mg "sorted" = none := PySem.W.mg_none_of X G zsorted
  have Mdict : mg "dict" = none := PySem.W.mg_none_of X G zdict
  have Menumerate : mg "enumerate" = none := PySem.W.mg_none_of X G zenumerate
  let Disinteger : At K mg "is_integer" sIsInteger ["value"] := ⟨(He.ga K "is_integer"), _, Xisinteger, Xisinteger.binds (ps := ["value"]) fun _ _ _ _ _ _ us hl => match us, hl with | [_], _ => rfl, PySem.W.mg_of X G aisinteger⟩
  let Disnumber : At K mg "is_number" sIsNumber ["value"] := ⟨(He.ga K "is_number"), _, Xisnumber, Xisnumber.binds (ps := ["value"]) fun _ _ _ _ _ _ us hl => match us, hl with | [_], _ => rfl, PySem.W.mg_of X G aisnumber⟩
  let Disname : At K mg "is_name" sIsName ["value"] := ⟨(He.ga K "is_name"), _, Xisname, Xisname.binds (ps := ["value"]) fun _ _ _ _ _ _ us hl => match us, hl with | [_], _ => rfl, PySem.W.mg_of X G aisname⟩
  have OInvalidRow : OexC K (He.ga K "InvalidRow") := ⟨xInvalidRow, saInvalidRow, eCInvalidRow, tCInvalidRow, kcInvalidRow⟩
  let EInvalidRow : TExc K mg "InvalidRow" "InvalidRow.__init__" "word" sIRInit := { C := (He.ga K "InvalidRow"), fI := (He.ma K (He.ga K "InvalidRow") "__init__"), fd := _, F := XInvalidRow, b := XInvalidRow.binds (ps := ["self", "word"]) fun _ _ _ _ _ _ us hl => match us, hl with | [_, _], _ => rfl, m := PySem.W.mg_of X G aInvalidRow, O := OInvalidRow, iC := inInvalidRow, tI := tiInvalidRow, noF := nfInvalidRow, E := ⟨gaInvalidRow, ggInvalidRow, eCInvalidRow, hCInvalidRow, haInvalidRow, hnGet, htGet, hmInvalidRow⟩, isC := iCInvalidRow, te := PySem.W.exm_ref eCInvalidRow hCInvalidRow tCInvalidRow sCInvalidRow, xf := ⟨gaInvalidRow, ggInvalidRow, eCInvalidRow, hCInvalidRow⟩ }
  have OInvalidText : OexC K (He.ga K "InvalidText") := ⟨xInvalidText, saInvalidText, eCInvalidText, tCInvalidText, kcInvalidText⟩
  let EInvalidText : TExc K mg "InvalidText" "InvalidText.__init__" "at" sITInit := { C := (He.ga K "InvalidText"), fI := (He.ma K (He.ga K "InvalidText") "__init__"), fd := _, F := XInvalidText, b := XInvalidText.binds (ps := ["self", "at"]) fun _ _ _ _ _ _ us hl => match us, hl with | [_, _], _ => rfl, m := PySem.W.mg_of X G aInvalidText, O := OInvalidText, iC := inInvalidText, tI := tiInvalidText, noF := nfInvalidText, E := ⟨gaInvalidText, ggInvalidText, eCInvalidText, hCInvalidText, haInvalidText, hnGet, htGet, hmInvalidText⟩, isC := iCInvalidText, te := PySem.W.exm_ref eCInvalidText hCInvalidText tCInvalidText sCInvalidText, xf := ⟨gaInvalidText, ggInvalidText, eCInvalidText, hCInvalidText⟩ }
  let Dneedname : At K mg "need_name" sNeedName ["value", "word"] := ⟨(He.ga K "need_name"), _, Xneedname, Xneedname.binds (ps := ["value", "word"]) fun _ _ _ _ _ _ us hl => match us, hl with | [_, _], _ => rfl, PySem.W.mg_of X G aneedname⟩
  let MSNote : TStr K (He.ga K "Note") "Note.__str__" sNoteStr := ⟨(He.ma K (He.ga K "Note") "__str__"), _, XSNote, XSNote.binds (ps := ["self"]) fun _ _ _ _ _ _ us hl => match us, hl with | [_], _ => rfl, inSNote, iSNote⟩
  let MSSkip : TStr K (He.ga K "Skip") "Skip.__str__" sSkipStr := ⟨(He.ma K (He.ga K "Skip") "__str__"), _, XSSkip, XSSkip.binds (ps := ["self"]) fun _ _ _ _ _ _ us hl => match us, hl with | [_], _ => rfl, inSSkip, iSSkip⟩
  let MSSet : TStr K (He.ga K "Set") "Set.__str__" sSetStr := ⟨(He.ma K (He.ga K "Set") "__str__"), _, XSSet, XSSet.binds (ps := ["self"]) fun _ _ _ _ _ _ us hl => match us, hl with | [_], _ => rfl, inSSet, iSSet⟩
  let MSKeep : TStr K (He.ga K "Keep") "Keep.__str__" sKeepStr := ⟨(He.ma K (He.ga K "Keep") "__str__"), _, XSKeep, XSKeep.binds (ps := ["self"]) fun _ _ _ _ _ _ us hl => match us, hl with | [_], _ => rfl, inSKeep, iSKeep⟩
  let MSBack : TStr K (He.ga K "Back") "Back.__str__" sBackStr := ⟨(He.ma K (He.ga K "Back") "__str__"), _, XSBack, XSBack.binds (ps := ["self"]) fun _ _ _ _ _ _ us hl => match us, hl with | [_], _ => rfl, inSBack, iSBack⟩
  let MSRef : TStr K (He.ga K "Ref") "Ref.__str__" sRefStr := ⟨(He.ma K (He.ga K "Ref") "__str__"), _, XSRef, XSRef.binds (ps := ["self"]) fun _ _ _ _ _ _ us hl => match us, hl with | [_], _ => rfl, inSRef, iSRef⟩
  let MSPut : TStr K (He.ga K "Put") "Put.__str__" sPutStr := ⟨(He.ma K (He.ga K "Put") "__str__"), _, XSPut, XSPut.binds (ps := ["self"]) fun _ _ _ _ _ _ us hl => match us, hl with | [_], _ => rfl, inSPut, iSPut⟩
  let MSOpen : TStr K (He.ga K "Open") "Open.__str__" sOpenStr := ⟨(He.ma K (He.ga K "Open") "__str__"), _, XSOpen, XSOpen.binds (ps := ["self"]) fun _ _ _ _ _ _ us hl => match us, hl with | [_], _ => rfl, inSOpen, iSOpen⟩
  let Dreadnumber : At K mg "read_number" sReadNum ["text"] := ⟨(He.ga K "read_number"), _, Xreadnumber, Xreadnumber.binds (ps := ["text"]) fun _ _ _ _ _ _ us hl => match us, hl with | [_], _ => rfl, PySem.W.mg_of X G areadnumber⟩
  let Drowoftwo : At K mg "row_of_two" sRow2 ["word", "name"] := ⟨(He.ga K "row_of_two"), _, Xrowoftwo, Xrowoftwo.binds (ps := ["word", "name"]) fun _ _ _ _ _ _ us hl => match us, hl with | [_, _], _ => rfl, PySem.W.mg_of X G arowoftwo⟩
  let Drowofthree : At K mg "row_of_three" sRow3 ["word", "counter", "last"] := ⟨(He.ga K "row_of_three"), _, Xrowofthree, Xrowofthree.binds (ps := ["word", "counter", "last"]) fun _ _ _ _ _ _ us hl => match us, hl with | [_, _, _], _ => rfl, PySem.W.mg_of X G arowofthree⟩
  let Dreadrow : At K mg "read_row" sReadRow ["text"] := ⟨(He.ga K "read_row"), _, Xreadrow, Xreadrow.binds (ps := ["text"]) fun _ _ _ _ _ _ us hl => match us, hl with | [_], _ => rfl, PySem.W.mg_of X G areadrow⟩
  let Dissequence : At K mg "is_sequence" sIsSeq ["value"] := ⟨(He.ga K "is_sequence"), _, Xissequence, Xissequence.binds (ps := ["value"]) fun _ _ _ _ _ _ us hl => match us, hl with | [_], _ => rfl, PySem.W.mg_of X G aissequence⟩
  have OInvalidPart : OexC K (He.ga K "InvalidPart") := ⟨xInvalidPart, saInvalidPart, eCInvalidPart, tCInvalidPart, kcInvalidPart⟩
  let EInvalidPart : TExc K mg "InvalidPart" "InvalidPart.__init__" "word" sIPInit := { C := (He.ga K "InvalidPart"), fI := (He.ma K (He.ga K "InvalidPart") "__init__"), fd := _, F := XInvalidPart, b := XInvalidPart.binds (ps := ["self", "word"]) fun _ _ _ _ _ _ us hl => match us, hl with | [_, _], _ => rfl, m := PySem.W.mg_of X G aInvalidPart, O := OInvalidPart, iC := inInvalidPart, tI := tiInvalidPart, noF := nfInvalidPart, E := ⟨gaInvalidPart, ggInvalidPart, eCInvalidPart, hCInvalidPart, haInvalidPart, hnGet, htGet, hmInvalidPart⟩, isC := iCInvalidPart, te := PySem.W.exm_ref eCInvalidPart hCInvalidPart tCInvalidPart sCInvalidPart, xf := ⟨gaInvalidPart, ggInvalidPart, eCInvalidPart, hCInvalidPart⟩ }
  obtain ⟨dsPart0, vPart0, bPart0⟩ := FPart.binds1 (ps := ["self", "name", "rows"]) 2 0 (by simp) rfl fun _ _ _ _ _ _ _ us its hl hi => match us, its, hl, hi with | [_, _], [_], _, _ => ⟨_, rfl, rfl⟩
  obtain ⟨dsPart1, vPart1, bPart1⟩ := FPart.binds1 (ps := ["self", "name", "rows"]) 3 1 (by simp) rfl fun _ _ _ _ _ _ _ us its hl hi => match us, its, hl, hi with | [_, _, _], [_], _, _ => ⟨_, rfl, rfl⟩
  have ePart : dsPart1 = [] := by cases vPart1; rfl
  subst ePart
  let MstrPart : TMeth K (He.ga K "Part") "__str__" "Part.__str__" sPartStr ["self"] := ⟨(He.ma K (He.ga K "Part") "__str__"), _, XstrPart, XstrPart.binds (ps := ["self"]) fun _ _ _ _ _ _ us hl => match us, hl with | [_], _ => rfl, instrPart, istrPart⟩
  let MeqPart : TMeth K (He.ga K "Part") "__eq__" "Part.__eq__" sPartEq ["self", "other"] := ⟨(He.ma K (He.ga K "Part") "__eq__"), _, XeqPart, XeqPart.binds (ps := ["self", "other"]) fun _ _ _ _ _ _ us hl => match us, hl with | [_, _], _ => rfl, ineqPart, ieqPart⟩
  let Dispair : At K mg "is_pair" sIsPair ["value"] := ⟨(He.ga K "is_pair"), _, Xispair, Xispair.binds (ps := ["value"]) fun _ _ _ _ _ _ us hl => match us, hl with | [_], _ => rfl, PySem.W.mg_of X G aispair⟩
  let Darecounters : At K mg "are_counters" sAreC ["counters"] := ⟨(He.ga K "are_counters"), _, Xarecounters, Xarecounters.binds (ps := ["counters"]) fun _ _ _ _ _ _ us hl => match us, hl with | [_], _ => rfl, PySem.W.mg_of X G aarecounters⟩
  let Dareparts : At K mg "are_parts" sAreP ["parts"] := ⟨(He.ga K "are_parts"), _, Xareparts, Xareparts.binds (ps := ["parts"]) fun _ _ _ _ _ _ us hl => match us, hl with | [_], _ => rfl, PySem.W.mg_of X G aareparts⟩
  let Dcountersareknown : At K mg "counters_are_known" sCKnown ["counters", "parts"] := ⟨(He.ga K "counters_are_known"), _, Xcountersareknown, Xcountersareknown.binds (ps := ["counters", "parts"]) fun _ _ _ _ _ _ us hl => match us, hl with | [_, _], _ => rfl, PySem.W.mg_of X G acountersareknown⟩
  let Dnamesput : At K mg "names_put" sNPut ["part"] := ⟨(He.ga K "names_put"), _, Xnamesput, Xnamesput.binds (ps := ["part"]) fun _ _ _ _ _ _ us hl => match us, hl with | [_], _ => rfl, PySem.W.mg_of X G anamesput⟩
  let Dputsareearlier : At K mg "puts_are_earlier" sPEarly ["parts"] := ⟨(He.ga K "puts_are_earlier"), _, Xputsareearlier, Xputsareearlier.binds (ps := ["parts"]) fun _ _ _ _ _ _ us hl => match us, hl with | [_], _ => rfl, PySem.W.mg_of X G aputsareearlier⟩
  let Dnamesreached : At K mg "names_reached" sNReach ["parts"] := ⟨(He.ga K "names_reached"), _, Xnamesreached, Xnamesreached.binds (ps := ["parts"]) fun _ _ _ _ _ _ us hl => match us, hl with | [_], _ => rfl, PySem.W.mg_of X G anamesreached⟩
  let Dunroll : At K mg "unroll" sUnr1 ["part", "flat"] := ⟨(He.ga K "unroll"), _, Xunroll, Xunroll.binds (ps := ["part", "flat"]) fun _ _ _ _ _ _ us hl => match us, hl with | [_, _], _ => rfl, PySem.W.mg_of X G aunroll⟩
  let Dunrolledtext : At K mg "unrolled_text" sUText ["parts"] := ⟨(He.ga K "unrolled_text"), _, Xunrolledtext, Xunrolledtext.binds (ps := ["parts"]) fun _ _ _ _ _ _ us hl => match us, hl with | [_], _ => rfl, PySem.W.mg_of X G aunrolledtext⟩
  let Drefsareknown : At K mg "refs_are_known" sRefsK ["rows"] := ⟨(He.ga K "refs_are_known"), _, Xrefsareknown, Xrefsareknown.binds (ps := ["rows"]) fun _ _ _ _ _ _ us hl => match us, hl with | [_], _ => rfl, PySem.W.mg_of X G arefsareknown⟩
  let MnamesBook : TPr K (He.ga K "Book") "names" "Book.names" sBNames := ⟨(He.ma K (He.ga K "Book") "names"), (getterQ K (He.ma K (He.ga K "Book") "names")), _, XnamesBook, XnamesBook.binds (ps := ["self"]) fun _ _ _ _ _ _ us hl => match us, hl with | [_], _ => rfl, propQ_ok (told_at c 22 5)⟩
  let MtopsBook : TPr K (He.ga K "Book") "tops" "Book.tops" sBTops := ⟨(He.ma K (He.ga K "Book") "tops"), (getterQ K (He.ma K (He.ga K "Book") "tops")), _, XtopsBook, XtopsBook.binds (ps := ["self"]) fun _ _ _ _ _ _ us hl => match us, hl with | [_], _ => rfl, propQ_ok (told_at c 22 6)⟩
  let MunrolledBook : TPr K (He.ga K "Book") "unrolled" "Book.unrolled" sBUnr := ⟨(He.ma K (He.ga K "Book") "unrolled"), (getterQ K (He.ma K (He.ga K "Book") "unrolled")), _, XunrolledBook, XunrolledBook.binds (ps := ["self"]) fun _ _ _ _ _ _ us hl => match us, hl with | [_], _ => rfl, propQ_ok (told_at c 22 7)⟩
  let MchainBook : TMeth K (He.ga K "Book") "chain" "Book.chain" sBChain ["self", "name"] := ⟨(He.ma K (He.ga K "Book") "chain"), _, XchainBook, XchainBook.binds (ps := ["self", "name"]) fun _ _ _ _ _ _ us hl => match us, hl with | [_, _], _ => rfl, inchainBook, ichainBook⟩
  let Dreadcounter : At K mg "read_counter" sRdC ["line"] := ⟨(He.ga K "read_counter"), _, Xreadcounter, Xreadcounter.binds (ps := ["line"]) fun _ _ _ _ _ _ us hl => match us, hl with | [_], _ => rfl, PySem.W.mg_of X G areadcounter⟩
  let Dreadcounters : At K mg "read_counters" sRdCs ["lines"] := ⟨(He.ga K "read_counters"), _, Xreadcounters, Xreadcounters.binds (ps := ["lines"]) fun _ _ _ _ _ _ us hl => match us, hl with | [_], _ => rfl, PySem.W.mg_of X G areadcounters⟩
  let Dispartline : At K mg "is_part_line" sIsPL ["line"] := ⟨(He.ga K "is_part_line"), _, Xispartline, Xispartline.binds (ps := ["line"]) fun _ _ _ _ _ _ us hl => match us, hl with | [_], _ => rfl, PySem.W.mg_of X G aispartline⟩
  let Dreadline : At K mg "read_line" sRdL ["line", "at"] := ⟨(He.ga K "read_line"), _, Xreadline, Xreadline.binds (ps := ["line", "at"]) fun _ _ _ _ _ _ us hl => match us, hl with | [_, _], _ => rfl, PySem.W.mg_of X G areadline⟩
  let Dreadparts : At K mg "read_parts" sRdPs ["lines", "start"] := ⟨(He.ga K "read_parts"), _, Xreadparts, Xreadparts.binds (ps := ["lines", "start"]) fun _ _ _ _ _ _ us hl => match us, hl with | [_, _], _ => rfl, PySem.W.mg_of X G areadparts⟩
  have BreadBook : Binds K fdreadBook ["cls", "text"] [] := XreadBook.binds (ps := ["cls", "text"]) fun _ _ _ _ _ _ us hl => match us, hl with | [_, _], _ => rfl
  have OInvalidFilling : OexC K (He.ga K "InvalidFilling") := ⟨xInvalidFilling, saInvalidFilling, eCInvalidFilling, tCInvalidFilling, kcInvalidFilling⟩
  let EInvalidFilling : TExc K mg "InvalidFilling" "InvalidFilling.__init__" "word" sIFInit := { C := (He.ga K "InvalidFilling"), fI := (He.ma K (He.ga K "InvalidFilling") "__init__"), fd := _, F := XInvalidFilling, b := XInvalidFilling.binds (ps := ["self", "word"]) fun _ _ _ _ _ _ us hl => match us, hl with | [_, _], _ => rfl, m := PySem.W.mg_of X G aInvalidFilling, O := OInvalidFilling, iC := inInvalidFilling, tI := tiInvalidFilling, noF := nfInvalidFilling, E := ⟨gaInvalidFilling, ggInvalidFilling, eCInvalidFilling, hCInvalidFilling, haInvalidFilling, hnGet, htGet, hmInvalidFilling⟩, isC := iCInvalidFilling, te := PySem.W.exm_ref eCInvalidFilling hCInvalidFilling tCInvalidFilling sCInvalidFilling, xf := ⟨gaInvalidFilling, ggInvalidFilling, eCInvalidFilling, hCInvalidFilling⟩ }
  obtain ⟨dsFilling0, vFilling0, bFilling0⟩ := FFilling.binds1 (ps := ["self", "parts"]) 1 0 (by simp) rfl fun _ _ _ _ _ _ _ us its hl hi => match us, its, hl, hi with | [_], [_], _, _ => ⟨_, rfl, rfl⟩
  obtain ⟨dsFilling1, vFilling1, bFilling1⟩ := FFilling.binds1 (ps := ["self", "parts"]) 2 1 (by simp) rfl fun _ _ _ _ _ _ _ us its hl hi => match us, its, hl, hi with | [_, _], [_], _, _ => ⟨_, rfl, rfl⟩
  have eFilling : dsFilling1 = [] := by cases vFilling1; rfl
  subst eFilling
  let Mrows_forFilling : TMeth K (He.ga K "Filling") "rows_for" "Filling.rows_for" sFRows ["self", "name"] := ⟨(He.ma K (He.ga K "Filling") "rows_for"), _, Xrows_forFilling, Xrows_forFilling.binds (ps := ["self", "name"]) fun _ _ _ _ _ _ us hl => match us, hl with | [_, _], _ => rfl, inrows_forFilling, irows_forFilling⟩
  let MstrFilling : TMeth K (He.ga K "Filling") "__str__" "Filling.__str__" sFStr ["self"] := ⟨(He.ma K (He.ga K "Filling") "__str__"), _, XstrFilling, XstrFilling.binds (ps := ["self"]) fun _ _ _ _ _ _ us hl => match us, hl with | [_], _ => rfl, instrFilling, istrFilling⟩
  let MeqFilling : TMeth K (He.ga K "Filling") "__eq__" "Filling.__eq__" sFEq ["self", "other"] := ⟨(He.ma K (He.ga K "Filling") "__eq__"), _, XeqFilling, XeqFilling.binds (ps := ["self", "other"]) fun _ _ _ _ _ _ us hl => match us, hl with | [_, _], _ => rfl, ineqFilling, ieqFilling⟩
  let MnamesFilling : TPr K (He.ga K "Filling") "names" "Filling.names" sFNames := ⟨(He.ma K (He.ga K "Filling") "names"), (getterQ K (He.ma K (He.ga K "Filling") "names")), _, XnamesFilling, XnamesFilling.binds (ps := ["self"]) fun _ _ _ _ _ _ us hl => match us, hl with | [_], _ => rfl, propQ_ok (told_at c 26 9)⟩
  let Darefillable : At K mg "are_fillable" sAreFill ["rows"] := ⟨(He.ga K "are_fillable"), _, Xarefillable, Xarefillable.binds (ps := ["rows"]) fun _ _ _ _ _ _ us hl => match us, hl with | [_], _ => rfl, PySem.W.mg_of X G aarefillable⟩
  let Disfilled : At K mg "is_filled" sIsFilled ["value"] := ⟨(He.ga K "is_filled"), _, Xisfilled, Xisfilled.binds (ps := ["value"]) fun _ _ _ _ _ _ us hl => match us, hl with | [_], _ => rfl, PySem.W.mg_of X G aisfilled⟩
  let Dfilledtext : At K mg "filled_text" sFText ["name", "rows"] := ⟨(He.ga K "filled_text"), _, Xfilledtext, Xfilledtext.binds (ps := ["name", "rows"]) fun _ _ _ _ _ _ us hl => match us, hl with | [_, _], _ => rfl, PySem.W.mg_of X G afilledtext⟩
  let Dgoingon : At K mg "going_on" sGoing ["row"] := ⟨(He.ga K "going_on"), _, Xgoingon, Xgoingon.binds (ps := ["row"]) fun _ _ _ _ _ _ us hl => match us, hl with | [_], _ => rfl, PySem.W.mg_of X G agoingon⟩
  let Downstep : At K mg "own_step" sOwn ["row"] := ⟨(He.ga K "own_step"), _, Xownstep, Xownstep.binds (ps := ["row"]) fun _ _ _ _ _ _ us hl => match us, hl with | [_], _ => rfl, PySem.W.mg_of X G aownstep⟩
  let Dstepof : At K mg "step_of" sStep ["row", "chain"] := ⟨(He.ga K "step_of"), _, Xstepof, Xstepof.binds (ps := ["row", "chain"]) fun _ _ _ _ _ _ us hl => match us, hl with | [_, _], _ => rfl, PySem.W.mg_of X G astepof⟩
  let Dreckoned : At K mg "reckoned" sReck ["term", "number", "kept"] := ⟨(He.ga K "reckoned"), _, Xreckoned, Xreckoned.binds (ps := ["term", "number", "kept"]) fun _ _ _ _ _ _ us hl => match us, hl with | [_, _, _], _ => rfl, PySem.W.mg_of X G areckoned⟩
  let Ddone : At K mg "done" sDone ["row", "chains", "state"] := ⟨(He.ga K "done"), _, Xdone, Xdone.binds (ps := ["row", "chains", "state"]) fun _ _ _ _ _ _ us hl => match us, hl with | [_, _, _], _ => rfl, PySem.W.mg_of X G adone⟩
  let Dnotetold : At K mg "note_told" sTold ["label", "ahead", "notes"] := ⟨(He.ga K "note_told"), _, Xnotetold, Xnotetold.binds (ps := ["label", "ahead", "notes"]) fun _ _ _ _ _ _ us hl => match us, hl with | [_, _, _], _ => rfl, PySem.W.mg_of X G anotetold⟩
  let Dlinks : At K mg "links" sLinks ["book"] := ⟨(He.ga K "links"), _, Xlinks, Xlinks.binds (ps := ["book"]) fun _ _ _ _ _ _ us hl => match us, hl with | [_], _ => rfl, PySem.W.mg_of X G alinks⟩
  let Dneedcounters : At K mg "need_counters" sNeedC ["book", "filling"] := ⟨(He.ga K "need_counters"), _, Xneedcounters, Xneedcounters.binds (ps := ["book", "filling"]) fun _ _ _ _ _ _ us hl => match us, hl with | [_, _], _ => rfl, PySem.W.mg_of X G aneedcounters⟩
  let Dfilledrows : At K mg "filled_rows" sFilled ["book", "filling"] := ⟨(He.ga K "filled_rows"), _, Xfilledrows, Xfilledrows.binds (ps := ["book", "filling"]) fun _ _ _ _ _ _ us hl => match us, hl with | [_, _], _ => rfl, PySem.W.mg_of X G afilledrows⟩
  let Dplay : At K mg "play" sPlay ["book", "filling"] := ⟨(He.ga K "play"), _, Xplay, Xplay.binds (ps := ["book", "filling"]) fun _ _ _ _ _ _ us hl => match us, hl with | [_, _], _ => rfl, PySem.W.mg_of X G aplay⟩
  let Dlawdeal : At K mg "_law_deal" sDeal ["_law_script"] := ⟨(He.ga K "_law_deal"), _, Xlawdeal, Xlawdeal.binds (ps := ["_law_script"]) fun _ _ _ _ _ _ us hl => match us, hl with | [_], _ => rfl, PySem.W.mg_of X G alawdeal⟩
  let Dlawdraw : At K mg "_law_draw" sDraw ["_law_deal_here", "_law_many"] := ⟨(He.ga K "_law_draw"), _, Xlawdraw, Xlawdraw.binds (ps := ["_law_deal_here", "_law_many"]) fun _ _ _ _ _ _ us hl => match us, hl with | [_, _], _ => rfl, PySem.W.mg_of X G alawdraw⟩
  let Dlawmixed : At K mg "_law_mixed" sMixed ["_law_deal_here", "_law_some"] := ⟨(He.ga K "_law_mixed"), _, Xlawmixed, Xlawmixed.binds (ps := ["_law_deal_here", "_law_some"]) fun _ _ _ _ _ _ us hl => match us, hl with | [_, _], _ => rfl, PySem.W.mg_of X G alawmixed⟩
  let Dlawnames : At K mg "_law_names" sNames ["_law_deal_here", "_law_many"] := ⟨(He.ga K "_law_names"), _, Xlawnames, Xlawnames.binds (ps := ["_law_deal_here", "_law_many"]) fun _ _ _ _ _ _ us hl => match us, hl with | [_, _], _ => rfl, PySem.W.mg_of X G alawnames⟩
  let N : TNeed K mg := { mInt := Mint, mBool := Mbool, mStr := Mstr, mIsi := Misinstance, mLen := Mlen, mAll := Mall, words := (He.ga K "ROW_WORDS"), mWords := PySem.W.mg_of X G aROWWORDS, hWords := SROWWORDS, tok := tkLONGESTNAME, mLong := ILONGESTNAME, isInteger := Disinteger, isNumber := Disnumber, isName := Disname, IR := EInvalidRow, need := Dneedname }
  have FN := FNote
  obtain ⟨dsN, vN, bN⟩ := FN.binds1 (ps := ["self", "counter", "label"]) 3 1 (by simp) rfl fun _ _ _ _ _ _ _ us its hl hi => match us, its, hl, hi with | [_, _, _], [_], _, _ => ⟨_, rfl, rfl⟩
  have eN : dsN = [] := by cases vN; rfl
  subst eN
  obtain ⟨dsM, vM, bM⟩ := FN.binds1 (ps := ["self", "counter", "label"]) 2 0 (by simp) rfl fun _ _ _ _ _ _ _ us its hl hi => match us, its, hl, hi with | [_, _], [_], _, _ => ⟨_, rfl, rfl⟩
  let KNote : TNote K mg := { C := (He.ga K "Note"), fI := (He.ma K (He.ga K "Note") "__init__"), fd := _, F := FN, b := bN, m := PySem.W.mg_of X G aNote, M := ⟨mkNote, inNote, iNote, kcNote⟩, cl := ⟨pgNote, hdNote, poNote, saNote⟩, noW := nNote0, noC := nNote1, noL := nNote2 }
  let KSkip : TSkip K mg := { C := (He.ga K "Skip"), fI := (He.ma K (He.ga K "Skip") "__init__"), fd := _, F := XSkip, b := (XSkip).binds (ps := ["self", "counter", "by"]) fun _ _ _ _ _ _ us hl => match us, hl with | [_, _, _], _ => rfl, m := PySem.W.mg_of X G aSkip, M := ⟨mkSkip, inSkip, iSkip, kcSkip⟩, cl := ⟨pgSkip, hdSkip, poSkip, saSkip⟩, noW := nSkip0, noC := nSkip1, noF := nSkip2 }
  let KSet : TSet K mg := { C := (He.ga K "Set"), fI := (He.ma K (He.ga K "Set") "__init__"), fd := _, F := XSet, b := (XSet).binds (ps := ["self", "counter", "to"]) fun _ _ _ _ _ _ us hl => match us, hl with | [_, _, _], _ => rfl, m := PySem.W.mg_of X G aSet, M := ⟨mkSet, inSet, iSet, kcSet⟩, cl := ⟨pgSet, hdSet, poSet, saSet⟩, noW := nSet0, noC := nSet1, noF := nSet2 }
  let KKeep : TKeep K mg := { C := (He.ga K "Keep"), fI := (He.ma K (He.ga K "Keep") "__init__"), fd := _, F := XKeep, b := (XKeep).binds (ps := ["self", "counter"]) fun _ _ _ _ _ _ us hl => match us, hl with | [_, _], _ => rfl, m := PySem.W.mg_of X G aKeep, M := ⟨mkKeep, inKeep, iKeep, kcKeep⟩, cl := ⟨pgKeep, hdKeep, poKeep, saKeep⟩, noW := nKeep0, noF := nKeep1 }
  let KBack : TBack K mg := { C := (He.ga K "Back"), fI := (He.ma K (He.ga K "Back") "__init__"), fd := _, F := XBack, b := (XBack).binds (ps := ["self", "counter"]) fun _ _ _ _ _ _ us hl => match us, hl with | [_, _], _ => rfl, m := PySem.W.mg_of X G aBack, M := ⟨mkBack, inBack, iBack, kcBack⟩, cl := ⟨pgBack, hdBack, poBack, saBack⟩, noW := nBack0, noF := nBack1 }
  let KRef : TRef K mg := { C := (He.ga K "Ref"), fI := (He.ma K (He.ga K "Ref") "__init__"), fd := _, F := XRef, b := (XRef).binds (ps := ["self", "label"]) fun _ _ _ _ _ _ us hl => match us, hl with | [_, _], _ => rfl, m := PySem.W.mg_of X G aRef, M := ⟨mkRef, inRef, iRef, kcRef⟩, cl := ⟨pgRef, hdRef, poRef, saRef⟩, noW := nRef0, noF := nRef1 }
  let KPut : TPut K mg := { C := (He.ga K "Put"), fI := (He.ma K (He.ga K "Put") "__init__"), fd := _, F := XPut, b := (XPut).binds (ps := ["self", "part"]) fun _ _ _ _ _ _ us hl => match us, hl with | [_, _], _ => rfl, m := PySem.W.mg_of X G aPut, M := ⟨mkPut, inPut, iPut, kcPut⟩, cl := ⟨pgPut, hdPut, poPut, saPut⟩, noW := nPut0, noF := nPut1 }
  let KOpen : TOpen K mg := { C := (He.ga K "Open"), fI := (He.ma K (He.ga K "Open") "__init__"), fd := _, F := XOpen, b := (XOpen).binds (ps := ["self", "name"]) fun _ _ _ _ _ _ us hl => match us, hl with | [_, _], _ => rfl, m := PySem.W.mg_of X G aOpen, M := ⟨mkOpen, inOpen, iOpen, kcOpen⟩, cl := ⟨pgOpen, hdOpen, poOpen, saOpen⟩, noW := nOpen0, noF := nOpen1 }
  let R : TRows K mg := { N := N, note := KNote, skip := KSkip, set := KSet, keep := KKeep, back := KBack, ref := KRef, put := KPut, open_ := KOpen }
  let S : TStrs R := { note := MSNote, skip := MSSkip, set := MSSet, keep := MSKeep, back := MSBack, ref := MSRef, put := MSPut, open_ := MSOpen }
  let NU : TNum K mg := { IT := EInvalidText, mInt := Mint, mLen := Mlen, mAll := Mall, tok := tkMOSTDIGITS, mMost := IMOSTDIGITS, num := Dreadnumber }
  let RD : TRead K mg := { R := R, M := NU, dsN := dsM, vN := vM, bN := bM, two := Drowoftwo, three := Drowofthree, read := Dreadrow }
  let PP : TPart R := { S := S, CR := (He.ga K "Row"), mR := PySem.W.mg_of X G aRow, kR := fun r => match r with | .note _ _ => kRNote | .skip _ _ => kRSkip | .set _ _ => kRSet | .keep _ => kRKeep | .back _ => kRBack | .ref _ => kRRef | .put _ => kRPut | .opn _ => kROpen, kD := fun d => match d with | .none => kDNoneType | .bool _ => kDbool | .int _ => kDint | .str _ => kDstr | .list _ => kDlist | .tuple _ => kDtuple | .dict _ => kDdict, cA := fun r => match r with | .note _ _ => cANote | .skip _ _ => cASkip | .set _ _ => cASet | .keep _ => cAKeep | .back _ => cABack | .ref _ => cARef | .put _ => cAPut | .opn _ => cAOpen, cN := hnGet, cT := htGet, cM := fun r => match r with | .note _ _ => cMNote | .skip _ _ => cMSkip | .set _ _ => cMSet | .keep _ => cMKeep | .back _ => cMBack | .ref _ => cMRef | .put _ => cMPut | .opn _ => cMOpen, mList := Mlist, mTup := Mtuple, isSeq := Dissequence, IP := EInvalidPart, C := (He.ga K "Part"), mC := PySem.W.mg_of X G aPart, fI := (He.ma K (He.ga K "Part") "__init__"), fdI := _, dRows := (He.dflAt ("Part", some "__init__") 0 K), hRows := SDPart, FI := FPart, bI := bPart1, ds1 := dsPart0, v1 := vPart0, b1 := bPart0, M := ⟨mkPart, inPart, iPart, kcPart⟩, cl := ⟨pgPart, hdPart, poPart, saPart⟩, noN := nPart0, noR := nPart1, pA := pAPart, pM := pMPart, ne := nePart, kC := kCPart, kS := kSPart, nC := nCPart, nS := nSPart, str := MstrPart, eq := MeqPart }
  let BK : TBk PP := { mSet := Mset, mRev := Mreversed, cw := (He.ga K "COUNTING_WORDS"), mCW := PySem.W.mg_of X G aCOUNTINGWORDS, hCW := SCOUNTINGWORDS, isPair := Dispair, areC := Darecounters, areP := Dareparts, cKnown := Dcountersareknown, nPut := Dnamesput, pEarly := Dputsareearlier, nReach := Dnamesreached, unroll := Dunroll, uText := Dunrolledtext, refsK := Drefsareknown, mSort := Msorted, mDict := Mdict, C := (He.ga K "Book"), mC := PySem.W.mg_of X G aBook, fI := (He.ma K (He.ga K "Book") "__init__"), fdI := _, FI := XBook, bI := (XBook).binds (ps := ["self", "counters", "parts"]) fun _ _ _ _ _ _ us hl => match us, hl with | [_, _, _], _ => rfl, M := ⟨mkBook, inBook, iBook, kcBook⟩, cl := ⟨pgBook, hdBook, poBook, saBook⟩, noC := nBook0, noP := nBook1, noF := nBook2, names := MnamesBook, tops := MtopsBook, unr := MunrolledBook, chain := MchainBook }
  let BR : TBRead RD BK := { hsub := hsub, mEn := Menumerate, rdc := Dreadcounter, rdcs := Dreadcounters, isPL := Dispartline, rdl := Dreadline, rdps := Dreadparts, fR := (cgetQ K (He.ma K (He.ga K "Book") "read")), fdR := _, FR := XreadBook, bR := BreadBook, mc := .type "type", pR := (He.ma K (He.ga K "Book") "read"), cr := CMreadBook.1, cm := CMreadBook.2 }
  let FL : TFil R := { kF := fun r => match r with | .note _ _ => kfNote | .skip _ _ => kfSkip | .set _ _ => kfSet | .keep _ => kfKeep | .back _ => kfBack | .ref _ => kfRef | .put _ => kfPut | .opn _ => kfOpen, kD := fun d => match d with | .none => kdNoneType | .bool _ => kdbool | .int _ => kdint | .str _ => kdstr | .list _ => kdlist | .tuple _ => kdtuple | .dict _ => kddict, kS := fun r => match r with | .note _ _ => ksNote | .skip _ _ => ksSkip | .set _ _ => ksSet | .keep _ => ksKeep | .back _ => ksBack | .ref _ => ksRef | .put _ => ksPut | .opn _ => ksOpen, cA := fun r => match r with | .note _ _ => cANote | .skip _ _ => cASkip | .set _ _ => cASet | .keep _ => cAKeep | .back _ => cABack | .ref _ => cARef | .put _ => cAPut | .opn _ => cAOpen, cN := hnGet, cT := htGet, cM := fun r => match r with | .note _ _ => cMNote | .skip _ _ => cMSkip | .set _ _ => cMSet | .keep _ => cMKeep | .back _ => cMBack | .ref _ => cMRef | .put _ => cMPut | .opn _ => cMOpen, mList := Mlist, mTup := Mtuple, isSeq := Dissequence, isPair := Dispair, areF := Darefillable, isF := Disfilled }
  let FF : TFill R := { toTFil := FL, mSet := Mset, mSorted := Msorted, mDict := Mdict, IF := EInvalidFilling, C := (He.ga K "Filling"), mC := PySem.W.mg_of X G aFilling, fI := (He.ma K (He.ga K "Filling") "__init__"), fdI := _, dP := (He.dflAt ("Filling", some "__init__") 0 K), hP := SDFilling, FI := FFilling, bI := bFilling1, M := ⟨mkFilling, inFilling, iFilling, kcFilling⟩, cl := ⟨pgFilling, hdFilling, poFilling, saFilling⟩, noF := nFilling0 }
  let MM : TFilM FF := { S := S, ftext := Dfilledtext, names := MnamesFilling, rowsFor := Mrows_forFilling, str := MstrFilling }
  let EE : TFilE MM := { eq := MeqFilling, cA := cAF, cM := cMF, kC := kCF, kD := fun d => match d with | .none => kFNoneType | .bool _ => kFbool | .int _ => kFint | .str _ => kFstr | .list _ => kFlist | .tuple _ => kFtuple | .dict _ => kFdict }
  let NN : TNum4 (B := BK) EE := { sn := (He.ga K "SAME_NUMBER"), mSN := PySem.W.mg_of X G aSAMENUMBER, hSN := SSAMENUMBER, sb := (He.ga K "SAME_BOX"), mSB := PySem.W.mg_of X G aSAMEBOX, hSB := SSAMEBOX, sy := (He.ga K "STAY"), mSY := PySem.W.mg_of X G aSTAY, hSY := SSTAY, going := Dgoingon, own := Downstep, step := Dstepof, reck := Dreckoned, done := Ddone, mEnum := Menumerate, told := Dnotetold, links := Dlinks, needC := Dneedcounters, filledR := Dfilledrows, C := (He.ga K "Played"), mC := PySem.W.mg_of X G aPlayed, fI := (He.ma K (He.ga K "Played") "__init__"), fdI := _, FI := XPlayed, bI := (XPlayed).binds (ps := ["self", "notes", "refs", "ends"]) fun _ _ _ _ _ _ us hl => match us, hl with | [_, _, _, _], _ => rfl, M := ⟨mkPlayed, inPlayed, iPlayed, kcPlayed⟩, cl := ⟨pgPlayed, hdPlayed, poPlayed, saPlayed⟩, noN := nPlayed0, noR := nPlayed1, noE := nPlayed2, af := (He.ga K "AT_FIRST"), mAF := PySem.W.mg_of X G aATFIRST, hAF := SATFIRST, play := Dplay }
  let DC : TDealN K mg := { mI := Mint, mA := Mabs, mL := Mlen, mLs := Mlist, deal := Dlawdeal, draw := Dlawdraw, mixed := Dlawmixed, names := Dlawnames }
  let T : TK20 K mg := { D := DC, Rd := RD, P := PP, B := BK, rd := BR, F := FF, FM := MM, FE := EE, N := NN, mR := Mrange }
  have Flaw : FunD K "law" "law" (defArgs sLaw20) (defBody sLaw20) (defScope sLaw20) [] [] (He.ga K "law") fdlaw := Ylaw
  have blaw := FunD.bindsA (ps := ["_law_script"]) Flaw fun _ _ _ _ _ _ us hl => match us, hl with | [_], _ => rfl
  exact ⟨_, fun s v => blaw s [v] rfl, fun base _ _ => ok_law20 T (Xlaw)⟩
end Pn

namespace Pn
open PySem PySem.W PySem.Calls PyProof.Rows L2
abbrev rowQ : OpenRow := OpenLaw.row PySem.Challenge.rw_partnotes_k20_references_ahead_and_behin
abbrev progQ : Program := view rowQ.prog [79]
def namesQ0 : List PySem.Str := ["_wall", "__name__", "ROW_WORDS", "LONGEST_NAME", "is_integer", "is_number", "is_name", "is_sequence", "is_pair", "NoteError", "InvalidRow", "InvalidPart", "InvalidBook", "InvalidText", "InvalidFilling", "NoName", "MOST_DIGITS", "Row", "same_row", "need_name", "Note", "Skip", "Set", "Keep", "Back", "Ref", "Put", "Open", "read_number", "row_of_two"]
def namesQ1 : List PySem.Str := ["row_of_three", "read_row", "COUNTING_WORDS", "Part", "are_counters", "are_parts", "counters_are_known", "names_put", "puts_are_earlier", "names_reached", "unroll", "unrolled_text", "refs_are_known", "counter_line", "read_counter", "read_counters", "is_part_line", "read_line", "read_parts", "Book", "SAME_NUMBER", "SAME_BOX", "STAY", "going_on", "own_step", "step_of", "reckoned", "AT_FIRST", "are_fillable", "is_filled"]
def namesQ2 : List PySem.Str := ["filled_text", "Filling", "Played", "need_counters", "filled_rows", "done", "note_told", "links", "play", "_law_deal", "_law_draw", "_law_mixed", "_law_names"]
def namesQ : List PySem.Str := namesQ0 ++ namesQ1 ++ namesQ2
theorem runQ (w : World) : HandSHeadRun.RunEq rowQ progQ (hookQ 5 fnQ exQ) (seenQ 5 fnQ exQ) 20000 namesQ w := by
  intro os
  kernel_rfl
end Pn
open PySem PySem.W PySem.Calls PyProof.Rows
theorem PySem.Challenge.cw_partnotes_k20_references_ahead_and_behin_holds : PySem.Challenge.rw_partnotes_k20_references_ahead_and_behin.Holds := by
  w_on; o_law
  refine HandSHeadRun.head_any (M := 20000) (r := Pn.rowQ) (q := Pn.progQ) (H := Pn.hookQ 5 Pn.fnQ Pn.exQ) (ob := Pn.seenQ 5 Pn.fnQ Pn.exQ) (loose := Pn.namesQ) (kwd := []) (d := HandSHeadRun.topDef Pn.rowQ.prog 79) (Pn.seenQ_eq 5 Pn.fnQ Pn.exQ)
    (by kernel_rfl) (fun z => by kernel_rfl) Pn.runQ (by kernel_rfl) (by kernel_rfl) (by kernel_rfl) (by rfl) (by first | assumption | decide +kernel) (by decide +kernel) ⟨rfl, rfl, rfl, rfl, rfl, by decide +kernel⟩ ?hw ?hc
  case hw => w_witness2
  case hc =>
    refine L2.walk_ofE (l := PySem.Challenge.rw_partnotes_k20_references_ahead_and_behin) (n := 63) (k := 14) (x := "_law_script") (CX := L2.CX0) rfl (by decide) (by kernel_rfl) ⟨rfl, by decide, by decide⟩ ?F (fun _ _ _ _ z => z)
    intro w mg fa h Y G hm
    obtain ⟨K, KX, c⟩ := Y
    have hg : mg ("law" : PySem.Str) = some (.ref fa) := by
      have e : (HandSHeadRun.topDef Pn.rowQ.prog 79).name = ("law" : PySem.Str) := by kernel_rfl
      rw [← e]; exact hm
    obtain ⟨fd, hb, hF⟩ := Pn.facts (P := (PySem.Challenge.rw_partnotes_k20_references_ahead_and_behin).prog) (w := w) KX G hg c
    exact ⟨K, fd, Pn.spLaw20 K, KX, hb, fun H a ns hl _ hS => ⟨a, ns, rfl, hS, hl, fun _ => rfl⟩, hF⟩
