import PyProof.Rows.All
import Wide.All
import OpenK.AllK
import Wide.FinOn
import HandS.ForMost
import HandS.Wide
import HandS.IsInst
import HandS.Walk
import HandS.Text
import HandS.Exc
import HandS.ExcInit
import HandS.ExcField
import HandS.ExcIs
import HandS.WordsExc
import HandS.TryOnly
import KE.KExcIs
import HandS.ExcCtx
import HandS.ExcInitHot
import HandS.SuiteRaise
import HandS.RaiseFrom
import HandS.Defaults
import HandS.FStr
import KE.KCallOwn
import Flt.Len
import KE.IntTextLaws
import KE.IntTextText
import HandS.HotCalls
import HandS.TupLe
import HandS.RaiseMore
import HandS.OwnEq
import HandS.SlotsOwn
import HandS.NamedTupSort
import HandS.Ends
import HandS.Star
import KE.KDictPairs
import HandS.Dict
import HandS.Style
import HandS.SetTxt0
import HandS.SetFor
import PyProof.Rows.SortStr
import HandS.SetKeys
import HandS.Strs
import HandS.Property
import PyProof.EqKinds
import HandS.Flow
import PyProof.NeKinds
import PyProof.ReprLen
import PyProof.Rows.StrMeet
import HandS.Iter
import PyProof.MeetsIn
import PyProof.EqAt
import HandS.TupAny
import KE.KStateDown
import HandS.Head0
import HandS.Head1
import HandS.Head2
import HandS.HeadEnd
import HandS.HeadHook1
import HandS.HeadHook2
import PySem.Challenge.RW_partnotes_k17_fillings_made
set_option Elab.async false
set_option maxRecDepth 100000
set_option maxHeartbeats 4000000
namespace Pn
open PySem L2
/-! the text by places -/
def top (i : Nat) : Stmt := PySem.Challenge.pw_partnotes_k17_fillings_made.main.body.getD i (.Pass ⟨0, 0, 0, 0⟩)
/-- a def of the top: where it stands, what binds its arguments -/
structure At (K : PySem.W.Frag) (mg : Str → Option Value) (x : Str) (st : Stmt) (ps : List Str) : Type where
  f : Addr
  fd : FuncData
  F : Fun K x x st f fd
  b : Binds K fd ps []
  m : mg x = some (.ref f)
/-- all but what stands at b is as it was -/
def Kp (b : Addr) (H H' : Hp) : Prop := ∀ a o, H a = some o → a ≠ b → H' a = some o
theorem Kp.refl (b : Addr) (H : Hp) : Kp b H H := fun _ _ h _ => h
theorem Kp.trans {b : Addr} {H H1 H2 : Hp} (h : Kp b H H1) (g : Kp b H1 H2) : Kp b H H2 := fun a o e n => g a o (h a o e n) n
theorem Kp.new {b p : Addr} {H H1 : Hp} {o : HO} (h : Kp b H H1) (hp : H1 p = none) : Kp b H (upd H1 p o) := fun a u e n => by
  have z := h a u e n
  rw [upd_ne (ne_of_none z hp)]
  exact z
theorem Kp.box {b : Addr} {H H1 : Hp} {o : HO} (h : Kp b H H1) : Kp b H (upd H1 b o) := fun a u e n => by
  rw [upd_ne n]
  exact h a u e n
theorem Kp.sql {K : PySem.W.Frag} {b a : Addr} {xs : List V} {H H1 : Hp} (h : Kp b H H1) (n : a ≠ b) (s : SqL K H a xs) : SqL K H1 a xs := by
  rcases s with (s | ⟨o, s⟩) | s
  · exact .inl (.inl (h _ _ s n))
  · exact .inl (.inr ⟨o, h _ _ s n⟩)
  · exact .inr s
theorem Kp.sqt {K : PySem.W.Frag} {b a : Addr} {xs : List V} {H H1 : Hp} (h : Kp b H H1) (n : a ≠ b) (s : SqT K H a xs) : SqT K H1 a xs := by
  rcases s with (s | ⟨o, s⟩) | s
  · exact .inl (.inl (h _ _ s n))
  · exact .inl (.inr ⟨o, h _ _ s n⟩)
  · exact .inr s
theorem Kp.same {b : Addr} {H H1 : Hp} (h : Same H H1) : Kp b H H1 := fun a o e _ => h a o e
/-- the heap but for what stands at b -/
def hid (H : Hp) (b : Addr) : Hp := fun a => if a = b then none else H a
theorem hid_sub {H : Hp} {b : Addr} : Same (hid H b) H := fun a o e => by
  unfold hid at e
  by_cases h : a = b
  · rw [if_pos h] at e
    cases e
  · rw [if_neg h] at e
    exact e
theorem hid_kp {b : Addr} {H H1 : Hp} (h : Kp b H H1) : Same (hid H b) (hid H1 b) := fun a o e => by
  unfold hid at e ⊢
  by_cases n : a = b
  · rw [if_pos n] at e
    cases e
  · rw [if_neg n] at e ⊢
    exact h a o e n
theorem hid_get {b a : Addr} {H : Hp} {o : HO} (h : H a = some o) (n : a ≠ b) : hid H b a = some o := by
  unfold hid
  rw [if_neg n]
  exact h
theorem Same.sqt {K : PySem.W.Frag} {H H' : Hp} {a : Addr} {xs : List V} (e : Same H H') (h : SqT K H a xs) : SqT K H' a xs := by
  rcases h with (h | ⟨o, h⟩) | h
  · exact .inl (.inl (e _ _ h))
  · exact .inl (.inr ⟨o, e _ _ h⟩)
  · exact .inr h
theorem Same.new {H : Hp} {p : Addr} {o : HO} (h : H p = none) : Same H (upd H p o) := fun a u e => by
  rw [upd_ne (ne_of_none e h)]
  exact e
/-- what is new in H' -/
def dif (H H' : Hp) : Hp := fun a => match H a with
  | none => H' a
  | some _ => none
theorem dif_eq {H H' : Hp} {a : Addr} {o : HO} : dif H H' a = some o ↔ H a = none ∧ H' a = some o := by
  unfold dif
  cases h : H a with
  | none => exact ⟨fun e => ⟨rfl, e⟩, fun e => e.2⟩
  | some u => exact ⟨fun e => (nomatch (show (none : Option HO) = some o from e)), fun e => by cases e.1⟩
theorem dif_sub {H H' : Hp} : Same (dif H H') H' := fun _ _ e => (dif_eq.mp e).2
theorem dif_new {H H' : Hp} {a : Addr} {o : HO} (h : H a = none) (h' : H' a = some o) : dif H H' a = some o := dif_eq.mpr ⟨h, h'⟩
/-- what is tracked stays tracked -/
def Mo (H H' : Hp) : Prop := ∀ a, H' a = none → H a = none
theorem Mo.refl (H : Hp) : Mo H H := fun _ h => h
theorem Mo.trans {H H1 H2 : Hp} (h : Mo H H1) (g : Mo H1 H2) : Mo H H2 := fun a e => h a (g a e)
theorem Mo.upd {H : Hp} {p : Addr} {o : HO} : Mo H (upd H p o) := fun a e => by
  by_cases h : a = p
  · subst h
    rw [upd_same] at e
    cases e
  · rw [upd_ne h] at e
    exact e
theorem Kp.mo {b : Addr} {H H' : Hp} {o : HO} (h : Kp b H H') (hb : H' b = some o) : Mo H H' := fun a e => by
  cases q : H a with
  | none => rfl
  | some u =>
    have n : a ≠ b := fun z => by rw [z, hb] at e; cases e
    rw [h a u q n] at e
    cases e
/-- what was new stays: all of H1 but b, which stood in H -/
theorem dif_kp {b : Addr} {H H1 H2 : Hp} {o : HO} (hb : H b = some o) (k : Kp b H1 H2) : Same (dif H H1) (dif H H2) := fun a u e => by
  obtain ⟨e1, e2⟩ := dif_eq.mp e
  exact dif_new e1 (k a u e2 (fun z => by rw [z, hb] at e1; cases e1))
theorem dif_mo {H0 H H1 : Hp} (m : Mo H0 H) : Same (dif H H1) (dif H0 H1) := fun a u e => by
  obtain ⟨e1, e2⟩ := dif_eq.mp e
  exact dif_new (m a e1) e2
mutual
theorem dp_same {K : PySem.W.Frag} {H H' : Hp} (e : Same H H') : ∀ (d : PyData) (v : V), Dp K H v d → Dp K H' v d
  | .none, _, h => by cases h; exact .non
  | .bool _, _, h => by cases h; exact .bl _
  | .int _, _, h => by cases h; exact .int _
  | .str _, _, h => by cases h; exact .str _
  | .list ds, _, h => by
    cases h with
    | lst s a => exact .lst (e.seq s) (dpAll_same e ds _ a)
  | .tuple ds, _, h => by
    cases h with
    | tup s a => exact .tup (Same.sqt e s) (dpAll_same e ds _ a)
  | .dict _, _, h => by cases h
theorem dpAll_same {K : PySem.W.Frag} {H H' : Hp} (e : Same H H') : ∀ (ds : List PyData) (vs : List V), DpAll K H vs ds → DpAll K H' vs ds
  | [], _, h => by cases h; exact .nil
  | d :: ds, _, h => by
    cases h with
    | cons a b => exact .cons (dp_same e d _ a) (dpAll_same e ds _ b)
end
theorem dpAll_append {K : PySem.W.Frag} {H : Hp} : ∀ {vs : List V} {ds : List PyData} {ws : List V} {es : List PyData}, DpAll K H vs ds → DpAll K H ws es → DpAll K H (vs ++ ws) (ds ++ es)
  | _, _, _, _, .nil, g => g
  | _, _, _, _, .cons a b, g => .cons a (dpAll_append b g)
end Pn

namespace Pn
open PySem L2
/-! ### one statement, with what it comes to -/
theorem joinOn {t : TE} {σ : L2.St} {H : Hp} {Q : VK} (C : V → Hp → Prop) (h1 : ∀ Q' : VK, (∀ v H', C v H' → Q' v H') → t σ H Q') (h2 : ∀ v H', C v H' → Q v H') : t σ H Q := h1 Q h2
/-- x = e, where what e comes to is said by C -/
theorem stepSet {te : TE} {i : Nat} {B : TS} {D : Ends} {σ : L2.St} {H : Hp} (C : V → Hp → Prop) (h1 : ∀ Q' : VK, (∀ v H', C v H' → Q' v H') → te σ H Q') (h2 : ∀ v H', C v H' → B D (σ.set i (some v)) H') : tSeq (tAsg te (gName i)) B D σ H := h1 _ h2
theorem stepDrop {te : TE} {B : TS} {D : Ends} {σ : L2.St} {H : Hp} (C : Hp → Prop) (h1 : ∀ Q' : VK, (∀ v H', C H' → Q' v H') → te σ H Q') (h2 : ∀ H', C H' → B D σ H') : tSeq (tDrop te) B D σ H := h1 (fun _ H1 => B D σ H1) fun _ H' c => h2 H' c
theorem stepIfF {tt : TT} {A C : TS} {D : Ends} {σ : L2.St} {H : Hp} (h1 : ∀ Q : Bool → Hp → Prop, Q false H → tt σ H Q) (h2 : C D σ H) : tSeq (tIfS tt A tNext) C D σ H := h1 _ (by rw [if_neg Bool.false_ne_true]; exact h2)
theorem stepNo {tt : TT} {A C : TS} {D : Ends} {σ : L2.St} {H : Hp} (G : Hp → Prop) (h1 : ∀ Q : Bool → Hp → Prop, (∀ H', G H' → Q false H') → tt σ H Q) (h2 : ∀ H', G H' → C D σ H') : tSeq (tIfS tt A tNext) C D σ H := h1 _ fun H' g => by
  rw [if_neg Bool.false_ne_true]
  exact h2 H' g
theorem stepYes {tt : TT} {A B C : TS} {D : Ends} {σ : L2.St} {H : Hp} (G : Hp → Prop) (h1 : ∀ Q : Bool → Hp → Prop, (∀ H', G H' → Q true H') → tt σ H Q) (h2 : ∀ H', G H' → A { D with nx := C D } σ H') : tSeq (tIfS tt A B) C D σ H := h1 _ fun H' g => by
  rw [if_pos rfl]
  exact h2 H' g
theorem Same.mo {H H' : Hp} (s : Same H H') : Mo H H' := fun _ e => s.free e
end Pn

namespace Pn
open PySem L2
/-- the two ints of a box of draws -/
def Bx (x y : Int) : Prop := 0 ≤ x ∧ 1 ≤ y ∧ y ≤ 2147483629
def spChoose : Sp := fun vs H Q _ => ∃ (b : Addr) (x y m : Int), vs = [.ref b, .int m] ∧ H b = some (.lst [.int x, .int y]) ∧ Bx x y ∧ 0 < m ∧ m < 1000000 ∧
  ∀ r x' y', 0 ≤ r → r < m → Bx x' y' → Q (.int r) (upd H b (.lst [.int x', .int y']))
section
variable {P : Program} {w : World} {K : PySem.W.Frag} {mg : Str → Option Value} {base : Heap}
/-- the box for a round -/
def spSeed (K : PySem.W.Frag) : Sp := fun vs H Q _ => ∃ (a : Addr) (ns : List Int) (k : Nat), vs = [.ref a, .int k] ∧ SqL K H a (ns.map V.int) ∧ k ≤ 100 ∧
  ∀ (p : Addr) (x y : Int), H p = none → Bx x y → Q (.ref p) (upd H p (.lst [.int x, .int y]))
/-- what a box is, by its place -/
def BoxAt (H : Hp) (b : Addr) : Prop := ∃ x y : Int, Bx x y ∧ H b = some (.lst [.int x, .int y])
theorem sql_upd {H : Hp} {a b : Addr} {o : HO} {xs : List V} (h : SqL K H a xs) (hne : a ≠ b) : SqL K (upd H b o) a xs := by
  rcases h with (h | ⟨u, h⟩) | h
  · exact .inl (.inl (by rw [upd_ne hne]; exact h))
  · exact .inl (.inr ⟨u, by rw [upd_ne hne]; exact h⟩)
  · exact .inr h
theorem sqt_upd {H : Hp} {a b : Addr} {o : HO} {xs : List V} (h : SqT K H a xs) (hne : a ≠ b) : SqT K (upd H b o) a xs := by
  rcases h with (h | ⟨u, h⟩) | h
  · exact .inl (.inl (by rw [upd_ne hne]; exact h))
  · exact .inl (.inr ⟨u, by rw [upd_ne hne]; exact h⟩)
  · exact .inr h
/-- one of several things -/
def spOne (K : PySem.W.Frag) : Sp := fun vs H Q _ => ∃ (b a : Addr) (x y : Int) (xs : List V), vs = [.ref b, .ref a] ∧ H b = some (.lst [.int x, .int y]) ∧ Bx x y ∧ SqL K H a xs ∧ a ≠ b ∧ 0 < xs.length ∧ xs.length < 1000000 ∧
  ∀ (i : Nat) (x' y' : Int) (hi : i < xs.length), Bx x' y' → Q xs[i] (upd H b (.lst [.int x', .int y']))
/-- the same, of a box by its place -/
def spChooseB : Sp := fun vs H Q _ => ∃ (b : Addr) (m : Int), vs = [.ref b, .int m] ∧ BoxAt H b ∧ 0 < m ∧ m < 1000000 ∧ ∀ (r : Int) (H' : Hp), 0 ≤ r → r < m → BoxAt H' b → Kp b H H' → (∀ a, H a = none → H' a = none) → Q (.int r) H'
def spOneB (K : PySem.W.Frag) : Sp := fun vs H Q _ => ∃ (b a : Addr) (xs : List V), vs = [.ref b, .ref a] ∧ BoxAt H b ∧ SqL K H a xs ∧ a ≠ b ∧ 0 < xs.length ∧ xs.length < 1000000 ∧
  ∀ (v : V) (H' : Hp), v ∈ xs → BoxAt H' b → Kp b H H' → (∀ a, H a = none → H' a = none) → Q v H'
end
end Pn

namespace Pn
open PySem L2
abbrev sIsInteger : Stmt := top 3
abbrev sIsNumber : Stmt := top 4
abbrev sIsName : Stmt := top 5
/-! ### what these checks tell of data -/
def rowV : List V := [.str "note", .str "skip", .str "set", .str "keep", .str "back", .str "ref", .str "put", .str "open", .str "part"]
/-- a letter of a name -/
def lok (c : Nat) : Bool := decide (97 ≤ c) && decide (c ≤ 122)
def nameS (z : Str) : Bool := !inV (.str z) rowV && (decide (1 ≤ (z.length : Int)) && decide ((z.length : Int) ≤ 4)) && z.cps.toList.all lok
def nameD : PyData → Bool
  | .str z => nameS z
  | _ => false
def intD : PyData → Bool
  | .int _ => true
  | _ => false
def numD : PyData → Bool
  | .int i => decide (0 ≤ i)
  | _ => false
/-- the type of data -/
def tyD : PyData → String
  | .none => "NoneType"
  | .bool _ => "bool"
  | .int _ => "int"
  | .str _ => "str"
  | .list _ => "list"
  | .tuple _ => "tuple"
  | .dict _ => "dict"
theorem dp_ty {K : PySem.W.Frag} {H : Hp} {v : V} {d : PyData} (h : Dp K H v d) : TyX K H v (.type (tyD d)) := by
  cases h with
  | non => exact .base .non
  | bl b => exact .base (.bl b)
  | int i => exact .base (.int i)
  | str x => exact .base (.str x)
  | lst s _ =>
    rcases s with (s | ⟨o, s⟩) | ⟨o, _, _, e, c, _⟩
    · exact .base (.lst s)
    · exact .base (.frz s)
    · exact .kList e c
  | tup s _ =>
    rcases s with (s | ⟨o, s⟩) | ⟨o, _, _, e, c, _⟩
    · exact .base (.tup s)
    · exact .fTuple s
    · exact .kTuple e c
def strT : PyData → Bool
  | .str _ => true
  | _ => false
def intT : PyData → Bool
  | .bool _ => true
  | .int _ => true
  | _ => false
def boolT : PyData → Bool
  | .bool _ => true
  | _ => false
theorem kit_str : ∀ d : PyData, kitB (tyD d) "str" = some (strT d)
  | .none => (by decide +kernel : kitB "NoneType" "str" = some false)
  | .bool _ => (by decide +kernel : kitB "bool" "str" = some false)
  | .int _ => (by decide +kernel : kitB "int" "str" = some false)
  | .str _ => (by decide +kernel : kitB "str" "str" = some true)
  | .list _ => (by decide +kernel : kitB "list" "str" = some false)
  | .tuple _ => (by decide +kernel : kitB "tuple" "str" = some false)
  | .dict _ => (by decide +kernel : kitB "dict" "str" = some false)
theorem kit_int : ∀ d : PyData, kitB (tyD d) "int" = some (intT d)
  | .none => (by decide +kernel : kitB "NoneType" "int" = some false)
  | .bool _ => (by decide +kernel : kitB "bool" "int" = some true)
  | .int _ => (by decide +kernel : kitB "int" "int" = some true)
  | .str _ => (by decide +kernel : kitB "str" "int" = some false)
  | .list _ => (by decide +kernel : kitB "list" "int" = some false)
  | .tuple _ => (by decide +kernel : kitB "tuple" "int" = some false)
  | .dict _ => (by decide +kernel : kitB "dict" "int" = some false)
theorem kit_bool : ∀ d : PyData, kitB (tyD d) "bool" = some (boolT d)
  | .none => (by decide +kernel : kitB "NoneType" "bool" = some false)
  | .bool _ => (by decide +kernel : kitB "bool" "bool" = some true)
  | .int _ => (by decide +kernel : kitB "int" "bool" = some false)
  | .str _ => (by decide +kernel : kitB "str" "bool" = some false)
  | .list _ => (by decide +kernel : kitB "list" "bool" = some false)
  | .tuple _ => (by decide +kernel : kitB "tuple" "bool" = some false)
  | .dict _ => (by decide +kernel : kitB "dict" "bool" = some false)
/-! ### a comprehension whose items are told by their places -/
theorem lc_step {H1 : Hp} {D : Addr} {f : Nat → V} {i : Nat} (hi : i < 1000) : ∃ acc, (upd H1 D (.lst ((List.range i).map f))) D = some (.lst acc) ∧ acc.length < sizeLine ∧
    upd (upd H1 D (.lst ((List.range i).map f))) D (.lst (acc ++ [f i])) = upd H1 D (.lst ((List.range (i + 1)).map f)) := by
  refine ⟨_, upd_same, by rw [List.length_map, List.length_range]; exact small1000 (by omega), ?_⟩
  rw [List.range_succ, List.map_append]
  funext b
  by_cases e : b = D
  · rw [e, upd_same, upd_same]
    rfl
  · rw [upd_ne e, upd_ne e, upd_ne e]
theorem range_getD {f : Nat → Bool} : ∀ l : List Nat, (((List.range l.length).map fun i => f (l.getD i 0)).all id) = l.all f := by
  intro l
  have e : (List.range l.length).map (fun i => f (l.getD i 0)) = l.map f := by
    apply List.ext_getElem
    · simp
    · intro i h1 h2
      have h3 : i < l.length := by simpa using h2
      simp [List.getD_eq_getElem?_getD, List.getElem?_eq_getElem h3]
  rw [e]
  simp
theorem lt_one {a b : Nat} : decide ([a] < [b]) = decide (a < b) := by
  by_cases h : a < b
  · rw [decide_eq_true h, decide_eq_true]
    exact List.Lex.rel h
  · rw [decide_eq_false h, decide_eq_false]
    intro z
    cases z with
    | rel r => exact h r
    | cons r => cases r
theorem lok_eq (c : Nat) : (if (!decide ([c] < [97])) = true then (!decide ([122] < [c])) else false) = lok c := by
  rw [lt_one, lt_one]
  unfold lok
  by_cases h1 : c < 97
  · rw [decide_eq_true h1, decide_eq_false (show ¬ 97 ≤ c by omega)]
    rfl
  · rw [decide_eq_false h1, decide_eq_true (show 97 ≤ c by omega)]
    by_cases h2 : 122 < c
    · rw [decide_eq_true h2, decide_eq_false (show ¬ c ≤ 122 by omega)]
      rfl
    · rw [decide_eq_false h2, decide_eq_true (show c ≤ 122 by omega)]
      rfl
section
variable {P : Program} {w : World} {K : PySem.W.Frag} {mg : Str → Option Value} {base : Heap}
structure TChk (K : PySem.W.Frag) (mg : Str → Option Value) : Type where
  mInt : mg "int" = none
  mBool : mg "bool" = none
  mStr : mg "str" = none
  mIsi : mg "isinstance" = none
  mLen : mg "len" = none
  mAll : mg "all" = none
  words : Addr
  mWords : mg "ROW_WORDS" = some (.ref words)
  hWords : ∀ H, SqT K H words rowV
  tok : Tok
  mLong : mg "LONGEST_NAME" = some (.int 4 tok)
  isInteger : At K mg "is_integer" sIsInteger ["value"]
  isNumber : At K mg "is_number" sIsNumber ["value"]
  isName : At K mg "is_name" sIsName ["value"]
def spIsInteger (K : PySem.W.Frag) : Sp := fun vs H Q _ => ∃ (v : V) (d : PyData), vs = [v] ∧ Dp K H v d ∧ Q (.bl (intD d)) H
theorem scIsInteger : FnScope ["value"] ["value"] (defScope sIsInteger) := ⟨rfl, rfl, rfl, by decide +kernel, rfl, by decide +kernel, by decide +kernel⟩
theorem TChk.okInteger (T : TChk K mg) : FnOk P w K mg base CX0 1 T.isInteger.f T.isInteger.fd ["value"] (spIsInteger K) := by
  refine T.isInteger.F.ok scIsInteger (fun vs H Q E h => ?_) (fun cdv A outer s H vs Q E hr h => ?_)
  · obtain ⟨v, d, rfl, _⟩ := h
    rfl
  · obtain ⟨v, d, rfl, hd, q⟩ := h
    refine ⟨_, pss_one (ps_ret (pe_and (pe_callB call_isi (by rfl) T.mIsi (by decide +kernel) (pa_cons (pv 0) (pa_cons (pe_bltn (v := .ty "int") (by rfl) T.mInt (by decide +kernel) rfl) pa_nil)))
      (pe_one (pe_not (pe_callB call_isi (by rfl) T.mIsi (by decide +kernel) (pa_cons (pv 0) (pa_cons (pe_bltn (v := .ty "bool") (by rfl) T.mBool (by decide +kernel) rfl) pa_nil))))))), ?_⟩
    refine ⟨_, rfl, v, _, _, _, _, rfl, .ty _, dp_ty hd, kit_ty (kit_int d), _, rfl, ?_⟩
    cases d with
    | none => exact q
    | str z => exact q
    | list ds => exact q
    | tuple ds => exact q
    | dict ds => exact q
    | int i => exact ⟨_, rfl, v, _, _, _, _, rfl, .ty _, dp_ty hd, kit_ty (kit_bool _), _, rfl, q⟩
    | bool i => exact ⟨_, rfl, v, _, _, _, _, rfl, .ty _, dp_ty hd, kit_ty (kit_bool _), _, rfl, q⟩
def spIsNumber (K : PySem.W.Frag) : Sp := fun vs H Q _ => ∃ (v : V) (d : PyData), vs = [v] ∧ Dp K H v d ∧ Q (.bl (numD d)) H
theorem scIsNumber : FnScope ["value"] ["value"] (defScope sIsNumber) := ⟨rfl, rfl, rfl, by decide +kernel, rfl, by decide +kernel, by decide +kernel⟩
theorem TChk.okNumber (T : TChk K mg) : FnOk P w K mg base CX0 2 T.isNumber.f T.isNumber.fd ["value"] (spIsNumber K) := by
  refine T.isNumber.F.ok scIsNumber (fun vs H Q E h => ?_) (fun cdv A outer s H vs Q E hr h => ?_)
  · obtain ⟨v, d, rfl, _⟩ := h
    rfl
  · obtain ⟨v, d, rfl, hd, q⟩ := h
    refine ⟨_, pss_one (ps_ret (pe_and (pe_call T.okInteger hr rfl T.isInteger.m T.isInteger.F.kp T.isInteger.b .nil pass0 (pa_cons (pv 0) pa_nil)) (pe_one (pe_cmpR op_ge (pv 0) pe_int (nomark _))))), ?_⟩
    refine ⟨_, rfl, v, d, rfl, hd, _, rfl, ?_⟩
    cases d with
    | none => exact q
    | str z => exact q
    | list ds => exact q
    | tuple ds => exact q
    | dict ds => exact q
    | bool i => exact q
    | int i =>
      cases hd
      exact ⟨_, rfl, _, _, rfl, rfl, q⟩
def dlen : PyData → Prop
  | .str z => z.length ≤ 900
  | _ => True
def spIsName (K : PySem.W.Frag) : Sp := fun vs H Q _ => ∃ (v : V) (d : PyData), vs = [v] ∧ Dp K H v d ∧ dlen d ∧ ∀ H', Same H H' → Mo H H' → Q (.bl (nameD d)) H'
theorem scIsName : FnScope ["value", "letter"] ["value"] (defScope sIsName) := ⟨rfl, rfl, rfl, by decide +kernel, rfl, by decide +kernel, by decide +kernel⟩
theorem TChk.okName (T : TChk K mg) : FnOk P w K mg base CX0 1 T.isName.f T.isName.fd ["value"] (spIsName K) := by
  refine T.isName.F.ok scIsName (fun vs H Q E h => ?_) (fun cdv A outer s H vs Q E hr h => ?_)
  · obtain ⟨v, d, rfl, _⟩ := h
    rfl
  · obtain ⟨v, d, rfl, hd, hl, q⟩ := h
    refine ⟨_, pss_cons (ps_if (PW.pt (pw_or (pt_not (pt_val (pe_callB call_isi (by rfl) T.mIsi (by decide +kernel) (pa_cons (pv 0) (pa_cons (pe_bltn (v := .ty "str") (by rfl) T.mStr (by decide +kernel) rfl) pa_nil)))))
        (pw_or1 (pt_cmpR op_in_seq (pv 0) (pe_glob (v := .ref T.words) (by rfl) T.mWords rfl) rfl)))) (pss_one (ps_ret pe_bl)) pss_nil)
      (pss_one (ps_ret (pe_and (pe_chain op_le op_le pe_int (pe_callB call_len_str (by rfl) T.mLen PySem.boot_len (pa_cons (pv 0) pa_nil)) (pe_glob (v := .int 4) (by rfl) T.mLong ⟨_, rfl⟩))
        (pe_one (pe_callB (cr_all rfl) (by rfl) T.mAll (by decide +kernel) (pa_cons (pe_lc (own := [("letter", 1)]) (g := gName 1) (tt := tYes) (by rfl) scIsName.nd (pi_str (pv 0))
          (blkOk_by (N := ["value", "letter"]) (sc := defScope sIsName) (by decide +kernel)) (fun _ _ _ _ _ => pg_name (i := 1) scIsName.nd rfl (Or.inl rfl)) (fun _ _ _ _ _ => pts_nil)
          (fun _ _ _ _ _ => pe_chain op_le_str op_le_str pe_str (pv 1) pe_str)) pa_nil)))))), ?_⟩
    refine ⟨_, rfl, v, _, _, _, _, rfl, .ty _, dp_ty hd, kit_ty (kit_str d), _, rfl, ?_⟩
    cases d with
    | str z =>
      cases hd
      refine ⟨_, rfl, T.words, rowV, rfl, .inr (T.hWords H), rfl, rfl, _, rfl, ?_⟩
      have hl' : z.length ≤ 900 := hl
      cases e : inV (.str z) rowV with
      | true =>
        have e2 : nameD (.str z) = false := by show nameS z = false; unfold nameS; rw [e]; rfl
        rw [e2] at q
        refine iteT ?_
        exact q H (Same.refl H) (Mo.refl H)
      | false =>
        refine iteF ?_
        refine ⟨_, rfl, z, rfl, Nat.le_trans hl' (by decide), _, _, rfl, rfl, _, rfl, ?_⟩
        have e2 : nameD (.str z) = ((decide (1 ≤ (z.length : Int)) && decide ((z.length : Int) ≤ 4)) && z.cps.toList.all lok) := by show nameS z = _; unfold nameS; rw [e]; rfl
        rw [e2] at q
        cases h1 : decide (1 ≤ (z.length : Int)) with
        | false =>
          rw [h1] at q
          refine iteF ?_
          exact ⟨false, rfl, iteF (q H (Same.refl H) (Mo.refl H))⟩
        | true =>
          rw [h1] at q
          refine iteT ?_
          refine ⟨_, _, rfl, rfl, _, rfl, ?_⟩
          cases h2 : decide ((z.length : Int) ≤ 4) with
          | false =>
            rw [h2] at q
            exact iteF (q H (Same.refl H) (Mo.refl H))
          | true =>
            rw [h2] at q
            refine iteT ?_
            refine ⟨_, rfl, z, rfl, fun D hD => lc_it walk_str (fun i Hi => Hi = upd H D (.lst ((List.range i).map fun j => .bl (lok (z.cps.toList.getD j 0))))) rfl (fun _ _ _ _ => trivial) (fun i x Hi Hj hi hP hY => ?_) (fun Hi hP => ?_)⟩
            · obtain ⟨rfl, c, hc, rfl⟩ := hY
              subst hP
              have hi2 : i < 1000 := by
                have : z.cps.size = z.length := rfl
                omega
              have hg : z.cps.toList.getD i 0 = c := by
                rw [List.getD_eq_getElem?_getD, Array.getElem?_toList, hc]
                rfl
              have fin := lc_step (H1 := H) (D := D) (f := fun j => .bl (lok (z.cps.toList.getD j 0))) (i := i) hi2
              rw [hg, ← lok_eq] at fin
              refine ⟨rfl, _, rfl, _, _, rfl, rfl, _, rfl, ?_⟩
              cases h3 : (!decide ([c] < [97])) with
              | false =>
                have h4 : (!decide (({ cps := #[c] } : Str).cps.toList < (Str.ofString "a").cps.toList)) = false := h3
                rw [h3] at fin
                rw [h4]
                exact fin
              | true =>
                have h4 : (!decide (({ cps := #[c] } : Str).cps.toList < (Str.ofString "a").cps.toList)) = true := h3
                rw [h3] at fin
                rw [h4]
                exact ⟨_, _, rfl, rfl, fin⟩
            · subst hP
              refine ⟨D, (List.range z.cps.size).map fun j => lok (z.cps.toList.getD j 0), rfl, ?_, ?_⟩
              · refine SqL.of ?_
                rw [upd_same, List.map_map]
                rfl
              · have e3 := range_getD (f := lok) z.cps.toList
                rw [Array.length_toList] at e3
                rw [e3]
                exact q _ (Same.new hD) Mo.upd
    | none => exact q H (Same.refl H) (Mo.refl H)
    | list ds => exact q H (Same.refl H) (Mo.refl H)
    | tuple ds => exact q H (Same.refl H) (Mo.refl H)
    | dict ds => exact q H (Same.refl H) (Mo.refl H)
    | int i => exact q H (Same.refl H) (Mo.refl H)
    | bool i => exact q H (Same.refl H) (Mo.refl H)
end
end Pn

namespace Pn
open PySem L2
theorem iteTD {c : Bool} {A B : Prop} (hc : c = true) (h : A) : if c = true then A else B := by
  rw [if_pos hc]
  exact h
theorem iteFD {c : Bool} {A B : Prop} (hc : c = false) (h : B) : if c = true then A else B := by
  rw [hc, if_neg Bool.false_ne_true]
  exact h
/-! ### own exceptions that keep one thing -/
theorem same_made {H1 : Hp} {a d : Addr} {y : V} {f : Str} {o1 o2 o3 : HO} (ha : H1 a = none) (hd : H1 d = none) : Same H1 (upd (del (upd (upd (upd H1 a o1) d o2) a o3) a) d (.xd [(f, y)])) := fun b o e => by
  have n1 : b ≠ a := ne_of_none e ha
  have n2 : b ≠ d := ne_of_none e hd
  rw [upd_ne n2, del_ne n1, upd_ne n1, upd_ne n2, upd_ne n1]
  exact e
/-- an own exception class of the text whose __init__ keeps one thing under the name fld -/
structure TExc (K : PySem.W.Frag) (mg : Str → Option Value) (x : Str) (qual fld : Str) (st : Stmt) : Type where
  C : Addr
  fI : Addr
  fd : FuncData
  F : Fun K "__init__" qual st fI fd
  b : Binds K fd ["self", fld] []
  m : mg x = some (.ref C)
  O : OexC K C
  iC : PySem.W.findIn K (.ref C) "__init__" = some (some (.ref fI))
  tI : PySem.W.typeIn K (.ref fI) = some (.type "function")
  noF : PySem.W.findIn K (.ref C) fld = some none
  E : ExcC K C
  isC : PySem.W.isClsIn K C = true
  te : PySem.W.exmOne K (.ref C) (.ref C) = some true
  xf : XfC K C
def spXInit (K : PySem.W.Frag) (fld : Str) : Sp := fun vs H Q _ => ∃ (a C : Addr) (v : V), vs = [.ref a, v] ∧ H a = some (exo a C none) ∧ OexC K C ∧ PySem.W.findIn K (.ref C) fld = some none ∧
  ∀ dx, H dx = none → dx ≠ a → Q .non (upd (upd H dx (exd dx [(fld, v)])) a (exo a C (some dx)))
/-- isinstance of the exception that a suite holds -/
def rIsX (K : PySem.W.Frag) (D a : Addr) (cls : Value) (d : Option Addr) : List V → Hp → VK → Prop := fun xs H Q => ∃ (c : V) (cv : Value) (b : Bool) (dd : Addr) (fs : List (Str × V)), xs = [.ref a, c] ∧ cls = .ref D ∧ ClsV c cv ∧ PySem.W.kitOne K (.ref D) cv = some b ∧ d = some dd ∧ H dd = some (.xd fs) ∧ Q (.bl b) H
theorem call_isX {X : Cx} {a D : Addr} {cls : Value} {d : Option Addr} {oe : Obj} {pn : List (Addr × Obj)} (C : ExcC X.K D) (hz : Zc cls d oe) (hf : ∃ vs, oe.data = .fields vs) : CallR (X.suite a ((a, oe) :: pn)) (.builtin "isinstance") (rIsX X.K D a cls d) := by
  intro pins s σ H xs us Q I r h
  obtain ⟨c, cv, b, dd, fs, rfl, rfl, hcv, e, rfl, hdd, q⟩ := h
  obtain ⟨u1, u2, rfl, r1, r2⟩ := vals2 r
  obtain rfl : u1 = Value.ref a := r1
  obtain rfl : u2 = cv := hcv.eq r2
  obtain ⟨hget, _⟩ := I.pin (a, oe) (List.mem_append.mpr (.inl List.mem_cons_self))
  obtain ⟨mA, hns, _⟩ : ObjOk X.prog X.w H s.heap dd (.xd fs) := I.hok dd _ hdd
  obtain ⟨od, ho, _⟩ := lookIn_ns hns
  obtain ⟨vs, hv⟩ := hf
  have J : PySem.W.InstAt s.heap a oe D (some od) := ⟨hget, hz.1, by unfold PySem.W.notCls; rw [hv] <;> rfl, by rw [hz.2]; exact ho⟩
  have hcl : (PySem.W.clsIn X.K D).isSome = true := by
    have q := C.hd
    unfold PySem.W.hasDictIn at q
    cases z : PySem.W.clsIn X.K D with
    | some cd => rfl
    | none => rw [z] at q; cases q
  exact PySem.W.kia_one (PySem.W.kitx_exc hcl C.hg C.hk C.hs C.ha C.hn C.ht C.hm) I.kIn J e (fun z => nomatch z) fun tk => ⟨.bl b, H, I.tok tk, rfl, q⟩
end Pn

namespace Pn
open PySem PySem.Spec PyProof.Rows L2
/-! ### the same exceptions, with what is known of their context -/
section
variable {X : Cx} {CX : CXT} {C fI : Addr} {k : Nat} {fd : FuncData} {ps : List Str} {sp : Sp} {ta : TA}
theorem pmk_oexN {x : Str} {e : Expr} {es : List Expr} {p pos : Pos} (T : OexC X.K C) (iC : PySem.W.findIn X.K (.ref C) "__init__" = some (some (.ref fI))) (tI : PySem.W.typeIn X.K (.ref fI) = some (.type "function"))
    (F1 : FnOk X.prog X.w X.K X.mg X.base CX k fI fd ps sp) (room : Room (k + 1) X.A) (bnd : Binds X.K fd ps []) (noE : Passes CX X (fun _ _ _ => False))
    (gl : Gl X x) (at_ : X.mg x = some (.ref C)) (ha : PA X (e :: es) ta) (hdb : (x == ("__debug__" : Str)) = false := by decide)
    (he : starEach (e :: es) X.env = (false, eval e X.env) :: starEach es X.env := by rfl) (hpl : (backTo pos (starEach es X.env)).any (·.1) = false := by rfl) :
    L2N.PMk X (.Call (.Name x p) (e :: es) [] pos) (tMkO C sp [] ta) := by
  intro pins s σ H Q I want
  rcases T.cls with ⟨c1, c2, c3, c4, mro, c5, c6, c7, c8, c9, d0, d1, d2, d3, d5, look, vet⟩
  apply wpAny_Call_Name_kw
  refine ld_glob I gl at_ ?_ hdb
  refine PySem.W.callWith_K (h₀ := X.base) I.ok.mod.kin T.kC ?_ he hpl
  refine thn (ha.run pos pins s σ H _ I want) ?_
  rintro us ⟨hp, gs, dr, tk, os⟩ ⟨vs, H1, J, rel, few, made⟩
  refine ⟨J.kIn, ?_⟩
  let a := hp.objs.size + 1
  let hp2 := (hp.push (PySem.W.kdv_tup us)).push (PySem.HandSPX.excO C hp.objs.size)
  have old : ∀ b o, hp.get? b = some o → hp2.get? b = some o := fun b o z => Heap.get?_push_of_some _ (Heap.get?_push_of_some _ z)
  have fresh : H1 a = none := J.hok.fresh (Nat.le_succ _)
  have there : hp2.get? a = some (PySem.HandSPX.excO C hp.objs.size) := by
    show ((hp.push (PySem.W.kdv_tup us)).push (PySem.HandSPX.excO C hp.objs.size)).get? (hp.objs.size + 1) = _
    heap_get
  have J2 : Inv X pins σ (upd H1 a (exo a C none)) ⟨hp2, gs, dr, tk, os⟩ := J.laid (t' := tk) (a := a) (o := exo a C none) (h' := hp2) old (Nat.le_succ _) (exo_ok there)
  have go := made a fresh
  rw [List.append_nil] at go
  have rel2 : Vals (V.ref a :: vs) (Value.ref a :: us) := .cons (show RelV (.ref a) (Value.ref a) from rfl) rel
  have cnt : (Value.ref a :: us ++ []).length = ps.length := by
    rw [List.append_nil, ← rel2.length]
    exact F1.len _ _ _ _ go
  have bd := bnd ⟨hp2, gs, dr, tk, os⟩ (Value.ref a :: us) J2.kIn cnt
  rw [List.append_nil] at bd
  have lim : us.length ≤ sizeLine := by
    rw [← Paired.length rel, sizeLine_eq]
    omega
  show wpAny _ _ (call (.ref C) us) _ _ _
  refine wpAny_call (PySem.HandSPX.call_own F.excBase_ValueError (fun Y => PySem.HandSPX.refsVE_contains Y mro vet) (J.kIn _ _ look) (PySem.W.looks_findIn J.kIn iC)
    (fun self => PySem.W.bind_fn J.kIn self tI) lim ?_)
  have ran := F1.run _ X.stack _ _ ⟨Value.ref a :: us, []⟩ (Value.ref a :: us) _ _ (fun _ _ _ => False) (room.make C us []) (J2.env0.make C us []) bd rel2 go
  refine codeAny_mono ran ?_
  intro r s' out
  match r, out with
  | .error er, out => exact noE pins σ _ _ er s' J2 out
  | .ok .next, out => exact False.elim out
  | .ok .brk, out => exact False.elim out
  | .ok .cont, out => exact False.elim out
  | .ok (.ret u), out =>
    obtain ⟨v, H2, osame, bare, un, ok2, rv, rfl, d, fs, ea, ed, dn, fin⟩ := out
    obtain ⟨h2, g2, dr2, t2, os2⟩ := s'
    obtain ⟨t0, G, J3, sub, gone, obj, untr⟩ := mk_end0 (d2 := dr2) (t2 := t2) J (Nat.le_succ _) old un ok2 osame bare ea ed dn
    exact ⟨rv, a, _, _, ⟨G, g2, dr2, t2, os2⟩, _, .ref C, some d, rfl, J3, sub, gone, obj, ⟨rfl, rfl, fun ws z => by cases z; rfl⟩, rfl, rfl, untr, rfl, bare, raises_own T.exC T.tyC, fin⟩
end
section
variable {P : Program} {w : World} {K : PySem.W.Frag} {mg : Str → Option Value} {base : Heap}
theorem funD {x qual : Str} {st : Stmt} {f : Addr} {fd : FuncData} (F : Fun K x qual st f fd) : FunD K x qual (defArgs st) (defBody st) (defScope st) [] [] f fd := by
  obtain ⟨oc, od, kV, doc, pm, an, cdv, ct, osl, e, l, c⟩ := F.ex
  exact ⟨⟨oc, od, _, kV, doc, pm, an, cdv, ct, osl, e, l, c, .inl ⟨rfl, rfl⟩, .inl rfl⟩, F.kp⟩
end
end Pn

namespace Pn
open PySem L2
abbrev sNeedName : Stmt := top 15
abbrev sIRInit : Stmt := inClass (top 10) 0
section
variable {P : Program} {w : World} {K : PySem.W.Frag} {mg : Str → Option Value} {base : Heap}
theorem scIRInit : FnScope ["self", "word"] ["self", "word"] (defScope sIRInit) := ⟨rfl, rfl, rfl, by decide +kernel, rfl, by decide +kernel, by decide +kernel⟩
abbrev TIR (K : PySem.W.Frag) (mg : Str → Option Value) := TExc K mg "InvalidRow" "InvalidRow.__init__" "word" sIRInit
theorem okIRInit (T : TIR K mg) : FnOk P w K mg base CX0 1 T.fI T.fd ["self", "word"] (spXInit K "word") := by
  refine T.F.ok scIRInit (fun vs H Q E h => ?_) (fun cdv A outer s H vs Q E hr h => ?_)
  · obtain ⟨a, C, v, rfl, _⟩ := h
    rfl
  · obtain ⟨a, C, v, rfl, ha, O, no, q⟩ := h
    refine ⟨_, pss_one (ps_ost (pv 0) (pv 1)), ?_⟩
    exact ⟨_, rfl, _, rfl, a, C, rfl, O, no, .inl ⟨ha, fun dx h1 h2 => q dx h1 h2⟩⟩
/-- InvalidRow(wd) leaves the def -/
def RaiseW (C : Addr) (H : Hp) (E : XK) (wd : V) : Prop := ∀ (e : Addr) (H' : Hp), Same H H' → Mo H H' → H e = none → H' e = some (.xd [("word", wd)]) → E (.ref C) (some e) H'
theorem RaiseW.back {C : Addr} {H H1 : Hp} {E : XK} {wd : V} (h : RaiseW C H E wd) (s : Same H H1) (m : Mo H H1) : RaiseW C H1 E wd := fun e H' h1 h2 h3 h4 => h e H' (s.trans h1) (m.trans h2) (m e h3) h4
def spNeed (K : PySem.W.Frag) (C : Addr) : Sp := fun vs H Q E => ∃ (v wd : V) (d : PyData), vs = [v, wd] ∧ Dp K H v d ∧ dlen d ∧ (nameD d = true → ∀ H', Same H H' → Mo H H' → Q .non H') ∧ (nameD d = false → RaiseW C H E wd)
structure TNeed (K : PySem.W.Frag) (mg : Str → Option Value) : Type extends TChk K mg where
  IR : TIR K mg
  need : At K mg "need_name" sNeedName ["value", "word"]
theorem scNeed : FnScope ["value", "word"] ["value", "word"] (defScope sNeedName) := ⟨rfl, rfl, rfl, by decide +kernel, rfl, by decide +kernel, by decide +kernel⟩
/-- a new exception of InvalidRow, as its making leaves it -/
theorem ir_made {C : Addr} {H H1 : Hp} {E : XK} {wd : V} (s : Same H H1) (m : Mo H H1) (h : RaiseW C H E wd) {a : Addr} (ha : H1 a = none) (dx : Addr) (h1 : (upd H1 a (exo a C none)) dx = none) (h2 : dx ≠ a) :
    E (.ref C) (some dx) (upd (del (upd (upd (upd H1 a (exo a C none)) dx (exd dx [("word", wd)])) a (exo a C (some dx))) a) dx (.xd [("word", wd)])) := by
  have hd : H1 dx = none := by rw [upd_ne h2] at h1; exact h1
  refine h dx _ (s.trans (same_made ha hd)) (m.trans fun b e => ?_) (m dx hd) upd_same
  by_cases n2 : b = dx
  · rw [n2]; exact hd
  · by_cases n1 : b = a
    · rw [n1]; exact ha
    · rw [upd_ne n2, del_ne n1, upd_ne n1, upd_ne n2, upd_ne n1] at e
      exact e
theorem okNeed (T : TNeed K mg) : FnOk P w K mg base (L2N.CX P w) 3 T.need.f T.need.fd ["value", "word"] (spNeed K T.IR.C) := by
  refine (funD T.need.F).ok scNeed (fun vs H Q E h => ?_) (fun cdv A outer s H vs Q E hr h => ?_)
  · obtain ⟨v, wd, d, rfl, _⟩ := h
    rfl
  · obtain ⟨v, wd, d, rfl, hd, hl, q1, q2⟩ := h
    refine ⟨_, pss_one (ps_if (pt_not (pt_val (pe_call (T.okName) (hr.mono (by decide)) rfl T.isName.m T.isName.F.kp T.isName.b .nil pass0 (pa_cons (pv 0) pa_nil))))
      (pss_one (L2N.ps_raise rfl (L2N.takes_of rfl rfl rfl rfl) (pmk_oexN T.IR.O T.IR.iC T.IR.tI (okIRInit T.IR) (hr.mono (by decide)) T.IR.b pass0 rfl T.IR.m (pa_cons (pv 1) pa_nil)))) pss_nil), ?_⟩
    refine ⟨_, rfl, v, d, rfl, hd, hl, fun H1 hs hm => ?_⟩
    cases hn : nameD d with
    | true => exact ⟨true, rfl, iteF (q1 hn H1 hs hm)⟩
    | false =>
      refine ⟨false, rfl, iteT ?_⟩
      refine ⟨_, rfl, (by show 1 ≤ 1000; decide), fun a ha => ⟨a, T.IR.C, wd, rfl, upd_same, T.IR.O, T.IR.noF, fun dx h1 h2 => ?_⟩⟩
      have hd1 : H1 dx = none := by rw [upd_ne h2] at h1; exact h1
      exact ⟨rfl, dx, _, upd_same, by rw [upd_ne h2, upd_same], hd1, ir_made hs hm (q2 hn) ha dx h1 h2⟩
/-- an own class with an __init__ -/
structure TCls (K : PySem.W.Frag) (mg : Str → Option Value) (x qual : Str) (st : Stmt) (ps : List Str) : Type where
  C : Addr
  fI : Addr
  fd : FuncData
  F : Fun K "__init__" qual st fI fd
  b : Binds K fd ps []
  m : mg x = some (.ref C)
  M : Mk K C fI
  cl : Cls K C
  noW : NoAttr K C "word"
theorem small2 {f g : Str} {v u : V} : (putF g u (putF f v ([] : List (Str × V)))).length < 1000 := by
  unfold putF putF
  simp only
  split
  · show 1 < 1000
    decide
  · show 2 < 1000
    decide
/-- all but the new instance is as it was -/
def KpI (x : Addr) (H H' : Hp) : Prop := ∀ b o, H b = some o → b ≠ x → H' b = some o
/-! ### Keep -/
abbrev sKeepInit : Stmt := inClass (top 19) 0
theorem scKeepInit : FnScope ["self", "counter"] ["self", "counter"] (defScope sKeepInit) := ⟨rfl, rfl, rfl, by decide +kernel, rfl, by decide +kernel, by decide +kernel⟩
structure TKeep (K : PySem.W.Frag) (mg : Str → Option Value) : Type extends TCls K mg "Keep" "Keep.__init__" sKeepInit ["self", "counter"] where
  noF : NoAttr K C "counter"
def insKeep (C dx : Addr) (v : V) : HO := .ins C dx (putF "counter" v (putF "word" (.str "keep") []))
def spKeepInit (K : PySem.W.Frag) (C CR : Addr) : Sp := fun vs H Q E => ∃ (x dx : Addr) (v : V) (d : PyData), vs = [.ref x, v] ∧ H x = some (.ins C dx []) ∧ Dp K H v d ∧ dlen d ∧
  (nameD d = true → ∀ H', KpI x H H' → Mo H H' → H' x = some (insKeep C dx v) → Q .non H') ∧ (nameD d = false → RaiseW CR H E (.str "counter"))
theorem okKeepInit (T : TKeep K mg) (N : TNeed K mg) : FnOk P w K mg base (L2N.CX P w) 4 T.fI T.fd ["self", "counter"] (spKeepInit K T.C N.IR.C) := by
  refine (funD T.F).ok scKeepInit (fun vs H Q E h => ?_) (fun cdv A outer s H vs Q E hr h => ?_)
  · obtain ⟨x, dx, v, d, rfl, _⟩ := h
    rfl
  · obtain ⟨x, dx, v, d, rfl, hx, hd, hl, q1, q2⟩ := h
    refine ⟨_, pss_cons (ps_expr (pe_callS (okNeed N) hr rfl N.need.m N.need.F.kp N.need.b (fun σ => L2N.passAt (L2N.takes_of rfl rfl rfl rfl) σ) (pa_cons (pv 1) (pa_cons pe_str pa_nil))))
      (pss_cons (ps_fld (pv 0) pe_str rfl) (pss_one (ps_fld (pv 0) (pv 1) rfl))), ?_⟩
    refine ⟨_, rfl, v, _, d, rfl, hd, hl, fun hn H1 hs hm => ?_, fun hn => q2 hn⟩
    refine ⟨_, rfl, x, T.C, dx, [], rfl, hs x _ hx, T.cl, T.noW, (by show 0 < 1000; decide), _, rfl, _, rfl, x, T.C, dx, _, rfl, upd_same, T.cl, T.noF, (by show 1 < 1000; decide), ?_⟩
    refine q1 hn _ (fun b o e n => ?_) (hm.trans (Mo.upd.trans Mo.upd)) upd_same
    rw [upd_ne n, upd_ne n]
    exact hs b o e
/-! ### Back -/
abbrev sBackInit : Stmt := inClass (top 20) 0
theorem scBackInit : FnScope ["self", "counter"] ["self", "counter"] (defScope sBackInit) := ⟨rfl, rfl, rfl, by decide +kernel, rfl, by decide +kernel, by decide +kernel⟩
structure TBack (K : PySem.W.Frag) (mg : Str → Option Value) : Type extends TCls K mg "Back" "Back.__init__" sBackInit ["self", "counter"] where
  noF : NoAttr K C "counter"
def insBack (C dx : Addr) (v : V) : HO := .ins C dx (putF "counter" v (putF "word" (.str "back") []))
def spBackInit (K : PySem.W.Frag) (C CR : Addr) : Sp := fun vs H Q E => ∃ (x dx : Addr) (v : V) (d : PyData), vs = [.ref x, v] ∧ H x = some (.ins C dx []) ∧ Dp K H v d ∧ dlen d ∧
  (nameD d = true → ∀ H', KpI x H H' → Mo H H' → H' x = some (insBack C dx v) → Q .non H') ∧ (nameD d = false → RaiseW CR H E (.str "counter"))
theorem okBackInit (T : TBack K mg) (N : TNeed K mg) : FnOk P w K mg base (L2N.CX P w) 4 T.fI T.fd ["self", "counter"] (spBackInit K T.C N.IR.C) := by
  refine (funD T.F).ok scBackInit (fun vs H Q E h => ?_) (fun cdv A outer s H vs Q E hr h => ?_)
  · obtain ⟨x, dx, v, d, rfl, _⟩ := h
    rfl
  · obtain ⟨x, dx, v, d, rfl, hx, hd, hl, q1, q2⟩ := h
    refine ⟨_, pss_cons (ps_expr (pe_callS (okNeed N) hr rfl N.need.m N.need.F.kp N.need.b (fun σ => L2N.passAt (L2N.takes_of rfl rfl rfl rfl) σ) (pa_cons (pv 1) (pa_cons pe_str pa_nil))))
      (pss_cons (ps_fld (pv 0) pe_str rfl) (pss_one (ps_fld (pv 0) (pv 1) rfl))), ?_⟩
    refine ⟨_, rfl, v, _, d, rfl, hd, hl, fun hn H1 hs hm => ?_, fun hn => q2 hn⟩
    refine ⟨_, rfl, x, T.C, dx, [], rfl, hs x _ hx, T.cl, T.noW, (by show 0 < 1000; decide), _, rfl, _, rfl, x, T.C, dx, _, rfl, upd_same, T.cl, T.noF, (by show 1 < 1000; decide), ?_⟩
    refine q1 hn _ (fun b o e n => ?_) (hm.trans (Mo.upd.trans Mo.upd)) upd_same
    rw [upd_ne n, upd_ne n]
    exact hs b o e
/-! ### Ref -/
abbrev sRefInit : Stmt := inClass (top 21) 0
theorem scRefInit : FnScope ["self", "label"] ["self", "label"] (defScope sRefInit) := ⟨rfl, rfl, rfl, by decide +kernel, rfl, by decide +kernel, by decide +kernel⟩
structure TRef (K : PySem.W.Frag) (mg : Str → Option Value) : Type extends TCls K mg "Ref" "Ref.__init__" sRefInit ["self", "label"] where
  noF : NoAttr K C "label"
def insRef (C dx : Addr) (v : V) : HO := .ins C dx (putF "label" v (putF "word" (.str "ref") []))
def spRefInit (K : PySem.W.Frag) (C CR : Addr) : Sp := fun vs H Q E => ∃ (x dx : Addr) (v : V) (d : PyData), vs = [.ref x, v] ∧ H x = some (.ins C dx []) ∧ Dp K H v d ∧ dlen d ∧
  (nameD d = true → ∀ H', KpI x H H' → Mo H H' → H' x = some (insRef C dx v) → Q .non H') ∧ (nameD d = false → RaiseW CR H E (.str "label"))
theorem okRefInit (T : TRef K mg) (N : TNeed K mg) : FnOk P w K mg base (L2N.CX P w) 4 T.fI T.fd ["self", "label"] (spRefInit K T.C N.IR.C) := by
  refine (funD T.F).ok scRefInit (fun vs H Q E h => ?_) (fun cdv A outer s H vs Q E hr h => ?_)
  · obtain ⟨x, dx, v, d, rfl, _⟩ := h
    rfl
  · obtain ⟨x, dx, v, d, rfl, hx, hd, hl, q1, q2⟩ := h
    refine ⟨_, pss_cons (ps_expr (pe_callS (okNeed N) hr rfl N.need.m N.need.F.kp N.need.b (fun σ => L2N.passAt (L2N.takes_of rfl rfl rfl rfl) σ) (pa_cons (pv 1) (pa_cons pe_str pa_nil))))
      (pss_cons (ps_fld (pv 0) pe_str rfl) (pss_one (ps_fld (pv 0) (pv 1) rfl))), ?_⟩
    refine ⟨_, rfl, v, _, d, rfl, hd, hl, fun hn H1 hs hm => ?_, fun hn => q2 hn⟩
    refine ⟨_, rfl, x, T.C, dx, [], rfl, hs x _ hx, T.cl, T.noW, (by show 0 < 1000; decide), _, rfl, _, rfl, x, T.C, dx, _, rfl, upd_same, T.cl, T.noF, (by show 1 < 1000; decide), ?_⟩
    refine q1 hn _ (fun b o e n => ?_) (hm.trans (Mo.upd.trans Mo.upd)) upd_same
    rw [upd_ne n, upd_ne n]
    exact hs b o e
/-! ### Put -/
abbrev sPutInit : Stmt := inClass (top 22) 0
theorem scPutInit : FnScope ["self", "part"] ["self", "part"] (defScope sPutInit) := ⟨rfl, rfl, rfl, by decide +kernel, rfl, by decide +kernel, by decide +kernel⟩
structure TPut (K : PySem.W.Frag) (mg : Str → Option Value) : Type extends TCls K mg "Put" "Put.__init__" sPutInit ["self", "part"] where
  noF : NoAttr K C "part"
def insPut (C dx : Addr) (v : V) : HO := .ins C dx (putF "part" v (putF "word" (.str "put") []))
def spPutInit (K : PySem.W.Frag) (C CR : Addr) : Sp := fun vs H Q E => ∃ (x dx : Addr) (v : V) (d : PyData), vs = [.ref x, v] ∧ H x = some (.ins C dx []) ∧ Dp K H v d ∧ dlen d ∧
  (nameD d = true → ∀ H', KpI x H H' → Mo H H' → H' x = some (insPut C dx v) → Q .non H') ∧ (nameD d = false → RaiseW CR H E (.str "part"))
theorem okPutInit (T : TPut K mg) (N : TNeed K mg) : FnOk P w K mg base (L2N.CX P w) 4 T.fI T.fd ["self", "part"] (spPutInit K T.C N.IR.C) := by
  refine (funD T.F).ok scPutInit (fun vs H Q E h => ?_) (fun cdv A outer s H vs Q E hr h => ?_)
  · obtain ⟨x, dx, v, d, rfl, _⟩ := h
    rfl
  · obtain ⟨x, dx, v, d, rfl, hx, hd, hl, q1, q2⟩ := h
    refine ⟨_, pss_cons (ps_expr (pe_callS (okNeed N) hr rfl N.need.m N.need.F.kp N.need.b (fun σ => L2N.passAt (L2N.takes_of rfl rfl rfl rfl) σ) (pa_cons (pv 1) (pa_cons pe_str pa_nil))))
      (pss_cons (ps_fld (pv 0) pe_str rfl) (pss_one (ps_fld (pv 0) (pv 1) rfl))), ?_⟩
    refine ⟨_, rfl, v, _, d, rfl, hd, hl, fun hn H1 hs hm => ?_, fun hn => q2 hn⟩
    refine ⟨_, rfl, x, T.C, dx, [], rfl, hs x _ hx, T.cl, T.noW, (by show 0 < 1000; decide), _, rfl, _, rfl, x, T.C, dx, _, rfl, upd_same, T.cl, T.noF, (by show 1 < 1000; decide), ?_⟩
    refine q1 hn _ (fun b o e n => ?_) (hm.trans (Mo.upd.trans Mo.upd)) upd_same
    rw [upd_ne n, upd_ne n]
    exact hs b o e
/-! ### Open -/
abbrev sOpenInit : Stmt := inClass (top 23) 0
theorem scOpenInit : FnScope ["self", "name"] ["self", "name"] (defScope sOpenInit) := ⟨rfl, rfl, rfl, by decide +kernel, rfl, by decide +kernel, by decide +kernel⟩
structure TOpen (K : PySem.W.Frag) (mg : Str → Option Value) : Type extends TCls K mg "Open" "Open.__init__" sOpenInit ["self", "name"] where
  noF : NoAttr K C "name"
def insOpen (C dx : Addr) (v : V) : HO := .ins C dx (putF "name" v (putF "word" (.str "open") []))
def spOpenInit (K : PySem.W.Frag) (C CR : Addr) : Sp := fun vs H Q E => ∃ (x dx : Addr) (v : V) (d : PyData), vs = [.ref x, v] ∧ H x = some (.ins C dx []) ∧ Dp K H v d ∧ dlen d ∧
  (nameD d = true → ∀ H', KpI x H H' → Mo H H' → H' x = some (insOpen C dx v) → Q .non H') ∧ (nameD d = false → RaiseW CR H E (.str "name"))
theorem okOpenInit (T : TOpen K mg) (N : TNeed K mg) : FnOk P w K mg base (L2N.CX P w) 4 T.fI T.fd ["self", "name"] (spOpenInit K T.C N.IR.C) := by
  refine (funD T.F).ok scOpenInit (fun vs H Q E h => ?_) (fun cdv A outer s H vs Q E hr h => ?_)
  · obtain ⟨x, dx, v, d, rfl, _⟩ := h
    rfl
  · obtain ⟨x, dx, v, d, rfl, hx, hd, hl, q1, q2⟩ := h
    refine ⟨_, pss_cons (ps_expr (pe_callS (okNeed N) hr rfl N.need.m N.need.F.kp N.need.b (fun σ => L2N.passAt (L2N.takes_of rfl rfl rfl rfl) σ) (pa_cons (pv 1) (pa_cons pe_str pa_nil))))
      (pss_cons (ps_fld (pv 0) pe_str rfl) (pss_one (ps_fld (pv 0) (pv 1) rfl))), ?_⟩
    refine ⟨_, rfl, v, _, d, rfl, hd, hl, fun hn H1 hs hm => ?_, fun hn => q2 hn⟩
    refine ⟨_, rfl, x, T.C, dx, [], rfl, hs x _ hx, T.cl, T.noW, (by show 0 < 1000; decide), _, rfl, _, rfl, x, T.C, dx, _, rfl, upd_same, T.cl, T.noF, (by show 1 < 1000; decide), ?_⟩
    refine q1 hn _ (fun b o e n => ?_) (hm.trans (Mo.upd.trans Mo.upd)) upd_same
    rw [upd_ne n, upd_ne n]
    exact hs b o e
/-! ### Note, Skip, Set -/
abbrev sNoteInit : Stmt := inClass (top 16) 0
theorem scNoteInit : FnScope ["self", "counter", "label"] ["self", "counter", "label"] (defScope sNoteInit) := ⟨rfl, rfl, rfl, by decide +kernel, rfl, by decide +kernel, by decide +kernel⟩
structure TNote (K : PySem.W.Frag) (mg : Str → Option Value) : Type where
  C : Addr
  fI : Addr
  fd : FuncData
  F : FunD K "__init__" "Note.__init__" (defArgs sNoteInit) (defBody sNoteInit) (defScope sNoteInit) [.str ""] [] fI fd
  b : Binds K fd ["self", "counter", "label"] []
  m : mg "Note" = some (.ref C)
  M : Mk K C fI
  cl : Cls K C
  noW : NoAttr K C "word"
  noC : NoAttr K C "counter"
  noL : NoAttr K C "label"
def insNote (C dx : Addr) (v u : V) : HO := .ins C dx (putF "label" u (putF "counter" v (putF "word" (.str "note") [])))
/-- the label of a note -/
def labD (d : PyData) : Bool := PyData.eqv d (.str "") || nameD d
def spNoteInit (K : PySem.W.Frag) (C CR : Addr) : Sp := fun vs H Q E => ∃ (x dx : Addr) (v u : V) (d e : PyData), vs = [.ref x, v, u] ∧ H x = some (.ins C dx []) ∧ Dp K H v d ∧ dlen d ∧ Dp K H u e ∧ dlen e ∧ SeqAt.shaped e = true ∧
  (nameD d = true → labD e = true → ∀ H', KpI x H H' → Mo H H' → H' x = some (insNote C dx v u) → Q .non H') ∧ (nameD d = false → RaiseW CR H E (.str "counter")) ∧ (nameD d = true → labD e = false → RaiseW CR H E (.str "label"))
theorem okNoteInit (T : TNote K mg) (N : TNeed K mg) : FnOk P w K mg base (L2N.CX P w) 4 T.fI T.fd ["self", "counter", "label"] (spNoteInit K T.C N.IR.C) := by
  refine T.F.ok scNoteInit (fun vs H Q E h => ?_) (fun cdv A outer s H vs Q E hr h => ?_)
  · obtain ⟨x, dx, v, u, d, e, rfl, _⟩ := h
    rfl
  · obtain ⟨x, dx, v, u, d, e, rfl, hx, hd, hl, he, hl2, hsh, q1, q2, q3⟩ := h
    refine ⟨_, pss_cons (ps_expr (pe_callS (okNeed N) hr rfl N.need.m N.need.F.kp N.need.b (fun σ => L2N.passAt (L2N.takes_of rfl rfl rfl rfl) σ) (pa_cons (pv 1) (pa_cons pe_str pa_nil))))
      (pss_cons (ps_if (pt_cmpR (op_neD hr.units) (pv 2) pe_str (nomark _)) (pss_one (ps_expr (pe_callS (okNeed N) hr rfl N.need.m N.need.F.kp N.need.b (fun σ => L2N.passAt (L2N.takes_of rfl rfl rfl rfl) σ) (pa_cons (pv 2) (pa_cons pe_str pa_nil))))) pss_nil)
      (pss_cons (ps_fld (pv 0) pe_str rfl) (pss_cons (ps_fld (pv 0) (pv 1) rfl) (pss_one (ps_fld (pv 0) (pv 2) rfl))))), ?_⟩
    refine ⟨_, rfl, v, _, d, rfl, hd, hl, fun hn H1 hs hm => ?_, fun hn => q2 hn⟩
    refine ⟨_, rfl, e, .str "", dp_same hs e u he, .str "", hsh, (by decide +kernel), _, rfl, ?_⟩
    have fin : ∀ (H2 : Hp) (o1 o2 : HO), labD e = true → Same H H2 → Mo H H2 → Q .non (upd (upd (upd H2 x o1) x o2) x (insNote T.C dx v u)) := fun H2 o1 o2 hlab hs2 hm2 => q1 hn hlab _ (fun b o eb n => by
      rw [upd_ne n, upd_ne n, upd_ne n]
      exact hs2 b o eb) (hm2.trans (Mo.upd.trans (Mo.upd.trans Mo.upd))) upd_same
    cases h1 : PyData.eqv e (.str "") with
    | true =>
      refine iteF ?_
      have hlab : labD e = true := by unfold labD; rw [h1]; rfl
      refine ⟨_, rfl, x, T.C, dx, [], rfl, hs x _ hx, T.cl, T.noW, (by show 0 < 1000; decide), _, rfl, _, rfl, x, T.C, dx, _, rfl, upd_same, T.cl, T.noC, (by show 1 < 1000; decide), _, rfl, _, rfl, x, T.C, dx, _, rfl, upd_same, T.cl, T.noL, ?_, ?_⟩
      · exact small2
      · exact fin H1 _ _ hlab hs hm
    | false =>
      refine iteT ?_
      refine ⟨_, rfl, u, _, e, rfl, dp_same hs e u he, hl2, fun hn2 H2 hs2 hm2 => ?_, fun hn2 => ?_⟩
      · have hlab : labD e = true := by unfold labD; rw [hn2, Bool.or_true]
        refine ⟨_, rfl, x, T.C, dx, [], rfl, hs2 x _ (hs x _ hx), T.cl, T.noW, (by show 0 < 1000; decide), _, rfl, _, rfl, x, T.C, dx, _, rfl, upd_same, T.cl, T.noC, (by show 1 < 1000; decide), _, rfl, _, rfl, x, T.C, dx, _, rfl, upd_same, T.cl, T.noL, ?_, ?_⟩
        · exact small2
        · exact fin H2 _ _ hlab (hs.trans hs2) (hm.trans hm2)
      · have hlab : labD e = false := by unfold labD; rw [h1, hn2]; rfl
        exact (q3 hn hlab).back hs hm
abbrev sSkipInit : Stmt := inClass (top 17) 0
theorem scSkipInit : FnScope ["self", "counter", "by"] ["self", "counter", "by"] (defScope sSkipInit) := ⟨rfl, rfl, rfl, by decide +kernel, rfl, by decide +kernel, by decide +kernel⟩
structure TSkip (K : PySem.W.Frag) (mg : Str → Option Value) : Type extends TCls K mg "Skip" "Skip.__init__" sSkipInit ["self", "counter", "by"] where
  noC : NoAttr K C "counter"
  noF : NoAttr K C "by"
def insSkip (C dx : Addr) (v u : V) : HO := .ins C dx (putF "by" u (putF "counter" v (putF "word" (.str "skip") [])))
def skipD (d : PyData) : Bool := numD d && (match d with | .int i => decide (i ≠ 0) | _ => false)
def spSkipInit (K : PySem.W.Frag) (C CR : Addr) : Sp := fun vs H Q E => ∃ (x dx : Addr) (v u : V) (d e : PyData), vs = [.ref x, v, u] ∧ H x = some (.ins C dx []) ∧ Dp K H v d ∧ dlen d ∧ Dp K H u e ∧
  (nameD d = true → skipD e = true → ∀ H', KpI x H H' → Mo H H' → H' x = some (insSkip C dx v u) → Q .non H') ∧ (nameD d = false → RaiseW CR H E (.str "counter")) ∧ (nameD d = true → skipD e = false → RaiseW CR H E (.str "by"))
theorem okSkipInit (T : TSkip K mg) (N : TNeed K mg) : FnOk P w K mg base (L2N.CX P w) 4 T.fI T.fd ["self", "counter", "by"] (spSkipInit K T.C N.IR.C) := by
  refine (funD T.F).ok scSkipInit (fun vs H Q E h => ?_) (fun cdv A outer s H vs Q E hr h => ?_)
  · obtain ⟨x, dx, v, u, d, e, rfl, _⟩ := h
    rfl
  · obtain ⟨x, dx, v, u, d, e, rfl, hx, hd, hl, he, q1, q2, q3⟩ := h
    refine ⟨_, pss_cons (ps_expr (pe_callS (okNeed N) hr rfl N.need.m N.need.F.kp N.need.b (fun σ => L2N.passAt (L2N.takes_of rfl rfl rfl rfl) σ) (pa_cons (pv 1) (pa_cons pe_str pa_nil))))
      (pss_cons (ps_if (PW.pt (pw_or (pt_not (pt_val (pe_call N.okNumber (hr.mono (by decide)) rfl N.isNumber.m N.isNumber.F.kp N.isNumber.b .nil pass0 (pa_cons (pv 2) pa_nil)))) (pw_or1 (pt_cmpR op_eq (pv 2) pe_int (nomark _)))))
        (pss_one (L2N.ps_raise rfl (L2N.takes_of rfl rfl rfl rfl) (pmk_oexN N.IR.O N.IR.iC N.IR.tI (okIRInit N.IR) (hr.mono (by decide)) N.IR.b pass0 rfl N.IR.m (pa_cons pe_str pa_nil)))) pss_nil)
      (pss_cons (ps_fld (pv 0) pe_str rfl) (pss_cons (ps_fld (pv 0) (pv 1) rfl) (pss_one (ps_fld (pv 0) (pv 2) rfl))))), ?_⟩
    refine ⟨_, rfl, v, _, d, rfl, hd, hl, fun hn H1 hs hm => ?_, fun hn => q2 hn⟩
    have he1 := dp_same hs e u he
    have raises : skipD e = false → ∀ a, H1 a = none → ∀ dx2, (upd H1 a (exo a N.IR.C none)) dx2 = none → dx2 ≠ a → _ := fun hf a ha dx2 h1 h2 => ir_made hs hm (q3 hn hf) ha dx2 h1 h2
    refine ⟨_, rfl, u, e, rfl, he1, ?_⟩
    cases h1 : numD e with
    | false =>
      have hg : skipD e = false := by unfold skipD; rw [h1]; rfl
      refine ⟨_, rfl, ?_⟩
      refine iteT ?_
      refine iteT ?_
      refine ⟨(by show 1 ≤ 1000; decide), fun a ha => ⟨a, N.IR.C, _, rfl, upd_same, N.IR.O, N.IR.noF, fun dx2 h1 h2 => ?_⟩⟩
      have hd1 : H1 dx2 = none := by rw [upd_ne h2] at h1; exact h1
      exact ⟨rfl, dx2, _, upd_same, by rw [upd_ne h2, upd_same], hd1, raises hg a ha dx2 h1 h2⟩
    | true =>
      refine ⟨_, rfl, ?_⟩
      refine iteF ?_
      obtain ⟨i, rfl⟩ : ∃ i : Int, e = .int i := by
        cases e <;> first | exact ⟨_, rfl⟩ | (exact absurd h1 (by decide)) | cases h1
      cases he1
      refine ⟨_, rfl, rfl, _, rfl, ?_⟩
      refine ite2 (fun hz => ?_) (fun hz => ?_)
      · have hz2 : V.int i = V.int 0 := of_decide_eq_true hz
        have hg : skipD (.int i) = false := by
          cases hz2
          rfl
        refine ⟨(by show 1 ≤ 1000; decide), fun a ha => ⟨a, N.IR.C, _, rfl, upd_same, N.IR.O, N.IR.noF, fun dx2 h1 h2 => ?_⟩⟩
        have hd1 : H1 dx2 = none := by rw [upd_ne h2] at h1; exact h1
        exact ⟨rfl, dx2, _, upd_same, by rw [upd_ne h2, upd_same], hd1, raises hg a ha dx2 h1 h2⟩
      · have hz2 : ¬ V.int i = V.int 0 := fun z => hz (decide_eq_true z)
        have hg : skipD (.int i) = true := by
          unfold skipD
          rw [h1]
          exact decide_eq_true (fun z => hz2 (by cases z; rfl))
        refine ⟨_, rfl, x, T.C, dx, [], rfl, hs x _ hx, T.cl, T.noW, (by show 0 < 1000; decide), _, rfl, _, rfl, x, T.C, dx, _, rfl, upd_same, T.cl, T.noC, (by show 1 < 1000; decide), _, rfl, _, rfl, x, T.C, dx, _, rfl, upd_same, T.cl, T.noF, small2, ?_⟩
        refine q1 hn hg _ (fun b o eb n => ?_) (hm.trans (Mo.upd.trans (Mo.upd.trans Mo.upd))) upd_same
        rw [upd_ne n, upd_ne n, upd_ne n]
        exact hs b o eb
abbrev sSetInit : Stmt := inClass (top 18) 0
theorem scSetInit : FnScope ["self", "counter", "to"] ["self", "counter", "to"] (defScope sSetInit) := ⟨rfl, rfl, rfl, by decide +kernel, rfl, by decide +kernel, by decide +kernel⟩
structure TSet (K : PySem.W.Frag) (mg : Str → Option Value) : Type extends TCls K mg "Set" "Set.__init__" sSetInit ["self", "counter", "to"] where
  noC : NoAttr K C "counter"
  noF : NoAttr K C "to"
def insSet (C dx : Addr) (v u : V) : HO := .ins C dx (putF "to" u (putF "counter" v (putF "word" (.str "set") [])))
def setD (d : PyData) : Bool := numD d
def spSetInit (K : PySem.W.Frag) (C CR : Addr) : Sp := fun vs H Q E => ∃ (x dx : Addr) (v u : V) (d e : PyData), vs = [.ref x, v, u] ∧ H x = some (.ins C dx []) ∧ Dp K H v d ∧ dlen d ∧ Dp K H u e ∧
  (nameD d = true → setD e = true → ∀ H', KpI x H H' → Mo H H' → H' x = some (insSet C dx v u) → Q .non H') ∧ (nameD d = false → RaiseW CR H E (.str "counter")) ∧ (nameD d = true → setD e = false → RaiseW CR H E (.str "to"))
theorem okSetInit (T : TSet K mg) (N : TNeed K mg) : FnOk P w K mg base (L2N.CX P w) 4 T.fI T.fd ["self", "counter", "to"] (spSetInit K T.C N.IR.C) := by
  refine (funD T.F).ok scSetInit (fun vs H Q E h => ?_) (fun cdv A outer s H vs Q E hr h => ?_)
  · obtain ⟨x, dx, v, u, d, e, rfl, _⟩ := h
    rfl
  · obtain ⟨x, dx, v, u, d, e, rfl, hx, hd, hl, he, q1, q2, q3⟩ := h
    refine ⟨_, pss_cons (ps_expr (pe_callS (okNeed N) hr rfl N.need.m N.need.F.kp N.need.b (fun σ => L2N.passAt (L2N.takes_of rfl rfl rfl rfl) σ) (pa_cons (pv 1) (pa_cons pe_str pa_nil))))
      (pss_cons (ps_if ((pt_not (pt_val (pe_call N.okNumber (hr.mono (by decide)) rfl N.isNumber.m N.isNumber.F.kp N.isNumber.b .nil pass0 (pa_cons (pv 2) pa_nil)))))
        (pss_one (L2N.ps_raise rfl (L2N.takes_of rfl rfl rfl rfl) (pmk_oexN N.IR.O N.IR.iC N.IR.tI (okIRInit N.IR) (hr.mono (by decide)) N.IR.b pass0 rfl N.IR.m (pa_cons pe_str pa_nil)))) pss_nil)
      (pss_cons (ps_fld (pv 0) pe_str rfl) (pss_cons (ps_fld (pv 0) (pv 1) rfl) (pss_one (ps_fld (pv 0) (pv 2) rfl))))), ?_⟩
    refine ⟨_, rfl, v, _, d, rfl, hd, hl, fun hn H1 hs hm => ?_, fun hn => q2 hn⟩
    have he1 := dp_same hs e u he
    have raises : setD e = false → ∀ a, H1 a = none → ∀ dx2, (upd H1 a (exo a N.IR.C none)) dx2 = none → dx2 ≠ a → _ := fun hf a ha dx2 h1 h2 => ir_made hs hm (q3 hn hf) ha dx2 h1 h2
    refine ⟨_, rfl, u, e, rfl, he1, ?_⟩
    cases hg : setD e with
    | true =>
      have hg2 : numD e = true := hg
      refine ⟨_, by rw [hg2], ?_⟩
      refine iteF ?_
      refine ⟨_, rfl, x, T.C, dx, [], rfl, hs x _ hx, T.cl, T.noW, (by show 0 < 1000; decide), _, rfl, _, rfl, x, T.C, dx, _, rfl, upd_same, T.cl, T.noC, (by show 1 < 1000; decide), _, rfl, _, rfl, x, T.C, dx, _, rfl, upd_same, T.cl, T.noF, small2, ?_⟩
      refine q1 hn hg _ (fun b o eb n => ?_) (hm.trans (Mo.upd.trans (Mo.upd.trans Mo.upd))) upd_same
      rw [upd_ne n, upd_ne n, upd_ne n]
      exact hs b o eb
    | false =>
      have hg2 : numD e = false := hg
      refine ⟨_, by rw [hg2], ?_⟩
      refine iteT ?_
      refine ⟨(by show 1 ≤ 1000; decide), fun a ha => ⟨a, N.IR.C, _, rfl, upd_same, N.IR.O, N.IR.noF, fun dx2 h1 h2 => ?_⟩⟩
      have hd1 : H1 dx2 = none := by rw [upd_ne h2] at h1; exact h1
      exact ⟨rfl, dx2, _, upd_same, by rw [upd_ne h2, upd_same], hd1, raises hg a ha dx2 h1 h2⟩
end
end Pn

namespace Pn
open PySem L2
section
variable {X : Cx} {CX : CXT} {k : Nat} {f C : Addr} {fd : FuncData} {ps : List Str} {sp : Sp} {E : XK}
/-- the run of a def within a deeper around -/
theorem run_fnA {A' : Around} {pins : List (Addr × Obj)} {σ : L2.St} {H : Hp} {s : Shared} {Q : VK} {us : List Value} {vs : List V} (F : FnOk X.prog X.w X.K X.mg X.base CX k f fd ps sp) (hr : Room k A') (e0 : Env0 X.prog X.w X.K X.mg X.base A' X.stack s H) (hb : Binds X.K fd ps []) (hx : Passes CX X E)
    (I : Inv X pins σ H s) (r : Vals vs us) (h : sp vs H Q E) : wpAny (model X.prog X.w) A' (call (.ref f) us) (EP X pins σ Q) X.xe s := by
  have hl : (us ++ []).length = ps.length := by rw [List.append_nil, ← r.length]; exact F.len _ _ _ _ h
  have hbb := hb s us I.kIn hl
  rw [List.append_nil] at hbb
  refine wpAny_call (codeAny_mono (F.run A' X.stack s H ⟨us, []⟩ us vs Q E hr e0 hbb r h) fun x s' hq => ?_)
  cases x with
  | error e => exact hx pins σ H s e s' I hq
  | ok fl =>
    cases fl with
    | ret u => exact I.after hq
    | next => exact hq.elim
    | brk => exact hq.elim
    | cont => exact hq.elim
/-- str(x), x an instance whose class has a __str__ of its own -/
def rStrIns (K : PySem.W.Frag) (f : Addr) (sp : Sp) (E : XK) : List V → Hp → VK → Prop := fun xs H Q => ∃ (a C dx : Addr) (fs : List (Str × V)), xs = [.ref a] ∧ H a = some (.ins C dx fs) ∧ PySem.W.findIn K (.ref C) "__str__" = some (some (.ref f)) ∧ sp [.ref a] H (fun v H' => ∃ z, v = .str z ∧ Q (.str z) H') E
theorem call_strIns (F : FnOk X.prog X.w X.K X.mg X.base CX k f fd ps sp) (hf : PySem.W.isFn X.K (.ref f) = true) (hr : Room (k + 2) X.A) (hb : Binds X.K fd ps []) (hx : Passes CX X E) : CallR X (.type "str") (rStrIns X.K f sp E) := by
  intro pins s σ H xs us Q I r h
  obtain ⟨a, C, dx, fs, rfl, ha, hs, q⟩ := h
  obtain ⟨u, rfl, ru⟩ := r.one
  obtain rfl : u = Value.ref a := ru
  obtain ⟨mA, O, _⟩ := ins_get I.hok ha
  obtain ⟨od, J, _⟩ := O.look
  have hr2 : Room k X.A.in1.in1 := (show Room (k + 1) X.A.in1 from Room.in1 hr).in1
  refine PySem.W.kso_call (by have := hr2.un; omega) I.kIn J hs hf (wpAny_mono (run_fnA F hr2 I.env0.in1.in1 hb hx I (.cons (show RelV (.ref a) (Value.ref a) from rfl) .nil) q) (fun v s' z => ?_) fun _ _ x => x)
  obtain ⟨z', H', I', rz, t, ez, qz⟩ := z
  subst ez
  obtain ⟨tk, e⟩ := (show ∃ tk, v = Value.str t tk from rz)
  cases e
  exact ⟨.str t, H', I', ⟨tk, rfl⟩, qz⟩
end
end Pn

namespace Pn
open PySem L2 TL
/-! ### rows as data -/
inductive RowD where
  | note (c l : Str) | skip (c : Str) (n : Nat) | set (c : Str) (n : Nat) | keep (c : Str) | back (c : Str) | ref (l : Str) | put (p : Str) | opn (x : Str)
structure TRows (K : PySem.W.Frag) (mg : Str → Option Value) : Type where
  N : TNeed K mg
  note : TNote K mg
  skip : TSkip K mg
  set : TSet K mg
  keep : TKeep K mg
  back : TBack K mg
  ref : TRef K mg
  put : TPut K mg
  open_ : TOpen K mg
def numStr (n : Nat) : Str := Str.ofString (toString ((n : Nat) : Int))
/-- the words of a row's text -/
def rowWords : RowD → List Str
  | .note c l => if l = "" then ["note", c] else ["note", c, l]
  | .skip c n => ["skip", c, numStr n]
  | .set c n => ["set", c, numStr n]
  | .keep c => ["keep", c]
  | .back c => ["back", c]
  | .ref l => ["ref", l]
  | .put p => ["put", p]
  | .opn x => ["open", x]
def rowText (r : RowD) : Str := Txt.join " " (rowWords r)
/-- how large the texts and numbers of a row are -/
def rowSmall : RowD → Prop
  | .note c l => c.length ≤ 100 ∧ l.length ≤ 100
  | .skip c n => c.length ≤ 100 ∧ n < 10 ^ 20
  | .set c n => c.length ≤ 100 ∧ n < 10 ^ 20
  | .keep c => c.length ≤ 100
  | .back c => c.length ≤ 100
  | .ref c => c.length ≤ 100
  | .put c => c.length ≤ 100
  | .opn c => c.length ≤ 100
theorem join2 (a b : Str) {ab : Str} (h : tl ab = tl a ++ [32]) : Str.empty ++ ab ++ b = Txt.join " " [a, b] := by
  rw [join_eq]
  apply ext_tl
  rw [tl_join]
  show tl (Str.empty ++ ab ++ b) = tl a ++ (tl (" " : Str) ++ tl b)
  rw [tl_append, tl_append, h]
  show [] ++ (tl a ++ [32]) ++ tl b = tl a ++ ([32] ++ tl b)
  simp
theorem join3 (a b c : Str) {ab s : Str} (h : tl ab = tl a ++ [32]) (hs : s = " ") : Str.empty ++ ab ++ b ++ s ++ c = Txt.join " " [a, b, c] := by
  subst hs
  rw [join_eq]
  apply ext_tl
  rw [tl_join]
  show tl (Str.empty ++ ab ++ b ++ (" " : Str) ++ c) = tl a ++ (tl (" " : Str) ++ (tl b ++ (tl (" " : Str) ++ tl c)))
  rw [tl_append, tl_append, tl_append, tl_append, h]
  show [] ++ (tl a ++ [32]) ++ tl b ++ [32] ++ tl c = tl a ++ ([32] ++ (tl b ++ ([32] ++ tl c)))
  simp
section
variable {P : Program} {w : World} {K : PySem.W.Frag} {mg : Str → Option Value} {base : Heap}
/-- a row's instance -/
def insRow (T : TRows K mg) (dx : Addr) : RowD → HO
  | .note c l => insNote T.note.C dx (.str c) (.str l)
  | .skip c n => insSkip T.skip.C dx (.str c) (.int (n : Int))
  | .set c n => insSet T.set.C dx (.str c) (.int (n : Int))
  | .keep c => insKeep T.keep.C dx (.str c)
  | .back c => insBack T.back.C dx (.str c)
  | .ref c => insRef T.ref.C dx (.str c)
  | .put c => insPut T.put.C dx (.str c)
  | .opn c => insOpen T.open_.C dx (.str c)
def RowAt (T : TRows K mg) (H : Hp) (a : Addr) (r : RowD) : Prop := ∃ dx, H a = some (insRow T dx r)
/-- a method of one argument of an own class -/
structure TStr (K : PySem.W.Frag) (C : Addr) (qual : Str) (st : Stmt) : Type where
  f : Addr
  fd : FuncData
  F : Fun K "__str__" qual st f fd
  b : Binds K fd ["self"] []
  hs : PySem.W.findIn K (.ref C) "__str__" = some (some (.ref f))
  hf : PySem.W.isFn K (.ref f) = true
abbrev sNoteStr : Stmt := inClass (top 16) 1
theorem scNoteStr : FnScope ["self"] ["self"] (defScope sNoteStr) := ⟨rfl, rfl, rfl, by decide +kernel, rfl, by decide +kernel, by decide +kernel⟩
abbrev sSkipStr : Stmt := inClass (top 17) 1
theorem scSkipStr : FnScope ["self"] ["self"] (defScope sSkipStr) := ⟨rfl, rfl, rfl, by decide +kernel, rfl, by decide +kernel, by decide +kernel⟩
abbrev sSetStr : Stmt := inClass (top 18) 1
theorem scSetStr : FnScope ["self"] ["self"] (defScope sSetStr) := ⟨rfl, rfl, rfl, by decide +kernel, rfl, by decide +kernel, by decide +kernel⟩
abbrev sKeepStr : Stmt := inClass (top 19) 1
theorem scKeepStr : FnScope ["self"] ["self"] (defScope sKeepStr) := ⟨rfl, rfl, rfl, by decide +kernel, rfl, by decide +kernel, by decide +kernel⟩
theorem fld_keep {v : V} : (putF "counter" v (putF "word" (.str "keep") [])).lookup ("counter" : Str) = some v := by
  rw [lookup_putF, if_pos rfl]
def spKeepStr (T : TRows K mg) : Sp := fun vs H Q _ => ∃ (a : Addr) (c : Str), vs = [.ref a] ∧ RowAt T H a (.keep c) ∧ c.length ≤ 100 ∧ Q (.str (rowText (.keep c))) H
theorem okKeepStr (T : TRows K mg) (S : TStr K T.keep.C "Keep.__str__" sKeepStr) : FnOk P w K mg base CX0 1 S.f S.fd ["self"] (spKeepStr T) := by
  refine S.F.ok scKeepStr (fun vs H Q E h => ?_) (fun cdv A outer s H vs Q E hr h => ?_)
  · obtain ⟨a, c, rfl, _⟩ := h
    rfl
  · obtain ⟨a, c, rfl, ⟨dx, ha⟩, hl, q⟩ := h
    refine ⟨_, pss_one (ps_ret (pe_joined (.cons pe_str (.cons (pe_fmt (pe_fld (pv 0) rfl)) .nil)))), ?_⟩
    refine ⟨_, rfl, (by decide +kernel), _, rfl, a, T.keep.C, dx, _, .str c, rfl, ha, T.keep.cl, T.keep.noF, fld_keep, .inl ⟨c, rfl, Nat.le_trans hl (by decide), c, rfl, ?_, ?_⟩⟩
    · rw [strLen_append]
      exact Nat.le_trans (Nat.add_le_add_left hl _) (by decide +kernel)
    · rw [join2 "keep" c (by decide +kernel)]
      exact q
abbrev sBackStr : Stmt := inClass (top 20) 1
theorem scBackStr : FnScope ["self"] ["self"] (defScope sBackStr) := ⟨rfl, rfl, rfl, by decide +kernel, rfl, by decide +kernel, by decide +kernel⟩
theorem fld_back {v : V} : (putF "counter" v (putF "word" (.str "back") [])).lookup ("counter" : Str) = some v := by
  rw [lookup_putF, if_pos rfl]
def spBackStr (T : TRows K mg) : Sp := fun vs H Q _ => ∃ (a : Addr) (c : Str), vs = [.ref a] ∧ RowAt T H a (.back c) ∧ c.length ≤ 100 ∧ Q (.str (rowText (.back c))) H
theorem okBackStr (T : TRows K mg) (S : TStr K T.back.C "Back.__str__" sBackStr) : FnOk P w K mg base CX0 1 S.f S.fd ["self"] (spBackStr T) := by
  refine S.F.ok scBackStr (fun vs H Q E h => ?_) (fun cdv A outer s H vs Q E hr h => ?_)
  · obtain ⟨a, c, rfl, _⟩ := h
    rfl
  · obtain ⟨a, c, rfl, ⟨dx, ha⟩, hl, q⟩ := h
    refine ⟨_, pss_one (ps_ret (pe_joined (.cons pe_str (.cons (pe_fmt (pe_fld (pv 0) rfl)) .nil)))), ?_⟩
    refine ⟨_, rfl, (by decide +kernel), _, rfl, a, T.back.C, dx, _, .str c, rfl, ha, T.back.cl, T.back.noF, fld_back, .inl ⟨c, rfl, Nat.le_trans hl (by decide), c, rfl, ?_, ?_⟩⟩
    · rw [strLen_append]
      exact Nat.le_trans (Nat.add_le_add_left hl _) (by decide +kernel)
    · rw [join2 "back" c (by decide +kernel)]
      exact q
abbrev sRefStr : Stmt := inClass (top 21) 1
theorem scRefStr : FnScope ["self"] ["self"] (defScope sRefStr) := ⟨rfl, rfl, rfl, by decide +kernel, rfl, by decide +kernel, by decide +kernel⟩
theorem fld_ref {v : V} : (putF "label" v (putF "word" (.str "ref") [])).lookup ("label" : Str) = some v := by
  rw [lookup_putF, if_pos rfl]
def spRefStr (T : TRows K mg) : Sp := fun vs H Q _ => ∃ (a : Addr) (c : Str), vs = [.ref a] ∧ RowAt T H a (.ref c) ∧ c.length ≤ 100 ∧ Q (.str (rowText (.ref c))) H
theorem okRefStr (T : TRows K mg) (S : TStr K T.ref.C "Ref.__str__" sRefStr) : FnOk P w K mg base CX0 1 S.f S.fd ["self"] (spRefStr T) := by
  refine S.F.ok scRefStr (fun vs H Q E h => ?_) (fun cdv A outer s H vs Q E hr h => ?_)
  · obtain ⟨a, c, rfl, _⟩ := h
    rfl
  · obtain ⟨a, c, rfl, ⟨dx, ha⟩, hl, q⟩ := h
    refine ⟨_, pss_one (ps_ret (pe_joined (.cons pe_str (.cons (pe_fmt (pe_fld (pv 0) rfl)) .nil)))), ?_⟩
    refine ⟨_, rfl, (by decide +kernel), _, rfl, a, T.ref.C, dx, _, .str c, rfl, ha, T.ref.cl, T.ref.noF, fld_ref, .inl ⟨c, rfl, Nat.le_trans hl (by decide), c, rfl, ?_, ?_⟩⟩
    · rw [strLen_append]
      exact Nat.le_trans (Nat.add_le_add_left hl _) (by decide +kernel)
    · rw [join2 "ref" c (by decide +kernel)]
      exact q
abbrev sPutStr : Stmt := inClass (top 22) 1
theorem scPutStr : FnScope ["self"] ["self"] (defScope sPutStr) := ⟨rfl, rfl, rfl, by decide +kernel, rfl, by decide +kernel, by decide +kernel⟩
theorem fld_put {v : V} : (putF "part" v (putF "word" (.str "put") [])).lookup ("part" : Str) = some v := by
  rw [lookup_putF, if_pos rfl]
def spPutStr (T : TRows K mg) : Sp := fun vs H Q _ => ∃ (a : Addr) (c : Str), vs = [.ref a] ∧ RowAt T H a (.put c) ∧ c.length ≤ 100 ∧ Q (.str (rowText (.put c))) H
theorem okPutStr (T : TRows K mg) (S : TStr K T.put.C "Put.__str__" sPutStr) : FnOk P w K mg base CX0 1 S.f S.fd ["self"] (spPutStr T) := by
  refine S.F.ok scPutStr (fun vs H Q E h => ?_) (fun cdv A outer s H vs Q E hr h => ?_)
  · obtain ⟨a, c, rfl, _⟩ := h
    rfl
  · obtain ⟨a, c, rfl, ⟨dx, ha⟩, hl, q⟩ := h
    refine ⟨_, pss_one (ps_ret (pe_joined (.cons pe_str (.cons (pe_fmt (pe_fld (pv 0) rfl)) .nil)))), ?_⟩
    refine ⟨_, rfl, (by decide +kernel), _, rfl, a, T.put.C, dx, _, .str c, rfl, ha, T.put.cl, T.put.noF, fld_put, .inl ⟨c, rfl, Nat.le_trans hl (by decide), c, rfl, ?_, ?_⟩⟩
    · rw [strLen_append]
      exact Nat.le_trans (Nat.add_le_add_left hl _) (by decide +kernel)
    · rw [join2 "put" c (by decide +kernel)]
      exact q
abbrev sOpenStr : Stmt := inClass (top 23) 1
theorem scOpenStr : FnScope ["self"] ["self"] (defScope sOpenStr) := ⟨rfl, rfl, rfl, by decide +kernel, rfl, by decide +kernel, by decide +kernel⟩
theorem fld_open {v : V} : (putF "name" v (putF "word" (.str "open") [])).lookup ("name" : Str) = some v := by
  rw [lookup_putF, if_pos rfl]
def spOpenStr (T : TRows K mg) : Sp := fun vs H Q _ => ∃ (a : Addr) (c : Str), vs = [.ref a] ∧ RowAt T H a (.opn c) ∧ c.length ≤ 100 ∧ Q (.str (rowText (.opn c))) H
theorem okOpenStr (T : TRows K mg) (S : TStr K T.open_.C "Open.__str__" sOpenStr) : FnOk P w K mg base CX0 1 S.f S.fd ["self"] (spOpenStr T) := by
  refine S.F.ok scOpenStr (fun vs H Q E h => ?_) (fun cdv A outer s H vs Q E hr h => ?_)
  · obtain ⟨a, c, rfl, _⟩ := h
    rfl
  · obtain ⟨a, c, rfl, ⟨dx, ha⟩, hl, q⟩ := h
    refine ⟨_, pss_one (ps_ret (pe_joined (.cons pe_str (.cons (pe_fmt (pe_fld (pv 0) rfl)) .nil)))), ?_⟩
    refine ⟨_, rfl, (by decide +kernel), _, rfl, a, T.open_.C, dx, _, .str c, rfl, ha, T.open_.cl, T.open_.noF, fld_open, .inl ⟨c, rfl, Nat.le_trans hl (by decide), c, rfl, ?_, ?_⟩⟩
    · rw [strLen_append]
      exact Nat.le_trans (Nat.add_le_add_left hl _) (by decide +kernel)
    · rw [join2 "open" c (by decide +kernel)]
      exact q
theorem numStr_len {n : Nat} (h : n < 10 ^ 20) : (numStr n).length ≤ 20 := by
  rw [len_tl]
  show (tl (Str.ofString (toString ((n : Nat) : Int)))).length ≤ 20
  rw [tl_num]
  exact numL_len (by decide) h
theorem log_small {n : Nat} (h : n < 10 ^ 20) : (n : Int).natAbs.log2 < 1920 := by
  show n.log2 < 1920
  have : n < 2 ^ 1919 := Nat.lt_trans h (by decide +kernel)
  exact Nat.lt_of_lt_of_le (PySem.Flt.log2_lt_of (k := 1919) (by decide) this) (by decide)
def spNoteStr (T : TRows K mg) : Sp := fun vs H Q _ => ∃ (a : Addr) (c l : Str), vs = [.ref a] ∧ RowAt T H a (.note c l) ∧ c.length ≤ 100 ∧ l.length ≤ 100 ∧ Q (.str (rowText (.note c l))) H
theorem note_counter {c l : V} : (putF "label" l (putF "counter" c (putF "word" (.str "note") []))).lookup ("counter" : Str) = some c := by
  rw [lookup_putF, if_neg (by decide +kernel), lookup_putF, if_pos rfl]
theorem note_label {c l : V} : (putF "label" l (putF "counter" c (putF "word" (.str "note") []))).lookup ("label" : Str) = some l := by
  rw [lookup_putF, if_pos rfl]
theorem len3 {a b c : Str} (ha : a.length ≤ 200) (hb : b.length ≤ 200) (hc : c.length ≤ 200) : (((Str.empty ++ a) ++ b) ++ c).length ≤ sizeLine := by
  rw [strLen_append, strLen_append, strLen_append]
  exact Nat.le_trans (show _ ≤ 600 by have : (Str.empty : Str).length = 0 := rfl; omega) (by decide)
theorem len4 {a b c d : Str} (ha : a.length ≤ 200) (hb : b.length ≤ 200) (hc : c.length ≤ 200) (hd : d.length ≤ 200) : ((((Str.empty ++ a) ++ b) ++ c) ++ d).length ≤ sizeLine := by
  rw [strLen_append, strLen_append, strLen_append, strLen_append]
  exact Nat.le_trans (show _ ≤ 800 by have : (Str.empty : Str).length = 0 := rfl; omega) (by decide)
theorem len2 {a b : Str} (ha : a.length ≤ 200) (hb : b.length ≤ 200) : ((Str.empty ++ a) ++ b).length ≤ sizeLine := by
  rw [strLen_append, strLen_append]
  exact Nat.le_trans (show _ ≤ 400 by have : (Str.empty : Str).length = 0 := rfl; omega) (by decide)
theorem okNoteStr (T : TRows K mg) (S : TStr K T.note.C "Note.__str__" sNoteStr) : FnOk P w K mg base CX0 1 S.f S.fd ["self"] (spNoteStr T) := by
  refine S.F.ok scNoteStr (fun vs H Q E h => ?_) (fun cdv A outer s H vs Q E hr h => ?_)
  · obtain ⟨a, c, l, rfl, _⟩ := h
    rfl
  · obtain ⟨a, c, l, rfl, ⟨dx, ha⟩, hc, hl, q⟩ := h
    refine ⟨_, pss_cons (ps_if (pt_cmpR op_eq (pe_fld (pv 0) rfl) pe_str (nomark _)) (pss_one (ps_ret (pe_joined (.cons pe_str (.cons (pe_fmt (pe_fld (pv 0) rfl)) .nil))))) pss_nil)
      (pss_one (ps_ret (pe_joined (.cons pe_str (.cons (pe_fmt (pe_fld (pv 0) rfl)) (.cons pe_str (.cons (pe_fmt (pe_fld (pv 0) rfl)) .nil))))))), ?_⟩
    refine ⟨_, rfl, a, T.note.C, dx, _, .str l, rfl, ha, T.note.cl, T.note.noL, note_label, rfl, _, rfl, ?_⟩
    have s5 : ("note " : Str).length ≤ 200 := by decide +kernel
    have s1 : (" " : Str).length ≤ 200 := by decide +kernel
    refine ite2 (fun hz => ?_) (fun hz => ?_)
    · have hz2 : l = "" := by
        have := of_decide_eq_true hz
        cases this
        rfl
      have hw : rowText (.note c l) = Txt.join " " ["note", c] := by
        show Txt.join " " (if l = "" then ["note", c] else ["note", c, l]) = _
        rw [if_pos hz2]
      rw [hw] at q
      refine ⟨_, rfl, (by decide +kernel), _, rfl, a, T.note.C, dx, _, .str c, rfl, ha, T.note.cl, T.note.noC, note_counter, .inl ⟨c, rfl, Nat.le_trans hc (by decide), c, rfl, len2 s5 (by omega), ?_⟩⟩
      rw [join2 "note" c (by decide +kernel)]
      exact q
    · have hz2 : ¬ l = "" := fun z => hz (decide_eq_true (by rw [z]))
      have hw : rowText (.note c l) = Txt.join " " ["note", c, l] := by
        show Txt.join " " (if l = "" then ["note", c] else ["note", c, l]) = _
        rw [if_neg hz2]
      rw [hw] at q
      refine ⟨_, rfl, (by decide +kernel), _, rfl, a, T.note.C, dx, _, .str c, rfl, ha, T.note.cl, T.note.noC, note_counter, .inl ⟨c, rfl, Nat.le_trans hc (by decide), c, rfl, len2 s5 (by omega), _, rfl, len3 s5 (by omega) s1, _, rfl, a, T.note.C, dx, _, .str l, rfl, ha, T.note.cl, T.note.noL, note_label, .inl ⟨l, rfl, Nat.le_trans hl (by decide), l, rfl, len4 s5 (by omega) s1 (by omega), ?_⟩⟩⟩
      rw [join3 "note" c l (by decide +kernel) rfl]
      exact q
theorem skip_counter {c l : V} : (putF "by" l (putF "counter" c (putF "word" (.str "skip") []))).lookup ("counter" : Str) = some c := by
  rw [lookup_putF, if_neg (by decide +kernel), lookup_putF, if_pos rfl]
theorem skip_num {c l : V} : (putF "by" l (putF "counter" c (putF "word" (.str "skip") []))).lookup ("by" : Str) = some l := by
  rw [lookup_putF, if_pos rfl]
def spSkipStr (T : TRows K mg) : Sp := fun vs H Q _ => ∃ (a : Addr) (c : Str) (n : Nat), vs = [.ref a] ∧ RowAt T H a (.skip c n) ∧ c.length ≤ 100 ∧ n < 10 ^ 20 ∧ Q (.str (rowText (.skip c n))) H
theorem okSkipStr (T : TRows K mg) (S : TStr K T.skip.C "Skip.__str__" sSkipStr) : FnOk P w K mg base CX0 1 S.f S.fd ["self"] (spSkipStr T) := by
  refine S.F.ok scSkipStr (fun vs H Q E h => ?_) (fun cdv A outer s H vs Q E hr h => ?_)
  · obtain ⟨a, c, n, rfl, _⟩ := h
    rfl
  · obtain ⟨a, c, n, rfl, ⟨dx, ha⟩, hc, hn, q⟩ := h
    refine ⟨_, pss_one (ps_ret (pe_joined (.cons pe_str (.cons (pe_fmt (pe_fld (pv 0) rfl)) (.cons pe_str (.cons (pe_fmt (pe_fld (pv 0) rfl)) .nil)))))), ?_⟩
    have s5 : ("skip " : Str).length ≤ 200 := by decide +kernel
    have s1 : (" " : Str).length ≤ 200 := by decide +kernel
    have sn := numStr_len hn
    refine ⟨_, rfl, (by decide +kernel), _, rfl, a, T.skip.C, dx, _, .str c, rfl, ha, T.skip.cl, T.skip.noC, skip_counter, .inl ⟨c, rfl, Nat.le_trans hc (by decide), c, rfl, len2 s5 (by omega), _, rfl, len3 s5 (by omega) s1, _, rfl, a, T.skip.C, dx, _, .int (n : Int), rfl, ha, T.skip.cl, T.skip.noF, skip_num, .inr ⟨(n : Int), rfl, log_small hn, numStr n, rfl, len4 s5 (by omega) s1 (by omega), ?_⟩⟩⟩
    rw [join3 "skip" c (numStr n) (by decide +kernel) rfl]
    exact q
theorem set_counter {c l : V} : (putF "to" l (putF "counter" c (putF "word" (.str "set") []))).lookup ("counter" : Str) = some c := by
  rw [lookup_putF, if_neg (by decide +kernel), lookup_putF, if_pos rfl]
theorem set_num {c l : V} : (putF "to" l (putF "counter" c (putF "word" (.str "set") []))).lookup ("to" : Str) = some l := by
  rw [lookup_putF, if_pos rfl]
def spSetStr (T : TRows K mg) : Sp := fun vs H Q _ => ∃ (a : Addr) (c : Str) (n : Nat), vs = [.ref a] ∧ RowAt T H a (.set c n) ∧ c.length ≤ 100 ∧ n < 10 ^ 20 ∧ Q (.str (rowText (.set c n))) H
theorem okSetStr (T : TRows K mg) (S : TStr K T.set.C "Set.__str__" sSetStr) : FnOk P w K mg base CX0 1 S.f S.fd ["self"] (spSetStr T) := by
  refine S.F.ok scSetStr (fun vs H Q E h => ?_) (fun cdv A outer s H vs Q E hr h => ?_)
  · obtain ⟨a, c, n, rfl, _⟩ := h
    rfl
  · obtain ⟨a, c, n, rfl, ⟨dx, ha⟩, hc, hn, q⟩ := h
    refine ⟨_, pss_one (ps_ret (pe_joined (.cons pe_str (.cons (pe_fmt (pe_fld (pv 0) rfl)) (.cons pe_str (.cons (pe_fmt (pe_fld (pv 0) rfl)) .nil)))))), ?_⟩
    have s5 : ("set " : Str).length ≤ 200 := by decide +kernel
    have s1 : (" " : Str).length ≤ 200 := by decide +kernel
    have sn := numStr_len hn
    refine ⟨_, rfl, (by decide +kernel), _, rfl, a, T.set.C, dx, _, .str c, rfl, ha, T.set.cl, T.set.noC, set_counter, .inl ⟨c, rfl, Nat.le_trans hc (by decide), c, rfl, len2 s5 (by omega), _, rfl, len3 s5 (by omega) s1, _, rfl, a, T.set.C, dx, _, .int (n : Int), rfl, ha, T.set.cl, T.set.noF, set_num, .inr ⟨(n : Int), rfl, log_small hn, numStr n, rfl, len4 s5 (by omega) s1 (by omega), ?_⟩⟩⟩
    rw [join3 "set" c (numStr n) (by decide +kernel) rfl]
    exact q
end
end Pn

namespace Pn
open PySem L2 TL
/-! ### read_row -/
theorem split_len {z : Str} {ws : List Str} (h : Txt.split z " " = ws) : ∀ x ∈ ws, x.length ≤ z.length ∧ ∀ c ∈ tl x, c ∈ tl z := by
  have e := PySem.StrLaws.join_split z " "
  rw [h] at e
  have key : ∀ (l : List Str) (x : Str), x ∈ l → (tl x).length ≤ (joinL (tl " ") (l.map tl)).length ∧ ∀ c ∈ tl x, c ∈ joinL (tl " ") (l.map tl) := by
    intro l
    induction l with
    | nil => intro x hx; cases hx
    | cons a r ih =>
      intro x hx
      cases r with
      | nil =>
        rw [List.mem_singleton.mp hx]
        exact ⟨Nat.le_refl _, fun c hc => hc⟩
      | cons b r =>
        rcases List.mem_cons.mp hx with rfl | hx
        · exact ⟨by show _ ≤ (tl x ++ (tl " " ++ joinL (tl " ") ((b :: r).map tl))).length; rw [List.length_append]; omega, fun c hc => List.mem_append_left _ hc⟩
        · have q := ih x hx
          refine ⟨?_, fun c hc => List.mem_append_right _ (List.mem_append_right _ (q.2 c hc))⟩
          show _ ≤ (tl a ++ (tl " " ++ joinL (tl " ") ((b :: r).map tl))).length
          rw [List.length_append, List.length_append]
          have := q.1
          omega
  intro x hx
  have q := key ws x hx
  rw [← tl_join, e] at q
  exact ⟨by rw [len_tl, len_tl]; exact q.1, q.2⟩
theorem strOk_tl {z : Str} : PyData.strOk z = true ↔ ∀ c ∈ tl z, c < 0x110000 := by
  unfold PyData.strOk
  simp only [Array.all_eq_true']
  constructor
  · intro h c hc
    exact of_decide_eq_true (h c (by simpa using hc))
  · intro h c hc
    exact decide_eq_true (h c (by simpa using hc))
theorem str_shaped {z : Str} (h : PyData.strOk z = true) : SeqAt.shaped (.str z) = true := by
  show (PyData.strOk z && decide (PyData.depth (.str z) ≤ 64)) = true
  rw [h]
  rfl
/-- len of a list or tuple, the written part by its name -/
def rLenK (K : PySem.W.Frag) : List V → Hp → VK → Prop := fun xs H Q => ∃ p ys, xs = [V.ref p] ∧ (SqL K H p ys ∨ SqT K H p ys) ∧ Q (.int ys.length) H
theorem kpi_same2 {H H1 : Hp} {x dx : Addr} {o o2 : HO} (hx : H x = none) (hdx : H dx = none) (k : KpI x (upd (upd H dx o) x o2) H1) : Same H H1 := fun b u e => by
  have n1 : b ≠ x := ne_of_none e hx
  have n2 : b ≠ dx := ne_of_none e hdx
  exact k b u (by rw [upd_ne n1, upd_ne n2]; exact e) n1
theorem ins_same2 {H : Hp} {x dx : Addr} {o o2 : HO} (hx : H x = none) (hdx : H dx = none) : Same H (upd (upd H dx o) x o2) := fun b u e => by
  rw [upd_ne (ne_of_none e hx), upd_ne (ne_of_none e hdx)]
  exact e
theorem skip_pos {n : Nat} (h : skipD (.int (n : Int)) = true) : n ≠ 0 := fun z => by
  subst z
  exact absurd h (by decide)
theorem skip_of {n : Nat} (h : n ≠ 0) : skipD (.int (n : Int)) = true := by
  show (decide ((0 : Int) ≤ (n : Int)) && decide ((n : Int) ≠ 0)) = true
  rw [decide_eq_true (show (0 : Int) ≤ (n : Int) by omega), decide_eq_true (show (n : Int) ≠ 0 by omega)]
  rfl
theorem set_of {n : Nat} : setD (.int (n : Int)) = true := decide_eq_true (show (0 : Int) ≤ (n : Int) by omega)
end Pn

namespace Pn
open PySem L2
/-- a pool of names: counters, parts, open places, labels -/
structure Pool where
  c : List Str
  p : List Str
  x : List Str
  l : List Str
def poolsD : List Pool := [⟨["c", "f", "r"], ["p", "pic", "fig", "text"], ["x", "y"], ["cat", "dog"]⟩, ⟨["a", "ab", "abc"], ["a", "aa", "ab", "b"], ["b", "bb"], ["a", "z"]⟩, ⟨["n", "nn", "m"], ["z", "y", "x", "w"], ["n", "o"], ["x", "n"]⟩]
structure Pool.Fine (d : Pool) : Prop where
  cl : d.c.length = 3
  pl : d.p.length = 4
  xl : d.x.length = 2
  ll : d.l.length = 2
  cn : d.c.Nodup
  pn : d.p.Nodup
  names : ∀ y ∈ d.c ++ d.p ++ d.x ++ d.l, nameS y = true
theorem pool_fine : ∀ d ∈ poolsD, d.Fine := fun d hd => by
  have h : ∀ d ∈ poolsD, ((decide (d.c.length = 3) && decide (d.p.length = 4) && decide (d.x.length = 2) && decide (d.l.length = 2)) && (decide d.c.Nodup && decide d.p.Nodup)) && (d.c ++ d.p ++ d.x ++ d.l).all nameS = true := List.all_eq_true.mp (by decide +kernel)
  have q := h d hd
  simp only [Bool.and_eq_true, decide_eq_true_eq] at q
  obtain ⟨⟨⟨⟨⟨q1, q2⟩, q3⟩, q4⟩, q5, q6⟩, q7⟩ := q
  exact ⟨q1, q2, q3, q4, q5, q6, List.all_eq_true.mp q7⟩
/-- a pool as it stands -/
def PoolAt (H : Hp) (a : Addr) (d : Pool) : Prop := ∃ a0 a1 a2 a3 : Addr, H a = some (.lst [.ref a0, .ref a1, .ref a2, .ref a3]) ∧ H a0 = some (.lst (d.c.map V.str)) ∧ H a1 = some (.lst (d.p.map V.str)) ∧ H a2 = some (.lst (d.x.map V.str)) ∧ H a3 = some (.lst (d.l.map V.str))
section
variable {P : Program} {w : World} {K : PySem.W.Frag} {mg : Str → Option Value} {base : Heap}
def spPools : Sp := fun vs H Q _ => ∃ b : Addr, vs = [.ref b] ∧ BoxAt H b ∧ ∀ (a : Addr) (d : Pool) (H' : Hp), d ∈ poolsD → BoxAt H' b → Kp b H H' → PoolAt (dif H H') a d → Q (.ref a) H'
end
end Pn

namespace Pn
open PySem L2
/-- counters as they stand: a list of pairs -/
def CsAt (H : Hp) (c : Addr) (cs : List (Str × Str)) : Prop := ∃ ts : List Addr, H c = some (.lst (ts.map V.ref)) ∧ Paired (fun t p => H t = some (.tup [.str p.1, .str p.2])) ts cs
/-- each upper one stands ahead -/
def TreeOk (cs : List (Str × Str)) : Prop := ∀ (i : Nat) (p : Str × Str), cs[i]? = some p → p.2 = "" ∨ p.2 ∈ (cs.take i).map (·.1)
theorem tree_snoc {cs : List (Str × Str)} {p : Str × Str} (h : TreeOk cs) (hp : p.2 = "" ∨ p.2 ∈ cs.map (·.1)) : TreeOk (cs ++ [p]) := fun i q hq => by
  by_cases hi : i < cs.length
  · rw [List.getElem?_append_left hi] at hq
    rcases h i q hq with e | e
    · exact .inl e
    · refine .inr ?_
      rw [List.take_append_of_le_length (by omega)]
      exact e
  · rw [List.getElem?_append_right (by omega)] at hq
    have h0 : i - cs.length = 0 := by
      cases h1 : i - cs.length with
      | zero => rfl
      | succ n => rw [h1] at hq; simp at hq
    rw [h0] at hq
    have e : p = q := by simpa using hq
    subst e
    rcases hp with e | e
    · exact .inl e
    · refine .inr ?_
      rw [show i = cs.length by omega, List.take_left']
      · exact e
      · rfl
theorem paired_mono {α β : Type} {R S : α → β → Prop} (h : ∀ a b, R a b → S a b) : ∀ {l : List α} {m : List β}, Paired R l m → Paired S l m
  | _, _, .nil => .nil
  | _, _, .cons a b => .cons (h _ _ a) (paired_mono h b)
theorem paired_snoc {α β : Type} {R : α → β → Prop} {x : α} {y : β} (h : R x y) : ∀ {l : List α} {m : List β}, Paired R l m → Paired R (l ++ [x]) (m ++ [y])
  | _, _, .nil => .cons h .nil
  | _, _, .cons a b => .cons a (paired_snoc h b)
theorem paired_at {α β : Type} {R : α → β → Prop} : ∀ {l : List α} {m : List β} {i : Nat} {x : α}, Paired R l m → l[i]? = some x → ∃ y, m[i]? = some y ∧ R x y
  | _, _, _, _, .nil, h => by simp at h
  | _, _, 0, _, .cons a _, h => by
    have e := Option.some.inj h
    subst e
    exact ⟨_, rfl, a⟩
  | _, _, i + 1, _, .cons _ b, h => paired_at (i := i) b h
theorem paired_len {α β : Type} {R : α → β → Prop} : ∀ {l : List α} {m : List β}, Paired R l m → l.length = m.length
  | _, _, .nil => rfl
  | _, _, .cons _ b => by rw [List.length_cons, List.length_cons, paired_len b]
section
variable {P : Program} {w : World} {K : PySem.W.Frag} {mg : Str → Option Value} {base : Heap}
def spCounters (K : PySem.W.Frag) : Sp := fun vs H Q _ => ∃ (b p : Addr) (m : Nat) (l : List Str), vs = [.ref b, .ref p, .int (m : Int)] ∧ BoxAt H b ∧ SqL K H p (l.map V.str) ∧ p ≠ b ∧ 0 < m ∧ m ≤ l.length ∧ l.length ≤ 100 ∧
  ∀ (c : Addr) (cs : List (Str × Str)) (H' : Hp), Kp b H H' → BoxAt H' b → CsAt (dif H H') c cs → 0 < cs.length → cs.length ≤ m → cs.map (·.1) = l.take cs.length → TreeOk cs → Q (.ref c) H'
end
end Pn

namespace Pn
open PySem L2
/-- a row as the tuple that the law draws -/
def rowTup : RowD → List V
  | .note c l => [.str "note", .str c, .str l]
  | .skip c n => [.str "skip", .str c, .int (n : Int)]
  | .set c n => [.str "set", .str c, .int (n : Int)]
  | .keep c => [.str "keep", .str c]
  | .back c => [.str "back", .str c]
  | .ref c => [.str "ref", .str c]
  | .put c => [.str "put", .str c]
  | .opn c => [.str "open", .str c]
def rowFine (d : Pool) (cs : List (Str × Str)) (parts : List Str) : RowD → Prop
  | .note c l => c ∈ cs.map (·.1) ∧ (l = "" ∨ l ∈ d.l)
  | .skip c n => c ∈ cs.map (·.1) ∧ 1 ≤ n ∧ n ≤ 3
  | .set c n => c ∈ cs.map (·.1) ∧ n ≤ 3
  | .keep c => c ∈ cs.map (·.1)
  | .back c => c ∈ cs.map (·.1)
  | .ref _ => False
  | .put p => p ∈ parts
  | .opn x => x ∈ d.x
theorem PoolAt.mono {H H' : Hp} {a : Addr} {d : Pool} (s : Same H H') (h : PoolAt H a d) : PoolAt H' a d := by
  obtain ⟨a0, a1, a2, a3, e, e0, e1, e2, e3⟩ := h
  exact ⟨a0, a1, a2, a3, s _ _ e, s _ _ e0, s _ _ e1, s _ _ e2, s _ _ e3⟩
theorem CsAt.mono {H H' : Hp} {a : Addr} {cs : List (Str × Str)} (s : Same H H') (h : CsAt H a cs) : CsAt H' a cs := by
  obtain ⟨ts, e, p⟩ := h
  exact ⟨ts, s _ _ e, paired_mono (fun _ _ z => s _ _ z) p⟩
theorem dif_hid {b : Addr} {H H' : Hp} {o : HO} (hb : H b = some o) : Same (dif H H') (hid H' b) := fun a u e => by
  obtain ⟨e0, e1⟩ := dif_eq.mp e
  exact hid_get e1 (fun z => by rw [z, hb] at e0; cases e0)
theorem hid_ne {H : Hp} {b a : Addr} {o : HO} (h : hid H b a = some o) : a ≠ b := fun z => by
  unfold hid at h
  rw [if_pos z] at h
  cases h
theorem newAt {b t : Addr} {H Hx : Hp} {o : HO} (k : Kp b H Hx) (hx : BoxAt Hx b) (ht : Hx t = none) : dif H (upd Hx t o) t = some o := by
  obtain ⟨_, _, _, g⟩ := hx
  exact dif_new (k.mo g t ht) upd_same
theorem BoxAt.new {b t : Addr} {H : Hp} {o : HO} (h : BoxAt H b) (ht : H t = none) : BoxAt (upd H t o) b := by
  obtain ⟨x, y, e, g⟩ := h
  exact ⟨x, y, e, Same.new ht b _ g⟩
theorem BoxAt.ne {b t : Addr} {H : Hp} (h : BoxAt H b) (ht : H t = none) : t ≠ b := fun z => by
  obtain ⟨x, y, e, g⟩ := h
  rw [z, g] at ht
  cases ht
theorem strsL_nil (l : List Str) : PyData.eqv (.list (l.map PyData.str)) (.list []) = l.isEmpty := by
  cases l <;> simp [PyData.eqv, PyData.eqvAll]
theorem dp_strL {K : PySem.W.Frag} {H : Hp} : ∀ l : List Str, DpAll K H (l.map V.str) (l.map PyData.str)
  | [] => .nil
  | x :: l => .cons (.str x) (dp_strL l)
theorem strL_sh {l : List Str} (h : ∀ x ∈ l, PyData.strOk x = true) : SeqAt.shaped (.list (l.map PyData.str)) = true := by
  have q : ∀ m : List Str, (∀ x ∈ m, PyData.strOk x = true) → PyData.canLayAll0 (m.map PyData.str) = true ∧ PyData.depthAll (m.map PyData.str) = 0 := by
    intro m
    induction m with
    | nil => intro _; exact ⟨by simp [PyData.canLayAll0], by simp [PyData.depthAll]⟩
    | cons x m ih =>
      intro h
      have q := ih fun y hy => h y (List.mem_cons_of_mem _ hy)
      refine ⟨?_, by simp [PyData.depthAll, PyData.depth, q.2]⟩
      show (PyData.strOk x && PyData.canLayAll0 (m.map PyData.str)) = true
      rw [h x List.mem_cons_self, q.1]
      rfl
  have q := q l h
  show (PyData.canLay0 (.list (l.map PyData.str)) && decide (PyData.depth (.list (l.map PyData.str)) ≤ 64)) = true
  rw [Bool.and_eq_true]
  refine ⟨by simp only [PyData.canLay0]; exact q.1, decide_eq_true ?_⟩
  simp only [PyData.depth, q.2]
  decide
theorem name_ok {z : Str} (h : nameS z = true) : PyData.strOk z = true ∧ z.length ≤ 4 := by
  unfold nameS at h
  rw [Bool.and_eq_true, Bool.and_eq_true, Bool.and_eq_true] at h
  obtain ⟨⟨_, h2, h3⟩, h4⟩ := h
  refine ⟨strOk_tl.mpr fun c hc => ?_, by have := of_decide_eq_true h3; omega⟩
  have q := List.all_eq_true.mp h4 c hc
  unfold lok at q
  rw [Bool.and_eq_true] at q
  have := of_decide_eq_true q.2
  omega
section
variable {P : Program} {w : World} {K : PySem.W.Frag} {mg : Str → Option Value} {base : Heap}
def spDRow (K : PySem.W.Frag) : Sp := fun vs H Q _ => ∃ (b pp cc ps : Addr) (d : Pool) (cs : List (Str × Str)) (parts : List Str), vs = [.ref b, .ref pp, .ref cc, .ref ps] ∧ BoxAt H b ∧ PoolAt (hid H b) pp d ∧ d ∈ poolsD ∧ CsAt (hid H b) cc cs ∧ 0 < cs.length ∧ cs.length ≤ 100 ∧
  SqL K H ps (parts.map V.str) ∧ ps ≠ b ∧ parts.length ≤ 100 ∧ (∀ x ∈ parts, nameS x = true) ∧
  ∀ (t : Addr) (r : RowD) (H' : Hp), Kp b H H' → BoxAt H' b → dif H H' t = some (.tup (rowTup r)) → rowFine d cs parts r → Q (.ref t) H'
end
end Pn

namespace Pn
open PySem L2 TL
def rowValid : RowD → Prop
  | .note c l => nameS c = true ∧ (l = "" ∨ nameS l = true)
  | .skip c n => nameS c = true ∧ 1 ≤ n ∧ n < 10 ^ 10
  | .set c n => nameS c = true ∧ n < 10 ^ 10
  | .keep c => nameS c = true
  | .back c => nameS c = true
  | .ref c => nameS c = true
  | .put c => nameS c = true
  | .opn c => nameS c = true
theorem fine_valid {d : Pool} {cs : List (Str × Str)} {parts : List Str} (hd : d.Fine) (hc : ∀ x ∈ cs.map (·.1), nameS x = true) (hp : ∀ x ∈ parts, nameS x = true) : ∀ {r : RowD}, rowFine d cs parts r → rowValid r
  | .note _ _, h => ⟨hc _ h.1, h.2.imp id fun z => hd.names _ (List.mem_append_right _ z)⟩
  | .skip _ _, h => ⟨hc _ h.1, h.2.1, Nat.lt_of_le_of_lt h.2.2 (by decide)⟩
  | .set _ _, h => ⟨hc _ h.1, Nat.lt_of_le_of_lt h.2 (by decide)⟩
  | .keep _, h => hc _ h
  | .back _, h => hc _ h
  | .put _, h => hp _ h
  | .opn _, h => hd.names _ (List.mem_append_left _ (List.mem_append_right _ h))
/-- what a word of a drawn row says in its text -/
def wOf : V → Option Str
  | .str z => if z = "" then none else some z
  | .int i => some (Str.ofString (toString i))
  | _ => none
theorem name_ne {z : Str} (h : nameS z = true) : z ≠ "" := fun e => by
  subst e
  exact absurd h (by decide +kernel)
theorem words_of : ∀ {r : RowD}, rowValid r → (rowTup r).filterMap wOf = rowWords r
  | .note c l, h => by
    have h0 := name_ne h.1
    have k : wOf (.str "note") = some "note" := by decide +kernel
    have kc : wOf (.str c) = some c := if_neg h0
    by_cases hl : l = ""
    · have kl : wOf (.str l) = none := if_pos hl
      show List.filterMap wOf [.str "note", .str c, .str l] = (if l = "" then (["note", c] : List Str) else ["note", c, l])
      rw [if_pos hl]
      simp [k, kc, kl]
    · have kl : wOf (.str l) = some l := if_neg hl
      show List.filterMap wOf [.str "note", .str c, .str l] = (if l = "" then (["note", c] : List Str) else ["note", c, l])
      rw [if_neg hl]
      simp [k, kc, kl]
  | .skip c n, h => by
    have k : wOf (.str "skip") = some "skip" := by decide +kernel
    have kc : wOf (.str c) = some c := if_neg (name_ne h.1)
    show List.filterMap wOf [.str "skip", .str c, .int (n : Int)] = (["skip", c, numStr n] : List Str)
    simp [List.filterMap_cons, k, kc]
    rfl
  | .set c n, h => by
    have k : wOf (.str "set") = some "set" := by decide +kernel
    have kc : wOf (.str c) = some c := if_neg (name_ne h.1)
    show List.filterMap wOf [.str "set", .str c, .int (n : Int)] = (["set", c, numStr n] : List Str)
    simp [List.filterMap_cons, k, kc]
    rfl
  | .keep c, h => by
    have k : wOf (.str "keep") = some "keep" := by decide +kernel
    have kc : wOf (.str c) = some c := if_neg (name_ne h)
    show List.filterMap wOf [.str "keep", .str c] = (["keep", c] : List Str)
    simp [List.filterMap_cons, k, kc]
  | .back c, h => by
    have k : wOf (.str "back") = some "back" := by decide +kernel
    have kc : wOf (.str c) = some c := if_neg (name_ne h)
    show List.filterMap wOf [.str "back", .str c] = (["back", c] : List Str)
    simp [List.filterMap_cons, k, kc]
  | .ref c, h => by
    have k : wOf (.str "ref") = some "ref" := by decide +kernel
    have kc : wOf (.str c) = some c := if_neg (name_ne h)
    show List.filterMap wOf [.str "ref", .str c] = (["ref", c] : List Str)
    simp [List.filterMap_cons, k, kc]
  | .put c, h => by
    have k : wOf (.str "put") = some "put" := by decide +kernel
    have kc : wOf (.str c) = some c := if_neg (name_ne h)
    show List.filterMap wOf [.str "put", .str c] = (["put", c] : List Str)
    simp [List.filterMap_cons, k, kc]
  | .opn c, h => by
    have k : wOf (.str "open") = some "open" := by decide +kernel
    have kc : wOf (.str c) = some c := if_neg (name_ne h)
    show List.filterMap wOf [.str "open", .str c] = (["open", c] : List Str)
    simp [List.filterMap_cons, k, kc]
theorem numStr_small {n : Nat} (h : n < 10 ^ 10) : (numStr n).length ≤ 20 ∧ PyData.strOk (numStr n) = true := by
  refine ⟨numStr_len (Nat.lt_trans h (by decide)), strOk_tl.mpr fun c hc => ?_⟩
  have e : tl (numStr n) = numL n := tl_num n
  rw [e] at hc
  have q := numL_digits n c hc
  omega
/-- the words of a row that stands: few, short, of ordinary signs -/
theorem words_small {r : RowD} (h : rowValid r) : (rowWords r).length ≤ 3 ∧ 2 ≤ (rowWords r).length ∧ ∀ x ∈ rowWords r, x.length ≤ 20 ∧ PyData.strOk x = true := by
  have nm : ∀ {z : Str}, nameS z = true → z.length ≤ 20 ∧ PyData.strOk z = true := fun h => ⟨Nat.le_trans (name_ok h).2 (by decide), (name_ok h).1⟩
  have lit : ∀ z ∈ (["note", "skip", "set", "keep", "back", "ref", "put", "open"] : List Str), z.length ≤ 20 ∧ PyData.strOk z = true := fun z hz => by
    have q : (["note", "skip", "set", "keep", "back", "ref", "put", "open"] : List Str).all (fun z => decide (z.length ≤ 20) && PyData.strOk z) = true := by decide +kernel
    have := List.all_eq_true.mp q z hz
    rw [Bool.and_eq_true] at this
    exact ⟨of_decide_eq_true this.1, this.2⟩
  have two : ∀ {a c : Str}, a ∈ (["note", "skip", "set", "keep", "back", "ref", "put", "open"] : List Str) → nameS c = true → ([a, c] : List Str).length ≤ 3 ∧ 2 ≤ ([a, c] : List Str).length ∧ ∀ x ∈ ([a, c] : List Str), x.length ≤ 20 ∧ PyData.strOk x = true := fun {a c} ha hc =>
    ⟨by show 2 ≤ 3; decide, by show 2 ≤ 2; decide, fun x hx => by
      rcases List.mem_cons.mp hx with rfl | hx
      · exact lit _ ha
      · rw [List.mem_singleton.mp hx]; exact nm hc⟩
  have three : ∀ {a c l : Str}, a ∈ (["note", "skip", "set", "keep", "back", "ref", "put", "open"] : List Str) → nameS c = true → (l.length ≤ 20 ∧ PyData.strOk l = true) → ([a, c, l] : List Str).length ≤ 3 ∧ 2 ≤ ([a, c, l] : List Str).length ∧ ∀ x ∈ ([a, c, l] : List Str), x.length ≤ 20 ∧ PyData.strOk x = true := fun {a c l} ha hc hl =>
    ⟨by show 3 ≤ 3; decide, by show 2 ≤ 3; decide, fun x hx => by
      rcases List.mem_cons.mp hx with rfl | hx
      · exact lit _ ha
      · rcases List.mem_cons.mp hx with rfl | hx
        · exact nm hc
        · rw [List.mem_singleton.mp hx]; exact hl⟩
  cases r with
  | note c l =>
    show (if l = "" then (["note", c] : List Str) else ["note", c, l]).length ≤ 3 ∧ 2 ≤ (if l = "" then (["note", c] : List Str) else ["note", c, l]).length ∧ ∀ x ∈ (if l = "" then (["note", c] : List Str) else ["note", c, l]), _
    by_cases hl : l = ""
    · rw [if_pos hl]
      exact two (by decide +kernel) h.1
    · rw [if_neg hl]
      exact three (by decide +kernel) h.1 (nm (h.2.resolve_left hl))
  | skip c n => exact three (by decide +kernel) h.1 (numStr_small h.2.2)
  | set c n => exact three (by decide +kernel) h.1 (numStr_small h.2)
  | keep c => exact two (by decide +kernel) h
  | back c => exact two (by decide +kernel) h
  | ref c => exact two (by decide +kernel) h
  | put c => exact two (by decide +kernel) h
  | opn c => exact two (by decide +kernel) h
section
variable {P : Program} {w : World} {K : PySem.W.Frag} {mg : Str → Option Value} {base : Heap}
def rStrF : List V → Hp → VK → Prop := fun xs H Q => (∃ a, xs = [.str a] ∧ Q (.str a) H) ∨ ∃ i : Int, xs = [.int i] ∧ i.natAbs.log2 < 1920 ∧ Q (.str (Str.ofString (toString i))) H
theorem call_strF {X : Cx} : CallR X (.type "str") rStrF := fun pins s σ H xs us Q I r h => h.elim (fun h => SkE.call_str_str pins s σ H xs us Q I r h) fun h => call_str_int pins s σ H xs us Q I r h
theorem tup_items {r : RowD} (h : rowValid r) : (rowTup r).length ≤ 3 ∧ ∀ v ∈ rowTup r, (∃ z : Str, v = .str z ∧ PyData.strOk z = true) ∨ ∃ n : Nat, v = .int (n : Int) ∧ n < 10 ^ 10 := by
  have nm : ∀ {z : Str}, nameS z = true → PyData.strOk z = true := fun h => (name_ok h).1
  have l8 : ∀ z ∈ (["note", "skip", "set", "keep", "back", "ref", "put", "open"] : List Str), PyData.strOk z = true := List.all_eq_true.mp (by decide +kernel)
  have two : ∀ {a c : Str}, a ∈ (["note", "skip", "set", "keep", "back", "ref", "put", "open"] : List Str) → nameS c = true → ([.str a, .str c] : List V).length ≤ 3 ∧ ∀ v ∈ ([.str a, .str c] : List V), (∃ z : Str, v = .str z ∧ PyData.strOk z = true) ∨ ∃ n : Nat, v = .int (n : Int) ∧ n < 10 ^ 10 := fun {a c} ha hc =>
    ⟨by show 2 ≤ 3; decide, fun v hv => by
      rcases List.mem_cons.mp hv with rfl | hv
      · exact .inl ⟨a, rfl, l8 a ha⟩
      · rw [List.mem_singleton.mp hv]; exact .inl ⟨c, rfl, nm hc⟩⟩
  have three : ∀ {a c : Str} {u : V}, a ∈ (["note", "skip", "set", "keep", "back", "ref", "put", "open"] : List Str) → nameS c = true → ((∃ z : Str, u = .str z ∧ PyData.strOk z = true) ∨ ∃ n : Nat, u = .int (n : Int) ∧ n < 10 ^ 10) →
      ([.str a, .str c, u] : List V).length ≤ 3 ∧ ∀ v ∈ ([.str a, .str c, u] : List V), (∃ z : Str, v = .str z ∧ PyData.strOk z = true) ∨ ∃ n : Nat, v = .int (n : Int) ∧ n < 10 ^ 10 := fun {a c u} ha hc hu =>
    ⟨by show 3 ≤ 3; decide, fun v hv => by
      rcases List.mem_cons.mp hv with rfl | hv
      · exact .inl ⟨a, rfl, l8 a ha⟩
      · rcases List.mem_cons.mp hv with rfl | hv
        · exact .inl ⟨c, rfl, nm hc⟩
        · rw [List.mem_singleton.mp hv]; exact hu⟩
  cases r with
  | note c l => exact three (by decide +kernel) h.1 (.inl ⟨l, rfl, h.2.elim (fun z => by rw [z]; decide +kernel) nm⟩)
  | skip c n => exact three (by decide +kernel) h.1 (.inr ⟨n, rfl, h.2.2⟩)
  | set c n => exact three (by decide +kernel) h.1 (.inr ⟨n, rfl, h.2⟩)
  | keep c => exact two (by decide +kernel) h
  | back c => exact two (by decide +kernel) h
  | ref c => exact two (by decide +kernel) h
  | put c => exact two (by decide +kernel) h
  | opn c => exact two (by decide +kernel) h
end
end Pn

namespace Pn
open PySem L2 TL
structure TStrs {K : PySem.W.Frag} {mg : Str → Option Value} (T : TRows K mg) : Type where
  note : TStr K T.note.C "Note.__str__" sNoteStr
  skip : TStr K T.skip.C "Skip.__str__" sSkipStr
  set : TStr K T.set.C "Set.__str__" sSetStr
  keep : TStr K T.keep.C "Keep.__str__" sKeepStr
  back : TStr K T.back.C "Back.__str__" sBackStr
  ref : TStr K T.ref.C "Ref.__str__" sRefStr
  put : TStr K T.put.C "Put.__str__" sPutStr
  open_ : TStr K T.open_.C "Open.__str__" sOpenStr
def rStrRow {K : PySem.W.Frag} {mg : Str → Option Value} (T : TRows K mg) : List V → Hp → VK → Prop := fun xs H Q => ∃ (a : Addr) (r : RowD), xs = [.ref a] ∧ RowAt T H a r ∧ rowSmall r ∧ Q (.str (rowText r)) H
theorem call_strRow {X : Cx} (T : TRows X.K X.mg) (S : TStrs T) (hr : Room 3 X.A) : CallR X (.type "str") (rStrRow T) := by
  intro pins s σ H xs us Q I rv h
  obtain ⟨a, r, rfl, ⟨dx, ha⟩, hs, q⟩ := h
  cases r with
  | note c l => exact call_strIns (okNoteStr T S.note) S.note.hf hr S.note.b pass0 pins s σ H _ us Q I rv ⟨a, _, dx, _, rfl, ha, S.note.hs, a, c, l, rfl, ⟨dx, ha⟩, hs.1, hs.2, _, rfl, q⟩
  | skip c n => exact call_strIns (okSkipStr T S.skip) S.skip.hf hr S.skip.b pass0 pins s σ H _ us Q I rv ⟨a, _, dx, _, rfl, ha, S.skip.hs, a, c, n, rfl, ⟨dx, ha⟩, hs.1, hs.2, _, rfl, q⟩
  | set c n => exact call_strIns (okSetStr T S.set) S.set.hf hr S.set.b pass0 pins s σ H _ us Q I rv ⟨a, _, dx, _, rfl, ha, S.set.hs, a, c, n, rfl, ⟨dx, ha⟩, hs.1, hs.2, _, rfl, q⟩
  | keep c => exact call_strIns (okKeepStr T S.keep) S.keep.hf hr S.keep.b pass0 pins s σ H _ us Q I rv ⟨a, _, dx, _, rfl, ha, S.keep.hs, a, c, rfl, ⟨dx, ha⟩, hs, _, rfl, q⟩
  | back c => exact call_strIns (okBackStr T S.back) S.back.hf hr S.back.b pass0 pins s σ H _ us Q I rv ⟨a, _, dx, _, rfl, ha, S.back.hs, a, c, rfl, ⟨dx, ha⟩, hs, _, rfl, q⟩
  | ref c => exact call_strIns (okRefStr T S.ref) S.ref.hf hr S.ref.b pass0 pins s σ H _ us Q I rv ⟨a, _, dx, _, rfl, ha, S.ref.hs, a, c, rfl, ⟨dx, ha⟩, hs, _, rfl, q⟩
  | put c => exact call_strIns (okPutStr T S.put) S.put.hf hr S.put.b pass0 pins s σ H _ us Q I rv ⟨a, _, dx, _, rfl, ha, S.put.hs, a, c, rfl, ⟨dx, ha⟩, hs, _, rfl, q⟩
  | opn c => exact call_strIns (okOpenStr T S.open_) S.open_.hf hr S.open_.b pass0 pins s σ H _ us Q I rv ⟨a, _, dx, _, rfl, ha, S.open_.hs, a, c, rfl, ⟨dx, ha⟩, hs, _, rfl, q⟩
theorem call_strRowK {X : Cx} {K : PySem.W.Frag} {mg : Str → Option Value} (hK : X.K = K) (hm : X.mg = mg) (T : TRows K mg) (S : TStrs T) (hr : Room 3 X.A) : CallR X (.type "str") (rStrRow T) := by
  subst hK
  subst hm
  exact call_strRow T S hr
theorem name_small {z : Str} (h : nameS z = true) : z.length ≤ 100 := Nat.le_trans (name_ok h).2 (by decide)
theorem lab_small {l : Str} (h : labD (.str l) = true) : l = "" ∨ nameS l = true := by
  unfold labD at h
  rw [Bool.or_eq_true] at h
  rcases h with h | h
  · left
    simp only [PyData.eqv] at h
    exact eq_of_beq h
  · exact .inr h
end Pn

namespace Pn
open PySem L2 TL
theorem passN0 {P : Program} {w : World} {X : Cx} : Passes (L2N.CX P w) X E0 := fun _ _ _ _ _ _ _ ⟨_, _, _, _, _, _, _, _, _, _, _, _, h⟩ => h.elim
section
variable {P : Program} {w : World} {K : PySem.W.Frag} {mg : Str → Option Value} {base : Heap}
def spMade (R : TRows K mg) : Sp := fun vs H Q _ => ∃ (t : Addr) (r : RowD), vs = [.ref t] ∧ SqT K H t (rowTup r) ∧ rowValid r ∧ ∀ a H', Same H H' → RowAt R H' a r → Q (.ref a) H'
theorem lab_of {l : Str} (h : l = "" ∨ nameS l = true) : labD (.str l) = true := by
  rcases h with rfl | h
  · decide +kernel
  · show (PyData.eqv (.str l) (.str "") || nameS l) = true
    rw [h, Bool.or_true]
end
end Pn

namespace Pn
open PySem L2 TL
abbrev sRowOf : Stmt := top 35
section
variable {P : Program} {w : World} {K : PySem.W.Frag} {mg : Str → Option Value} {base : Heap}
theorem scRowOf : FnScope ["_law_row"] ["_law_row"] (defScope sRowOf) := ⟨rfl, rfl, rfl, by decide +kernel, rfl, by decide +kernel, by decide +kernel⟩
theorem ok_rowOf (R : TRows K mg) {f : Addr} {fd : FuncData} (F : Fun K "_law_row_of" "_law_row_of" sRowOf f fd) : FnOk P w K mg base CX0 6 f fd ["_law_row"] (spMade R) := by
  refine F.ok scRowOf (fun vs H Q E h => ?_) (fun cdv A outer s H vs Q E hr h => ?_)
  · obtain ⟨t, r, rfl, _⟩ := h
    rfl
  · obtain ⟨t, r, rfl, ht, hv, q⟩ := h
    refine ⟨_, pss_cons (ps_if (pt_cmpR op_eq (pe_ix ix_tup (pv 0) pe_int (fun _ _ => rfl)) pe_str (nomark _)) (pss_one (ps_ret (pe_make R.note.M (okNoteInit R.note R.N) (hr.mono (by decide)) rfl R.note.m R.note.b .nil passN0 (pa_cons (pe_ix ix_tup (pv 0) pe_int (fun _ _ => rfl)) (pa_cons (pe_ix ix_tup (pv 0) pe_int (fun _ _ => rfl)) pa_nil))))) pss_nil)
      (pss_cons (ps_if (pt_cmpR op_in_seq (pe_ix ix_tup (pv 0) pe_int (fun _ _ => rfl)) (pe_tup (pa_cons pe_str (pa_cons pe_str pa_nil))) rfl) (pss_one (ps_ret (pe_ifExp (pt_cmpR op_eq (pe_ix ix_tup (pv 0) pe_int (fun _ _ => rfl)) pe_str (nomark _)) (pe_make R.skip.M (okSkipInit R.skip R.N) (hr.mono (by decide)) rfl R.skip.m R.skip.b .nil passN0 (pa_cons (pe_ix ix_tup (pv 0) pe_int (fun _ _ => rfl)) (pa_cons (pe_ix ix_tup (pv 0) pe_int (fun _ _ => rfl)) pa_nil))) (pe_make R.set.M (okSetInit R.set R.N) (hr.mono (by decide)) rfl R.set.m R.set.b .nil passN0 (pa_cons (pe_ix ix_tup (pv 0) pe_int (fun _ _ => rfl)) (pa_cons (pe_ix ix_tup (pv 0) pe_int (fun _ _ => rfl)) pa_nil)))))) pss_nil)
      (pss_cons (ps_if (pt_cmpR op_in_seq (pe_ix ix_tup (pv 0) pe_int (fun _ _ => rfl)) (pe_tup (pa_cons pe_str (pa_cons pe_str pa_nil))) rfl) (pss_one (ps_ret (pe_ifExp (pt_cmpR op_eq (pe_ix ix_tup (pv 0) pe_int (fun _ _ => rfl)) pe_str (nomark _)) (pe_make R.keep.M (okKeepInit R.keep R.N) (hr.mono (by decide)) rfl R.keep.m R.keep.b .nil passN0 (pa_cons (pe_ix ix_tup (pv 0) pe_int (fun _ _ => rfl)) pa_nil)) (pe_make R.back.M (okBackInit R.back R.N) (hr.mono (by decide)) rfl R.back.m R.back.b .nil passN0 (pa_cons (pe_ix ix_tup (pv 0) pe_int (fun _ _ => rfl)) pa_nil))))) pss_nil)
      (pss_cons (ps_if (pt_cmpR op_eq (pe_ix ix_tup (pv 0) pe_int (fun _ _ => rfl)) pe_str (nomark _)) (pss_one (ps_ret (pe_make R.ref.M (okRefInit R.ref R.N) (hr.mono (by decide)) rfl R.ref.m R.ref.b .nil passN0 (pa_cons (pe_ix ix_tup (pv 0) pe_int (fun _ _ => rfl)) pa_nil)))) pss_nil)
      (pss_one (ps_ret (pe_ifExp (pt_cmpR op_eq (pe_ix ix_tup (pv 0) pe_int (fun _ _ => rfl)) pe_str (nomark _)) (pe_make R.put.M (okPutInit R.put R.N) (hr.mono (by decide)) rfl R.put.m R.put.b .nil passN0 (pa_cons (pe_ix ix_tup (pv 0) pe_int (fun _ _ => rfl)) pa_nil)) (pe_make R.open_.M (okOpenInit R.open_ R.N) (hr.mono (by decide)) rfl R.open_.m R.open_.b .nil passN0 (pa_cons (pe_ix ix_tup (pv 0) pe_int (fun _ _ => rfl)) pa_nil)))))))), ?_⟩
    have nl : ∀ {z : Str}, nameS z = true → dlen (.str z) := fun h => Nat.le_trans (name_ok h).2 (by show 4 ≤ 900; decide)
    cases r with
    | note c l =>
      refine ⟨_, rfl, t, _, _, _, rfl, rfl, ht, atI_nat (j := 0) rfl, rfl, _, rfl, iteTD (by decide +kernel) ?_⟩
      refine ⟨_, rfl, t, _, _, _, rfl, rfl, ht, atI_nat (j := 1) rfl, _, rfl, t, _, _, _, rfl, rfl, ht, atI_nat (j := 2) rfl, fun x dx hx hdx ne => ?_⟩
      exact ⟨x, dx, .str c, .str l, .str c, .str l, rfl, upd_same, .str c, nl hv.1, .str l, (by rcases hv.2 with rfl | z; exact (by decide +kernel : ("" : Str).length ≤ 900); exact nl z), str_shaped (by rcases hv.2 with rfl | z; decide +kernel; exact (name_ok z).1), fun hn hg H1 kp m hi => ⟨rfl, q x H1 (kpi_same2 hx hdx kp) ⟨dx, hi⟩⟩, fun hn => absurd hv.1 (by rw [show nameS c = false from hn]; decide), fun _ hg => absurd (lab_of hv.2) (by rw [hg]; decide)⟩
    | skip c n =>
      refine ⟨_, rfl, t, _, _, _, rfl, rfl, ht, atI_nat (j := 0) rfl, rfl, _, rfl, iteFD (by decide +kernel) ?_⟩
      refine ⟨_, rfl, t, _, _, _, rfl, rfl, ht, atI_nat (j := 0) rfl, (by show 2 ≤ sizeLine; decide), fun t1 h1 => ?_⟩
      refine ⟨t1, _, rfl, .inr (SqT.of upd_same), rfl, rfl, _, rfl, iteTD (by decide +kernel) ?_⟩
      have s1 := (Same.new (o := .tup [.str "skip", .str "set"]) h1)
      generalize upd _ t1 (.tup [.str "skip", .str "set"]) = H1 at s1 ⊢
      have ht1 := Same.sqt s1 ht
      refine ⟨_, rfl, t, _, _, _, rfl, rfl, ht1, atI_nat (j := 0) rfl, rfl, _, rfl, iteTD (by decide +kernel) ?_⟩
      refine ⟨_, rfl, t, _, _, _, rfl, rfl, ht1, atI_nat (j := 1) rfl, _, rfl, t, _, _, _, rfl, rfl, ht1, atI_nat (j := 2) rfl, fun x dx hx hdx ne => ?_⟩
      exact ⟨x, dx, .str c, .int (n : Int), .str c, .int (n : Int), rfl, upd_same, .str c, nl hv.1, .int _, fun hn hg H1 kp m hi => ⟨rfl, q x H1 (s1.trans (kpi_same2 hx hdx kp)) ⟨dx, hi⟩⟩, fun hn => absurd hv.1 (by rw [show nameS c = false from hn]; decide), fun _ hg => absurd (skip_of (n := n) (by have := hv.2.1; omega)) (by rw [hg]; decide)⟩
    | set c n =>
      refine ⟨_, rfl, t, _, _, _, rfl, rfl, ht, atI_nat (j := 0) rfl, rfl, _, rfl, iteFD (by decide +kernel) ?_⟩
      refine ⟨_, rfl, t, _, _, _, rfl, rfl, ht, atI_nat (j := 0) rfl, (by show 2 ≤ sizeLine; decide), fun t1 h1 => ?_⟩
      refine ⟨t1, _, rfl, .inr (SqT.of upd_same), rfl, rfl, _, rfl, iteTD (by decide +kernel) ?_⟩
      have s1 := (Same.new (o := .tup [.str "skip", .str "set"]) h1)
      generalize upd _ t1 (.tup [.str "skip", .str "set"]) = H1 at s1 ⊢
      have ht1 := Same.sqt s1 ht
      refine ⟨_, rfl, t, _, _, _, rfl, rfl, ht1, atI_nat (j := 0) rfl, rfl, _, rfl, iteFD (by decide +kernel) ?_⟩
      refine ⟨_, rfl, t, _, _, _, rfl, rfl, ht1, atI_nat (j := 1) rfl, _, rfl, t, _, _, _, rfl, rfl, ht1, atI_nat (j := 2) rfl, fun x dx hx hdx ne => ?_⟩
      exact ⟨x, dx, .str c, .int (n : Int), .str c, .int (n : Int), rfl, upd_same, .str c, nl hv.1, .int _, fun hn hg H1 kp m hi => ⟨rfl, q x H1 (s1.trans (kpi_same2 hx hdx kp)) ⟨dx, hi⟩⟩, fun hn => absurd hv.1 (by rw [show nameS c = false from hn]; decide), fun _ hg => absurd (set_of (n := n)) (by rw [hg]; decide)⟩
    | keep c =>
      refine ⟨_, rfl, t, _, _, _, rfl, rfl, ht, atI_nat (j := 0) rfl, rfl, _, rfl, iteFD (by decide +kernel) ?_⟩
      refine ⟨_, rfl, t, _, _, _, rfl, rfl, ht, atI_nat (j := 0) rfl, (by show 2 ≤ sizeLine; decide), fun t1 h1 => ?_⟩
      refine ⟨t1, _, rfl, .inr (SqT.of upd_same), rfl, rfl, _, rfl, iteFD (by decide +kernel) ?_⟩
      have s1 := (Same.new (o := .tup [.str "skip", .str "set"]) h1)
      generalize upd _ t1 (.tup [.str "skip", .str "set"]) = H1 at s1 ⊢
      have ht1 := Same.sqt s1 ht
      refine ⟨_, rfl, t, _, _, _, rfl, rfl, ht1, atI_nat (j := 0) rfl, (by show 2 ≤ sizeLine; decide), fun t2 h2 => ?_⟩
      refine ⟨t2, _, rfl, .inr (SqT.of upd_same), rfl, rfl, _, rfl, iteTD (by decide +kernel) ?_⟩
      have s2 := s1.trans (Same.new (o := .tup [.str "keep", .str "back"]) h2)
      generalize upd _ t2 (.tup [.str "keep", .str "back"]) = H2 at s2 ⊢
      have ht2 := Same.sqt s2 ht
      refine ⟨_, rfl, t, _, _, _, rfl, rfl, ht2, atI_nat (j := 0) rfl, rfl, _, rfl, iteTD (by decide +kernel) ?_⟩
      refine ⟨_, rfl, t, _, _, _, rfl, rfl, ht2, atI_nat (j := 1) rfl, fun x dx hx hdx ne => ?_⟩
      exact ⟨x, dx, .str c, .str c, rfl, upd_same, .str c, nl hv, fun hn H1 kp m hi => ⟨rfl, q x H1 (s2.trans (kpi_same2 hx hdx kp)) ⟨dx, hi⟩⟩, fun hn => absurd (show nameS c = true from hv) (by rw [show nameS c = false from hn]; decide)⟩
    | back c =>
      refine ⟨_, rfl, t, _, _, _, rfl, rfl, ht, atI_nat (j := 0) rfl, rfl, _, rfl, iteFD (by decide +kernel) ?_⟩
      refine ⟨_, rfl, t, _, _, _, rfl, rfl, ht, atI_nat (j := 0) rfl, (by show 2 ≤ sizeLine; decide), fun t1 h1 => ?_⟩
      refine ⟨t1, _, rfl, .inr (SqT.of upd_same), rfl, rfl, _, rfl, iteFD (by decide +kernel) ?_⟩
      have s1 := (Same.new (o := .tup [.str "skip", .str "set"]) h1)
      generalize upd _ t1 (.tup [.str "skip", .str "set"]) = H1 at s1 ⊢
      have ht1 := Same.sqt s1 ht
      refine ⟨_, rfl, t, _, _, _, rfl, rfl, ht1, atI_nat (j := 0) rfl, (by show 2 ≤ sizeLine; decide), fun t2 h2 => ?_⟩
      refine ⟨t2, _, rfl, .inr (SqT.of upd_same), rfl, rfl, _, rfl, iteTD (by decide +kernel) ?_⟩
      have s2 := s1.trans (Same.new (o := .tup [.str "keep", .str "back"]) h2)
      generalize upd _ t2 (.tup [.str "keep", .str "back"]) = H2 at s2 ⊢
      have ht2 := Same.sqt s2 ht
      refine ⟨_, rfl, t, _, _, _, rfl, rfl, ht2, atI_nat (j := 0) rfl, rfl, _, rfl, iteFD (by decide +kernel) ?_⟩
      refine ⟨_, rfl, t, _, _, _, rfl, rfl, ht2, atI_nat (j := 1) rfl, fun x dx hx hdx ne => ?_⟩
      exact ⟨x, dx, .str c, .str c, rfl, upd_same, .str c, nl hv, fun hn H1 kp m hi => ⟨rfl, q x H1 (s2.trans (kpi_same2 hx hdx kp)) ⟨dx, hi⟩⟩, fun hn => absurd (show nameS c = true from hv) (by rw [show nameS c = false from hn]; decide)⟩
    | ref c =>
      refine ⟨_, rfl, t, _, _, _, rfl, rfl, ht, atI_nat (j := 0) rfl, rfl, _, rfl, iteFD (by decide +kernel) ?_⟩
      refine ⟨_, rfl, t, _, _, _, rfl, rfl, ht, atI_nat (j := 0) rfl, (by show 2 ≤ sizeLine; decide), fun t1 h1 => ?_⟩
      refine ⟨t1, _, rfl, .inr (SqT.of upd_same), rfl, rfl, _, rfl, iteFD (by decide +kernel) ?_⟩
      have s1 := (Same.new (o := .tup [.str "skip", .str "set"]) h1)
      generalize upd _ t1 (.tup [.str "skip", .str "set"]) = H1 at s1 ⊢
      have ht1 := Same.sqt s1 ht
      refine ⟨_, rfl, t, _, _, _, rfl, rfl, ht1, atI_nat (j := 0) rfl, (by show 2 ≤ sizeLine; decide), fun t2 h2 => ?_⟩
      refine ⟨t2, _, rfl, .inr (SqT.of upd_same), rfl, rfl, _, rfl, iteFD (by decide +kernel) ?_⟩
      have s2 := s1.trans (Same.new (o := .tup [.str "keep", .str "back"]) h2)
      generalize upd _ t2 (.tup [.str "keep", .str "back"]) = H2 at s2 ⊢
      have ht2 := Same.sqt s2 ht
      refine ⟨_, rfl, t, _, _, _, rfl, rfl, ht2, atI_nat (j := 0) rfl, rfl, _, rfl, iteTD (by decide +kernel) ?_⟩
      refine ⟨_, rfl, t, _, _, _, rfl, rfl, ht2, atI_nat (j := 1) rfl, fun x dx hx hdx ne => ?_⟩
      exact ⟨x, dx, .str c, .str c, rfl, upd_same, .str c, nl hv, fun hn H1 kp m hi => ⟨rfl, q x H1 (s2.trans (kpi_same2 hx hdx kp)) ⟨dx, hi⟩⟩, fun hn => absurd (show nameS c = true from hv) (by rw [show nameS c = false from hn]; decide)⟩
    | put c =>
      refine ⟨_, rfl, t, _, _, _, rfl, rfl, ht, atI_nat (j := 0) rfl, rfl, _, rfl, iteFD (by decide +kernel) ?_⟩
      refine ⟨_, rfl, t, _, _, _, rfl, rfl, ht, atI_nat (j := 0) rfl, (by show 2 ≤ sizeLine; decide), fun t1 h1 => ?_⟩
      refine ⟨t1, _, rfl, .inr (SqT.of upd_same), rfl, rfl, _, rfl, iteFD (by decide +kernel) ?_⟩
      have s1 := (Same.new (o := .tup [.str "skip", .str "set"]) h1)
      generalize upd _ t1 (.tup [.str "skip", .str "set"]) = H1 at s1 ⊢
      have ht1 := Same.sqt s1 ht
      refine ⟨_, rfl, t, _, _, _, rfl, rfl, ht1, atI_nat (j := 0) rfl, (by show 2 ≤ sizeLine; decide), fun t2 h2 => ?_⟩
      refine ⟨t2, _, rfl, .inr (SqT.of upd_same), rfl, rfl, _, rfl, iteFD (by decide +kernel) ?_⟩
      have s2 := s1.trans (Same.new (o := .tup [.str "keep", .str "back"]) h2)
      generalize upd _ t2 (.tup [.str "keep", .str "back"]) = H2 at s2 ⊢
      have ht2 := Same.sqt s2 ht
      refine ⟨_, rfl, t, _, _, _, rfl, rfl, ht2, atI_nat (j := 0) rfl, rfl, _, rfl, iteFD (by decide +kernel) ?_⟩
      refine ⟨_, rfl, t, _, _, _, rfl, rfl, ht2, atI_nat (j := 0) rfl, rfl, _, rfl, iteTD (by decide +kernel) ?_⟩
      refine ⟨_, rfl, t, _, _, _, rfl, rfl, ht2, atI_nat (j := 1) rfl, fun x dx hx hdx ne => ?_⟩
      exact ⟨x, dx, .str c, .str c, rfl, upd_same, .str c, nl hv, fun hn H1 kp m hi => ⟨rfl, q x H1 (s2.trans (kpi_same2 hx hdx kp)) ⟨dx, hi⟩⟩, fun hn => absurd (show nameS c = true from hv) (by rw [show nameS c = false from hn]; decide)⟩
    | opn c =>
      refine ⟨_, rfl, t, _, _, _, rfl, rfl, ht, atI_nat (j := 0) rfl, rfl, _, rfl, iteFD (by decide +kernel) ?_⟩
      refine ⟨_, rfl, t, _, _, _, rfl, rfl, ht, atI_nat (j := 0) rfl, (by show 2 ≤ sizeLine; decide), fun t1 h1 => ?_⟩
      refine ⟨t1, _, rfl, .inr (SqT.of upd_same), rfl, rfl, _, rfl, iteFD (by decide +kernel) ?_⟩
      have s1 := (Same.new (o := .tup [.str "skip", .str "set"]) h1)
      generalize upd _ t1 (.tup [.str "skip", .str "set"]) = H1 at s1 ⊢
      have ht1 := Same.sqt s1 ht
      refine ⟨_, rfl, t, _, _, _, rfl, rfl, ht1, atI_nat (j := 0) rfl, (by show 2 ≤ sizeLine; decide), fun t2 h2 => ?_⟩
      refine ⟨t2, _, rfl, .inr (SqT.of upd_same), rfl, rfl, _, rfl, iteFD (by decide +kernel) ?_⟩
      have s2 := s1.trans (Same.new (o := .tup [.str "keep", .str "back"]) h2)
      generalize upd _ t2 (.tup [.str "keep", .str "back"]) = H2 at s2 ⊢
      have ht2 := Same.sqt s2 ht
      refine ⟨_, rfl, t, _, _, _, rfl, rfl, ht2, atI_nat (j := 0) rfl, rfl, _, rfl, iteFD (by decide +kernel) ?_⟩
      refine ⟨_, rfl, t, _, _, _, rfl, rfl, ht2, atI_nat (j := 0) rfl, rfl, _, rfl, iteFD (by decide +kernel) ?_⟩
      refine ⟨_, rfl, t, _, _, _, rfl, rfl, ht2, atI_nat (j := 1) rfl, fun x dx hx hdx ne => ?_⟩
      exact ⟨x, dx, .str c, .str c, rfl, upd_same, .str c, nl hv, fun hn H1 kp m hi => ⟨rfl, q x H1 (s2.trans (kpi_same2 hx hdx kp)) ⟨dx, hi⟩⟩, fun hn => absurd (show nameS c = true from hv) (by rw [show nameS c = false from hn]; decide)⟩
end
end Pn

namespace Pn
open PySem L2
/-! ### == of an own instance whose class has an __eq__ of its own -/
section
variable {X : Cx} {CX : CXT} {k : Nat} {f C : Addr} {fd : FuncData} {ps : List Str} {sp : Sp} {E : XK}
/-- what stands to the right: a text, or an instance whose class is not first asked -/
def Right (K : PySem.W.Frag) (C : Addr) (H : Hp) (y : V) : Prop := (∃ z : Str, y = .str z ∧ PySem.W.notFirst K C (.type "str") = true) ∨ ∃ (b D dy : Addr) (gs : List (Str × V)), y = .ref b ∧ H b = some (.ins D dy gs) ∧ PySem.W.notFirst K C (.ref D) = true
def rOpIns (K : PySem.W.Frag) (nm : Str) (f : Addr) (sp : Sp) (E : XK) : R2 := fun x y H Q => ∃ (a C dx : Addr) (fs : List (Str × V)), x = .ref a ∧ H a = some (.ins C dx fs) ∧ PySem.W.findIn K (.ref C) nm = some (some (.ref f)) ∧ Right K C H y ∧ sp [x, y] H Q E
theorem op_eqIns (F : FnOk X.prog X.w X.K X.mg X.base CX k f fd ps sp) (hf : PySem.W.isFn X.K (.ref f) = true) (hr : Room k X.A) (hb : Binds X.K fd ps []) (hx : Passes CX X E) : OpR X (compareOp .Eq) (rOpIns X.K "__eq__" f sp E) := by
  intro pins s σ H x y v u Q I rx ry h
  obtain ⟨a, C, dx, fs, rfl, ha, hs, hy, q⟩ := h
  cases rx
  obtain ⟨mA, O, _⟩ := ins_get I.hok ha
  obtain ⟨od, J, _⟩ := O.look
  obtain ⟨m, hF⟩ := I.fr
  show wpAny (model X.prog X.w) X.A (richCompare .Eq (.ref a) u) (EP X pins σ Q) X.xe s
  have go : ∀ tb, PySem.W.Looks (model X.prog X.w) s.heap (typeOf u) tb → PySem.W.notFirst X.K C tb = true → wpAny (model X.prog X.w) X.A (richCompare .Eq (.ref a) u) (EP X pins σ Q) X.xe s := fun tb hl hn => by
    refine PySem.W.cmp_K (op := .Eq) (tb := tb) hr.units0 hF I.ok.mod.kin J hl hn hs hf ?_
    refine wpAny_mono (run_fnA F hr I.env0 hb hx I (.cons (show RelV (.ref a) (Value.ref a) from rfl) (.cons ry .nil)) q) (fun w s' z => ?_) fun _ _ x => x
    obtain ⟨z', H', I', rz, qz⟩ := z
    exact SlX.cmpback rz ⟨z', H', I', rz, qz⟩
  rcases hy with ⟨z, rfl, hn⟩ | ⟨b, D, dy, gs, rfl, hb2, hn⟩
  · obtain ⟨t, rfl⟩ := ry
    exact go _ (PySem.W.Looks.of_pure rfl) hn
  · cases ry
    obtain ⟨mB, O2, _⟩ := ins_get I.hok hb2
    obtain ⟨od2, J2, _⟩ := O2.look
    exact go _ J2.type hn
end
end Pn
namespace Pn
open PySem PySem.W PyProof.Rows
section
variable {prog : Program} {w : World} {A : Around} {E : Value → Shared → Prop} {s : Shared} {K : Frag} {x C L f : Addr} {h₀ : Heap} {m : Str → Option Value} {ox : Obj} {od : Option Obj} {b tb : Value}
/-- object.__ne__ asks __eq__ and turns its answer round -/
theorem obj_ne {Q : Fin → Shared → Prop} (hu : A.units < cLine) (X : K.In s.heap) (I : InstAt s.heap x ox C od) (hs : findIn K (.ref C) "__eq__" = some (some (.ref f))) (hf : isFn K (.ref f) = true)
    (h : wpAny (model prog w) A (call (.ref f) [.ref x, b]) (fun v s' => ∃ c, v = .bool c ∧ Q (.done (.ret (.bool (!c)))) s') E s) : wpAny (model prog w) A (Builtin.«object.__ne__» ⟨[.ref x, b], []⟩) Q E s := by
  unfold Builtin.«object.__ne__»
  repeat (first
    | with_reducible refine wpAny_cRoomFor hu ?_
    | (refine wpAny_bind (m := callSpecialIfBound? (.ref x) (Str.ofString "__eq__") [b])
        (ifBound_K X I hs hf (wpAny_mono h (fun v s' hv => by
          obtain ⟨c, rfl, hq⟩ := hv
          repeat (first | exact hq | exact wpAny_pure hq | exact wpAny_truthy_bool hq | (refine wpAny_bind (m := truthy (.bool _)) (wpAny_truthy_bool ?_)) | wp_step)) fun _ _ e => e)))
    | wp_step)
theorem rich_ne {Q : Value → Shared → Prop} (hu : A.units + 1 < cLine) (F : Fr h₀ L s.heap m) (X₀ : K.In h₀) (I : InstAt s.heap x ox C od) (hb : Looks (model prog w) s.heap (typeOf b) tb) (hn : notFirst K C tb = true)
    (hne : findIn K (.ref C) "__ne__" = some (some (.builtin "object.__ne__"))) (ho : mroIn K C (.type "object") = some true) (hs : findIn K (.ref C) "__eq__" = some (some (.ref f))) (hf : isFn K (.ref f) = true)
    (h : wpAny (model prog w) A.in1 (call (.ref f) [.ref x, b]) (fun v s' => ∃ c, v = .bool c ∧ Q (.bool (!c)) s') E s) : wpAny (model prog w) A (richCompare .NotEq (.ref x) b) Q E s := by
  have X := X₀.keeps F.keep
  have one : wpAny (model prog w) A (tryCompare (.ref x) (cmpInfo .NotEq).2.1 b) (fun r s' => ∃ v, r = some v ∧ Q v s') E s := by
    unfold tryCompare
    refine wpAny_bind (NtL.csib (I.type.andThen (looks_findIn X hne)) (PySem.F.slot_object_ne.bind _) (wpAny_call (codeAny_call_builtin PySem.F.slot_object_ne.plain PySem.F.entry_object_ne
      (check_slot (i := "object.__ne__") (owner := "object") (n := "__ne__") (by decide +kernel) (by decide +kernel) (I.type.andThen (looks_mroIn X ho)) (PySem.F.args_object_ne_2 _ _)
        (obj_ne (A := A.in1) hu X I hs hf (wpAny_mono h (fun v s' hv => ?_) fun _ _ e => e))))))
    obtain ⟨c, rfl, hq⟩ := hv
    first | exact ⟨c, rfl, wpAny_pure ⟨_, rfl, hq⟩⟩ | exact ⟨c, rfl, _, rfl, hq⟩ | exact ⟨c, rfl, wpAny_pure (wpAny_pure ⟨_, rfl, hq⟩)⟩
  unfold richCompare
  simp only [oneThing_ref]
  refine wpAny_holding (wpAny_bind (wpAny_cRoomFor (Nat.lt_of_succ_lt hu) ?_))
  refine wpAny_bind (I.type.here (wpAny_bind (hb.here ?_)))
  have last : ∀ {t : Option Value → Sem Value}, (∀ v, t (some v) = pure v) → wpAny (model prog w) A (tryCompare (.ref x) (cmpInfo .NotEq).2.1 b >>= t) Q E s := fun ht => wpAny_bind (wpAny_mono one (fun r s' ⟨v, hr, hq⟩ => by
    subst hr
    rw [ht]
    exact wpAny_pure hq) fun _ _ e => e)
  by_cases hq : tb = .ref C
  · subst hq
    rw [if_neg (by simp)]
    exact wpAny_bind (wpAny_pure (by simp only [Bool.false_eq_true, if_false]; exact last fun v => rfl))
  · have e : subIn K tb (.ref C) = some false := (Bool.or_eq_true_iff.mp hn).elim (fun e => absurd (beq_iff_eq.mp e) hq) beq_iff_eq.mp
    rw [if_pos (by simpa using fun z => hq z.symm)]
    exact wpAny_bind ((looks_subIn X e).here (by simp only [Bool.false_eq_true, if_false]; exact last fun v => rfl))
end
end Pn
namespace Pn
open PySem L2
section
variable {X : Cx} {CX : CXT} {k : Nat} {f C : Addr} {fd : FuncData} {ps : List Str} {sp : Sp} {E : XK}
/-- != of an own instance with an __eq__ of its own and object's __ne__ -/
def rNeIns (K : PySem.W.Frag) (f : Addr) (sp : Sp) (E : XK) : R2 := fun x y H Q => ∃ (a C dx : Addr) (fs : List (Str × V)), x = .ref a ∧ H a = some (.ins C dx fs) ∧ PySem.W.findIn K (.ref C) "__eq__" = some (some (.ref f)) ∧
  PySem.W.findIn K (.ref C) "__ne__" = some (some (.builtin "object.__ne__")) ∧ PySem.W.mroIn K C (.type "object") = some true ∧ Right K C H y ∧ sp [x, y] H (fun v H' => ∃ c, v = .bl c ∧ Q (.bl (!c)) H') E
theorem op_neIns (F : FnOk X.prog X.w X.K X.mg X.base CX k f fd ps sp) (hf : PySem.W.isFn X.K (.ref f) = true) (hr : Room (k + 1) X.A) (hb : Binds X.K fd ps []) (hx : Passes CX X E) : OpR X (compareOp .NotEq) (rNeIns X.K f sp E) := by
  intro pins s σ H x y v u Q I rx ry h
  obtain ⟨a, C, dx, fs, rfl, ha, hs, hne, ho, hy, q⟩ := h
  cases rx
  obtain ⟨mA, O, _⟩ := ins_get I.hok ha
  obtain ⟨od, J, _⟩ := O.look
  obtain ⟨m, hF⟩ := I.fr
  show wpAny (model X.prog X.w) X.A (richCompare .NotEq (.ref a) u) (EP X pins σ Q) X.xe s
  have hr1 : Room k X.A.in1 := Room.in1 hr
  have go : ∀ tb, PySem.W.Looks (model X.prog X.w) s.heap (typeOf u) tb → PySem.W.notFirst X.K C tb = true → wpAny (model X.prog X.w) X.A (richCompare .NotEq (.ref a) u) (EP X pins σ Q) X.xe s := fun tb hl hn => by
    refine rich_ne (hu_of hr) hF I.ok.mod.kin J hl hn hne ho hs hf ?_
    refine wpAny_mono (run_fnA F hr1 I.env0.in1 hb hx I (.cons (show RelV (.ref a) (Value.ref a) from rfl) (.cons ry .nil)) q) (fun w s' z => ?_) fun _ _ x => x
    obtain ⟨z', H', I', rz, c, ez, qz⟩ := z
    subst ez
    cases (show w = Value.bool c from rz)
    exact ⟨c, rfl, .bl (!c), H', I', rfl, qz⟩
  rcases hy with ⟨z, rfl, hn⟩ | ⟨b, D, dy, gs, rfl, hb2, hn⟩
  · obtain ⟨t, rfl⟩ := ry
    exact go _ (PySem.W.Looks.of_pure rfl) hn
  · cases ry
    obtain ⟨mB, O2, _⟩ := ins_get I.hok hb2
    obtain ⟨od2, J2, _⟩ := O2.look
    exact go _ J2.type hn
end
end Pn

namespace Pn
open PySem L2 TL
abbrev sSameRow : Stmt := top 14
abbrev sNoteEq : Stmt := inClass (top 16) 2
abbrev sSkipEq : Stmt := inClass (top 17) 2
abbrev sSetEq : Stmt := inClass (top 18) 2
abbrev sKeepEq : Stmt := inClass (top 19) 2
abbrev sBackEq : Stmt := inClass (top 20) 2
abbrev sRefEq : Stmt := inClass (top 21) 2
abbrev sPutEq : Stmt := inClass (top 22) 2
abbrev sOpenEq : Stmt := inClass (top 23) 2
section
variable {P : Program} {w : World} {K : PySem.W.Frag} {mg : Str → Option Value} {base : Heap}
/-- an __eq__ of an own class -/
structure TEq (K : PySem.W.Frag) (C : Addr) (qual : Str) (st : Stmt) : Type where
  f : Addr
  fd : FuncData
  F : Fun K "__eq__" qual st f fd
  b : Binds K fd ["self", "other"] []
  hs : PySem.W.findIn K (.ref C) "__eq__" = some (some (.ref f))
  hf : PySem.W.isFn K (.ref f) = true
def clsOf (T : TRows K mg) : RowD → Addr
  | .note _ _ => T.note.C
  | .skip _ _ => T.skip.C
  | .set _ _ => T.set.C
  | .keep _ => T.keep.C
  | .back _ => T.back.C
  | .ref _ => T.ref.C
  | .put _ => T.put.C
  | .opn _ => T.open_.C
theorem insRow_ins (T : TRows K mg) (dx : Addr) (r : RowD) : ∃ fs, insRow T dx r = .ins (clsOf T r) dx fs := by cases r <;> exact ⟨_, rfl⟩
theorem cls_of (T : TRows K mg) (r : RowD) : Cls K (clsOf T r) := by
  cases r with
  | note _ _ => exact T.note.cl
  | skip _ _ => exact T.skip.cl
  | set _ _ => exact T.set.cl
  | keep _ => exact T.keep.cl
  | back _ => exact T.back.cl
  | ref _ => exact T.ref.cl
  | put _ => exact T.put.cl
  | opn _ => exact T.open_.cl
structure TSame {K : PySem.W.Frag} {mg : Str → Option Value} (T : TRows K mg) : Type where
  S : TStrs T
  CR : Addr
  mR : mg "Row" = some (.ref CR)
  kS : PySem.W.kitOne K (.type "str") (.ref CR) = some false
  kR : ∀ r, PySem.W.kitOne K (.ref (clsOf T r)) (.ref CR) = some true
  nS : ∀ r, PySem.W.notFirst K (clsOf T r) (.type "str") = true
  nR : ∀ r r', PySem.W.notFirst K (clsOf T r) (.ref (clsOf T r')) = true
  cA : ∀ r, PySem.W.findIn K (.ref (clsOf T r)) "__class__" = some (some (.builtin "object.__class__"))
  cN : PySem.W.specialIn K (.builtin "object.__class__") "__get__" = some (some (.builtin "getset_descriptor.__get__"))
  cT : PySem.W.takesIn K (.builtin "object.__class__") = some true
  cM : ∀ r, PySem.W.mroIn K (clsOf T r) (.type "object") = some true
  ne : ∀ r, PySem.W.findIn K (.ref (clsOf T r)) "__ne__" = some (some (.builtin "object.__ne__"))
  mStr : mg "str" = none
  same : At K mg "same_row" sSameRow ["row", "other"]
  note : TEq K T.note.C "Note.__eq__" sNoteEq
  skip : TEq K T.skip.C "Skip.__eq__" sSkipEq
  set : TEq K T.set.C "Set.__eq__" sSetEq
  keep : TEq K T.keep.C "Keep.__eq__" sKeepEq
  back : TEq K T.back.C "Back.__eq__" sBackEq
  ref : TEq K T.ref.C "Ref.__eq__" sRefEq
  put : TEq K T.put.C "Put.__eq__" sPutEq
  open_ : TEq K T.open_.C "Open.__eq__" sOpenEq
/-- a row beside a text or a row -/
def spSame (T : TRows K mg) : Sp := fun vs H Q _ => ∃ (a : Addr) (y : V) (r : RowD), vs = [.ref a, y] ∧ RowAt T H a r ∧ rowSmall r ∧ ((∃ z, y = .str z ∧ Q (.bl false) H) ∨ ∃ (b : Addr) (r' : RowD), y = .ref b ∧ RowAt T H b r' ∧ rowSmall r' ∧ Q (.bl (decide (rowText r = rowText r'))) H)
theorem scSameRow : FnScope ["row", "other"] ["row", "other"] (defScope sSameRow) := ⟨rfl, rfl, rfl, by decide +kernel, rfl, by decide +kernel, by decide +kernel⟩
theorem ok_same {T : TRows K mg} (S : TSame T) : FnOk P w K mg base CX0 4 S.same.f S.same.fd ["row", "other"] (spSame T) := by
  refine S.same.F.ok scSameRow (fun vs H Q E h => ?_) (fun cdv A outer s H vs Q E hr h => ?_)
  · obtain ⟨a, y, r, rfl, _⟩ := h
    rfl
  · obtain ⟨a, y, r, rfl, ha, hs, q⟩ := h
    refine ⟨_, pss_one (ps_ret (pe_and (pe_callB call_isi (by rfl) T.N.mIsi (by decide +kernel) (pa_cons (pv 1) (pa_cons (pe_glob (v := .ref S.CR) (by rfl) S.mR rfl) pa_nil))) (pe_one (pe_cmpR op_eq (pe_callTy (call_strRowK (K := K) (mg := mg) rfl rfl T S.S hr) (by rfl) S.mStr (by decide +kernel) (pa_cons (pv 0) pa_nil)) (pe_callTy (call_strRowK (K := K) (mg := mg) rfl rfl T S.S hr) (by rfl) S.mStr (by decide +kernel) (pa_cons (pv 1) pa_nil)) (nomark _))))), ?_⟩
    rcases q with ⟨z, rfl, q⟩ | ⟨b, r', rfl, hb, hs', q⟩
    · refine ⟨_, rfl, .str z, .ref S.CR, _, _, false, rfl, .own _, .base (.str z), S.kS, _, rfl, iteF ?_⟩
      exact q
    · obtain ⟨dy, hb2⟩ := id hb
      obtain ⟨gs, eg⟩ := insRow_ins T dy r'
      rw [eg] at hb2
      refine ⟨_, rfl, .ref b, .ref S.CR, _, _, true, rfl, .own _, .base (.ins hb2 (cls_of T r') (S.cA r') S.cN S.cT (S.cM r')), S.kR r', _, rfl, iteT ?_⟩
      refine ⟨_, rfl, a, r, rfl, ha, hs, _, rfl, b, r', rfl, hb, hs', rfl, ?_⟩
      have e : decide (V.str (rowText r) = V.str (rowText r')) = decide (rowText r = rowText r') := by
        by_cases h : rowText r = rowText r'
        · rw [h, decide_eq_true rfl, decide_eq_true rfl]
        · rw [decide_eq_false h, decide_eq_false (fun z => h (V.str.inj z))]
      rw [e]
      exact q
theorem scNoteEq : FnScope ["self", "other"] ["self", "other"] (defScope sNoteEq) := ⟨rfl, rfl, rfl, by decide +kernel, rfl, by decide +kernel, by decide +kernel⟩
theorem ok_NoteEq {T : TRows K mg} (S : TSame T) : FnOk P w K mg base CX0 5 S.note.f S.note.fd ["self", "other"] (spSame T) := by
  refine S.note.F.ok scNoteEq (fun vs H Q E h => ?_) (fun cdv A outer s H vs Q E hr h => ?_)
  · obtain ⟨a, y, r, rfl, _⟩ := h
    rfl
  · obtain ⟨a, y, r, rfl, ha, hs, q⟩ := h
    refine ⟨_, pss_one (ps_ret (pe_call (ok_same S) hr rfl S.same.m S.same.F.kp S.same.b .nil pass0 (pa_cons (pv 0) (pa_cons (pv 1) pa_nil)))), ?_⟩
    exact ⟨_, rfl, _, rfl, a, y, r, rfl, ha, hs, q⟩
theorem scSkipEq : FnScope ["self", "other"] ["self", "other"] (defScope sSkipEq) := ⟨rfl, rfl, rfl, by decide +kernel, rfl, by decide +kernel, by decide +kernel⟩
theorem ok_SkipEq {T : TRows K mg} (S : TSame T) : FnOk P w K mg base CX0 5 S.skip.f S.skip.fd ["self", "other"] (spSame T) := by
  refine S.skip.F.ok scSkipEq (fun vs H Q E h => ?_) (fun cdv A outer s H vs Q E hr h => ?_)
  · obtain ⟨a, y, r, rfl, _⟩ := h
    rfl
  · obtain ⟨a, y, r, rfl, ha, hs, q⟩ := h
    refine ⟨_, pss_one (ps_ret (pe_call (ok_same S) hr rfl S.same.m S.same.F.kp S.same.b .nil pass0 (pa_cons (pv 0) (pa_cons (pv 1) pa_nil)))), ?_⟩
    exact ⟨_, rfl, _, rfl, a, y, r, rfl, ha, hs, q⟩
theorem scSetEq : FnScope ["self", "other"] ["self", "other"] (defScope sSetEq) := ⟨rfl, rfl, rfl, by decide +kernel, rfl, by decide +kernel, by decide +kernel⟩
theorem ok_SetEq {T : TRows K mg} (S : TSame T) : FnOk P w K mg base CX0 5 S.set.f S.set.fd ["self", "other"] (spSame T) := by
  refine S.set.F.ok scSetEq (fun vs H Q E h => ?_) (fun cdv A outer s H vs Q E hr h => ?_)
  · obtain ⟨a, y, r, rfl, _⟩ := h
    rfl
  · obtain ⟨a, y, r, rfl, ha, hs, q⟩ := h
    refine ⟨_, pss_one (ps_ret (pe_call (ok_same S) hr rfl S.same.m S.same.F.kp S.same.b .nil pass0 (pa_cons (pv 0) (pa_cons (pv 1) pa_nil)))), ?_⟩
    exact ⟨_, rfl, _, rfl, a, y, r, rfl, ha, hs, q⟩
theorem scKeepEq : FnScope ["self", "other"] ["self", "other"] (defScope sKeepEq) := ⟨rfl, rfl, rfl, by decide +kernel, rfl, by decide +kernel, by decide +kernel⟩
theorem ok_KeepEq {T : TRows K mg} (S : TSame T) : FnOk P w K mg base CX0 5 S.keep.f S.keep.fd ["self", "other"] (spSame T) := by
  refine S.keep.F.ok scKeepEq (fun vs H Q E h => ?_) (fun cdv A outer s H vs Q E hr h => ?_)
  · obtain ⟨a, y, r, rfl, _⟩ := h
    rfl
  · obtain ⟨a, y, r, rfl, ha, hs, q⟩ := h
    refine ⟨_, pss_one (ps_ret (pe_call (ok_same S) hr rfl S.same.m S.same.F.kp S.same.b .nil pass0 (pa_cons (pv 0) (pa_cons (pv 1) pa_nil)))), ?_⟩
    exact ⟨_, rfl, _, rfl, a, y, r, rfl, ha, hs, q⟩
theorem scBackEq : FnScope ["self", "other"] ["self", "other"] (defScope sBackEq) := ⟨rfl, rfl, rfl, by decide +kernel, rfl, by decide +kernel, by decide +kernel⟩
theorem ok_BackEq {T : TRows K mg} (S : TSame T) : FnOk P w K mg base CX0 5 S.back.f S.back.fd ["self", "other"] (spSame T) := by
  refine S.back.F.ok scBackEq (fun vs H Q E h => ?_) (fun cdv A outer s H vs Q E hr h => ?_)
  · obtain ⟨a, y, r, rfl, _⟩ := h
    rfl
  · obtain ⟨a, y, r, rfl, ha, hs, q⟩ := h
    refine ⟨_, pss_one (ps_ret (pe_call (ok_same S) hr rfl S.same.m S.same.F.kp S.same.b .nil pass0 (pa_cons (pv 0) (pa_cons (pv 1) pa_nil)))), ?_⟩
    exact ⟨_, rfl, _, rfl, a, y, r, rfl, ha, hs, q⟩
theorem scRefEq : FnScope ["self", "other"] ["self", "other"] (defScope sRefEq) := ⟨rfl, rfl, rfl, by decide +kernel, rfl, by decide +kernel, by decide +kernel⟩
theorem ok_RefEq {T : TRows K mg} (S : TSame T) : FnOk P w K mg base CX0 5 S.ref.f S.ref.fd ["self", "other"] (spSame T) := by
  refine S.ref.F.ok scRefEq (fun vs H Q E h => ?_) (fun cdv A outer s H vs Q E hr h => ?_)
  · obtain ⟨a, y, r, rfl, _⟩ := h
    rfl
  · obtain ⟨a, y, r, rfl, ha, hs, q⟩ := h
    refine ⟨_, pss_one (ps_ret (pe_call (ok_same S) hr rfl S.same.m S.same.F.kp S.same.b .nil pass0 (pa_cons (pv 0) (pa_cons (pv 1) pa_nil)))), ?_⟩
    exact ⟨_, rfl, _, rfl, a, y, r, rfl, ha, hs, q⟩
theorem scPutEq : FnScope ["self", "other"] ["self", "other"] (defScope sPutEq) := ⟨rfl, rfl, rfl, by decide +kernel, rfl, by decide +kernel, by decide +kernel⟩
theorem ok_PutEq {T : TRows K mg} (S : TSame T) : FnOk P w K mg base CX0 5 S.put.f S.put.fd ["self", "other"] (spSame T) := by
  refine S.put.F.ok scPutEq (fun vs H Q E h => ?_) (fun cdv A outer s H vs Q E hr h => ?_)
  · obtain ⟨a, y, r, rfl, _⟩ := h
    rfl
  · obtain ⟨a, y, r, rfl, ha, hs, q⟩ := h
    refine ⟨_, pss_one (ps_ret (pe_call (ok_same S) hr rfl S.same.m S.same.F.kp S.same.b .nil pass0 (pa_cons (pv 0) (pa_cons (pv 1) pa_nil)))), ?_⟩
    exact ⟨_, rfl, _, rfl, a, y, r, rfl, ha, hs, q⟩
theorem scOpenEq : FnScope ["self", "other"] ["self", "other"] (defScope sOpenEq) := ⟨rfl, rfl, rfl, by decide +kernel, rfl, by decide +kernel, by decide +kernel⟩
theorem ok_OpenEq {T : TRows K mg} (S : TSame T) : FnOk P w K mg base CX0 5 S.open_.f S.open_.fd ["self", "other"] (spSame T) := by
  refine S.open_.F.ok scOpenEq (fun vs H Q E h => ?_) (fun cdv A outer s H vs Q E hr h => ?_)
  · obtain ⟨a, y, r, rfl, _⟩ := h
    rfl
  · obtain ⟨a, y, r, rfl, ha, hs, q⟩ := h
    refine ⟨_, pss_one (ps_ret (pe_call (ok_same S) hr rfl S.same.m S.same.F.kp S.same.b .nil pass0 (pa_cons (pv 0) (pa_cons (pv 1) pa_nil)))), ?_⟩
    exact ⟨_, rfl, _, rfl, a, y, r, rfl, ha, hs, q⟩
/-- == of a row with a text or a row -/
def rEqRow (T : TRows K mg) : R2 := fun x y H Q => ∃ (a : Addr) (r : RowD), x = .ref a ∧ RowAt T H a r ∧ rowSmall r ∧ ((∃ z, y = .str z ∧ Q (.bl false) H) ∨ ∃ (b : Addr) (r' : RowD), y = .ref b ∧ RowAt T H b r' ∧ rowSmall r' ∧ Q (.bl (decide (rowText r = rowText r'))) H)
theorem op_eqRow {X : Cx} {T : TRows X.K X.mg} (S : TSame T) (hr : Room 5 X.A) : OpR X (compareOp .Eq) (rEqRow T) := by
  intro pins s σ H x y v u Q I rx ry h
  obtain ⟨a, r, rfl, ha, hs, q⟩ := h
  obtain ⟨dx, ha2⟩ := id ha
  have hright : Right X.K (clsOf T r) H y := by
    rcases q with ⟨z, rfl, _⟩ | ⟨b, r', rfl, ⟨dy, hb⟩, _⟩
    · exact .inl ⟨z, rfl, S.nS r⟩
    · obtain ⟨gs, eg⟩ := insRow_ins T dy r'
      rw [eg] at hb
      exact .inr ⟨b, _, dy, gs, rfl, hb, S.nR r r'⟩
  have hsp : spSame T [.ref a, y] H Q E0 := ⟨a, y, r, rfl, ha, hs, q⟩
  cases r with
  | note c n => exact op_eqIns (ok_NoteEq S) S.note.hf hr S.note.b pass0 pins s σ H (.ref a) y v u Q I rx ry ⟨a, _, dx, _, rfl, ha2, S.note.hs, hright, hsp⟩
  | skip c n => exact op_eqIns (ok_SkipEq S) S.skip.hf hr S.skip.b pass0 pins s σ H (.ref a) y v u Q I rx ry ⟨a, _, dx, _, rfl, ha2, S.skip.hs, hright, hsp⟩
  | set c n => exact op_eqIns (ok_SetEq S) S.set.hf hr S.set.b pass0 pins s σ H (.ref a) y v u Q I rx ry ⟨a, _, dx, _, rfl, ha2, S.set.hs, hright, hsp⟩
  | keep c => exact op_eqIns (ok_KeepEq S) S.keep.hf hr S.keep.b pass0 pins s σ H (.ref a) y v u Q I rx ry ⟨a, _, dx, _, rfl, ha2, S.keep.hs, hright, hsp⟩
  | back c => exact op_eqIns (ok_BackEq S) S.back.hf hr S.back.b pass0 pins s σ H (.ref a) y v u Q I rx ry ⟨a, _, dx, _, rfl, ha2, S.back.hs, hright, hsp⟩
  | ref c => exact op_eqIns (ok_RefEq S) S.ref.hf hr S.ref.b pass0 pins s σ H (.ref a) y v u Q I rx ry ⟨a, _, dx, _, rfl, ha2, S.ref.hs, hright, hsp⟩
  | put c => exact op_eqIns (ok_PutEq S) S.put.hf hr S.put.b pass0 pins s σ H (.ref a) y v u Q I rx ry ⟨a, _, dx, _, rfl, ha2, S.put.hs, hright, hsp⟩
  | opn c => exact op_eqIns (ok_OpenEq S) S.open_.hf hr S.open_.b pass0 pins s σ H (.ref a) y v u Q I rx ry ⟨a, _, dx, _, rfl, ha2, S.open_.hs, hright, hsp⟩
/-- != of a row with a text or a row -/
def rNeRow (T : TRows K mg) : R2 := fun x y H Q => ∃ (a : Addr) (r : RowD), x = .ref a ∧ RowAt T H a r ∧ rowSmall r ∧ ((∃ z, y = .str z ∧ Q (.bl true) H) ∨ ∃ (b : Addr) (r' : RowD), y = .ref b ∧ RowAt T H b r' ∧ rowSmall r' ∧ Q (.bl (!decide (rowText r = rowText r'))) H)
theorem op_neRow {X : Cx} {T : TRows X.K X.mg} (S : TSame T) (hr : Room 6 X.A) : OpR X (compareOp .NotEq) (rNeRow T) := by
  intro pins s σ H x y v u Q I rx ry h
  obtain ⟨a, r, rfl, ha, hs, q⟩ := h
  obtain ⟨dx, ha2⟩ := id ha
  have hright : Right X.K (clsOf T r) H y := by
    rcases q with ⟨z, rfl, _⟩ | ⟨b, r', rfl, ⟨dy, hb⟩, _⟩
    · exact .inl ⟨z, rfl, S.nS r⟩
    · obtain ⟨gs, eg⟩ := insRow_ins T dy r'
      rw [eg] at hb
      exact .inr ⟨b, _, dy, gs, rfl, hb, S.nR r r'⟩
  have hsp : spSame T [.ref a, y] H (fun v H' => ∃ c, v = .bl c ∧ Q (.bl (!c)) H') E0 := ⟨a, y, r, rfl, ha, hs, q.elim (fun ⟨z, e, q⟩ => .inl ⟨z, e, _, rfl, q⟩) fun ⟨b, r', e, h1, h2, q⟩ => .inr ⟨b, r', e, h1, h2, _, rfl, q⟩⟩
  have hne := S.ne r
  have hm := S.cM r
  cases r with
  | note c n => exact op_neIns (ok_NoteEq S) S.note.hf hr S.note.b pass0 pins s σ H (.ref a) y v u Q I rx ry ⟨a, _, dx, _, rfl, ha2, S.note.hs, hne, hm, hright, hsp⟩
  | skip c n => exact op_neIns (ok_SkipEq S) S.skip.hf hr S.skip.b pass0 pins s σ H (.ref a) y v u Q I rx ry ⟨a, _, dx, _, rfl, ha2, S.skip.hs, hne, hm, hright, hsp⟩
  | set c n => exact op_neIns (ok_SetEq S) S.set.hf hr S.set.b pass0 pins s σ H (.ref a) y v u Q I rx ry ⟨a, _, dx, _, rfl, ha2, S.set.hs, hne, hm, hright, hsp⟩
  | keep c => exact op_neIns (ok_KeepEq S) S.keep.hf hr S.keep.b pass0 pins s σ H (.ref a) y v u Q I rx ry ⟨a, _, dx, _, rfl, ha2, S.keep.hs, hne, hm, hright, hsp⟩
  | back c => exact op_neIns (ok_BackEq S) S.back.hf hr S.back.b pass0 pins s σ H (.ref a) y v u Q I rx ry ⟨a, _, dx, _, rfl, ha2, S.back.hs, hne, hm, hright, hsp⟩
  | ref c => exact op_neIns (ok_RefEq S) S.ref.hf hr S.ref.b pass0 pins s σ H (.ref a) y v u Q I rx ry ⟨a, _, dx, _, rfl, ha2, S.ref.hs, hne, hm, hright, hsp⟩
  | put c => exact op_neIns (ok_PutEq S) S.put.hf hr S.put.b pass0 pins s σ H (.ref a) y v u Q I rx ry ⟨a, _, dx, _, rfl, ha2, S.put.hs, hne, hm, hright, hsp⟩
  | opn c => exact op_neIns (ok_OpenEq S) S.open_.hf hr S.open_.b pass0 pins s σ H (.ref a) y v u Q I rx ry ⟨a, _, dx, _, rfl, ha2, S.open_.hs, hne, hm, hright, hsp⟩
end
end Pn

namespace Pn
open PySem PySem.Spec PyProof.Rows L2
/-! ### the law's def at the surrounding that the judge calls it from: there no repr is under way -/
section
variable {P : Program} {w : World} {K : PySem.W.Frag} {mg mb : Str → Option Value} {s₁ : Shared} {a : Addr} {vs : List Value} {ns : List Int}
/-- a tracking of the script alone -/
theorem law_track (KX : K.In s₁.heap) (ha : s₁.heap.get? a = some { cls := .type "list", data := .seq vs.toArray }) (hi : IntsAre vs ns) (hl : ns.length ≤ sizeLine) :
    ∃ H : Hp, Only H ∧ SqL K H a (ns.map V.int) ∧ HOk P w H s₁.heap ∧ ∀ b, H b ≠ none → b = a ∧ K.lookup a = none := by
  have rv := vals_ints hi
  cases hk : K.lookup a with
  | some o =>
    have e := (KX a o hk).symm.trans ha
    cases e
    exact ⟨fun _ => none, fun _ => .inl rfl, .inr ⟨_, vs.toArray, _, hk, rfl, rfl, rfl, by rw [List.size_toArray, hi.length]; exact hl, by simpa using rv⟩, fun b u z => (nomatch (show (none : Option HO) = some u from z)), fun b z => absurd rfl z⟩
  | none =>
    let o : HO := .frz { cls := .type "list", data := .seq vs.toArray } (.lst (ns.map V.int))
    have at_ : upd (fun _ => none) a o a = some o := upd_same
    refine ⟨upd (fun _ => none) a o, fun b => ?_, .inl (.inr ⟨_, at_⟩), fun b u z => ?_, fun b z => ⟨?_, rfl⟩⟩
    · by_cases h : b = a
      · exact .inr ⟨_, _, by rw [h]; exact at_⟩
      · exact .inl (by rw [upd_ne h])
    · by_cases h : b = a
      · rw [h, at_] at z
        cases z
        rw [h]
        exact ⟨ha, by rw [List.length_map]; exact hl, vs, _, rv, ha⟩
      · rw [upd_ne h] at z
        cases z
    · by_cases h : b = a
      · exact h
      · rw [upd_ne h] at z
        exact absurd rfl z
/-- what stands behind it is the module's -/
theorem law_env (KX : K.In s₁.heap) (hns : s₁.heap.Ns mainGlobals mg) (hb : s₁.heap.Ns builtinsNs mb) (hbb : ∀ x : Str, x ≠ "__name__" → mb x = bootBuiltins x) (hlim : s₁.heap.NoLimit) (hg : s₁.gens = #[])
    (ha : s₁.heap.get? a = some { cls := .type "list", data := .seq vs.toArray }) {H : Hp} (hok : HOk P w H s₁.heap) (hA : ∀ b, H b ≠ none → b = a ∧ K.lookup a = none) :
    K.In (hidT s₁.heap H) ∧ (hidT s₁.heap H).Ns mainGlobals mg ∧ Env0 P w K mg (hidT s₁.heap H) callerA [] s₁ H := by
  have free : ∀ {b : Addr}, (b = a → K.lookup a = none → False) → H b = none := fun {b} h => by
    cases q : H b with
    | none => rfl
    | some u =>
      obtain ⟨e1, e2⟩ := hA b (by rw [q]; simp)
      exact (h e1 e2).elim
  have ns_ : ∀ {b : Addr} {m : Str → Option Value}, s₁.heap.Ns b m → (hidT s₁.heap H).Ns b m := fun {b m} ⟨o, es, ep, e, d, r⟩ => ⟨o, es, ep, hidT_get e (free fun z _ => by
    rw [z, ha] at e
    cases e
    exact Data.noConfusion d), d, r⟩
  have kin : K.In (hidT s₁.heap H) := fun b o e => hidT_get (KX b o e) (free fun z n => by
    rw [z, n] at e
    cases e)
  obtain ⟨mc, l1, l2⟩ := hlim
  exact ⟨kin, ns_ hns, rfl, ⟨kin, ns_ hns, ⟨mb, ns_ hb, hbb⟩, ⟨mc, ns_ l1, l2⟩⟩, fun b o e => of_hidT e, Nat.le_of_eq (hidT_size _ _), trivial, fun b h => (by cases (show b ∈ ([] : List Addr) from h)), hok, .of_eq hg⟩
end
end Pn
namespace Pn
open PySem PySem.Spec PyProof.Rows L2
section
variable {P : Program} {w : World} {K : PySem.W.Frag} {mg : Str → Option Value} {base : Heap} {A : Around}
/-- a def's promise at one surrounding, with no frame below -/
def RunAt (P : Program) (w : World) (K : PySem.W.Frag) (mg : Str → Option Value) (base : Heap) (A : Around) (f : Addr) (fd : FuncData) (ps : List Str) (sp : Sp) : Prop :=
  ∀ (s : Shared) (H : Hp) (us : List Value) (vs : List V) (Q : VK) (E : XK), Env0 P w K mg base A [] s H → BindsTo s fd ⟨us, []⟩ (ps.zip us) → Vals vs us → sp vs H Q E → codeAny (model P w) A (.call (.ref f) ⟨us, []⟩) (CR CX0 [] P w H s Q E) s
theorem fun_at {x qual : Str} {st : Stmt} {f : Addr} {fd : FuncData} {N ps : List Str} {k : Nat} {sp : Sp} (F : Fun K x qual st f fd) (S : FnScope N ps (defScope st)) (hr : Room (k + 1) A) (len : ∀ vs H Q E, sp vs H Q E → vs.length = ps.length)
    (hbody : ∀ (cdv : Value) (s : Shared) (H : Hp) (vs : List V) (Q : VK) (E : XK), Room k (A.deeper (envOfC qual (defScope st) s.heap.objs.size f cdv)) → sp vs H Q E →
      ∃ t, PSs (cxOf CX0 P w K mg base N qual (defScope st) f cdv A [] s H E).nox (defBody st) t ∧ t { nx := fun _ H' => Q .non H', rt := Q } (L2.start N vs) H) : RunAt P w K mg base A f fd ps sp := by
  obtain ⟨oc, od, kV, doc, pm, an, cdv, ct, osl, rfl, lk, hcd⟩ := F.ex
  intro s H us vs Q E e0 hb r hsp
  have keep : ∀ b o, base.get? b = some o → s.heap.get? b = some o := fun b o e => (e0.bs b o e).1
  have kin := e0.mod.kin.keeps keep
  have par : ∀ y ∈ ps.zip us, (defScope st).names.lookup y.1 = some .local ∨ ((defScope st).names.lookup y.1 = some .cell ∧ ((cellsFrom (s.heap.objs.size + 1) (defScope st).names []).lookup y.1).isSome = true) := fun y hy =>
    (S.par y.1 (List.of_mem_zip (a := y.1) (b := y.2) hy).1).imp id fun q => ⟨q, PySem.W.cellsFrom_some _ _ _ (.inl q)⟩
  refine codeAny_call_function hr.depth (kin _ _ lk) rfl S.co S.gen rfl (PySem.W.codeRec_of kin hcd) (hb _ _ _ _ (wpAny_newFunctionEnv_cells S.kind par fun env he s1 x => ?_))
  subst he
  obtain ⟨t, ht, hq⟩ := hbody cdv s H vs Q E (hr.deeper _) hsp
  refine ⟨(e0.mod.nolimit.keeps keep).keeps x.toInCall.keep, codeAny_func (wpAny_mono (ht.nox.run [] s1 (L2.start N vs) H _ (inv_start S hr.hd e0 (len _ _ _ _ hsp) r x) hq) (fun fl s' hs => ?_) fun e s' hs => hs)⟩
  cases fl with
  | ret u =>
    obtain ⟨v, σ', H', J, rv, q⟩ := hs
    exact ⟨v, H', J.os, J.bare, J.base, J.hok, rv, q⟩
  | next =>
    obtain ⟨σ', H', J, q⟩ := hs
    exact ⟨V.non, H', J.os, J.bare, J.base, J.hok, rfl, q⟩
  | brk =>
    obtain ⟨_, _, _, q⟩ := hs
    exact False.elim q
  | cont =>
    obtain ⟨_, _, _, q⟩ := hs
    exact False.elim q
end
/-- the goal that k_head leaves, from the law's promise at callerA -/
theorem walk_g {l : PySem.W.OpenLaw} {n : Nat} {q : Program} {loose : List Str} {XP : (Str → Option Value) → Heap → Prop} {YP : World → Heap → Prop} {d : DefRec} {K : Params → PySem.W.Frag} {sp : PySem.W.Frag → Sp} {x : Str}
    (hn : l.most = some n) (hn2 : n ≤ sizeLine) (hdf : d.params.defaults = []) (hY : ∀ (w : World) (h : Heap), YP w h → (K w.params).In h)
    (F : ∀ (w : World) (mg : Str → Option Value) (fa : Addr) (h : Heap), (K w.params).In h → h.Ns mainGlobals mg → mg d.name = some (.ref fa) →
      ∃ fd : FuncData, (∀ (s : Shared) (u : Value), BindsTo s fd ⟨[u], []⟩ [(x, u)]) ∧
        ∀ base : Heap, (K w.params).In base → base.Ns mainGlobals mg → RunAt l.prog w (K w.params) mg base callerA fa fd [x] (sp (K w.params)))
    (hsp : ∀ (K : PySem.W.Frag) (H : Hp) (a : Addr) (ns : List Int), ns.length ≤ n → SqL K H a (ns.map V.int) → sp K [.ref a] H (fun v _ => v = .bl true) fun _ _ _ => False) :
    PySem.W.WalkO q loose XP YP l.row.toRowW d [] (fun f vs => PySem.call f vs) := by
  refine Att.attach_call hn hdf fun w s₀ s₁ mg mb fa o pm cd doc a vs ns G Y ho hd hcd hmg hobj hints hlen hg => ?_
  have KX := hY w _ Y
  obtain ⟨fd, hb, hF⟩ := F w mg fa _ KX G.T.g hmg
  obtain ⟨H, hO, hS, hok, hA⟩ := law_track (P := l.prog) (w := w) KX hobj hints (Nat.le_trans hlen hn2)
  obtain ⟨kin, hns, e0⟩ := law_env KX G.T.g G.T.b G.T.builtins G.T.nolimit hg hobj hok hA
  refine codeAny_mono (hF _ kin hns s₁ H [.ref a] [.ref a] (fun v _ => v = .bl true) (fun _ _ _ => False) e0 (hb s₁ (.ref a)) (.cons rfl .nil) (hsp _ H a ns hlen hS)) fun r s' h => ?_
  cases r with
  | error e => exact False.elim h
  | ok fl =>
    cases fl with
    | next => exact False.elim h
    | brk => exact False.elim h
    | cont => exact False.elim h
    | ret u =>
      obtain ⟨v, H', os, bare, un, hok', rv, hv⟩ := h
      cases (show v = V.bl true from hv)
      cases (show u = Value.bool true from rv)
      refine ⟨rfl, OldK.of_keep fun b o e => ?_, os, bare⟩
      rcases hO b with z | ⟨ob, xs, z⟩
      · exact un.keep b o e z (by intro z; cases (show b ∈ ([] : List Addr) from z)) (by simp)
      · obtain ⟨e1, _⟩ := hok b _ z
        obtain ⟨e2, _⟩ := hok' b _ (un.frzs b ob _ z)
        cases e.symm.trans e1
        exact e2
end Pn

namespace Pn
open PySem PySem.Spec PyProof.Rows L2
/-! ### repr of a tuple of texts and integers, where no repr is under way -/
/-- plain items as data -/
inductive Fl : List V → List PyData → Prop where
  | nil : Fl [] []
  | str {vs ds} (z : Str) (r : Fl vs ds) : Fl (.str z :: vs) (.str z :: ds)
  | int {vs ds} (i : Int) (r : Fl vs ds) : Fl (.int i :: vs) (.int i :: ds)
theorem Fl.reads {h : Heap} : ∀ {vs : List V} {ds : List PyData} {us : List Value}, Fl vs ds → Vals vs us → ReadsAll h us ds []
  | _, _, _, .nil, r => by
    cases r
    exact .nil
  | _, _, _, .str z f, r => by
    cases r with
    | cons r1 r2 =>
      obtain ⟨t, rfl⟩ := r1
      exact .cons (.str z t) (f.reads r2)
  | _, _, _, .int i f, r => by
    cases r with
    | cons r1 r2 =>
      obtain ⟨t, rfl⟩ := r1
      exact .cons (.int i t) (f.reads r2)
section
variable {X : Cx}
def rReprT (K : PySem.W.Frag) : List V → Hp → VK → Prop := fun xs H Q => ∃ (a : Addr) (vs : List V) (ds : List PyData), xs = [.ref a] ∧ SqT K H a vs ∧ Fl vs ds ∧ PyData.showable (.tuple ds) = true ∧ PyData.hasDict (.tuple ds) = false ∧ PyData.depth (.tuple ds) ≤ 10 ∧ (PyData.shown (.tuple ds)).length ≤ sizeLine ∧ Q (.str (PyData.shown (.tuple ds))) H
theorem call_reprT (hg : X.A.guards = some []) {k : Nat} (hr : Room k X.A) : CallR X (.builtin "repr") (rReprT X.K) := by
  intro pins s σ H xs us Q I r h
  obtain ⟨a, vs, ds, rfl, ht, hf, h1, h2, h3, h4, q⟩ := h
  obtain ⟨u, rfl, ru⟩ := r.one
  cases (show u = Value.ref a from ru)
  obtain ⟨its, rv, ⟨o, ho, hcl, n, hd⟩, _⟩ := I.tuple ht
  have hu := hr.units
  refine repr_of_reads' (h₀ := s.heap) (d := .tuple ds) (as := []) (.tuple ho hcl hd (hf.reads rv)) h1 (fun e => by rw [h2] at e; cases e) hg (by omega) (fun _ _ e => e) (fun h' u tk hk => ?_) h4
  exact ⟨.str _, H, I.kept hk, ⟨u, rfl⟩, q⟩
end
end Pn

namespace Pn
open PySem L2 TL
/-! ### texts put together of words: their size -/
def sz1 (l : List Str) : Nat := (l.map fun x => x.length + 1).sum
theorem sz1_cons (x : Str) (l : List Str) : sz1 (x :: l) = x.length + 1 + sz1 l := by
  unfold sz1
  rw [List.map_cons, List.sum_cons]
theorem sz1_app : ∀ l m : List Str, sz1 (l ++ m) = sz1 l + sz1 m
  | [], m => by
    rw [List.nil_append, show sz1 [] = 0 from rfl]
    omega
  | x :: l, m => by
    rw [List.cons_append, sz1_cons, sz1_cons, sz1_app l m]
    omega
theorem sz1_sub {l m : List Str} (h : l.Sublist m) : sz1 l ≤ sz1 m := by
  induction h with
  | slnil => exact Nat.le_refl _
  | cons a _ ih => rw [sz1_cons]; omega
  | cons_cons a _ ih => rw [sz1_cons, sz1_cons]; omega
/-- words of at most n signs with as many blanks, all of good signs -/
def Sm (n : Nat) (l : List Str) : Prop := sz1 l ≤ n ∧ ∀ x ∈ l, PyData.strOk x = true
theorem Sm.sub {n : Nat} {l m : List Str} (h : Sm n m) (s : l.Sublist m) : Sm n l := ⟨Nat.le_trans (sz1_sub s) h.1, fun x hx => h.2 x (s.subset hx)⟩
theorem Sm.app {n k : Nat} {l m : List Str} (h : Sm n l) (g : Sm k m) : Sm (n + k) (l ++ m) := ⟨by rw [sz1_app]; exact Nat.add_le_add h.1 g.1, fun x hx => (List.mem_append.mp hx).elim (h.2 x) (g.2 x)⟩
theorem joinL_len : ∀ l : List Str, (joinL (tl " ") (l.map tl)).length ≤ sz1 l ∧ sz1 l ≤ (joinL (tl " ") (l.map tl)).length + 1
  | [] => ⟨Nat.le_refl _, Nat.zero_le _⟩
  | [a] => by
    show (tl a).length ≤ sz1 [a] ∧ sz1 [a] ≤ (tl a).length + 1
    rw [sz1_cons, ← len_tl, show sz1 [] = 0 from rfl]
    omega
  | a :: b :: r => by
    have q := joinL_len (b :: r)
    rw [sz1_cons]
    show (tl a ++ (tl " " ++ joinL (tl " ") ((b :: r).map tl))).length ≤ _ ∧ _ ≤ (tl a ++ (tl " " ++ joinL (tl " ") ((b :: r).map tl))).length + 1
    rw [List.length_append, List.length_append, ← len_tl, show (tl " ").length = 1 from by decide +kernel]
    omega
theorem joinL_mem : ∀ (l : List Str) (c : Nat), c ∈ joinL (tl " ") (l.map tl) → c ∈ tl " " ∨ ∃ x ∈ l, c ∈ tl x
  | [], c, h => by cases h
  | [a], c, h => .inr ⟨a, by simp, h⟩
  | a :: b :: r, c, h => by
    rcases List.mem_append.mp h with h | h
    · exact .inr ⟨a, by simp, h⟩
    · rcases List.mem_append.mp h with h | h
      · exact .inl h
      · rcases joinL_mem (b :: r) c h with h | ⟨x, hx, hc⟩
        · exact .inl h
        · exact .inr ⟨x, List.mem_cons_of_mem _ hx, hc⟩
theorem Sm.join {n : Nat} {l : List Str} (h : Sm n l) : (Txt.join " " l).length ≤ n ∧ PyData.strOk (Txt.join " " l) = true := by
  have e : tl (Txt.join " " l) = joinL (tl " ") (l.map tl) := by rw [join_eq]; exact tl_join " " l
  refine ⟨?_, strOk_tl.mpr fun c hc => ?_⟩
  · rw [len_tl, e]
    exact Nat.le_trans (joinL_len l).1 h.1
  · rw [e] at hc
    rcases joinL_mem l c hc with hc | ⟨x, hx, hc⟩
    · exact strOk_tl.mp (show PyData.strOk " " = true by decide +kernel) c hc
    · exact strOk_tl.mp (h.2 x hx) c hc
theorem sz1_lens : ∀ l : List Str, (l.map (·.length)).sum + l.length * (" " : Str).length = sz1 l
  | [] => rfl
  | x :: l => by
    have q := sz1_lens l
    rw [show (" " : Str).length = 1 from by decide +kernel] at q ⊢
    rw [sz1_cons, List.map_cons, List.sum_cons, List.length_cons]
    omega
theorem Sm.fits {n : Nat} {l : List Str} (h : Sm n l) (hn : n ≤ 16777216) : (l.map (·.length)).sum + l.length * (" " : Str).length ≤ 16777216 := by
  rw [sz1_lens]
  exact Nat.le_trans h.1 hn
theorem sm_split {z : Str} {n : Nat} (hl : z.length ≤ n) (hok : PyData.strOk z = true) : Sm (n + 1) (Txt.split z " ") := by
  have e := PySem.StrLaws.join_split z " "
  have e2 : tl (Txt.join " " (Txt.split z " ")) = joinL (tl " ") ((Txt.split z " ").map tl) := by rw [join_eq]; exact tl_join " " _
  have e3 : (joinL (tl " ") ((Txt.split z " ").map tl)).length = z.length := by
    rw [← e2, ← len_tl, join_eq]
    exact congrArg Str.length e
  refine ⟨?_, fun x hx => strOk_tl.mpr fun c hc => strOk_tl.mp hok c ((split_len (z := z) rfl x hx).2 c hc)⟩
  have := (joinL_len (Txt.split z " ")).2
  omega
theorem sm_row {r : RowD} (h : rowValid r) : (rowText r).length ≤ 63 ∧ PyData.strOk (rowText r) = true := by
  obtain ⟨h1, _, h2⟩ := words_small h
  have h3 : Sm 63 (rowWords r) := by
    refine ⟨?_, fun x hx => (h2 x hx).2⟩
    have key : ∀ l : List Str, (∀ x ∈ l, x.length ≤ 20) → sz1 l ≤ 21 * l.length := by
      intro l
      induction l with
      | nil => intro _; exact Nat.le_refl _
      | cons x l ih =>
        intro hx
        have q1 := hx x List.mem_cons_self
        have q2 := ih fun y hy => hx y (List.mem_cons_of_mem _ hy)
        rw [sz1_cons, List.length_cons]
        omega
    have := key (rowWords r) fun x hx => (h2 x hx).1
    omega
  exact h3.join
theorem cut_sub (ws : List Str) (lo hi : Option Int) : ∃ us : List Str, cutV (ws.map V.str) lo hi = us.map V.str ∧ us.Sublist ws := by
  refine ⟨(ws.drop (HT.sIx (ws.map V.str).length 0 lo)).take (HT.sIx (ws.map V.str).length (ws.map V.str).length hi - HT.sIx (ws.map V.str).length 0 lo), ?_, (List.take_sublist _ _).trans (List.drop_sublist _ _)⟩
  unfold cutV
  rw [List.map_take, List.map_drop]
/-- repr of a text or an integer -/
def rReprF : List V → Hp → VK → Prop := fun xs H Q => (∃ z : Str, xs = [.str z] ∧ z.length ≤ 1000 ∧ PyData.strOk z = true ∧ Q (.str (PySem.reprText z)) H) ∨ ∃ i : Int, xs = [.int i] ∧ i.natAbs.log2 < 1920 ∧ Q (.str (Str.ofString (toString i))) H
theorem repr_fits {z : Str} (hl : z.length ≤ 1000) (hok : PyData.strOk z = true) : (PySem.reprText z).length ≤ sizeLine := by
  have q := StrLaws.reprText_len z fun c hc => by
    have q := strOk_tl.mp hok c hc
    have e : (16 : Nat) ^ 8 = 4294967296 := by decide
    omega
  have e : (1000000 : Nat) ≤ sizeLine := by decide
  omega
theorem call_reprF {X : Cx} : CallR X (.builtin "repr") rReprF := fun pins s σ H xs us Q I r h => by
  rcases h with ⟨z, rfl, hl, hok, q⟩ | h
  · obtain ⟨u, rfl, ru⟩ := r.one
    obtain ⟨t, rfl⟩ := ru
    exact PySem.P.repr_of_str ⟨.str _, H, I.tok _, ⟨_, rfl⟩, q⟩ (repr_fits hl hok)
  · exact SkE.call_repr_int pins s σ H xs us Q I r h
end Pn

namespace Pn
open PySem L2 TL
/-! ### what the law asks of a made row -/
/-- plain data that is small -/
def smallD : PyData → Prop
  | .str z => z.length ≤ 20 ∧ PyData.strOk z = true
  | .int i => ∃ n : Nat, i = (n : Int) ∧ n < 10 ^ 20
  | _ => False
theorem small_shown {d : PyData} (h : smallD d) : (PyData.shown d).length ≤ 300 := by
  cases d with
  | str z =>
    rw [PyData.shown_str]
    have q := StrLaws.reprText_len z fun c hc => by
      have q := strOk_tl.mp h.2 c hc
      have e : (16 : Nat) ^ 8 = 4294967296 := by decide
      omega
    have := h.1
    omega
  | int i =>
    obtain ⟨n, rfl, hn⟩ := h
    rw [PyData.shown_int]
    exact Nat.le_trans (numStr_len hn) (by decide)
  | _ => exact False.elim h
theorem small_showable {d : PyData} (h : smallD d) : PyData.showable d = true ∧ PyData.hasDict d = false ∧ PyData.depth d = 0 := by
  cases d with
  | str z => exact ⟨by simp only [PyData.showable], by simp only [PyData.hasDict], by simp only [PyData.depth]⟩
  | int i =>
    obtain ⟨n, rfl, hn⟩ := h
    refine ⟨?_, by simp only [PyData.hasDict], by simp only [PyData.depth]⟩
    simp only [PyData.showable]
    refine decide_eq_true ?_
    rw [Int.natAbs_natCast]
    by_cases h0 : n = 0
    · subst h0; decide
    · exact (Nat.log2_lt h0).mpr (Nat.lt_of_lt_of_le hn (by decide))
  | _ => exact False.elim h
theorem small_all : ∀ {ds : List PyData}, (∀ d ∈ ds, smallD d) → PyData.showableAll ds = true ∧ PyData.hasDictAll ds = false ∧ PyData.depthAll ds = 0 ∧ ((PyData.shownAll ds).map (·.length)).sum ≤ 300 * ds.length
  | [], _ => ⟨by simp only [PyData.showableAll], by simp only [PyData.hasDictAll], by simp only [PyData.depthAll], by simp only [PyData.shownAll]; exact Nat.zero_le _⟩
  | d :: ds, h => by
    obtain ⟨a1, a2, a3⟩ := small_showable (h d List.mem_cons_self)
    obtain ⟨b1, b2, b3, b4⟩ := small_all fun x hx => h x (List.mem_cons_of_mem _ hx)
    have a4 := small_shown (h d List.mem_cons_self)
    refine ⟨by simp only [PyData.showableAll, a1, b1, Bool.and_self], by simp only [PyData.hasDictAll, a2, b2, Bool.or_self], by simp only [PyData.depthAll, a3, b3, Nat.max_self], ?_⟩
    simp only [PyData.shownAll, List.map_cons, List.sum_cons, List.length_cons]
    omega
theorem small_tuple {ds : List PyData} (h : ∀ d ∈ ds, smallD d) (hl : ds.length ≤ 1000) : PyData.showable (.tuple ds) = true ∧ PyData.hasDict (.tuple ds) = false ∧ PyData.depth (.tuple ds) ≤ 10 ∧ (PyData.shown (.tuple ds)).length ≤ sizeLine := by
  obtain ⟨b1, b2, b3, b4⟩ := small_all h
  refine ⟨by simp only [PyData.showable, b1], by simp only [PyData.hasDict, b2], by simp only [PyData.depth, b3]; decide, ?_⟩
  simp only [PyData.shown]
  have q := tupleText_len_le (PyData.shownAll ds)
  rw [PyData.shownAll_length] at q
  have e : (400000 : Nat) ≤ sizeLine := by decide
  omega
def rowWord : RowD → Str
  | .note _ _ => "note"
  | .skip _ _ => "skip"
  | .set _ _ => "set"
  | .keep _ => "keep"
  | .back _ => "back"
  | .ref _ => "ref"
  | .put _ => "put"
  | .opn _ => "open"
theorem tup_word (r : RowD) : (rowTup r)[0]? = some (.str (rowWord r)) := by cases r <;> rfl
/-- what a row tells but for its word, as data -/
theorem tail_data {r : RowD} (h : rowValid r) : ∃ ds, Fl (rowTup r).tail ds ∧ PyData.showable (.tuple ds) = true ∧ PyData.hasDict (.tuple ds) = false ∧ PyData.depth (.tuple ds) ≤ 10 ∧ (PyData.shown (.tuple ds)).length ≤ sizeLine := by
  have nm : ∀ {z : Str}, nameS z = true → smallD (.str z) := fun h => ⟨Nat.le_trans (name_ok h).2 (by decide), (name_ok h).1⟩
  have one : ∀ {c : Str}, nameS c = true → ∃ ds, Fl [.str c] ds ∧ PyData.showable (.tuple ds) = true ∧ PyData.hasDict (.tuple ds) = false ∧ PyData.depth (.tuple ds) ≤ 10 ∧ (PyData.shown (.tuple ds)).length ≤ sizeLine := fun {c} hc =>
    ⟨[.str c], .str c .nil, small_tuple (fun d hd => by rw [List.mem_singleton.mp hd]; exact nm hc) (by show 1 ≤ 1000; decide)⟩
  have two : ∀ {c : Str} {n : Nat}, nameS c = true → n < 10 ^ 10 → ∃ ds, Fl [.str c, .int (n : Int)] ds ∧ PyData.showable (.tuple ds) = true ∧ PyData.hasDict (.tuple ds) = false ∧ PyData.depth (.tuple ds) ≤ 10 ∧ (PyData.shown (.tuple ds)).length ≤ sizeLine := fun {c n} hc hn =>
    ⟨[.str c, .int (n : Int)], .str c (.int _ .nil), small_tuple (fun d hd => by
      rcases List.mem_cons.mp hd with rfl | hd
      · exact nm hc
      · rw [List.mem_singleton.mp hd]; exact ⟨n, rfl, Nat.lt_trans hn (by decide)⟩) (by show 2 ≤ 1000; decide)⟩
  cases r with
  | note c l => exact ⟨[.str c, .str l], .str c (.str l .nil), small_tuple (fun d hd => by
      rcases List.mem_cons.mp hd with rfl | hd
      · exact nm h.1
      · rw [List.mem_singleton.mp hd]
        rcases h.2 with rfl | h2
        · exact ⟨by decide +kernel, by decide +kernel⟩
        · exact nm h2) (by show 2 ≤ 1000; decide)⟩
  | skip c n => exact two h.1 h.2.2
  | set c n => exact two h.1 h.2
  | keep c => exact one h
  | back c => exact one h
  | ref c => exact one h
  | put c => exact one h
  | opn c => exact one h
theorem tail_cut (r : RowD) : cutV (rowTup r) (some 1) none = (rowTup r).tail ∧ ¬ (HT.sIx (rowTup r).length 0 (some 1) = 0 ∧ HT.sIx (rowTup r).length (rowTup r).length none = (rowTup r).length) := by
  cases r <;> exact ⟨rfl, fun z => absurd (show (1 : Nat) = 0 from z.1) (by decide)⟩
theorem valid_small {r : RowD} (h : rowValid r) : rowSmall r := by
  have b : ∀ {n : Nat}, n < 10 ^ 10 → n < 10 ^ 20 := fun h => Nat.lt_trans h (by decide)
  cases r with
  | note c l => exact ⟨name_small h.1, by rcases h.2 with rfl | z; exact (by decide +kernel : ("" : Str).length ≤ 100); exact name_small z⟩
  | skip c n => exact ⟨name_small h.1, b h.2.2⟩
  | set c n => exact ⟨name_small h.1, b h.2⟩
  | keep c => exact name_small h
  | back c => exact name_small h
  | ref c => exact name_small h
  | put c => exact name_small h
  | opn c => exact name_small h
section
variable {P : Program} {w : World} {K : PySem.W.Frag} {mg : Str → Option Value} {base : Heap}
/-- the word of an instance of a row -/
theorem row_word (T : TRows K mg) {H : Hp} {a : Addr} {r : RowD} (h : RowAt T H a r) : ∃ dx fs, H a = some (.ins (clsOf T r) dx fs) ∧ Cls K (clsOf T r) ∧ NoAttr K (clsOf T r) "word" ∧ fs.lookup ("word" : Str) = some (V.str (rowWord r)) := by
  obtain ⟨dx, ha⟩ := h
  cases r with
  | note c l => exact ⟨dx, _, ha, T.note.cl, T.note.noW, by rw [lookup_putF, if_neg (by decide +kernel), lookup_putF, if_neg (by decide +kernel), lookup_putF, if_pos rfl]; rfl⟩
  | skip c n => exact ⟨dx, _, ha, T.skip.cl, T.skip.noW, by rw [lookup_putF, if_neg (by decide +kernel), lookup_putF, if_neg (by decide +kernel), lookup_putF, if_pos rfl]; rfl⟩
  | set c n => exact ⟨dx, _, ha, T.set.cl, T.set.noW, by rw [lookup_putF, if_neg (by decide +kernel), lookup_putF, if_neg (by decide +kernel), lookup_putF, if_pos rfl]; rfl⟩
  | keep c => exact ⟨dx, _, ha, T.keep.cl, T.keep.noW, by rw [lookup_putF, if_neg (by decide +kernel), lookup_putF, if_pos rfl]; rfl⟩
  | back c => exact ⟨dx, _, ha, T.back.cl, T.back.noW, by rw [lookup_putF, if_neg (by decide +kernel), lookup_putF, if_pos rfl]; rfl⟩
  | ref c => exact ⟨dx, _, ha, T.ref.cl, T.ref.noW, by rw [lookup_putF, if_neg (by decide +kernel), lookup_putF, if_pos rfl]; rfl⟩
  | put c => exact ⟨dx, _, ha, T.put.cl, T.put.noW, by rw [lookup_putF, if_neg (by decide +kernel), lookup_putF, if_pos rfl]; rfl⟩
  | opn c => exact ⟨dx, _, ha, T.open_.cl, T.open_.noW, by rw [lookup_putF, if_neg (by decide +kernel), lookup_putF, if_pos rfl]; rfl⟩
theorem RowAt.same {T : TRows K mg} {H H' : Hp} {a : Addr} {r : RowD} (h : RowAt T H a r) (s : Same H H') : RowAt T H' a r := h.elim fun dx e => ⟨dx, s _ _ e⟩
end
end Pn

namespace Pn
open PySem L2 TL
abbrev sIsSeq : Stmt := top 6
/-! ### a sequence, and which of its things are rows -/
def seqD : PyData → Bool
  | .list _ => true
  | .tuple _ => true
  | _ => false
theorem kit_two {K : PySem.W.Frag} {t : String} {a b : Bool} (h1 : kitB t "list" = some a) (h2 : kitB t "tuple" = some b) : PySem.W.kitAny K (.type t) [.type "list", .type "tuple"] = some (a || b) := by
  cases a
  · refine kitAny_cons (kit_ty h1) (fun _ => kitAny_cons (kit_ty h2) (fun z => ?_) (fun z => ?_)) (fun z => nomatch z)
    · rw [z]; exact kitAny_nil
    · rw [z]; rfl
  · exact kitAny_cons (kit_ty h1) (fun z => nomatch z) (fun _ => rfl)
theorem kit_seq {K : PySem.W.Frag} : ∀ d : PyData, PySem.W.kitAny K (.type (tyD d)) [.type "list", .type "tuple"] = some (seqD d)
  | .none => kit_two (by decide +kernel : kitB "NoneType" "list" = some false) (by decide +kernel : kitB "NoneType" "tuple" = some false)
  | .bool _ => kit_two (by decide +kernel : kitB "bool" "list" = some false) (by decide +kernel : kitB "bool" "tuple" = some false)
  | .int _ => kit_two (by decide +kernel : kitB "int" "list" = some false) (by decide +kernel : kitB "int" "tuple" = some false)
  | .str _ => kit_two (by decide +kernel : kitB "str" "list" = some false) (by decide +kernel : kitB "str" "tuple" = some false)
  | .list _ => kit_two (by decide +kernel : kitB "list" "list" = some true) (by decide +kernel : kitB "list" "tuple" = some false)
  | .tuple _ => kit_two (by decide +kernel : kitB "tuple" "list" = some false) (by decide +kernel : kitB "tuple" "tuple" = some true)
  | .dict _ => kit_two (by decide +kernel : kitB "dict" "list" = some false) (by decide +kernel : kitB "dict" "tuple" = some false)
theorem sql_ty {K : PySem.W.Frag} {H : Hp} {p : Addr} {xs : List V} (h : SqL K H p xs) : TyX K H (.ref p) (.type "list") := by
  rcases h with (s | ⟨o, s⟩) | ⟨o, _, _, e, c, _⟩
  · exact .base (.lst s)
  · exact .base (.frz s)
  · exact .kList e c
theorem sqt_ty {K : PySem.W.Frag} {H : Hp} {p : Addr} {xs : List V} (h : SqT K H p xs) : TyX K H (.ref p) (.type "tuple") := by
  rcases h with (s | ⟨o, s⟩) | ⟨o, _, _, e, c, _⟩
  · exact .base (.tup s)
  · exact .fTuple s
  · exact .kTuple e c
theorem sql_ins {K : PySem.W.Frag} {H : Hp} {x C dx p : Addr} {fs : List (Str × V)} {o : HO} {xs : List V} (hx : H x = some (.ins C dx fs)) (h : SqL K H p xs) : SqL K (upd H x o) p xs := by
  rcases h with (s | ⟨u, s⟩) | s
  · exact .inl (.inl (by rw [upd_ne (fun z => by rw [z, hx] at s; cases s)]; exact s))
  · exact .inl (.inr ⟨u, by rw [upd_ne (fun z => by rw [z, hx] at s; cases s)]; exact s⟩)
  · exact .inr s
theorem sqt_ins {K : PySem.W.Frag} {H : Hp} {x C dx p : Addr} {fs : List (Str × V)} {o : HO} {xs : List V} (hx : H x = some (.ins C dx fs)) (h : SqT K H p xs) : SqT K (upd H x o) p xs := by
  rcases h with (s | ⟨u, s⟩) | s
  · exact .inl (.inl (by rw [upd_ne (fun z => by rw [z, hx] at s; cases s)]; exact s))
  · exact .inl (.inr ⟨u, by rw [upd_ne (fun z => by rw [z, hx] at s; cases s)]; exact s⟩)
  · exact .inr s
section
variable {X : Cx} {tg : Expr}
/-- for x in a list or a tuple: whichever it is known to be -/
def iSeq (K : PySem.W.Frag) (tl : TE) : TI := fun σ H R => iList K tl σ H R ∨ iTup K tl σ H R
theorem pi_seq {l : Expr} {tl : TE} (hl : PE X l tl) : PI X tg l (iSeq X.K tl) :=
  ⟨fun pins s σ H R I h => h.elim (fun a => (pi_list hl).run pins s σ H R I a) fun a => (pi_tup hl).run pins s σ H R I a⟩
end
section
variable {P : Program} {w : World} {K : PySem.W.Frag} {mg : Str → Option Value} {base : Heap}
/-- a method of an own class -/
structure TMeth (K : PySem.W.Frag) (C : Addr) (nm qual : Str) (st : Stmt) (ps : List Str) : Type where
  f : Addr
  fd : FuncData
  F : Fun K nm qual st f fd
  b : Binds K fd ps []
  hs : PySem.W.findIn K (.ref C) nm = some (some (.ref f))
  hf : PySem.W.isFn K (.ref f) = true
/-- a row, or data -/
def RowFlag (R : TRows K mg) (H : Hp) (x : V) (b : Bool) : Prop := (b = true ∧ ∃ a r, x = .ref a ∧ RowAt R H a r) ∨ (b = false ∧ ∃ d, Dp K H x d)
theorem RowFlag.same {R : TRows K mg} {H H' : Hp} {x : V} {b : Bool} (h : RowFlag R H x b) (s : Same H H') : RowFlag R H' x b := by
  rcases h with ⟨e, a, r, ex, h⟩ | ⟨e, d, h⟩
  · exact .inl ⟨e, a, r, ex, h.same s⟩
  · exact .inr ⟨e, d, dp_same s d x h⟩
def spIsSeq (K : PySem.W.Frag) : Sp := fun vs H Q _ => ∃ (v : V) (t : Value) (b : Bool), vs = [v] ∧ TyX K H v t ∧ PySem.W.kitAny K t [.type "list", .type "tuple"] = some b ∧ (∀ H', Same H H' → TyX K H' v t) ∧ ∀ H', Same H H' → Mo H H' → Q (.bl b) H'
theorem scIsSeq : FnScope ["value"] ["value"] (defScope sIsSeq) := ⟨rfl, rfl, rfl, by decide +kernel, rfl, by decide +kernel, by decide +kernel⟩
theorem ok_isSeq {f : Addr} {fd : FuncData} (F : Fun K "is_sequence" "is_sequence" sIsSeq f fd) (mIsi : mg "isinstance" = none) (mL : mg "list" = none) (mT : mg "tuple" = none) : FnOk P w K mg base CX0 1 f fd ["value"] (spIsSeq K) := by
  refine F.ok scIsSeq (fun vs H Q E h => ?_) (fun cdv A outer s H vs Q E hr h => ?_)
  · obtain ⟨v, t, b, rfl, _⟩ := h
    rfl
  · obtain ⟨v, t, b, rfl, ht, hk, hS, q⟩ := h
    refine ⟨_, pss_one (ps_ret (pe_callB call_isiT (by rfl) mIsi (by decide +kernel) (pa_cons (pv 0) (pa_cons (pe_tup (pa_cons (pe_bltn (v := .ty "list") (by rfl) mL (by decide +kernel) rfl) (pa_cons (pe_bltn (v := .ty "tuple") (by rfl) mT (by decide +kernel) rfl) pa_nil))) pa_nil)))), ?_⟩
    refine ⟨_, rfl, (by show 2 ≤ sizeLine; decide), fun p hp => ?_⟩
    exact ⟨v, p, _, t, _, b, rfl, upd_same, .cons (.ty _) (.cons (.ty _) .nil), hS _ (Same.new hp), hk, q _ (Same.new hp) Mo.upd⟩
def insPart (C dx : Addr) (v u : V) : HO := .ins C dx (putF "rows" u (putF "name" v []))
theorem part_name {v u : V} : (putF "rows" u (putF "name" v ([] : List (Str × V)))).lookup ("name" : Str) = some v := by
  rw [lookup_putF, if_neg (by decide +kernel), lookup_putF, if_pos rfl]
theorem part_rows {v u : V} : (putF "rows" u (putF "name" v ([] : List (Str × V)))).lookup ("rows" : Str) = some u := by
  rw [lookup_putF, if_pos rfl]
/-- what is passed as rows: no sequence, or one of so many things -/
def RowsArg (R : TRows K mg) (H : Hp) (u : V) : Option (List V × List Bool) → Prop
  | none => ∃ d, Dp K H u d ∧ seqD d = false
  | some (xs, bs) => ∃ p, u = .ref p ∧ (SqL K H p xs ∨ SqT K H p xs) ∧ Paired (RowFlag R H) xs bs ∧ xs.length ≤ 1000
theorem RowsArg.same {R : TRows K mg} {H H' : Hp} {u : V} {o : Option (List V × List Bool)} (h : RowsArg R H u o) (s : Same H H') : RowsArg R H' u o := by
  cases o with
  | none =>
    obtain ⟨d, h, e⟩ := h
    exact ⟨d, dp_same s d u h, e⟩
  | some o =>
    obtain ⟨p, e, h, hp, hl⟩ := h
    exact ⟨p, e, h.elim (fun h => .inl (s.seq h)) (fun h => .inr (Same.sqt s h)), paired_mono (fun _ _ z => z.same s) hp, hl⟩
def argOk : Option (List V × List Bool) → Bool
  | none => false
  | some (_, bs) => bs.all id
def spPartInit (R : TRows K mg) (C CP : Addr) : Sp := fun vs H Q E => ∃ (x dx : Addr) (v u : V) (d : PyData) (o : Option (List V × List Bool)), vs = [.ref x, v, u] ∧ H x = some (.ins C dx []) ∧ Dp K H v d ∧ dlen d ∧ RowsArg R H u o ∧
  (nameD d = false → RaiseW CP H E (.str "name")) ∧ (nameD d = true → argOk o = false → RaiseW CP H E (.str "rows")) ∧
  (nameD d = true → argOk o = true → ∀ xs bs, o = some (xs, bs) → ∀ tp H', KpI x H H' → Mo H H' → SqT K H' tp xs → H' x = some (insPart C dx v (.ref tp)) → Q .non H')
end
end Pn

namespace Pn
open PySem L2
/-! ### comprehensions that keep what stands: what each turn puts out -/
section
variable {K : PySem.W.Frag} {tl : TE} {g : TG} {tt : TT} {te : TE} {vs : List Nat} {σ : L2.St} {H : Hp} {Q : VK} {p : Addr} {xs : List V}
/-- one turn of a comprehension that puts out what out says -/
def LcTurn (xs : List V) (H : Hp) (g : TG) (tt : TT) (te : TE) (vs : List Nat) (σ : L2.St) (out : Nat → Option V) : Prop :=
  ∀ (i : Nat) (x : V) (Hi : Hp) (S : Hp → Prop) (Y : VK), xs[i]? = some x → Same H Hi → (out i = none → ∀ H', Same Hi H' → S H') → (∀ v, out i = some v → ∀ H', Same Hi H' → Y v H') →
    g x (wipe σ vs) Hi fun σ2 H2 => wipe σ2 vs = wipe σ vs ∧ tt σ2 H2 fun b H3 => if b = true then te σ2 H3 Y else S H3
theorem range_out (out : Nat → Option V) (i : Nat) : (List.range (i + 1)).filterMap out = (List.range i).filterMap out ++ (match out i with | none => [] | some v => [v]) := by
  rw [List.range_succ, List.filterMap_append]
  cases h : out i with
  | none => simp [h]
  | some v => simp [h]
theorem lc_keep (hl : xs.length ≤ 10000) {out : Nat → Option V} (turn : LcTurn xs H g tt te vs σ out) {D : Addr} (hD : H D = none) (i : Nat) (x : V) (Hi : Hp) (hx : xs[i]? = some x) (hP : Same H Hi ∧ Hi D = some (.lst ((List.range i).filterMap out))) :
    g x (wipe σ vs) Hi fun σ2 H2 => wipe σ2 vs = wipe σ vs ∧ tt σ2 H2 fun b H3 =>
      if b = true then te σ2 H3 fun y H4 => ∃ acc, H4 D = some (.lst acc) ∧ acc.length < sizeLine ∧ (Same H (upd H4 D (.lst (acc ++ [y]))) ∧ upd H4 D (.lst (acc ++ [y])) D = some (.lst ((List.range (i + 1)).filterMap out)))
      else (Same H H3 ∧ H3 D = some (.lst ((List.range (i + 1)).filterMap out))) := by
  obtain ⟨s, hd⟩ := hP
  have hi : i < xs.length := (List.getElem?_eq_some_iff.mp hx).1
  refine turn i x Hi (fun H3 => Same H H3 ∧ H3 D = some (.lst ((List.range (i + 1)).filterMap out))) _ hx s (fun h0 H' s' => ⟨s.trans s', ?_⟩) (fun v hv H' s' => ⟨_, s' _ _ hd, ?_, ?_, ?_⟩)
  · rw [range_out, h0, List.append_nil]
    exact s' _ _ hd
  · have h1 : ((List.range i).filterMap out).length ≤ (List.range i).length := List.length_filterMap_le _ _
    rw [List.length_range] at h1
    have h2 : (10001 : Nat) ≤ sizeLine := by decide
    omega
  · exact fun a o e => by
      rw [upd_ne (ne_of_none e hD)]
      exact s' _ _ (s _ _ e)
  · rw [upd_same, range_out, hv]
theorem lcw_list (h0 : ∀ R : VK, R (.ref p) H → tl σ H R) (hp : SqL K H p xs) (hl : xs.length ≤ 10000) {out : Nat → Option V} (turn : LcTurn xs H g tt te vs σ out)
    (fin : ∀ (D : Addr) (H' : Hp), H D = none → Same H H' → H' D = some (.lst ((List.range xs.length).filterMap out)) → Q (.ref D) H') : tLc (iList K tl) g tt te vs σ H Q :=
  h0 _ ⟨p, rfl, ⟨_, hp⟩, fun D hD => lc_list (xs := xs) (fun i Hi => Same H Hi ∧ Hi D = some (.lst ((List.range i).filterMap out))) ⟨Same.new hD, upd_same⟩ (fun _ _ _ hP => hP.1.seq hp) (lc_keep hl turn hD) (fun Hi hP => fin D Hi hD hP.1 hP.2)⟩
theorem lcw_tup (h0 : ∀ R : VK, R (.ref p) H → tl σ H R) (hp : SqT K H p xs) (hl : xs.length ≤ 10000) {out : Nat → Option V} (turn : LcTurn xs H g tt te vs σ out)
    (fin : ∀ (D : Addr) (H' : Hp), H D = none → Same H H' → H' D = some (.lst ((List.range xs.length).filterMap out)) → Q (.ref D) H') : tLc (iTup K tl) g tt te vs σ H Q :=
  h0 _ ⟨p, rfl, ⟨_, hp⟩, fun D hD => lc_tup (xs := xs) (fun i Hi => Same H Hi ∧ Hi D = some (.lst ((List.range i).filterMap out))) ⟨Same.new hD, upd_same⟩ (fun _ _ _ hP => Same.sqt hP.1 hp) (lc_keep hl turn hD) (fun Hi hP => fin D Hi hD hP.1 hP.2)⟩
theorem lcw_seq (h0 : ∀ R : VK, R (.ref p) H → tl σ H R) (hp : SqL K H p xs ∨ SqT K H p xs) (hl : xs.length ≤ 10000) {out : Nat → Option V} (turn : LcTurn xs H g tt te vs σ out)
    (fin : ∀ (D : Addr) (H' : Hp), H D = none → Same H H' → H' D = some (.lst ((List.range xs.length).filterMap out)) → Q (.ref D) H') : tLc (iSeq K tl) g tt te vs σ H Q :=
  hp.elim (fun h => .inl (lcw_list h0 h hl turn fin)) (fun h => .inr (lcw_tup h0 h hl turn fin))
/-- what is put out, by a list beside -/
theorem out_map {α β : Type} {l : List α} {f : α → β} : (List.range l.length).filterMap (fun i => (l[i]?).map f) = l.map f := by
  induction l with
  | nil => rfl
  | cons a l ih =>
    rw [List.length_cons, List.range_succ_eq_map, List.filterMap_cons]
    simp only [List.getElem?_cons_zero, Option.map_some, List.filterMap_map, List.map_cons]
    congr 1
theorem out_filter {α β : Type} {l : List α} {f : α → Option β} : (List.range l.length).filterMap (fun i => (l[i]?).bind f) = l.filterMap f := by
  induction l with
  | nil => rfl
  | cons a l ih =>
    have e : (List.range l.length).filterMap ((fun i => ((a :: l)[i]?).bind f) ∘ Nat.succ) = l.filterMap f := by
      rw [← ih]
      rfl
    rw [List.length_cons, List.range_succ_eq_map, List.filterMap_cons, List.filterMap_map, e, List.filterMap_cons]
    rfl
/-- one turn of a walk whose body goes on with Pv -/
def ForTurn (xs : List V) (g : TG) (tb : TS) (D : Ends) (Pv : Nat → L2.St → Hp → Prop) : Prop :=
  ∀ (i : Nat) (x : V) (σ : L2.St) (H : Hp), xs[i]? = some x → Pv i σ H → g x σ H fun σ2 H2 => tb { D with nx := Pv (i + 1), ct := Pv (i + 1), bk := D.nx } σ2 H2
theorem forw_list {tb : TS} {D : Ends} (h0 : ∀ R : VK, R (.ref p) H → tl σ H R) (hp : SqL K H p xs) (Pv : Nat → L2.St → Hp → Prop) (P0 : Pv 0 σ H) (hl : ∀ i σ' H', Pv i σ' H' → SqL K H' p xs) (turn : ForTurn xs g tb D Pv)
    (fin : ∀ σ' H', Pv xs.length σ' H' → D.nx σ' H') : tFor (iList K tl) g tb D σ H :=
  h0 _ ⟨p, rfl, ⟨_, hp⟩, for_list (xs := xs) Pv P0 (fun i σ' H' _ hP => hl i σ' H' hP) turn fin⟩
theorem forw_tup {tb : TS} {D : Ends} (h0 : ∀ R : VK, R (.ref p) H → tl σ H R) (hp : SqT K H p xs) (Pv : Nat → L2.St → Hp → Prop) (P0 : Pv 0 σ H) (hl : ∀ i σ' H', Pv i σ' H' → SqT K H' p xs) (turn : ForTurn xs g tb D Pv)
    (fin : ∀ σ' H', Pv xs.length σ' H' → D.nx σ' H') : tFor (iTup K tl) g tb D σ H :=
  h0 _ ⟨p, rfl, ⟨_, hp⟩, for_tup (xs := xs) Pv P0 (fun i σ' H' _ hP => hl i σ' H' hP) turn fin⟩
theorem forw_seq {tb : TS} {D : Ends} {H0 : Hp} (h0 : ∀ R : VK, R (.ref p) H → tl σ H R) (hp : SqL K H0 p xs ∨ SqT K H0 p xs) (Pv : Nat → L2.St → Hp → Prop) (P0 : Pv 0 σ H) (hl : ∀ i σ' H', Pv i σ' H' → Same H0 H') (turn : ForTurn xs g tb D Pv)
    (fin : ∀ σ' H', Pv xs.length σ' H' → D.nx σ' H') : tFor (iSeq K tl) g tb D σ H :=
  hp.elim (fun h => .inl (forw_list h0 ((hl 0 σ H P0).seq h) Pv P0 (fun i σ' H' hP => (hl i σ' H' hP).seq h) turn fin)) (fun h => .inr (forw_tup h0 (Same.sqt (hl 0 σ H P0) h) Pv P0 (fun i σ' H' hP => Same.sqt (hl i σ' H' hP) h) turn fin))
theorem keep_seq {K : PySem.W.Frag} {H H' : Hp} {p : Addr} {xs : List V} (s : Same H H') : (SqL K H p xs → SqL K H' p xs) ∧ (SqT K H p xs → SqT K H' p xs) := ⟨fun h => s.seq h, fun h => Same.sqt s h⟩
/-- [e for x in xs for y in x.ys if ..]: the walk over both, told by the two turns -/
theorem lc2_walk {J : It} {n : Nat} {G : Hp → Prop} (wk : Walk J n G (YAt xs)) (hn : n = xs.length) {k k1 : Nat} {te1 : TE} {tt1 : TT} {vs1 : List Nat} {D : Addr} (Pv : Nat → Nat → Hp → Prop) (P0 : Pv 0 0 (upd H D (.lst []))) (keep : ∀ i Hi, Pv i 0 Hi → G Hi)
    (hw : ∀ x, wipe ((wipe σ vs).set k (some x)) vs = wipe σ vs)
    (inner : ∀ (i : Nat) (x : V) (Hi : Hp), xs[i]? = some x → Pv i 0 Hi → ∃ (a : Addr) (ys : List V), (∀ R : VK, R (.ref a) Hi → te1 ((wipe σ vs).set k (some x)) Hi R) ∧ (∀ j Hj, Pv i j Hj → SqT K Hj a ys) ∧ (∀ Hj, Pv i ys.length Hj → Pv (i + 1) 0 Hj) ∧
      ∀ (j : Nat) (y : V) (Hj : Hp), ys[j]? = some y → Pv i j Hj → wipe ((wipe ((wipe σ vs).set k (some x)) vs1).set k1 (some y)) vs1 = wipe ((wipe σ vs).set k (some x)) vs1 ∧
        tt1 ((wipe ((wipe σ vs).set k (some x)) vs1).set k1 (some y)) Hj fun b H6 => if b = true then te ((wipe ((wipe σ vs).set k (some x)) vs1).set k1 (some y)) H6 fun z H7 => ∃ acc, H7 D = some (.lst acc) ∧ acc.length < sizeLine ∧ Pv i (j + 1) (upd H7 D (.lst (acc ++ [z]))) else Pv i (j + 1) H6)
    (fin : ∀ Hi, Pv n 0 Hi → Q (.ref D) Hi) :
    ∃ W : Nat → Nat → Hp → Prop, (∃ m, W 0 m (upd H D (.lst []))) ∧ ∀ i m H, W i m H →
      (J.stop i H ∧ Q (.ref D) H) ∨ (J.go i H ∧ ∃ Nx : Hp → Prop, (∀ H', Nx H' → ∃ m', m' < m ∧ W (i + 1) m' H') ∧ ∀ x H', J.yld i H x H' → gName k x (wipe σ vs) H' fun σ2 H2 => wipe σ2 vs = wipe σ vs ∧ tYes σ2 H2 fun b H3 =>
        if b = true then iTup K te1 σ2 H3 fun J1 H4 => ∃ W1 : Nat → Nat → Hp → Prop, (∃ m, W1 0 m H4) ∧ ∀ j k H, W1 j k H →
          (J1.stop j H ∧ Nx H) ∨ (J1.go j H ∧ ∃ Nx1 : Hp → Prop, (∀ H', Nx1 H' → ∃ k', k' < k ∧ W1 (j + 1) k' H') ∧ ∀ x H', J1.yld j H x H' → gName k1 x (wipe σ2 vs1) H' fun σ3 H5 => wipe σ3 vs1 = wipe σ2 vs1 ∧ tt1 σ3 H5 fun b H6 =>
            if b = true then te σ3 H6 fun y H7 => ∃ acc, H7 D = some (.lst acc) ∧ acc.length < sizeLine ∧ Nx1 (upd H7 D (.lst (acc ++ [y]))) else Nx1 H6)
        else Nx H3) := by
  refine ⟨fun i m Hi => m = n - i ∧ i ≤ n ∧ Pv i 0 Hi, ⟨n, by simp, Nat.zero_le _, P0⟩, ?_⟩
  rintro i m Hi ⟨rfl, hi, pv⟩
  by_cases lt : i < n
  · refine .inr ⟨wk.goes i Hi lt (keep i Hi pv), Pv (i + 1) 0, fun H' p' => ⟨n - (i + 1), by omega, rfl, lt, p'⟩, fun x H' y => ?_⟩
    obtain ⟨rfl, hx⟩ := wk.yields i Hi x H' lt (keep i Hi pv) y
    obtain ⟨a, ys, h1, h2, h3, h4⟩ := inner i x _ hx pv
    refine ⟨hw x, ?_⟩
    unfold tYes
    refine iteT ?_
    unfold iTup
    refine h1 _ ⟨a, rfl, ⟨ys, h2 0 _ pv⟩, fun j m Hj => m = ys.length - j ∧ j ≤ ys.length ∧ Pv i j Hj, ⟨ys.length, by simp, Nat.zero_le _, pv⟩, ?_⟩
    rintro j m Hj ⟨rfl, hj, pj⟩
    have wt : Walk (Itt K a) ys.length (fun H => SqT K H a ys) (YAt ys) := walk_tup
    by_cases lj : j < ys.length
    · refine .inr ⟨wt.goes j Hj lj (h2 j Hj pj), Pv i (j + 1), fun H' p' => ⟨ys.length - (j + 1), by omega, rfl, lj, p'⟩, fun y H' yy => ?_⟩
      obtain ⟨rfl, hy⟩ := wt.yields j Hj y H' lj (h2 j Hj pj) yy
      exact h4 j y _ hy pj
    · obtain rfl : j = ys.length := by omega
      exact .inl ⟨wt.stops Hj (h2 _ Hj pj), h3 Hj pj⟩
  · obtain rfl : i = n := by omega
    exact .inl ⟨wk.stops Hi (keep _ Hi pv), fin Hi pv⟩
end
end Pn

namespace Pn
open PySem L2
/-! ### tuple(list), of which it is known that it keeps no own attributes, and dict(..) of such a tuple of pairs -/
def TupX (H : Hp) (a : Addr) (xs : List V) : Prop := ∃ o : Obj, o.dict = none ∧ H a = some (.frz o (.tup xs))
theorem TupX.same {H H' : Hp} {a : Addr} {xs : List V} (h : TupX H a xs) (s : Same H H') : TupX H' a xs := by
  obtain ⟨o, d, e⟩ := h
  exact ⟨o, d, s _ _ e⟩
theorem TupX.sqt {K : PySem.W.Frag} {H : Hp} {a : Addr} {xs : List V} (h : TupX H a xs) : SqT K H a xs := by
  obtain ⟨o, _, e⟩ := h
  exact .inl (.inr ⟨o, e⟩)
def rTupX (K : PySem.W.Frag) : List V → Hp → VK → Prop := fun xs H Q => ∃ (p : Addr) (ys : List V), xs = [.ref p] ∧ SqL K H p ys ∧ ∀ (l : Addr) (H' : Hp), H l = none → Same H H' → Mo H H' → (∀ b, b ≠ l → H' b = H b) → TupX H' l ys → Q (.ref l) H'
theorem cr_tupX {X : Cx} : CallR X (.type "tuple") (rTupX X.K) := by
  rintro pins s σ H xs us Q I r ⟨p, ys, rfl, hq, q⟩
  obtain ⟨u, rfl, rx⟩ := vals1 r
  cases rx
  obtain ⟨its, rv, pl, hz⟩ := I.list hq
  have hlen := rv.length
  refine call_tuple_list pl.isList (fun h' kp => ?_) (by simp only [List.size_toArray] <;> omega)
  have I1 : Inv X pins σ H { s with heap := h' } := I.kept (t' := s.toks) kp
  have fr := I1.hok.fresh (Nat.le_refl _)
  let o : Obj := { cls := .type "tuple", data := .seq its.toArray }
  have I2 : Inv X pins σ (upd H h'.objs.size (.frz o (.tup ys))) { s with heap := h'.push o } :=
    I1.laid (t' := s.toks) (fun b ob e => Heap.get?_push_of_some _ e) (Nat.le_refl _) ⟨Heap.get?_push_size _ rfl, hz, its, rv, PyProof.Rows.IsTup.new _ _⟩
  exact ⟨.ref h'.objs.size, _, I2, rfl, q _ _ fr (Same.new fr) Mo.upd (fun b nb => upd_ne nb) ⟨o, rfl, upd_same⟩⟩
/-- .. or of such a tuple: the very same -/
def rTupX2 (K : PySem.W.Frag) : List V → Hp → VK → Prop := fun xs H Q => ∃ (p : Addr) (ys : List V), xs = [.ref p] ∧ (SqL K H p ys ∨ TupX H p ys) ∧ ∀ (l : Addr) (H' : Hp), Same H H' → TupX H' l ys → Q (.ref l) H'
theorem cr_tupX2 {X : Cx} : CallR X (.type "tuple") (rTupX2 X.K) := by
  rintro pins s σ H xs us Q I r ⟨p, ys, rfl, hq | hq, q⟩
  · exact cr_tupX pins s σ H _ us Q I r ⟨p, ys, rfl, hq, fun l H' _ s' _ _ h => q l H' s' h⟩
  · exact call_tuple_of pins s σ H _ us Q I r ⟨p, ys, rfl, .inr ⟨hq.sqt, q p H (Same.refl _) hq⟩⟩
theorem vps_of {X : Cx} {pins : List (Addr × Obj)} {σ : L2.St} {H : Hp} {s : Shared} (I : Inv X pins σ H s) {ps : List Addr} {kvs : List (Key × V)} (h : Paired (fun p kv => SqT X.K H p [kV kv.1, kv.2]) ps kvs) :
    ∃ (prs : List (Key × Value)) (vps : List (Value × Value)), KV kvs prs ∧ prs.length = ps.length ∧ vps.length = ps.length ∧
      ∀ (j : Nat) (k v : Value), vps[j]? = some (k, v) → ∃ (b : Addr) (kk : Key), ps[j]? = some b ∧ s.heap.IsTuple b #[k, v] ∧ prs[j]? = some (kk, v) ∧ keyIs kk k = true := by
  induction h with
  | nil => exact ⟨[], [], .nil, rfl, rfl, fun j k v e => by simp at e⟩
  | cons a b ih =>
    rename_i p kv l m
    obtain ⟨prs, vps, h1, h2, h3, h4⟩ := ih
    obtain ⟨its, rv, ht, _⟩ := I.tuple a
    obtain ⟨u, y, rfl, ru, ry⟩ := vals2 rv
    refine ⟨(kv.1, y) :: prs, (u, y) :: vps, .cons ⟨rfl, ry⟩ h1, by simp [h2], by simp [h3], fun j k v e => ?_⟩
    cases j with
    | zero =>
      obtain ⟨rfl, rfl⟩ : u = k ∧ y = v := by simpa using e
      exact ⟨p, kv.1, rfl, ht, rfl, kV_is (P := X.prog) (w := X.w) ru⟩
    | succ j =>
      obtain ⟨c, kk, g1, g2, g3, g4⟩ := h4 j k v (by simpa using e)
      exact ⟨c, kk, by simpa using g1, g2, by simpa using g3, g4⟩
def rDictX (K : PySem.W.Frag) : List V → Hp → VK → Prop := fun xs H Q => ∃ (a : Addr) (ps : List Addr) (kvs : List (Key × V)), xs = [.ref a] ∧ TupX H a (ps.map V.ref) ∧ Paired (fun p kv => SqT K H p [kV kv.1, kv.2]) ps kvs ∧
  ∀ p, H p = none → Q (.ref p) (upd H p (.dK (mergeK [] kvs)))
theorem cr_dictX {X : Cx} (hc : X.calm = true) : CallR X (.type "dict") (rDictX X.K) := by
  rintro pins s σ H xs us Q I r ⟨a, ps, kvs, rfl, ⟨o, hod, ha⟩, hp, q⟩
  obtain ⟨u, rfl, rx⟩ := vals1 r
  cases rx
  obtain ⟨ho, hz, its, rv, o2, ho2, hcl, n, hdat⟩ := I.hok a _ ha
  obtain rfl : o = o2 := Option.some.inj (ho.symm.trans ho2)
  have ei := refs_at rv
  subst ei
  rw [List.length_map] at hz
  obtain ⟨prs, vps, rel, hl, hv, hat⟩ := vps_of I hp
  refine PySem.call_dict_pairs (knd := mixKind X.prog X.w) (kvs := prs) (PairArg.tuple a (ps.map Value.ref).toArray (fun j => (ps[j]?).getD 0) vps) (I.ok.hd hc) ⟨⟨o, n, ho, hcl, hod, hdat⟩, by simp [hv], fun j k v e => ?_⟩ ⟨by rw [hl, hv], fun i key v e => ?_⟩ (by rw [hv]; exact hz) fun h' tk hd' k => ?_
  · obtain ⟨b, kk, g1, g2, _⟩ := hat j k v e
    exact ⟨by simp [g1], .inl (by show s.heap.IsTuple ((ps[j]?).getD 0) _; rw [g1]; exact g2)⟩
  · obtain ⟨b, kk, _, _, g3, g4⟩ := hat i key v e
    exact ⟨kk, g3, g4⟩
  · have hm : (s.heap.objs.size == sysModules) = false := beq_eq_false_iff_ne.mpr (Nat.ne_of_gt I.big)
    have hln : (mergeK [] kvs).length ≤ sizeLine := by
      have h1 := length_mergeK kvs []
      have h2 := rel.length
      rw [List.length_nil] at h1
      omega
    exact ⟨.ref s.heap.objs.size, _, I.laid (t' := tk) (fun b ob e => k b ob (by simp) e) (Nat.le_refl _) (show ObjOk X.prog X.w _ _ _ (.dK (mergeK [] kvs)) from ⟨hln, hm, merged [] prs, KV.merge rel .nil, hd'⟩), rfl, q _ (I.hok.fresh (Nat.le_refl _))⟩
/-! ### what such a dict holds -/
def csKv (cs : List (Str × Str)) : List (Key × V) := cs.map fun c => (Sum.inr c.1, V.str c.2)
theorem merge_out : ∀ {cs : List (Str × Str)} {kv : List (Key × V)} {z : Str}, z ∉ cs.map (·.1) → valV (mergeK kv (csKv cs)) (.inr z) = valV kv (.inr z)
  | [], kv, z, _ => rfl
  | c :: cs, kv, z, h => by
    have h1 : z ≠ c.1 := fun e => h (by rw [e]; exact List.mem_cons_self)
    have h2 : z ∉ cs.map (·.1) := fun e => h (List.mem_cons_of_mem _ e)
    show valV (mergeK (putK kv (.inr c.1) (.str c.2)) (csKv cs)) (.inr z) = _
    rw [merge_out h2, valV_put, if_neg (fun e => h1 (by injection e))]
theorem merge_in : ∀ {cs : List (Str × Str)} {kv : List (Key × V)} {c : Str × Str}, (cs.map (·.1)).Nodup → c ∈ cs → valV (mergeK kv (csKv cs)) (.inr c.1) = some (.str c.2)
  | [], kv, c, _, h => by cases h
  | d :: cs, kv, c, nd, h => by
    rw [List.map_cons, List.nodup_cons] at nd
    show valV (mergeK (putK kv (.inr d.1) (.str d.2)) (csKv cs)) (.inr c.1) = _
    rcases List.mem_cons.mp h with rfl | h
    · rw [merge_out nd.1, valV_put, if_pos rfl]
    · exact merge_in nd.2 h
end Pn

namespace Pn
open PySem PySem.Spec PyProof.Rows PySem.Froz
/-! ### sets of texts: which are in it, and a table that can be walked -/
/-- the texts of a list, each once -/
def uniq (l : List Str) : List Str := l.foldl (fun acc x => if x ∈ acc then acc else x :: acc) []
theorem uniq_snoc (l : List Str) (x : Str) : uniq (l ++ [x]) = if x ∈ uniq l then uniq l else x :: uniq l := by
  unfold uniq
  rw [List.foldl_append]
  rfl
theorem uniq_has : ∀ (l : List Str) (z : Str), z ∈ uniq l ↔ z ∈ l := by
  have key : ∀ (l acc : List Str) (z : Str), z ∈ l.foldl (fun acc x => if x ∈ acc then acc else x :: acc) acc ↔ z ∈ acc ∨ z ∈ l := by
    intro l
    induction l with
    | nil => intro acc z; simp
    | cons x l ih =>
      intro acc z
      rw [List.foldl_cons, ih]
      by_cases h : x ∈ acc
      · rw [if_pos h]
        constructor
        · rintro (h1 | h1)
          · exact .inl h1
          · exact .inr (List.mem_cons_of_mem _ h1)
        · rintro (h1 | h1)
          · exact .inl h1
          · rcases List.mem_cons.mp h1 with rfl | h1
            · exact .inl h
            · exact .inr h1
      · rw [if_neg h]
        simp only [List.mem_cons]
        constructor
        · rintro ((h1 | h1) | h1)
          · exact .inr (.inl h1)
          · exact .inl h1
          · exact .inr (.inr h1)
        · rintro (h1 | h1 | h1)
          · exact .inl (.inr h1)
          · exact .inl (.inl h1)
          · exact .inr h1
  intro l z
  exact (key l [] z).trans (by simp)
theorem uniq_nodup (l : List Str) : (uniq l).Nodup := by
  have key : ∀ (l acc : List Str), acc.Nodup → (l.foldl (fun acc x => if x ∈ acc then acc else x :: acc) acc).Nodup := by
    intro l
    induction l with
    | nil => intro acc h; exact h
    | cons x l ih =>
      intro acc h
      rw [List.foldl_cons]
      refine ih _ ?_
      by_cases e : x ∈ acc
      · rw [if_pos e]; exact h
      · rw [if_neg e]; exact List.nodup_cons.mpr ⟨e, h⟩
  exact key l [] List.nodup_nil
theorem uniq_len (l : List Str) : (uniq l).length ≤ l.length := by
  have key : ∀ (l acc : List Str), (l.foldl (fun acc x => if x ∈ acc then acc else x :: acc) acc).length ≤ acc.length + l.length := by
    intro l
    induction l with
    | nil => intro acc; exact Nat.le_refl _
    | cons x l ih =>
      intro acc
      rw [List.foldl_cons, List.length_cons]
      have q := ih (if x ∈ acc then acc else x :: acc)
      by_cases e : x ∈ acc
      · rw [if_pos e] at q ⊢; omega
      · rw [if_neg e] at q ⊢
        rw [List.length_cons] at q
        omega
  have q := key l []
  unfold uniq
  simpa using q
theorem addTx_led (h : Int) (v : Value) (D : SD) : (addTx h v D).2.2.led = D.2.2.led := by
  have e := L2.layNew_led D.2.2 D.1 h v
  unfold addTx tailTx
  by_cases c : (layNew D.2.2 D.1 h v).2.1.plain = true
  · rw [if_pos c]
    split
    · exact (L2.relayAll_led _ _ _).trans e
    · exact e
  · rw [if_neg c]
    split
    · exact (L2.relayAll_led _ _ _).trans e
    · exact e
theorem addTx_ris (h : Int) (v : Value) (D : SD) (r : L2.Ris D.2.2.place.toList) : L2.Ris (addTx h v D).2.2.place.toList := by
  have e := L2.layNew_ris D.2.2 D.1 h v r
  unfold addTx tailTx
  by_cases c : (layNew D.2.2 D.1 h v).2.1.plain = true
  · rw [if_pos c]
    split
    · exact L2.relayAll_ris _ _ _
    · exact e
  · rw [if_neg c]
    split
    · exact L2.relayAll_ris _ _ _
    · exact e
/-- at a stands the set of the texts l -/
def TxtSet (P : Program) (w : World) (h : Heap) (a : Addr) (l : List Str) : Prop :=
  ∃ D : SD, h.get? a = some (sObj "set" D) ∧ TxOk P w D l ∧ L2.Ris D.2.2.place.toList ∧ (w.params.followText "set-order" = true ∨ D.2.2.led = true) ∧ l.Nodup
theorem TxtSet.keep {P : Program} {w : World} {h h' : Heap} {a : Addr} {l : List Str} (R : TxtSet P w h a l) (k : ∀ o, h.get? a = some o → h'.get? a = some o) : TxtSet P w h' a l := by
  obtain ⟨D, ho, r⟩ := R
  exact ⟨D, k _ ho, r⟩
section
variable {P : Program} {w : World} {A : Around} {E : Value → Shared → Prop} {s : Shared}
/-- a text that is there is not put in again -/
theorem held_x {a : Addr} {T : String} {D : SD} {l : List Str} {k : Str} {u : Tok} {Q : Bool → Shared → Prop} (ho : s.heap.get? a = some (sObj T D)) (F : TxOk P w D l) (hk : k ∈ l) (hb : l.length < scanBound) (h : Q false s) :
    wpAny (model P w) A (setAddHashed a (.str k u) (hashStr w k)) Q E s := by
  obtain ⟨es, ep, t⟩ := D
  have dat : (sObj T (es, ep, t)).data = .set es ep t := rfl
  have elm : ElemsOf (strKind P w) es.toList := F.el
  have low : es.size < scanBound := by rw [show es.size = l.length from F.sz]; exact hb
  have key : (strKind P w).is k (.str k u) = true := is_str k u
  obtain ⟨j, found⟩ : ∃ j, List.findIdx? (fun e => (strKind P w).is k e.2) es.toList = some j := by
    cases q : List.findIdx? (fun e => (strKind P w).is k e.2) es.toList with
    | some j => exact ⟨j, rfl⟩
    | none =>
      obtain ⟨e, he, hi⟩ := (F.mem k).mp hk
      exact absurd hi (by rw [List.findIdx?_eq_none_iff.mp q e he]; decide)
  unfold setAddHashed setAddHashedIn
  refine wpAny_holding ?_
  refine wpAny_bind (wpAny_setState_of ho dat F.fit ?_)
  dsimp only
  rw [byScan_of rfl low elm]
  simp only [↓reduceIte]
  unfold setAddByScan
  refine wpAny_bind (wpAny_bind (wpAny_rule ?_))
  refine wpAny_bind (wpAny_setScan_of (k := k) (knd := strKind P w) key ho dat F.fit elm ?_)
  rw [found]
  exact wpAny_pure (wpAny_pure h)
theorem txt_new {h : Heap} {a : Addr} (ho : h.get? a = some (sObj "set" (#[], 0, .fresh 0 0 (!w.params.followText "set-order")))) : TxtSet P w h a [] :=
  ⟨_, ho, TxOk.nil (by rfl), List.Pairwise.nil, (by
    show _ ∨ (!w.params.followText "set-order") = true
    cases w.params.followText "set-order" <;> simp), List.nodup_nil⟩
/-- one text is put in -/
theorem txt_add {a : Addr} {l : List Str} {k : Str} {u : Tok} {Q : Bool → Shared → Prop} (R : TxtSet P w s.heap a l) (hb : l.length + 1 < scanBound)
    (h : ∀ b h', (∀ c, c ≠ a → h'.get? c = s.heap.get? c) → TxtSet P w h' a (if k ∈ l then l else k :: l) → Q b { s with heap := h' }) : wpAny (model P w) A (setAddHashed a (.str k u) (hashStr w k)) Q E s := by
  obtain ⟨D, ho, F, r, g, nd⟩ := id R
  by_cases hk : k ∈ l
  · refine held_x ho F hk (by omega) ?_
    have q := h false s.heap (fun _ _ => rfl)
    rw [if_pos hk] at q
    exact q R
  · refine add_x ho F hk hb ?_
    have q := h true (s.heap.update a fun _ => sObj "set" (addTx (hashStr w k) (.str k u) D)) (fun c n => Heap.get?_update_other _ _ n.symm)
    rw [if_neg hk] at q
    exact q ⟨_, get_upd _ ho rfl, add_ok u F, addTx_ris _ _ _ r, g.imp id fun z => (addTx_led _ _ _).trans z, List.nodup_cons.mpr ⟨hk, nd⟩⟩
theorem loop_txt {I : Addr} {fp wr : List Addr} {G : Array GenState → Array GenState → Prop} {n : Nat} {Pv : Nat → Value → Prop} {St : Nat → Shared → Prop} {R : Result → Shared → Prop} (W : WalksS P w A.in1 I fp wr G n Pv St)
    (S : Addr) (out : S ∉ fp) (xs : List Str) (hn : n = xs.length) (low : n + 1 < scanBound) (hv : ∀ i v, Pv i v → ∃ x t, xs[i]? = some x ∧ v = .str x t) : ∀ (k i : Nat) (s : Shared), n - i = k → i ≤ n → St i s → TxtSet P w s.heap S (uniq (xs.take i)) →
      (∀ s', Moved (S :: wr) G s s' → TxtSet P w s'.heap S (uniq xs) → R (.ok (.ret .none)) s') → codeAny (model P w) A (.builtin "set.update.loop" ⟨[.ref S, .ref I], []⟩) R s := by
  have outW : S ∉ wr := fun h => out (W.sub _ h)
  have more : ∀ b ∈ wr, b ∈ S :: wr := fun b h => List.mem_cons_of_mem _ h
  intro k
  induction k with
  | zero =>
    intro i s e1 e2 st X fin
    obtain rfl : i = n := by omega
    refine codeAny_builtin PyProof.Rows.F.entry_set_update_loop ?_
    rw [Around.under_plainId PyProof.Rows.F.plain_set_update_loop _]
    show wpAny _ A.in1 (pyNext (.ref I) >>= _) _ _ s
    refine wpAny_bind (W.done s _ _ st fun s' mv => wpAny_pure (fin s' (mv.mono more) ?_))
    rw [hn, List.take_length] at X
    exact X.keep fun o e => mv.heap S o outW e
  | succ k ih =>
    intro i s e1 e2 st X fin
    have lt : i < n := by omega
    refine codeAny_builtin PyProof.Rows.F.entry_set_update_loop ?_
    rw [Around.under_plainId PyProof.Rows.F.plain_set_update_loop _]
    show wpAny _ A.in1 (pyNext (.ref I) >>= _) _ _ s
    refine wpAny_bind (W.item i s _ _ lt st fun v s1 pv st1 mv => ?_)
    obtain ⟨x, t, hx, rfl⟩ := hv i v pv
    have X1 := X.keep (h' := s1.heap) fun o e => mv.heap S o outW e
    show wpAny _ A.in1 (holding [Value.str x t] (setAdd S (.str x t)) >>= _) _ _ s1
    refine wpAny_bind (wpAny_holding ?_)
    unfold setAdd
    refine wpAny_holding (wpAny_bind ((PySem.strKind P w).pyHash (is_str x t) ?_))
    have few : (uniq (xs.take i)).length + 1 < scanBound := by
      have := uniq_len (xs.take i)
      rw [List.length_take] at this
      omega
    refine txt_add (s := { s1 with toks := s1.toks + 1 }) X1 few fun b h' oth X2 => ?_
    have e3 : (if x ∈ uniq (xs.take i) then uniq (xs.take i) else x :: uniq (xs.take i)) = uniq (xs.take (i + 1)) := by
      rw [List.take_add_one, hx]
      exact (uniq_snoc _ _).symm
    rw [e3] at X2
    refine wpAny_pure ⟨plainId_quiet PyProof.Rows.F.plain_set_update_loop _, ih (i + 1) _ (by omega) lt (W.frame (i + 1) s1 h' (s1.toks + 1) st1 (by omega) fun c hc o e => ?_) X2 fun s2 mv2 X3 => fin s2 (Moved.trans W.gtrans ((mv.mono more).then_heap (Nat.le_succ _) fun c o hc e => ?_) mv2) X3⟩
    · exact (oth c fun z => out (z ▸ hc)).trans e
    · exact (oth c fun z => hc (z ▸ List.mem_cons_self)).trans e
theorem perm_of_sup {α : Type} [DecidableEq α] {l ks : List α} (nd : l.Nodup) (sup : ∀ k ∈ l, k ∈ ks) (len : ks.length ≤ l.length) : l.Perm ks := by
  induction l generalizing ks with
  | nil =>
    cases ks with
    | nil => exact .nil
    | cons k ks => simp at len
  | cons x l ih =>
    obtain ⟨h1, h2⟩ := List.nodup_cons.mp nd
    have hx := sup x List.mem_cons_self
    have p : ks.Perm (x :: ks.erase x) := List.perm_cons_erase hx
    refine List.Perm.trans (.cons x (ih h2 (fun k hk => ?_) ?_)) p.symm
    · have q := p.mem_iff.mp (sup k (List.mem_cons_of_mem _ hk))
      rcases List.mem_cons.mp q with rfl | q
      · exact absurd hk h1
      · exact q
    · have q := p.length_eq
      simp only [List.length_cons] at q len
      omega
theorem strs_perm : ∀ {vs us : List Value} {xs : List Str}, StrsAre vs xs → vs.Perm us → ∃ ys, StrsAre us ys ∧ ys.Perm xs := by
  intro vs us xs h p
  induction p generalizing xs with
  | nil => exact ⟨xs, h, .refl _⟩
  | cons v _ ih =>
    cases h with
    | cons x t r =>
      obtain ⟨ys, h1, h2⟩ := ih r
      exact ⟨x :: ys, .cons x t h1, h2.cons x⟩
  | swap v u l =>
    cases h with
    | cons x t r =>
      cases r with
      | cons y t2 r => exact ⟨y :: x :: _, .cons y t2 (.cons x t r), .swap _ _ _⟩
  | trans _ _ ih1 ih2 =>
    obtain ⟨ys, h1, h2⟩ := ih1 h
    obtain ⟨zs, h3, h4⟩ := ih2 h1
    exact ⟨zs, h3, h4.trans h2⟩
theorem strs_get : ∀ {vs : List Value} {xs : List Str} {i : Nat} {v : Value}, StrsAre vs xs → vs[i]? = some v → ∃ x t, xs[i]? = some x ∧ v = .str x t
  | _, _, i, v, .nil, h => by simp at h
  | _, _, 0, v, .cons x t r, h => ⟨x, t, rfl, (Option.some.inj h).symm⟩
  | _, _, i + 1, v, .cons x t r, h => strs_get (i := i) r h
/-- the new set, empty -/
abbrev bare (w : World) : Obj := sObj "set" (#[], 0, .fresh 0 0 (!w.params.followText "set-order"))
set_option maxHeartbeats 3200000 in
/-- set(xs), xs a list of texts -/
theorem set_of_texts {l : Addr} {items : Array Value} {xs : List Str} {Q : Value → Shared → Prop} (calm : A.handled = none) (hl : s.heap.IsList l items) (hx : StrsAre items.toList xs) (low : xs.length + 1 < scanBound)
    (h : ∀ (h' : Heap) (tk : Nat), TxtSet P w h' s.heap.objs.size (uniq xs) → (∀ b o, s.heap.get? b = some o → h'.get? b = some o) → Q (.ref s.heap.objs.size) { s with heap := h', toks := tk }) : wpAny (model P w) A (call (.type "set") [.ref l]) Q E s := by
  have sz : items.size = xs.length := by
    have q := StrsAre.length hx
    rw [Array.length_toList] at q
    exact q
  obtain ⟨mc, mt, mro⟩ := PySem.F.called_set.mro
  have made := PySem.F.called_set.made
  have sub := PySem.F.called_set.sub
  have notT := PySem.F.called_set.notType
  have can := PySem.F.called_set.canCreate
  have chk := PySem.F.typeCall_set_1 (.ref l)
  refine wpAny_call (codeAny_of_tree (show wpAny _ _ (callAny (.type "set") _) _ _ _ from wpAny_pure ⟨Code.quiet_builtin _ (by decide +kernel), codeAny_builtin PySem.F.entry_type_call ?_⟩))
  rw [Around.under_plain (weight_type_call_type "set" [.ref l] []) rfl]
  repeat (any_goals (first | assumption | wp_step))
  let S := s.heap.objs.size
  let H1 := s.heap.push (bare w)
  refine codeAny_mono (L2.code_set_led1 (.ref l) (E := E) (Q₁ := fun v s1 => v = .ref S ∧ s1 = { s with heap := H1 }) ⟨rfl, rfl⟩) fun r s1 hr => ?_
  match r, hr with
  | .error e, hr => exact hr
  | .ok .next, hr => exact hr.elim
  | .ok .brk, hr => exact hr.elim
  | .ok .cont, hr => exact hr.elim
  | .ok (.ret v), ⟨e1, e2⟩ =>
    subst e1
    subst e2
    have there : H1.get? S = some (bare w) := Heap.get?_push_size _ rfl
    have ty : Shared.TypeIs { s with heap := H1 } (.ref S) "set" := ⟨_, there, rfl⟩
    have look := PySem.F.called_set.init.lookup
    have bnd := PySem.F.called_set.init.bind (.ref S)
    repeat (any_goals (first | assumption | wp_step))
    refine codeAny_mono (codeAny_call_builtin (R := wants (fun v s2 => v = .none ∧ ∃ h' tk, s2 = { s with heap := h', toks := tk } ∧ TxtSet P w h' S (uniq xs) ∧ ∀ b o, s.heap.get? b = some o → h'.get? b = some o) E)
      PySem.F.called_set.init.plain PySem.F.entry_set_init (check_set_init_1 ty ?_)) fun r2 s2 hr2 => ?_
    · obtain ⟨⟨kc, kd, kt, ks⟩, ol, c1, nl, c2⟩ := hl
      simp only at c1 c2
      subst c1
      subst c2
      have ol1 : H1.get? l = some { cls := .type "list", dict := kd, data := .seq items nl, slots := ks } := Heap.get?_push_of_some _ ol
      have l1 : H1.IsList l items := ⟨_, ol1, rfl, nl, rfl⟩
      have f1 := PySem.F.sub_list_set
      have f2 := PySem.F.sub_list_frozenset
      have f3 : (Value.type "list" == Value.type "dict") = false := by decide
      unfold Builtin.«set.__init__» noKeywords Builtin.Frozenset.updateFrom
      generalize hp : pyIter = PI
      wp_walk
      subst hp
      refine wpAny_pyIter_list l1 (wpAny_bind (wpAny_runValue ?_))
      have lS : l < S := Heap.lt_size ol
      have zz : H1.objs.size = S + 1 := size_push' _ _
      have calm3 : A.in1.in1.in1.handled = none := by simp [calm]
      have nI : l ≠ H1.objs.size := by rw [zz]; exact Nat.ne_of_lt (Nat.lt_succ_of_lt lS)
      have outS : S ∉ [H1.objs.size, l] := by
        rw [zz]
        intro z
        rcases List.mem_cons.mp z with z | z
        · exact absurd z (Nat.ne_of_lt (Nat.lt_succ_self _))
        · exact absurd (List.mem_singleton.mp z) (Nat.ne_of_gt lS)
      refine loop_txt (Walks.list calm3 _ l nI items).toS S outS xs sz (by rw [sz]; exact low) (fun i v pv => ?_) (items.size - 0) 0 _ (by omega) (Nat.zero_le _) ⟨⟨_, Heap.get?_push_size _ rfl, rfl, rfl⟩, l1.push _⟩ (txt_new (Heap.get?_push_of_some _ there)) (fun s' mv X => ?_)
      · have pv' : items.toList[i]? = some v := by rw [Array.getElem?_toList]; exact pv
        exact strs_get hx pv'
      · obtain ⟨h', g', d', tk', os'⟩ := s'
        obtain rfl : g' = s.gens := mv.gens
        obtain rfl : d' = s.drawn := mv.drawn
        obtain rfl : os' = s.os := mv.os
        show wpAny _ _ _ _ _ _
        refine wpAny_pure ?_
        show wpAny _ _ (ret Value.none) _ _ _
        refine wpAny_pure ⟨rfl, h', tk', rfl, X, fun b o e => ?_⟩
        have lb : b < S := Heap.lt_size e
        refine mv.heap b o (fun z => ?_) (Heap.get?_push_of_some _ (Heap.get?_push_of_some _ e))
        rcases List.mem_cons.mp z with z | z
        · exact absurd z (Nat.ne_of_lt lb)
        · have e2 := List.mem_singleton.mp z
          rw [zz] at e2
          exact absurd e2 (Nat.ne_of_lt (Nat.lt_succ_of_lt lb))
    · match r2, hr2 with
      | .error e, hr2 => exact hr2
      | .ok .next, hr2 => exact hr2.elim
      | .ok .brk, hr2 => exact hr2.elim
      | .ok .cont, hr2 => exact hr2.elim
      | .ok (.ret v), ⟨e1, h', tk, e2, X, old⟩ =>
        subst e1
        subst e2
        repeat (any_goals (first | assumption | wp_step))
        exact h _ _ X old
/-- what walks over the set brings, sorted -/
theorem sorted_txt {a : Addr} {l : List Str} {Q : Value → Shared → Prop} (R : TxtSet P w s.heap a l) (calm : A.handled = none) (low : l.length < 64)
    (h : ∀ s' p (out : Array Value) (c : Nat) (ys : List Str), (∀ b o, s.heap.get? b = some o → s'.heap.get? b = some o) → s'.gens = s.gens → s'.os = s.os → s.heap.objs.size ≤ p → s'.heap.get? p = some (seqObj "list" out c) → StrsAre out.toList ys → ys.Perm l → sortedS ys = true → Q (.ref p) s') :
    wpAny (model P w) A (call (.builtin "sorted") [.ref a]) Q E s := by
  obtain ⟨D, ho, F, rs, led, nd⟩ := R
  have sz : D.1.size = l.length := F.sz
  have few : D.1.size < scanBound := by unfold scanBound; omega
  -- the entries as texts
  have ent : ∃ ks : List Str, StrsAre (D.1.toList.map (·.2)) ks ∧ ks.Perm l := by
    have one : ∀ e ∈ D.1.toList, ∃ k t, e.2 = Value.str k t ∧ k ∈ l := fun e he => by
      obtain ⟨⟨k, hk, _⟩, _⟩ := F.el e he
      have hk2 : Value.isStrOf k e.2 = true := hk
      cases hv : e.2 with
      | str x t =>
        rw [hv] at hk2
        have e2 : x = k := by simpa [Value.isStrOf] using hk2
        exact ⟨x, t, rfl, (F.mem x).mpr ⟨e, he, by rw [e2]; exact hk⟩⟩
      | _ => rw [hv] at hk2; simp [Value.isStrOf] at hk2
    have mk : ∀ es : List (Int × Value), (∀ e ∈ es, ∃ k t, e.2 = Value.str k t ∧ k ∈ l) → ∃ ks : List Str, StrsAre (es.map (·.2)) ks ∧ ∀ k ∈ ks, k ∈ l := by
      intro es
      induction es with
      | nil => intro _; exact ⟨[], .nil, fun k hk => by cases hk⟩
      | cons e es ih =>
        intro he
        obtain ⟨k, t, e1, e2⟩ := he e List.mem_cons_self
        obtain ⟨ks, g1, g2⟩ := ih fun x hx => he x (List.mem_cons_of_mem _ hx)
        refine ⟨k :: ks, ?_, fun z hz => ?_⟩
        · rw [List.map_cons, e1]
          exact .cons k t g1
        · rcases List.mem_cons.mp hz with rfl | hz
          · exact e2
          · exact g2 z hz
    obtain ⟨ks, g1, g2⟩ := mk _ one
    refine ⟨ks, g1, ?_⟩
    have len : ks.length = l.length := by
      have q := StrsAre.length g1
      rw [List.length_map, Array.length_toList] at q
      omega
    -- each text of l is among them
    have sup : ∀ k ∈ l, k ∈ ks := fun k hk => by
      obtain ⟨e, he, hi⟩ := (F.mem k).mp hk
      obtain ⟨x, t, hx, _⟩ := one e he
      have e2 : x = k := by
        have q : Value.isStrOf k e.2 = true := hi
        rw [hx] at q
        simpa [Value.isStrOf] using q
      subst e2
      obtain ⟨i, hi2⟩ := List.getElem?_of_mem (List.mem_map.mpr ⟨e, he, rfl⟩ : e.2 ∈ D.1.toList.map (·.2))
      obtain ⟨y, u, hy, e3⟩ := strs_get g1 hi2
      rw [hx] at e3
      injection e3 with e3 _
      rw [e3]
      exact List.mem_of_getElem? hy
    exact (perm_of_sup nd sup (by omega)).symm
  obtain ⟨ks, g1, g2⟩ := ent
  refine Calls.call_function_entry kind_sorted plain_sorted entry_sorted (args_sorted1 _) ?_
  unfold Builtin.«sorted»
  refine wpAny_bind (m := checkCount "sorted" 1 1 _) (wpAny_pure (wpAny_bind (L2.collect_set (A := A.in1) (t := D.2.2) (ep := D.2.1) (es := D.1) calm ⟨_, ho, rfl, rfl⟩ F.fit few rs led fun s1 vs k1 hz g1' o1 pm => ?_)))
  obtain ⟨zs, z1, z2⟩ := strs_perm g1 pm.symm
  have vl : vs.length = l.length := by rw [StrsAre.length z1, z2.length_eq, g2.length_eq]
  refine wpAny_bind (wpAny_newList ?_ (by rw [vl, sizeLine_eq]; omega))
  have hoL : (s1.heap.push (seqObj "list" vs.toArray 0)).get? s1.heap.objs.size = some (seqObj "list" vs.toArray 0) := Heap.get?_push_size _ rfl
  refine wpAny_bind (wpAny_holding (wpAny_call_entry slot_list_sort ⟨_, hoL, rfl⟩ entry_list_sort (list_sort_treeK strKind_oneLt hoL z1.keysOf (fun v1 v2 rest e => keyKind_strs (by rw [← e]; exact z1)) (by rw [vl]; exact low) fun st hp hs => ⟨_, rfl, ?_⟩) (args_list_sort _)))
  obtain ⟨ys, y1, y2, y3⟩ := sorted_out_str z1 hp hs
  obtain ⟨c, hc⟩ := sortedHeap_at (vs := vs) (out := (arrOf st).map (·.2)) hoL
  refine wpAny_pure ⟨_, rfl, h _ s1.heap.objs.size _ c ys (fun b u e => ?_) g1' o1 hz hc y1 ((y2.trans z2).trans g2) y3⟩
  have q := k1 b u e
  have lt := Heap.lt_size q
  show (sortedHeap (s1.heap.push (seqObj "list" vs.toArray 0)) s1.heap.objs.size vs ((arrOf st).map (·.2))).get? b = some u
  rw [sortedHeap_old (Nat.ne_of_lt lt) (by rw [size_push']; exact Nat.lt_succ_of_lt lt)]
  exact Heap.get?_push_of_some _ q
end
end Pn

namespace Pn
open PySem L2
/-! ### sets of texts as rules: set(xs), len(s), sorted(s) -/
def SetX (P : Program) (w : World) (a : Addr) (l : List Str) : HO := .ext fun h => TxtSet P w h a l
section
variable {X : Cx}
theorem setX_new {w : World} {P : Program} {H : Hp} {h : Heap} {a : Addr} {l : List Str} (R : TxtSet P w h a l) : ObjOk P w H h a (SetX P w a l) := by
  have ⟨_, there, _⟩ := R
  exact ⟨R, ⟨_, there⟩, fun _ _ z keep => TxtSet.keep z keep⟩
theorem setX_get {pins : List (Addr × Obj)} {σ : L2.St} {H : Hp} {s : Shared} {a : Addr} {l : List Str} (I : Inv X pins σ H s) (ha : H a = some (SetX X.prog X.w a l)) : TxtSet X.prog X.w s.heap a l := (I.hok a _ ha).1
def rSetX (K : PySem.W.Frag) (P : Program) (w : World) : List V → Hp → VK → Prop := fun xs H Q => ∃ (l : Addr) (ss : List Str), xs = [.ref l] ∧ SqL K H l (ss.map V.str) ∧ ss.length < 4000 ∧ ∀ a, H a = none → Q (.ref a) (upd H a (SetX P w a (uniq ss)))
theorem cr_setX (hc : X.calm = true) : CallR X (.type "set") (rSetX X.K X.prog X.w) := by
  intro pins s σ H xs us Q I r h
  obtain ⟨l, ss, rfl, hl, low, q⟩ := h
  rw [Vals.ref1 r]
  obtain ⟨its, rv, pl, _⟩ := I.list hl
  refine set_of_texts (I.ok.hd hc) pl.isList (xs := ss) (by simpa using rv.strs) (by unfold scanBound; omega) fun h' tk R old => ?_
  exact ⟨.ref s.heap.objs.size, upd H s.heap.objs.size (SetX X.prog X.w s.heap.objs.size (uniq ss)), I.laid (t' := tk) old (Nat.le_refl _) (setX_new R), rfl, q _ (I.hok.fresh (Nat.le_refl _))⟩
def rLenX (P : Program) (w : World) : List V → Hp → VK → Prop := fun xs H Q => ∃ (a : Addr) (l : List Str), xs = [.ref a] ∧ H a = some (SetX P w a l) ∧ l.length ≤ 4000 ∧ Q (.int (l.length : Nat)) H
theorem cr_lenX : CallR X (.builtin "len") (rLenX X.prog X.w) := by
  intro pins s σ H xs us Q I r h
  obtain ⟨a, l, rfl, ha, low, q⟩ := h
  rw [Vals.ref1 r]
  obtain ⟨D, there, F, _⟩ := setX_get I ha
  have few : (D.1.size : Int) < 2 ^ 63 := by
    rw [show D.1.size = l.length from F.sz]
    omega
  refine call_len_set there ⟨rfl, rfl, rfl⟩ rfl F.fit few ?_
  rw [F.sz]
  exact ⟨.int (l.length : Nat), H, I.tok _, ⟨_, rfl⟩, q⟩
def rSortX (P : Program) (w : World) : List V → Hp → VK → Prop := fun xs H Q => ∃ (a : Addr) (l : List Str), xs = [.ref a] ∧ H a = some (SetX P w a l) ∧ l.length < 64 ∧ ∀ (ys : List Str) (p : Addr), ys.Perm l → PyProof.Rows.sortedS ys = true → H p = none → Q (.ref p) (upd H p (.lst (ys.map V.str)))
theorem cr_sortX (hc : X.calm = true) : CallR X (.builtin "sorted") (rSortX X.prog X.w) := by
  intro pins s σ H xs us Q I r h
  obtain ⟨a, l, rfl, ha, low, q⟩ := h
  rw [Vals.ref1 r]
  refine sorted_txt (setX_get I ha) (I.ok.hd hc) low fun s' p out c ys old sg so hp there ys1 ys2 ys3 => ?_
  have free : H p = none := I.hok.fresh hp
  have size : (ys.map V.str).length ≤ sizeLine := by rw [List.length_map, ys2.length_eq]; exact small64 low
  have J : Inv X pins σ (upd H p (.lst (ys.map V.str))) { s with heap := s'.heap, gens := s'.gens, drawn := s'.drawn, toks := s'.toks } :=
    I.call (ch := []) (Un.laid old hp free) (I.hok.laid old hp ⟨size, out.toList, c, vals_of_strs ys1, there⟩) (by rw [sg]; exact I.bare) (fun _ z => nomatch z)
  have same : s' = { s with heap := s'.heap, gens := s'.gens, drawn := s'.drawn, toks := s'.toks } := by
    obtain ⟨_, _, _, _, _⟩ := s'
    obtain ⟨_, _, _, _, _⟩ := s
    cases so
    rfl
  rw [same]
  exact ⟨.ref p, _, J, rfl, q ys p ys2 ys3 free⟩
end
end Pn

namespace Pn
open PySem PySem.Spec PyProof.Rows L2
/-! ### comprehensions that make objects; what stands although lists change -/
def SameN (H H' : Hp) : Prop := ∀ a o, H a = some o → (∀ xs, o ≠ HO.lst xs) → H' a = some o
theorem SameN.of {H H' : Hp} (s : Same H H') : SameN H H' := fun a o e _ => s a o e
theorem SameN.trans {H H1 H2 : Hp} (s : SameN H H1) (t : SameN H1 H2) : SameN H H2 := fun a o e n => t a o (s a o e n) n
theorem SameN.upd {H : Hp} {D : Addr} {xs : List V} {o : HO} (h : H D = some (.lst xs)) : SameN H (upd H D o) := fun a u e n => by
  rw [upd_ne (fun z => by rw [z, h] at e; cases e; exact n _ rfl)]
  exact e
theorem paired_cat {α β : Type} {R : α → β → Prop} {l2 : List α} {m2 : List β} (h2 : Paired R l2 m2) : ∀ {l : List α} {m : List β}, Paired R l m → Paired R (l ++ l2) (m ++ m2)
  | _, _, .nil => h2
  | _, _, .cons a b => .cons a (paired_cat h2 b)
theorem lcw_objs {K : PySem.W.Frag} {tl : TE} {g : TG} {tt : TT} {te : TE} {vs : List Nat} {σ : L2.St} {H : Hp} {Q : VK} {p : Addr} {xs : List V} {α : Type} {R : Hp → Addr → α → Prop} {cs : List α} (hR : ∀ {H H' : Hp} {t : Addr} {c : α}, SameN H H' → R H t c → R H' t c)
    (h0 : ∀ R : VK, R (.ref p) H → tl σ H R) (hp : SqL K H p xs) (hl : xs.length ≤ 1000) (hc : xs.length = cs.length)
    (turn : ∀ (i : Nat) (x : V) (c : α) (Hi : Hp) (S : Hp → Prop) (Y : VK), xs[i]? = some x → cs[i]? = some c → Same H Hi → (∀ t H', Same Hi H' → R H' t c → Y (.ref t) H') → g x (wipe σ vs) Hi fun σ2 H2 => wipe σ2 vs = wipe σ vs ∧ tt σ2 H2 fun b H3 => if b = true then te σ2 H3 Y else S H3)
    (fin : ∀ (D : Addr) (H' : Hp) (ts : List Addr), H D = none → Same H H' → H' D = some (.lst (ts.map V.ref)) → Paired (R H') ts cs → Q (.ref D) H') : tLc (iList K tl) g tt te vs σ H Q := by
  refine h0 _ ⟨p, rfl, ⟨_, hp⟩, fun D hD => lc_list (xs := xs) (fun i Hi => Same H Hi ∧ ∃ ts : List Addr, Hi D = some (.lst (ts.map V.ref)) ∧ ts.length ≤ i ∧ Paired (R Hi) ts (cs.take i)) ⟨Same.new hD, [], upd_same, Nat.le_refl _, .nil⟩ (fun _ _ _ hP => hP.1.seq hp) (fun i x Hi hx hP => ?_) (fun Hi hP => ?_)⟩
  · obtain ⟨s, ts, hd, hn, pd⟩ := hP
    have hi : i < xs.length := (List.getElem?_eq_some_iff.mp hx).1
    have hi2 : i < cs.length := by omega
    have hc2 : cs[i]? = some cs[i] := List.getElem?_eq_getElem hi2
    refine turn i x _ Hi _ _ hx hc2 s fun t H' s' r => ⟨_, s' _ _ hd, small1000 (by rw [List.length_map]; omega), (fun a o e => ?_), ts ++ [t], by rw [upd_same, List.map_append]; rfl, by rw [List.length_append]; exact Nat.add_le_add_right hn 1, ?_⟩
    · rw [upd_ne (ne_of_none e hD)]
      exact s' _ _ (s _ _ e)
    · have n2 : SameN H' (upd H' D (.lst (ts.map V.ref ++ [V.ref t]))) := SameN.upd (s' _ _ hd)
      rw [List.take_add_one, hc2]
      exact paired_snoc (hR n2 r) (paired_mono (fun _ _ z => hR ((SameN.of s').trans n2) z) pd)
  · obtain ⟨s, ts, hd, _, pd⟩ := hP
    rw [hc, List.take_length] at pd
    exact fin D Hi ts hD s hd pd
end Pn

namespace Pn
open PySem L2 TL
abbrev sIsPairF : Stmt := top 7
abbrev sAreFill : Stmt := top 25
abbrev sIsFilled : Stmt := top 26
/-! ### which values can stand in a filling -/
def fillB : RowD → Bool
  | .skip _ _ => true
  | .set _ _ => true
  | _ => false
def pairD : PyData → Bool
  | .tuple [_, _] => true
  | _ => false
def tupT : PyData → Bool
  | .tuple _ => true
  | _ => false
theorem kit_tupT : ∀ d : PyData, kitB (tyD d) "tuple" = some (tupT d)
  | .none => (by decide +kernel : kitB "NoneType" "tuple" = some false)
  | .bool _ => (by decide +kernel : kitB "bool" "tuple" = some false)
  | .int _ => (by decide +kernel : kitB "int" "tuple" = some false)
  | .str _ => (by decide +kernel : kitB "str" "tuple" = some false)
  | .list _ => (by decide +kernel : kitB "list" "tuple" = some false)
  | .tuple _ => (by decide +kernel : kitB "tuple" "tuple" = some true)
  | .dict _ => (by decide +kernel : kitB "dict" "tuple" = some false)
theorem dpAll_len {K : PySem.W.Frag} {H : Hp} : ∀ {vs : List V} {ds : List PyData}, DpAll K H vs ds → vs.length = ds.length
  | _, _, .nil => rfl
  | _, _, .cons _ b => congrArg Nat.succ (dpAll_len b)
theorem pair_len (ds : List PyData) : pairD (.tuple ds) = decide ((ds.length : Int) = 2) := by
  match ds with
  | [] => rfl
  | [_] => rfl
  | [_, _] => rfl
  | _ :: _ :: _ :: l =>
    show false = _
    refine (decide_eq_false fun z => ?_).symm
    simp only [List.length_cons] at z
    omega
section
variable {P : Program} {w : World} {K : PySem.W.Frag} {mg : Str → Option Value} {base : Heap}
/-- a row that can stand in a filling, another row, or data -/
def FillFlag (R : TRows K mg) (H : Hp) (x : V) (b : Bool) : Prop := (∃ a r, x = .ref a ∧ RowAt R H a r ∧ b = fillB r) ∨ (b = false ∧ ∃ d, Dp K H x d)
theorem FillFlag.same {R : TRows K mg} {H H' : Hp} {x : V} {b : Bool} (h : FillFlag R H x b) (s : Same H H') : FillFlag R H' x b := by
  rcases h with ⟨a, r, ex, h, e⟩ | ⟨e, d, h⟩
  · exact .inl ⟨a, r, ex, h.same s, e⟩
  · exact .inr ⟨e, d, dp_same s d x h⟩
structure TFil {K : PySem.W.Frag} {mg : Str → Option Value} (R : TRows K mg) : Type where
  kF : ∀ r, PySem.W.kitAny K (.ref (clsOf R r)) [.ref R.skip.C, .ref R.set.C] = some (fillB r)
  kD : ∀ d : PyData, PySem.W.kitAny K (.type (tyD d)) [.ref R.skip.C, .ref R.set.C] = some false
  kS : ∀ r, PySem.W.kitAny K (.ref (clsOf R r)) [.type "list", .type "tuple"] = some false
  cA : ∀ r, PySem.W.findIn K (.ref (clsOf R r)) "__class__" = some (some (.builtin "object.__class__"))
  cN : PySem.W.specialIn K (.builtin "object.__class__") "__get__" = some (some (.builtin "getset_descriptor.__get__"))
  cT : PySem.W.takesIn K (.builtin "object.__class__") = some true
  cM : ∀ r, PySem.W.mroIn K (clsOf R r) (.type "object") = some true
  mList : mg "list" = none
  mTup : mg "tuple" = none
  isSeq : At K mg "is_sequence" sIsSeq ["value"]
  isPair : At K mg "is_pair" sIsPairF ["value"]
  areF : At K mg "are_fillable" sAreFill ["rows"]
  isF : At K mg "is_filled" sIsFilled ["value"]
theorem row_ty {R : TRows K mg} (T : TFil R) {H : Hp} {a : Addr} {r : RowD} (h : RowAt R H a r) : TyX K H (.ref a) (.ref (clsOf R r)) := by
  obtain ⟨dy, h⟩ := h
  obtain ⟨gs, eg⟩ := insRow_ins R dy r
  rw [eg] at h
  exact .base (.ins h (cls_of R r) (T.cA r) T.cN T.cT (T.cM r))
theorem fill_kit {R : TRows K mg} (T : TFil R) {H : Hp} {x : V} {b : Bool} (h : FillFlag R H x b) : ∃ t, TyX K H x t ∧ PySem.W.kitAny K t [.ref R.skip.C, .ref R.set.C] = some b := by
  rcases h with ⟨a, r, rfl, h, rfl⟩ | ⟨rfl, d, h⟩
  · exact ⟨_, row_ty T h, T.kF r⟩
  · exact ⟨_, dp_ty h, T.kD d⟩
/-- what stands as rows: no sequence, or one of so many things -/
def FRows (R : TRows K mg) (H : Hp) (u : V) : Option (List V × List Bool) → Prop
  | none => (∃ d, Dp K H u d ∧ seqD d = false) ∨ ∃ a r, u = .ref a ∧ RowAt R H a r
  | some (xs, bs) => ∃ p, u = .ref p ∧ (SqL K H p xs ∨ SqT K H p xs) ∧ Paired (FillFlag R H) xs bs ∧ xs.length ≤ 1000
theorem FRows.same {R : TRows K mg} {H H' : Hp} {u : V} {o : Option (List V × List Bool)} (h : FRows R H u o) (s : Same H H') : FRows R H' u o := by
  cases o with
  | none =>
    rcases h with ⟨d, h, e⟩ | ⟨a, r, e, h⟩
    · exact .inl ⟨d, dp_same s d u h, e⟩
    · exact .inr ⟨a, r, e, h.same s⟩
  | some o =>
    obtain ⟨p, e, h, hp, hl⟩ := h
    exact ⟨p, e, h.elim (fun h => .inl (s.seq h)) (fun h => .inr (Same.sqt s h)), paired_mono (fun _ _ z => z.same s) hp, hl⟩
def argF : Option (List V × List Bool) → Bool
  | none => false
  | some (_, bs) => bs.all id
def spAreFill (R : TRows K mg) : Sp := fun vs H Q _ => ∃ (u : V) (o : Option (List V × List Bool)), vs = [u] ∧ FRows R H u o ∧ ∀ H', Same H H' → Q (.bl (argF o)) H'
theorem scAreFill : FnScope ["rows", "row"] ["rows"] (defScope sAreFill) := ⟨rfl, rfl, rfl, by decide +kernel, rfl, by decide +kernel, by decide +kernel⟩
theorem ok_areFill {R : TRows K mg} (T : TFil R) : FnOk P w K mg base CX0 2 T.areF.f T.areF.fd ["rows"] (spAreFill R) := by
  refine T.areF.F.ok scAreFill (fun vs H Q E h => ?_) (fun cdv A outer s H vs Q E hr h => ?_)
  · obtain ⟨u, o, rfl, _⟩ := h
    rfl
  · obtain ⟨u, o, rfl, ha, q⟩ := h
    refine ⟨_, pss_one (ps_ret (pe_and (pe_call (ok_isSeq T.isSeq.F R.N.mIsi T.mList T.mTup) (hr.mono (by decide)) rfl T.isSeq.m T.isSeq.F.kp T.isSeq.b .nil pass0 (pa_cons (pv 0) pa_nil))
      (pe_one (pe_callB (cr_all rfl) (by rfl) R.N.mAll (by decide +kernel) (pa_cons (pe_lc (own := [("row", 1)]) (g := gName 1) (tt := tYes) (by rfl) scAreFill.nd (pi_seq (pv 0))
            (blkOk_by (N := ["rows", "row"]) (sc := defScope sAreFill) (by decide +kernel)) (fun _ _ _ _ _ => pg_name (i := 1) scAreFill.nd rfl (Or.inl rfl)) (fun _ _ _ _ _ => pts_nil)
            (fun _ _ _ _ _ => pe_callB (show CallR _ (.builtin "isinstance") (rIsiT K) from call_isiT) (by rfl) R.N.mIsi (by decide +kernel) (pa_cons (pv 1) (pa_cons (pe_tup (pa_cons (pe_glob (v := .ref R.skip.C) (by rfl) R.skip.m rfl) (pa_cons (pe_glob (v := .ref R.set.C) (by rfl) R.set.m rfl) pa_nil))) pa_nil)))) pa_nil))))), ?_⟩
    cases o with
    | none =>
      have key : ∃ t, PySem.W.kitAny K t [.type "list", .type "tuple"] = some false ∧ TyX K H u t ∧ ∀ H', Same H H' → TyX K H' u t := by
        rcases ha with ⟨d, hd, hs⟩ | ⟨a, r, rfl, h⟩
        · exact ⟨_, by rw [kit_seq, hs], dp_ty hd, fun H' s' => dp_ty (dp_same s' d u hd)⟩
        · exact ⟨_, T.kS r, row_ty T h, fun H' s' => row_ty T (h.same s')⟩
      obtain ⟨t, k1, k2, k3⟩ := key
      refine ⟨_, rfl, u, t, false, rfl, k2, k1, k3, fun H1 s1 m1 => ⟨false, rfl, ?_⟩⟩
      exact q _ s1
    | some o =>
      obtain ⟨xs, bs⟩ := o
      obtain ⟨p, rfl, hp, hpd, hxl⟩ := ha
      have htk : ∃ t, PySem.W.kitAny K t [.type "list", .type "tuple"] = some true ∧ TyX K H (.ref p) t ∧ ∀ H', Same H H' → TyX K H' (.ref p) t := by
        rcases hp with hp | hp
        · exact ⟨_, kit_two (by decide +kernel : kitB "list" "list" = some true) (by decide +kernel : kitB "list" "tuple" = some false), sql_ty hp, fun H' s' => sql_ty (s'.seq hp)⟩
        · exact ⟨_, kit_two (by decide +kernel : kitB "tuple" "list" = some false) (by decide +kernel : kitB "tuple" "tuple" = some true), sqt_ty hp, fun H' s' => sqt_ty (Same.sqt s' hp)⟩
      obtain ⟨t, hk, ht1, ht2⟩ := htk
      refine ⟨_, rfl, _, t, true, rfl, ht1, hk, ht2, fun H2 hs2 hm2 => ⟨true, rfl, ?_⟩⟩
      have hp2 : SqL K H2 p xs ∨ SqT K H2 p xs := hp.elim (fun h => .inl (hs2.seq h)) (fun h => .inr (Same.sqt hs2 h))
      have hpd2 := paired_mono (fun _ _ z => z.same hs2) hpd
      have hbl : xs.length = bs.length := paired_len hpd
      refine iteT ?_
      dsimp only [tCB, tCons, tNil]
      have two : 2 ≤ sizeLine := by decide
      refine lcw_seq (K := K) (tl := tVar 0) (p := p) (xs := xs) (out := fun i => (bs[i]?).map V.bl) ?h0 hp2 (Nat.le_trans hxl (by decide)) ?tn ?fn
      case h0 => exact fun R z => ⟨_, rfl, z⟩
      case tn =>
        intro m x Hi S Y hx sI h0 h1
        obtain ⟨b, hb, hfl⟩ := paired_at hpd2 hx
        have hfi := hfl.same sI
        refine ⟨rfl, _, rfl, two, fun t ht => ?_⟩
        obtain ⟨ty, hty, hkt⟩ := fill_kit T (hfi.same (Same.new (o := .tup [.ref R.skip.C, .ref R.set.C]) ht))
        exact ⟨x, t, _, ty, _, b, rfl, upd_same, .cons (.own _) (.cons (.own _) .nil), hty, hkt, h1 (.bl b) (by show Option.map V.bl bs[m]? = _; rw [hb]; rfl) _ (Same.new ht)⟩
      case fn =>
        intro D H3 hD s3 h3
        have eo : (List.range xs.length).filterMap (fun i => (bs[i]?).map V.bl) = bs.map V.bl := by
          rw [hbl]
          exact out_map (l := bs) (f := V.bl)
        rw [eo] at h3
        exact ⟨D, bs, rfl, SqL.of h3, q _ (hs2.trans s3)⟩
/-- a pair of a name and rows, or none -/
def FillE (R : TRows K mg) (H : Hp) (v : V) (b : Bool) : Prop := (b = false ∧ ∃ d, Dp K H v d ∧ pairD d = false) ∨
  ∃ (t : Addr) (y u : V) (e : PyData) (o : Option (List V × List Bool)), v = .ref t ∧ SqT K H t [y, u] ∧ Dp K H y e ∧ dlen e ∧ (nameD e = false ∧ b = false ∨ nameD e = true ∧ FRows R H u o ∧ b = argF o)
theorem FillE.same {R : TRows K mg} {H H' : Hp} {v : V} {b : Bool} (h : FillE R H v b) (s : Same H H') : FillE R H' v b := by
  rcases h with ⟨e, d, h, hp⟩ | ⟨t, y, u, e, o, ev, ht, hy, hl, h⟩
  · exact .inl ⟨e, d, dp_same s d v h, hp⟩
  · exact .inr ⟨t, y, u, e, o, ev, Same.sqt s ht, dp_same s e y hy, hl, h.imp id fun ⟨a, b, c⟩ => ⟨a, b.same s, c⟩⟩
def spIsPairF (K : PySem.W.Frag) : Sp := fun vs H Q _ => ∃ (v : V) (b : Bool), vs = [v] ∧ ((∃ d, Dp K H v d ∧ pairD d = b) ∨ (b = true ∧ ∃ t y u, v = .ref t ∧ SqT K H t [y, u])) ∧ Q (.bl b) H
theorem scIsPairF : FnScope ["value"] ["value"] (defScope sIsPairF) := ⟨rfl, rfl, rfl, by decide +kernel, rfl, by decide +kernel, by decide +kernel⟩
theorem ok_isPairF {R : TRows K mg} (T : TFil R) : FnOk P w K mg base CX0 1 T.isPair.f T.isPair.fd ["value"] (spIsPairF K) := by
  refine T.isPair.F.ok scIsPairF (fun vs H Q E h => ?_) (fun cdv A outer s H vs Q E hr h => ?_)
  · obtain ⟨v, b, rfl, _⟩ := h
    rfl
  · obtain ⟨v, b, rfl, hd, q⟩ := h
    refine ⟨_, pss_one (ps_ret (pe_and (pe_callB call_isi (by rfl) R.N.mIsi (by decide +kernel) (pa_cons (pv 0) (pa_cons (pe_bltn (v := .ty "tuple") (by rfl) T.mTup (by decide +kernel) rfl) pa_nil)))
      (pe_one (pe_cmpR op_eq (pe_callB call_len_seq (by rfl) R.N.mLen PySem.boot_len (pa_cons (pv 0) pa_nil)) pe_int (nomark _))))), ?_⟩
    have eqi : ∀ n : Int, decide (V.int n = V.int 2) = decide (n = 2) := fun n => decide_eq_decide.mpr ⟨fun z => V.int.inj z, fun z => congrArg V.int z⟩
    rcases hd with ⟨d, hd, rfl⟩ | ⟨rfl, t, y, u, rfl, ht⟩
    · refine ⟨_, rfl, v, .ty "tuple", _, _, tupT d, rfl, .ty _, dp_ty hd, kit_ty (kit_tupT d), _, rfl, ?_⟩
      cases d with
      | none => exact q
      | str z => exact q
      | list ds => exact q
      | dict ds => exact q
      | int i => exact q
      | bool i => exact q
      | tuple ds =>
        refine iteT ?_
        cases hd with
        | tup s a =>
          refine ⟨_, rfl, _, _, rfl, .inr s, rfl, ?_⟩
          rw [pair_len, ← dpAll_len a] at q
          show Q (V.bl (decide (V.int _ = V.int 2))) H
          rw [eqi]
          exact q
    · refine ⟨_, rfl, _, .ty "tuple", _, _, true, rfl, .ty _, sqt_ty ht, kit_ty (by decide +kernel : kitB "tuple" "tuple" = some true), _, rfl, iteT ?_⟩
      refine ⟨_, rfl, _, _, rfl, .inr ht, rfl, ?_⟩
      exact q
def spIsFilled (R : TRows K mg) : Sp := fun vs H Q _ => ∃ (v : V) (b : Bool), vs = [v] ∧ FillE R H v b ∧ ∀ H', Same H H' → Q (.bl b) H'
theorem scIsFilled : FnScope ["value"] ["value"] (defScope sIsFilled) := ⟨rfl, rfl, rfl, by decide +kernel, rfl, by decide +kernel, by decide +kernel⟩
theorem ok_isFilled {R : TRows K mg} (T : TFil R) : FnOk P w K mg base CX0 3 T.isF.f T.isF.fd ["value"] (spIsFilled R) := by
  refine T.isF.F.ok scIsFilled (fun vs H Q E h => ?_) (fun cdv A outer s H vs Q E hr h => ?_)
  · obtain ⟨v, b, rfl, _⟩ := h
    rfl
  · obtain ⟨v, b, rfl, hv, q⟩ := h
    refine ⟨_, pss_one (ps_ret (pe_and (pe_call (ok_isPairF T) (hr.mono (by decide)) rfl T.isPair.m T.isPair.F.kp T.isPair.b .nil pass0 (pa_cons (pv 0) pa_nil))
      (pe_and (pe_call R.N.okName (hr.mono (by decide)) rfl R.N.isName.m R.N.isName.F.kp R.N.isName.b .nil pass0 (pa_cons (pe_ix ix_tup (pv 0) pe_int (fun _ _ => rfl)) pa_nil))
      (pe_one (pe_call (ok_areFill T) (hr.mono (by decide)) rfl T.areF.m T.areF.F.kp T.areF.b .nil pass0 (pa_cons (pe_ix ix_tup (pv 0) pe_int (fun _ _ => rfl)) pa_nil)))))), ?_⟩
    rcases hv with ⟨rfl, d, hd, hp⟩ | ⟨t, y, u, e, o, rfl, ht, hy, hl, h⟩
    · refine ⟨_, rfl, v, false, rfl, .inl ⟨d, hd, hp⟩, false, rfl, ?_⟩
      exact q _ (Same.refl _)
    · refine ⟨_, rfl, _, true, rfl, .inr ⟨rfl, t, y, u, rfl, ht⟩, true, rfl, iteT ?_⟩
      refine ⟨_, rfl, t, _, _, y, rfl, rfl, ht, atI_nat (j := 0) rfl, y, e, rfl, hy, hl, fun H1 s1 m1 => ⟨nameD e, rfl, ?_⟩⟩
      rcases h with ⟨hn, rfl⟩ | ⟨hn, hr2, rfl⟩
      · rw [hn]
        exact q _ s1
      · rw [hn]
        refine iteT ?_
        exact ⟨_, rfl, t, _, _, u, rfl, rfl, Same.sqt s1 ht, atI_nat (j := 1) rfl, u, o, rfl, hr2.same s1, fun H2 s2 => q _ (s1.trans s2)⟩
end
end Pn

namespace Pn
open PySem PySem.Spec PyProof.Rows L2 TL
abbrev sFInit : Stmt := inClass (top 28) 0
abbrev sIFInit : Stmt := inClass (top 11) 0
/-! ### Filling.__init__: what is made, what is refused -/
def rLenSq (K : PySem.W.Frag) : List V → Hp → VK → Prop := fun xs H Q => ∃ (p : Addr) (ys : List V), xs = [.ref p] ∧ (SqL K H p ys ∨ SqT K H p ys) ∧ Q (.int ys.length) H
theorem call_len_sq {X : Cx} : CallR X (.builtin "len") (rLenSq X.K) := call_len_seq
def rTupO (K : PySem.W.Frag) : List V → Hp → VK → Prop := fun xs H Q => ∃ (p : Addr) (ys : List V), xs = [.ref p] ∧ ((SqL K H p ys ∧ ∀ l, H l = none → Q (.ref l) (upd H l (.tup ys))) ∨ (SqT K H p ys ∧ Q (.ref p) H))
theorem call_tupO {X : Cx} : CallR X (.type "tuple") (rTupO X.K) := call_tuple_of
/-- the empty tuple that stands in the written part, and keeps no own attributes -/
def TupB (K : PySem.W.Frag) (a : Addr) : Prop := ∃ (o : Obj) (n : Nat), K.lookup a = some o ∧ o.cls = .type "tuple" ∧ o.dict = none ∧ o.data = .seq #[] n
theorem TupB.sqt {K : PySem.W.Frag} {H : Hp} {a : Addr} (h : TupB K a) : SqT K H a [] := by
  obtain ⟨o, n, hk, hc, _, hd⟩ := h
  exact .inr ⟨o, #[], n, hk, hc, hd, Nat.zero_le _, .nil⟩
/-- a tuple to make a dict of -/
def TupY (K : PySem.W.Frag) (H : Hp) (a : Addr) (xs : List V) : Prop := TupX H a xs ∨ (TupB K a ∧ xs = [])
theorem TupY.sqt {K : PySem.W.Frag} {H : Hp} {a : Addr} {xs : List V} (h : TupY K H a xs) : SqT K H a xs := by
  rcases h with h | ⟨h, rfl⟩
  · exact h.sqt
  · exact h.sqt
theorem TupY.same {K : PySem.W.Frag} {H H' : Hp} {a : Addr} {xs : List V} (h : TupY K H a xs) (s : Same H H') : TupY K H' a xs := h.imp (fun z => z.same s) id
theorem cr_dictB {X : Cx} (hc : X.calm = true) : CallR X (.type "dict") (fun xs H Q => ∃ a : Addr, xs = [.ref a] ∧ TupB X.K a ∧ ∀ p, H p = none → Q (.ref p) (upd H p (.dK []))) := by
  rintro pins s σ H xs us Q I r ⟨a, rfl, ⟨o, n, hk, hcl, hod, hdat⟩, q⟩
  obtain ⟨u, rfl, rx⟩ := vals1 r
  cases rx
  have ho := I.kIn a o hk
  refine PySem.call_dict_pairs (knd := mixKind X.prog X.w) (kvs := []) (PairArg.tuple a #[] (fun _ => 0) []) (I.ok.hd hc) ⟨⟨o, n, ho, hcl, hod, hdat⟩, rfl, fun j k v e => nomatch e⟩ ⟨rfl, fun i key v e => nomatch e⟩ (Nat.zero_le _) fun h' tk hd' k => ?_
  have hm : (s.heap.objs.size == sysModules) = false := beq_eq_false_iff_ne.mpr (Nat.ne_of_gt I.big)
  exact ⟨.ref s.heap.objs.size, _, I.laid (t' := tk) (fun b ob e => k b ob (by simp) e) (Nat.le_refl _) (show ObjOk X.prog X.w _ _ _ (.dK []) from ⟨Nat.zero_le _, hm, merged [] [], .nil, hd'⟩), rfl, q _ (I.hok.fresh (Nat.le_refl _))⟩
def rDictX2 (K : PySem.W.Frag) : List V → Hp → VK → Prop := fun xs H Q => ∃ (a : Addr) (ps : List Addr) (kvs : List (Key × V)), xs = [.ref a] ∧ (SqL K H a (ps.map V.ref) ∨ TupY K H a (ps.map V.ref)) ∧ Paired (fun p kv => SqT K H p [kV kv.1, kv.2]) ps kvs ∧
  ∀ p, H p = none → Q (.ref p) (upd H p (.dK (mergeK [] kvs)))
theorem cr_dictX2 {X : Cx} (hc : X.calm = true) : CallR X (.type "dict") (rDictX2 X.K) := by
  rintro pins s σ H xs us Q I r ⟨a, ps, kvs, rfl, hq | hq | ⟨hq, hz⟩, hp, q⟩
  · exact call_dictP hc pins s σ H _ us Q I r ⟨a, ps, kvs, rfl, hq, hp, q⟩
  · exact cr_dictX hc pins s σ H _ us Q I r ⟨a, ps, kvs, rfl, hq, hp, q⟩
  · have pz : ps = [] := List.map_eq_nil_iff.mp hz
    subst pz
    cases hp
    exact cr_dictB hc pins s σ H _ us Q I r ⟨a, rfl, hq, q⟩
theorem roomV {k : Nat} {A : Around} (r : Room k A) : A.units + 1 < cLine := by have := r.un; omega
/-- raised, from a heap on -/
def RaiseF (C : Addr) (H : Hp) (E : XK) (wd : V) : Prop := ∀ (e : Addr) (H' : Hp), Same H H' → H' e = some (.xd [("word", wd)]) → E (.ref C) (some e) H'
theorem if_made {C : Addr} {H H1 : Hp} {E : XK} {wd : V} (s : Same H H1) (h : RaiseF C H E wd) {a : Addr} (ha : H1 a = none) (dx : Addr) (h1 : (upd H1 a (exo a C none)) dx = none) (h2 : dx ≠ a) :
    E (.ref C) (some dx) (upd (del (upd (upd (upd H1 a (exo a C none)) dx (exd dx [("word", wd)])) a (exo a C (some dx))) a) dx (.xd [("word", wd)])) :=
  h dx _ (s.trans (same_made ha (by rw [upd_ne h2] at h1; exact h1))) upd_same
/-- a name, where its rows stand, the rows -/
abbrev FilD := Str × Addr × List RowD
section
variable {P : Program} {w : World} {K : PySem.W.Frag} {mg : Str → Option Value} {base : Heap}
theorem scIFInit : FnScope ["self", "word"] ["self", "word"] (defScope sIFInit) := ⟨rfl, rfl, rfl, by decide +kernel, rfl, by decide +kernel, by decide +kernel⟩
theorem okIFInit (T : TExc K mg "InvalidFilling" "InvalidFilling.__init__" "word" sIFInit) : FnOk P w K mg base CX0 1 T.fI T.fd ["self", "word"] (spXInit K "word") := by
  refine T.F.ok scIFInit (fun vs H Q E h => ?_) (fun cdv A outer s H vs Q E hr h => ?_)
  · obtain ⟨a, C, v, rfl, _⟩ := h
    rfl
  · obtain ⟨a, C, v, rfl, ha, O, no, q⟩ := h
    refine ⟨_, pss_one (ps_ost (pv 0) (pv 1)), ?_⟩
    exact ⟨_, rfl, _, rfl, a, C, rfl, O, no, .inl ⟨ha, fun dx h1 h2 => q dx h1 h2⟩⟩
structure TFill {K : PySem.W.Frag} {mg : Str → Option Value} (R : TRows K mg) : Type extends TFil R where
  mSet : mg "set" = none
  mSorted : mg "sorted" = none
  mDict : mg "dict" = none
  IF : TExc K mg "InvalidFilling" "InvalidFilling.__init__" "word" sIFInit
  C : Addr
  mC : mg "Filling" = some (.ref C)
  fI : Addr
  fdI : FuncData
  dP : Addr
  hP : ∀ H, SqT K H dP []
  FI : FunD K "__init__" "Filling.__init__" (defArgs sFInit) (defBody sFInit) (defScope sFInit) [.ref dP] [] fI fdI
  bI : Binds K fdI ["self", "parts"] []
  M : Mk K C fI
  cl : Cls K C
  noF : NoAttr K C "filled"
/-- rows as they stand: a list or a tuple of rows that can stand in a filling -/
def FRowsAt (R : TRows K mg) (H : Hp) (q : Addr) (us : List Addr) (rs : List RowD) : Prop := (SqL K H q (us.map V.ref) ∨ SqT K H q (us.map V.ref)) ∧ Paired (fun u r => RowAt R H u r) us rs ∧ (∀ r ∈ rs, fillB r = true) ∧ rs.length ≤ 1000
theorem FRowsAt.same {R : TRows K mg} {H H' : Hp} {q : Addr} {us : List Addr} {rs : List RowD} (h : FRowsAt R H q us rs) (s : Same H H') : FRowsAt R H' q us rs := by
  obtain ⟨a, b, c⟩ := h
  exact ⟨a.elim (fun h => .inl (s.seq h)) (fun h => .inr (Same.sqt s h)), paired_mono (fun _ _ z => z.same s) b, c⟩
/-- a good pair -/
def FPair (R : TRows K mg) (H : Hp) (t : Addr) (c : FilD) : Prop := SqT K H t [.str c.1, .ref c.2.1] ∧ nameS c.1 = true ∧ ∃ us, FRowsAt R H c.2.1 us c.2.2
theorem FPair.same {R : TRows K mg} {H H' : Hp} {t : Addr} {c : FilD} (h : FPair R H t c) (s : Same H H') : FPair R H' t c := by
  obtain ⟨a, b, us, d⟩ := h
  exact ⟨Same.sqt s a, b, us, d.same s⟩
theorem flags_all {R : TRows K mg} {H : Hp} : ∀ {us : List Addr} {rs : List RowD}, Paired (fun u r => RowAt R H u r) us rs → (∀ r ∈ rs, fillB r = true) → Paired (FillFlag R H) (us.map V.ref) (rs.map fun _ => true)
  | _, _, .nil, _ => .nil
  | _, _, .cons a b, h => .cons (.inl ⟨_, _, rfl, a, (h _ List.mem_cons_self).symm⟩) (flags_all b fun r hr => h r (List.mem_cons_of_mem _ hr))
theorem FPair.fillE {R : TRows K mg} {H : Hp} {t : Addr} {c : FilD} (h : FPair R H t c) : FillE R H (.ref t) true := by
  obtain ⟨a, b, us, d, e, f, g⟩ := h
  refine .inr ⟨t, .str c.1, .ref c.2.1, .str c.1, some (us.map V.ref, c.2.2.map fun _ => true), rfl, a, .str _, ?_, .inr ⟨b, ⟨c.2.1, rfl, d, flags_all e f, by rw [List.length_map, paired_len e]; exact g⟩, ?_⟩⟩
  · show c.1.length ≤ 900
    exact Nat.le_trans (name_ok b).2 (by decide)
  · show true = (c.2.2.map fun _ => true).all id
    symm
    rw [List.all_eq_true]
    intro x hx
    obtain ⟨_, _, rfl⟩ := List.mem_map.mp hx
    rfl
/-- what is no sequence -/
def NoSq (K : PySem.W.Frag) (H : Hp) (v : V) : Prop := ∃ t, TyX K H v t ∧ PySem.W.kitAny K t [.type "list", .type "tuple"] = some false ∧ ∀ H', Same H H' → TyX K H' v t
/-- what a filling keeps -/
def FilAt (R : TRows K mg) (H : Hp) (tp : Addr) (cs : List FilD) : Prop := ∃ (ps : List Addr) (ys : List Str), SqT K H tp (ps.map V.ref) ∧ ys.Perm (uniq ((cs.filter fun c => decide (c.2.2 ≠ [])).map (·.1))) ∧ sortedS ys = true ∧
  Paired (fun p y => ∃ (c : FilD) (q : Addr) (us : List Addr), c ∈ cs ∧ c.1 = y ∧ SqT K H p [.str y, .ref q] ∧ SqT K H q (us.map V.ref) ∧ Paired (fun u r => RowAt R H u r) us c.2.2 ∧ ∀ r ∈ c.2.2, fillB r = true) ps ys
def insFil (C dx : Addr) (u : V) : HO := .ins C dx (putF "filled" u [])
def spFInit (R : TRows K mg) (C CF : Addr) : Sp := fun vs H Q E => ∃ (x dx : Addr) (v : V), vs = [.ref x, v] ∧ H x = some (.ins C dx []) ∧
  ((NoSq K H v ∧ RaiseF CF H E (.str "parts")) ∨
   (∃ (p : Addr) (xs : List V) (bs : List Bool), v = .ref p ∧ (SqL K H p xs ∨ SqT K H p xs) ∧ Paired (FillE R H) xs bs ∧ xs.length ≤ 1000 ∧ bs.all id = false ∧ RaiseF CF H E (.str "parts")) ∨
   (∃ (p : Addr) (ts : List Addr) (cs : List FilD), v = .ref p ∧ (SqL K H p (ts.map V.ref) ∨ SqT K H p (ts.map V.ref)) ∧ Paired (FPair R H) ts cs ∧ cs.length ≤ 60 ∧ ¬ (cs.map (·.1)).Nodup ∧ RaiseF CF H E (.str "name")) ∨
   (∃ (p : Addr) (ts : List Addr) (cs : List FilD), v = .ref p ∧ (SqL K H p (ts.map V.ref) ∨ TupY K H p (ts.map V.ref)) ∧ Paired (FPair R H) ts cs ∧ cs.length ≤ 60 ∧ (cs.map (·.1)).Nodup ∧
     ∀ (tp : Addr) (H' : Hp), KpI x H H' → FilAt R H' tp cs → H' x = some (insFil C dx (.ref tp)) → Q .non H'))
/-! ### names, each once -/
theorem sub_len {α : Type} [DecidableEq α] : ∀ {l m : List α}, l.Nodup → (∀ z ∈ l, z ∈ m) → l.length ≤ m.length
  | [], _, _, _ => Nat.zero_le _
  | a :: l, m, nd, h => by
    rw [List.nodup_cons] at nd
    have ha := h a List.mem_cons_self
    have q := sub_len (l := l) (m := m.erase a) nd.2 fun z hz => (List.mem_erase_of_ne (fun e => nd.1 (by rw [← e]; exact hz))).mpr (h z (List.mem_cons_of_mem _ hz))
    rw [List.length_erase_of_mem ha] at q
    have p := List.length_pos_of_mem ha
    rw [List.length_cons]
    omega
theorem uniq_all {l : List Str} (h : l.Nodup) : (uniq l).length = l.length := Nat.le_antisymm (uniq_len l) (sub_len h fun z hz => (uniq_has l z).mpr hz)
theorem uniq_less : ∀ {l : List Str}, ¬ l.Nodup → (uniq l).length < l.length
  | [], h => absurd List.nodup_nil h
  | a :: l, h => by
    rw [List.nodup_cons] at h
    by_cases ha : a ∈ l
    · refine Nat.lt_of_le_of_lt (sub_len (m := l) (uniq_nodup _) fun z hz => ?_) (Nat.lt_succ_self _)
      rcases List.mem_cons.mp ((uniq_has _ z).mp hz) with rfl | q
      · exact ha
      · exact q
    · have hl : ¬ l.Nodup := fun z => h ⟨ha, z⟩
      have ih := uniq_less hl
      have q := sub_len (m := a :: uniq l) (uniq_nodup (a :: l)) fun z hz => by
        rcases List.mem_cons.mp ((uniq_has _ z).mp hz) with rfl | q
        · exact List.mem_cons_self
        · exact List.mem_cons_of_mem _ ((uniq_has l z).mpr q)
      rw [List.length_cons] at q ⊢
      omega
theorem merge_outF {f : FilD → V} : ∀ {cs : List FilD} {kv : List (Key × V)} {z : Str}, z ∉ cs.map (·.1) → valV (mergeK kv (cs.map fun c => (Sum.inr c.1, f c))) (.inr z) = valV kv (.inr z)
  | [], kv, z, _ => rfl
  | c :: cs, kv, z, h => by
    have h1 : z ≠ c.1 := fun e => h (by rw [e]; exact List.mem_cons_self)
    have h2 : z ∉ cs.map (·.1) := fun e => h (List.mem_cons_of_mem _ e)
    show valV (mergeK (putK kv (.inr c.1) (f c)) (cs.map fun c => (Sum.inr c.1, f c))) (.inr z) = _
    rw [merge_outF h2, valV_put, if_neg (fun e => h1 (by injection e))]
theorem merge_inF {f : FilD → V} : ∀ {cs : List FilD} {kv : List (Key × V)} {c : FilD}, (cs.map (·.1)).Nodup → c ∈ cs → valV (mergeK kv (cs.map fun c => (Sum.inr c.1, f c))) (.inr c.1) = some (f c)
  | [], kv, c, _, h => by cases h
  | d :: cs, kv, c, nd, h => by
    rw [List.map_cons, List.nodup_cons] at nd
    show valV (mergeK (putK kv (.inr d.1) (f d)) (cs.map fun c => (Sum.inr c.1, f c))) (.inr c.1) = _
    rcases List.mem_cons.mp h with rfl | h
    · rw [merge_outF nd.1, valV_put, if_pos rfl]
    · exact merge_inF nd.2 h
/-- one if whose body is only a raise, told by a flag -/
theorem stepEither {tt : TT} {A C : TS} {D : Ends} {σ : L2.St} {H : Hp} (b : Bool) (G : Hp → Prop) (h1 : ∀ Q : Bool → Hp → Prop, (∀ H', G H' → Q b H') → tt σ H Q) (hT : b = true → ∀ H', G H' → A { D with nx := C D } σ H') (hF : b = false → ∀ H', G H' → C D σ H') : tSeq (tIfS tt A tNext) C D σ H := h1 _ fun H' g => by
  cases b with
  | true =>
    rw [if_pos rfl]
    exact hT rfl H' g
  | false =>
    rw [if_neg Bool.false_ne_true]
    exact hF rfl H' g
theorem pairs_flags {R : TRows K mg} {H : Hp} : ∀ {ts : List Addr} {cs : List FilD}, Paired (FPair R H) ts cs → Paired (FillE R H) (ts.map V.ref) (cs.map fun _ => true)
  | _, _, .nil => .nil
  | _, _, .cons a b => .cons a.fillE (pairs_flags b)
theorem all_true {α : Type} (l : List α) : (l.map fun _ => true).all id = true := by
  rw [List.all_eq_true]
  intro x hx
  obtain ⟨_, _, rfl⟩ := List.mem_map.mp hx
  rfl
theorem kind_seq {K : PySem.W.Frag} {H : Hp} {p : Addr} {xs : List V} (hp : SqL K H p xs ∨ SqT K H p xs) : ∃ t, PySem.W.kitAny K t [.type "list", .type "tuple"] = some true ∧ TyX K H (.ref p) t ∧ ∀ H', Same H H' → TyX K H' (.ref p) t := by
  rcases hp with hp | hp
  · exact ⟨_, kit_two (by decide +kernel : kitB "list" "list" = some true) (by decide +kernel : kitB "list" "tuple" = some false), sql_ty hp, fun H' s' => sql_ty (s'.seq hp)⟩
  · exact ⟨_, kit_two (by decide +kernel : kitB "tuple" "list" = some false) (by decide +kernel : kitB "tuple" "tuple" = some true), sqt_ty hp, fun H' s' => sqt_ty (Same.sqt s' hp)⟩
theorem sqt_sameN {K : PySem.W.Frag} {H H' : Hp} {a : Addr} {xs : List V} (s : SameN H H') (h : SqT K H a xs) : SqT K H' a xs := by
  rcases h with (e | ⟨o, e⟩) | e
  · exact .inl (.inl (s _ _ e fun _ z => nomatch z))
  · exact .inl (.inr ⟨o, s _ _ e fun _ z => nomatch z⟩)
  · exact .inr e
theorem RowAt.sameN {R : TRows K mg} {H H' : Hp} {a : Addr} {r : RowD} (s : SameN H H') (h : RowAt R H a r) : RowAt R H' a r := by
  obtain ⟨dx, e⟩ := h
  obtain ⟨gs, eg⟩ := insRow_ins R dx r
  exact ⟨dx, s _ _ e fun _ z => by rw [eg] at z; cases z⟩
theorem filter_out : ∀ cs : List FilD, cs.filterMap (fun c => if c.2.2 = [] then none else some (V.str c.1)) = ((cs.filter fun c => decide (c.2.2 ≠ [])).map (·.1)).map V.str
  | [] => rfl
  | c :: cs => by
    by_cases h : c.2.2 = []
    · rw [List.filterMap_cons, List.filter_cons]
      simp only [h, if_true, ne_eq, not_true, decide_false, Bool.false_eq_true, if_false]
      exact filter_out cs
    · rw [List.filterMap_cons, List.filter_cons]
      simp only [h, if_false, ne_eq, not_false_iff, decide_true, if_true, List.map_cons]
      rw [filter_out cs]
theorem pairs_kv {R : TRows K mg} {H : Hp} : ∀ {ts : List Addr} {cs : List FilD}, Paired (FPair R H) ts cs → Paired (fun p (kv : Key × V) => SqT K H p [kV kv.1, kv.2]) ts (cs.map fun c => (Sum.inr c.1, V.ref c.2.1))
  | _, _, .nil => .nil
  | _, _, .cons a b => .cons a.1 (pairs_kv b)
/-- what stands as one pair of a filling -/
def FOne (R : TRows K mg) (cs : List FilD) (H : Hp) (p : Addr) (y : Str) : Prop := ∃ (c : FilD) (q : Addr) (us : List Addr), c ∈ cs ∧ c.1 = y ∧ SqT K H p [.str y, .ref q] ∧ SqT K H q (us.map V.ref) ∧ Paired (fun u r => RowAt R H u r) us c.2.2 ∧ ∀ r ∈ c.2.2, fillB r = true
theorem FOne.sameN {R : TRows K mg} {cs : List FilD} {H H' : Hp} {p : Addr} {y : Str} (s : SameN H H') (h : FOne R cs H p y) : FOne R cs H' p y := by
  obtain ⟨c, q, us, h1, h2, h3, h4, h5, h6⟩ := h
  exact ⟨c, q, us, h1, h2, sqt_sameN s h3, sqt_sameN s h4, paired_mono (fun _ _ z => RowAt.sameN s z) h5, h6⟩
theorem FOne.ins {R : TRows K mg} {cs : List FilD} {H : Hp} {p x C dx : Addr} {y : Str} {o : HO} (hx : H x = some (.ins C dx [])) (h : FOne R cs H p y) : FOne R cs (upd H x o) p y := by
  obtain ⟨c, q, us, h1, h2, h3, h4, h5, h6⟩ := h
  refine ⟨c, q, us, h1, h2, sqt_ins hx h3, sqt_ins hx h4, paired_mono (fun u r z => ?_) h5, h6⟩
  obtain ⟨dy, fs, e, _, _, hl⟩ := row_word R z
  have ne : u ≠ x := fun w => by
    rw [w, hx] at e
    cases e
    cases hl
  obtain ⟨d2, e2⟩ := z
  exact ⟨d2, by rw [upd_ne ne]; exact e2⟩
theorem scFInit : FnScope ["self", "parts", "names", "given", "pair", "name", "rows"] ["self", "parts"] (defScope sFInit) := ⟨rfl, rfl, rfl, by decide +kernel, rfl, by decide +kernel, by decide +kernel⟩
theorem okFInit {R : TRows K mg} (T : TFill R) : FnOk P w K mg base (L2.CX P w) 5 T.fI T.fdI ["self", "parts"] (spFInit R T.C T.IF.C) := by
  refine T.FI.ok scFInit (fun vs H Q E h => ?_) (fun cdv A outer s H vs Q E hr h => ?_)
  · obtain ⟨x, dx, v, rfl, _⟩ := h
    rfl
  · obtain ⟨x, dx, v, rfl, hx, h⟩ := h
    refine ⟨_, (pss_cons (ps_if (PW.pt (pw_or (pt_not (pt_val (pe_call (ok_isSeq T.isSeq.F R.N.mIsi T.mList T.mTup) (hr.mono (by decide)) rfl T.isSeq.m T.isSeq.F.kp T.isSeq.b .nil pass0 (pa_cons (pv 1) pa_nil)))) (pw_or1 (pt_not (pt_val (pe_callB (cr_all rfl) (by rfl) R.N.mAll (by decide +kernel) (pa_cons (pe_lc (own := [("pair", 4)]) (g := gName 4) (tt := tYes) (by rfl) scFInit.nd (pi_seq (pv 1))
 (blkOk_by (N := ["self", "parts", "names", "given", "pair", "name", "rows"]) (sc := defScope sFInit) (by decide +kernel)) (fun _ _ _ _ _ => (pg_name (i := 4) scFInit.nd rfl (Or.inl rfl))) (fun _ _ _ _ _ => pts_nil) (fun _ _ _ _ _ => (pe_call (ok_isFilled T.toTFil) (hr.mono (by decide)) rfl T.isF.m T.isF.F.kp T.isF.b .nil pass0 (pa_cons (pv 4) pa_nil)))) pa_nil))))))) (pss_one (ps_raise rfl (takes_of rfl rfl rfl rfl) (pmk_oex T.IF.O T.IF.iC T.IF.tI (okIFInit T.IF) (hr.mono (by decide)) T.IF.b .nil pass0 rfl T.IF.m (pa_cons pe_str pa_nil)))) pss_nil)
(pss_cons (ps_if (pt_cmpR op_lt (pe_callB cr_lenX (by rfl) R.N.mLen PySem.boot_len (pa_cons (pe_callTy (cr_setX rfl) (by rfl) T.mSet (by decide +kernel) (pa_cons (pe_lc (own := [("name", 5), ("rows", 6)]) (g := gTup K 2 (gCons (gName 5) (gCons (gName 6) gNil))) (tt := tYes) (by rfl) scFInit.nd (pi_seq (pv 1))
 (blkOk_by (N := ["self", "parts", "names", "given", "pair", "name", "rows"]) (sc := defScope sFInit) (by decide +kernel)) (fun _ _ _ _ _ => (pg_tup (by rfl) (pgs_cons (pg_name (i := 5) scFInit.nd rfl (Or.inl rfl)) (pgs_cons (pg_name (i := 6) scFInit.nd rfl (Or.inl rfl)) pgs_nil)))) (fun _ _ _ _ _ => pts_nil) (fun _ _ _ _ _ => (pv 5))) pa_nil)) pa_nil)) (pe_callB (show CallR _ (.builtin "len") (rLenSq K) from call_len_sq) (by rfl) R.N.mLen PySem.boot_len (pa_cons (pv 1) pa_nil)) (nomark _)) (pss_one (ps_raise rfl (takes_of rfl rfl rfl rfl) (pmk_oex T.IF.O T.IF.iC T.IF.tI (okIFInit T.IF) (hr.mono (by decide)) T.IF.b .nil pass0 rfl T.IF.m (pa_cons pe_str pa_nil)))) pss_nil)
(pss_cons (ps_set (i := 2) scFInit.nd rfl (Or.inl rfl) (pe_callB (cr_sortX rfl) (by rfl) T.mSorted (by decide +kernel) (pa_cons (pe_callTy (cr_setX rfl) (by rfl) T.mSet (by decide +kernel) (pa_cons (pe_lc (own := [("name", 5), ("rows", 6)]) (g := gTup K 2 (gCons (gName 5) (gCons (gName 6) gNil))) (by rfl) scFInit.nd (pi_seq (pv 1))
 (blkOk_by (N := ["self", "parts", "names", "given", "pair", "name", "rows"]) (sc := defScope sFInit) (by decide +kernel)) (fun _ _ _ _ _ => (pg_tup (by rfl) (pgs_cons (pg_name (i := 5) scFInit.nd rfl (Or.inl rfl)) (pgs_cons (pg_name (i := 6) scFInit.nd rfl (Or.inl rfl)) pgs_nil)))) (fun _ _ _ _ _ => pts_one (pt_cmpR op_gt (pe_callB (show CallR _ (.builtin "len") (rLenSq K) from call_len_sq) (by rfl) R.N.mLen PySem.boot_len (pa_cons (pv 6) pa_nil)) pe_int (nomark _))) (fun _ _ _ _ _ => (pv 5))) pa_nil)) pa_nil)))
(pss_cons (ps_set (i := 3) scFInit.nd rfl (Or.inr rfl) (pe_callTy (cr_dictX2 rfl) (by rfl) T.mDict (by decide +kernel) (pa_cons (pv 1) pa_nil)))
(pss_one (ps_fld (pv 0) (pe_callTy (show CallR _ (.type "tuple") (rTupO K) from call_tupO) (by rfl) T.mTup (by decide +kernel) (pa_cons (pe_lc (own := [("name", 5)]) (g := gName 5) (tt := tYes) (by rfl) scFInit.nd (pi_list (pv 2))
 (blkOk_by (N := ["self", "parts", "names", "given", "pair", "name", "rows"]) (sc := defScope sFInit) (by decide +kernel)) (fun _ _ _ _ _ => (pg_name (i := 5) scFInit.nd rfl (Or.inl rfl))) (fun _ _ _ _ _ => pts_nil) (fun _ _ _ _ _ => (pe_tup (pa_cons (pv 5) (pa_cons (pe_callTy (show CallR _ (.type "tuple") (rTupO K) from call_tupO) (by rfl) T.mTup (by decide +kernel) (pa_cons (pe_dget (roomV hr) (pv 3) (pv 5) (fun _ _ => rfl)) pa_nil)) pa_nil))))) pa_nil)) rfl)))))), ?_⟩
    rcases h with ⟨⟨t, ty, hk, keep⟩, hz⟩ | h
    · refine stepEither true (fun H' => Same H H') (fun Q' hQ => ?_) (fun _ H1 s1 => ?_) (fun z => nomatch z)
      · exact ⟨_, rfl, v, t, false, rfl, ty, hk, keep, fun H1 s1 m1 => ⟨false, rfl, hQ _ s1⟩⟩
      · exact ⟨(by show 1 ≤ 1000; decide), fun a ha => ⟨a, T.IF.C, _, rfl, upd_same, T.IF.O, T.IF.noF, fun dx g1 g2 => ⟨rfl, dx, _, upd_same, by rw [upd_ne g2, upd_same], by rw [upd_ne g2] at g1; exact g1, if_made s1 hz ha dx g1 g2⟩⟩⟩
    have first : ∀ (p : Addr) (xs : List V) (bs : List Bool), v = .ref p → (SqL K H p xs ∨ SqT K H p xs) → Paired (FillE R H) xs bs → xs.length ≤ 1000 → ∀ Q' : Bool → Hp → Prop, (∀ H', Same H H' → Q' (!bs.all id) H') →
        (tOr (tNot (tB (tCall (spIsSeq K) [] E0 (tCons (tVar 1) tNil)))) (tNot (tB (tCB (rAll K) (tCons (tLc (iSeq K (tVar 1)) (gName 4) tYes (tCall (spIsFilled R) [] E0 (tCons (tVar 4) tNil)) [4]) tNil))))) (L2.start ["self", "parts", "names", "given", "pair", "name", "rows"] [.ref x, v]) H Q' := by
      intro p xs bs hv hp hpd hxl Q' hQ
      subst hv
      obtain ⟨t, hk, ht1, ht2⟩ := kind_seq hp
      refine ⟨_, rfl, _, t, true, rfl, ht1, hk, ht2, fun H1 s1 m1 => ⟨true, rfl, iteF ?_⟩⟩
      dsimp only [tNot, tB, tCB, tCons, tNil]
      have hp1 : SqL K H1 p xs ∨ SqT K H1 p xs := hp.elim (fun h => .inl (s1.seq h)) (fun h => .inr (Same.sqt s1 h))
      have hpd1 := paired_mono (fun _ _ z => z.same s1) hpd
      have hbl : xs.length = bs.length := paired_len hpd
      refine lcw_seq (K := K) (tl := tVar 1) (p := p) (xs := xs) (out := fun i => (bs[i]?).map V.bl) ?h0 hp1 (Nat.le_trans hxl (by decide)) ?tn ?fn
      case h0 => exact fun R z => ⟨_, rfl, z⟩
      case tn =>
        intro m y Hi S Y hy sI h0 h1
        obtain ⟨b, hb, hfl⟩ := paired_at hpd1 hy
        exact ⟨rfl, _, rfl, y, b, rfl, hfl.same sI, fun H' s' => h1 (.bl b) (by show Option.map V.bl bs[m]? = _; rw [hb]; rfl) H' s'⟩
      case fn =>
        intro D H3 hD s3 h3
        have eo : (List.range xs.length).filterMap (fun i => (bs[i]?).map V.bl) = bs.map V.bl := by
          rw [hbl]
          exact out_map (l := bs) (f := V.bl)
        rw [eo] at h3
        exact ⟨D, bs, rfl, SqL.of h3, bs.all id, rfl, hQ _ (s1.trans s3)⟩
    rcases h with ⟨p, xs, bs, rfl, hp, hpd, hxl, hall, hz⟩ | h
    · refine stepEither true (fun H' => Same H H') (fun Q' hQ => first p xs bs rfl hp hpd hxl Q' (fun H' s => by rw [hall]; exact hQ _ s)) (fun _ H1 s1 => ?_) (fun z => nomatch z)
      exact ⟨(by show 1 ≤ 1000; decide), fun a ha => ⟨a, T.IF.C, _, rfl, upd_same, T.IF.O, T.IF.noF, fun dx g1 g2 => ⟨rfl, dx, _, upd_same, by rw [upd_ne g2, upd_same], by rw [upd_ne g2] at g1; exact g1, if_made s1 hz ha dx g1 g2⟩⟩⟩
    have both : ∃ (p : Addr) (ts : List Addr) (cs : List FilD), v = .ref p ∧ (SqL K H p (ts.map V.ref) ∨ SqT K H p (ts.map V.ref)) ∧ Paired (FPair R H) ts cs ∧ cs.length ≤ 60 ∧ ((¬ (cs.map (·.1)).Nodup ∧ RaiseF T.IF.C H E (.str "name")) ∨
        ((cs.map (·.1)).Nodup ∧ (SqL K H p (ts.map V.ref) ∨ TupY K H p (ts.map V.ref)) ∧ ∀ (tp : Addr) (H' : Hp), KpI x H H' → FilAt R H' tp cs → H' x = some (insFil T.C dx (.ref tp)) → Q .non H')) := by
      rcases h with ⟨p, ts, cs, e, hp, pd, hl, nd, hz⟩ | ⟨p, ts, cs, e, hp, pd, hl, nd, q⟩
      · exact ⟨p, ts, cs, e, hp, pd, hl, .inl ⟨nd, hz⟩⟩
      · exact ⟨p, ts, cs, e, hp.imp id TupY.sqt, pd, hl, .inr ⟨nd, hp, q⟩⟩
    clear h
    obtain ⟨p, ts, cs, rfl, hp, pd, hcl, h⟩ := both
    have htl : ts.length = cs.length := paired_len pd
    have h60 : (ts.map V.ref).length ≤ 1000 := by rw [List.length_map]; omega
    refine stepEither false (fun H' => Same H H') (fun Q' hQ => first p (ts.map V.ref) (cs.map fun _ => true) rfl hp (pairs_flags pd) h60 Q' (fun H' s => by rw [all_true]; exact hQ _ s)) (fun z => nomatch z) (fun _ H1 s1 => ?_)
    clear first
    have hp1 : SqL K H1 p (ts.map V.ref) ∨ SqT K H1 p (ts.map V.ref) := hp.elim (fun h => .inl (s1.seq h)) (fun h => .inr (Same.sqt s1 h))
    have pd1 := paired_mono (fun _ _ z => z.same s1) pd
    refine stepEither (!decide (cs.map (·.1)).Nodup) (fun H' => Same H1 H') (fun Q' hQ => ?t2) (fun e H2 s2 => ?bad) (fun e H2 s2 => ?rest2)
    case t2 =>
      dsimp only [tTest, tOp, tCB, tCons, tNil]
      refine lcw_seq (K := K) (tl := tVar 1) (p := p) (xs := ts.map V.ref) (out := fun i => (cs[i]?).map fun c => V.str c.1) ?h0 hp1 (Nat.le_trans h60 (by decide)) ?tn ?fn
      case h0 => exact fun R z => ⟨_, rfl, z⟩
      case tn =>
        intro m y Hi S Y hy sI h0 h1
        rw [List.getElem?_map] at hy
        obtain ⟨t, ht, rfl⟩ := Option.map_eq_some_iff.mp hy
        obtain ⟨c, hc, hP⟩ := paired_at pd1 ht
        exact ⟨t, _, rfl, Same.sqt sI hP.1, rfl, _, _, rfl, _, _, rfl, rfl, rfl, _, rfl, h1 (.str c.1) (by show Option.map (fun c : FilD => V.str c.1) cs[m]? = _; rw [hc]; rfl) Hi (Same.refl _)⟩
      case fn =>
        intro D H3 hD s3 h3
        have eo : (List.range (ts.map V.ref).length).filterMap (fun i => (cs[i]?).map fun c => V.str c.1) = (cs.map (·.1)).map V.str := by
          rw [List.length_map, htl, List.map_map]
          exact out_map (l := cs) (f := fun c => V.str c.1)
        rw [eo] at h3
        refine ⟨D, cs.map (·.1), rfl, SqL.of h3, by rw [List.length_map]; omega, fun a ha => ?_⟩
        have sa := s3.trans (Same.new (o := SetX P w a (uniq (cs.map (·.1)))) ha)
        refine ⟨a, uniq (cs.map (·.1)), rfl, upd_same, Nat.le_trans (uniq_len _) (by rw [List.length_map]; omega), ?_⟩
        refine ⟨_, rfl, p, ts.map V.ref, rfl, hp1.elim (fun h => .inl (sa.seq h)) (fun h => .inr (Same.sqt sa h)), ?_⟩
        refine ⟨_, _, rfl, rfl, _, rfl, ?_⟩
        rw [show decide (((uniq (cs.map (·.1))).length : Int) < ((ts.map V.ref).length : Int)) = !decide (cs.map (·.1)).Nodup from ?_]
        · exact hQ _ sa
        · by_cases nd : (cs.map (·.1)).Nodup
          · have e := uniq_all nd
            rw [List.length_map] at e
            rw [decide_eq_true nd]
            refine decide_eq_false ?_
            rw [List.length_map, htl, e]
            omega
          · have e := uniq_less nd
            rw [List.length_map] at e
            rw [decide_eq_false nd]
            refine decide_eq_true ?_
            rw [List.length_map, htl]
            omega
    case bad =>
      have nd : ¬ (cs.map (·.1)).Nodup := by simpa using e
      rcases h with ⟨_, hz⟩ | ⟨y, _⟩
      · exact ⟨(by show 1 ≤ 1000; decide), fun a ha => ⟨a, T.IF.C, _, rfl, upd_same, T.IF.O, T.IF.noF, fun dx g1 g2 => ⟨rfl, dx, _, upd_same, by rw [upd_ne g2, upd_same], by rw [upd_ne g2] at g1; exact g1, if_made (s1.trans s2) hz ha dx g1 g2⟩⟩⟩
      · exact absurd y nd
    case rest2 =>
    have nd : (cs.map (·.1)).Nodup := by simpa using e
    obtain ⟨hpx, q⟩ : (SqL K H p (ts.map V.ref) ∨ TupY K H p (ts.map V.ref)) ∧ ∀ (tp : Addr) (H' : Hp), KpI x H H' → FilAt R H' tp cs → H' x = some (insFil T.C dx (.ref tp)) → Q .non H' := by
      rcases h with ⟨z, _⟩ | ⟨_, a, b⟩
      · exact absurd nd z
      · exact ⟨a, b⟩
    clear h
    have s02 := s1.trans s2
    have hp2 : SqL K H2 p (ts.map V.ref) ∨ SqT K H2 p (ts.map V.ref) := hp1.elim (fun h => .inl (s2.seq h)) (fun h => .inr (Same.sqt s2 h))
    have pd2 := paired_mono (fun _ _ z => z.same s2) pd1
    refine stepSet (fun v H' => ∃ (g : Addr) (ys : List Str), v = .ref g ∧ Same H2 H' ∧ H' g = some (.lst (ys.map V.str)) ∧ ys.Perm (uniq ((cs.filter fun c => decide (c.2.2 ≠ [])).map (·.1))) ∧ sortedS ys = true) (fun Q' hQ => ?t3) (fun v H3 hC => ?rest3)
    case t3 =>
      dsimp only [tCB, tCons, tNil]
      refine lcw_seq (K := K) (tl := tVar 1) (p := p) (xs := ts.map V.ref) (out := fun i => (cs[i]?).bind fun c => if c.2.2 = [] then none else some (V.str c.1)) ?h0 hp2 (Nat.le_trans h60 (by decide)) ?tn ?fn
      case h0 => exact fun R z => ⟨_, rfl, z⟩
      case tn =>
        intro m y Hi S Y hy sI h0 h1
        rw [List.getElem?_map] at hy
        obtain ⟨t, ht, rfl⟩ := Option.map_eq_some_iff.mp hy
        obtain ⟨c, hc, hP⟩ := paired_at pd2 ht
        obtain ⟨g1, _, us, g2, g3, _⟩ := hP.same sI
        have lu := paired_len g3
        have oc : (fun i => (cs[i]?).bind fun c : FilD => if c.2.2 = [] then none else some (V.str c.1)) m = if c.2.2 = [] then none else some (V.str c.1) := by
          show (cs[m]?).bind _ = _
          rw [hc]
          rfl
        refine ⟨t, _, rfl, g1, rfl, _, _, rfl, _, _, rfl, rfl, rfl, ?_⟩
        refine ⟨_, rfl, c.2.1, us.map V.ref, rfl, g2, ?_⟩
        refine ⟨_, _, rfl, rfl, _, rfl, ?_⟩
        by_cases hz : c.2.2 = []
        · rw [if_pos hz] at oc
          rw [if_neg (by rw [List.length_map, lu, hz]; decide)]
          exact h0 oc _ (Same.refl _)
        · rw [if_neg hz] at oc
          have pos := List.length_pos_iff.mpr hz
          rw [if_pos (by rw [List.length_map, lu]; exact decide_eq_true (by omega))]
          exact ⟨_, rfl, h1 _ oc _ (Same.refl _)⟩
      case fn =>
        intro D H3 hD s3 h3
        have eo : (List.range (ts.map V.ref).length).filterMap (fun i => (cs[i]?).bind fun c => if c.2.2 = [] then none else some (V.str c.1)) = ((cs.filter fun c => decide (c.2.2 ≠ [])).map (·.1)).map V.str := by
          rw [List.length_map, htl, ← filter_out]
          exact out_filter
        rw [eo] at h3
        have few : ((cs.filter fun c => decide (c.2.2 ≠ [])).map (·.1)).length ≤ 60 := by
          rw [List.length_map]
          exact Nat.le_trans (List.length_filter_le _ _) hcl
        refine ⟨D, _, rfl, SqL.of h3, by omega, fun a ha => ?_⟩
        have sa := s3.trans (Same.new (o := SetX P w a (uniq ((cs.filter fun c => decide (c.2.2 ≠ [])).map (·.1)))) ha)
        refine ⟨a, _, rfl, upd_same, Nat.lt_of_le_of_lt (Nat.le_trans (uniq_len _) few) (by decide), fun ys g perm sorted hg => ?_⟩
        exact hQ _ _ ⟨g, ys, rfl, sa.trans (Same.new hg), upd_same, perm, sorted⟩
    case rest3 =>
    obtain ⟨g, ys, rfl, s3, hg, perm, sorted⟩ := hC
    have s03 := s02.trans s3
    have pd3 := paired_mono (fun _ _ z => z.same s3) pd2
    refine stepSet (fun v H' => ∃ (g2 : Addr), v = .ref g2 ∧ Same H3 H' ∧ H' g2 = some (.dK (mergeK [] (cs.map fun c => (Sum.inr c.1, V.ref c.2.1))))) (fun Q' hQ => ?t4) (fun v H4 hC => ?rest4)
    case t4 => exact ⟨_, rfl, p, ts, _, rfl, hpx.imp (fun h => s03.seq h) (fun h => h.same s03), pairs_kv pd3, fun g hg => hQ _ _ ⟨g, rfl, Same.new hg, upd_same⟩⟩
    case rest4 =>
    obtain ⟨g2, rfl, s4, hg2⟩ := hC
    have s04 := s03.trans s4
    have pd4 := paired_mono (fun _ _ z => z.same s4) pd3
    have hg4 := s4 _ _ hg
    have two : 2 ≤ sizeLine := by decide
    have yl : ys.length ≤ 60 := by
      rw [perm.length_eq]
      refine Nat.le_trans (uniq_len _) ?_
      rw [List.length_map]
      exact Nat.le_trans (List.length_filter_le _ _) hcl
    dsimp only [sFld, tCB, tCons, tNil]
    refine lcw_objs (K := K) (tl := tVar 2) (p := g) (xs := ys.map V.str) (cs := ys) (R := fun H t y => FOne R cs H t y) (fun s z => z.sameN s) ?h0 (SqL.of hg4) (by rw [List.length_map]; omega) (by rw [List.length_map]) ?tn ?fn
    case h0 => exact fun R z => ⟨_, rfl, z⟩
    case tn =>
      intro m yv y Hi S Y hy hys sI k
      rw [List.getElem?_map, hys] at hy
      cases hy
      have hm : y ∈ uniq ((cs.filter fun c => decide (c.2.2 ≠ [])).map (·.1)) := perm.mem_iff.mp (List.mem_of_getElem? hys)
      obtain ⟨c, hcm, rfl⟩ := List.mem_map.mp ((uniq_has _ y).mp hm)
      have hc := (List.mem_filter.mp hcm).1
      obtain ⟨t, hP⟩ := Paired.right pd4 c hc
      obtain ⟨g1, _, us, h2, h3, h4, _⟩ := hP.same sI
      have hd : DGet Hi g2 (.str c.1) (some (.ref c.2.1)) := by
        have z := DGet.k (k := (Sum.inr c.1 : Key)) (sI _ _ hg2)
        rw [merge_inF (f := fun c => V.ref c.2.1) nd hc] at z
        exact z
      refine ⟨rfl, _, rfl, _, rfl, _, rfl, g2, .ref c.2.1, rfl, hd, c.2.1, us.map V.ref, rfl, ?_⟩
      rcases h2 with h2 | h2
      · refine .inl ⟨h2, fun l hl => ⟨two, fun t ht => ?_⟩⟩
        have a1 := Same.new (o := .tup (us.map V.ref)) hl
        have a2 := Same.new (o := .tup [.str c.1, .ref l]) ht
        exact k t _ (a1.trans a2) ⟨c, l, us, hc, rfl, SqT.of upd_same, SqT.of (a2 _ _ upd_same), paired_mono (fun _ _ z => z.same (a1.trans a2)) h3, h4⟩
      · refine .inr ⟨h2, ⟨two, fun t ht => ?_⟩⟩
        have a2 := Same.new (o := .tup [.str c.1, .ref c.2.1]) ht
        exact k t _ a2 ⟨c, c.2.1, us, hc, rfl, SqT.of upd_same, Same.sqt a2 h2, paired_mono (fun _ _ z => z.same a2) h3, h4⟩
    case fn =>
      intro D H5 ps hD s5 h5 pp
      refine ⟨D, ps.map V.ref, rfl, .inl ⟨SqL.of h5, fun tp htp => ?_⟩⟩
      have s6 := Same.new (o := .tup (ps.map V.ref)) htp
      have s06 := (s04.trans s5).trans s6
      have hx6 := s06 _ _ hx
      have pp6 := paired_mono (fun _ _ z => FOne.sameN (SameN.of s6) z) pp
      have ht6 : SqT K (upd H5 tp (.tup (ps.map V.ref))) tp (ps.map V.ref) := SqT.of upd_same
      generalize upd H5 tp (.tup (ps.map V.ref)) = H6 at s6 s06 hx6 pp6 ht6 ⊢
      refine ⟨_, rfl, x, T.C, dx, [], rfl, hx6, T.cl, T.noF, (by show 0 < 1000; decide), ?_⟩
      refine q tp _ (fun b o e n => by rw [upd_ne n]; exact s06 _ _ e) ⟨ps, ys, sqt_ins hx6 ht6, perm, sorted, paired_mono (fun _ _ z => FOne.ins hx6 z) pp6⟩ upd_same
end
end Pn

namespace Pn
open PySem L2
/-- a property of an own class (books5 has it too: take one of both) -/
structure TPr (K : PySem.W.Frag) (C : Addr) (nm qual : Str) (st : Stmt) : Type where
  p : Addr
  g : Addr
  fd : FuncData
  F : Fun K nm qual st g fd
  b : Binds K fd ["self"] []
  P : PropOf K C nm p g
end Pn

namespace Pn
open PySem PySem.Spec PyProof.Rows L2 TL
abbrev sFText : Stmt := top 27
abbrev sFNames : Stmt := inClass (top 28) 1
abbrev sFRows : Stmt := inClass (top 28) 2
abbrev sFStr : Stmt := inClass (top 28) 3
/-! ### a filling told: its names, its rows, its text -/
abbrev FD := Str × List RowD
def fText (d : FD) : Str := Str.empty ++ d.1 ++ (": " : Str) ++ Txt.join ", " (d.2.map rowText)
def filText (ds : List FD) : Str := if ds = [] then "-" else Txt.join "; " (ds.map fText)
section
variable {P : Program} {w : World} {K : PySem.W.Frag} {mg : Str → Option Value} {base : Heap}
/-- one name with its rows -/
def FItem (R : TRows K mg) (H : Hp) (p : Addr) (d : FD) : Prop := ∃ (q : Addr) (us : List Addr), SqT K H p [.str d.1, .ref q] ∧ SqT K H q (us.map V.ref) ∧ Paired (fun u r => RowAt R H u r) us d.2
theorem FItem.same {R : TRows K mg} {H H' : Hp} {p : Addr} {d : FD} (h : FItem R H p d) (s : Same H H') : FItem R H' p d := by
  obtain ⟨q, us, h1, h2, h3⟩ := h
  exact ⟨q, us, Same.sqt s h1, Same.sqt s h2, paired_mono (fun _ _ z => z.same s) h3⟩
/-- a filling -/
def FilI {R : TRows K mg} (T : TFill R) (H : Hp) (a : Addr) (ds : List FD) : Prop := ∃ (dx tp : Addr) (ps : List Addr), H a = some (insFil T.C dx (.ref tp)) ∧ SqT K H tp (ps.map V.ref) ∧ Paired (FItem R H) ps ds
theorem FilI.same {R : TRows K mg} {T : TFill R} {H H' : Hp} {a : Addr} {ds : List FD} (h : FilI T H a ds) (s : Same H H') : FilI T H' a ds := by
  obtain ⟨dx, tp, ps, h1, h2, h3⟩ := h
  exact ⟨dx, tp, ps, s _ _ h1, Same.sqt s h2, paired_mono (fun _ _ z => z.same s) h3⟩
/-- of so few names and rows that it can be told -/
def filOk (ds : List FD) : Prop := ds.length ≤ 60 ∧ ∀ d ∈ ds, nameS d.1 = true ∧ d.2.length ≤ 100 ∧ ∀ r ∈ d.2, rowValid r
theorem fil_fld {u : V} : (putF "filled" u ([] : List (Str × V))).lookup ("filled" : Str) = some u := by
  rw [lookup_putF, if_pos rfl]
structure TFilM {R : TRows K mg} (T : TFill R) : Type where
  S : TStrs R
  ftext : At K mg "filled_text" sFText ["name", "rows"]
  names : TPr K T.C "names" "Filling.names" sFNames
  rowsFor : TMeth K T.C "rows_for" "Filling.rows_for" sFRows ["self", "name"]
  str : TMeth K T.C "__str__" "Filling.__str__" sFStr ["self"]
theorem rows_len {rs : List RowD} (h : ∀ r ∈ rs, rowValid r) : ((rs.map rowText).map (·.length)).sum ≤ 63 * rs.length := by
  induction rs with
  | nil => exact Nat.le_refl _
  | cons r rs ih =>
    have h1 := (sm_row (h r List.mem_cons_self)).1
    have h2 := ih fun x hx => h x (List.mem_cons_of_mem _ hx)
    simp only [List.map_cons, List.sum_cons, List.length_cons] at h2 ⊢
    omega
def spFText (R : TRows K mg) : Sp := fun vs H Q _ => ∃ (z : Str) (q : Addr) (us : List Addr) (rs : List RowD), vs = [.str z, .ref q] ∧ SqT K H q (us.map V.ref) ∧ Paired (fun u r => RowAt R H u r) us rs ∧ nameS z = true ∧ rs.length ≤ 100 ∧ (∀ r ∈ rs, rowValid r) ∧ ∀ H', Same H H' → Q (.str (fText (z, rs))) H'
theorem scFText : FnScope ["name", "rows", "texts", "row"] ["name", "rows"] (defScope sFText) := ⟨rfl, rfl, rfl, by decide +kernel, rfl, by decide +kernel, by decide +kernel⟩
theorem ok_ftext {R : TRows K mg} {T : TFill R} (S : TFilM T) : FnOk P w K mg base CX0 4 S.ftext.f S.ftext.fd ["name", "rows"] (spFText R) := by
  refine S.ftext.F.ok scFText (fun vs H Q E h => ?_) (fun cdv A outer s H vs Q E hr h => ?_)
  · obtain ⟨z, q, us, rs, rfl, _⟩ := h
    rfl
  · obtain ⟨z, qa, us, rs, rfl, hq, hus, hz, hl, hv, q⟩ := h
    refine ⟨_, (pss_cons (ps_set (i := 2) scFText.nd rfl (Or.inl rfl) (pe_join pe_str (pe_lc (own := [("row", 3)]) (g := gName 3) (tt := tYes) (by rfl) scFText.nd (pi_tup (pv 1))
 (blkOk_by (N := ["name", "rows", "texts", "row"]) (sc := defScope sFText) (by decide +kernel)) (fun _ _ _ _ _ => (pg_name (i := 3) scFText.nd rfl (Or.inl rfl))) (fun _ _ _ _ _ => pts_nil) (fun _ _ _ _ _ => (pe_callTy (show CallR _ (.type "str") (rStrRow R) from call_strRowK (K := K) (mg := mg) rfl rfl R S.S hr) (by rfl) R.N.mStr (by decide +kernel) (pa_cons (pv 3) pa_nil))))))
(pss_one (ps_ret (pe_joined (.cons (pe_fmt (pv 0)) (.cons pe_str (.cons (pe_fmt (pv 2)) .nil))))))), ?_⟩
    have hul := paired_len hus
    refine stepSet (fun v H' => Same H H' ∧ v = .str (Txt.join ", " (rs.map rowText))) (fun Q' hQ => ?t1) (fun v H1 hC => ?r1)
    case t1 =>
      refine ⟨⟨_, rfl⟩, ?_⟩
      refine lcw_tup (K := K) (tl := tVar 1) (p := qa) (xs := us.map V.ref) (out := fun i => (rs[i]?).map fun r => V.str (rowText r)) ?h0 hq (by rw [List.length_map, hul]; omega) ?tn ?fn
      case h0 => exact fun R z => ⟨_, rfl, z⟩
      case tn =>
        intro m y Hi S' Y hy sI h0 h1
        rw [List.getElem?_map] at hy
        obtain ⟨u, hu, rfl⟩ := Option.map_eq_some_iff.mp hy
        obtain ⟨r, hr2, hrow⟩ := paired_at hus hu
        exact ⟨rfl, _, rfl, u, r, rfl, hrow.same sI, valid_small (hv r (List.mem_of_getElem? hr2)), h1 _ (by show Option.map (fun r => V.str (rowText r)) rs[m]? = _; rw [hr2]; rfl) Hi (Same.refl _)⟩
      case fn =>
        intro D H' hD sD hDl
        have eo : (List.range (us.map V.ref).length).filterMap (fun i => (rs[i]?).map fun r => V.str (rowText r)) = (rs.map rowText).map V.str := by
          rw [List.length_map, hul, List.map_map]
          exact out_map (l := rs) (f := fun r => V.str (rowText r))
        rw [eo] at hDl
        have h63 := rows_len hv
        refine ⟨", ", D, rs.map rowText, rfl, rfl, .inl (SqL.of hDl), ?_, hQ _ _ ⟨sD, rfl⟩⟩
        rw [List.length_map, show (", " : Str).length = 2 by decide +kernel]
        omega
    case r1 =>
    obtain ⟨s1, rfl⟩ := hC
    try dsimp only [List.set]
    have h63 := rows_len hv
    have jl : (Txt.join ", " (rs.map rowText)).length ≤ 7000 := by
      have e : Txt.join ", " (rs.map rowText) = Str.join ", " (rs.map rowText) := join_eq _ _
      have := StrLaws.join_length_le ", " (rs.map rowText)
      rw [e]
      rw [List.length_map, show (", " : Str).length = 2 by decide +kernel] at this
      omega
    have zl := (name_ok hz).2
    refine ⟨_, rfl, .inl ⟨z, rfl, Nat.le_trans zl (by decide), z, rfl, ?l1, ": ", rfl, ?l2, _, rfl, .inl ⟨_, rfl, Nat.le_trans jl (by decide), _, rfl, ?l3, ?_⟩⟩⟩
    case l1 =>
      rw [strLen_append]
      exact Nat.le_trans (Nat.add_le_add_left zl _) (by decide +kernel)
    case l2 =>
      rw [strLen_append, strLen_append]
      exact Nat.le_trans (Nat.add_le_add_right (Nat.add_le_add_left zl _) _) (by decide +kernel)
    case l3 =>
      rw [strLen_append, strLen_append, strLen_append]
      exact Nat.le_trans (Nat.add_le_add (Nat.add_le_add_right (Nat.add_le_add_left zl _) _) jl) (by decide +kernel)
    exact q _ s1
end
end Pn

namespace Pn
open PySem PySem.Spec PyProof.Rows L2 TL
section
variable {P : Program} {w : World} {K : PySem.W.Frag} {mg : Str → Option Value} {base : Heap}
def spFNames {R : TRows K mg} (T : TFill R) : Sp := fun vs H Q _ => ∃ (a : Addr) (ds : List FD), vs = [.ref a] ∧ FilI T H a ds ∧ ds.length ≤ 60 ∧ ∀ tp H', Same H H' → SqT K H' tp (ds.map fun d => V.str d.1) → Q (.ref tp) H'
theorem scFNames : FnScope ["self", "name", "rows"] ["self"] (defScope sFNames) := ⟨rfl, rfl, rfl, by decide +kernel, rfl, by decide +kernel, by decide +kernel⟩
theorem ok_fNames {R : TRows K mg} {T : TFill R} (S : TFilM T) : FnOk P w K mg base CX0 2 S.names.g S.names.fd ["self"] (spFNames T) := by
  refine S.names.F.ok scFNames (fun vs H Q E h => ?_) (fun cdv A outer s H vs Q E hr h => ?_)
  · obtain ⟨a, ds, rfl, _⟩ := h
    rfl
  · obtain ⟨a, ds, rfl, ⟨dx, tp, ps, ha, htp, hps⟩, hl, q⟩ := h
    refine ⟨_, (pss_one (ps_ret (pe_callTy (show CallR _ (.type "tuple") (rTupO K) from call_tupO) (by rfl) T.mTup (by decide +kernel) (pa_cons (pe_lc (own := [("name", 1), ("rows", 2)]) (g := gTup K 2 (gCons (gName 1) (gCons (gName 2) gNil))) (tt := tYes) (by rfl) scFNames.nd (pi_tup (pe_fld (pv 0) rfl))
 (blkOk_by (N := ["self", "name", "rows"]) (sc := defScope sFNames) (by decide +kernel)) (fun _ _ _ _ _ => (pg_tup (by rfl) (pgs_cons (pg_name (i := 1) scFNames.nd rfl (Or.inl rfl)) (pgs_cons (pg_name (i := 2) scFNames.nd rfl (Or.inl rfl)) pgs_nil)))) (fun _ _ _ _ _ => pts_nil) (fun _ _ _ _ _ => (pv 1))) pa_nil)))), ?_⟩
    have hpl := paired_len hps
    dsimp only [tRet, tCB, tCons, tNil]
    refine lcw_tup (K := K) (tl := tFld K (tVar 0) "filled") (p := tp) (xs := ps.map V.ref) (out := fun i => (ds[i]?).map fun d => V.str d.1) ?h0 htp (by rw [List.length_map]; omega) ?tn ?fn
    case h0 => exact fun R' z => ⟨_, rfl, a, T.C, dx, _, .ref tp, rfl, ha, T.cl, T.noF, fil_fld, z⟩
    case tn =>
      intro m y Hi S' Y hy sI h0 h1
      rw [List.getElem?_map] at hy
      obtain ⟨p, hp, rfl⟩ := Option.map_eq_some_iff.mp hy
      obtain ⟨d, hd, q', us, g1, _⟩ := paired_at hps hp
      exact ⟨p, _, rfl, Same.sqt sI g1, rfl, _, _, rfl, _, _, rfl, rfl, rfl, _, rfl, h1 (.str d.1) (by show Option.map (fun d : FD => V.str d.1) ds[m]? = _; rw [hd]; rfl) Hi (Same.refl _)⟩
    case fn =>
      intro D H' hD sD hDl
      have eo : (List.range (ps.map V.ref).length).filterMap (fun i => (ds[i]?).map fun d => V.str d.1) = ds.map fun d => V.str d.1 := by
        rw [List.length_map, hpl]
        exact out_map (l := ds) (f := fun d => V.str d.1)
      rw [eo] at hDl
      exact ⟨D, _, rfl, .inl ⟨SqL.of hDl, fun l hl2 => q l _ (Same.trans sD (Same.new hl2)) (SqT.of upd_same)⟩⟩
def spFStr {R : TRows K mg} (T : TFill R) : Sp := fun vs H Q _ => ∃ (a : Addr) (ds : List FD), vs = [.ref a] ∧ FilI T H a ds ∧ filOk ds ∧ ∀ H', Same H H' → Q (.str (filText ds)) H'
theorem scFStr : FnScope ["self", "name", "rows"] ["self"] (defScope sFStr) := ⟨rfl, rfl, rfl, by decide +kernel, rfl, by decide +kernel, by decide +kernel⟩
theorem fText_len {d : FD} (hz : nameS d.1 = true) (hl : d.2.length ≤ 100) (hv : ∀ r ∈ d.2, rowValid r) : (fText d).length ≤ 7100 := by
  have h63 := rows_len hv
  have zl := (name_ok hz).2
  have e : Txt.join ", " (d.2.map rowText) = Str.join ", " (d.2.map rowText) := join_eq _ _
  have j := StrLaws.join_length_le ", " (d.2.map rowText)
  rw [List.length_map, show (", " : Str).length = 2 by decide +kernel] at j
  unfold fText
  rw [strLen_append, strLen_append, strLen_append, e, show Str.empty.length = 0 by decide +kernel, show (": " : Str).length = 2 by decide +kernel]
  omega
theorem fil_sum : ∀ {ds : List FD}, (∀ d ∈ ds, nameS d.1 = true ∧ d.2.length ≤ 100 ∧ ∀ r ∈ d.2, rowValid r) → ((ds.map fText).map (·.length)).sum ≤ 7100 * ds.length
  | [], _ => Nat.le_refl _
  | d :: ds, h => by
    obtain ⟨a, b, c⟩ := h d List.mem_cons_self
    have h1 := fText_len a b c
    have h2 := fil_sum fun x hx => h x (List.mem_cons_of_mem _ hx)
    simp only [List.map_cons, List.sum_cons, List.length_cons] at h2 ⊢
    omega
theorem ok_fStr {R : TRows K mg} {T : TFill R} (S : TFilM T) : FnOk P w K mg base CX0 5 S.str.f S.str.fd ["self"] (spFStr T) := by
  refine S.str.F.ok scFStr (fun vs H Q E h => ?_) (fun cdv A outer s H vs Q E hr h => ?_)
  · obtain ⟨a, ds, rfl, _⟩ := h
    rfl
  · obtain ⟨a, ds, rfl, ⟨dx, tp, ps, ha, htp, hps⟩, ⟨hl, hok⟩, q⟩ := h
    refine ⟨_, (pss_cons (ps_if (pt_cmpR op_eq (pe_callB (show CallR _ (.builtin "len") (rLenSq K) from call_len_sq) (by rfl) R.N.mLen PySem.boot_len (pa_cons (pe_fld (pv 0) rfl) pa_nil)) pe_int (nomark _)) (pss_one (ps_ret pe_str)) pss_nil)
(pss_one (ps_ret (pe_join pe_str (pe_lc (own := [("name", 1), ("rows", 2)]) (g := gTup K 2 (gCons (gName 1) (gCons (gName 2) gNil))) (tt := tYes) (by rfl) scFStr.nd (pi_tup (pe_fld (pv 0) rfl))
 (blkOk_by (N := ["self", "name", "rows"]) (sc := defScope sFStr) (by decide +kernel)) (fun _ _ _ _ _ => (pg_tup (by rfl) (pgs_cons (pg_name (i := 1) scFStr.nd rfl (Or.inl rfl)) (pgs_cons (pg_name (i := 2) scFStr.nd rfl (Or.inl rfl)) pgs_nil)))) (fun _ _ _ _ _ => pts_nil) (fun _ _ _ _ _ => (pe_call (ok_ftext S) (hr.mono (by decide)) rfl S.ftext.m S.ftext.F.kp S.ftext.b .nil pass0 (pa_cons (pv 1) (pa_cons (pv 2) pa_nil))))))))), ?_⟩
    have hpl := paired_len hps
    refine ⟨_, rfl, a, T.C, dx, _, .ref tp, rfl, ha, T.cl, T.noF, fil_fld, tp, _, rfl, .inr htp, rfl, _, rfl, ?_⟩
    have el : decide (V.int ((ps.map V.ref).length : Nat) = V.int 0) = decide (ds = []) := by
      rw [List.length_map, hpl]
      cases ds with
      | nil => simp
      | cons d ds =>
        refine (decide_eq_false fun z => ?_).trans (decide_eq_false (by simp)).symm
        have e := V.int.inj z
        simp only [List.length_cons] at e
        omega
    rw [el]
    by_cases hz : ds = []
    · refine iteTD (decide_eq_true hz) ?_
      have e : filText ds = "-" := if_pos hz
      rw [e] at q
      exact q H (Same.refl _)
    · refine iteFD (decide_eq_false hz) ?_
      have e : filText ds = Txt.join "; " (ds.map fText) := if_neg hz
      rw [e] at q
      refine ⟨⟨_, rfl⟩, ?_⟩
      refine lcw_tup (K := K) (tl := tFld K (tVar 0) "filled") (p := tp) (xs := ps.map V.ref) (out := fun i => (ds[i]?).map fun d => V.str (fText d)) ?h0 htp (by rw [List.length_map]; omega) ?tn ?fn
      case h0 => exact fun R' z => ⟨_, rfl, a, T.C, dx, _, .ref tp, rfl, ha, T.cl, T.noF, fil_fld, z⟩
      case tn =>
        intro m y Hi S' Y hy sI h0 h1
        rw [List.getElem?_map] at hy
        obtain ⟨p, hp, rfl⟩ := Option.map_eq_some_iff.mp hy
        obtain ⟨d, hd, q', us, g1, g2, g3⟩ := paired_at hps hp
        obtain ⟨o1, o2, o3⟩ := hok d (List.mem_of_getElem? hd)
        exact ⟨p, _, rfl, Same.sqt sI g1, rfl, _, _, rfl, _, _, rfl, rfl, rfl, _, rfl, _, rfl, d.1, q', us, d.2, rfl, Same.sqt sI g2, paired_mono (fun _ _ z => z.same sI) g3, o1, o2, o3, fun H' s' => h1 _ (by show Option.map (fun d : FD => V.str (fText d)) ds[m]? = _; rw [hd]; rfl) H' s'⟩
      case fn =>
        intro D H' hD sD hDl
        have eo : (List.range (ps.map V.ref).length).filterMap (fun i => (ds[i]?).map fun d => V.str (fText d)) = (ds.map fText).map V.str := by
          rw [List.length_map, hpl, List.map_map]
          exact out_map (l := ds) (f := fun d => V.str (fText d))
        rw [eo] at hDl
        have fs := fil_sum hok
        refine ⟨"; ", D, ds.map fText, rfl, rfl, .inl (SqL.of hDl), ?_, q _ sD⟩
        rw [List.length_map, show ("; " : Str).length = 2 by decide +kernel]
        omega
end
end Pn

namespace Pn
open PySem PySem.Spec PyProof.Rows L2 TL
abbrev sFEq : Stmt := inClass (top 28) 4
section
variable {P : Program} {w : World} {K : PySem.W.Frag} {mg : Str → Option Value} {base : Heap}
/-! ### two fillings compared -/
structure TFilE {R : TRows K mg} {T : TFill R} (S : TFilM T) : Type where
  eq : TMeth K T.C "__eq__" "Filling.__eq__" sFEq ["self", "other"]
  cA : PySem.W.findIn K (.ref T.C) "__class__" = some (some (.builtin "object.__class__"))
  cM : PySem.W.mroIn K T.C (.type "object") = some true
  kC : PySem.W.kitOne K (.ref T.C) (.ref T.C) = some true
  kD : ∀ d : PyData, PySem.W.kitOne K (.type (tyD d)) (.ref T.C) = some false
def rStrFil {R : TRows K mg} (T : TFill R) : List V → Hp → VK → Prop := fun xs H Q => ∃ (a : Addr) (ds : List FD), xs = [.ref a] ∧ FilI T H a ds ∧ filOk ds ∧ ∀ H', Same H H' → Q (.str (filText ds)) H'
theorem call_strFil {X : Cx} {R : TRows X.K X.mg} {T : TFill R} (S : TFilM T) (hr : Room 7 X.A) : CallR X (.type "str") (rStrFil T) := by
  intro pins s σ H xs us Q I rv h
  obtain ⟨a, ds, rfl, hp, hok, q⟩ := h
  obtain ⟨dx, tp, ps, ha, h2⟩ := id hp
  exact call_strIns (ok_fStr S) S.str.hf hr S.str.b pass0 pins s σ H _ us Q I rv ⟨a, _, dx, _, rfl, ha, S.str.hs, a, ds, rfl, hp, hok, fun H' s' => ⟨_, rfl, q H' s'⟩⟩
theorem call_strFilK {X : Cx} {K : PySem.W.Frag} {mg : Str → Option Value} (hK : X.K = K) (hm : X.mg = mg) {R : TRows K mg} {T : TFill R} (S : TFilM T) (hr : Room 7 X.A) : CallR X (.type "str") (rStrFil T) := by
  subst hK
  subst hm
  exact call_strFil S hr
def spFEq {R : TRows K mg} (T : TFill R) : Sp := fun vs H Q _ => ∃ (a : Addr) (y : V) (ds : List FD), vs = [.ref a, y] ∧ FilI T H a ds ∧ filOk ds ∧ ((∃ d, Dp K H y d ∧ Q (.bl false) H) ∨ ∃ (b : Addr) (es : List FD), y = .ref b ∧ FilI T H b es ∧ filOk es ∧ ∀ H', Same H H' → Q (.bl (decide (filText ds = filText es))) H')
theorem scFEq : FnScope ["self", "other"] ["self", "other"] (defScope sFEq) := ⟨rfl, rfl, rfl, by decide +kernel, rfl, by decide +kernel, by decide +kernel⟩
theorem ok_fEq {R : TRows K mg} {T : TFill R} {S : TFilM T} (Z : TFilE S) : FnOk P w K mg base CX0 8 Z.eq.f Z.eq.fd ["self", "other"] (spFEq T) := by
  refine Z.eq.F.ok scFEq (fun vs H Q E h => ?_) (fun cdv A outer s H vs Q E hr h => ?_)
  · obtain ⟨a, y, ds, rfl, _⟩ := h
    rfl
  · obtain ⟨a, y, ds, rfl, ha, hok, q⟩ := h
    refine ⟨_, pss_one (ps_ret (pe_and (pe_callB call_isi (by rfl) R.N.mIsi (by decide +kernel) (pa_cons (pv 1) (pa_cons (pe_glob (v := .ref T.C) (by rfl) T.mC rfl) pa_nil)))
      (pe_one (pe_cmpR op_eq (pe_callTy (call_strFilK (K := K) (mg := mg) rfl rfl S hr) (by rfl) R.N.mStr (by decide +kernel) (pa_cons (pv 0) pa_nil)) (pe_callTy (call_strFilK (K := K) (mg := mg) rfl rfl S hr) (by rfl) R.N.mStr (by decide +kernel) (pa_cons (pv 1) pa_nil)) (nomark _))))), ?_⟩
    rcases q with ⟨d, hd, q⟩ | ⟨b, es, rfl, hb, hokb, q⟩
    · refine ⟨_, rfl, y, .ref T.C, _, _, false, rfl, .own _, dp_ty hd, Z.kD d, _, rfl, iteF ?_⟩
      exact q
    · obtain ⟨dy, tq, ps2, hb2, _⟩ := id hb
      refine ⟨_, rfl, .ref b, .ref T.C, _, _, true, rfl, .own _, .base (.ins hb2 T.cl Z.cA T.cN T.cT Z.cM), Z.kC, _, rfl, iteT ?_⟩
      refine ⟨_, rfl, a, ds, rfl, ha, hok, fun H1 s1 => ⟨_, rfl, b, es, rfl, hb.same s1, hokb, fun H2 s2 => ⟨rfl, ?_⟩⟩⟩
      have e : decide (V.str (filText ds) = V.str (filText es)) = decide (filText ds = filText es) := by
        by_cases h : filText ds = filText es
        · rw [h, decide_eq_true rfl, decide_eq_true rfl]
        · rw [decide_eq_false h, decide_eq_false (fun z => h (V.str.inj z))]
      rw [e]
      exact q H2 (s1.trans s2)
end
end Pn

namespace Pn
open PySem PySem.W PyProof.Rows
/-! ### a text == an own instance: the text declines, the instance is asked -/
theorem meets_str_eq_ref {z : Str} {t : Tok} {a : Addr} : Meets (Builtin.«str.__eq__» ⟨[.str z t, .ref a], []⟩) (fun _ R s => (∃ o : Obj, s.heap.get? a = some o ∧ ∀ y u, o.data ≠ .prim (.str y u)) ∧ R (.ok (.ret .notImplemented)) s) := by
  refine Meets.of_wp fun prog w A R s hS => ?_
  obtain ⟨⟨o, ho, hd⟩, q⟩ := hS
  have as : ∀ {Q : Option PySem.Str → Shared → Prop} {E : Value → Shared → Prop}, Q none s → wpAny (model prog w) A.in1 (asStr? (.ref a)) Q E s := fun {Q E} h => by
    simp only [asStr?]
    refine wpAny_bind (wpAny_load ho ?_)
    split
    · rename_i y u e
      exact absurd e (hd y u)
    · exact wpAny_pure h
  unfold Builtin.«str.__eq__» Builtin.Str.strCompare
  refine wpAny_bind (wpAny_of_eq (show Builtin.Str.strSlot "__eq__" 1 ⟨[.str z t, .ref a], []⟩ = pure (.str z t, z, [.ref a]) from rfl) ?_)
  show wpAny _ _ (asStr? (.ref a) >>= _) _ _ _
  refine wpAny_bind (as ?_)
  repeat (first
    | exact ⟨_, rfl, q⟩
    | wp_step)
theorem cmp_str_ins {prog : Program} {w : World} {A : Around} {E : Value → Shared → Prop} {s : Shared} {K : Frag} {x C L f : Addr} {h₀ : Heap} {m : Str → Option Value} {ox : Obj} {od : Option Obj} {z : Str} {t : Tok} {Q : Value → Shared → Prop}
    (hu : A.units < cLine) (F : Fr h₀ L s.heap m) (X₀ : K.In h₀) (I : InstAt s.heap x ox C od) (hd : ∀ y u, ox.data ≠ .prim (.str y u)) (hn : subIn K (.ref C) (.type "str") = some false)
    (hs : findIn K (.ref C) (cmpInfo .Eq).2.2 = some (some (.ref f))) (hf : isFn K (.ref f) = true)
    (h : wpAny (model prog w) A (call (.ref f) [.ref x, .str z t]) (PySem.W.CmpBack Q) E s) : wpAny (model prog w) A (richCompare .Eq (.str z t) (.ref x)) Q E s := by
  have X := X₀.keeps F.keep
  have two : wpAny (model prog w) A (tryCompare (.ref x) (cmpInfo .Eq).2.2 (.str z t)) (fun r s' => ∃ v, r = some v ∧ Q v s') E s := by
    unfold tryCompare
    refine wpAny_bind (ifBound_K X I hs hf (wpAny_mono h (fun v s' hv => ?_) fun _ _ e => e))
    cases v <;> first | exact hv.elim | exact wpAny_pure ⟨_, rfl, hv⟩
  unfold richCompare
  simp only [(typeIs_str s z t).oneThing_none]
  refine wpAny_holding (wpAny_bind (wpAny_cRoomFor hu ?_))
  refine wpAny_bind (wpAny_typeOf (typeIs_str s z t) (wpAny_bind (I.type.here ?_)))
  rw [if_pos (by rfl)]
  refine wpAny_bind ((looks_subIn X hn).here ?_)
  simp only [Bool.false_eq_true, if_false, Bool.not_false, if_true]
  have ho : s.heap.get? x = some ox := I.1
  refine wpAny_bind (m := tryCompare (.str z t) _ (.ref x)) (wpAny_tryCompare_declines (typeIs_str s z t) PySem.F.slot_str_eq (call_meets PySem.F.slot_str_eq (typeIs_str s z t) PySem.F.entry_str_eq (PySem.F.args_str_eq_2 _ _) meets_str_eq_ref ⟨⟨ox, ho, hd⟩, rfl, ?_⟩))
  refine wpAny_bind (wpAny_mono two (fun r s' z => ?_) fun _ _ e => e)
  obtain ⟨v, rfl, hq⟩ := z
  exact wpAny_pure hq
end Pn

namespace Pn
open PySem L2
section
variable {X : Cx} {CX : CXT} {k : Nat} {f : Addr} {fd : FuncData} {ps : List Str} {sp : Sp} {E : XK}
/-- a text == data, or an own instance whose class has an __eq__ of its own -/
def rEqSO (K : PySem.W.Frag) (f : Addr) (sp : Sp) (E : XK) : R2 := fun x y H Q => rEqD K x y H Q ∨ ∃ (z : Str) (a C dx : Addr) (fs : List (Str × V)), x = .str z ∧ y = .ref a ∧ H a = some (.ins C dx fs) ∧ PySem.W.findIn K (.ref C) "__eq__" = some (some (.ref f)) ∧ PySem.W.subIn K (.ref C) (.type "str") = some false ∧ sp [y, x] H Q E
theorem op_eqSO (F : FnOk X.prog X.w X.K X.mg X.base CX k f fd ps sp) (hf : PySem.W.isFn X.K (.ref f) = true) (hu : X.A.units + 64 < cLine) (hr : Room k X.A) (hb : Binds X.K fd ps []) (hx : Passes CX X E) : OpR X (compareOp .Eq) (rEqSO X.K f sp E) := by
  intro pins s σ H x y v u Q I rx ry h
  rcases h with h | ⟨z, a, C, dx, fs, rfl, rfl, ha, hs, hn, q⟩
  · exact op_eqD hu pins s σ H x y v u Q I rx ry h
  obtain ⟨t, rfl⟩ := rx
  cases ry
  obtain ⟨mA, O, _⟩ := ins_get I.hok ha
  obtain ⟨od, J, _⟩ := O.look
  obtain ⟨m, hF⟩ := I.fr
  show wpAny (model X.prog X.w) X.A (richCompare .Eq (.str z t) (.ref a)) (EP X pins σ Q) X.xe s
  refine cmp_str_ins hr.units0 hF I.ok.mod.kin J (fun _ _ e => by cases e) hn hs hf ?_
  refine wpAny_mono (run_fnA F hr I.env0 hb hx I (.cons (show RelV (.ref a) (Value.ref a) from rfl) (.cons (show RelV (.str z) (Value.str z t) from ⟨t, rfl⟩) .nil)) q) (fun w s' z => ?_) fun _ _ x => x
  obtain ⟨z', H', I', rz, qz⟩ := z
  exact SlX.cmpback rz ⟨z', H', I', rz, qz⟩
end
end Pn

namespace Pn
open PySem PySem.Spec PyProof.Rows L2 TL
section
variable {P : Program} {w : World} {K : PySem.W.Frag} {mg : Str → Option Value} {base : Heap}
theorem roomW {k : Nat} {A : Around} (r : Room k A) : A.units + 64 < PySem.cLine := by have := r.un; omega
/-! ### the rows for a name -/
def spFRows {R : TRows K mg} (T : TFill R) : Sp := fun vs H Q _ => ∃ (a : Addr) (y : V) (ds : List FD), vs = [.ref a, y] ∧ FilI T H a ds ∧ filOk ds ∧
  ((∃ z : Str, y = .str z ∧ PyData.strOk z = true ∧ (∀ d ∈ ds, d.1 = z → ∀ q us, SqT K H q (us.map V.ref) → Paired (fun u r => RowAt R H u r) us d.2 → Q (.ref q) H) ∧ ((∀ d ∈ ds, d.1 ≠ z) → ∀ p, H p = none → Q (.ref p) (upd H p (.tup [])))) ∨
   (∃ e : PyData, Dp K H y e ∧ SeqAt.shaped e = true ∧ (∀ s, e ≠ .str s) ∧ ∀ p, H p = none → Q (.ref p) (upd H p (.tup []))) ∨
   (∃ (b : Addr) (es : List FD), y = .ref b ∧ FilI T H b es ∧ filOk es ∧ PySem.W.subIn K (.ref T.C) (.type "str") = some false ∧ ∀ p, H p = none → Q (.ref p) (upd H p (.tup []))))
theorem scFRows : FnScope ["self", "name", "one", "rows"] ["self", "name"] (defScope sFRows) := ⟨rfl, rfl, rfl, by decide +kernel, rfl, by decide +kernel, by decide +kernel⟩
theorem eqv_ss (a z : Str) : PyData.eqv (.str a) (.str z) = decide (a = z) := by
  have e : PyData.eqv (.str a) (.str z) = (a == z) := by simp [PyData.eqv]
  rw [e]
  by_cases h : a = z
  · rw [h, decide_eq_true rfl]
    exact beq_self_eq_true z
  · rw [decide_eq_false h]
    exact beq_eq_false_iff_ne.mpr h
theorem eqv_sn {a : Str} {e : PyData} (h : ∀ s, e ≠ .str s) : PyData.eqv (.str a) e = false := by
  cases e with
  | str s => exact absurd rfl (h s)
  | none => simp [PyData.eqv]
  | bool b => simp [PyData.eqv]
  | int i => simp [PyData.eqv]
  | list l => simp [PyData.eqv]
  | tuple l => simp [PyData.eqv]
  | dict l => simp [PyData.eqv]
theorem ok_fRows {R : TRows K mg} {T : TFill R} {S : TFilM T} (Z : TFilE S) : FnOk P w K mg base CX0 10 S.rowsFor.f S.rowsFor.fd ["self", "name"] (spFRows T) := by
  refine S.rowsFor.F.ok scFRows (fun vs H Q E h => ?_) (fun cdv A outer s H vs Q E hr h => ?_)
  · obtain ⟨a, y, ds, rfl, _⟩ := h
    rfl
  · obtain ⟨a, y, ds, rfl, hF, hok, q⟩ := h
    refine ⟨_, (pss_cons (ps_for PassesOwn.never rfl (pi_tup (pe_fld (pv 0) rfl)) (pg_tup (by rfl) (pgs_cons (pg_name (i := 2) scFRows.nd rfl (Or.inl rfl)) (pgs_cons (pg_name (i := 3) scFRows.nd rfl (Or.inl rfl)) pgs_nil)))
(pss_one (ps_if (pt_cmpR (op_eqSO (ok_fEq Z) Z.eq.hf (roomW hr) (hr.mono (by decide)) Z.eq.b pass0) (pv 2) (pv 1) (nomark _)) (pss_one (ps_ret (pv 3))) pss_nil)))
(pss_one (ps_ret (pe_tup pa_nil)))), ?_⟩
    obtain ⟨dx, tp, ps, ha, htp, hps⟩ := id hF
    have hpl := paired_len hps
    refine ⟨_, rfl, a, T.C, dx, _, .ref tp, rfl, ha, T.cl, T.noF, fil_fld, tp, rfl, ⟨_, htp⟩, for_tup (xs := ps.map V.ref) (fun i σ Hx => (∃ y2 y3, σ = [some (.ref a), some y, y2, y3]) ∧ Hx = H ∧ ∀ z, y = .str z → ∀ j d, j < i → ds[j]? = some d → d.1 ≠ z) ⟨⟨_, _, rfl⟩, rfl, fun _ _ j d h => absurd h (Nat.not_lt_zero _)⟩ (fun i σ Hx _ hP => by obtain ⟨_, rfl, _⟩ := hP; exact htp) (fun i v σ Hx hv hP => ?turn) (fun σ Hx hP => ?fin)⟩
    case fin =>
      obtain ⟨⟨y2, y3, rfl⟩, rfl, no⟩ := hP
      rw [List.length_map, hpl] at no
      refine ⟨Nat.zero_le _, fun p hp => ?_⟩
      rcases q with ⟨z, rfl, _, _, q⟩ | ⟨e, _, _, _, q⟩ | ⟨b, es, _, _, _, _, q⟩
      · exact q (fun d hd => by
          obtain ⟨j, hj⟩ := List.mem_iff_getElem?.mp hd
          exact no z rfl j d (List.getElem?_eq_some_iff.mp hj).1 hj) p hp
      · exact q p hp
      · exact q p hp
    case turn =>
      obtain ⟨⟨y2, y3, rfl⟩, rfl, no⟩ := hP
      rw [List.getElem?_map] at hv
      obtain ⟨p, hp, rfl⟩ := Option.map_eq_some_iff.mp hv
      obtain ⟨d, hd, q', us, g1, g2, g3⟩ := paired_at hps hp
      obtain ⟨o1, _, _⟩ := hok.2 d (List.mem_of_getElem? hd)
      have sh1 : SeqAt.shaped (.str d.1) = true := str_shaped (name_ok o1).1
      refine ⟨p, _, rfl, g1, rfl, _, _, rfl, _, _, rfl, rfl, ?_⟩
      try dsimp only [List.set]
      have go : ∀ z, y = .str z → d.1 ≠ z → ∀ j d', j < i + 1 → ds[j]? = some d' → d'.1 ≠ z := fun z e ne j d' hj hd' => by
        rcases Nat.lt_or_ge j i with h | h
        · exact no z e j d' h hd'
        · obtain rfl : j = i := by omega
          rw [hd] at hd'
          cases hd'
          exact ne
      rcases q with ⟨z, rfl, zok, q, _⟩ | ⟨e, he, hsh, hne, q⟩ | ⟨b, es, rfl, hb, hbo, hsub, q⟩
      · refine ⟨_, rfl, _, rfl, .inl ⟨.str d.1, .str z, .str _, .str _, sh1, str_shaped zok, _, rfl, ?_⟩⟩
        rw [eqv_ss]
        by_cases h : d.1 = z
        · refine iteTD (decide_eq_true h) ?_
          exact ⟨_, rfl, q d (List.mem_of_getElem? hd) h q' us g2 g3⟩
        · refine iteFD (decide_eq_false h) ?_
          exact ⟨⟨_, _, rfl⟩, rfl, fun z' e => by cases e; exact go z rfl h⟩
      · refine ⟨_, rfl, _, rfl, .inl ⟨.str d.1, e, .str _, he, sh1, hsh, _, rfl, ?_⟩⟩
        rw [eqv_sn hne]
        refine iteF ?_
        exact ⟨⟨_, _, rfl⟩, rfl, fun z' ez => by subst ez; cases he; exact absurd rfl (hne z')⟩
      · obtain ⟨dy, tq, ps2, hb2, _⟩ := id hb
        refine ⟨_, rfl, _, rfl, .inr ⟨d.1, b, T.C, dy, _, rfl, rfl, hb2, Z.eq.hs, hsub, b, .str d.1, es, rfl, hb, hbo, .inl ⟨.str d.1, .str _, _, rfl, ?_⟩⟩⟩
        refine iteF ?_
        exact ⟨⟨_, _, rfl⟩, rfl, fun z' ez => by cases ez⟩
end
end Pn

namespace Pn
open PySem PySem.Spec PyProof.Rows L2 TL
section
variable {K : PySem.W.Frag} {mg : Str → Option Value}
/-! ### from what Filling.__init__ leaves to a filling with what it tells -/
theorem fil_items {R : TRows K mg} {cs : List FilD} {H : Hp} : ∀ {ps : List Addr} {ys : List Str}, Paired (fun p y => ∃ (c : FilD) (q : Addr) (us : List Addr), c ∈ cs ∧ c.1 = y ∧ SqT K H p [.str y, .ref q] ∧ SqT K H q (us.map V.ref) ∧ Paired (fun u r => RowAt R H u r) us c.2.2 ∧ ∀ r ∈ c.2.2, fillB r = true) ps ys →
    ∃ ds : List FD, Paired (FItem R H) ps ds ∧ ds.map (·.1) = ys ∧ ∀ d ∈ ds, ∃ c ∈ cs, c.1 = d.1 ∧ c.2.2 = d.2
  | _, _, .nil => ⟨[], .nil, rfl, fun _ z => nomatch z⟩
  | _, _, .cons ⟨c, q, us, hc, e, h1, h2, h3, _⟩ b => by
    obtain ⟨ds, g1, g2, g3⟩ := fil_items b
    refine ⟨(c.1, c.2.2) :: ds, .cons ⟨q, us, by rw [e]; exact h1, h2, h3⟩ g1, by rw [List.map_cons, g2, ← e], fun d hd => ?_⟩
    rcases List.mem_cons.mp hd with rfl | hd
    · exact ⟨c, hc, rfl, rfl⟩
    · exact g3 d hd
/-- the rows of a name among pairs of different names -/
theorem one_rows {cs : List FilD} (nd : (cs.map (·.1)).Nodup) {c c' : FilD} (h : c ∈ cs) (h' : c' ∈ cs) (e : c.1 = c'.1) : c = c' := by
  induction cs with
  | nil => cases h
  | cons x cs ih =>
    rw [List.map_cons, List.nodup_cons] at nd
    rcases List.mem_cons.mp h with rfl | h1
    · rcases List.mem_cons.mp h' with rfl | h2
      · rfl
      · exact absurd (e ▸ List.mem_map_of_mem (f := (·.1)) h2) nd.1
    · rcases List.mem_cons.mp h' with rfl | h2
      · exact absurd (e.symm ▸ List.mem_map_of_mem (f := (·.1)) h1) nd.1
      · exact ih nd.2 h1 h2
/-- a made filling -/
theorem filI_of {R : TRows K mg} (T : TFill R) {cs : List FilD} {H : Hp} {x dx tp : Addr} (hx : H x = some (insFil T.C dx (.ref tp))) (h : FilAt R H tp cs) (nd : (cs.map (·.1)).Nodup) :
    ∃ ds : List FD, FilI T H x ds ∧ (ds.map (·.1)).Perm (uniq ((cs.filter fun c => decide (c.2.2 ≠ [])).map (·.1))) ∧ sortedS (ds.map (·.1)) = true ∧ ∀ d ∈ ds, ∃ c ∈ cs, c.1 = d.1 ∧ c.2.2 = d.2 := by
  obtain ⟨ps, ys, h1, h2, h3, h4⟩ := h
  obtain ⟨ds, g1, g2, g3⟩ := fil_items h4
  exact ⟨ds, ⟨dx, tp, ps, hx, h1, g1⟩, by rw [g2]; exact h2, by rw [g2]; exact h3, g3⟩
end
end Pn

namespace Pn
open PySem L2
theorem iteTB {c : Bool} {A B : Prop} (hc : c = true) (h : A) : if c = true then A else B := by
  rw [if_pos hc]
  exact h
theorem iteFB {c : Bool} {A B : Prop} (hc : c = false) (h : B) : if c = true then A else B := by
  rw [hc, if_neg Bool.false_ne_true]
  exact h
theorem kF {A B : Hp → Prop} {H : Hp} (h : B H) : (fun (b : Bool) H1 => if b = true then A H1 else B H1) false H := by
  show if false = true then A H else B H
  rw [if_neg Bool.false_ne_true]
  exact h
abbrev sDeal : Stmt := top 30
abbrev sDraw : Stmt := top 31
abbrev sPick : Stmt := top 32
/-! ### draws out of a deal: a list of a list of great numbers and a number -/
/-- the heap but for a deal -/
def hh (H : Hp) (d g : Addr) : Hp := hid (hid H d) g
def DealAt (H : Hp) (d g : Addr) : Prop := d ≠ g ∧ ∃ (xs : List Int) (m : Int), H d = some (.lst [.ref g, .int m]) ∧ H g = some (.lst (xs.map V.int)) ∧ (∀ x ∈ xs, 0 ≤ x) ∧ 0 ≤ m ∧ m < 2147483647 ∧ xs.length ≤ 63
theorem hh_ne {H : Hp} {d g a : Addr} {o : HO} (h : hh H d g a = some o) : a ≠ d ∧ a ≠ g ∧ H a = some o := by
  unfold hh hid at h
  by_cases h1 : a = g
  · rw [if_pos h1] at h; cases h
  · rw [if_neg h1] at h
    by_cases h2 : a = d
    · rw [if_pos h2] at h; cases h
    · rw [if_neg h2] at h; exact ⟨h2, h1, h⟩
theorem hh_get {H : Hp} {d g a : Addr} {o : HO} (h : H a = some o) (n1 : a ≠ d) (n2 : a ≠ g) : hh H d g a = some o := hid_get (hid_get h n1) n2
theorem hh_sub {H : Hp} {d g : Addr} : Same (hh H d g) H := fun _ _ e => (hh_ne e).2.2
theorem hh_same {H H' : Hp} {d g : Addr} (s : Same H H') : Same (hh H d g) (hh H' d g) := fun _ _ e => by
  obtain ⟨n1, n2, e⟩ := hh_ne e
  exact hh_get (s _ _ e) n1 n2
theorem hh_d {H : Hp} {d g : Addr} {o : HO} : Same (hh H d g) (hh (upd H d o) d g) := fun _ _ e => by
  obtain ⟨n1, n2, e⟩ := hh_ne e
  exact hh_get (by rw [upd_ne n1]; exact e) n1 n2
theorem hh_g {H : Hp} {d g : Addr} {o : HO} : Same (hh H d g) (hh (upd H g o) d g) := fun _ _ e => by
  obtain ⟨n1, n2, e⟩ := hh_ne e
  exact hh_get (by rw [upd_ne n2]; exact e) n1 n2
theorem DealAt.there {H : Hp} {d g : Addr} (h : DealAt H d g) : H d ≠ none ∧ H g ≠ none := by
  obtain ⟨_, xs, m, e1, e2, _⟩ := h
  refine ⟨fun z => ?_, fun z => ?_⟩
  · rw [e1] at z; cases z
  · rw [e2] at z; cases z
theorem DealAt.new {H : Hp} {d g p : Addr} {o : HO} (h : DealAt H d g) (hp : H p = none) : DealAt (upd H p o) d g := by
  obtain ⟨n, xs, m, e1, e2, r⟩ := h
  exact ⟨n, xs, m, by rw [upd_ne (ne_of_none e1 hp)]; exact e1, by rw [upd_ne (ne_of_none e2 hp)]; exact e2, r⟩
theorem DealAt.same {H H' : Hp} {d g : Addr} (h : DealAt H d g) (s : Same H H') : DealAt H' d g := by
  obtain ⟨n, xs, m, e1, e2, r⟩ := h
  exact ⟨n, xs, m, s _ _ e1, s _ _ e2, r⟩
theorem DealAt.upd {H : Hp} {d g p : Addr} {o : HO} (h : DealAt H d g) (n1 : p ≠ d) (n2 : p ≠ g) : DealAt (upd H p o) d g := by
  obtain ⟨n, xs, m, e1, e2, r⟩ := h
  exact ⟨n, xs, m, by rw [upd_ne n1.symm]; exact e1, by rw [upd_ne n2.symm]; exact e2, r⟩
/-- what is new beside a deal -/
theorem DealAt.nd {H : Hp} {d g p : Addr} (h : DealAt H d g) (hp : H p = none) : p ≠ d ∧ p ≠ g := ⟨fun z => h.there.1 (z ▸ hp), fun z => h.there.2 (z ▸ hp)⟩
theorem hh_new {H : Hp} {d g p : Addr} {o : HO} (hp : H p = none) : Same (hh H d g) (hh (upd H p o) d g) := hh_same (Same.new hp)
theorem hh_at {H : Hp} {d g p : Addr} {o : HO} (h : DealAt H d g) (hp : H p = none) : hh (upd H p o) d g p = some o := hh_get upd_same (h.nd hp).1 (h.nd hp).2
theorem ints_at {xs : List Int} {i : Nat} {x : Int} (h : xs[i]? = some x) : (xs.map V.int)[i]? = some (.int x) := by rw [List.getElem?_map, h]; rfl
section
variable {P : Program} {w : World} {K : PySem.W.Frag} {mg : Str → Option Value} {base : Heap}
def spDraw : Sp := fun vs H Q _ => ∃ (d g : Addr) (m : Int), vs = [.ref d, .int m] ∧ DealAt H d g ∧ 0 < m ∧ m < 2147483648 ∧ ∀ (r : Int) (H' : Hp), 0 ≤ r → r < m → DealAt H' d g → Same (hh H d g) (hh H' d g) → Mo H H' → Q (.int r) H'
theorem scDraw : FnScope ["_law_deal_here", "_law_many", "_law_left"] ["_law_deal_here", "_law_many"] (defScope sDraw) := ⟨rfl, rfl, rfl, by decide +kernel, rfl, by decide +kernel, by decide +kernel⟩
theorem dp_intsL (K : PySem.W.Frag) (H : Hp) : ∀ xs : List Int, DpAll K H (xs.map V.int) (xs.map PyData.int)
  | [] => .nil
  | _ :: r => .cons (.int _) (dp_intsL K H r)
theorem intsL_sh (xs : List Int) : SeqAt.shaped (.list (xs.map PyData.int)) = true := by
  have a : ∀ l : List Int, PyData.canLayAll0 (l.map PyData.int) = true ∧ PyData.depthAll (l.map PyData.int) = 0 := by
    intro l
    induction l with
    | nil => exact ⟨by simp only [List.map_nil, PyData.canLayAll0], by simp only [List.map_nil, PyData.depthAll]⟩
    | cons x l ih => exact ⟨by simp only [List.map_cons, PyData.canLayAll0, PyData.canLay0, ih.1, Bool.and_self], by simp only [List.map_cons, PyData.depthAll, PyData.depth, ih.2, Nat.max_self]⟩
  unfold SeqAt.shaped
  simp only [PyData.canLay0, PyData.depth, (a xs).1, (a xs).2, Bool.true_and]
  decide
theorem intsL_nil (xs : List Int) : PyData.eqv (.list (xs.map PyData.int)) (.list []) = xs.isEmpty := by
  cases xs with
  | nil => decide +kernel
  | cons x l => simp [PyData.eqv, PyData.eqvAll]
/-- a deal and what it holds, beside what stood ahead -/
structure DL (H0 H : Hp) (d g : Addr) (xs : List Int) (mm : Int) : Prop where
  ne : d ≠ g
  hd : H d = some (.lst [.ref g, .int mm])
  hg : H g = some (.lst (xs.map V.int))
  pos : ∀ x ∈ xs, 0 ≤ x
  lo : 0 ≤ mm
  hi : mm < 2147483647
  len : xs.length ≤ 63
  s : Same (hh H0 d g) (hh H d g)
  m : Mo H0 H
theorem DL.new {H0 H : Hp} {d g p : Addr} {xs : List Int} {mm : Int} {o : HO} (D : DL H0 H d g xs mm) (hp : H p = none) : DL H0 (upd H p o) d g xs mm :=
  ⟨D.ne, by rw [upd_ne (ne_of_none D.hd hp)]; exact D.hd, by rw [upd_ne (ne_of_none D.hg hp)]; exact D.hg, D.pos, D.lo, D.hi, D.len, D.s.trans (hh_new hp), D.m.trans Mo.upd⟩
theorem DL.setG {H0 H : Hp} {d g : Addr} {xs ys : List Int} {mm : Int} (D : DL H0 H d g xs mm) (hp : ∀ y ∈ ys, 0 ≤ y) (hl : ys.length ≤ 63) : DL H0 (upd H g (.lst (ys.map V.int))) d g ys mm :=
  ⟨D.ne, by rw [upd_ne D.ne]; exact D.hd, upd_same, hp, D.lo, D.hi, hl, D.s.trans hh_g, D.m.trans Mo.upd⟩
theorem DL.setD {H0 H : Hp} {d g : Addr} {xs : List Int} {mm m2 : Int} (D : DL H0 H d g xs mm) (l : 0 ≤ m2) (h : m2 < 2147483647) : DL H0 (upd H d (.lst [.ref g, .int m2])) d g xs m2 :=
  ⟨D.ne, upd_same, by rw [upd_ne D.ne.symm]; exact D.hg, D.pos, l, h, D.len, D.s.trans hh_d, D.m.trans Mo.upd⟩
theorem DL.at {H0 H : Hp} {d g : Addr} {xs : List Int} {mm : Int} (D : DL H0 H d g xs mm) : DealAt H d g := ⟨D.ne, xs, mm, D.hd, D.hg, D.pos, D.lo, D.hi, D.len⟩
theorem ok_draw {f : Addr} {fd : FuncData} (F : Fun K "_law_draw" "_law_draw" sDraw f fd) (mI : mg "int" = none) : FnOk P w K mg base CX0 1 f fd ["_law_deal_here", "_law_many"] spDraw := by
  refine F.ok scDraw (fun vs H Q E h => ?_) (fun cdv A outer s H vs Q E hr h => ?_)
  · obtain ⟨d, g, m, rfl, _⟩ := h
    rfl
  · obtain ⟨d, g, m, rfl, hD, h0, h1, k⟩ := h
    refine ⟨_, pss_cons (ps_while PassesOwn.never (PW.pt (pw_and (pt_cmpR (op_neD hr.units) (pe_ix ix_list (pv 0) pe_int (fun _ _ => rfl)) (pe_lst pa_nil) (nomark _)) (pw_and1 (pt_cmpR op_eq (pe_ix ix_list (pe_ix ix_list (pv 0) pe_int (fun _ _ => rfl)) (pe_un un_neg pe_int) (fun _ _ => rfl)) pe_int (nomark _)))))
        (pss_one (ps_expr (pe_bm0 PySem.F.plainAttrs_list PySem.F.slot_list_pop PySem.F.type_list_pop mt_pop (pe_ix ix_list (pv 0) pe_int (fun _ _ => rfl))))))
      (pss_cons (ps_if (pt_cmpR (op_neD hr.units) (pe_ix ix_list (pv 0) pe_int (fun _ _ => rfl)) (pe_lst pa_nil) (nomark _))
        (pss_cons (ps_set (i := 2) scDraw.nd rfl (Or.inl rfl) (pe_bm0 PySem.F.plainAttrs_list PySem.F.slot_list_pop PySem.F.type_list_pop mt_pop (pe_ix ix_list (pv 0) pe_int (fun _ _ => rfl))))
        (pss_cons (ps_expr (pe_bm PySem.F.plainAttrs_list PySem.F.slot_list_append PySem.F.type_list_append mt_append (pe_ix ix_list (pv 0) pe_int (fun _ _ => rfl)) (pa_cons (pe_op op_fdivW (pv 2) (pv 1)) pa_nil)))
        (pss_one (ps_ret (pe_op op_mod (pe_callTy call_int1 (by rfl) mI (by decide +kernel) (pa_cons (pv 2) pa_nil)) (pv 1)))))) pss_nil)
      (pss_cons (ps_asg (pe_op op_mod (pe_callTy call_int1 (by rfl) mI (by decide +kernel) (pa_cons (pe_op op_add (pe_op op_mul (pe_ix ix_list (pv 0) pe_int (fun _ _ => rfl)) pe_int) pe_int) pa_nil)) pe_int) (pg_sub (pv 0) pe_int set_list))
      (pss_one (ps_ret (pe_op op_mod (pe_callTy call_int1 (by rfl) mI (by decide +kernel) (pa_cons (pe_op op_fdiv (pe_ix ix_list (pv 0) pe_int (fun _ _ => rfl)) pe_int) pa_nil)) (pv 1)))))), ?_⟩
    obtain ⟨ne, xs0, mm0, e1, e2, e3, e4, e5, e6⟩ := hD
    have rev2 : ∀ (l : List Int) (x : Int), ((l ++ [x]).map V.int).dropLast = l.map V.int := fun l x => by rw [List.map_append]; exact List.dropLast_concat
    have lst2 : ∀ (l : List Int) (x : Int), ((l ++ [x]).map V.int)[((l ++ [x]).map V.int).length - 1]? = some (.int x) := fun l x => by
      rw [List.map_append, List.length_append]
      show (l.map V.int ++ [V.int x])[(l.map V.int).length + 1 - 1]? = _
      rw [Nat.add_sub_cancel, List.getElem?_append_right (Nat.le_refl _), Nat.sub_self]
      rfl
    refine ⟨fun n σ Hc => ∃ (x2 : Option V) (xs : List Int), σ = [some (.ref d), some (.int m), x2] ∧ xs.length = n ∧ DL H Hc d g xs mm0, ⟨_, none, xs0, rfl, rfl, ne, e1, e2, e3, e4, e5, e6, Same.refl _, Mo.refl _⟩, fun n σ Hc hP => ?_⟩
    obtain ⟨x2, xs, rfl, hn, D⟩ := hP
    refine ⟨_, rfl, d, _, _, _, rfl, rfl, SqL.of D.hd, rfl, (by show 0 ≤ sizeLine; decide), fun p hp => ?_⟩
    have D1 := D.new (o := .lst []) hp
    refine ⟨.list (xs.map PyData.int), .list [], .lst (SqL.of D1.hg) (dp_intsL _ _ xs), .lst (SqL.of upd_same) .nil, intsL_sh xs, by decide +kernel, _, rfl, ?_⟩
    rw [intsL_nil]
    generalize upd Hc p (.lst []) = Hp1 at D1 ⊢
    have hx : ∀ (l : List Int) (x : Int), atI ((l ++ [x]).map V.int) (-1) = some (.int x) := fun l x => by rw [List.map_append]; exact atI_last _ _
    rcases List.eq_nil_or_concat xs with hxs | ⟨l, x, hxs⟩
    · subst hxs
      refine iteFB rfl ?_
      refine iteF ?_
      refine ⟨_, rfl, d, _, _, _, rfl, rfl, SqL.of D1.hd, rfl, (by show 0 ≤ sizeLine; decide), fun p2 hp2 => ?_⟩
      have D2 := D1.new (o := .lst []) hp2
      refine ⟨.list (([] : List Int).map PyData.int), .list [], .lst (SqL.of D2.hg) (dp_intsL _ _ []), .lst (SqL.of upd_same) .nil, intsL_sh [], by decide +kernel, _, rfl, ?_⟩
      rw [intsL_nil]
      generalize upd Hp1 p2 (.lst []) = Hp2 at D2 ⊢
      refine iteFB rfl ?_
      have a1 := D2.lo
      have a2 := D2.hi
      refine ⟨_, rfl, _, _, _, _, rfl, rfl, SqL.of D2.hd, rfl, _, _, rfl, rfl, .inl ⟨by omega, by omega⟩, _, _, rfl, rfl, .inl ⟨_, rfl, _, _, rfl, rfl, (by show (0 : Int) < 2147483647; decide), ?_⟩⟩
      refine ⟨_, rfl, _, _, _, _, rfl, rfl, D2.hd, rfl, ?_⟩
      have D3 := D2.setD (m2 := (mm0 * 48271 + 23) % 2147483647) (by omega) (by omega)
      refine ⟨_, rfl, _, _, _, _, rfl, rfl, SqL.of D3.hd, rfl, _, _, rfl, rfl, ⟨by decide, by decide⟩, .inl ⟨_, rfl, _, rfl, _, _, rfl, rfl, h0, ?_⟩⟩
      exact k _ _ (Int.emod_nonneg _ (by omega)) (Int.emod_lt_of_pos _ h0) D3.at D3.s D3.m
    · rw [List.concat_eq_append] at hxs
      subst hxs
      have hne : (!(l ++ [x]).isEmpty) = true := by cases l <;> rfl
      rw [hne]
      refine iteT ?_
      refine ⟨_, rfl, d, _, _, _, rfl, rfl, SqL.of D1.hd, rfl, 1, rfl, g, _, _, _, rfl, rfl, SqL.of D1.hg, hx l x, rfl, _, rfl, ?_⟩
      have px : 0 ≤ x := D.pos x (by simp)
      have pl : ∀ y ∈ l, 0 ≤ y := fun y hy => D.pos y (by simp [hy])
      have ll : l.length + 1 ≤ 63 := by have := D.len; rw [List.length_append] at this; exact this
      by_cases hz : x = 0
      · subst hz
        refine iteTB (by simp) ?_
        refine ⟨fun σ' H' => ∃ (x2 : Option V) (xs : List Int), σ' = [some (.ref d), some (.int m), x2] ∧ xs.length = l.length ∧ DL H H' d g xs mm0, fun σ' H' q => ⟨l.length, by rw [← hn, List.length_append]; exact Nat.lt_succ_self _, q⟩, ?_⟩
        refine ⟨_, rfl, d, _, _, _, rfl, rfl, SqL.of D1.hd, rfl, .inl ⟨rfl, _, SqL.of D1.hg⟩, g, _, _, rfl, rfl, D1.hg, lst2 l 0, ?_⟩
        rw [rev2]
        exact ⟨x2, l, rfl, rfl, D1.setG pl (by omega)⟩
      · refine iteFB (by simp [hz]) ?_
        refine ⟨_, rfl, d, _, _, _, rfl, rfl, SqL.of D1.hd, rfl, (by show 0 ≤ sizeLine; decide), fun p2 hp2 => ?_⟩
        have D2 := D1.new (o := .lst []) hp2
        refine ⟨.list ((l ++ [x]).map PyData.int), .list [], .lst (SqL.of D2.hg) (dp_intsL _ _ _), .lst (SqL.of upd_same) .nil, intsL_sh _, by decide +kernel, _, rfl, ?_⟩
        rw [intsL_nil, hne]
        generalize upd Hp1 p2 (.lst []) = Hp2 at D2 ⊢
        refine iteT ?_
        refine ⟨_, rfl, d, _, _, _, rfl, rfl, SqL.of D2.hd, rfl, .inl ⟨rfl, _, SqL.of D2.hg⟩, g, _, _, rfl, rfl, D2.hg, lst2 l x, ?_⟩
        rw [rev2]
        have D3 := D2.setG pl (by omega)
        refine ⟨_, rfl, d, _, _, _, rfl, rfl, SqL.of D3.hd, rfl, .inl ⟨rfl, _, SqL.of D3.hg⟩, _, rfl, _, rfl, _, _, rfl, rfl, wide_div (b := 40) h0 (by omega) (by decide) (by decide), g, _, _, rfl, rfl, D3.hg, small1000 (by rw [List.length_map]; omega), ?_⟩
        have D4 := D3.setG (ys := l ++ [x / m]) (fun y hy => by
          rcases List.mem_append.mp hy with hy | hy
          · exact pl y hy
          · rw [List.mem_singleton.mp hy]; exact Int.ediv_nonneg px (by omega)) (by rw [List.length_append]; exact ll)
        rw [List.map_append] at D4
        refine ⟨_, rfl, .inl ⟨_, rfl, _, rfl, _, _, rfl, rfl, h0, ?_⟩⟩
        exact k _ _ (Int.emod_nonneg _ (by omega)) (Int.emod_lt_of_pos _ h0) D4.at D4.s D4.m
def spPick (K : PySem.W.Frag) : Sp := fun vs H Q _ => ∃ (d g a : Addr) (xs : List V), vs = [.ref d, .ref a] ∧ DealAt H d g ∧ SqL K (hh H d g) a xs ∧ 0 < xs.length ∧ xs.length < 1000000 ∧ ∀ (v : V) (H' : Hp), v ∈ xs → DealAt H' d g → Same (hh H d g) (hh H' d g) → Mo H H' → Q v H'
theorem scPick : FnScope ["_law_deal_here", "_law_some"] ["_law_deal_here", "_law_some"] (defScope sPick) := ⟨rfl, rfl, rfl, by decide +kernel, rfl, by decide +kernel, by decide +kernel⟩
theorem ok_pick {f : Addr} {fd : FuncData} (F : Fun K "_law_pick" "_law_pick" sPick f fd) (mL : mg "len" = none) (D : At K mg "_law_draw" sDraw ["_law_deal_here", "_law_many"]) (mI : mg "int" = none) : FnOk P w K mg base CX0 2 f fd ["_law_deal_here", "_law_some"] (spPick K) := by
  refine F.ok scPick (fun vs H Q E h => ?_) (fun cdv A outer s H vs Q E hr h => ?_)
  · obtain ⟨d, g, a, xs, rfl, _⟩ := h
    rfl
  · obtain ⟨d, g, a, xs, rfl, hD, hS, h0, h1, q⟩ := h
    refine ⟨_, pss_one (ps_ret (pe_ix ix_list (pv 1) (pe_call (ok_draw D.F mI) hr rfl D.m D.F.kp D.b .nil pass0 (pa_cons (pv 0) (pa_cons (pe_callB call_len_seq (by rfl) mL PySem.boot_len (pa_cons (pv 1) pa_nil)) pa_nil))) (fun _ _ => rfl))), ?_⟩
    refine ⟨_, rfl, _, rfl, _, rfl, _, _, rfl, .inl (hh_sub.seq hS), ?_⟩
    refine ⟨d, g, _, rfl, hD, by omega, by omega, fun r H' r0 r1 hD' hs hm => ?_⟩
    obtain ⟨i, rfl⟩ : ∃ i : Nat, r = (i : Int) := ⟨r.toNat, by omega⟩
    have hi : i < xs.length := by omega
    exact ⟨_, _, _, _, rfl, rfl, hh_sub.seq (hs.seq hS), atI_nat (List.getElem?_eq_getElem hi), q _ _ (List.getElem_mem hi) hD' hs hm⟩
def absI (x : Int) : Int := if x < 0 then -x else x
theorem cut_ints (ns : List Int) (lo hi : Option Int) : ∃ us : List Int, cutV (ns.map V.int) lo hi = us.map V.int ∧ us.length ≤ ns.length := by
  refine ⟨(ns.drop (HT.sIx (ns.map V.int).length 0 lo)).take (HT.sIx (ns.map V.int).length (ns.map V.int).length hi - HT.sIx (ns.map V.int).length 0 lo), ?_, ?_⟩
  · unfold cutV
    rw [List.map_take, List.map_drop]
  · rw [List.length_take, List.length_drop]
    omega
def spDeal (K : PySem.W.Frag) : Sp := fun vs H Q _ => ∃ (a : Addr) (ns : List Int), vs = [.ref a] ∧ SqL K H a (ns.map V.int) ∧ ns.length ≤ 63 ∧ ∀ (d g : Addr) (H' : Hp), DealAt H' d g → Same H (hh H' d g) → Q (.ref d) H'
theorem scDeal : FnScope ["_law_script", "_law_cell", "_law_cells", "_law_mixed_here"] ["_law_script"] (defScope sDeal) := ⟨rfl, rfl, rfl, by decide +kernel, rfl, by decide +kernel, by decide +kernel⟩
theorem ok_deal {f : Addr} {fd : FuncData} (F : Fun K "_law_deal" "_law_deal" sDeal f fd) (mI : mg "int" = none) (mA : mg "abs" = none) : FnOk P w K mg base CX0 1 f fd ["_law_script"] (spDeal K) := by
  refine F.ok scDeal (fun vs H Q E h => ?_) (fun cdv A outer s H vs Q E hr h => ?_)
  · obtain ⟨a, ns, rfl, _⟩ := h
    rfl
  · obtain ⟨a, ns, rfl, hS, hl, q⟩ := h
    refine ⟨_, pss_cons (ps_par (i := 2) (j := 3) (by rfl) scDeal.nd rfl rfl (by decide) rfl rfl (pa_cons (pe_lc (own := [("_law_cell", 1)]) (g := gName 1) (tt := tYes) (by rfl) scDeal.nd (pi_list (pe_slice sl_list (pv 0) po_none (po_some pe_int)))
          (blkOk_by (N := ["_law_script", "_law_cell", "_law_cells", "_law_mixed_here"]) (sc := defScope sDeal) (by decide +kernel)) (fun _ _ _ _ _ => pg_name (i := 1) scDeal.nd rfl (Or.inl rfl)) (fun _ _ _ _ _ => pts_nil)
          (fun _ _ _ _ _ => pe_callB call_abs (by rfl) mA (by decide +kernel) (pa_cons (pv 1) pa_nil))) (pa_cons pe_int pa_nil)) (by rfl))
      (pss_cons (ps_for PassesOwn.never rfl (pi_list (pv 2)) (pg_name (i := 1) scDeal.nd rfl (Or.inl rfl))
        (pss_one (ps_set (i := 3) scDeal.nd rfl (Or.inl rfl) (pe_op op_mod (pe_callTy call_int1 (by rfl) mI (by decide +kernel) (pa_cons (pe_op op_add (pe_op op_mul (pv 3) pe_int) (pe_op op_mod (pe_callTy call_int1 (by rfl) mI (by decide +kernel) (pa_cons (pv 1) pa_nil)) pe_int)) pa_nil)) pe_int))))
      (pss_one (ps_ret (pe_lst (pa_cons (pe_revL (pe_lc (own := [("_law_cell", 1)]) (g := gName 1) (by rfl) scDeal.nd (pi_list (pv 2))
          (blkOk_by (N := ["_law_script", "_law_cell", "_law_cells", "_law_mixed_here"]) (sc := defScope sDeal) (by decide +kernel)) (fun _ _ _ _ _ => pg_name (i := 1) scDeal.nd rfl (Or.inl rfl)) (fun _ _ _ _ _ => pts_one (pt_cmpR op_ge (pv 1) (pe_op op_pow pe_int pe_int) (nomark _)))
          (fun _ _ _ _ _ => pv 1))) (pa_cons (pv 3) pa_nil)))))), ?_⟩
    obtain ⟨us, hu, hul⟩ := cut_ints ns none (some 60)
    refine ⟨_, rfl, 60, rfl, a, _, rfl, hS, fun p hp => ?_⟩
    rw [hu]
    have s1 : Same H (upd H p (.lst (us.map V.int))) := Same.new hp
    have hp1 : upd H p (.lst (us.map V.int)) p = some (.lst (us.map V.int)) := upd_same
    generalize upd H p (.lst (us.map V.int)) = H1 at s1 hp1 ⊢
    refine ⟨p, rfl, ⟨_, SqL.of hp1⟩, fun D hD => lc_it (walk_list (xs := us.map V.int)) (fun i Hi => Hi D = some (.lst (((us.take i).map absI).map V.int)) ∧ Same H1 Hi) ⟨upd_same, Same.new hD⟩ (fun i Hi _ hP => SqL.of (hP.2 _ _ hp1)) (fun i x Hi Hj hi hP hY => ?turn1) (fun Hi hP => ?done1)⟩
    case turn1 =>
      obtain ⟨rfl, hx⟩ := hY
      obtain ⟨hDi, hs⟩ := hP
      rw [List.getElem?_map] at hx
      cases hxi : us[i]? with
      | none => rw [hxi] at hx; cases hx
      | some u =>
      rw [hxi] at hx
      cases hx
      have hi2 : i < us.length := by rw [List.length_map] at hi; exact hi
      refine ⟨rfl, _, rfl, _, rfl, _, hDi, small1000 (by rw [List.length_map, List.length_map]; have := List.length_take_le i us; omega), ?_, fun b o e => ?_⟩
      · rw [upd_same, List.take_add_one, hxi, List.map_append, List.map_append]
        rfl
      · rw [upd_ne (ne_of_none e hD)]
        exact hs _ _ e
    case done1 =>
      obtain ⟨hD1, hs⟩ := hP
      rw [List.length_map, List.take_length] at hD1
      have hpos : ∀ x ∈ us.map absI, 0 ≤ x := fun x hx => by
        obtain ⟨y, _, rfl⟩ := List.mem_map.mp hx
        unfold absI
        split <;> omega
      have hcl : (us.map absI).length ≤ 63 := by rw [List.length_map]; omega
      generalize us.map absI = cs at hD1 hpos hcl
      have s2 := s1.trans hs
      refine ⟨_, _, rfl, ?_⟩
      refine ⟨_, rfl, D, rfl, ⟨_, SqL.of hD1⟩, for_list (xs := cs.map V.int) (fun i σ Hc => ∃ (x1 : Option V) (m : Int), σ = [some (.ref a), x1, some (.ref D), some (.int m)] ∧ 0 ≤ m ∧ m < 2147483647 ∧ Hc = Hi) ⟨_, _, rfl, by decide, by decide, rfl⟩ (fun i σ Hc _ hP => by obtain ⟨_, _, _, _, _, rfl⟩ := hP; exact SqL.of hD1) (fun i x σ Hc hx hP => ?turn2) (fun σ Hc hP => ?done2)⟩
      case turn2 =>
        obtain ⟨x1, m, rfl, m0, m1, rfl⟩ := hP
        rw [List.getElem?_map] at hx
        cases hxi : cs[i]? with
        | none => rw [hxi] at hx; cases hx
        | some c =>
        rw [hxi] at hx
        cases hx
        refine ⟨_, rfl, _, _, rfl, rfl, .inl ⟨by omega, by omega⟩, _, rfl, .inl ⟨_, rfl, _, _, rfl, rfl, (by show (0 : Int) < 2147483629; decide), _, _, rfl, rfl, .inl ⟨_, rfl, _, _, rfl, rfl, (by show (0 : Int) < 2147483647; decide), ?_⟩⟩⟩
        exact ⟨_, _, rfl, by omega, by omega, rfl⟩
      case done2 =>
        obtain ⟨x1, m, rfl, m0, m1, rfl⟩ := hP
        refine ⟨_, rfl, D, rfl, ⟨_, SqL.of hD1⟩, fun D2 hD2 => lc_it (walk_list (xs := cs.map V.int)) (fun i Hi2 => ∃ l : List Int, l.length ≤ i ∧ (∀ x ∈ l, 0 ≤ x) ∧ Hi2 D2 = some (.lst (l.map V.int)) ∧ Same Hc Hi2) ⟨[], Nat.le_refl _, (fun x hx => by cases hx), upd_same, Same.new hD2⟩ (fun i Hi2 _ hP => by obtain ⟨_, _, _, _, h⟩ := hP; exact SqL.of (h _ _ hD1)) (fun i x Hi2 Hj hi hP hY => ?turn3) (fun Hi2 hP => ?done3)⟩
        case turn3 =>
          obtain ⟨rfl, hx⟩ := hY
          obtain ⟨l, l1, l2, l3, l4⟩ := hP
          rw [List.getElem?_map] at hx
          cases hxi : cs[i]? with
          | none => rw [hxi] at hx; cases hx
          | some c =>
          rw [hxi] at hx
          cases hx
          have hi2 : i < cs.length := by rw [List.length_map] at hi; exact hi
          refine ⟨rfl, _, rfl, _, _, rfl, rfl, ⟨by decide, by decide, by decide⟩, _, _, rfl, rfl, _, rfl, ?_⟩
          refine ite2 (fun _ => ?_) (fun _ => ?_)
          · refine ⟨_, rfl, _, l3, small1000 (by rw [List.length_map]; omega), l ++ [c], by rw [List.length_append]; exact Nat.add_le_add_right l1 1, fun x hx => ?_, by rw [upd_same, List.map_append]; rfl, fun b o e => ?_⟩
            · rcases List.mem_append.mp hx with hx | hx
              · exact l2 x hx
              · rw [List.mem_singleton.mp hx]; exact hpos c (List.mem_of_getElem? hxi)
            · rw [upd_ne (ne_of_none e hD2)]
              exact l4 _ _ e
          · exact ⟨l, by omega, l2, l3, l4⟩
        case done3 =>
          obtain ⟨l, l1, l2, l3, l4⟩ := hP
          refine ⟨D2, _, rfl, SqL.of l3, fun g hg => ?_⟩
          refine ⟨_, rfl, (by show 2 ≤ sizeLine; decide), fun d hd => ?_⟩
          have s3 : Same H Hi2 := s2.trans l4
          have hg0 := s3.free hg
          have hgd : g ≠ d := fun z => by rw [← z, upd_same] at hd; cases hd
          have hd0 : H d = none := s3.free ((Same.new hg).free hd)
          refine q d g _ ⟨hgd.symm, l.reverse, m, upd_same, ?_, fun x hx => l2 x (List.mem_reverse.mp hx), m0, m1, ?_⟩ fun b o e => hh_get ?_ (ne_of_none e hd0) (ne_of_none e hg0)
          · rw [upd_ne hgd, upd_same, List.map_reverse]
          · rw [List.length_reverse]
            rw [List.length_map] at l1
            omega
          · rw [upd_ne (ne_of_none e hd0), upd_ne (ne_of_none e hg0)]
            exact s3 _ _ e
end
end Pn

namespace Pn
open PySem L2 TL
abbrev sMixed : Stmt := top 33
abbrev sNames : Stmt := top 34
/-! ### a list of names in another order, its first names -/
theorem perm_erase {α : Type} : ∀ {l : List α} {k : Nat} {y : α}, l[k]? = some y → (y :: l.eraseIdx k).Perm l
  | [], k, y, h => by simp at h
  | a :: l, 0, y, h => by
    simp only [List.getElem?_cons_zero, Option.some.injEq] at h
    subst h
    exact .refl _
  | a :: l, k + 1, y, h => by
    rw [List.getElem?_cons_succ] at h
    rw [List.eraseIdx_cons_succ]
    exact (List.Perm.swap a y _).trans (.cons a (perm_erase h))
theorem erase_map {α β : Type} (f : α → β) : ∀ (l : List α) (k : Nat), (l.map f).eraseIdx k = (l.eraseIdx k).map f
  | [], _ => rfl
  | _ :: _, 0 => rfl
  | a :: l, k + 1 => congrArg (f a :: ·) (erase_map f l k)
theorem cut_upto (xs : List V) {k : Nat} (h : k ≤ xs.length) : cutV xs none (some (k : Int)) = xs.take k := by
  unfold cutV
  rw [HT.sIx_none, HT.sIx_nat]
  simp [Nat.min_eq_left h]
structure TDealC (K : PySem.W.Frag) (mg : Str → Option Value) : Type where
  mI : mg "int" = none
  mA : mg "abs" = none
  mL : mg "len" = none
  mLs : mg "list" = none
  deal : At K mg "_law_deal" sDeal ["_law_script"]
  draw : At K mg "_law_draw" sDraw ["_law_deal_here", "_law_many"]
  pick : At K mg "_law_pick" sPick ["_law_deal_here", "_law_some"]
  mixed : At K mg "_law_mixed" sMixed ["_law_deal_here", "_law_some"]
  names : At K mg "_law_names" sNames ["_law_deal_here", "_law_many"]
section
variable {P : Program} {w : World} {K : PySem.W.Frag} {mg : Str → Option Value} {base : Heap}
theorem TDealC.okDraw (T : TDealC K mg) : FnOk P w K mg base CX0 1 T.draw.f T.draw.fd ["_law_deal_here", "_law_many"] spDraw := ok_draw T.draw.F T.mI
theorem TDealC.okPick (T : TDealC K mg) : FnOk P w K mg base CX0 2 T.pick.f T.pick.fd ["_law_deal_here", "_law_some"] (spPick K) := ok_pick T.pick.F T.mL T.draw T.mI
theorem TDealC.okDeal (T : TDealC K mg) : FnOk P w K mg base CX0 1 T.deal.f T.deal.fd ["_law_script"] (spDeal K) := ok_deal T.deal.F T.mI T.mA
def spMixed (K : PySem.W.Frag) : Sp := fun vs H Q _ => ∃ (d g a : Addr) (ss : List Str), vs = [.ref d, .ref a] ∧ DealAt H d g ∧ SqL K (hh H d g) a (ss.map V.str) ∧ ss.length ≤ 100 ∧ (∀ z ∈ ss, PyData.strOk z = true) ∧
  ∀ (l : Addr) (zs : List Str) (H' : Hp), zs.Perm ss → DealAt H' d g → Same (hh H d g) (hh H' d g) → Mo H H' → hh H' d g l = some (.lst (zs.map V.str)) → Q (.ref l) H'
theorem scMixed : FnScope ["_law_deal_here", "_law_some", "_law_left", "_law_found"] ["_law_deal_here", "_law_some"] (defScope sMixed) := ⟨rfl, rfl, rfl, by decide +kernel, rfl, by decide +kernel, by decide +kernel⟩
theorem TDealC.okMixed (T : TDealC K mg) : FnOk P w K mg base CX0 2 T.mixed.f T.mixed.fd ["_law_deal_here", "_law_some"] (spMixed K) := by
  refine T.mixed.F.ok scMixed (fun vs H Q E h => ?_) (fun cdv A outer s H vs Q E hr h => ?_)
  · obtain ⟨d, g, a, ss, rfl, _⟩ := h
    rfl
  · obtain ⟨d, g, a, ss, rfl, hD, hS, hl, hok, q⟩ := h
    refine ⟨_, (pss_cons (ps_par (i := 2) (j := 3) (by rfl) scMixed.nd rfl rfl (by decide) rfl rfl (pa_cons (pe_callTy call_list_of (by rfl) T.mLs (by decide +kernel) (pa_cons (pv 1) pa_nil)) (pa_cons (pe_lst pa_nil) pa_nil)) (by rfl))
(pss_cons (ps_while PassesOwn.never (pt_cmpR (op_neD hr.units) (pv 2) (pe_lst pa_nil) (nomark _))
(pss_one (ps_expr (pe_bm PySem.F.plainAttrs_list PySem.F.slot_list_append PySem.F.type_list_append mt_append (pv 3) (pa_cons (pe_bm PySem.F.plainAttrs_list PySem.F.slot_list_pop PySem.F.type_list_pop mt_popAt (pv 2) (pa_cons (pe_call T.okDraw (hr.mono (by decide)) rfl T.draw.m T.draw.F.kp T.draw.b .nil pass0 (pa_cons (pv 0) (pa_cons (pe_callB call_len_seq (by rfl) T.mL PySem.boot_len (pa_cons (pv 2) pa_nil)) pa_nil))) pa_nil)) pa_nil)))))
(pss_one (ps_ret (pv 3))))), ?_⟩
    refine ⟨_, rfl, a, _, rfl, .inl (hh_sub.seq hS), fun L hL => ?_⟩
    refine ⟨(by show 0 ≤ sizeLine; decide), fun F hF => ?_⟩
    have n1 := hD.nd hL
    have hD1 := hD.new (o := .lst (ss.map V.str)) hL
    have n2 := hD1.nd hF
    have hD2 := hD1.new (o := .lst []) hF
    have s2 : Same (hh H d g) (hh (upd (upd H L (.lst (ss.map V.str))) F (.lst [])) d g) := (hh_new hL).trans (hh_new hF)
    have m2 : Mo H (upd (upd H L (.lst (ss.map V.str))) F (.lst [])) := Mo.upd.trans Mo.upd
    have nLF : L ≠ F := fun z => by rw [← z, upd_same] at hF; cases hF
    have eL : (upd (upd H L (.lst (ss.map V.str))) F (.lst [])) L = some (.lst (ss.map V.str)) := by rw [upd_ne nLF]; exact upd_same
    have eF : (upd (upd H L (.lst (ss.map V.str))) F (.lst [])) F = some (.lst []) := upd_same
    have hFn : H F = none := by rw [upd_ne nLF.symm] at hF; exact hF
    generalize upd (upd H L (.lst (ss.map V.str))) F (.lst []) = H2 at hD2 s2 m2 eL eF ⊢
    refine ⟨_, _, rfl, ?_⟩
    try dsimp only [List.set]
    refine ⟨fun n σ Hc => ∃ (ls fs : List Str), σ = [some (.ref d), some (.ref a), some (.ref L), some (.ref F)] ∧ ls.length = n ∧ (fs ++ ls).Perm ss ∧ DealAt Hc d g ∧ Same (hh H d g) (hh Hc d g) ∧ Mo H Hc ∧ Hc L = some (.lst (ls.map V.str)) ∧ Hc F = some (.lst (fs.map V.str)),
      ⟨_, ss, [], rfl, rfl, .refl _, hD2, s2, m2, eL, eF⟩, fun n σ Hc hP => ?_⟩
    obtain ⟨ls, fs, rfl, hn, perm, hDc, sc, mc, hLc, hFc⟩ := hP
    have ok1 : ∀ z ∈ ls, PyData.strOk z = true := fun z hz => hok z (perm.mem_iff.mp (List.mem_append_right _ hz))
    have len1 : fs.length + ls.length = ss.length := by rw [← List.length_append]; exact perm.length_eq
    refine ⟨_, rfl, (by show 0 ≤ sizeLine; decide), fun p hp => ?_⟩
    have hLp := Same.new (o := .lst []) hp _ _ hLc
    refine ⟨.list (ls.map PyData.str), .list [], .lst (SqL.of hLp) (dp_strL ls), .lst (SqL.of upd_same) .nil, strL_sh ok1, by decide +kernel, _, rfl, ?_⟩
    rw [strsL_nil]
    have hDp := hDc.new (o := .lst []) hp
    have np := hDc.nd hp
    have sp := sc.trans (hh_new (o := .lst []) hp)
    have mp : Mo H (upd Hc p (.lst [])) := mc.trans Mo.upd
    have hFp := Same.new (o := .lst []) hp _ _ hFc
    generalize upd Hc p (.lst []) = Hp at hDp sp mp hLp hFp ⊢
    cases ls with
    | nil =>
      refine iteFB rfl ?_
      refine ⟨_, rfl, ?_⟩
      rw [List.append_nil] at perm
      exact q F fs Hp perm hDp sp mp (hh_get hFp n2.1 n2.2)
    | cons z0 ls0 =>
      refine iteTB rfl ?_
      have ll : (z0 :: ls0).length ≤ 100 := by omega
      refine ⟨fun σ' H' => ∃ (ls fs : List Str), σ' = [some (.ref d), some (.ref a), some (.ref L), some (.ref F)] ∧ ls.length = ls0.length ∧ (fs ++ ls).Perm ss ∧ DealAt H' d g ∧ Same (hh H d g) (hh H' d g) ∧ Mo H H' ∧ H' L = some (.lst (ls.map V.str)) ∧ H' F = some (.lst (fs.map V.str)),
        fun σ' H' q => ⟨ls0.length, by rw [← hn]; exact Nat.lt_succ_self _, q⟩, ?_⟩
      refine ⟨_, rfl, .inl ⟨rfl, _, SqL.of hFp⟩, ?_⟩
      refine ⟨_, rfl, .inl ⟨rfl, _, SqL.of hLp⟩, ?_⟩
      refine ⟨_, rfl, _, rfl, L, _, rfl, .inl (SqL.of hLp), ?_⟩
      refine ⟨d, g, _, rfl, hDp, by simp, by simp only [List.length_map]; omega, fun r H' r0 r1 hD' hs hm => ?_⟩
      rw [List.length_map] at r1
      obtain ⟨k, rfl⟩ : ∃ k : Nat, r = (k : Int) := ⟨r.toNat, by omega⟩
      have hk : k < (z0 :: ls0).length := by omega
      have hL' := hh_sub _ _ (hs _ _ (hh_get hLp n1.1 n1.2))
      have hF' := hh_sub _ _ (hs _ _ (hh_get hFp n2.1 n2.2))
      have gy : (z0 :: ls0)[k]? = some (z0 :: ls0)[k] := List.getElem?_eq_getElem hk
      refine ⟨L, _, _, k, .str (z0 :: ls0)[k], rfl, rfl, hL', by omega, by omega, ?sq, by rw [List.getElem?_map, gy]; rfl, ?_⟩
      case sq =>
        rw [List.length_map]
        have e := PySem.StrLaws.seqIndex_nonneg (i := (k : Int)) (n := (z0 :: ls0).length) (by omega) (by omega)
        rw [Int.toNat_natCast] at e
        exact e
      refine ⟨F, _, _, rfl, rfl, by rw [upd_ne nLF.symm]; exact hF', small1000 (by rw [List.length_map]; omega), ?_⟩
      refine ⟨(z0 :: ls0).eraseIdx k, fs ++ [(z0 :: ls0)[k]], rfl, by rw [List.length_eraseIdx_of_lt hk]; rfl, ?_, (hD'.upd n1.1 n1.2).upd n2.1 n2.2, ?_, ?_, ?_, ?_⟩
      · refine List.Perm.trans ?_ perm
        rw [List.append_assoc]
        exact List.Perm.append_left _ (perm_erase gy)
      · intro c o e
        have e1 := hs _ _ (sp _ _ e)
        obtain ⟨c1, c2, c3⟩ := hh_ne e1
        obtain ⟨_, _, e0⟩ := hh_ne e
        exact hh_get (by rw [upd_ne (ne_of_none e0 hFn), upd_ne (ne_of_none e0 hL)]; exact c3) c1 c2
      · exact ((mp.trans hm).trans Mo.upd).trans Mo.upd
      · rw [upd_ne nLF, upd_same, erase_map]
      · rw [upd_same, List.map_append]
        rfl
def names16 : List Str := ["a", "ab", "abc", "c", "f", "fig", "sec", "zzzz", "x", "y", "now", "box", "at", "n", "text", "on"]
theorem names16_ok : names16.Nodup ∧ (∀ z ∈ names16, PyData.strOk z = true) ∧ ∀ z ∈ names16, nameS z = true := by decide +kernel
def spNames (K : PySem.W.Frag) : Sp := fun vs H Q _ => ∃ (d g : Addr) (m : Nat), vs = [.ref d, .int (m : Int)] ∧ DealAt H d g ∧ m ≤ 16 ∧
  ∀ (l : Addr) (zs : List Str) (H' : Hp), zs.Nodup → (∀ z ∈ zs, z ∈ names16) → zs.length = m → DealAt H' d g → Same (hh H d g) (hh H' d g) → Mo H H' → hh H' d g l = some (.lst (zs.map V.str)) → Q (.ref l) H'
theorem scNames : FnScope ["_law_deal_here", "_law_many", "_law_some"] ["_law_deal_here", "_law_many"] (defScope sNames) := ⟨rfl, rfl, rfl, by decide +kernel, rfl, by decide +kernel, by decide +kernel⟩
theorem TDealC.okNames (T : TDealC K mg) : FnOk P w K mg base CX0 3 T.names.f T.names.fd ["_law_deal_here", "_law_many"] (spNames K) := by
  refine T.names.F.ok scNames (fun vs H Q E h => ?_) (fun cdv A outer s H vs Q E hr h => ?_)
  · obtain ⟨d, g, m, rfl, _⟩ := h
    rfl
  · obtain ⟨d, g, m, rfl, hD, hm, q⟩ := h
    refine ⟨_, (pss_cons (ps_set (i := 2) scNames.nd rfl (Or.inl rfl) (pe_lst (pa_cons pe_str (pa_cons pe_str (pa_cons pe_str (pa_cons pe_str (pa_cons pe_str (pa_cons pe_str (pa_cons pe_str (pa_cons pe_str (pa_cons pe_str (pa_cons pe_str (pa_cons pe_str (pa_cons pe_str (pa_cons pe_str (pa_cons pe_str (pa_cons pe_str (pa_cons pe_str pa_nil))))))))))))))))))
(pss_one (ps_ret (pe_slice sl_list (pe_call T.okMixed (hr.mono (by decide)) rfl T.mixed.m T.mixed.F.kp T.mixed.b .nil pass0 (pa_cons (pv 0) (pa_cons (pv 2) pa_nil))) po_none (po_some (pv 1)))))), ?_⟩
    refine ⟨(by show 16 ≤ sizeLine; decide), fun p hp => ?_⟩
    have hD1 := hD.new (o := .lst (names16.map V.str)) hp
    have s1 : Same (hh H d g) (hh (upd H p (.lst (names16.map V.str))) d g) := hh_new hp
    have e1 := hh_at (o := .lst (names16.map V.str)) hD hp
    refine ⟨_, rfl, _, rfl, d, g, p, names16, rfl, hD1, SqL.of e1, by decide, names16_ok.2.1, fun l zs H' perm hD' hs hm' hl => ?_⟩
    have nd : zs.Nodup := perm.nodup_iff.mpr names16_ok.1
    have zl : zs.length = 16 := perm.length_eq
    refine ⟨_, rfl, (m : Int), rfl, l, _, rfl, SqL.of (hh_sub _ _ hl), fun u hu => ?_⟩
    rw [cut_upto _ (by rw [List.length_map, zl]; exact hm), ← List.map_take]
    have hD2 := hD'.new (o := .lst ((zs.take m).map V.str)) hu
    refine q u (zs.take m) _ (nd.sublist (List.take_sublist _ _)) (fun z hz => perm.mem_iff.mp (List.mem_of_mem_take hz)) (by rw [List.length_take, zl]; omega) hD2 ((s1.trans hs).trans (hh_new hu)) ((Mo.upd.trans hm').trans Mo.upd) (hh_at hD' hu)
end
end Pn

namespace Pn
open PySem PySem.Spec PyProof.Rows L2 TL
abbrev sDrawn : Stmt := top 36
section
variable {P : Program} {w : World} {K : PySem.W.Frag} {mg : Str → Option Value} {base : Heap}
/-! ### drawn rows of a filling, as tuples -/
def goodF (ws : List Str) (r : RowD) : Prop := (∃ c n, c ∈ ws ∧ n ≤ 4 ∧ r = .set c n) ∨ ∃ c n, c ∈ ws ∧ 1 ≤ n ∧ n ≤ 4 ∧ r = .skip c n
def spDrawn (K : PySem.W.Frag) : Sp := fun vs H Q _ => ∃ (d g wl : Addr) (m : Nat) (ws : List Str), vs = [.ref d, .ref wl, .int (m : Int)] ∧ DealAt H d g ∧ SqL K (hh H d g) wl (ws.map V.str) ∧ 0 < ws.length ∧ ws.length ≤ 100 ∧ m ≤ 20 ∧
  ∀ (l : Addr) (ts : List Addr) (rs : List RowD) (H' : Hp), DealAt H' d g → Same (hh H d g) (hh H' d g) → Mo H H' → dif H H' l = some (.lst (ts.map V.ref)) → Paired (fun t r => hid (dif H H') l t = some (.tup (rowTup r))) ts rs → rs.length ≤ m → (∀ r ∈ rs, goodF ws r) → Q (.ref l) H'
theorem scDrawn : FnScope ["_law_deal_here", "_law_words", "_law_many", "_law_found", "_law_k", "_law_word", "_law_is_set"] ["_law_deal_here", "_law_words", "_law_many"] (defScope sDrawn) := ⟨rfl, rfl, rfl, by decide +kernel, rfl, by decide +kernel, by decide +kernel⟩
theorem ok_drawn (T : TDealC K mg) (mR : mg "range" = none) {f : Addr} {fd : FuncData} (F : Fun K "_law_rows_drawn" "_law_rows_drawn" sDrawn f fd) : FnOk P w K mg base CX0 3 f fd ["_law_deal_here", "_law_words", "_law_many"] (spDrawn K) := by
  refine F.ok scDrawn (fun vs H Q E h => ?_) (fun cdv A outer s H vs Q E hr h => ?_)
  · obtain ⟨d, g, wl, m, ws, rfl, _⟩ := h
    rfl
  · obtain ⟨d, g, wl, m, ws, rfl, hD, hS, h0, h1, hm, q⟩ := h
    refine ⟨_, (pss_cons (ps_set (i := 3) scDrawn.nd rfl (Or.inl rfl) (pe_lst pa_nil))
(pss_cons (ps_for PassesOwn.never rfl (pi_range1 (by rfl) mR (pa_cons (pe_call T.okDraw (hr.mono (by decide)) rfl T.draw.m T.draw.F.kp T.draw.b .nil pass0 (pa_cons (pv 0) (pa_cons (pe_op op_add (pv 2) pe_int) pa_nil))) pa_nil)) (pg_name (i := 4) scDrawn.nd rfl (Or.inl rfl))
(pss_cons (ps_set (i := 5) scDrawn.nd rfl (Or.inl rfl) (pe_call T.okPick (hr.mono (by decide)) rfl T.pick.m T.pick.F.kp T.pick.b .nil pass0 (pa_cons (pv 0) (pa_cons (pv 1) pa_nil))))
(pss_cons (ps_set (i := 6) scDrawn.nd rfl (Or.inl rfl) (pe_cmpR op_eq (pe_call T.okDraw (hr.mono (by decide)) rfl T.draw.m T.draw.F.kp T.draw.b .nil pass0 (pa_cons (pv 0) (pa_cons pe_int pa_nil))) pe_int (nomark _)))
(pss_one (ps_expr (pe_bm PySem.F.plainAttrs_list PySem.F.slot_list_append PySem.F.type_list_append mt_append (pv 3) (pa_cons (pe_ifExp (pt_val (pv 6)) (pe_tup (pa_cons pe_str (pa_cons (pv 5) (pa_cons (pe_call T.okDraw (hr.mono (by decide)) rfl T.draw.m T.draw.F.kp T.draw.b .nil pass0 (pa_cons (pv 0) (pa_cons pe_int pa_nil))) pa_nil)))) (pe_tup (pa_cons pe_str (pa_cons (pv 5) (pa_cons (pe_op op_add pe_int (pe_call T.okDraw (hr.mono (by decide)) rfl T.draw.m T.draw.F.kp T.draw.b .nil pass0 (pa_cons (pv 0) (pa_cons pe_int pa_nil)))) pa_nil))))) pa_nil)))))))
(pss_one (ps_ret (pv 3))))), ?_⟩
    refine ⟨Nat.zero_le _, fun L hL => ?_⟩
    have nL := hD.nd hL
    have hD1 := hD.new (o := .lst []) hL
    have s1 : Same (hh H d g) (hh (upd H L (.lst [])) d g) := hh_new hL
    have e1 : (upd H L (.lst [])) L = some (.lst []) := upd_same
    have m1 : Mo H (upd H L (.lst [])) := Mo.upd
    generalize upd H L (.lst []) = H1 at hD1 s1 e1 m1 ⊢
    try dsimp only [List.set]
    refine ⟨_, rfl, _, rfl, _, _, rfl, rfl, d, g, (m : Int) + 1, rfl, hD1, by omega, by omega, fun r H2 r0 r1 hD2 s2 m2 => ?_⟩
    have e2 := hh_sub _ _ (s2 _ _ (hh_get e1 nL.1 nL.2))
    refine ⟨_, rfl, by omega, by omega, for_range (lo := 0) (n := r.toNat) (fun i σ Hx => ∃ y4 y5 y6 ts rs, σ = [some (.ref d), some (.ref wl), some (.int (m : Int)), some (.ref L), y4, y5, y6] ∧ DealAt Hx d g ∧ Mo H Hx ∧ Same (hh H d g) (hh Hx d g) ∧ Hx L = some (.lst (ts.map V.ref)) ∧ Paired (fun t r => hid (dif H Hx) L t = some (.tup (rowTup r))) ts rs ∧ rs.length = i ∧ ∀ r ∈ rs, goodF ws r)
      ⟨_, _, _, [], [], rfl, hD2, m1.trans m2, Same.trans s1 s2, e2, .nil, rfl, fun _ z => nomatch z⟩ (fun i σ Hx hi hP => ?turn) (fun σ Hx hP => ?fin)⟩
    case fin =>
      obtain ⟨y4, y5, y6, ts, rs, rfl, hDx, mx, sx, eL, pd, hl, hg⟩ := hP
      exact ⟨_, rfl, q L ts rs Hx hDx sx mx (dif_eq.mpr ⟨hL, eL⟩) pd (by omega) hg⟩
    case turn =>
      obtain ⟨y4, y5, y6, ts, rs, rfl, hDx, mx, sx, eL, pd, hl, hg⟩ := hP
      have tl := paired_len pd
      try dsimp only [List.set]
      refine stepSet (fun v H' => ∃ c, v = .str c ∧ c ∈ ws ∧ DealAt H' d g ∧ Mo Hx H' ∧ Same (hh Hx d g) (hh H' d g)) (fun Q' hQ => ⟨_, rfl, _, rfl, d, g, wl, ws.map V.str, rfl, hDx, sx.seq hS, by rw [List.length_map]; exact h0, by rw [List.length_map]; omega, fun v H' hv hD' s' m' => by
        obtain ⟨c, hc, rfl⟩ := List.mem_map.mp hv
        exact hQ _ _ ⟨c, rfl, hc, hD', m', s'⟩⟩) (fun v Ha hC => ?r1)
      case r1 =>
      obtain ⟨c, rfl, hc, hDa, ma, sa⟩ := hC
      try dsimp only [List.set]
      refine stepSet (fun v H' => ∃ b : Bool, v = .bl b ∧ DealAt H' d g ∧ Mo Hx H' ∧ Same (hh Hx d g) (hh H' d g)) (fun Q' hQ => ⟨_, rfl, d, g, 3, rfl, hDa, by decide, by decide, fun r' H' _ _ hD' s' m' => ⟨rfl, hQ _ _ ⟨_, rfl, hD', ma.trans m', Same.trans sa s'⟩⟩⟩) (fun v Hb hC => ?r2)
      case r2 =>
      obtain ⟨b, rfl, hDb, mb, sb⟩ := hC
      try dsimp only [List.set]
      have eLb := hh_sub _ _ (sb _ _ (hh_get eL nL.1 nL.2))
      refine ⟨_, rfl, .inl ⟨rfl, _, SqL.of eLb⟩, ?_⟩
      have done : ∀ (G : Hp) (t : Addr) (rr : RowD), DealAt G d g → Mo Hb G → Same (hh Hb d g) (hh G d g) → G t = none → goodF ws rr → ∀ Z : Hp, Z = upd (upd G t (.tup (rowTup rr))) L (.lst (ts.map V.ref ++ [V.ref t])) → (upd G t (.tup (rowTup rr))) L = some (.lst (ts.map V.ref)) ∧
          DealAt Z d g ∧ Mo H Z ∧ Same (hh H d g) (hh Z d g) ∧ Z L = some (.lst ((ts ++ [t]).map V.ref)) ∧ Paired (fun t r => hid (dif H Z) L t = some (.tup (rowTup r))) (ts ++ [t]) (rs ++ [rr]) ∧ ∀ r ∈ rs ++ [rr], goodF ws r := by
        intro G t rr hDG mG sG ht hgr Z eZ
        subst eZ
        have eLG := hh_sub _ _ (sG _ _ (hh_get eLb nL.1 nL.2))
        have ntL : t ≠ L := fun z => by rw [z, eLG] at ht; cases ht
        have tn : H t = none := ((mx.trans mb).trans mG) _ ht
        refine ⟨by rw [upd_ne ntL.symm]; exact eLG, (hDG.new ht).upd nL.1 nL.2, ((((mx.trans mb).trans mG).trans Mo.upd)).trans Mo.upd, fun c' u e => ?_, by rw [upd_same, List.map_append]; rfl, paired_snoc ?_ (paired_mono (fun p r e => ?_) pd), fun r hr' => ?_⟩
        · have e3 := sG _ _ (sb _ _ (sx _ _ e))
          obtain ⟨c1, c2, c3⟩ := hh_ne e3
          obtain ⟨_, _, c0⟩ := hh_ne e
          exact hh_get (by rw [upd_ne (ne_of_none c0 hL), upd_ne (ne_of_none c3 ht)]; exact c3) c1 c2
        · exact hid_get (dif_eq.mpr ⟨tn, by rw [upd_ne ntL]; exact upd_same⟩) ntL
        · have pL := hid_ne e
          obtain ⟨p0, p1⟩ := dif_eq.mp (hid_sub _ _ e)
          have pn := hD.nd p0
          have p2 := hh_sub _ _ (sG _ _ (sb _ _ (hh_get p1 pn.1 pn.2)))
          exact hid_get (dif_eq.mpr ⟨p0, by rw [upd_ne pL, upd_ne (ne_of_none p2 ht)]; exact p2⟩) pL
        · rcases List.mem_append.mp hr' with hr' | hr'
          · exact hg r hr'
          · rw [List.mem_singleton.mp hr']
            exact hgr
      have l20 : ts.length < sizeLine := small1000 (by omega)
      have three : 3 ≤ sizeLine := by decide
      refine ⟨_, rfl, b, rfl, ?_⟩
      cases b with
      | true =>
        refine iteT ?_
        refine ⟨_, rfl, _, rfl, d, g, 5, rfl, hDb, by decide, by decide, fun r' G r0' r1' hDG sG mG => ⟨three, fun t ht => ?_⟩⟩
        obtain ⟨n, rfl⟩ : ∃ n : Nat, r' = (n : Int) := ⟨r'.toNat, by omega⟩
        obtain ⟨d1, d2, d3, d4, d5, d6, d7⟩ := done G t (RowD.set c n) hDG mG sG ht (.inl ⟨c, n, hc, by omega, rfl⟩) _ rfl
        exact ⟨L, _, _, rfl, rfl, d1, by rw [List.length_map]; exact l20, _, _, _, ts ++ [t], rs ++ [RowD.set c n], rfl, d2, d3, d4, d5, d6, by rw [List.length_append, hl]; rfl, d7⟩
      | false =>
        refine iteF ?_
        refine ⟨_, rfl, _, rfl, d, g, 4, rfl, hDb, by decide, by decide, fun r' G r0' r1' hDG sG mG => ?_⟩
        obtain ⟨n, rfl⟩ : ∃ n : Nat, r' = (n : Int) := ⟨r'.toNat, by omega⟩
        refine ⟨_, _, rfl, rfl, three, fun t ht => ?_⟩
        obtain ⟨d1, d2, d3, d4, d5, d6, d7⟩ := done G t (RowD.skip c (1 + n)) hDG mG sG ht (.inr ⟨c, 1 + n, hc, by omega, by omega, rfl⟩) _ rfl
        exact ⟨L, _, _, rfl, rfl, d1, by rw [List.length_map]; exact l20, _, _, _, ts ++ [t], rs ++ [RowD.skip c (1 + n)], rfl, d2, d3, d4, d5, d6, by rw [List.length_append, hl]; rfl, d7⟩
end
end Pn

namespace Pn
open PySem L2 SeqAt
open MeetsSeq MeetsSeq2 MeetsSeq3 SeqRoads2
open AutoSeq1 (wpAny_loadPart')
/-! ### == and != of tuples whose things are compared by an own == -/
section
variable {prog : Program} {w : World} {A : Around} {R : Result → Shared → Prop}
/-- the answer of a tuple's == -/
def tupAns (e : Nat → Bool) (m n : Nat) : Bool := (List.range (min m n)).all e && m == n
theorem pairs_at {us ws : Array Value} {i : Nat} {y x : Value} {rest : List (Value × Value)} (hz : (y, x) :: rest = (us.toList.zip ws.toList).drop i) : ∃ (h1 : i < us.size) (h2 : i < ws.size), y = us[i] ∧ x = ws[i] ∧ rest = (us.toList.zip ws.toList).drop (i + 1) := by
  have hl : i < (us.toList.zip ws.toList).length := by
    by_cases h : i < (us.toList.zip ws.toList).length
    · exact h
    · rw [List.drop_eq_nil_of_le (Nat.le_of_not_lt h)] at hz
      cases hz
  have hm : i < us.size ∧ i < ws.size := by
    rw [List.length_zip, Array.length_toList, Array.length_toList] at hl
    omega
  rw [List.drop_eq_getElem_cons hl, List.getElem_zip] at hz
  injection hz with ha hr
  injection ha with hy hx
  exact ⟨hm.1, hm.2, by rw [hy, Array.getElem_toList], by rw [hx, Array.getElem_toList], hr⟩
theorem pairs_out {us ws : Array Value} {i : Nat} (hz : [] = (us.toList.zip ws.toList).drop i) : min us.size ws.size ≤ i := by
  have q := congrArg List.length hz
  rw [List.length_nil, List.length_drop, List.length_zip, Array.length_toList, Array.length_toList] at q
  omega
theorem ans_step {e : Nat → Bool} {m i : Nat} (h : i < m) : ((List.range m).drop i).all e = (e i && ((List.range m).drop (i + 1)).all e) := by
  rw [List.drop_eq_getElem_cons (by simpa using h), List.all_cons, List.getElem_range]
/-- tuple.__eq__ -/
theorem teq_own {p q : Addr} {us ws : Array Value} {n n2 : Nat} {dd dd2 : Option Addr} {sl sl2 : Array (Option Value)} {e : Nat → Bool} {J : Shared → Prop} {s : Shared}
    (hp : s.heap.get? p = some { cls := .type "tuple", dict := dd, data := .seq us n, slots := sl }) (hq : s.heap.get? q = some { cls := .type "tuple", dict := dd2, data := .seq ws n2, slots := sl2 })
    (step : ∀ i (h1 : i < us.size) (h2 : i < ws.size) s', J s' → wpAny (model prog w) A.in1 (eqBool us[i] ws[i]) (fun r s2 => r = e i ∧ J s2) (fun x s2 => R (.error x) s2) s')
    (fin : ∀ s', J s' → R (.ok (.ret (.bool (tupAns e us.size ws.size)))) s') (hs : J s) :
    wpAny (model prog w) A.in1 (Builtin.«tuple.__eq__» ⟨[.ref p, .ref q], []⟩) (GQ.FinOf prog w A R) (fun x s2 => R (.error x) s2) s := by
  have f2 := AutoSeq1.sub_tuple_tuple
  have h0 := hs
  obtain ⟨hp', g, d, tk, os⟩ := s
  wp_walk using wpAny_loadPart' hp, wpAny_loadPart' hq, wpAny_forIn_list _ (fun rest b s' => b.1 = none ∧ J s' ∧ ∃ i, rest = (us.toList.zip ws.toList).drop i ∧ tupAns e us.size ws.size = (((List.range (min us.size ws.size)).drop i).all e && us.size == ws.size)) _
  case turn =>
    rintro ⟨y, x⟩ rest b s' ⟨hb, hj, i, hz, hA⟩
    obtain ⟨h1, h2, rfl, rfl, hrest⟩ := pairs_at hz
    rw [ans_step (by omega)] at hA
    refine wpAny_bind (wpAny_mono (step i h1 h2 s' hj) (fun r s2 hr => ?_) fun _ _ x => x)
    obtain ⟨rfl, hj2⟩ := hr
    cases hc : e i with
    | true =>
      rw [hc] at hA
      wp_walk
      exact ⟨rfl, hj2, i + 1, hrest, by simpa using hA⟩
    | false =>
      rw [hc] at hA
      have hF := fin s2 hj2
      rw [hA] at hF
      wp_walk
      simpa using hF
  case fin =>
    rintro ⟨b1, b2⟩ s' ⟨hb, hj, i, hz, hA⟩
    simp only at hb
    subst hb
    rw [List.drop_eq_nil_of_le (by simpa using pairs_out hz)] at hA
    have hF := fin s' hj
    rw [hA] at hF
    wp_walk
    simpa [Builtin.Tuple.tupleCompareSizes] using hF
  case h =>
    exact ⟨rfl, h0, 0, rfl, rfl⟩
/-- tuple.__ne__ -/
theorem tne_own {p q : Addr} {us ws : Array Value} {n n2 : Nat} {dd dd2 : Option Addr} {sl sl2 : Array (Option Value)} {e : Nat → Bool} {J : Shared → Prop} {s : Shared}
    (hp : s.heap.get? p = some { cls := .type "tuple", dict := dd, data := .seq us n, slots := sl }) (hq : s.heap.get? q = some { cls := .type "tuple", dict := dd2, data := .seq ws n2, slots := sl2 })
    (step : ∀ i (h1 : i < us.size) (h2 : i < ws.size) s', J s' → wpAny (model prog w) A.in1 (eqBool us[i] ws[i]) (fun r s2 => r = e i ∧ J s2) (fun x s2 => R (.error x) s2) s')
    (fin : ∀ s', J s' → R (.ok (.ret (.bool (!tupAns e us.size ws.size)))) s') (hs : J s) :
    wpAny (model prog w) A.in1 (Builtin.«tuple.__ne__» ⟨[.ref p, .ref q], []⟩) (GQ.FinOf prog w A R) (fun x s2 => R (.error x) s2) s := by
  have f2 := AutoSeq1.sub_tuple_tuple
  have h0 := hs
  obtain ⟨hp', g, d, tk, os⟩ := s
  wp_walk using wpAny_loadPart' hp, wpAny_loadPart' hq, wpAny_forIn_list _ (fun rest b s' => b.1 = none ∧ J s' ∧ ∃ i, rest = (us.toList.zip ws.toList).drop i ∧ tupAns e us.size ws.size = (((List.range (min us.size ws.size)).drop i).all e && us.size == ws.size)) _
  case turn =>
    rintro ⟨y, x⟩ rest b s' ⟨hb, hj, i, hz, hA⟩
    obtain ⟨h1, h2, rfl, rfl, hrest⟩ := pairs_at hz
    rw [ans_step (by omega)] at hA
    refine wpAny_bind (wpAny_mono (step i h1 h2 s' hj) (fun r s2 hr => ?_) fun _ _ x => x)
    obtain ⟨rfl, hj2⟩ := hr
    cases hc : e i with
    | true =>
      rw [hc] at hA
      wp_walk
      exact ⟨rfl, hj2, i + 1, hrest, by simpa using hA⟩
    | false =>
      rw [hc] at hA
      have hF := fin s2 hj2
      rw [hA] at hF
      wp_walk
      simpa using hF
  case fin =>
    rintro ⟨b1, b2⟩ s' ⟨hb, hj, i, hz, hA⟩
    simp only at hb
    subst hb
    rw [List.drop_eq_nil_of_le (by simpa using pairs_out hz)] at hA
    have hF := fin s' hj
    rw [hA] at hF
    wp_walk
    simpa [Builtin.Tuple.tupleCompareSizes, bne] using hF
  case h =>
    exact ⟨rfl, h0, 0, rfl, rfl⟩
end
section
variable {prog : Program} {w : World} {A : Around} {E : Value → Shared → Prop}
theorem rc_tups {p q : Addr} {us ws : Array Value} {e : Nat → Bool} {J : Shared → Prop} {s : Shared} {Q : Value → Shared → Prop} (hu : A.units < PySem.cLine) (hp : s.heap.IsTuple p us) (hq : s.heap.IsTuple q ws)
    (step : ∀ i (h1 : i < us.size) (h2 : i < ws.size) s', J s' → wpAny (model prog w) A.in1 (eqBool us[i] ws[i]) (fun r s2 => r = e i ∧ J s2) E s')
    (fin : ∀ s', J s' → Q (.bool (tupAns e us.size ws.size)) s') (hs : J s) : wpAny (model prog w) A (richCompare .Eq (.ref p) (.ref q)) Q E s := by
  obtain ⟨⟨c1, dd, data, sl⟩, ho, hc, n, hd⟩ := id hp
  obtain ⟨⟨c2, dd2, data2, sl2⟩, ho2, hc2, n2, hd2⟩ := id hq
  simp only at hc hd hc2 hd2
  subst hc hd hc2 hd2
  exact wpAny_richCompare_same_room (op := .Eq) ⟨_, ho, rfl⟩ ⟨_, ho2, rfl⟩ F.slot_tuple_eq (GQ.call_here F.slot_tuple_eq ⟨_, ho, rfl⟩ F.entry_tuple_eq (F.args_tuple_eq_2 _ _)
    (teq_own (R := wants (fun v s' => v ≠ .notImplemented ∧ Q v s') E) ho ho2 step (fun s' h => ⟨(fun x => nomatch x), fin s' h⟩) hs)) hu
theorem rc_tupsN {p q : Addr} {us ws : Array Value} {e : Nat → Bool} {J : Shared → Prop} {s : Shared} {Q : Value → Shared → Prop} (hu : A.units < PySem.cLine) (hp : s.heap.IsTuple p us) (hq : s.heap.IsTuple q ws)
    (step : ∀ i (h1 : i < us.size) (h2 : i < ws.size) s', J s' → wpAny (model prog w) A.in1 (eqBool us[i] ws[i]) (fun r s2 => r = e i ∧ J s2) E s')
    (fin : ∀ s', J s' → Q (.bool (!tupAns e us.size ws.size)) s') (hs : J s) : wpAny (model prog w) A (richCompare .NotEq (.ref p) (.ref q)) Q E s := by
  obtain ⟨⟨c1, dd, data, sl⟩, ho, hc, n, hd⟩ := id hp
  obtain ⟨⟨c2, dd2, data2, sl2⟩, ho2, hc2, n2, hd2⟩ := id hq
  simp only at hc hd hc2 hd2
  subst hc hd hc2 hd2
  exact wpAny_richCompare_same_room (op := .NotEq) ⟨_, ho, rfl⟩ ⟨_, ho2, rfl⟩ F.slot_tuple_ne (GQ.call_here F.slot_tuple_ne ⟨_, ho, rfl⟩ F.entry_tuple_ne (F.args_tuple_ne_2 _ _)
    (tne_own (R := wants (fun v s' => v ≠ .notImplemented ∧ Q v s') E) ho ho2 step (fun s' h => ⟨(fun x => nomatch x), fin s' h⟩) hs)) hu
end
/-! ### .. as rules -/
/-- X, one call deeper -/
def deeper (X : Cx) : Cx := { X with A := X.A.in1 }
section
variable {X : Cx} {pins : List (Addr × Obj)} {σ : St} {H : Hp} {s : Shared}
theorem inv_in (I : Inv X pins σ H s) : Inv (deeper X) pins σ H s :=
  ⟨⟨I.ok.mod, I.ok.kind, I.ok.glob, I.ok.blt, I.ok.above, I.ok.inj, I.ok.has, I.ok.cab, I.ok.hd, I.ok.frames, I.ok.stk, I.ok.exf, I.ok.bs, I.ok.bsz, I.ok.noex, I.ok.exfs, I.ok.funs, I.ok.frf⟩, I.os, I.bare, I.base, I.loc, I.cell, I.free, I.freeC, I.pin, I.hok, I.len⟩
theorem inv_out (I : Inv (deeper X) pins σ H s) : Inv X pins σ H s :=
  ⟨⟨I.ok.mod, I.ok.kind, I.ok.glob, I.ok.blt, I.ok.above, I.ok.inj, I.ok.has, I.ok.cab, I.ok.hd, I.ok.frames, I.ok.stk, I.ok.exf, I.ok.bs, I.ok.bsz, I.ok.noex, I.ok.exfs, I.ok.funs, I.ok.frf⟩, I.os, I.bare, I.base, I.loc, I.cell, I.free, I.freeC, I.pin, I.hok, I.len⟩
/-- what == says of two values, the heap only growing -/
def EqvB : Type := V → V → Hp → Bool → Prop
def EqD (X : Cx) (D : V → V → Hp → Bool → Prop) : Prop := ∀ (pins : List (Addr × Obj)) (s : Shared) (σ : St) (H : Hp) (x y : V) (u v : Value) (r : Bool), Inv X pins σ H s → RelV x u → RelV y v → D x y H r →
  wpAny (model X.prog X.w) X.A (eqBool u v) (fun b s' => b = r ∧ ∃ H', Inv X pins σ H' s' ∧ Same H H') X.xe s
/-- from a rule of == of two objects -/
theorem eqD_op {D : V → V → Hp → Bool → Prop} {rr : R2} (o : OpR X (compareOp .Eq) rr) (hr : ∀ x y H r, D x y H r → ∃ a b, x = .ref a ∧ y = .ref b ∧ (a = b → r = true) ∧ (∀ Q : VK, (∀ H', Same H H' → Q (.bl r) H') → rr x y H Q)) : EqD X D := by
  intro pins s σ H x y u v r I rx ry d
  obtain ⟨a, b, rfl, rfl, hs, k⟩ := hr x y H r d
  cases rx
  cases ry
  by_cases hab : a = b
  · subst hab
    rw [hs rfl]
    exact SeqAt.EqAt.same (A := X.A) (s := s) (.ref a) X.prog X.w X.xe _ ⟨rfl, H, I, Same.refl _⟩
  · refine GQ.eqBool_refG hab (wpAny_mono (o pins s σ H (.ref a) (.ref b) _ _ (fun v H' => v = .bl r ∧ Same H H') I rfl rfl (k _ fun H' e => ⟨rfl, e⟩)) (fun z s' hz => ?_) fun _ _ x => x)
    obtain ⟨w, H', I', rw', rfl, e⟩ := hz
    cases (show z = Value.bool r from rw')
    exact ⟨r, rfl, rfl, H', I', e⟩
/-- texts and numbers -/
theorem eqD_flat : EqD X (fun x y _ r => flatV x = true ∧ flatV y = true ∧ eqV x y = r) := by
  intro pins s σ H x y u v r I rx ry d
  obtain ⟨fx, fy, e⟩ := d
  have q := eqAt_V (A := X.A) (s := s) rx ry fx fy
  rw [e] at q
  exact q X.prog X.w X.xe _ ⟨rfl, H, I, Same.refl _⟩
/-- two tuples, thing by thing -/
structure TupD (K : PySem.W.Frag) (D : V → V → Hp → Bool → Prop) (x y : V) (H : Hp) (r : Bool) : Prop where
  h : ∃ (p q : Addr) (xs ys : List V) (e : Nat → Bool), x = .ref p ∧ y = .ref q ∧ SqT K H p xs ∧ SqT K H q ys ∧ (∀ H', Same H H' → ∀ i a b, xs[i]? = some a → ys[i]? = some b → D a b H' (e i)) ∧ r = tupAns e xs.length ys.length
theorem tup_turn {D : V → V → Hp → Bool → Prop} (h : EqD (deeper X) D) {xs ys : List V} {us ws : List Value} {e : Nat → Bool} (r1 : Vals xs us) (r2 : Vals ys ws) (hd : ∀ H', Same H H' → ∀ i a b, xs[i]? = some a → ys[i]? = some b → D a b H' (e i))
    (i : Nat) (h1 : i < us.toArray.size) (h2 : i < ws.toArray.size) (s' : Shared) (J : ∃ H', Inv X pins σ H' s' ∧ Same H H') :
    wpAny (model X.prog X.w) X.A.in1 (eqBool us.toArray[i] ws.toArray[i]) (fun r s2 => r = e i ∧ ∃ H', Inv X pins σ H' s2 ∧ Same H H') X.xe s' := by
  obtain ⟨H1, I1, e1⟩ := J
  rw [List.size_toArray] at h1 h2
  have k1 : i < xs.length := by rw [r1.length]; exact h1
  have k2 : i < ys.length := by rw [r2.length]; exact h2
  obtain ⟨u, hu, ru⟩ := r1.get (List.getElem?_eq_getElem k1)
  obtain ⟨v, hv, rv⟩ := r2.get (List.getElem?_eq_getElem k2)
  rw [List.getElem?_eq_getElem h1] at hu
  rw [List.getElem?_eq_getElem h2] at hv
  have eu : us.toArray[i] = u := by rw [List.getElem_toArray]; exact Option.some.inj hu
  have ev : ws.toArray[i] = v := by rw [List.getElem_toArray]; exact Option.some.inj hv
  rw [eu, ev]
  refine wpAny_mono (h pins s' σ H1 _ _ u v (e i) (inv_in I1) ru rv (hd H1 e1 i _ _ (List.getElem?_eq_getElem k1) (List.getElem?_eq_getElem k2))) (fun r s2 z => ?_) fun _ _ x => x
  obtain ⟨hr, H2, I2, e2⟩ := z
  exact ⟨hr, H2, inv_out I2, e1.trans e2⟩
def rTupEq (K : PySem.W.Frag) (D : V → V → Hp → Bool → Prop) (neg : Bool) : R2 := fun x y H Q => ∃ r, TupD K D x y H r ∧ ∀ H', Same H H' → Q (.bl (r ^^ neg)) H'
theorem op_tupEq {D : V → V → Hp → Bool → Prop} (h : EqD (deeper X) D) (hu : X.A.units < PySem.cLine) : OpR X (compareOp .Eq) (rTupEq X.K D false) := by
  intro pins s σ H x y v u Q I rx ry hq
  obtain ⟨r, ⟨p, q, xs, ys, e, rfl, rfl, hp, hq', hd, rfl⟩, q⟩ := hq
  cases rx
  cases ry
  obtain ⟨us, r1, p1, _⟩ := I.tuple hp
  obtain ⟨ws, r2, p2, _⟩ := I.tuple hq'
  refine rc_tups hu p1 p2 (fun i h1 h2 s' J => tup_turn h r1 r2 hd i h1 h2 s' J) (fun s' J => ?_) ⟨H, I, Same.refl _⟩
  obtain ⟨H', I', e'⟩ := J
  rw [List.size_toArray, List.size_toArray, ← r1.length, ← r2.length]
  exact ⟨.bl (tupAns e xs.length ys.length), H', I', rfl, by have := q H' e'; rwa [Bool.xor_false] at this⟩
theorem op_tupNe {D : V → V → Hp → Bool → Prop} (h : EqD (deeper X) D) (hu : X.A.units < PySem.cLine) : OpR X (compareOp .NotEq) (rTupEq X.K D true) := by
  intro pins s σ H x y v u Q I rx ry hq
  obtain ⟨r, ⟨p, q, xs, ys, e, rfl, rfl, hp, hq', hd, rfl⟩, q⟩ := hq
  cases rx
  cases ry
  obtain ⟨us, r1, p1, _⟩ := I.tuple hp
  obtain ⟨ws, r2, p2, _⟩ := I.tuple hq'
  refine rc_tupsN hu p1 p2 (fun i h1 h2 s' J => tup_turn h r1 r2 hd i h1 h2 s' J) (fun s' J => ?_) ⟨H, I, Same.refl _⟩
  obtain ⟨H', I', e'⟩ := J
  rw [List.size_toArray, List.size_toArray, ← r1.length, ← r2.length]
  exact ⟨.bl (!tupAns e xs.length ys.length), H', I', rfl, by have := q H' e'; rwa [Bool.xor_true] at this⟩
/-- tuples within tuples -/
theorem eqD_tup {D : V → V → Hp → Bool → Prop} (h : EqD (deeper X) D) (hu : X.A.units < PySem.cLine) (hs : ∀ p H r, TupD X.K D (.ref p) (.ref p) H r → r = true) : EqD X (TupD X.K D) :=
  eqD_op (op_tupEq h hu) fun x y H r d => by
    obtain ⟨p, q, xs, ys, e, rfl, rfl, h1, h2, h3, h4⟩ := id d.h
    exact ⟨p, q, rfl, rfl, fun z => by subst z; exact hs _ _ _ d, fun Q k => ⟨r, d, fun H' e' => by rw [Bool.xor_false]; exact k H' e'⟩⟩
end
end Pn

namespace Pn
open PySem L2 SeqAt
open MeetsSeq MeetsSeq2 MeetsSeq3 SeqRoads2
open AutoSeq1 (wpAny_loadPart')
/-! ### != of two lists whose things are told to be equal by their own == -/
section
variable {prog : Program} {w : World} {A : Around} {R : Result → Shared → Prop}
theorem lne_walk {p q : Addr} {us ws : Array Value} {J : Shared → Prop} (same : us.size = ws.size) (atp : ∀ s, J s → s.heap.IsList p us) (atq : ∀ s, J s → s.heap.IsList q ws)
    (step : ∀ i (h1 : i < us.size) (h2 : i < ws.size) s', J s' → wpAny (model prog w) A.in1 (eqBool us[i] ws[i]) (fun r s2 => r = true ∧ J s2) (fun x s2 => R (.error x) s2) s')
    (fin : ∀ s', J s' → R (.ok (.ret (.bool false))) s') (left : Nat) : ∀ (i : Nat) (s : Shared), us.size - i = left → J s →
      wpAny (model prog w) A.in1 (Builtin.«list.__eq__.loop» ⟨[.ref p, .ref q, rawInt i, rawInt 3], []⟩) (GQ.FinOf prog w A R) (fun x s2 => R (.error x) s2) s := by
  induction left with
  | zero =>
    intro i s hi js
    have end_ := fin s js
    obtain ⟨⟨c1, d1, data1, s1⟩, hp, e1, n1, f1⟩ := atp s js
    obtain ⟨⟨c2, d2, data2, s2⟩, hq, e2, n2, f2⟩ := atq s js
    simp only at e1 f1 e2 f2
    subst e1 f1 e2 f2
    obtain ⟨hh, g, d, tk, os⟩ := s
    wp_walk using wpAny_loadPart' hp, wpAny_loadPart' hq
    have no1 : us[((i : Nat) : Int).toNat]? = none := by
      simp
      omega
    have no2 : ws[((i : Nat) : Int).toNat]? = none := by
      simp
      omega
    rw [no1, no2]
    wp_walk using wpAny_loadPart' hp, wpAny_loadPart' hq
    show R (.ok (.ret (.bool (us.size != ws.size)))) _
    rw [same]
    simpa using end_
  | succ left ih =>
    intro i s hi js
    have k1 : i < us.size := by omega
    have k2 : i < ws.size := by omega
    have one := step i k1 k2 s js
    obtain ⟨⟨c1, d1, data1, s1⟩, hp, e1, n1, f1⟩ := atp s js
    obtain ⟨⟨c2, d2, data2, s2⟩, hq, e2, n2, f2⟩ := atq s js
    simp only at e1 f1 e2 f2
    subst e1 f1 e2 f2
    obtain ⟨hh, g, d, tk, os⟩ := s
    wp_walk using wpAny_loadPart' hp, wpAny_loadPart' hq
    have is1 : us[((i : Nat) : Int).toNat]? = some us[i] := by
      simp [k1]
    have is2 : ws[((i : Nat) : Int).toNat]? = some ws[i] := by
      simp [k2]
    rw [is1, is2]
    refine wpAny_bind (wpAny_mono one (fun r s3 hr => ?_) fun _ _ x => x)
    obtain ⟨rfl, j3⟩ := hr
    wp_walk
    rw [show ((i : Int) + 1) = ((i + 1 : Nat) : Int) by push_cast; rfl]
    refine ⟨plainId_quiet plain_eq_loop _, codeAny_builtin entry_eq_loop ?_⟩
    rw [Around.under_plainId plain_eq_loop _]
    exact ih (i + 1) s3 (by omega) j3
theorem lne_own {p q : Addr} {us ws : Array Value} {J : Shared → Prop} {s : Shared} (same : us.size = ws.size) (atp : ∀ s, J s → s.heap.IsList p us) (atq : ∀ s, J s → s.heap.IsList q ws)
    (step : ∀ i (h1 : i < us.size) (h2 : i < ws.size) s', J s' → wpAny (model prog w) A.in1 (eqBool us[i] ws[i]) (fun r s2 => r = true ∧ J s2) (fun x s2 => R (.error x) s2) s')
    (fin : ∀ s', J s' → R (.ok (.ret (.bool false))) s') (js : J s) : wpAny (model prog w) A.in1 (Builtin.«list.__ne__» ⟨[.ref p, .ref q], []⟩) (GQ.FinOf prog w A R) (fun x s2 => R (.error x) s2) s := by
  have f3 := AutoSeq1.sub_list_list
  have eqs : ¬ (us.size != ws.size) = true := by
    simp [same]
  have walk := fun s js => lne_walk (prog := prog) (w := w) (A := A) (R := R) same atp atq step fin us.size 0 s rfl js
  obtain ⟨⟨c1, d1, data1, s1⟩, hp, e1, n1, f1⟩ := atp s js
  obtain ⟨⟨c2, d2, data2, s2⟩, hq, e2, n2, f2⟩ := atq s js
  simp only at e1 f1 e2 f2
  subst e1 f1 e2 f2
  obtain ⟨hh, g, d, tk, os⟩ := s
  wp_walk using wpAny_loadPart' hp, wpAny_loadPart' hq
  refine ⟨plainId_quiet plain_eq_loop _, codeAny_builtin entry_eq_loop ?_⟩
  rw [Around.under_plainId plain_eq_loop _]
  exact walk _ js
end
section
variable {prog : Program} {w : World} {A : Around} {E : Value → Shared → Prop}
theorem rc_lstsN {p q : Addr} {us ws : Array Value} {J : Shared → Prop} {s : Shared} {Q : Value → Shared → Prop} (hu : A.units < PySem.cLine) (same : us.size = ws.size) (atp : ∀ s, J s → s.heap.IsList p us) (atq : ∀ s, J s → s.heap.IsList q ws)
    (step : ∀ i (h1 : i < us.size) (h2 : i < ws.size) s', J s' → wpAny (model prog w) A.in1 (eqBool us[i] ws[i]) (fun r s2 => r = true ∧ J s2) E s')
    (fin : ∀ s', J s' → Q (.bool false) s') (js : J s) : wpAny (model prog w) A (richCompare .NotEq (.ref p) (.ref q)) Q E s := by
  obtain ⟨o1, hp, e1, _⟩ := atp s js
  obtain ⟨o2, hq, e2, _⟩ := atq s js
  exact wpAny_richCompare_same_room (op := .NotEq) ⟨_, hp, e1⟩ ⟨_, hq, e2⟩ F.slot_list_ne (GQ.call_here F.slot_list_ne ⟨_, hp, e1⟩ F.entry_list_ne (F.args_list_ne_2 _ _)
    (lne_own (R := wants (fun v s' => v ≠ .notImplemented ∧ Q v s') E) same atp atq step (fun s' h => ⟨(fun x => nomatch x), fin s' h⟩) js)) hu
end
theorem vals_one {us ws : List Value} : ∀ {xs : List V}, (∀ x ∈ xs, ∃ c, x = V.ref c) → Vals xs us → Vals xs ws → us = ws := by
  intro xs
  induction xs generalizing us ws with
  | nil =>
    intro _ r1 r2
    cases r1
    cases r2
    rfl
  | cons x xs ih =>
    intro h r1 r2
    obtain ⟨c, rfl⟩ := h x List.mem_cons_self
    cases r1 with
    | cons a1 b1 =>
      cases r2 with
      | cons a2 b2 =>
        cases a1
        cases a2
        rw [ih (fun y hy => h y (List.mem_cons_of_mem _ hy)) b1 b2]
/-- x != y, two lists, thing by thing the same -/
def rLstNe (K : PySem.W.Frag) (D : V → V → Hp → Bool → Prop) : R2 := fun x y H Q => ∃ (p q : Addr) (xs ys : List V), x = .ref p ∧ y = .ref q ∧ SqL K H p xs ∧ SqL K H q ys ∧ xs.length = ys.length ∧ (∀ x ∈ xs, ∃ c, x = V.ref c) ∧ (∀ x ∈ ys, ∃ c, x = V.ref c) ∧
  (∀ (H' : Hp), Same H H' → ∀ (i : Nat) (a b : V), xs[i]? = some a → ys[i]? = some b → D a b H' true) ∧ ∀ H', Same H H' → Q (.bl false) H'
theorem op_lstNe {X : Cx} {D : V → V → Hp → Bool → Prop} (h : EqD (deeper X) D) (hu : X.A.units < PySem.cLine) : OpR X (compareOp .NotEq) (rLstNe X.K D) := by
  intro pins s σ H x y v u Q I rx ry hq
  obtain ⟨p, q, xs, ys, rfl, rfl, hp, hq', hl, rx1, ry1, hd, k⟩ := hq
  cases rx
  cases ry
  obtain ⟨us, r1, p1, _⟩ := I.list hp
  obtain ⟨ws, r2, p2, _⟩ := I.list hq'
  have same : us.toArray.size = ws.toArray.size := by
    rw [List.size_toArray, List.size_toArray, ← r1.length, ← r2.length, hl]
  refine rc_lstsN (J := fun s' => ∃ H', Inv X pins σ H' s' ∧ Same H H') hu same (fun s' J => ?_) (fun s' J => ?_) (fun i h1 h2 s' J => tup_turn (e := fun _ => true) h r1 r2 hd i h1 h2 s' J) (fun s' J => ?_) ⟨H, I, Same.refl _⟩
  · obtain ⟨H', I', e'⟩ := J
    obtain ⟨us', r1', p1', _⟩ := I'.list (e'.seq hp)
    rw [vals_one rx1 r1 r1']
    exact p1'.isList
  · obtain ⟨H', I', e'⟩ := J
    obtain ⟨ws', r2', p2', _⟩ := I'.list (e'.seq hq')
    rw [vals_one ry1 r2 r2']
    exact p2'.isList
  · obtain ⟨H', I', e'⟩ := J
    exact ⟨.bl false, H', I', rfl, k H' e'⟩
end Pn

namespace Pn
open PySem L2 SeqAt
open MeetsSeq MeetsSeq2 MeetsSeq3 SeqRoads2
open AutoSeq1 (wpAny_loadPart')
/-! ### a list != [] -/
section
variable {prog : Program} {w : World} {A : Around} {R : Result → Shared → Prop}
theorem lne_nil {p q : Addr} {us : Array Value} {s : Shared} (differ : us.size ≠ 0) (atp : s.heap.IsList p us) (atq : s.heap.IsList q #[])
    (fin : R (.ok (.ret (.bool true))) s) : wpAny (model prog w) A.in1 (Builtin.«list.__ne__» ⟨[.ref p, .ref q], []⟩) (GQ.FinOf prog w A R) (fun x s2 => R (.error x) s2) s := by
  have f3 := AutoSeq1.sub_list_list
  have eqs : (us.size != (#[] : Array Value).size) = true := by
    simpa using differ
  obtain ⟨⟨c1, d1, data1, s1⟩, hp, e1, n1, f1⟩ := atp
  obtain ⟨⟨c2, d2, data2, s2⟩, hq, e2, n2, f2⟩ := atq
  simp only at e1 f1 e2 f2
  subst e1 f1 e2 f2
  obtain ⟨hh, g, d, tk, os⟩ := s
  wp_walk using wpAny_loadPart' hp, wpAny_loadPart' hq
  exact fin
end
section
variable {prog : Program} {w : World} {A : Around} {E : Value → Shared → Prop}
theorem rc_lstNil {p q : Addr} {us : Array Value} {s : Shared} {Q : Value → Shared → Prop} (hu : A.units < PySem.cLine) (differ : us.size ≠ 0) (atp : s.heap.IsList p us) (atq : s.heap.IsList q #[])
    (fin : Q (.bool true) s) : wpAny (model prog w) A (richCompare .NotEq (.ref p) (.ref q)) Q E s := by
  obtain ⟨o1, hp, e1, _⟩ := id atp
  obtain ⟨o2, hq, e2, _⟩ := id atq
  exact wpAny_richCompare_same_room (op := .NotEq) ⟨_, hp, e1⟩ ⟨_, hq, e2⟩ F.slot_list_ne (GQ.call_here F.slot_list_ne ⟨_, hp, e1⟩ F.entry_list_ne (F.args_list_ne_2 _ _)
    (lne_nil (R := wants (fun v s' => v ≠ .notImplemented ∧ Q v s') E) differ atp atq ⟨(fun x => nomatch x), fin⟩)) hu
end
/-- xs != [] -/
def rNilNe (K : PySem.W.Frag) : R2 := fun x y H Q => ∃ (p q : Addr) (xs : List V), x = .ref p ∧ y = .ref q ∧ SqL K H p xs ∧ SqL K H q [] ∧ Q (.bl (!xs.isEmpty)) H
theorem op_nilNe {X : Cx} (hu : X.A.units < PySem.cLine) : OpR X (compareOp .NotEq) (rNilNe X.K) := by
  intro pins s σ H x y v u Q I rx ry h
  obtain ⟨p, q, xs, rfl, rfl, hp, hq, k⟩ := h
  cases rx
  cases ry
  obtain ⟨us, r1, p1, _⟩ := I.list hp
  obtain ⟨ws, r2, p2, _⟩ := I.list hq
  cases r2
  cases xs with
  | nil =>
    cases r1
    exact rc_lstsN (J := fun s' => s' = s) hu rfl (fun s' e => by subst e; exact p1.isList) (fun s' e => by subst e; exact p2.isList) (fun i h1 => absurd h1 (Nat.not_lt_zero _)) (fun s' e => by subst e; exact ⟨.bl false, H, I, rfl, k⟩) rfl
  | cons a xs =>
    refine rc_lstNil hu ?_ p1.isList p2.isList ⟨.bl true, H, I, rfl, k⟩
    rw [List.size_toArray, ← r1.length]
    exact Nat.succ_ne_zero _
end Pn

namespace Pn
open PySem L2 TL
section
variable {P : Program} {w : World} {K : PySem.W.Frag} {mg : Str → Option Value} {base : Heap}
/-! ### a list of anything in another order -/
def spMixedV (K : PySem.W.Frag) : Sp := fun vs H Q _ => ∃ (d g a : Addr) (ss : List V), vs = [.ref d, .ref a] ∧ DealAt H d g ∧ SqL K (hh H d g) a ss ∧ ss.length ≤ 100 ∧
  ∀ (l : Addr) (zs : List V) (H' : Hp), zs.Perm ss → DealAt H' d g → Same (hh H d g) (hh H' d g) → Mo H H' → hh H' d g l = some (.lst zs) → Q (.ref l) H'
theorem scMixedV : FnScope ["_law_deal_here", "_law_some", "_law_left", "_law_found"] ["_law_deal_here", "_law_some"] (defScope sMixed) := ⟨rfl, rfl, rfl, by decide +kernel, rfl, by decide +kernel, by decide +kernel⟩
theorem TDealC.okMixedV (T : TDealC K mg) : FnOk P w K mg base CX0 2 T.mixed.f T.mixed.fd ["_law_deal_here", "_law_some"] (spMixedV K) := by
  refine T.mixed.F.ok scMixedV (fun vs H Q E h => ?_) (fun cdv A outer s H vs Q E hr h => ?_)
  · obtain ⟨d, g, a, ss, rfl, _⟩ := h
    rfl
  · obtain ⟨d, g, a, ss, rfl, hD, hS, hl, q⟩ := h
    refine ⟨_, (pss_cons (ps_par (i := 2) (j := 3) (by rfl) scMixedV.nd rfl rfl (by decide) rfl rfl (pa_cons (pe_callTy call_list_of (by rfl) T.mLs (by decide +kernel) (pa_cons (pv 1) pa_nil)) (pa_cons (pe_lst pa_nil) pa_nil)) (by rfl))
(pss_cons (ps_while PassesOwn.never (pt_cmpR (op_nilNe hr.units0) (pv 2) (pe_lst pa_nil) (nomark _))
(pss_one (ps_expr (pe_bm PySem.F.plainAttrs_list PySem.F.slot_list_append PySem.F.type_list_append mt_append (pv 3) (pa_cons (pe_bm PySem.F.plainAttrs_list PySem.F.slot_list_pop PySem.F.type_list_pop mt_popAt (pv 2) (pa_cons (pe_call T.okDraw (hr.mono (by decide)) rfl T.draw.m T.draw.F.kp T.draw.b .nil pass0 (pa_cons (pv 0) (pa_cons (pe_callB call_len_seq (by rfl) T.mL PySem.boot_len (pa_cons (pv 2) pa_nil)) pa_nil))) pa_nil)) pa_nil)))))
(pss_one (ps_ret (pv 3))))), ?_⟩
    refine ⟨_, rfl, a, _, rfl, .inl (hh_sub.seq hS), fun L hL => ?_⟩
    refine ⟨(by show 0 ≤ sizeLine; decide), fun F hF => ?_⟩
    have n1 := hD.nd hL
    have hD1 := hD.new (o := .lst ss) hL
    have n2 := hD1.nd hF
    have hD2 := hD1.new (o := .lst []) hF
    have s2 : Same (hh H d g) (hh (upd (upd H L (.lst ss)) F (.lst [])) d g) := (hh_new hL).trans (hh_new hF)
    have m2 : Mo H (upd (upd H L (.lst ss)) F (.lst [])) := Mo.upd.trans Mo.upd
    have nLF : L ≠ F := fun z => by rw [← z, upd_same] at hF; cases hF
    have eL : (upd (upd H L (.lst ss)) F (.lst [])) L = some (.lst ss) := by rw [upd_ne nLF]; exact upd_same
    have eF : (upd (upd H L (.lst ss)) F (.lst [])) F = some (.lst []) := upd_same
    have hFn : H F = none := by rw [upd_ne nLF.symm] at hF; exact hF
    generalize upd (upd H L (.lst ss)) F (.lst []) = H2 at hD2 s2 m2 eL eF ⊢
    refine ⟨_, _, rfl, ?_⟩
    try dsimp only [List.set]
    refine ⟨fun n σ Hc => ∃ (ls fs : List V), σ = [some (.ref d), some (.ref a), some (.ref L), some (.ref F)] ∧ ls.length = n ∧ (fs ++ ls).Perm ss ∧ DealAt Hc d g ∧ Same (hh H d g) (hh Hc d g) ∧ Mo H Hc ∧ Hc L = some (.lst ls) ∧ Hc F = some (.lst fs),
      ⟨_, ss, [], rfl, rfl, .refl _, hD2, s2, m2, eL, eF⟩, fun n σ Hc hP => ?_⟩
    obtain ⟨ls, fs, rfl, hn, perm, hDc, sc, mc, hLc, hFc⟩ := hP
    have len1 : fs.length + ls.length = ss.length := by rw [← List.length_append]; exact perm.length_eq
    refine ⟨_, rfl, (by show 0 ≤ sizeLine; decide), fun p hp => ?_⟩
    have hLp := Same.new (o := .lst []) hp _ _ hLc
    refine ⟨L, p, ls, rfl, rfl, SqL.of hLp, SqL.of upd_same, _, rfl, ?_⟩
    have hDp := hDc.new (o := .lst []) hp
    have np := hDc.nd hp
    have sp := sc.trans (hh_new (o := .lst []) hp)
    have mp : Mo H (upd Hc p (.lst [])) := mc.trans Mo.upd
    have hFp := Same.new (o := .lst []) hp _ _ hFc
    generalize upd Hc p (.lst []) = Hp at hDp sp mp hLp hFp ⊢
    cases ls with
    | nil =>
      refine iteFB rfl ?_
      refine ⟨_, rfl, ?_⟩
      rw [List.append_nil] at perm
      exact q F fs Hp perm hDp sp mp (hh_get hFp n2.1 n2.2)
    | cons z0 ls0 =>
      refine iteTB rfl ?_
      have ll : (z0 :: ls0).length ≤ 100 := by omega
      refine ⟨fun σ' H' => ∃ (ls fs : List V), σ' = [some (.ref d), some (.ref a), some (.ref L), some (.ref F)] ∧ ls.length = ls0.length ∧ (fs ++ ls).Perm ss ∧ DealAt H' d g ∧ Same (hh H d g) (hh H' d g) ∧ Mo H H' ∧ H' L = some (.lst ls) ∧ H' F = some (.lst fs),
        fun σ' H' q => ⟨ls0.length, by rw [← hn]; exact Nat.lt_succ_self _, q⟩, ?_⟩
      refine ⟨_, rfl, .inl ⟨rfl, _, SqL.of hFp⟩, ?_⟩
      refine ⟨_, rfl, .inl ⟨rfl, _, SqL.of hLp⟩, ?_⟩
      refine ⟨_, rfl, _, rfl, L, _, rfl, .inl (SqL.of hLp), ?_⟩
      refine ⟨d, g, _, rfl, hDp, by simp, by omega, fun r H' r0 r1 hD' hs hm => ?_⟩
      obtain ⟨k, rfl⟩ : ∃ k : Nat, r = (k : Int) := ⟨r.toNat, by omega⟩
      have hk : k < (z0 :: ls0).length := by omega
      have hL' := hh_sub _ _ (hs _ _ (hh_get hLp n1.1 n1.2))
      have hF' := hh_sub _ _ (hs _ _ (hh_get hFp n2.1 n2.2))
      have gy : (z0 :: ls0)[k]? = some (z0 :: ls0)[k] := List.getElem?_eq_getElem hk
      refine ⟨L, _, _, k, (z0 :: ls0)[k], rfl, rfl, hL', by omega, by omega, ?sq, gy, ?_⟩
      case sq =>
        have e := PySem.StrLaws.seqIndex_nonneg (i := (k : Int)) (n := (z0 :: ls0).length) (by omega) (by omega)
        rw [Int.toNat_natCast] at e
        exact e
      refine ⟨F, _, _, rfl, rfl, by rw [upd_ne nLF.symm]; exact hF', small1000 (by omega), ?_⟩
      refine ⟨(z0 :: ls0).eraseIdx k, fs ++ [(z0 :: ls0)[k]], rfl, by rw [List.length_eraseIdx_of_lt hk]; rfl, ?_, (hD'.upd n1.1 n1.2).upd n2.1 n2.2, ?_, ?_, ?_, ?_⟩
      · refine List.Perm.trans ?_ perm
        rw [List.append_assoc]
        exact List.Perm.append_left _ (perm_erase gy)
      · intro c o e
        have e1 := hs _ _ (sp _ _ e)
        obtain ⟨c1, c2, c3⟩ := hh_ne e1
        obtain ⟨_, _, e0⟩ := hh_ne e
        exact hh_get (by rw [upd_ne (ne_of_none e0 hFn), upd_ne (ne_of_none e0 hL)]; exact c3) c1 c2
      · exact ((mp.trans hm).trans Mo.upd).trans Mo.upd
      · rw [upd_ne nLF, upd_same]
      · rw [upd_same]
end
end Pn

namespace Pn
open PySem PySem.Spec PyProof.Rows L2
/-! ### a tuple told in few letters -/
def Told (B : Nat) (d : PyData) : Prop := PyData.showable d = true ∧ PyData.hasDict d = false ∧ (PyData.shown d).length ≤ B
theorem Told.mono {B B' : Nat} {d : PyData} (h : Told B d) (l : B ≤ B') : Told B' d := ⟨h.1, h.2.1, Nat.le_trans h.2.2 l⟩
theorem tell_all {B : Nat} : ∀ ds : List PyData, (∀ e ∈ ds, Told B e) → PyData.showableAll ds = true ∧ PyData.hasDictAll ds = false ∧ ((PyData.shownAll ds).map (·.length)).sum ≤ ds.length * B
  | [], _ => by simp [PyData.showableAll, PyData.hasDictAll, PyData.shownAll]
  | d :: ds, h => by
    obtain ⟨a, b, c⟩ := tell_all ds fun e he => h e (List.mem_cons_of_mem _ he)
    obtain ⟨a1, b1, c1⟩ := h d List.mem_cons_self
    refine ⟨by simp [PyData.showableAll, a, a1], by simp [PyData.hasDictAll, b, b1], ?_⟩
    have e : (d :: ds).length * B = ds.length * B + B := by rw [List.length_cons, Nat.add_mul, Nat.one_mul]
    simp only [PyData.shownAll, List.map_cons, List.sum_cons]
    omega
theorem tell_tup {B : Nat} {ds : List PyData} (h : ∀ e ∈ ds, Told B e) : Told (ds.length * B + 2 * ds.length + 3) (.tuple ds) := by
  obtain ⟨a, b, c⟩ := tell_all ds h
  have l := tupleText_len_le (PyData.shownAll ds)
  have n := PyData.shownAll_length ds
  refine ⟨by simpa only [PyData.showable] using a, by simpa only [PyData.hasDict] using b, ?_⟩
  simp only [PyData.shown]
  omega
end Pn

namespace Pn
open PySem PySem.Spec PyProof.Rows L2
/-! ### repr of any data, where no repr is under way -/
section
variable {X : Cx} {pins : List (Addr × Obj)} {σ : L2.St} {H : Hp} {s : Shared}
mutual
theorem dp_reads (I : Inv X pins σ H s) : ∀ (d : PyData) (v : V) (u : Value), Dp X.K H v d → RelV v u → ∃ as, Reads s.heap u d as
  | .none, _, u, h, r => by
    cases h
    cases (show u = Value.none from r)
    exact ⟨_, .none⟩
  | .bool b, _, u, h, r => by
    cases h
    cases (show u = Value.bool b from r)
    exact ⟨_, .bool b⟩
  | .int i, _, u, h, r => by
    cases h
    obtain ⟨t, rfl⟩ := r
    exact ⟨_, .int i t⟩
  | .str x, _, u, h, r => by
    cases h
    obtain ⟨t, rfl⟩ := r
    exact ⟨_, .str x t⟩
  | .list ds, _, u, h, r => by
    cases h with
    | @lst a vs _ sq al =>
      cases (show u = Value.ref a from r)
      obtain ⟨its, rv, ⟨o, n, e, c, dn, dd⟩, _⟩ := I.list sq
      obtain ⟨as, ra⟩ := dpAll_reads I ds _ _ al rv
      exact ⟨_, .list e c dd (by simpa using ra)⟩
  | .tuple ds, _, u, h, r => by
    cases h with
    | @tup a vs _ sq al =>
      cases (show u = Value.ref a from r)
      obtain ⟨its, rv, ⟨o, ho, hcl, n, hd⟩, _⟩ := I.tuple sq
      obtain ⟨as, ra⟩ := dpAll_reads I ds _ _ al rv
      exact ⟨_, .tuple ho hcl hd (by simpa using ra)⟩
  | .dict _, _, _, h, _ => by cases h
theorem dpAll_reads (I : Inv X pins σ H s) : ∀ (ds : List PyData) (vs : List V) (us : List Value), DpAll X.K H vs ds → Vals vs us → ∃ as, ReadsAll s.heap us ds as
  | [], _, us, h, r => by
    cases h
    cases r
    exact ⟨_, .nil⟩
  | d :: ds, _, us, h, r => by
    cases h with
    | cons a b =>
      cases r with
      | cons r1 r2 =>
        obtain ⟨as, x⟩ := dp_reads I d _ _ a r1
        obtain ⟨bs, y⟩ := dpAll_reads I ds _ _ b r2
        exact ⟨_, .cons x y⟩
end
end
section
variable {X : Cx}
/-- data whose repr is told -/
structure Telling (d : PyData) : Prop where
  sh : PyData.showable d = true
  nd : PyData.hasDict d = false
  dp : PyData.depth d ≤ 10
  len : (PyData.shown d).length ≤ sizeLine
@[irreducible] def rReprD (K : PySem.W.Frag) : List V → Hp → VK → Prop := fun xs H Q => ∃ (a : Addr) (d : PyData), xs = [.ref a] ∧ Dp K H (.ref a) d ∧ Telling d ∧ Q (.str (PyData.shown d)) H
theorem call_reprD (hg : X.A.guards = some []) {k : Nat} (hr : Room k X.A) : CallR X (.builtin "repr") (rReprD X.K) := by
  intro pins s σ H xs us Q I r h
  unfold rReprD at h
  obtain ⟨a, d, rfl, hd, T, q⟩ := h
  obtain ⟨u, rfl, ru⟩ := r.one
  cases (show u = Value.ref a from ru)
  obtain ⟨as, rd⟩ := dp_reads I d _ _ hd (show RelV (.ref a) (Value.ref a) from rfl)
  have hu := hr.units
  have dp := T.dp
  refine repr_of_reads' (h₀ := s.heap) (d := d) (as := as) rd T.sh (fun e => by rw [T.nd] at e; cases e) hg (by omega) (fun _ _ e => e) (fun h' u tk hk => ?_) T.len
  exact ⟨.str _, H, I.kept hk, ⟨u, rfl⟩, q⟩
theorem reprD_go {K : PySem.W.Frag} {H : Hp} {a : Addr} {d : PyData} {Q : VK} (hd : Dp K H (.ref a) d) (T : Telling d) (q : Q (.str (PyData.shown d)) H) : rReprD K [.ref a] H Q := by
  unfold rReprD
  exact ⟨a, d, rfl, hd, T, q⟩
end
end Pn

namespace Pn
open PySem PySem.Spec PyProof.Rows L2 TL
/-! ### what is told of a filling: one list for one filling -/
def leS (a b : Str) : Prop := a.cps.toList ≤ b.cps.toList
theorem leS_of {a b : Str} (h : (!PySem.Spec.ltCps b.cps.toList a.cps.toList) = true) : leS a b := by
  rw [PyProof.Rows.ltCps_eq, Bool.not_eq_true', decide_eq_false_iff_not] at h
  exact h
theorem leS_anti {a b : Str} (h : leS a b) (g : leS b a) : a = b := by
  have e : a.cps.toList = b.cps.toList := List.le_antisymm h g
  cases a
  cases b
  congr 1
  exact Array.ext' e
theorem rising_pw : ∀ (p : Str) (l : List Str), PyProof.Rows.risingS p l = true → (p :: l).Pairwise leS
  | p, [], _ => List.pairwise_singleton _ _
  | p, x :: r, h => by
    have h : (!PySem.Spec.ltCps x.cps.toList p.cps.toList && PyProof.Rows.risingS x r) = true := h
    rw [Bool.and_eq_true] at h
    have ih := rising_pw x r h.2
    have h1 := leS_of h.1
    refine List.pairwise_cons.mpr ⟨fun y hy => ?_, ih⟩
    rcases List.mem_cons.mp hy with rfl | hy
    · exact h1
    · exact List.le_trans h1 ((List.pairwise_cons.mp ih).1 y hy)
theorem sorted_pw : ∀ (l : List Str), PyProof.Rows.sortedS l = true → l.Pairwise leS
  | [], _ => .nil
  | x :: r, h => rising_pw x r h
theorem sorted_one {a b l : List Str} (ha : a.Perm l) (hb : b.Perm l) (sa : PyProof.Rows.sortedS a = true) (sb : PyProof.Rows.sortedS b = true) : a = b :=
  List.Perm.eq_of_pairwise (le := leS) (fun _ _ _ _ h g => leS_anti h g) (sorted_pw a sa) (sorted_pw b sb) (ha.trans hb.symm)
/-- the names with rows, in their order, with their rows -/
def Canon (cs es : List FD) : Prop := (es.map (·.1)).Perm ((cs.filter fun c => decide (c.2 ≠ [])).map (·.1)) ∧ sortedS (es.map (·.1)) = true ∧ ∀ d ∈ es, d ∈ cs
theorem fd_one {cs : List FD} (nd : (cs.map (·.1)).Nodup) {c c' : FD} (h : c ∈ cs) (h' : c' ∈ cs) (e : c.1 = c'.1) : c = c' := by
  induction cs with
  | nil => cases h
  | cons x cs ih =>
    rw [List.map_cons, List.nodup_cons] at nd
    rcases List.mem_cons.mp h with rfl | h1
    · rcases List.mem_cons.mp h' with rfl | h2
      · rfl
      · exact absurd (e ▸ List.mem_map_of_mem (f := (·.1)) h2) nd.1
    · rcases List.mem_cons.mp h' with rfl | h2
      · exact absurd (e.symm ▸ List.mem_map_of_mem (f := (·.1)) h1) nd.1
      · exact ih nd.2 h1 h2
theorem fd_same {cs : List FD} (nd : (cs.map (·.1)).Nodup) : ∀ {es es' : List FD}, (∀ d ∈ es, d ∈ cs) → (∀ d ∈ es', d ∈ cs) → es.map (·.1) = es'.map (·.1) → es = es'
  | [], [], _, _, _ => rfl
  | [], _ :: _, _, _, h => by cases h
  | _ :: _, [], _, _, h => by cases h
  | d :: es, d' :: es', h1, h2, h => by
    rw [List.map_cons, List.map_cons, List.cons.injEq] at h
    rw [fd_one nd (h1 d List.mem_cons_self) (h2 d' List.mem_cons_self) h.1, fd_same nd (fun x hx => h1 x (List.mem_cons_of_mem _ hx)) (fun x hx => h2 x (List.mem_cons_of_mem _ hx)) h.2]
theorem canon_one {cs cs' es es' : List FD} (nd : (cs.map (·.1)).Nodup) (pm : cs'.Perm cs) (h : Canon cs es) (h' : Canon cs' es') : es = es' :=
  fd_same nd h.2.2 (fun d hd => pm.mem_iff.mp (h'.2.2 d hd)) (sorted_one h.1 (h'.1.trans ((pm.filter _).map _)) h.2.1 h'.2.1)
theorem canon_rows {cs es : List FD} (nd : (cs.map (·.1)).Nodup) (h : Canon cs es) {d : FD} (hd : d ∈ cs) : (d.2 ≠ [] → d ∈ es) ∧ (d.2 = [] → ∀ e ∈ es, e.1 ≠ d.1) ∧ ∀ e ∈ es, e.1 = d.1 → e = d := by
  refine ⟨fun z => ?_, fun z e he w => ?_, fun e he w => fd_one nd (h.2.2 e he) hd w⟩
  · have m : d.1 ∈ es.map (·.1) := h.1.mem_iff.mpr (List.mem_map_of_mem (f := (·.1)) (List.mem_filter.mpr ⟨hd, decide_eq_true z⟩))
    obtain ⟨e, he, w⟩ := List.mem_map.mp m
    rw [← fd_one nd (h.2.2 e he) hd w]
    exact he
  · have m : e.1 ∈ (cs.filter fun c => decide (c.2 ≠ [])).map (·.1) := h.1.mem_iff.mp (List.mem_map_of_mem (f := (·.1)) he)
    obtain ⟨c, hc, w2⟩ := List.mem_map.mp m
    obtain ⟨c1, c2⟩ := List.mem_filter.mp hc
    rw [fd_one nd c1 hd (w2.trans w)] at c2
    exact of_decide_eq_true c2 z
theorem canon_in {cs es : List FD} (h : Canon cs es) {e : FD} (he : e ∈ es) : ∃ c ∈ cs, c.2 ≠ [] ∧ c.1 = e.1 := by
  have m : e.1 ∈ (cs.filter fun c => decide (c.2 ≠ [])).map (·.1) := h.1.mem_iff.mp (List.mem_map_of_mem (f := (·.1)) he)
  obtain ⟨c, hc, w2⟩ := List.mem_map.mp m
  obtain ⟨c1, c2⟩ := List.mem_filter.mp hc
  exact ⟨c, c1, of_decide_eq_true c2, w2⟩
/-! ### the first row of each -/
def tk (d : FD) : FD := (d.1, d.2.take 1)
theorem tk_names (ds : List FD) : (ds.map tk).map (·.1) = ds.map (·.1) := by rw [List.map_map]; rfl
theorem take_nil {α : Type} (l : List α) : l.take 1 ≠ [] ↔ l ≠ [] := by cases l <;> simp
theorem tk_filter (cs : List FD) : ((cs.map tk).filter fun c => decide (c.2 ≠ [])).map (·.1) = (cs.filter fun c => decide (c.2 ≠ [])).map (·.1) := by
  induction cs with
  | nil => rfl
  | cons c cs ih =>
    rw [List.map_cons, List.filter_cons, List.filter_cons]
    have e : decide ((tk c).2 ≠ []) = decide (c.2 ≠ []) := decide_eq_decide.mpr (take_nil c.2)
    rw [e]
    cases h : decide (c.2 ≠ []) with
    | false => exact ih
    | true =>
      simp only [if_true, List.map_cons]
      rw [ih]
      rfl
theorem canon_tk {cs es : List FD} (h : Canon cs es) : Canon (cs.map tk) (es.map tk) :=
  ⟨by rw [tk_names, tk_filter]; exact h.1, by rw [tk_names]; exact h.2.1, fun d hd => by
    obtain ⟨c, hc, rfl⟩ := List.mem_map.mp hd
    exact List.mem_map_of_mem (h.2.2 c hc)⟩
theorem join_len (sep : Str) : ∀ l : List Str, l ≠ [] → (Str.join sep l).length + sep.length = (l.map (·.length)).sum + sep.length * l.length
  | [], h => absurd rfl h
  | [x], _ => by
    show x.length + sep.length = _
    simp
  | x :: y :: r, _ => by
    have ih := join_len sep (y :: r) (by simp)
    show (x ++ sep ++ Str.join sep (y :: r)).length + sep.length = _
    rw [strLen_append, strLen_append]
    simp only [List.map_cons, List.sum_cons, List.length_cons, Nat.mul_add, Nat.mul_one] at ih ⊢
    omega
theorem fText_tk (d : FD) : (fText (tk d)).length ≤ (fText d).length ∧ (1 < d.2.length → (fText (tk d)).length < (fText d).length) := by
  obtain ⟨z, rs⟩ := d
  unfold fText tk
  simp only [strLen_append, join_eq]
  match rs with
  | [] => exact ⟨Nat.le_refl _, fun h => by simp at h⟩
  | [r] => exact ⟨Nat.le_refl _, fun h => by simp at h⟩
  | r :: q :: l =>
    have e1 : (Str.join ", " (((r :: q :: l).take 1).map rowText)) = rowText r := rfl
    have e2 : (Str.join ", " ((r :: q :: l).map rowText)) = rowText r ++ ", " ++ Str.join ", " ((q :: l).map rowText) := rfl
    have k : (", " : Str).length = 2 := by decide +kernel
    rw [e1, e2, strLen_append, strLen_append, k]
    exact ⟨by omega, fun _ => by omega⟩
theorem fil_sums : ∀ es : List FD, (((es.map tk).map fText).map (·.length)).sum ≤ ((es.map fText).map (·.length)).sum ∧ ((∃ d ∈ es, 1 < d.2.length) → (((es.map tk).map fText).map (·.length)).sum < ((es.map fText).map (·.length)).sum)
  | [] => ⟨Nat.le_refl _, fun ⟨_, h, _⟩ => nomatch h⟩
  | d :: es => by
    obtain ⟨a, b⟩ := fil_sums es
    obtain ⟨c, e⟩ := fText_tk d
    simp only [List.map_cons, List.sum_cons]
    refine ⟨by omega, fun ⟨x, hx, hl⟩ => ?_⟩
    rcases List.mem_cons.mp hx with rfl | hx
    · have := e hl
      omega
    · have := b ⟨x, hx, hl⟩
      omega
theorem filText_tk (es : List FD) : filText (es.map tk) = filText es ↔ ∀ d ∈ es, d.2.length ≤ 1 := by
  constructor
  · intro h d hd
    rcases Nat.lt_or_ge 1 d.2.length with hl | hl
    · exfalso
      have ne : es ≠ [] := fun z => by rw [z] at hd; cases hd
      have ne2 : es.map tk ≠ [] := by simpa using ne
      have e1 : filText es = Str.join "; " (es.map fText) := (if_neg ne).trans (join_eq _ _)
      have e2 : filText (es.map tk) = Str.join "; " ((es.map tk).map fText) := (if_neg ne2).trans (join_eq _ _)
      rw [e1, e2] at h
      have l1 := join_len "; " (es.map fText) (by simpa using ne)
      have l2 := join_len "; " ((es.map tk).map fText) (by simpa using ne)
      have lt := (fil_sums es).2 ⟨d, hd, hl⟩
      rw [h] at l2
      simp only [List.length_map] at l1 l2
      omega
    · exact hl
  · intro h
    have e : es.map tk = es := by
      conv => rhs; rw [← List.map_id es]
      refine List.map_congr_left fun d hd => ?_
      obtain ⟨z, rs⟩ := d
      show (z, rs.take 1) = (z, rs)
      rw [List.take_of_length_le (h _ hd)]
    rw [e]
/-! ### drawn fillings -/
abbrev wFil : List Str := ["f", "sec", "n"]
def goodD (ds : List FD) : Prop := (ds.map (·.1)).Nodup ∧ ds.length ≤ 4 ∧ ∀ d ∈ ds, d.1 ∈ names16 ∧ d.2.length ≤ 3 ∧ ∀ r ∈ d.2, goodF wFil r
theorem wFil_ok : ∀ c ∈ wFil, nameS c = true := by decide +kernel
theorem goodF_ok {r : RowD} (h : goodF wFil r) : rowValid r ∧ fillB r = true := by
  rcases h with ⟨c, n, hc, hn, rfl⟩ | ⟨c, n, hc, h1, hn, rfl⟩
  · exact ⟨⟨wFil_ok c hc, Nat.lt_of_le_of_lt hn (by decide)⟩, rfl⟩
  · exact ⟨⟨wFil_ok c hc, h1, Nat.lt_of_le_of_lt hn (by decide)⟩, rfl⟩
theorem goodD_fil {ds es : List FD} (g : goodD ds) (h : Canon ds es) : filOk es := by
  refine ⟨?_, fun d hd => ?_⟩
  · have l := h.1.length_eq
    rw [List.length_map, List.length_map] at l
    have := List.length_filter_le (fun c : FD => decide (c.2 ≠ [])) ds
    have := g.2.1
    omega
  · obtain ⟨a, b, c⟩ := g.2.2 d (h.2.2 d hd)
    exact ⟨names16_ok.2.2 _ a, by omega, fun r hr => (goodF_ok (c r hr)).1⟩
theorem goodD_tk {ds : List FD} (g : goodD ds) : goodD (ds.map tk) := by
  refine ⟨by rw [tk_names]; exact g.1, by rw [List.length_map]; exact g.2.1, fun d hd => ?_⟩
  obtain ⟨c, hc, rfl⟩ := List.mem_map.mp hd
  obtain ⟨h1, h2, h3⟩ := g.2.2 c hc
  exact ⟨h1, by show (c.2.take 1).length ≤ 3; rw [List.length_take]; omega, fun r hr => h3 r (List.mem_of_mem_take hr)⟩
theorem goodD_perm {ds ds' : List FD} (g : goodD ds) (p : ds'.Perm ds) : goodD ds' :=
  ⟨(p.map _).nodup_iff.mpr g.1, by rw [p.length_eq]; exact g.2.1, fun d hd => g.2.2 d (p.mem_iff.mp hd)⟩
theorem odd_names {ds es : List FD} (g : goodD ds) (h : Canon ds es) {z : Str} (hz : z ∉ names16) : ∀ e ∈ es, e.1 ≠ z := fun e he w => hz (by rw [← w]; exact (g.2.2 e (h.2.2 e he)).1)
/-! ### names told by repr -/
theorem names_told {l : List Str} (hl : l.length ≤ 4) (h : ∀ z ∈ l, z ∈ names16) : Telling (.tuple (l.map PyData.str)) := by
  have one : ∀ e ∈ l.map PyData.str, PyData.showable e = true ∧ PyData.hasDict e = false ∧ (PyData.shown e).length ≤ 20 := by
    intro e he
    obtain ⟨z, hz, rfl⟩ := List.mem_map.mp he
    have q : names16.all (fun z => PyData.showable (.str z) && (!PyData.hasDict (.str z) && decide ((PyData.shown (.str z)).length ≤ 20))) = true := by decide +kernel
    have w := List.all_eq_true.mp q z (h z hz)
    rw [Bool.and_eq_true, Bool.and_eq_true] at w
    exact ⟨w.1, by simpa using w.2.1, of_decide_eq_true w.2.2⟩
  have t := tell_tup (B := 20) one
  have dp : ∀ m : List Str, PyData.depthAll (m.map PyData.str) ≤ 1 := by
    intro m
    induction m with
    | nil => simp [PyData.depthAll]
    | cons a m ih =>
      rw [List.map_cons]
      simp only [PyData.depthAll, PyData.depth]
      first | omega | skip
  refine ⟨t.1, t.2.1, by have := dp l; simp only [PyData.depth]; omega, Nat.le_trans t.2.2 ?_⟩
  rw [List.length_map]
  have : (4 * 20 + 2 * 4 + 3 : Nat) ≤ sizeLine := by decide
  omega
section
variable {K : PySem.W.Frag} {mg : Str → Option Value}
/-- a made filling -/
theorem made_fil {R : TRows K mg} (T : TFill R) {cs : List FilD} {ds : List FD} {H : Hp} {x dx tp : Addr} (hx : H x = some (insFil T.C dx (.ref tp))) (h : FilAt R H tp cs) (hd : (cs.map fun c => ((c.1, c.2.2) : FD)) = ds) (nd : (ds.map (·.1)).Nodup) : ∃ es : List FD, FilI T H x es ∧ Canon ds es := by
  subst hd
  have en : (cs.map fun c => ((c.1, c.2.2) : FD)).map (·.1) = cs.map (·.1) := by rw [List.map_map]; rfl
  rw [en] at nd
  obtain ⟨es, h1, h2, h3, h4⟩ := filI_of T hx h nd
  have ef : ((cs.map fun c => ((c.1, c.2.2) : FD)).filter fun c => decide (c.2 ≠ [])).map (·.1) = (cs.filter fun c => decide (c.2.2 ≠ [])).map (·.1) := by
    rw [List.filter_map, List.map_map]
    rfl
  have n2 : ((cs.filter fun c => decide (c.2.2 ≠ [])).map (·.1)).Nodup := nd.sublist (List.Sublist.map _ List.filter_sublist)
  refine ⟨es, h1, ?_, h3, fun d hd => ?_⟩
  · rw [ef]
    exact h2.trans ((List.perm_ext_iff_of_nodup (uniq_nodup _) n2).mpr fun q => uniq_has _ q)
  · obtain ⟨c, hc, e1, e2⟩ := h4 d hd
    exact List.mem_map.mpr ⟨c, hc, by rw [e1, e2]⟩
end
end Pn

namespace Pn
open PySem PySem.Spec PyProof.Rows L2 TL
/-! ### comprehensions over a dict, which stays as it is -/
theorem upd_frz {H : Hp} {p : Addr} {o : HO} : Same (hid H p) (upd H p o) := fun a u e => by
  rw [upd_ne (hid_ne e)]
  exact hid_sub _ _ e
theorem unlock_same {H Hi : Hp} {p : Addr} {od : Obj} {u : HO} (hp : H p = some u) (s : Same (upd H p (.frz od u)) Hi) : Same H (upd Hi p u) := fun a o e => by
  by_cases h : a = p
  · subst h
    rw [hp] at e
    cases e
    exact upd_same
  · rw [upd_ne h]
    exact s _ _ (by rw [upd_ne h]; exact e)
section
variable {K : PySem.W.Frag} {tl : TE} {g : TG} {tt : TT} {te : TE} {vs : List Nat} {σ : L2.St} {H : Hp} {Q : VK} {p : Addr} {kvs : List (Key × V)}
/-- [e for k in d if ..] -/
theorem lcw_keys (h0 : ∀ (H : Hp) (R : VK), R (.ref p) H → tl σ H R) (hp : H p = some (.dK kvs)) (hl : kvs.length ≤ 10000) {out : Nat → Option V}
    (turn : ∀ (Hf : Hp) (od : Obj), Same (hid H p) Hf → Hf p = some (.frz od (.dK kvs)) → LcTurn (kvs.map fun kv => kV kv.1) Hf g tt te vs σ out)
    (fin : ∀ (D : Addr) (H' : Hp), H D = none → Same H H' → H' D = some (.lst ((List.range kvs.length).filterMap out)) → Q (.ref D) H') : tLockE (tLc (iKeys tl) g tt te vs) σ H Q := by
  refine ⟨p, _, hp, trivial, fun od => ?_⟩
  have eH : (upd H p (.frz od (.dK kvs))) p = some (.frz od (.dK kvs)) := upd_same
  refine h0 _ _ ⟨p, od, rfl, .inl ⟨kvs, eH, fun D hD => ?_⟩⟩
  have nD : D ≠ p := fun z => by rw [z, eH] at hD; cases hD
  have hD0 : H D = none := by rw [upd_ne nD] at hD; exact hD
  refine ⟨fun i m Hi => m = kvs.length - i ∧ i ≤ kvs.length ∧ Same (upd H p (.frz od (.dK kvs))) Hi ∧ Hi D = some (.lst ((List.range i).filterMap out)), ⟨_, rfl, Nat.zero_le _, Same.new hD, upd_same⟩, ?_⟩
  rintro i m Hi ⟨rfl, hi, s, hd⟩
  by_cases lt : i < kvs.length
  · refine .inr ⟨⟨s _ _ eH, lt⟩, fun H' => Same (upd H p (.frz od (.dK kvs))) H' ∧ H' D = some (.lst ((List.range (i + 1)).filterMap out)), fun H' z => ⟨kvs.length - (i + 1), by omega, rfl, lt, z.1, z.2⟩, fun x H' y => ?_⟩
    obtain ⟨rfl, k, v, hk, rfl⟩ := y
    exact lc_keep (xs := kvs.map fun kv => kV kv.1) (by rw [List.length_map]; exact hl) (turn _ od upd_frz eH) hD i _ _ (by rw [List.getElem?_map, hk]; rfl) ⟨s, hd⟩
  · obtain rfl : i = kvs.length := by omega
    exact .inl ⟨⟨s _ _ eH, Nat.le_refl _⟩, s _ _ eH, fin D _ hD0 (unlock_same hp s) (by rw [upd_ne nD]; exact hd)⟩
/-- x = [object of it for k, v in d.items()] -/
theorem stepItems {α : Type} {R : Hp → Addr → α → Prop} {cs : List α} {n : Nat} {B : TS} {D : Ends} (C : V → Hp → Prop) (hR : ∀ {H H' : Hp} {t : Addr} {c : α}, Same H H' → R H t c → R H' t c)
    (h0 : ∀ (H : Hp) (R : VK), R (.ref p) H → tl σ H R) (hp : H p = some (.dK kvs)) (hl : kvs.length ≤ 1000) (hc : kvs.length = cs.length)
    (turn : ∀ (Hf : Hp) (od : Obj), Same (hid H p) Hf → Hf p = some (.frz od (.dK kvs)) → ∀ (i : Nat) (kv : Key × V) (T : Addr) (c : α) (Hi : Hp) (S : Hp → Prop) (Y : VK), kvs[i]? = some kv → cs[i]? = some c → Same Hf Hi → Hi T = some (.tup [kV kv.1, kv.2]) →
      (∀ t H', Same Hi H' → (∀ E ys, Hi E = some (.lst ys) → H E = none → R (hid (hid H' E) p) t c) → Y (.ref t) H') → g (.ref T) (wipe σ vs) Hi fun σ2 H2 => wipe σ2 vs = wipe σ vs ∧ tt σ2 H2 fun b H3 => if b = true then te σ2 H3 Y else S H3)
    (fin : ∀ (E : Addr) (H' : Hp) (ts : List Addr), H E = none → Same H H' → H' E = some (.lst (ts.map V.ref)) → Paired (R (hid (hid H' E) p)) ts cs → C (.ref E) H')
    (next : ∀ v H', C v H' → B D (σ.set n (some v)) H') : tSeq (tLock (tAsg (tLc (iItems tl) g tt te vs) (gName n))) B D σ H := by
  refine ⟨p, _, hp, trivial, fun od => ?_⟩
  have eH : (upd H p (.frz od (.dK kvs))) p = some (.frz od (.dK kvs)) := upd_same
  refine h0 _ _ ⟨p, od, kvs, rfl, eH, fun E hE => ?_⟩
  have nE : E ≠ p := fun z => by rw [z, eH] at hE; cases hE
  have hE0 : H E = none := by rw [upd_ne nE] at hE; exact hE
  refine ⟨fun i m Hi => m = kvs.length - i ∧ i ≤ kvs.length ∧ Same (upd H p (.frz od (.dK kvs))) Hi ∧ ∃ ts : List Addr, Hi E = some (.lst (ts.map V.ref)) ∧ ts.length ≤ i ∧ Paired (R (hid (hid Hi E) p)) ts (cs.take i), ⟨_, rfl, Nat.zero_le _, Same.new hE, [], upd_same, Nat.le_refl _, .nil⟩, ?_⟩
  rintro i m Hi ⟨rfl, hi, s, ts, hd, hn, pd⟩
  by_cases lt : i < kvs.length
  · have hc2 : cs[i]? = some cs[i] := List.getElem?_eq_getElem (by omega)
    refine .inr ⟨⟨s _ _ eH, lt⟩, fun H' => Same (upd H p (.frz od (.dK kvs))) H' ∧ ∃ ts : List Addr, H' E = some (.lst (ts.map V.ref)) ∧ ts.length ≤ i + 1 ∧ Paired (R (hid (hid H' E) p)) ts (cs.take (i + 1)), fun H' z => ⟨kvs.length - (i + 1), by omega, rfl, lt, z.1, z.2⟩, fun x H' y => ?_⟩
    obtain ⟨T, k, v, hk, rfl, hT, rfl⟩ := y
    have sT := Same.new (o := .tup [kV k, v]) hT
    refine turn _ od upd_frz eH i (k, v) T _ _ _ _ hk hc2 (s.trans sT) upd_same fun t H' s' r => ⟨_, s' _ _ (sT _ _ hd), small1000 (by rw [List.length_map]; omega), fun a o e => ?_, ts ++ [t], by rw [upd_same, List.map_append]; rfl, by rw [List.length_append]; exact Nat.add_le_add_right hn 1, ?_⟩
    · rw [upd_ne (ne_of_none e hE)]
      exact s' _ _ (sT _ _ (s _ _ e))
    · have e1 : hid (upd H' E (.lst (ts.map V.ref ++ [V.ref t]))) E = hid H' E := funext fun a => by
        unfold hid
        by_cases h : a = E
        · rw [if_pos h, if_pos h]
        · rw [if_neg h, if_neg h, upd_ne h]
      rw [e1, List.take_add_one, hc2]
      refine paired_snoc (r E _ (sT _ _ hd) hE0) (paired_mono (fun _ _ z => hR (fun a o e => ?_) z) pd)
      have n1 := hid_ne e
      have n2 := hid_ne (hid_sub _ _ e)
      exact hid_get (hid_get (s' _ _ (sT _ _ (hid_sub _ _ (hid_sub _ _ e)))) n2) n1
  · obtain rfl : i = kvs.length := by omega
    have e1 : hid (hid (upd Hi p (.dK kvs)) E) p = hid (hid Hi E) p := funext fun a => by
      unfold hid
      by_cases h : a = p
      · rw [if_pos h, if_pos h]
      · rw [if_neg h, if_neg h, upd_ne h]
    refine .inl ⟨⟨s _ _ eH, Nat.le_refl _⟩, s _ _ eH, next _ _ (fin E _ ts hE0 (unlock_same hp s) (by rw [upd_ne nE]; exact hd) ?_)⟩
    rw [e1]
    rw [hc, List.take_length] at pd
    exact pd
/-- [object of it for x in xs] -/
theorem lcw_objD {xs : List V} {α : Type} {R : Hp → Addr → α → Prop} {cs : List α} (hR : ∀ {H H' : Hp} {t : Addr} {c : α}, Same H H' → R H t c → R H' t c)
    (h0 : ∀ R : VK, R (.ref p) H → tl σ H R) (hp : SqL K H p xs) (hl : xs.length ≤ 1000) (hc : xs.length = cs.length)
    (turn : ∀ (i : Nat) (x : V) (c : α) (Hi : Hp) (S : Hp → Prop) (Y : VK), xs[i]? = some x → cs[i]? = some c → Same H Hi → (∀ t H', Same Hi H' → (∀ E ys, Hi E = some (.lst ys) → H E = none → R (hid H' E) t c) → Y (.ref t) H') →
      g x (wipe σ vs) Hi fun σ2 H2 => wipe σ2 vs = wipe σ vs ∧ tt σ2 H2 fun b H3 => if b = true then te σ2 H3 Y else S H3)
    (fin : ∀ (D : Addr) (H' : Hp) (ts : List Addr), H D = none → Same H H' → H' D = some (.lst (ts.map V.ref)) → Paired (R (hid H' D)) ts cs → Q (.ref D) H') : tLc (iList K tl) g tt te vs σ H Q := by
  refine h0 _ ⟨p, rfl, ⟨_, hp⟩, fun D hD => lc_list (xs := xs) (fun i Hi => Same H Hi ∧ ∃ ts : List Addr, Hi D = some (.lst (ts.map V.ref)) ∧ ts.length ≤ i ∧ Paired (R (hid Hi D)) ts (cs.take i)) ⟨Same.new hD, [], upd_same, Nat.le_refl _, .nil⟩ (fun _ _ _ hP => hP.1.seq hp) (fun i x Hi hx hP => ?_) (fun Hi hP => ?_)⟩
  · obtain ⟨s, ts, hd, hn, pd⟩ := hP
    have hi : i < xs.length := (List.getElem?_eq_some_iff.mp hx).1
    have hc2 : cs[i]? = some cs[i] := List.getElem?_eq_getElem (by omega)
    refine turn i x _ Hi _ _ hx hc2 s fun t H' s' r => ⟨_, s' _ _ hd, small1000 (by rw [List.length_map]; omega), (fun a o e => ?_), ts ++ [t], by rw [upd_same, List.map_append]; rfl, by rw [List.length_append]; exact Nat.add_le_add_right hn 1, ?_⟩
    · rw [upd_ne (ne_of_none e hD)]
      exact s' _ _ (s _ _ e)
    · have e1 : hid (upd H' D (.lst (ts.map V.ref ++ [V.ref t]))) D = hid H' D := funext fun a => by
        unfold hid
        by_cases h : a = D
        · rw [if_pos h, if_pos h]
        · rw [if_neg h, if_neg h, upd_ne h]
      rw [e1, List.take_add_one, hc2]
      refine paired_snoc (r D _ hd hD) (paired_mono (fun _ _ z => hR (fun a o e => ?_) z) pd)
      exact hid_get (s' _ _ (hid_sub _ _ e)) (hid_ne e)
  · obtain ⟨s, ts, hd, _, pd⟩ := hP
    rw [hc, List.take_length] at pd
    exact fin D Hi ts hD s hd pd
end
end Pn

namespace Pn
open PySem PySem.Spec PyProof.Rows L2 TL
/-! ### a dict of names and rows as tuples -/
def DRows (G : Hp) (kv : Key × V) (d : FD) : Prop := ∃ (l : Addr) (ts : List Addr), kv = (Sum.inr d.1, V.ref l) ∧ G l = some (.lst (ts.map V.ref)) ∧ Paired (fun t r => G t = some (.tup (rowTup r))) ts d.2
theorem DRows.same {G G' : Hp} {kv : Key × V} {d : FD} (h : DRows G kv d) (s : Same G G') : DRows G' kv d := by
  obtain ⟨l, ts, a, b, c⟩ := h
  exact ⟨l, ts, a, s _ _ b, paired_mono (fun _ _ z => s _ _ z) c⟩
def DictAt (H : Hp) (p : Addr) (ds : List FD) : Prop := ∃ kvs, H p = some (.dK kvs) ∧ Paired (DRows (hid H p)) kvs ds
theorem hid_up {A B : Hp} (s : Same A B) (p : Addr) : Same (hid A p) (hid B p) := fun _ _ e => hid_get (s _ _ (hid_sub _ _ e)) (hid_ne e)
theorem DictAt.same {H H' : Hp} {p : Addr} {ds : List FD} (h : DictAt H p ds) (s : Same H H') : DictAt H' p ds := by
  obtain ⟨kvs, a, b⟩ := h
  exact ⟨kvs, s _ _ a, paired_mono (fun _ _ z => z.same (hid_up s p)) b⟩
theorem val_at {G : Hp} : ∀ {kvs : List (Key × V)} {ds : List FD}, Paired (DRows G) kvs ds → (ds.map (·.1)).Nodup → ∀ d ∈ ds, ∃ (l : Addr) (ts : List Addr), valV kvs (.inr d.1) = some (.ref l) ∧ G l = some (.lst (ts.map V.ref)) ∧ Paired (fun t r => G t = some (.tup (rowTup r))) ts d.2
  | _, _, .nil, _, _, h => nomatch h
  | _, _, @Paired.cons _ _ _ kv d0 kvs ds a b, nd, d, h => by
    rw [List.map_cons, List.nodup_cons] at nd
    obtain ⟨l, ts, rfl, h1, h2⟩ := a
    rcases List.mem_cons.mp h with rfl | h
    · exact ⟨l, ts, valV_pos rfl, h1, h2⟩
    · obtain ⟨l', ts', g1, g2, g3⟩ := val_at b nd.2 d h
      refine ⟨l', ts', ?_, g2, g3⟩
      rw [valV_neg fun z => ?_]
      · exact g1
      · have z2 : d0.1 = d.1 := by injection z
        exact nd.1 (by rw [z2]; exact List.mem_map_of_mem (f := (·.1)) h)
/-- what a name finds in the dict, while it is locked or not -/
theorem dict_get {H Hi : Hp} {p : Addr} {kvs : List (Key × V)} {ds : List FD} (hk : Rd Hi p (.dK kvs)) (h : Paired (DRows (hid H p)) kvs ds) (s : Same (hid H p) Hi) (nd : (ds.map (·.1)).Nodup) {d : FD} (hd : d ∈ ds) :
    ∃ (l : Addr) (ts : List Addr), DGet Hi p (.str d.1) (some (.ref l)) ∧ Hi l = some (.lst (ts.map V.ref)) ∧ Paired (fun t r => Hi t = some (.tup (rowTup r))) ts d.2 := by
  obtain ⟨l, ts, a, b, c⟩ := val_at h nd d hd
  exact ⟨l, ts, .inl ⟨kvs, .inr d.1, hk, rfl, a.symm⟩, s _ _ b, paired_mono (fun _ _ z => s _ _ z) c⟩
theorem due_out (ds : List FD) : (List.range ds.length).filterMap (fun i => (ds[i]?).bind fun d => if d.2 = [] then none else some (V.str d.1)) = ((ds.filter fun c => decide (c.2 ≠ [])).map (·.1)).map V.str := by
  rw [out_filter]
  induction ds with
  | nil => rfl
  | cons c cs ih =>
    by_cases h : c.2 = []
    · rw [List.filterMap_cons, List.filter_cons]
      simp only [h, if_true, ne_eq, not_true, decide_false, Bool.false_eq_true, if_false]
      exact ih
    · rw [List.filterMap_cons, List.filter_cons]
      simp only [h, if_false, ne_eq, not_false_iff, decide_true, if_true, List.map_cons]
      rw [ih]
theorem canon_of {ds : List FD} {ys : List Str} (p : ys.Perm ((ds.filter fun c => decide (c.2 ≠ [])).map (·.1))) (s : sortedS ys = true) : ∃ es, Canon ds es ∧ es.map (·.1) = ys := by
  have go : ∀ ys : List Str, (∀ y ∈ ys, ∃ d ∈ ds, d.1 = y) → ∃ es : List FD, es.map (·.1) = ys ∧ ∀ e ∈ es, e ∈ ds := by
    intro ys
    induction ys with
    | nil => exact fun _ => ⟨[], rfl, fun _ z => nomatch z⟩
    | cons y ys ih =>
      intro h
      obtain ⟨es, a, b⟩ := ih fun x hx => h x (List.mem_cons_of_mem _ hx)
      obtain ⟨d, hd, rfl⟩ := h y List.mem_cons_self
      exact ⟨d :: es, by rw [List.map_cons, a], fun e he => by
        rcases List.mem_cons.mp he with rfl | he
        · exact hd
        · exact b e he⟩
  obtain ⟨es, a, b⟩ := go ys fun y hy => by
    obtain ⟨d, hd, e⟩ := List.mem_map.mp (p.mem_iff.mp hy)
    exact ⟨d, (List.mem_filter.mp hd).1, e⟩
  exact ⟨es, ⟨by rw [a]; exact p, by rw [a]; exact s, b⟩, a⟩
theorem due_few {ds : List FD} (g : goodD ds) : ((ds.filter fun c => decide (c.2 ≠ [])).map (·.1)).length ≤ 4 := by
  rw [List.length_map]
  exact Nat.le_trans (List.length_filter_le _ _) g.2.1
/-! ### the words of a row that can stand in a filling -/
theorem word_all {r : RowD} (h : goodF wFil r) : (rowTup r).filterMap wOf = rowWords r ∧ ∀ v ∈ rowTup r, (∃ z : Str, v = .str z ∧ wOf v = some z) ∨ ∃ n : Nat, v = .int (n : Int) ∧ n < 10 ^ 10 ∧ wOf v = some (Str.ofString (toString (n : Int))) := by
  have hv := (goodF_ok h).1
  refine ⟨words_of hv, ?_⟩
  rcases h with ⟨c, n, hc, hn, rfl⟩ | ⟨c, n, hc, h1, hn, rfl⟩
  · intro v hm
    have e0 : wOf (.str "set") = some "set" := by decide +kernel
    have ec : wOf (.str c) = some c := if_neg (name_ne (wFil_ok c hc))
    rcases List.mem_cons.mp (show v ∈ ([.str "set", .str c, .int (n : Int)] : List V) from hm) with rfl | hm
    · exact .inl ⟨_, rfl, e0⟩
    · rcases List.mem_cons.mp hm with rfl | hm
      · exact .inl ⟨_, rfl, ec⟩
      · rw [List.mem_singleton.mp hm]
        exact .inr ⟨n, rfl, Nat.lt_of_le_of_lt hn (by decide), rfl⟩
  · intro v hm
    have e0 : wOf (.str "skip") = some "skip" := by decide +kernel
    have ec : wOf (.str c) = some c := if_neg (name_ne (wFil_ok c hc))
    rcases List.mem_cons.mp (show v ∈ ([.str "skip", .str c, .int (n : Int)] : List V) from hm) with rfl | hm
    · exact .inl ⟨_, rfl, e0⟩
    · rcases List.mem_cons.mp hm with rfl | hm
      · exact .inl ⟨_, rfl, ec⟩
      · rw [List.mem_singleton.mp hm]
        exact .inr ⟨n, rfl, Nat.lt_of_le_of_lt hn (by decide), rfl⟩
section
variable {K : PySem.W.Frag}
/-- sorted([str(x) for x in d if d[x] != []]) -/
theorem due_go {k j : Nat} {vs : List Nat} {σ : L2.St} {H : Hp} {p : Addr} {ds : List FD} {Q : VK} (hσ : σ[k]? = some (some (.ref p))) (hk : ∀ y, ((wipe σ vs).set j (some y))[k]? = some (some (.ref p))) (hj : ∀ y, ((wipe σ vs).set j (some y))[j]? = some (some y))
    (hw : ∀ y, wipe ((wipe σ vs).set j (some y)) vs = wipe σ vs) (hd : DictAt H p ds) (gd : goodD ds) (q : ∀ (es : List FD) (a : Addr) (H' : Hp), Canon ds es → Same H H' → H a = none → H' a = some (.lst ((es.map (·.1)).map V.str)) → Q (.ref a) H') :
    tCB (rSortedS K) (tCons (tLockE (tLc (iKeys (tVar k)) (gName j) (tTest (tOp (rNilNe K) (tDGet (tVar k) (tVar j)) (tLst tNil))) (tCB rStrF (tCons (tVar j) tNil)) vs)) tNil) σ H Q := by
  obtain ⟨kvs, hp, hkd⟩ := hd
  have hkl : kvs.length = ds.length := paired_len hkd
  have h4 := gd.2.1
  dsimp only [tCB, tCons, tNil]
  refine lcw_keys (out := fun i => (ds[i]?).bind fun d => if d.2 = [] then none else some (V.str d.1)) (fun H R z => ⟨_, hσ, z⟩) hp (by omega) (fun Hf od sf hf m y Hi S Y hy sI h0 h1 => ?tn) (fun D H' hD sD hDl => ?fn)
  case tn =>
    rw [List.getElem?_map] at hy
    obtain ⟨kv, hkv, rfl⟩ := Option.map_eq_some_iff.mp hy
    obtain ⟨d, hdm, l0, ts0, rfl, _⟩ := paired_at hkd hkv
    have hdi := List.mem_of_getElem? hdm
    obtain ⟨l, ts, g1, g2, g3⟩ := dict_get (.inr ⟨od, sI _ _ hf⟩) hkd (Same.trans sf sI) gd.1 hdi
    have lt := paired_len g3
    have oc : (fun i => (ds[i]?).bind fun d : FD => if d.2 = [] then none else some (V.str d.1)) m = if d.2 = [] then none else some (V.str d.1) := by
      show (ds[m]?).bind _ = _
      rw [hdm]
      rfl
    refine ⟨hw _, _, hk _, _, hj _, p, .ref l, rfl, g1, Nat.zero_le _, fun e he => ?_⟩
    have se := Same.new (o := .lst []) he
    refine ⟨l, e, ts.map V.ref, rfl, rfl, SqL.of (se _ _ g2), SqL.of upd_same, _, rfl, ?_⟩
    by_cases hz : d.2 = []
    · rw [if_pos hz] at oc
      rw [hz] at lt
      have tz : ts = [] := List.eq_nil_of_length_eq_zero (by simpa using lt)
      refine iteFB (by rw [tz]; rfl) ?_
      exact h0 oc _ se
    · rw [if_neg hz] at oc
      have tz : ts ≠ [] := fun z => hz (List.eq_nil_of_length_eq_zero (by rw [← lt, z]; rfl))
      refine iteTB (by cases ts with | nil => exact absurd rfl tz | cons => rfl) ?_
      exact ⟨_, hj _, .inl ⟨_, rfl, h1 _ oc _ se⟩⟩
  case fn =>
    rw [hkl, due_out] at hDl
    have few := due_few gd
    refine ⟨D, _, rfl, SqL.of hDl, by omega, fun ys a perm sorted ha => ?_⟩
    obtain ⟨es, hc, rfl⟩ := canon_of perm sorted
    exact q es a _ hc (sD.trans (Same.new ha)) (sD.free ha) upd_same
end
end Pn

namespace Pn
open PySem PySem.Spec PyProof.Rows L2 TL
abbrev sFilT : Stmt := top 37
abbrev sLaw17 : Stmt := top 38
theorem passX0 {P : Program} {w : World} {X : Cx} : Passes (L2.CX P w) X E0 := fun _ _ _ _ _ _ _ ⟨_, _, _, _, _, _, _, _, _, _, _, _, h⟩ => h.elim
section
variable {P : Program} {w : World} {K : PySem.W.Frag} {mg : Str → Option Value} {base : Heap}
structure TK17 (K : PySem.W.Frag) (mg : Str → Option Value) : Type where
  R : TRows K mg
  F : TFill R
  M : TFilM F
  E : TFilE M
  S : TSame R
  D : TDealC K mg
  mR : mg "range" = none
  mRepr : mg "repr" = none
  nF : PySem.W.notFirst K F.C (.ref F.C) = true
  neF : PySem.W.findIn K (.ref F.C) "__ne__" = some (some (.builtin "object.__ne__"))
  subS : PySem.W.subIn K (.ref F.C) (.type "str") = some false
  subN : PySem.W.subIn K (.ref F.C) (.type "NoneType") = some false
  subT : PySem.W.subIn K (.ref F.C) (.type "tuple") = some false
  dB : TupB K F.dP
  dF : List Value
  vF : Vals [V.ref F.dP] dF
  bF : Binds K F.fdI ["self", "parts"] dF
  made : At K mg "_law_row_of" sRowOf ["_law_row"]
  drawn : At K mg "_law_rows_drawn" sDrawn ["_law_deal_here", "_law_words", "_law_many"]
  text : At K mg "_law_filling_text" sFilT ["_law_filling"]
def tJoin (K : PySem.W.Frag) (to te : TE) : TE := tM1 (fun x xs H Q => ∃ a p, ∃ ys : List Str, x = .str a ∧ xs = [.ref p] ∧ (SqL K H p (ys.map V.str) ∨ SqT K H p (ys.map V.str)) ∧ (ys.map (·.length)).sum + ys.length * a.length ≤ 16777216 ∧ Q (.str (Txt.join a ys)) H) to te
theorem pe_joinK {X : Cx} {o e : Expr} {to te : TE} {apos pos : Pos} (hK : X.K = K) (ho : PE X o to) (he : PE X e te) (hs : starEach [e] X.env = [(false, eval e X.env)] := by rfl) (hbase : attributeBase o "join" X.env (eval o X.env) = eval o X.env := by rfl) (hline : (apos.endLine == pos.line) = true := by rfl) :
    PE X (.Call (.Attribute o "join" apos) [e] [] pos) (tJoin K to te) := by
  subst hK
  exact pe_join ho he hs hbase hline
def spFilT : Sp := fun vs H Q _ => ∃ (p : Addr) (ds : List FD), vs = [.ref p] ∧ DictAt H p ds ∧ goodD ds ∧ ∀ es H', Canon ds es → Same H H' → Q (.str (filText es)) H'
theorem scFilT : FnScope ["_law_filling", "_law_told", "_law_name", "_law_one", "_law_row", "_law_word"] ["_law_filling"] (defScope sFilT) := ⟨rfl, rfl, rfl, by decide +kernel, rfl, by decide +kernel, by decide +kernel⟩
theorem ok_filT (T : TK17 K mg) : FnOk P w K mg base CX0 2 T.text.f T.text.fd ["_law_filling"] spFilT := by
  refine T.text.F.ok scFilT (fun vs H Q E h => ?_) (fun cdv A outer s H vs Q E hr h => ?_)
  · obtain ⟨p, ds, rfl, _⟩ := h
    rfl
  · obtain ⟨p, ds, rfl, ⟨kvs, hp, hkd⟩, gd, q⟩ := h
    refine ⟨_, (pss_cons (ps_set (i := 1) scFilT.nd rfl (Or.inl rfl) (pe_lst pa_nil))
(pss_cons (ps_for PassesOwn.never rfl (pi_list (pe_callB (show CallR _ (.builtin "sorted") (rSortedS K) from cr_sortedS) (by rfl) T.F.mSorted (by decide +kernel) (pa_cons (pe_lock (pe_lc (own := [("_law_one", 3)]) (g := gName 3) (by rfl) scFilT.nd (pi_keys (pv 0))
 (blkOk_by (N := ["_law_filling", "_law_told", "_law_name", "_law_one", "_law_row", "_law_word"]) (sc := defScope sFilT) (by decide +kernel)) (fun _ _ _ _ _ => (pg_name (i := 3) scFilT.nd rfl (Or.inl rfl))) (fun _ _ _ _ _ => pts_one (pt_cmpR (show OpR _ (compareOp .NotEq) (rNilNe K) from op_nilNe hr.units0) (pe_dget (roomV hr) (pv 0) (pv 3) (fun _ _ => rfl)) (pe_lst pa_nil) (nomark _))) (fun _ _ _ _ _ => (pe_callTy (show CallR _ (.type "str") rStrF from call_strF) (by rfl) T.R.N.mStr (by decide +kernel) (pa_cons (pv 3) pa_nil))))) pa_nil))) (pg_name (i := 2) scFilT.nd rfl (Or.inl rfl))
(pss_one (ps_expr (pe_bm PySem.F.plainAttrs_list PySem.F.slot_list_append PySem.F.type_list_append mt_append (pv 1) (pa_cons (pe_op op_add_str (pe_op op_add_str (pv 2) pe_str) (pe_join pe_str (pe_lc (own := [("_law_row", 4)]) (g := gName 4) (tt := tYes) (by rfl) scFilT.nd (pi_list (pe_dget (roomV hr) (pv 0) (pv 2) (fun _ _ => rfl)))
 (blkOk_by (N := ["_law_filling", "_law_told", "_law_name", "_law_one", "_law_row", "_law_word"]) (sc := defScope sFilT) (by decide +kernel)) (fun _ _ _ _ _ => (pg_name (i := 4) scFilT.nd rfl (Or.inl rfl))) (fun _ _ _ _ _ => pts_nil) (fun _ _ _ _ _ => (pe_joinK (K := K) rfl pe_str (pe_lc (own := [("_law_word", 5)]) (g := gName 5) (tt := tYes) (by rfl) scFilT.nd (show PI _ _ _ (iTup K (tVar 4)) from pi_tup (pv 4))
 (blkOk_by (N := ["_law_filling", "_law_told", "_law_name", "_law_one", "_law_row", "_law_word"]) (by kernel_rfl)) (fun _ _ _ _ _ => (pg_name (i := 5) scFilT.nd rfl (Or.inl rfl))) (fun _ _ _ _ _ => pts_nil) (fun _ _ _ _ _ => (pe_callTy (show CallR _ (.type "str") rStrF from call_strF) (by rfl) T.R.N.mStr (by decide +kernel) (pa_cons (pv 5) pa_nil))))))))) pa_nil)))))
(pss_one (ps_ret (pe_ifExp (pt_cmpR (show OpR _ (compareOp .NotEq) (rNilNe K) from op_nilNe hr.units0) (pv 1) (pe_lst pa_nil) (nomark _)) (pe_join pe_str (pv 1)) pe_str))))), ?_⟩
    have hkl : kvs.length = ds.length := paired_len hkd
    refine ⟨Nat.zero_le _, fun D1 hD1 => ?_⟩
    have s1 := Same.new (o := .lst []) hD1
    have e1 : (upd H D1 (.lst [])) D1 = some (.lst []) := upd_same
    have hd1 : DictAt (upd H D1 (.lst [])) p ds := DictAt.same ⟨kvs, hp, hkd⟩ s1
    generalize upd H D1 (.lst []) = H1 at s1 e1 hd1 ⊢
    refine due_go (K := K) (k := 0) (j := 3) (ds := ds) rfl (fun _ => rfl) (fun _ => rfl) (fun _ => rfl) hd1 gd (fun es a H2 hc s2 ha0 ha => ?_)
    have nD : a ≠ D1 := fun z => by rw [z, e1] at ha0; cases ha0
    have e2 := s2 _ _ e1
    have fo := goodD_fil gd hc
    have fs := fil_sum fo.2
    have s02 := Same.trans s1 s2
    have eil : es.length ≤ 4 := by
      have l := hc.1.length_eq
      have := due_few gd
      rw [List.length_map] at l
      omega
    refine ⟨a, rfl, ⟨_, SqL.of ha⟩, for_list (xs := (es.map (·.1)).map V.str) (fun i σ Hx => ∃ y2 y3 y4 y5, σ = [some (.ref p), some (.ref D1), y2, y3, y4, y5] ∧ Same H Hx ∧ Hx a = some (.lst ((es.map (·.1)).map V.str)) ∧ Hx D1 = some (.lst (((es.take i).map fText).map V.str)))
      ⟨_, _, _, _, rfl, s02, ha, e2⟩ (fun i σ Hx _ hP => by obtain ⟨_, _, _, _, _, _, h, _⟩ := hP; exact SqL.of h) (fun i y σ Hx hy hP => ?turn) (fun σ Hx hP => ?fin)⟩
    case fin =>
      obtain ⟨y2, y3, y4, y5, rfl, sx, hax, hx⟩ := hP
      rw [List.take_of_length_le (by simp)] at hx
      refine ⟨_, rfl, Nat.zero_le _, fun e he => ?_⟩
      have se := Same.new (o := .lst []) he
      refine ⟨D1, e, _, rfl, rfl, SqL.of (se _ _ hx), SqL.of upd_same, _, rfl, ?_⟩
      by_cases hz : es = []
      · refine iteFB (by rw [hz]; rfl) ?_
        have ef : filText es = "-" := if_pos hz
        have k := q es _ hc (Same.trans sx se)
        rw [ef] at k
        exact k
      · refine iteTB (by cases es with | nil => exact absurd rfl hz | cons => rfl) ?_
        refine ⟨⟨_, rfl⟩, _, rfl, "; ", D1, es.map fText, rfl, rfl, .inl (SqL.of (se _ _ hx)), ?_, ?_⟩
        · rw [List.length_map, show ("; " : Str).length = 2 by decide +kernel]
          omega
        · have ef : filText es = Txt.join "; " (es.map fText) := if_neg hz
          rw [← ef]
          exact q es _ hc (Same.trans sx se)
    case turn =>
      obtain ⟨y2, y3, y4, y5, rfl, sx, hax, hx⟩ := hP
      rw [List.map_map, List.getElem?_map] at hy
      obtain ⟨d, hdi, hyd⟩ := Option.map_eq_some_iff.mp hy
      obtain rfl : V.str d.1 = y := hyd
      have hde := List.mem_of_getElem? hdi
      have hdd := hc.2.2 d hde
      obtain ⟨o1, o2, o3⟩ := fo.2 d hde
      obtain ⟨n1, n2, n3⟩ := gd.2.2 d hdd
      have hdx := DictAt.same ⟨kvs, hp, hkd⟩ sx
      obtain ⟨kv2, hp2, hkd2⟩ := hdx
      obtain ⟨l, ts, g1, g2, g3⟩ := dict_get (.inl hp2) hkd2 hid_sub gd.1 hdd
      have lt := paired_len g3
      have zl := (name_ok o1).2
      have h63 := rows_len o3
      have jl : (Txt.join ", " (d.2.map rowText)).length ≤ 7000 := by
        have e : Txt.join ", " (d.2.map rowText) = Str.join ", " (d.2.map rowText) := join_eq _ _
        have := StrLaws.join_length_le ", " (d.2.map rowText)
        rw [e]
        rw [List.length_map, show (", " : Str).length = 2 by decide +kernel] at this
        omega
      try dsimp only [List.set]
      refine ⟨_, rfl, .inl ⟨rfl, _, SqL.of hx⟩, ?_⟩
      refine ⟨_, rfl, _, _, rfl, rfl, ?l1, ?_⟩
      case l1 =>
        rw [show (": " : Str).length = 2 by decide +kernel]
        exact Nat.le_trans (Nat.add_le_add_right zl _) (by decide)
      refine ⟨⟨_, rfl⟩, ?_⟩
      refine lcw_list (K := K) (tl := tDGet (tVar 0) (tVar 2)) (p := l) (xs := ts.map V.ref) (out := fun i => (d.2[i]?).map fun r => V.str (rowText r)) ?h0 (SqL.of g2) (by rw [List.length_map, lt]; omega) ?tn ?fn
      case h0 => exact fun R z => ⟨_, rfl, _, rfl, p, .ref l, rfl, g1, z⟩
      case tn =>
        intro m y Hi S' Y hy sI h0 h1
        rw [List.getElem?_map] at hy
        obtain ⟨u, hu, rfl⟩ := Option.map_eq_some_iff.mp hy
        obtain ⟨r, hr2, hrow⟩ := paired_at g3 hu
        have hrm := List.mem_of_getElem? hr2
        have hg := n3 r hrm
        obtain ⟨w1, w2⟩ := word_all hg
        have hws := words_small (goodF_ok hg).1
        obtain ⟨hl3, _⟩ := tup_items (goodF_ok hg).1
        refine ⟨rfl, ⟨_, rfl⟩, ?_⟩
        refine lcw_tup (K := K) (tl := tVar 4) (p := u) (xs := rowTup r) (out := fun i => ((rowTup r)[i]?).bind fun v => (wOf v).map V.str) ?h0i (SqT.of (sI _ _ hrow)) (by omega) ?tni ?fni
        case h0i => exact fun R z => ⟨_, rfl, z⟩
        case tni =>
          intro m2 y2 Hj S2 Y2 hy2 sJ k0 k1
          have oc : ∀ z, wOf y2 = some z → (fun i => ((rowTup r)[i]?).bind fun v => (wOf v).map V.str) m2 = some (V.str z) := fun z hz => by
            show ((rowTup r)[m2]?).bind _ = _
            rw [hy2]
            show (wOf y2).map V.str = _
            rw [hz]
            rfl
          rcases w2 y2 (List.mem_of_getElem? hy2) with ⟨z, rfl, hz⟩ | ⟨n, rfl, hn, hz⟩
          · exact ⟨rfl, _, rfl, .inl ⟨z, rfl, k1 _ (oc z hz) _ (Same.refl _)⟩⟩
          · exact ⟨rfl, _, rfl, .inr ⟨n, rfl, log_small (Nat.lt_trans hn (by decide)), k1 _ (oc _ hz) _ (Same.refl _)⟩⟩
        case fni =>
          intro D2 H' hD2 sD2 hDl2
          have eo : (List.range (rowTup r).length).filterMap (fun i => ((rowTup r)[i]?).bind fun v => (wOf v).map V.str) = (rowWords r).map V.str := by
            rw [out_filter, ← w1, List.map_filterMap]
          rw [eo] at hDl2
          refine ⟨" ", D2, rowWords r, rfl, rfl, .inl (SqL.of hDl2), ?_, h1 _ (by show Option.map (fun r => V.str (rowText r)) d.2[m]? = _; rw [hr2]; rfl) _ sD2⟩
          have hs : ∀ l : List Str, (∀ x ∈ l, x.length ≤ 20) → (l.map (·.length)).sum ≤ 20 * l.length := by
            intro l
            induction l with
            | nil => intro _; exact Nat.le_refl _
            | cons a l ih =>
              intro h
              have q1 := ih fun x hx => h x (List.mem_cons_of_mem _ hx)
              have q2 := h a List.mem_cons_self
              rw [List.map_cons, List.sum_cons, List.length_cons]
              omega
          have h1 := hs (rowWords r) fun x hx => (hws.2.2 x hx).1
          have h2 : (" " : Str).length = 1 := by decide +kernel
          rw [h2]
          have := hws.1
          omega
      case fn =>
        intro D2 H' hD2 sD2 hDl2
        have eo : (List.range (ts.map V.ref).length).filterMap (fun i => (d.2[i]?).map fun r => V.str (rowText r)) = (d.2.map rowText).map V.str := by
          rw [List.length_map, lt, List.map_map]
          exact out_map (l := d.2) (f := fun r => V.str (rowText r))
        rw [eo] at hDl2
        refine ⟨", ", D2, d.2.map rowText, rfl, rfl, .inl (SqL.of hDl2), ?_, ?_⟩
        · rw [List.length_map, show (", " : Str).length = 2 by decide +kernel]
          omega
        have ez : Str.empty ++ d.1 = d.1 := by
          apply ext_tl
          rw [tl_append]
          rfl
        have ef : d.1 ++ (": " : Str) ++ Txt.join ", " (d.2.map rowText) = fText d := by
          unfold fText
          rw [ez]
        refine ⟨_, _, rfl, rfl, ?l2, ?_⟩
        case l2 =>
          rw [strLen_append, show (": " : Str).length = 2 by decide +kernel]
          exact Nat.le_trans (Nat.add_le_add (Nat.add_le_add_right zl _) jl) (by decide +kernel)
        rw [ef]
        refine ⟨D1, _, _, rfl, rfl, sD2 _ _ hx, small1000 (by rw [List.length_map, List.length_map, List.length_take]; omega), _, _, _, _, rfl, fun c u e => ?_, ?_, ?_⟩
        · rw [upd_ne (ne_of_none e hD1)]
          exact sD2 _ _ (sx _ _ e)
        · rw [upd_ne nD]
          exact sD2 _ _ hax
        · rw [upd_same, List.take_add_one, hdi, List.map_append, List.map_append]
          rfl
end
end Pn

namespace Pn
open PySem PySem.W PyProof.Rows
/-! ### an own instance in a tuple of other things -/
section
variable {prog : Program} {w : World} {A : Around} {E : Value → Shared → Prop} {s : Shared} {K : Frag} {x C L f : Addr} {h₀ : Heap} {m : Str → Option Value} {ox : Obj} {od : Option Obj}
theorem rc_eq_own {y : Value} {T id : String} {Q : Value → Shared → Prop} (hT : s.TypeIs y T) (F : Fr h₀ L s.heap m) (X₀ : K.In h₀) (I : InstAt s.heap x ox C od) (hsub : subIn K (.ref C) (.type T) = some false) (slot : Slot T "__eq__" id)
    (hc1 : ∀ Q' : Value → Shared → Prop, Q' .notImplemented s → wpAny (model prog w) A (call (.builtin id) [y, .ref x]) Q' E s) (hs : findIn K (.ref C) "__eq__" = some (some (.ref f))) (hf : isFn K (.ref f) = true) (hu : A.units < cLine)
    (h : wpAny (model prog w) A (call (.ref f) [.ref x, y]) (W.CmpBack Q) E s) : wpAny (model prog w) A (richCompare .Eq y (.ref x)) Q E s := by
  have X := X₀.keeps F.keep
  have one : wpAny (model prog w) A (tryCompare (.ref x) (cmpInfo .Eq).2.2 y) (fun r s' => ∃ v, r = some v ∧ Q v s') E s := by
    unfold tryCompare
    refine wpAny_bind (ifBound_K X I hs hf (wpAny_mono h (fun v s' hv => ?_) fun _ _ e => e))
    cases v <;> first | exact hv.elim | exact wpAny_pure ⟨_, rfl, hv⟩
  unfold richCompare
  simp only [hT.oneThing_none]
  refine wpAny_holding ?_
  refine wpAny_bind (wpAny_cRoomFor hu ?_)
  refine wpAny_bind (wpAny_typeOf hT (wpAny_bind (I.type.here ?_)))
  rw [if_pos (show (Value.type T != Value.ref C) = true by rfl)]
  refine wpAny_bind ((looks_subIn X hsub).here ?_)
  simp only [Bool.false_eq_true, if_false]
  refine wpAny_bind (m := tryCompare y _ (.ref x)) (wpAny_tryCompare_declines hT slot (hc1 _ ⟨rfl, ?_⟩))
  simp only [Bool.not_false, if_true]
  refine wpAny_bind (wpAny_mono one (fun r s' z => ?_) fun _ _ e => e)
  obtain ⟨v, rfl, hq⟩ := z
  exact wpAny_pure hq
theorem eqb_own {y : Value} {T id : String} {Q : Bool → Shared → Prop} (hne : (y == Value.ref x) = false) (hT : s.TypeIs y T) (F : Fr h₀ L s.heap m) (X₀ : K.In h₀) (I : InstAt s.heap x ox C od) (hsub : subIn K (.ref C) (.type T) = some false) (slot : Slot T "__eq__" id)
    (hc1 : ∀ Q' : Value → Shared → Prop, Q' .notImplemented s → wpAny (model prog w) A (call (.builtin id) [y, .ref x]) Q' E s) (hs : findIn K (.ref C) "__eq__" = some (some (.ref f))) (hf : isFn K (.ref f) = true) (hu : A.units < cLine)
    (h : wpAny (model prog w) A (call (.ref f) [.ref x, y]) (fun v s' => ∃ b, v = .bool b ∧ Q b s') E s) : wpAny (model prog w) A (eqBool y (.ref x)) Q E s := by
  unfold eqBool
  refine wpAny_holding ?_
  rw [if_neg (by rw [hne]; exact Bool.false_ne_true)]
  have go : wpAny (model prog w) A (richCompare .Eq y (.ref x) >>= truthOfDropped) Q E s := by
    refine wpAny_bind (rc_eq_own hT F X₀ I hsub slot hc1 hs hf hu (wpAny_mono h (fun v s' z => ?_) fun _ _ e => e))
    obtain ⟨b, rfl, hq⟩ := z
    exact wpAny_truthy_bool hq
  show wpAny _ _ (match (y, Value.ref x) with
    | (Value.float bits tok, Value.float bits_1 tok_1) => (do
      if ← isSame y (Value.ref x) then return true
      truthOfDropped (← richCompare CmpOp.Eq y (Value.ref x)))
    | x_1 => (do truthOfDropped (← richCompare CmpOp.Eq y (Value.ref x)))) _ _ _
  split
  · rename_i e
    injection e with e1 e2
    cases e2
  · exact go
/-- a text, a tuple, None decline an own instance -/
theorem str_declines {z : Str} {t : Tok} {o : Obj} (ho : s.heap.get? x = some o) (hd : o.data = .plain) (hsub : Looks (model prog w) s.heap (isInstance (.ref x) (.type "str")) false) {Q' : Value → Shared → Prop} (h : Q' .notImplemented s) :
    wpAny (model prog w) A (call (.builtin "str.__eq__") [.str z t, .ref x]) Q' E s := by
  refine call_meets PySem.F.slot_str_eq (by exact rfl) PySem.F.entry_str_eq (PySem.F.args_str_eq_2 _ _) (S := fun _ R s => s.heap.get? x = some o ∧ R (.ok (.ret .notImplemented)) s) ?_ ⟨ho, h⟩
  exact .of_wp fun prog w A R s h => by
    obtain ⟨hp, g, d, tk, os⟩ := s
    obtain ⟨hl, h⟩ := h
    obtain ⟨oc, od, odt, osl⟩ := o
    simp only at hd
    subst hd
    wp_walk using wpAny_loadPart' hl, wpAny_load hl
    exact ⟨_, rfl, h⟩
theorem none_declines {Q' : Value → Shared → Prop} (h : Q' .notImplemented s) : wpAny (model prog w) A (call (.builtin "NoneType.__eq__") [.none, .ref x]) Q' E s :=
  call_gives PySem.F.slot_NoneType_eq (by exact rfl) PySem.F.entry_NoneType_eq (PySem.F.args_NoneType_eq_2 _ _) (SeqAt.NoneType___eq___none_ref_0 x) h
theorem tup_declines {l : Addr} {items : Array Value} {n : Nat} {dd : Option Addr} {sl : Array (Option Value)} (hl : s.heap.get? l = some { cls := .type "tuple", dict := dd, data := .seq items n, slots := sl })
    (X : K.In s.heap) (I : InstAt s.heap x ox C od) (hsub : subIn K (.ref C) (.type "tuple") = some false) {Q' : Value → Shared → Prop} (h : Q' .notImplemented s) :
    wpAny (model prog w) A (call (.builtin "tuple.__eq__") [.ref l, .ref x]) Q' E s := by
  refine call_meetsIn PySem.F.slot_tuple_eq ⟨_, hl, rfl⟩ PySem.F.entry_tuple_eq (PySem.F.args_tuple_eq_2 _ _) (S := fun _ R s' => s' = s ∧ R (.ok (.ret .notImplemented)) s) ?_ ⟨rfl, h⟩
  refine MeetsIn.of_wp fun A R s' h => ?_
  obtain ⟨rfl, h⟩ := h
  show wpAny _ _ (isInstance (.ref x) (.type "tuple") >>= _) _ _ _
  refine wpAny_bind (wpAny_bind (I.type.here ((looks_subIn X hsub).here ?_)))
  simp only [Bool.not_false, if_true]
  exact wpAny_pure ⟨_, rfl, h⟩
/-- x in t, where each item is equal to x or not by what J keeps -/
theorem tuple_containsJ (l : Addr) (items : Array Value) (n : Nat) (dd : Option Addr) (sl : Array (Option Value)) (x : Value) (J : Shared → Prop) :
    MeetsIn prog w (Builtin.«tuple.__contains__» ⟨[.ref l, x], []⟩) (fun A R s => s.heap.get? l = some { cls := .type "tuple", dict := dd, data := .seq items n, slots := sl } ∧ J s ∧
      (∀ y, y ∈ items → ∀ (s' : Shared) (E : Value → Shared → Prop) (Q : Bool → Shared → Prop), J s' → (∀ s'', J s'' → Q false s'') → (∀ e s'', R (.error e) s'' → E e s'') → wpAny (model prog w) A.in1 (eqBool y x) Q E s') ∧ ∀ s', J s' → R (.ok (.ret (.bool false))) s') :=
  .of_wp fun A R s h => by
    obtain ⟨hl, hJ, he, h⟩ := h
    have ht : IsTup s.heap l items := ⟨_, hl, rfl, n, rfl⟩
    show wpAny _ _ (Builtin.Tuple.tupleItemsOf (.ref l) >>= _) _ _ s
    refine wpAny_bind (tupleItemsOf_ ht ?_)
    refine wpAny_bind (forIn_array_ _ (fun rest b s' => b.1 = none ∧ J s' ∧ ∀ y, y ∈ rest → y ∈ items) _ ?_ ?_ items _ ⟨rfl, hJ, fun y hy => by simpa using hy⟩)
    · rintro y rest b s' ⟨hb, hJ', hm⟩
      refine wpAny_bind (he y (hm y List.mem_cons_self) s' _ _ hJ' (fun s'' hJ2 => ?_) fun e s'' z => z)
      refine wpAny_bind (wpAny_pure (wpAny_pure ?_))
      exact ⟨rfl, hJ2, fun z hz => hm z (List.mem_cons_of_mem _ hz)⟩
    · rintro ⟨b1, b2⟩ s' ⟨hb, hJ', _⟩
      simp only at hb
      subst hb
      exact wpAny_pure ⟨_, rfl, h s' hJ'⟩
end
end Pn
namespace Pn
open PySem L2
section
variable {X : Cx} {CX : CXT} {k : Nat} {f : Addr} {fd : FuncData} {ps : List Str} {sp : Sp} {E : XK}
/-- what an own instance may be looked for among: texts, None, tuples -/
def Other (K : PySem.W.Frag) (C : Addr) (H : Hp) (y : V) : Prop := (∃ z : Str, y = .str z ∧ PySem.W.subIn K (.ref C) (.type "str") = some false) ∨ (y = .non ∧ PySem.W.subIn K (.ref C) (.type "NoneType") = some false) ∨
  ∃ (b : Addr) (xs : List V), y = .ref b ∧ H b = some (.tup xs) ∧ PySem.W.subIn K (.ref C) (.type "tuple") = some false
/-- x in (..) of an own instance that is equal to none of them -/
def rInOwn (K : PySem.W.Frag) (f : Addr) (sp : Sp) (E : XK) : R2 := fun x t H Q => ∃ (a C dx l : Addr) (fs : List (Str × V)) (ys : List V), x = .ref a ∧ t = .ref l ∧ H a = some (.ins C dx fs) ∧ SqT K H l ys ∧ PySem.W.findIn K (.ref C) "__eq__" = some (some (.ref f)) ∧
  (∀ y ∈ ys, Other K C H y ∧ sp [.ref a, y] H (fun v H' => v = .bl false ∧ H' = H) E) ∧ Q (.bl false) H
theorem vals_mem : ∀ {xs : List V} {us : List Value} {u : Value}, Vals xs us → u ∈ us → ∃ x ∈ xs, RelV x u
  | _, _, _, .nil, h => by cases h
  | _, _, u, .cons a b, h => by
    rcases List.mem_cons.mp h with rfl | h
    · exact ⟨_, List.mem_cons_self, a⟩
    · obtain ⟨x, hx, r⟩ := vals_mem b h
      exact ⟨x, List.mem_cons_of_mem _ hx, r⟩
theorem op_inOwn (F : FnOk X.prog X.w X.K X.mg X.base CX k f fd ps sp) (hf : PySem.W.isFn X.K (.ref f) = true) (hr : Room (k + 1) X.A) (hb : Binds X.K fd ps []) (hx : Passes CX X E) : OpR X (compareOp .In) (rInOwn X.K f sp E) := by
  intro pins s σ H x t v u Q I rx rt h
  obtain ⟨a, C, dx, l, fs, ys, rfl, rfl, ha, hl, hs, hy, q⟩ := h
  cases rx
  cases rt
  have hr1 : Room k X.A.in1 := Room.in1 hr
  obtain ⟨its, rv, ⟨⟨oc, od, odt, osl⟩, ho, hc, n, hd⟩, _⟩ := I.tuple hl
  simp only at hc hd
  subst hc hd
  show wpAny (model X.prog X.w) X.A (do return .bool (← contains (.ref l) (.ref a))) (EP X pins σ Q) X.xe s
  refine wpAny_bind (wpAny_contains_slot ⟨_, ho, rfl⟩ PySem.F.slot_tuple_contains (wpAny_mono (PySem.call_meetsIn PySem.F.slot_tuple_contains ⟨_, ho, rfl⟩ PySem.F.entry_tuple_contains (PySem.F.args_tuple_contains_2 _ _)
    (tuple_containsJ l its.toArray n od osl (.ref a) (fun s' => Inv X pins σ H s')) (E := X.xe) (Q := fun v s' => v = .bool false ∧ Inv X pins σ H s') ⟨ho, I, fun y hyi s' E' Q' I' hQ' hE' => ?_, fun s' I' => ⟨rfl, I'⟩⟩) (fun v s' hv => ?_) fun _ _ e => e))
  · have hyl : y ∈ its := by simpa using hyi
    obtain ⟨yv, hyv, ry⟩ := vals_mem rv hyl
    obtain ⟨ho2, hsp⟩ := hy yv hyv
    obtain ⟨mA, O, _⟩ := ins_get I'.hok ha
    obtain ⟨od2, J, _⟩ := O.look
    obtain ⟨m, hF⟩ := I'.fr
    have run : wpAny (model X.prog X.w) X.A.in1 (call (.ref f) [.ref a, y]) (fun v s'' => ∃ b, v = .bool b ∧ Q' b s'') E' s' := by
      refine wpAny_mono (run_fnA F hr1 I'.env0.in1 hb hx I' (.cons (show RelV (.ref a) (Value.ref a) from rfl) (.cons ry .nil)) hsp) (fun w s'' z => ?_) (fun e s'' z => hE' e s'' z)
      obtain ⟨z', H', I2, rz, rfl, rfl⟩ := z
      cases (show w = Value.bool false from rz)
      exact ⟨false, rfl, hQ' _ I2⟩
    rcases ho2 with ⟨z, rfl, hsub⟩ | ⟨rfl, hsub⟩ | ⟨b, xs, rfl, hb2, hsub⟩
    · obtain ⟨tk, rfl⟩ := ry
      exact eqb_own (by rfl) (by exact rfl) hF I'.ok.mod.kin J hsub PySem.F.slot_str_eq (fun Q2 h2 => str_declines J.1 (by rfl) ((J.type.andThen (PySem.W.looks_subIn (I'.ok.mod.kin.keeps hF.keep) hsub))) h2) hs hf hr1.units0 run
    · cases ry
      exact eqb_own (by rfl) (by exact rfl) hF I'.ok.mod.kin J hsub PySem.F.slot_NoneType_eq (fun Q2 h2 => none_declines h2) hs hf hr1.units0 run
    · cases ry
      obtain ⟨its2, _, ⟨⟨oc2, od3, odt2, osl2⟩, ho3, hc3, n3, hd3⟩, _⟩ := I'.tuple (SqT.of hb2)
      simp only at hc3 hd3
      subst hc3 hd3
      refine eqb_own (by
        have ne : b ≠ a := fun z => by rw [z, ha] at hb2; cases hb2
        exact beq_eq_false_iff_ne.mpr fun z => ne (by injection z)) ⟨_, ho3, rfl⟩ hF I'.ok.mod.kin J hsub PySem.F.slot_tuple_eq (fun Q2 h2 => tup_declines ho3 (I'.ok.mod.kin.keeps hF.keep) J hsub h2) hs hf hr1.units0 run
  · obtain ⟨rfl, I'⟩ := hv
    exact wpAny_truthy_bool (wpAny_pure ⟨.bl false, H, I', rfl, q⟩)
end
end Pn

namespace Pn
open PySem L2
/-! ### == and != of sequences of own instances, as far as they are the very same or of other lengths -/
section
variable {X : Cx}
theorem vals_refs {us ws : List Value} : ∀ {xs : List V}, (∀ x ∈ xs, ∃ c, x = V.ref c) → Vals xs us → Vals xs ws → us = ws := by
  intro xs
  induction xs generalizing us ws with
  | nil =>
    intro _ r1 r2
    cases r1
    cases r2
    rfl
  | cons x xs ih =>
    intro h r1 r2
    obtain ⟨c, rfl⟩ := h x List.mem_cons_self
    cases r1 with
    | cons a1 b1 =>
      cases r2 with
      | cons a2 b2 =>
        cases a1
        cases a2
        rw [ih (fun y hy => h y (List.mem_cons_of_mem _ hy)) b1 b2]
/-- a != b of two tuples of the very same things -/
def rNeSameT (K : PySem.W.Frag) : R2 := fun x y H Q => ∃ (a b : Addr) (xs : List V), x = .ref a ∧ y = .ref b ∧ SqT K H a xs ∧ SqT K H b xs ∧ (∀ x ∈ xs, ∃ c, x = V.ref c) ∧ Q (.bl false) H
theorem op_neSameT (hu : X.A.units < PySem.cLine) : OpR X (compareOp .NotEq) (rNeSameT X.K) := by
  intro pins s σ H x y v u Q I rx ry h
  obtain ⟨a, b, xs, rfl, rfl, ha, hb, hr, q⟩ := h
  cases rx
  cases ry
  obtain ⟨us, r1, p1, _⟩ := I.tuple ha
  obtain ⟨ws, r2, p2, _⟩ := I.tuple hb
  have e := vals_refs hr r1 r2
  subst e
  refine SeqAt.RcNeAt.tuples (e := fun _ => true) p1 p2 hu (fun j h1 h2 => SeqAt.EqAt.same _) X.prog X.w _ _ ?_
  have e2 : (!((List.range (min us.toArray.size us.toArray.size)).all (fun _ => true) && us.toArray.size == us.toArray.size)) = false := by simp
  rw [e2]
  exact ⟨.bl false, H, I, rfl, q⟩
/-- a == [] -/
def rEqNil (K : PySem.W.Frag) : R2 := fun x y H Q => ∃ (a b : Addr) (xs : List V), x = .ref a ∧ y = .ref b ∧ SqL K H a xs ∧ SqL K H b [] ∧ Q (.bl xs.isEmpty) H
theorem op_eqNil (hu : X.A.units < PySem.cLine) : OpR X (compareOp .Eq) (rEqNil X.K) := by
  intro pins s σ H x y v u Q I rx ry h
  obtain ⟨a, b, xs, rfl, rfl, ha, hb, q⟩ := h
  cases rx
  cases ry
  obtain ⟨us, r1, p1, _⟩ := I.list ha
  obtain ⟨ws, r2, p2, _⟩ := I.list hb
  cases r2
  cases xs with
  | nil =>
    cases r1
    refine SeqAt.RcAt.lists (e := fun _ => true) p1.isList p2.isList rfl hu (fun j h1 h2 => SeqAt.EqAt.same _) X.prog X.w _ _ ?_
    exact ⟨.bl true, H, I, rfl, q⟩
  | cons x xs =>
    refine SeqAt.RcAt.lists_lengths p1.isList p2.isList ?_ hu X.prog X.w _ _ ?_
    · have := r1.length
      cases us with
      | nil => cases this
      | cons u us => simp
    · exact ⟨.bl false, H, I, rfl, q⟩
end
end Pn

namespace Pn
open PySem L2 TL
section
variable {K : PySem.W.Frag} {mg : Str → Option Value}
/-- rows in their order (partstr has it too: take one of both) -/
def RowsIn (R : TRows K mg) (H : Hp) (us : List Addr) (rs : List RowD) : Prop := Paired (fun u r => RowAt R H u r) us rs
end
end Pn

namespace Pn
open PySem L2 TL
/-! ### == and != of tuples of rows -/
section
variable {P : Program} {w : World} {K : PySem.W.Frag} {mg : Str → Option Value} {base : Heap}
def rowKind : RowD → Fin 8
  | .note _ _ => 0
  | .skip _ _ => 1
  | .set _ _ => 2
  | .keep _ => 3
  | .back _ => 4
  | .ref _ => 5
  | .put _ => 6
  | .opn _ => 7
def kindWord (k : Fin 8) : Str := (["note", "skip", "set", "keep", "back", "ref", "put", "open"] : List Str)[k]'(by simp)
theorem kind_word (r : RowD) : rowWord r = kindWord (rowKind r) := by cases r <;> rfl
theorem kind_one : ∀ a b : Fin 8, kindWord a = kindWord b → a = b := by decide +kernel
theorem row_same {T : TRows K mg} {H : Hp} {a : Addr} {r q : RowD} (h1 : RowAt T H a r) (h2 : RowAt T H a q) : r = q := by
  have hk : rowKind r = rowKind q := by
    obtain ⟨dw, fw, w1, _, _, w4⟩ := row_word T h1
    obtain ⟨dw2, fw2, v1, _, _, v4⟩ := row_word T h2
    rw [w1] at v1
    injection v1 with v1
    injection v1 with _ _ v1
    subst v1
    rw [w4] at v4
    injection v4 with v4
    injection v4 with v4
    rw [kind_word, kind_word] at v4
    exact kind_one _ _ v4
  obtain ⟨dx, e1⟩ := h1
  obtain ⟨dy, e2⟩ := h2
  rw [e1] at e2
  have e := Option.some.inj e2
  have n0 : ((("word" : Str)) = ("counter" : Str)) = False := eq_false (by decide +kernel)
  have n1 : ((("word" : Str)) = ("label" : Str)) = False := eq_false (by decide +kernel)
  have n2 : ((("word" : Str)) = ("by" : Str)) = False := eq_false (by decide +kernel)
  have n3 : ((("word" : Str)) = ("to" : Str)) = False := eq_false (by decide +kernel)
  have n4 : ((("word" : Str)) = ("part" : Str)) = False := eq_false (by decide +kernel)
  have n5 : ((("word" : Str)) = ("name" : Str)) = False := eq_false (by decide +kernel)
  have n6 : ((("counter" : Str)) = ("label" : Str)) = False := eq_false (by decide +kernel)
  have n7 : ((("counter" : Str)) = ("by" : Str)) = False := eq_false (by decide +kernel)
  have n8 : ((("counter" : Str)) = ("to" : Str)) = False := eq_false (by decide +kernel)
  cases r <;> cases q <;> first
    | (exfalso; revert hk; simp [rowKind]; done)
    | (simp only [insRow, insNote, insSkip, insSet, insKeep, insBack, insRef, insPut, insOpen] at e
       injection e with _ _ ef
       simp [putF, n0, n1, n2, n3, n4, n5, n6, n7, n8] at ef
       first | (simp [ef]; done) | (simp [ef]; exact Int.ofNat.inj ef.2))
def DRow (T : TRows K mg) : V → V → Hp → Bool → Prop := fun x y H r => ∃ (a b : Addr) (q q' : RowD), x = .ref a ∧ y = .ref b ∧ RowAt T H a q ∧ RowAt T H b q' ∧ rowSmall q ∧ rowSmall q' ∧ r = decide (rowText q = rowText q')
theorem eqD_row {X : Cx} {T : TRows X.K X.mg} (S : TSame T) (hr : Room 5 X.A) : EqD X (DRow T) :=
  eqD_op (op_eqRow S hr) fun x y H r d => by
    obtain ⟨a, b, q, q', rfl, rfl, h1, h2, s1, s2, rfl⟩ := d
    refine ⟨a, b, rfl, rfl, fun e => ?_, fun Q k => ⟨a, q, rfl, h1, s1, .inr ⟨b, q', rfl, h2, s2, k H (Same.refl _)⟩⟩⟩
    subst e
    rw [row_same h1 h2]
    exact decide_eq_true rfl
/-- != of two tuples of rows -/
def rNeRows (T : TRows K mg) : R2 := fun x y H Q => ∃ (p q : Addr) (us ws : List Addr) (rs qs : List RowD), x = .ref p ∧ y = .ref q ∧ SqT K H p (us.map V.ref) ∧ SqT K H q (ws.map V.ref) ∧ RowsIn T H us rs ∧ RowsIn T H ws qs ∧ (∀ r ∈ rs, rowValid r) ∧ (∀ r ∈ qs, rowValid r) ∧
  ∀ H', Same H H' → Q (.bl (!decide (rs.map rowText = qs.map rowText))) H'
theorem ans_map {α : Type} [DecidableEq α] {xs ys : List α} {e : Nat → Bool} (h : ∀ i a b, xs[i]? = some a → ys[i]? = some b → e i = decide (a = b)) : tupAns e xs.length ys.length = decide (xs = ys) := by
  unfold tupAns
  by_cases hl : xs.length = ys.length
  · rw [hl, Nat.min_self, beq_self_eq_true, Bool.and_true, Bool.eq_iff_iff, List.all_eq_true, decide_eq_true_iff]
    constructor
    · intro g
      apply List.ext_getElem? fun i => ?_
      by_cases hi : i < ys.length
      · have h1 : xs[i]? = some xs[i] := List.getElem?_eq_getElem (by omega)
        have h2 : ys[i]? = some ys[i] := List.getElem?_eq_getElem hi
        have := g i (List.mem_range.mpr hi)
        rw [h i _ _ h1 h2, decide_eq_true_iff] at this
        rw [h1, h2, this]
      · rw [List.getElem?_eq_none (by omega), List.getElem?_eq_none (by omega)]
    · intro g i hi
      subst g
      have hi2 := List.mem_range.mp hi
      have h1 : xs[i]? = some xs[i] := List.getElem?_eq_getElem hi2
      rw [h i _ _ h1 h1]
      exact decide_eq_true rfl
  · have e1 : (xs.length == ys.length) = false := beq_eq_false_iff_ne.mpr hl
    rw [e1, Bool.and_false]
    exact (decide_eq_false fun z => hl (by rw [z])).symm
theorem tupD_rows {T : TRows K mg} {H : Hp} {p q : Addr} {us ws : List Addr} {rs qs : List RowD} (hp : SqT K H p (us.map V.ref)) (hq : SqT K H q (ws.map V.ref)) (h1 : RowsIn T H us rs) (h2 : RowsIn T H ws qs) (v1 : ∀ r ∈ rs, rowValid r) (v2 : ∀ r ∈ qs, rowValid r) :
    TupD K (DRow T) (.ref p) (.ref q) H (decide (rs.map rowText = qs.map rowText)) := by
  let e : Nat → Bool := fun i => decide ((rs.map rowText)[i]? = (qs.map rowText)[i]?)
  refine ⟨⟨p, q, _, _, e, rfl, rfl, hp, hq, fun H' s i a b ha hb => ?_, ?_⟩⟩
  · rw [List.getElem?_map] at ha hb
    cases hu : us[i]? with
    | none => rw [hu] at ha; cases ha
    | some u =>
    cases hw : ws[i]? with
    | none => rw [hw] at hb; cases hb
    | some v =>
    rw [hu] at ha
    rw [hw] at hb
    cases ha
    cases hb
    obtain ⟨r, hr, hra⟩ := paired_at h1 hu
    obtain ⟨r', hr', hrb⟩ := paired_at h2 hw
    refine ⟨u, v, r, r', rfl, rfl, hra.same s, hrb.same s, valid_small (v1 r (List.mem_of_getElem? hr)), valid_small (v2 r' (List.mem_of_getElem? hr')), ?_⟩
    show decide ((rs.map rowText)[i]? = (qs.map rowText)[i]?) = _
    rw [List.getElem?_map, List.getElem?_map, hr, hr']
    exact decide_eq_decide.mpr ⟨fun z => by simpa using z, fun z => by rw [Option.map_some, Option.map_some, z]⟩
  · rw [List.length_map, List.length_map, show us.length = rs.length from paired_len h1, show ws.length = qs.length from paired_len h2, ← List.length_map (f := rowText) (as := rs), ← List.length_map (f := rowText) (as := qs)]
    exact (ans_map fun i a b ha hb => by
      show decide ((rs.map rowText)[i]? = (qs.map rowText)[i]?) = _
      rw [ha, hb]
      exact decide_eq_decide.mpr ⟨fun z => Option.some.inj z, fun z => by rw [z]⟩).symm
theorem op_neRows {X : Cx} {T : TRows X.K X.mg} (S : TSame T) (hr : Room 6 X.A) : OpR X (compareOp .NotEq) (rNeRows T) := by
  intro pins s σ H x y v u Q I rx ry h
  obtain ⟨p, q, us, ws, rs, qs, rfl, rfl, hp, hq, h1, h2, v1, v2, k⟩ := h
  have hE : EqD (deeper X) (DRow T) := eqD_row (X := deeper X) (T := T) S (Room.in1 hr)
  exact op_tupNe hE (hr.mono (show 0 ≤ 6 by decide)).units0 pins s σ H _ _ v u Q I rx ry ⟨_, tupD_rows hp hq h1 h2 v1 v2, fun H' s' => by rw [Bool.xor_true]; exact k H' s'⟩
theorem op_neRowsK {X : Cx} {K : PySem.W.Frag} {mg : Str → Option Value} (hK : X.K = K) (hm : X.mg = mg) {T : TRows K mg} (S : TSame T) (hr : Room 6 X.A) : OpR X (compareOp .NotEq) (rNeRows T) := by
  subst hK
  subst hm
  exact op_neRows S hr
end
end Pn

namespace Pn
open PySem PySem.Spec PyProof.Rows L2 TL
section
variable {P : Program} {w : World} {K : PySem.W.Frag} {mg : Str → Option Value} {base : Heap}
theorem fil_nof {u : V} : (putF "filled" u ([] : List (Str × V))).lookup ("rows_for" : Str) = none := by
  rw [lookup_putF, if_neg (by decide +kernel)]
  rfl
def tupBQ (K : PySem.W.Frag) (a : Addr) : Bool := match K.lookup a with
  | some o => decide (o.cls = .type "tuple") && (o.dict.isNone && (match o.data with | .seq its _ => its.size == 0 | _ => false))
  | none => false
theorem tupBQ_ok {K : PySem.W.Frag} {a : Addr} (h : tupBQ K a = true) : TupB K a := by
  unfold tupBQ at h
  split at h
  · rename_i o ho
    rw [Bool.and_eq_true, Bool.and_eq_true] at h
    obtain ⟨h1, h2, h3⟩ := h
    split at h3
    · rename_i its n hd
      have e : its = #[] := Array.eq_empty_of_size_eq_zero (by simpa using h3)
      subst e
      exact ⟨o, n, ho, of_decide_eq_true h1, Option.isNone_iff_eq_none.mp h2, hd⟩
    · cases h3
  · cases h
/-! ### what the law holds: names with rows, in lists and in tuples -/
def HandR (R : TRows K mg) (A G : Hp) (t : Addr) (d : FD) : Prop := ∃ (hl : Addr) (us : List Addr), A hl = none ∧ G t = some (.tup [.str d.1, .ref hl]) ∧ G hl = some (.lst (us.map V.ref)) ∧ Paired (fun u r => RowAt R G u r) us d.2
theorem HandR.same {R : TRows K mg} {A G G' : Hp} {t : Addr} {d : FD} (h : HandR R A G t d) (s : Same G G') : HandR R A G' t d := by
  obtain ⟨hl, us, n, a, b, c⟩ := h
  exact ⟨hl, us, n, s _ _ a, s _ _ b, paired_mono (fun _ _ z => z.same s) c⟩
def rowsOk (ds : List FD) : Prop := ∀ d ∈ ds, nameS d.1 = true ∧ d.2.length ≤ 3 ∧ ∀ r ∈ d.2, fillB r = true
theorem goodD_rows {ds : List FD} (g : goodD ds) : rowsOk ds := fun d hd => by
  obtain ⟨a, b, c⟩ := g.2.2 d hd
  exact ⟨names16_ok.2.2 _ a, b, fun r hr => (goodF_ok (c r hr)).2⟩
theorem hand_pairs {R : TRows K mg} {A G : Hp} : ∀ {ts : List Addr} {ds : List FD}, Paired (HandR R A G) ts ds → rowsOk ds → ∃ cs : List FilD, Paired (FPair R G) ts cs ∧ (cs.map fun c => ((c.1, c.2.2) : FD)) = ds
  | _, _, .nil, _ => ⟨[], .nil, rfl⟩
  | _, _, @Paired.cons _ _ _ t d ts ds ⟨hl, us, _, a, b, c⟩ h, ok => by
    obtain ⟨cs, h1, h2⟩ := hand_pairs h fun x hx => ok x (List.mem_cons_of_mem _ hx)
    obtain ⟨o1, o2, o3⟩ := ok d List.mem_cons_self
    exact ⟨(d.1, hl, d.2) :: cs, .cons ⟨SqT.of a, o1, us, .inl (SqL.of b), c, o3, by show d.2.length ≤ 1000; omega⟩ h1, by rw [List.map_cons, h2]⟩
theorem item_pairs {R : TRows K mg} {G : Hp} : ∀ {ts : List Addr} {ds : List FD}, Paired (FItem R G) ts ds → rowsOk ds → ∃ cs : List FilD, Paired (FPair R G) ts cs ∧ (cs.map fun c => ((c.1, c.2.2) : FD)) = ds
  | _, _, .nil, _ => ⟨[], .nil, rfl⟩
  | _, _, @Paired.cons _ _ _ t d ts ds ⟨hl, us, a, b, c⟩ h, ok => by
    obtain ⟨cs, h1, h2⟩ := item_pairs h fun x hx => ok x (List.mem_cons_of_mem _ hx)
    obtain ⟨o1, o2, o3⟩ := ok d List.mem_cons_self
    exact ⟨(d.1, hl, d.2) :: cs, .cons ⟨a, o1, us, .inr b, c, o3, by show d.2.length ≤ 1000; omega⟩ h1, by rw [List.map_cons, h2]⟩
/-- Filling(p) of good pairs -/
theorem make_go {R : TRows K mg} (T : TFill R) {CF : Addr} {H : Hp} {Q : Addr → Hp → Prop} {E : XK} {p : Addr} {ts : List Addr} {cs : List FilD} {ds : List FD} (hp : SqL K H p (ts.map V.ref) ∨ TupY K H p (ts.map V.ref)) (pd : Paired (FPair R H) ts cs) (hd : (cs.map fun c => ((c.1, c.2.2) : FD)) = ds)
    (nd : (ds.map (·.1)).Nodup) (hl : ds.length ≤ 60) (q : ∀ (x : Addr) (es : List FD) (H2 : Hp), Same H H2 → FilI T H2 x es → Canon ds es → Q x H2) :
    ∀ x dx, H x = none → H dx = none → dx ≠ x → spFInit R T.C CF (.ref x :: ([V.ref p] ++ [])) (upd (upd H dx (.own x)) x (.ins T.C dx [])) (fun v H2 => v = .non ∧ Q x H2) E := by
  intro x dx hx hdx ne
  have s1 : Same H (upd (upd H dx (.own x)) x (.ins T.C dx [])) := ins_same2 hx hdx
  have en : cs.map (·.1) = ds.map (·.1) := by rw [← hd, List.map_map]; rfl
  refine ⟨x, dx, .ref p, rfl, upd_same, .inr (.inr (.inr ⟨p, ts, cs, rfl, hp.imp (fun h => s1.seq h) (fun h => h.same s1), paired_mono (fun _ _ z => z.same s1) pd, by rw [← List.length_map (f := fun c => ((c.1, c.2.2) : FD)), hd]; exact hl, by rw [en]; exact nd, fun tp H2 kp hf hi => ⟨rfl, ?_⟩⟩))⟩
  obtain ⟨es, h1, h2⟩ := made_fil T hi hf hd nd
  exact q x es H2 (kpi_same2 hx hdx kp) h1 h2
/-- the rows for a name that was given -/
theorem rows_go {R : TRows K mg} {T : TFill R} {H : Hp} {Q : VK} {E : XK} {a : Addr} {ds es : List FD} {d : FD} (hF : FilI T H a es) (gd : goodD ds) (hc : Canon ds es) (hd : d ∈ ds)
    (q : ∀ (r : Addr) (us : List Addr) (H' : Hp), Same H H' → SqT K H' r (us.map V.ref) → Paired (fun u r => RowAt R H' u r) us d.2 → Q (.ref r) H') : spFRows T [.ref a, .str d.1] H Q E := by
  obtain ⟨r1, r2, r3⟩ := canon_rows gd.1 hc hd
  refine ⟨a, .str d.1, es, rfl, hF, goodD_fil gd hc, .inl ⟨d.1, rfl, (name_ok (names16_ok.2.2 _ (gd.2.2 d hd).1)).1, fun e he ee r us h1 h2 => ?_, fun no r hr => ?_⟩⟩
  · rw [r3 e he ee] at h2
    exact q r us H (Same.refl _) h1 h2
  · have hz : d.2 = [] := by
      rcases Classical.em (d.2 = []) with h | h
      · exact h
      · exact absurd rfl (no d (r1 h))
    refine q r [] _ (Same.new hr) (SqT.of upd_same) ?_
    rw [hz]
    exact .nil
/-- .. for what no name is -/
theorem none_go {R : TRows K mg} {T : TFill R} {H : Hp} {Q : VK} {E : XK} {a : Addr} {y : V} {ds es : List FD} (hF : FilI T H a es) (gd : goodD ds) (hc : Canon ds es)
    (hy : (∃ z : Str, y = .str z ∧ PyData.strOk z = true ∧ z ∉ names16) ∨ (∃ e : PyData, Dp K H y e ∧ SeqAt.shaped e = true ∧ ∀ s, e ≠ .str s) ∨ (y = .ref a ∧ PySem.W.subIn K (.ref T.C) (.type "str") = some false))
    (q : ∀ (r : Addr) (H' : Hp), Same H H' → SqT K H' r [] → Q (.ref r) H') : spFRows T [.ref a, y] H Q E := by
  have fin : ∀ p, H p = none → Q (.ref p) (upd H p (.tup [])) := fun p hp => q p _ (Same.new hp) (SqT.of upd_same)
  refine ⟨a, y, es, rfl, hF, goodD_fil gd hc, ?_⟩
  rcases hy with ⟨z, rfl, h1, h2⟩ | ⟨e, h1, h2, h3⟩ | ⟨rfl, h1⟩
  · exact .inl ⟨z, rfl, h1, fun e he ee => absurd ee (odd_names gd hc h2 e he), fun _ p hp => fin p hp⟩
  · exact .inr (.inl ⟨e, h1, h2, h3, fin⟩)
  · exact .inr (.inr ⟨a, es, rfl, hF, goodD_fil gd hc, h1, fin⟩)
/-- made == other -/
theorem eq_go (T : TK17 K mg) {H : Hp} {Q : VK} {E : XK} {a b : Addr} {es es' : List FD} (ha : FilI T.F H a es) (hb : FilI T.F H b es') (o : filOk es) (o' : filOk es') (q : ∀ H', Same H H' → Q (.bl (decide (filText es = filText es'))) H') : rOpIns K "__eq__" T.E.eq.f (spFEq T.F) E (.ref a) (.ref b) H Q := by
  obtain ⟨dx, tp, ps, h1, _⟩ := id ha
  obtain ⟨dy, tq, ps2, h2, _⟩ := id hb
  exact ⟨a, T.F.C, dx, _, rfl, h1, T.E.eq.hs, .inr ⟨b, T.F.C, dy, _, rfl, h2, T.nF⟩, a, .ref b, es, rfl, ha, o, .inr ⟨b, es', rfl, hb, o', q⟩⟩
/-- made != other -/
theorem ne_go (T : TK17 K mg) {H : Hp} {Q : VK} {E : XK} {a b : Addr} {es es' : List FD} (ha : FilI T.F H a es) (hb : FilI T.F H b es') (o : filOk es) (e : es = es') (q : ∀ H', Same H H' → Q (.bl false) H') : rNeIns K T.E.eq.f (spFEq T.F) E (.ref a) (.ref b) H Q := by
  subst e
  obtain ⟨dx, tp, ps, h1, _⟩ := id ha
  obtain ⟨dy, tq, ps2, h2, _⟩ := id hb
  refine ⟨a, T.F.C, dx, _, rfl, h1, T.E.eq.hs, T.neF, T.E.cM, .inr ⟨b, T.F.C, dy, _, rfl, h2, T.nF⟩, a, .ref b, es, rfl, ha, o, .inr ⟨b, es, rfl, hb, o, fun H' s => ⟨_, rfl, ?_⟩⟩⟩
  rw [decide_eq_true rfl]
  exact q H' s
/-- made in (text, None) -/
theorem in_go (T : TK17 K mg) {H : Hp} {Q : VK} {E : XK} {a l : Addr} {z : Str} {es : List FD} (ha : FilI T.F H a es) (o : filOk es) (hl : SqT K H l [.str z, .non]) (q : Q (.bl false) H) : rInOwn K T.E.eq.f (spFEq T.F) E (.ref a) (.ref l) H Q := by
  obtain ⟨dx, tp, ps, h1, _⟩ := id ha
  refine ⟨a, T.F.C, dx, l, _, _, rfl, rfl, h1, hl, T.E.eq.hs, fun y hy => ?_, q⟩
  rcases List.mem_cons.mp hy with rfl | hy
  · exact ⟨.inl ⟨z, rfl, T.subS⟩, a, .str z, es, rfl, ha, o, .inl ⟨.str z, .str _, rfl, rfl⟩⟩
  · rw [List.mem_singleton.mp hy]
    exact ⟨.inr (.inl ⟨rfl, T.subN⟩), a, .non, es, rfl, ha, o, .inl ⟨.none, .non, rfl, rfl⟩⟩
/-! ### a dict of pairs whose names are different -/
theorem valV_none {k : Key} : ∀ {kvs : List (Key × V)}, k ∉ kvs.map (·.1) → valV kvs k = none
  | [], _ => rfl
  | p :: r, h => by
    rw [List.map_cons, List.mem_cons, not_or] at h
    rw [valV_neg fun e => h.1 e.symm]
    exact valV_none h.2
theorem merge_new : ∀ {more kvs : List (Key × V)}, ((kvs ++ more).map (·.1)).Nodup → mergeK kvs more = kvs ++ more
  | [], kvs, _ => (List.append_nil kvs).symm
  | kv :: more, kvs, nd => by
    have h1 : kv.1 ∉ kvs.map (·.1) := fun z => by
      rw [List.map_append, List.nodup_append] at nd
      exact nd.2.2 _ z _ List.mem_cons_self rfl
    show mergeK (putK kvs kv.1 kv.2) more = _
    rw [putK_new _ (valV_none h1), merge_new (by rw [List.append_assoc]; exact nd), List.append_assoc]
    rfl
theorem merge_all {G : Hp} {kvs : List (Key × V)} {ds : List FD} (h : Paired (DRows G) kvs ds) (nd : (ds.map (·.1)).Nodup) : mergeK [] kvs = kvs := by
  have e : ∀ {kvs : List (Key × V)} {ds : List FD}, Paired (DRows G) kvs ds → kvs.map (·.1) = (ds.map (·.1)).map Sum.inr := by
    intro kvs ds h
    induction h with
    | nil => rfl
    | cons a b ih =>
      obtain ⟨l, ts, rfl, _⟩ := a
      rw [List.map_cons, ih]
      rfl
  have n2 : (kvs.map (·.1)).Nodup := by
    rw [e h]
    exact List.Pairwise.map _ (fun a b (hab : a ≠ b) z => hab (by injection z)) nd
  exact merge_new (kvs := []) n2
theorem canon_nil {ds es : List FD} (h : Canon ds es) (e : (ds.filter fun c => decide (c.2 ≠ [])) = []) : es = [] := by
  have l := h.1.length_eq
  rw [e] at l
  exact List.eq_nil_of_length_eq_zero (by simpa using l)
theorem fil_none : filOk [] := ⟨Nat.zero_le _, fun _ z => nomatch z⟩
theorem bl_same (a b : Str) : (!decide (V.bl (decide (a = b)) = V.bl (decide (V.str a = V.str b)))) = false := by
  by_cases h : a = b <;> simp [h]
theorem hid_list {H : Hp} {D : Addr} {ys : List V} (h : H D = some (.lst ys)) : SameN H (hid H D) := fun a o e n => hid_get e fun w => by
  rw [w, h] at e
  cases e
  exact n _ rfl
theorem near_eq {ds es : List FD} (gd : goodD ds) (hc : Canon ds es) : decide (filText (es.map tk) = filText es) = (ds.filterMap fun d => if 1 < d.2.length then some (V.int 1) else none).isEmpty := by
  rw [Bool.eq_iff_iff, decide_eq_true_iff, filText_tk, List.isEmpty_iff, List.filterMap_eq_nil_iff]
  constructor
  · intro h d hd
    rw [if_neg fun hl => ?_]
    have ne : d.2 ≠ [] := fun z => by rw [z] at hl; cases hl
    have := h d ((canon_rows gd.1 hc hd).1 ne)
    omega
  · intro h d hd
    have := h d (hc.2.2 d hd)
    rcases Nat.lt_or_ge 1 d.2.length with hl | hl
    · rw [if_pos hl] at this
      cases this
    · exact hl
theorem sIx1 (n : Nat) : HT.sIx n n (some 1) = min 1 n := HT.sIx_nat (k := 1) ..
theorem cut1 (xs : List V) : cutV xs none (some 1) = xs.take 1 := by
  unfold cutV
  rw [HT.sIx_none, sIx1]
  rcases Nat.lt_or_ge 0 xs.length with h | h
  · rw [Nat.min_eq_left h]
    rfl
  · have e : xs = [] := List.eq_nil_of_length_eq_zero (by omega)
    subst e
    rfl
/-- t[:1] -/
theorem sl1_go {K : PySem.W.Frag} {H : Hp} {a : Addr} {xs : List V} {Q : VK} (h : SqT K H a xs) (q : ∀ (b : Addr) (H' : Hp), Same H H' → SqT K H' b (xs.take 1) → Q (.ref b) H') : rSlA K (.ref a) none (some 1) H Q := by
  refine ⟨a, xs, rfl, h, fun c => ?_, fun _ p hp => ?_⟩
  · have e := c.2
    rw [sIx1] at e
    refine q a H (Same.refl _) ?_
    rw [List.take_of_length_le (by omega)]
    exact h
  · rw [cut1]
    exact q p _ (Same.new hp) (SqT.of upd_same)
theorem paired_take1 {α β : Type} {R : α → β → Prop} {l : List α} {m : List β} (h : Paired R l m) : Paired R (l.take 1) (m.take 1) := by
  cases h with
  | nil => exact .nil
  | cons a b => exact .cons a .nil
/-! ### what stands although the lists laid between A and B change -/
open Classical in
noncomputable def hidN (A B H : Hp) : Hp := fun a => if A a = none ∧ ∃ xs, B a = some (.lst xs) then none else H a
theorem hidN_sub {A B H : Hp} : Same (hidN A B H) H := fun a o e => by
  unfold hidN at e
  by_cases h : A a = none ∧ ∃ xs, B a = some (.lst xs)
  · rw [if_pos h] at e; cases e
  · rw [if_neg h] at e; exact e
theorem hidN_of {A B H : Hp} (s : Same A H) : Same A (hidN A B H) := fun a o e => by
  unfold hidN
  rw [if_neg (fun z => by rw [z.1] at e; cases e)]
  exact s _ _ e
theorem hidN_new {A B H : Hp} {a : Addr} {o : HO} (hB : B a = none) (h : H a = some o) : hidN A B H a = some o := by
  unfold hidN
  rw [if_neg (fun z => by obtain ⟨xs, e⟩ := z.2; rw [hB] at e; cases e)]
  exact h
theorem hidN_own {A B H : Hp} (s : Same B H) : SameN H (hidN A B H) := fun a o e n => by
  unfold hidN
  rw [if_neg (fun z => by
    obtain ⟨xs, w⟩ := z.2
    rw [s _ _ w] at e
    cases e
    exact n _ rfl)]
  exact e
theorem hidN_upd {A B H Hx : Hp} {a : Addr} {xs : List V} {o : HO} (s : Same (hidN A B H) Hx) (ha : A a = none) (hb : B a = some (.lst xs)) : Same (hidN A B H) (upd Hx a o) := fun c u e => by
  have ne : c ≠ a := fun z => by
    subst z
    unfold hidN at e
    rw [if_pos ⟨ha, xs, hb⟩] at e
    cases e
  rw [upd_ne ne]
  exact s _ _ e
theorem FItem.sameN {R : TRows K mg} {H H' : Hp} {p : Addr} {d : FD} (s : SameN H H') (h : FItem R H p d) : FItem R H' p d := by
  obtain ⟨q, us, h1, h2, h3⟩ := h
  exact ⟨q, us, sqt_sameN s h1, sqt_sameN s h2, paired_mono (fun _ _ z => RowAt.sameN s z) h3⟩
theorem FilI.sameN {R : TRows K mg} {T : TFill R} {H H' : Hp} {a : Addr} {ds : List FD} (s : SameN H H') (h : FilI T H a ds) : FilI T H' a ds := by
  obtain ⟨dx, tp, ps, h1, h2, h3⟩ := h
  exact ⟨dx, tp, ps, s _ _ h1 (fun _ z => by unfold insFil at z; cases z), sqt_sameN s h2, paired_mono (fun _ _ z => z.sameN s) h3⟩
theorem perm_lift {α β : Type} {f : α → β} {zs ys : List β} (h : zs.Perm ys) : ∀ {l : List α}, ys = l.map f → ∃ l' : List α, l'.Perm l ∧ l'.map f = zs := by
  induction h with
  | nil =>
    intro l e
    exact ⟨l, .refl _, e.symm⟩
  | cons x p ih =>
    intro l e
    cases l with
    | nil => cases e
    | cons a l =>
      rw [List.map_cons, List.cons.injEq] at e
      obtain ⟨l', p', e'⟩ := ih e.2
      exact ⟨a :: l', p'.cons a, by rw [List.map_cons, e', e.1]⟩
  | swap x y r =>
    intro l e
    match l with
    | [] => cases e
    | [_] => cases e
    | a :: b :: l =>
      rw [List.map_cons, List.map_cons, List.cons.injEq, List.cons.injEq] at e
      exact ⟨b :: a :: l, .swap a b l, by rw [List.map_cons, List.map_cons, e.1, e.2.1, e.2.2]⟩
  | trans p q ih1 ih2 =>
    intro l e
    obtain ⟨l1, p1, e1⟩ := ih2 e
    obtain ⟨l2, p2, e2⟩ := ih1 e1.symm
    exact ⟨l2, p2.trans p1, e2⟩
/-- pairs in another order -/
theorem perm_items {α : Type} {R : Addr → α → Prop} {ks : List Addr} {ds : List α} (h : Paired R ks ds) : ∀ {zs : List V}, zs.Perm (ks.map V.ref) → ∃ (ks2 : List Addr) (ds2 : List α), zs = ks2.map V.ref ∧ ds2.Perm ds ∧ Paired R ks2 ds2 := by
  intro zs pm
  have go : ∀ {l m : List (Addr × α)}, l.Perm m → ∀ x ∈ l, x ∈ m := fun p x hx => p.mem_iff.mp hx
  have hz : ∀ {ks : List Addr} {ds : List α}, Paired R ks ds → (ks.zip ds).map (·.1) = ks ∧ (ks.zip ds).map (·.2) = ds ∧ ∀ x ∈ ks.zip ds, R x.1 x.2 := by
    intro ks ds h
    induction h with
    | nil => exact ⟨rfl, rfl, fun _ z => nomatch z⟩
    | cons a b ih =>
      obtain ⟨i1, i2, i3⟩ := ih
      refine ⟨by rw [List.zip_cons_cons, List.map_cons, i1], by rw [List.zip_cons_cons, List.map_cons, i2], fun x hx => ?_⟩
      rcases List.mem_cons.mp hx with rfl | hx
      · exact a
      · exact i3 x hx
  obtain ⟨z1, z2, z3⟩ := hz h
  have e1 : ks.map V.ref = (ks.zip ds).map fun x => V.ref x.1 := by
    conv => lhs; rw [← z1]
    rw [List.map_map]
    rfl
  rw [e1] at pm
  obtain ⟨l, pl, el⟩ := perm_lift pm rfl
  refine ⟨l.map (·.1), l.map (·.2), ?_, ?_, ?_⟩
  · rw [← el, List.map_map]
    rfl
  · have q := pl.map (·.2)
    rw [z2] at q
    exact q
  · have k : ∀ l : List (Addr × α), (∀ x ∈ l, R x.1 x.2) → Paired R (l.map (·.1)) (l.map (·.2)) := by
      intro l
      induction l with
      | nil => exact fun _ => .nil
      | cons x l ih => exact fun h => .cons (h x List.mem_cons_self) (ih fun y hy => h y (List.mem_cons_of_mem _ hy))
    exact k l fun x hx => z3 x (go pl x hx)
theorem hh_own {H : Hp} {d g : Addr} (hD : DealAt H d g) : SameN H (hh H d g) := fun a o e n => by
  obtain ⟨_, xs, m, h1, h2, _⟩ := hD
  exact hh_get e (fun z => by subst z; rw [h1] at e; cases e; exact n _ rfl) (fun z => by subst z; rw [h2] at e; cases e; exact n _ rfl)
end
end Pn

namespace Pn
open PySem PySem.Spec PyProof.Rows L2 TL
section
variable {P : Program} {w : World} {K : PySem.W.Frag} {mg : Str → Option Value} {base : Heap}
def spLaw17 (K : PySem.W.Frag) : Sp := fun vs H Q _ => ∃ (a : Addr) (ns : List Int), vs = [.ref a] ∧ SqL K H a (ns.map V.int) ∧ ns.length ≤ 63 ∧ ∀ H', Q (.bl true) H'
theorem scLaw17 : FnScope ["_law_script", "_law_deal_here", "_law_turn", "_law_filling", "_law_handed", "_law_kept", "_law_made", "_law_other", "_law_name", "_law_rows", "_law_due", "_law_odd", "_law_near", "_law_row"] ["_law_script"] (defScope sLaw17) := ⟨rfl, rfl, rfl, by decide +kernel, rfl, by decide +kernel, by decide +kernel⟩
theorem stepEndB {tt : TT} {A : TS} {D : Ends} {σ : L2.St} {H : Hp} (G : Hp → Prop) (h1 : ∀ Q : Bool → Hp → Prop, (∀ H', G H' → Q false H') → tt σ H Q) (h2 : ∀ H', G H' → D.nx σ H') : tIfS tt A tNext D σ H := h1 _ fun H' g => by
  rw [if_neg Bool.false_ne_true]
  exact h2 H' g
theorem ok_law17 (T : TK17 K mg) {f : Addr} {fd : FuncData} (F : Fun K "law" "law" sLaw17 f fd) {A : Around} (hrA : Room 13 A) (hgA : A.guards = some []) : RunAt P w K mg base A f fd ["_law_script"] (spLaw17 K) := by
  refine fun_at (k := 12) F scLaw17 hrA (fun vs H Q E h => ?_) (fun cdv s H vs Q E hr h => ?_)
  · obtain ⟨a, ns, rfl, _⟩ := h
    rfl
  · obtain ⟨a, ns, rfl, hS, hl, q⟩ := h
    have hgd : (A.deeper (PyProof.Rows.envOfC "law" (defScope sLaw17) s.heap.objs.size f cdv)).guards = some [] := hgA
    refine ⟨_, (pss_cons (ps_set (i := 1) scLaw17.nd rfl (Or.inr rfl) (pe_call T.D.okDeal (hr.mono (by decide)) rfl T.D.deal.m T.D.deal.F.kp T.D.deal.b .nil pass0 (pa_cons (pv 0) pa_nil)))
(pss_cons (ps_for PassesOwn.never rfl (pi_range1 (by rfl) T.mR (pa_cons pe_int pa_nil)) (pg_name (i := 2) scLaw17.nd rfl (Or.inl rfl))
(pss_cons (ps_set (i := 3) scLaw17.nd rfl (Or.inr rfl) (pe_callTy (cr_dictX2 rfl) (by rfl) T.F.mDict (by decide +kernel) (pa_cons (pe_lc (own := [("_law_name", 8)]) (g := gName 8) (tt := tYes) (by rfl) scLaw17.nd (pi_list (pe_call T.D.okNames (hr.mono (by decide)) rfl T.D.names.m T.D.names.F.kp T.D.names.b .nil pass0 (pa_cons (pv 1) (pa_cons pe_int pa_nil))))
 (blkOk_by (N := ["_law_script", "_law_deal_here", "_law_turn", "_law_filling", "_law_handed", "_law_kept", "_law_made", "_law_other", "_law_name", "_law_rows", "_law_due", "_law_odd", "_law_near", "_law_row"]) (sc := defScope sLaw17) (by decide +kernel)) (fun _ _ _ _ _ => (pg_name (i := 8) scLaw17.nd rfl (Or.inl rfl))) (fun _ _ _ _ _ => pts_nil) (fun _ _ _ _ _ => (pe_tup (pa_cons (pv 8) (pa_cons (pe_call (ok_drawn T.D T.mR T.drawn.F) (hr.mono (by decide)) rfl T.drawn.m T.drawn.F.kp T.drawn.b .nil pass0 (pa_cons (pv 1) (pa_cons (pe_lst (pa_cons pe_str (pa_cons pe_str (pa_cons pe_str pa_nil)))) (pa_cons pe_int pa_nil)))) pa_nil))))) pa_nil)))
(pss_cons (ps_lock (ps_setLc (i := 4) (own := [("_law_name", 8), ("_law_rows", 9)]) (g := gTup K 2 (gCons (gName 8) (gCons (gName 9) gNil))) (tt := tYes) (by rfl) scLaw17.nd rfl rfl (sw_true rfl rfl rfl (by decide +kernel)) (pi_items (pv 3))
 (blkOk_by (N := ["_law_script", "_law_deal_here", "_law_turn", "_law_filling", "_law_handed", "_law_kept", "_law_made", "_law_other", "_law_name", "_law_rows", "_law_due", "_law_odd", "_law_near", "_law_row"]) (sc := defScope sLaw17) (by decide +kernel)) (fun _ _ _ _ _ => (pg_tup (by rfl) (pgs_cons (pg_name (i := 8) scLaw17.nd rfl (Or.inl rfl)) (pgs_cons (pg_name (i := 9) scLaw17.nd rfl (Or.inl rfl)) pgs_nil)))) (fun _ _ _ _ _ => pts_nil) (fun _ _ _ _ _ => (pe_tup (pa_cons (pv 8) (pa_cons (pe_lc (own := [("_law_row", 13)]) (g := gName 13) (tt := tYes) (by rfl) scLaw17.nd (show PI _ _ _ (iList K (tVar 9)) from pi_list (pv 9))
 (blkOk_by (N := ["_law_script", "_law_deal_here", "_law_turn", "_law_filling", "_law_handed", "_law_kept", "_law_made", "_law_other", "_law_name", "_law_rows", "_law_due", "_law_odd", "_law_near", "_law_row"]) (by kernel_rfl)) (fun _ _ _ _ _ => (pg_name (i := 13) scLaw17.nd rfl (Or.inl rfl))) (fun _ _ _ _ _ => pts_nil) (fun _ _ _ _ _ => (pe_call (ok_rowOf T.R T.made.F) (hr.mono (by decide)) rfl T.made.m T.made.F.kp T.made.b .nil pass0 (pa_cons (pv 13) pa_nil)))) pa_nil))))))
(pss_cons (ps_setLc (i := 5) (own := [("_law_name", 8), ("_law_rows", 9)]) (g := gTup K 2 (gCons (gName 8) (gCons (gName 9) gNil))) (tt := tYes) (by rfl) scLaw17.nd rfl rfl (sw_true rfl rfl rfl (by decide +kernel)) (pi_list (pv 4))
 (blkOk_by (N := ["_law_script", "_law_deal_here", "_law_turn", "_law_filling", "_law_handed", "_law_kept", "_law_made", "_law_other", "_law_name", "_law_rows", "_law_due", "_law_odd", "_law_near", "_law_row"]) (sc := defScope sLaw17) (by decide +kernel)) (fun _ _ _ _ _ => (pg_tup (by rfl) (pgs_cons (pg_name (i := 8) scLaw17.nd rfl (Or.inl rfl)) (pgs_cons (pg_name (i := 9) scLaw17.nd rfl (Or.inl rfl)) pgs_nil)))) (fun _ _ _ _ _ => pts_nil) (fun _ _ _ _ _ => (pe_tup (pa_cons (pv 8) (pa_cons (pe_callTy (show CallR _ (.type "tuple") (rTupX K) from cr_tupX) (by rfl) T.F.mTup (by decide +kernel) (pa_cons (pv 9) pa_nil)) pa_nil)))))
(pss_cons (ps_par (i := 6) (j := 7) (by rfl) scLaw17.nd rfl rfl (by decide) rfl rfl (pa_cons (pe_make T.F.M (okFInit T.F) (hr.mono (by decide)) rfl T.F.mC T.F.bI .nil passX0 (pa_cons (pv 4) pa_nil)) (pa_cons (pe_make T.F.M (okFInit T.F) (hr.mono (by decide)) rfl T.F.mC T.F.bI .nil passX0 (pa_cons (pe_callTy (show CallR _ (.type "tuple") (rTupX K) from cr_tupX) (by rfl) T.F.mTup (by decide +kernel) (pa_cons (pv 5) pa_nil)) pa_nil)) pa_nil)) (by rfl))
(pss_cons (ps_for PassesOwn.never rfl (pi_list (pv 4)) (pg_tup (by rfl) (pgs_cons (pg_name (i := 8) scLaw17.nd rfl (Or.inl rfl)) (pgs_cons (pg_name (i := 9) scLaw17.nd rfl (Or.inl rfl)) pgs_nil)))
(pss_one (ps_expr (pe_bm PySem.F.plainAttrs_list PySem.F.slot_list_append PySem.F.type_list_append mt_append (pv 9) (pa_cons pe_non pa_nil)))))
(pss_cons (ps_expr (pe_bm PySem.F.plainAttrs_list PySem.F.slot_list_append PySem.F.type_list_append mt_append (pv 4) (pa_cons pe_non pa_nil)))
(pss_cons (ps_set (i := 10) scLaw17.nd rfl (Or.inl rfl) (pe_callB (show CallR _ (.builtin "sorted") (rSortedS K) from cr_sortedS) (by rfl) T.F.mSorted (by decide +kernel) (pa_cons (pe_lock (pe_lc (own := [("_law_name", 8)]) (g := gName 8) (by rfl) scLaw17.nd (pi_keys (pv 3))
 (blkOk_by (N := ["_law_script", "_law_deal_here", "_law_turn", "_law_filling", "_law_handed", "_law_kept", "_law_made", "_law_other", "_law_name", "_law_rows", "_law_due", "_law_odd", "_law_near", "_law_row"]) (sc := defScope sLaw17) (by decide +kernel)) (fun _ _ _ _ _ => (pg_name (i := 8) scLaw17.nd rfl (Or.inl rfl))) (fun _ _ _ _ _ => pts_one (pt_cmpR (show OpR _ (compareOp .NotEq) (rNilNe K) from op_nilNe hr.units0) (pe_dget (roomV hr) (pv 3) (pv 8) (fun _ _ => rfl)) (pe_lst pa_nil) (nomark _))) (fun _ _ _ _ _ => (pe_callTy (show CallR _ (.type "str") rStrF from call_strF) (by rfl) T.R.N.mStr (by decide +kernel) (pa_cons (pv 8) pa_nil))))) pa_nil)))
(pss_cons (ps_if (PW.pt (pw_or (pt_cmpR op_ne (pe_callB (call_reprD hgd hr) (by rfl) T.mRepr (by decide +kernel) (pa_cons (pe_prop (pv 6) T.F.cl T.M.names.P (ok_fNames T.M) (hr.mono (by decide)) T.M.names.b .nil pass0 rfl) pa_nil)) (pe_callB (call_reprD hgd hr) (by rfl) T.mRepr (by decide +kernel) (pa_cons (pe_callTy (show CallR _ (.type "tuple") (rTupX K) from cr_tupX) (by rfl) T.F.mTup (by decide +kernel) (pa_cons (pv 10) pa_nil)) pa_nil)) (nomark _)) (pw_or1 (pt_cmpR op_ne (pe_callTy (call_strFilK (K := K) (mg := mg) rfl rfl T.M (hr.mono (by decide))) (by rfl) T.R.N.mStr (by decide +kernel) (pa_cons (pv 6) pa_nil)) (pe_call (ok_filT T) (hr.mono (by decide)) rfl T.text.m T.text.F.kp T.text.b .nil pass0 (pa_cons (pv 3) pa_nil)) (nomark _))))) (pss_one (ps_ret pe_bl)) pss_nil)
(pss_cons (ps_for PassesOwn.never rfl (pi_list (pv 5)) (pg_tup (by rfl) (pgs_cons (pg_name (i := 8) scLaw17.nd rfl (Or.inl rfl)) (pgs_cons (pg_name (i := 9) scLaw17.nd rfl (Or.inl rfl)) pgs_nil)))
(pss_one (ps_if (PW.pt (pw_or (pt_cmpR (op_neRowsK (K := K) (mg := mg) rfl rfl T.S (hr.mono (by decide))) (pe_meth (pv 6) T.F.cl ⟨T.M.rowsFor.hs, T.M.rowsFor.hf, T.M.rowsFor.F.kp⟩ (ok_fRows T.E) (hr.mono (by decide)) T.M.rowsFor.b .nil pass0 (pa_cons (pv 8) pa_nil)) (pv 9) (nomark _)) (pw_or1 (pt_not (pt_val (pe_callB call_isi (by rfl) T.R.N.mIsi (by decide +kernel) (pa_cons (pe_meth (pv 6) T.F.cl ⟨T.M.rowsFor.hs, T.M.rowsFor.hf, T.M.rowsFor.F.kp⟩ (ok_fRows T.E) (hr.mono (by decide)) T.M.rowsFor.b .nil pass0 (pa_cons (pv 8) pa_nil)) (pa_cons (pe_bltn (v := .ty "tuple") (by rfl) T.F.mTup (by decide +kernel) rfl) pa_nil)))))))) (pss_one (ps_ret pe_bl)) pss_nil)))
(pss_cons (ps_if (PW.pt (pw_or (pt_cmpR (op_neIns (ok_fEq T.E) T.E.eq.hf (hr.mono (by decide)) T.E.eq.b pass0) (pv 6) (pv 7) (nomark _)) (pw_or (pt_cmpR (op_inOwn (ok_fEq T.E) T.E.eq.hf (hr.mono (by decide)) T.E.eq.b pass0) (pv 6) (pe_tup (pa_cons (pe_callTy (call_strFilK (K := K) (mg := mg) rfl rfl T.M (hr.mono (by decide))) (by rfl) T.R.N.mStr (by decide +kernel) (pa_cons (pv 6) pa_nil)) (pa_cons pe_non pa_nil))) rfl) (pw_or1 (pt_cmpR (op_neIns (ok_fEq T.E) T.E.eq.hf (hr.mono (by decide)) T.E.eq.b pass0) (pv 6) (pe_make T.F.M (okFInit T.F) (hr.mono (by decide)) rfl T.F.mC T.F.bI .nil passX0 (pa_cons (pe_call T.D.okMixedV (hr.mono (by decide)) rfl T.D.mixed.m T.D.mixed.F.kp T.D.mixed.b .nil pass0 (pa_cons (pv 1) (pa_cons (pv 5) pa_nil))) pa_nil)) (nomark _)))))) (pss_one (ps_ret pe_bl)) pss_nil)
(pss_cons (ps_for PassesOwn.never rfl (pi_list (pe_lst (pa_cons pe_str (pa_cons pe_str (pa_cons pe_non (pa_cons pe_int (pa_cons (pe_tup (pa_cons pe_str pa_nil)) (pa_cons (pe_lst (pa_cons pe_str pa_nil)) (pa_cons (pv 6) pa_nil))))))))) (pg_name (i := 11) scLaw17.nd rfl (Or.inl rfl))
(pss_one (ps_if (pt_cmpR (op_neRowsK (K := K) (mg := mg) rfl rfl T.S (hr.mono (by decide))) (pe_meth (pv 6) T.F.cl ⟨T.M.rowsFor.hs, T.M.rowsFor.hf, T.M.rowsFor.F.kp⟩ (ok_fRows T.E) (hr.mono (by decide)) T.M.rowsFor.b .nil pass0 (pa_cons (pv 11) pa_nil)) (pe_tup pa_nil) (nomark _)) (pss_one (ps_ret pe_bl)) pss_nil)))
(pss_cons (ps_set (i := 12) scLaw17.nd rfl (Or.inl rfl) (pe_make T.F.M (okFInit T.F) (hr.mono (by decide)) rfl T.F.mC T.F.bI .nil passX0 (pa_cons (pe_lc (own := [("_law_name", 8), ("_law_rows", 9)]) (g := gTup K 2 (gCons (gName 8) (gCons (gName 9) gNil))) (tt := tYes) (by rfl) scLaw17.nd (pi_list (pv 5))
 (blkOk_by (N := ["_law_script", "_law_deal_here", "_law_turn", "_law_filling", "_law_handed", "_law_kept", "_law_made", "_law_other", "_law_name", "_law_rows", "_law_due", "_law_odd", "_law_near", "_law_row"]) (sc := defScope sLaw17) (by decide +kernel)) (fun _ _ _ _ _ => (pg_tup (by rfl) (pgs_cons (pg_name (i := 8) scLaw17.nd rfl (Or.inl rfl)) (pgs_cons (pg_name (i := 9) scLaw17.nd rfl (Or.inl rfl)) pgs_nil)))) (fun _ _ _ _ _ => pts_nil) (fun _ _ _ _ _ => (pe_tup (pa_cons (pv 8) (pa_cons (pe_slice (show SlR _ (rSlA K) from sl_tupA) (pv 9) po_none (po_some pe_int)) pa_nil))))) pa_nil)))
(pss_cons (ps_if (pt_cmpR op_ne (pe_cmpR (op_eqIns (ok_fEq T.E) T.E.eq.hf (hr.mono (by decide)) T.E.eq.b pass0) (pv 12) (pv 6) (nomark _)) (pe_cmpR op_eq (pe_callTy (call_strFilK (K := K) (mg := mg) rfl rfl T.M (hr.mono (by decide))) (by rfl) T.R.N.mStr (by decide +kernel) (pa_cons (pv 12) pa_nil)) (pe_callTy (call_strFilK (K := K) (mg := mg) rfl rfl T.M (hr.mono (by decide))) (by rfl) T.R.N.mStr (by decide +kernel) (pa_cons (pv 6) pa_nil)) (nomark _)) (nomark _)) (pss_one (ps_ret pe_bl)) pss_nil)
(pss_one (ps_if (pt_cmpR op_ne (pe_cmpR (op_eqIns (ok_fEq T.E) T.E.eq.hf (hr.mono (by decide)) T.E.eq.b pass0) (pv 12) (pv 6) (nomark _)) (pe_cmpR (op_eqNil hr.units0) (pe_lc (own := [("_law_name", 8), ("_law_rows", 9)]) (g := gTup K 2 (gCons (gName 8) (gCons (gName 9) gNil))) (by rfl) scLaw17.nd (pi_list (pv 5))
 (blkOk_by (N := ["_law_script", "_law_deal_here", "_law_turn", "_law_filling", "_law_handed", "_law_kept", "_law_made", "_law_other", "_law_name", "_law_rows", "_law_due", "_law_odd", "_law_near", "_law_row"]) (sc := defScope sLaw17) (by decide +kernel)) (fun _ _ _ _ _ => (pg_tup (by rfl) (pgs_cons (pg_name (i := 8) scLaw17.nd rfl (Or.inl rfl)) (pgs_cons (pg_name (i := 9) scLaw17.nd rfl (Or.inl rfl)) pgs_nil)))) (fun _ _ _ _ _ => pts_one (pt_cmpR op_gt (pe_callB (show CallR _ (.builtin "len") (rLenSq K) from call_len_sq) (by rfl) T.R.N.mLen PySem.boot_len (pa_cons (pv 9) pa_nil)) pe_int (nomark _))) (fun _ _ _ _ _ => pe_int)) (pe_lst pa_nil) (nomark _)) (nomark _)) (pss_one (ps_ret pe_bl)) pss_nil))))))))))))))))
(pss_one (ps_ret (pe_and (pe_cmpR op_eq (pe_callTy (call_strFilK (K := K) (mg := mg) rfl rfl T.M (hr.mono (by decide))) (by rfl) T.R.N.mStr (by decide +kernel) (pa_cons (pe_make0 T.F.M (okFInit T.F) (hr.mono (by decide)) rfl T.F.mC T.bF T.vF passX0) pa_nil)) pe_str (nomark _)) (pe_one (pe_cmpR (op_eqIns (ok_fEq T.E) T.E.eq.hf (hr.mono (by decide)) T.E.eq.b pass0) (pe_make T.F.M (okFInit T.F) (hr.mono (by decide)) rfl T.F.mC T.F.bI .nil passX0 (pa_cons (pe_lst (pa_cons (pe_tup (pa_cons pe_str (pa_cons (pe_lst pa_nil) pa_nil))) pa_nil)) pa_nil)) (pe_make0 T.F.M (okFInit T.F) (hr.mono (by decide)) rfl T.F.mC T.bF T.vF passX0) (nomark _)))))))), ?_⟩
    have one : 1 ≤ sizeLine := by decide
    have two : 2 ≤ sizeLine := by decide
    have three : 3 ≤ sizeLine := by decide
    refine stepSet (fun v H' => ∃ d g, v = .ref d ∧ DealAt H' d g) (fun Q' hQ => ⟨_, rfl, a, ns, rfl, hS, hl, fun d g H' hD _ => hQ _ _ ⟨d, g, rfl, hD⟩⟩) (fun v H1 hC => ?r1)
    case r1 =>
    obtain ⟨d, g, rfl, hD1⟩ := hC
    try dsimp only [List.set]
    refine ⟨_, rfl, by decide, by decide, for_range (lo := 0) (n := 5) (fun j σ Hc => ∃ y2 y3 y4 y5 y6 y7 y8 y9 y10 y11 y12 y13, σ = [some (.ref a), some (.ref d), y2, y3, y4, y5, y6, y7, y8, y9, y10, y11, y12, y13] ∧ DealAt Hc d g) ⟨_, _, _, _, _, _, _, _, _, _, _, _, rfl, hD1⟩ (fun j σ Hc hj hP => ?turn) (fun σ Hc hP => ?fin)⟩
    case fin =>
      obtain ⟨y2, y3, y4, y5, y6, y7, y8, y9, y10, y11, y12, y13, rfl, hDc⟩ := hP
      try dsimp only [List.set]
      have hdb : ∀ H : Hp, TupY K H T.F.dP (([] : List Addr).map V.ref) := fun _ => .inr ⟨T.dB, rfl⟩
      dsimp only [tRet]
      dsimp only [tAndV, tOp, tCB, tMake, tCons, tNil]
      refine make_go T.F (ds := []) (.inr (hdb _)) .nil rfl List.nodup_nil (Nat.zero_le _) (fun x es Ha sa hF hc => ?_)
      obtain rfl : es = [] := canon_nil hc rfl
      refine ⟨x, [], rfl, hF, fil_none, fun Hb sb => ⟨rfl, _, rfl, iteTD (by decide +kernel) ?_⟩⟩
      refine ⟨Nat.zero_le _, fun l hl => ⟨two, fun t ht => ⟨one, fun o ho => ?_⟩⟩⟩
      have el := Same.new (o := .tup [.str "x", .ref l]) ht _ _ (upd_same (H := Hb) (a := l) (o := HO.lst []))
      have s2 := Same.new (o := .lst [.ref t]) ho
      have et := s2 _ _ (upd_same (H := upd Hb l (.lst [])) (a := t) (o := HO.tup [.str "x", .ref l]))
      refine make_go T.F (ts := [t]) (cs := [("x", l, [])]) (ds := [("x", [])]) (.inl (SqL.of upd_same)) (.cons ⟨SqT.of et, (show nameS "x" = true by decide +kernel), [], .inl (SqL.of (s2 _ _ el)), .nil, (fun _ z => nomatch z), Nat.zero_le _⟩ .nil) rfl (by simp) (by show 1 ≤ 60; decide) (fun x2 es2 Hd sd hF2 hc2 => ?_)
      obtain rfl : es2 = [] := canon_nil hc2 rfl
      refine make_go T.F (ds := []) (.inr (hdb _)) .nil rfl List.nodup_nil (Nat.zero_le _) (fun x3 es3 He se hF3 hc3 => ?_)
      obtain rfl : es3 = [] := canon_nil hc3 rfl
      refine eq_go T (hF2.same se) hF3 fil_none fil_none fun H' s' => ?_
      rw [decide_eq_true rfl]
      exact q _
    case turn =>
    obtain ⟨y2, y3, y4, y5, y6, y7, y8, y9, y10, y11, y12, y13, rfl, hDc⟩ := hP
    try dsimp only [List.set]
    refine stepSet (fun v H' => ∃ (p : Addr) (ds : List FD), v = .ref p ∧ DealAt H' d g ∧ DictAt H' p ds ∧ goodD ds) (fun Q' hQ => ?c1) (fun v H1 hC => ?r2)
    case c1 =>
      dsimp only [tCB, tCons, tNil]
      refine ⟨_, rfl, d, g, 4, rfl, hDc, by decide, fun l zs Hn nd hz hl4 hDn sn mn eln => ⟨l, rfl, ⟨_, SqL.of (hh_sub _ _ eln)⟩, fun D hD => lc_list (xs := zs.map V.str) (fun m Hm => DealAt Hm d g ∧ Mo Hn Hm ∧ Same (hh Hn d g) (hh Hm d g) ∧ ∃ (ts : List Addr) (kvs : List (Key × V)) (ds : List FD), Hm D = some (.lst (ts.map V.ref)) ∧
          Paired (fun t (kv : Key × V) => hid (dif Hn Hm) D t = some (.tup [kV kv.1, kv.2])) ts kvs ∧ Paired (DRows (hid (dif Hn Hm) D)) kvs ds ∧ ds.map (·.1) = zs.take m ∧ ∀ e ∈ ds, e.2.length ≤ 3 ∧ ∀ r ∈ e.2, goodF wFil r)
        ⟨hDn.new hD, Mo.upd, hh_new hD, [], [], [], upd_same, .nil, .nil, rfl, fun _ z => nomatch z⟩ (fun m Hm _ hP => SqL.of (hh_sub _ _ (hP.2.2.1 _ _ eln))) (fun m y Hm hy hP => ?iturn) (fun Hm hP => ?ifin)⟩⟩
      case ifin =>
        obtain ⟨hDm, mm, sm, ts, kvs, ds, hDl, pd, pk, hds, hg⟩ := hP
        rw [List.length_map, List.take_length] at hds
        have gd : goodD ds := ⟨by rw [hds]; exact nd, by rw [← List.length_map (f := (·.1)), hds]; omega, fun e he => ⟨hz _ (by rw [← hds]; exact List.mem_map_of_mem (f := (·.1)) he), hg e he⟩⟩
        refine ⟨D, ts, kvs, rfl, .inl (SqL.of hDl), paired_mono (fun _ _ e => SqT.of (dif_eq.mp (hid_sub _ _ e)).2) pd, fun p hp => ?_⟩
        rw [merge_all pk gd.1]
        refine hQ _ _ ⟨p, ds, rfl, hDm.new hp, ⟨kvs, upd_same, paired_mono (fun _ _ z => z.same fun c u e => ?_) pk⟩, gd⟩
        have c1 := (dif_eq.mp (hid_sub _ _ e)).2
        have cp : c ≠ p := fun w => by rw [w, hp] at c1; cases c1
        exact hid_get (by rw [upd_ne cp]; exact c1) cp
      case iturn =>
        obtain ⟨hDm, mm, sm, ts, kvs, ds, hDl, pd, pk, hds, hg⟩ := hP
        rw [List.getElem?_map] at hy
        obtain ⟨z, hzm, rfl⟩ := Option.map_eq_some_iff.mp hy
        have nD := hDn.nd hD
        have lts : ts.length ≤ 4 := by
          rw [paired_len pd, paired_len pk, ← List.length_map (f := (·.1)), hds, List.length_take]
          omega
        refine ⟨rfl, _, rfl, _, rfl, three, fun wl hwl => ?_⟩
        have hDw := hDm.new (o := .lst (wFil.map V.str)) hwl
        have sw := Same.new (o := .lst (wFil.map V.str)) hwl
        have ew := hh_at (o := .lst (wFil.map V.str)) hDm hwl
        refine ⟨d, g, wl, 3, wFil, rfl, hDw, SqL.of ew, by decide, by decide, by decide, fun l2 rts rs G hDG sG mG e1 e2 e3 e4 => ⟨two, fun t ht => ?_⟩⟩
        have hDl2 : G D = some (.lst (ts.map V.ref)) := hh_sub _ _ (sG _ _ (hh_get (sw _ _ hDl) nD.1 nD.2))
        have ntD : t ≠ D := fun w => by rw [w, hDl2] at ht; cases ht
        have mw : Mo Hm G := Mo.trans (Same.mo sw) mG
        have n1t : Hm t = none := mw _ ht
        have old : ∀ c u, hid (dif Hn Hm) D c = some u → hid (dif Hn (upd (upd G t (.tup [.str z, .ref l2])) D (.lst (ts.map V.ref ++ [V.ref t])))) D c = some u := fun c u e => by
          have cD := hid_ne e
          obtain ⟨c0, c1⟩ := dif_eq.mp (hid_sub _ _ e)
          have cd := hDn.nd c0
          have c2 : G c = some u := hh_sub _ _ (sG _ _ (hh_get (sw _ _ c1) cd.1 cd.2))
          exact hid_get (dif_eq.mpr ⟨c0, by rw [upd_ne cD, upd_ne (ne_of_none c2 ht)]; exact c2⟩) cD
        have fresh : ∀ c u, dif (upd Hm wl (.lst (wFil.map V.str))) G c = some u → hid (dif Hn (upd (upd G t (.tup [.str z, .ref l2])) D (.lst (ts.map V.ref ++ [V.ref t])))) D c = some u := fun c u e => by
          obtain ⟨c0, c1⟩ := dif_eq.mp e
          have c2 : Hm c = none := Same.mo sw _ c0
          have cD : c ≠ D := fun w => by rw [w, hDl] at c2; cases c2
          exact hid_get (dif_eq.mpr ⟨mm _ c2, by rw [upd_ne cD, upd_ne (ne_of_none c1 ht)]; exact c1⟩) cD
        refine ⟨ts.map V.ref, by rw [upd_ne ntD.symm]; exact hDl2, small1000 (by rw [List.length_map]; omega), (hDG.new ht).upd nD.1 nD.2, ((mm.trans mw).trans Mo.upd).trans Mo.upd, ?_, ts ++ [t], kvs ++ [(.inr z, .ref l2)], ds ++ [(z, rs)], by rw [upd_same, List.map_append]; rfl, ?_, ?_, ?_, ?_⟩
        · intro c u e
          have e5 := hh_sub _ _ e
          have e6 := sG _ _ (hh_same sw _ _ (sm _ _ e))
          obtain ⟨c1, c2, c3⟩ := hh_ne e6
          exact hh_get (by rw [upd_ne (ne_of_none e5 hD), upd_ne (ne_of_none c3 ht)]; exact c3) c1 c2
        · refine paired_snoc ?_ (paired_mono (fun _ _ e => old _ _ e) pd)
          exact hid_get (dif_eq.mpr ⟨mm _ n1t, by rw [upd_ne ntD]; exact upd_same⟩) ntD
        · refine paired_snoc ?_ (paired_mono (fun _ _ w => w.same old) pk)
          exact ⟨l2, rts, rfl, fresh _ _ e1, paired_mono (fun _ _ e => fresh _ _ (hid_sub _ _ e)) e2⟩
        · rw [List.map_append, hds, List.take_add_one, hzm]
          rfl
        · intro e he
          rcases List.mem_append.mp he with he | he
          · exact hg e he
          · rw [List.mem_singleton.mp he]
            exact ⟨e3, e4⟩
    case r2 =>
    obtain ⟨p, ds, rfl, hD1', hd1, gd⟩ := hC
    have hro := goodD_rows gd
    try dsimp only [List.set]
    obtain ⟨kvs, hp1, hkd1⟩ := id hd1
    have hkl : kvs.length = ds.length := paired_len hkd1
    have ds4 := gd.2.1
    refine stepItems (R := fun G t c => HandR T.R H1 G t c) (cs := ds) (fun v H' => ∃ (e : Addr) (ts : List Addr), v = .ref e ∧ Same H1 H' ∧ H1 e = none ∧ H' e = some (.lst (ts.map V.ref)) ∧ Paired (HandR T.R H1 (hid H' e)) ts ds) (fun s h => h.same s) (fun H R z => ⟨_, rfl, z⟩) hp1 (by omega) hkl ?tn2 ?fn2 (fun v H2 hC => ?r3)
    case fn2 =>
      intro e H' ts he s1 h1 pd
      exact ⟨e, ts, rfl, s1, he, h1, paired_mono (fun _ _ z => z.same hid_sub) pd⟩
    case tn2 =>
      intro Hf od sf hf i kv tt0 c Hi S Y hkv hci sI hT k
      obtain ⟨c', hc', l, rts, rfl, g1, g2⟩ := paired_at hkd1 hkv
      rw [hci] at hc'
      cases hc'
      have up : Same (hid H1 p) Hi := Same.trans sf sI
      have lt := paired_len g2
      obtain ⟨n1, n2, n3⟩ := gd.2.2 c (List.mem_of_getElem? hci)
      refine ⟨tt0, _, rfl, SqT.of hT, rfl, _, _, rfl, _, _, rfl, rfl, rfl, ?_⟩
      refine ⟨_, rfl, ?_⟩
      refine lcw_objs (K := K) (tl := tVar 9) (p := l) (xs := rts.map V.ref) (cs := c.2) (R := fun H t r => RowAt T.R H t r) (fun s z => RowAt.sameN s z) ?h0 (SqL.of (up _ _ g1)) (by rw [List.length_map, lt]; omega) (by rw [List.length_map, lt]) ?tni ?fni
      case h0 => exact fun R z => ⟨_, rfl, z⟩
      case tni =>
        intro m y r Hj S2 Y2 hy hr2 sJ k2
        rw [List.getElem?_map] at hy
        obtain ⟨u, hu, rfl⟩ := Option.map_eq_some_iff.mp hy
        obtain ⟨r', hr3, hrow⟩ := paired_at g2 hu
        rw [hr2] at hr3
        cases hr3
        exact ⟨rfl, _, rfl, u, r, rfl, SqT.of (sJ _ _ (up _ _ hrow)), (goodF_ok (n3 r (List.mem_of_getElem? hr2))).1, fun x H' s' hx => k2 x H' s' hx⟩
      case fni =>
        intro hl2 Hj us hhl sJ hlj pu
        refine ⟨two, fun t ht => ?_⟩
        have st := Same.new (o := .tup [.str c.1, .ref hl2]) ht
        refine k t _ (sJ.trans st) fun e ys he _ => ?_
        have hej := sJ _ _ he
        have hpj := sJ _ _ (sI _ _ hf)
        have te : t ≠ e := fun w => by rw [w, hej] at ht; cases ht
        have tp : t ≠ p := fun w => by rw [w, hpj] at ht; cases ht
        have le : hl2 ≠ e := fun w => by rw [w, he] at hhl; cases hhl
        have lp : hl2 ≠ p := fun w => by rw [w, sI _ _ hf] at hhl; cases hhl
        have ln : H1 hl2 = none := by
          cases hh1 : H1 hl2 with
          | none => rfl
          | some o =>
            rw [up _ _ (hid_get hh1 lp)] at hhl
            cases hhl
        refine ⟨hl2, us, ln, hid_get (hid_get upd_same te) tp, hid_get (hid_get (st _ _ hlj) le) lp, paired_mono (fun u r hu => ?_) pu⟩
        obtain ⟨dx, hu1⟩ := hu
        obtain ⟨gs, eg⟩ := insRow_ins T.R dx r
        refine ⟨dx, hid_get (hid_get (st _ _ hu1) fun w => ?_) fun w => ?_⟩
        · rw [w, hej, eg] at hu1
          cases hu1
        · rw [w, hpj, eg] at hu1
          cases hu1
    case r3 =>
    obtain ⟨e, ts, rfl, s12, hen, he2, pdH⟩ := hC
    have htl : ts.length = ds.length := paired_len pdH
    try dsimp only [List.set]
    refine stepSet (fun v H' => ∃ (kl : Addr) (ks : List Addr), v = .ref kl ∧ Same H2 H' ∧ H2 kl = none ∧ H' kl = some (.lst (ks.map V.ref)) ∧ Paired (FItem T.R H') ks ds) (fun Q' hQ => ?c3) (fun v H3 hC => ?r4)
    case c3 =>
      refine lcw_objD (K := K) (tl := tVar 4) (p := e) (xs := ts.map V.ref) (cs := ds) (R := fun G t c => FItem T.R G t c) (fun s h => h.same s) ?h0 (SqL.of he2) (by rw [List.length_map]; omega) (by rw [List.length_map, htl]) ?tn3 ?fn3
      case h0 => exact fun R z => ⟨_, rfl, z⟩
      case fn3 =>
        intro D H' ks hD sD hDl pd
        exact hQ _ _ ⟨D, ks, rfl, sD, hD, hDl, paired_mono (fun _ _ z => z.same hid_sub) pd⟩
      case tn3 =>
        intro m y c Hi S Y hy hc sI k
        rw [List.getElem?_map] at hy
        obtain ⟨t0, ht0, rfl⟩ := Option.map_eq_some_iff.mp hy
        obtain ⟨c', hc', hl2, us, _, g1, g2, g3⟩ := paired_at pdH ht0
        rw [hc] at hc'
        cases hc'
        have up : Same (hid H2 e) Hi := Same.trans hid_sub sI
        refine ⟨t0, _, rfl, SqT.of (up _ _ g1), rfl, _, _, rfl, _, _, rfl, rfl, rfl, ?_⟩
        refine ⟨_, rfl, _, rfl, hl2, us.map V.ref, rfl, SqL.of (up _ _ g2), fun kt H' hkt s' _ _ hX => ⟨two, fun t ht => ?_⟩⟩
        have st := Same.new (o := .tup [.str c.1, .ref kt]) ht
        refine k t _ (s'.trans st) fun D ys hDi hD2 => ?_
        have hDj := s' _ _ hDi
        have tD : t ≠ D := fun w => by rw [w, hDj] at ht; cases ht
        obtain ⟨o, od, hX1⟩ := hX
        refine ⟨kt, us, SqT.of (hid_get upd_same tD), .inl (.inr ⟨o, hid_get (st _ _ hX1) fun w => ?_⟩), paired_mono (fun u r hu => ?_) g3⟩
        · rw [w, hDj] at hX1
          cases hX1
        · refine (hu.same hid_sub).same fun c u e => ?_
          exact hid_get (st _ _ (s' _ _ (sI _ _ e))) fun w => by rw [w, hD2] at e; cases e
    case r4 =>
    obtain ⟨kl, ks, rfl, s23, hkn, hk3, pdK⟩ := hC
    try dsimp only [List.set]
    obtain ⟨cs1, pc1, ec1⟩ := hand_pairs (paired_mono (fun _ _ z => (z.same hid_sub).same s23) pdH) hro
    obtain ⟨cs2, pc2, ec2⟩ := item_pairs pdK hro
    refine ⟨_, rfl, ?_⟩
    refine make_go T.F (.inl (SqL.of (s23 _ _ he2))) pc1 ec1 gd.1 (by omega) (fun x es H4 s34 hF hc => ?_)
    refine ⟨_, rfl, kl, ks.map V.ref, rfl, SqL.of (s34 _ _ hk3), fun kp H5 hkp s45 _ _ hX => ?_⟩
    refine make_go T.F (.inr (.inl hX)) (paired_mono (fun _ _ z => z.same (s34.trans s45)) pc2) ec2 gd.1 (by omega) (fun y es' H6 s56 hF' hc' => ?_)
    obtain rfl : es = es' := canon_one gd.1 (.refl _) hc hc'
    refine ⟨_, _, rfl, ?_⟩
    try dsimp only [List.set]
    have s26 : Same H2 H6 := s23.trans (s34.trans (s45.trans s56))
    have s16 : Same H1 H6 := s12.trans s26
    have s36 : Same H3 H6 := s34.trans (s45.trans s56)
    have zN : SameN H6 (hidN H1 H2 H6) := hidN_own s26
    have z1 : Same H1 (hidN H1 H2 H6) := hidN_of s16
    have zD := hD1'.same z1
    have zd := hd1.same z1
    have zx := (hF.same (s45.trans s56)).sameN zN
    have zy := hF'.sameN zN
    have zk : hidN H1 H2 H6 kl = some (.lst (ks.map V.ref)) := hidN_new hkn (s36 _ _ hk3)
    have zp := paired_mono (fun _ _ z => (z.same s36).sameN zN) pdK
    have tup : ∀ (c : Addr) (xs : List V), H2 c = some (.tup xs) → hidN H1 H2 H6 c = some (.tup xs) := fun c xs e => zN _ _ (s26 _ _ e) fun _ z => nomatch z
    generalize hZ : hidN H1 H2 H6 = Z at zD zd zx zy zk zp tup
    have upZ : ∀ {Hx : Hp} {c : Addr} {xs : List V} {o : HO}, Same Z Hx → H1 c = none → H2 c = some (.lst xs) → Same Z (upd Hx c o) := fun {Hx c xs o} s h1 h2 => by
      rw [← hZ] at s ⊢
      exact hidN_upd s h1 h2
    have s6 : Same Z H6 := by rw [← hZ]; exact hidN_sub
    have hl3 : ∀ (c : Addr) (xs : List V), H1 c = none → H2 c = some (.lst xs) → c ≠ e → ∃ ys, H6 c = some (.lst ys) ∧ ys.length ≤ xs.length + 0 := fun c xs _ h2 _ => ⟨xs, s26 _ _ h2, Nat.le_refl _⟩
    refine ⟨_, rfl, e, rfl, ⟨_, SqL.of (s26 _ _ he2)⟩, for_list (xs := ts.map V.ref) (fun i σ Hx => ∃ y8 y9, σ = [some (.ref a), some (.ref d), some (.int (0 + (j : Int))), some (.ref p), some (.ref e), some (.ref kl), some (.ref x), some (.ref y), y8, y9, y10, y11, y12, y13] ∧ Same Z Hx ∧ Hx e = some (.lst (ts.map V.ref)) ∧
        ∀ (c : Addr) (xs : List V), H1 c = none → H2 c = some (.lst xs) → c ≠ e → ∃ ys, Hx c = some (.lst ys) ∧ ys.length ≤ xs.length + i)
      ⟨_, _, rfl, s6, s26 _ _ he2, hl3⟩ (fun i σ Hx _ hP => by obtain ⟨_, _, _, _, h, _⟩ := hP; exact SqL.of h) (fun i v σ Hx hv hP => ?turn5) (fun σ Hx hP => ?fin5)⟩
    case turn5 =>
      obtain ⟨y8, y9, rfl, sx, hxe, hls⟩ := hP
      rw [List.getElem?_map] at hv
      obtain ⟨t0, ht0, rfl⟩ := Option.map_eq_some_iff.mp hv
      have hil := (List.getElem?_eq_some_iff.mp ht0).1
      obtain ⟨c, hc0, hl2, us, hl1, g1, g2, g3⟩ := paired_at pdH ht0
      have lu := paired_len g3
      have l3 := (hro c (List.mem_of_getElem? hc0)).2.1
      have hle : hl2 ≠ e := hid_ne g2
      obtain ⟨ys, hys, lys⟩ := hls hl2 _ hl1 (hid_sub _ _ g2) hle
      refine ⟨t0, _, rfl, SqT.of (sx _ _ (tup _ _ (hid_sub _ _ g1))), rfl, _, _, rfl, _, _, rfl, rfl, ?_⟩
      try dsimp only [List.set]
      refine ⟨_, rfl, .inl ⟨rfl, _, SqL.of hys⟩, hl2, ys, .non, rfl, rfl, hys, small1000 (by rw [List.length_map] at lys; omega), _, _, rfl, upZ sx hl1 (hid_sub _ _ g2), by rw [upd_ne hle.symm]; exact hxe, fun c2 xs2 k1 k2 k3 => ?_⟩
      obtain ⟨zs, hzs, lzs⟩ := hls c2 xs2 k1 k2 k3
      by_cases w : c2 = hl2
      · subst w
        rw [hys] at hzs
        cases hzs
        exact ⟨_, upd_same, by rw [List.length_append]; exact Nat.add_le_add_right lzs 1⟩
      · exact ⟨zs, by rw [upd_ne w]; exact hzs, Nat.le_succ_of_le lzs⟩
    case fin5 =>
    obtain ⟨y8, y9, rfl, sx, hxe, _⟩ := hP
    try dsimp only [List.set]
    refine stepDrop (fun H' => Same Z H') (fun Q' hQ => ?c5) (fun H7 s7 => ?r6)
    case c5 =>
      refine ⟨_, rfl, .inl ⟨rfl, _, SqL.of hxe⟩, e, _, .non, rfl, rfl, hxe, small1000 (by rw [List.length_map]; omega), hQ _ _ (upZ sx hen he2)⟩
    case r6 =>
    clear sx hxe hl3 upZ s6 tup z1 zN s16 s26 s36 pdH pc1 ec1 pc2 ec2
    try dsimp only [List.set]
    refine stepSet (fun v H' => ∃ a2 : Addr, v = .ref a2 ∧ Same Z H' ∧ H' a2 = some (.lst ((es.map (·.1)).map V.str))) (fun Q' hQ => ?c6) (fun v H8 hC => ?r7)
    case c6 =>
      refine due_go (K := K) (k := 3) (j := 8) (ds := ds) rfl (fun _ => rfl) (fun _ => rfl) (fun _ => rfl) (zd.same s7) gd (fun es2 a2 H' hc2 s _ ha => ?_)
      obtain rfl : es = es2 := canon_one gd.1 (.refl _) hc hc2
      exact hQ _ _ ⟨a2, rfl, Same.trans s7 s, ha⟩
    case r7 =>
    obtain ⟨a2, rfl, s8, ha2⟩ := hC
    clear s7
    have fo := goodD_fil gd hc
    try dsimp only [List.set]
    refine stepNo (fun H' => Same Z H') (fun Q' hQ => ?c7) (fun H9 s9 => ?r8)
    case c7 =>
      have nm4 : (es.map (·.1)).length ≤ 4 := by
        rw [hc.1.length_eq]
        exact due_few gd
      have nmt : Telling (.tuple ((es.map (·.1)).map PyData.str)) := names_told nm4 fun z hz => by
        obtain ⟨c, hce, rfl⟩ := List.mem_map.mp hz
        exact (gd.2.2 c (hc.2.2 c hce)).1
      have x8 := zx.same s8
      obtain ⟨dxx, tpx, psx, hx0, _⟩ := id x8
      refine ⟨_, rfl, x, dxx, _, rfl, hx0, x, es, rfl, x8, fo.1, fun tp H' s9 htp => ?_⟩
      have htp2 : SqT K H' tp ((es.map (·.1)).map V.str) := by
        rw [List.map_map]
        exact htp
      refine reprD_go (.tup htp2 (dp_strL _)) nmt ?_
      refine ⟨_, rfl, a2, _, rfl, SqL.of (s9 _ _ ha2), fun l H3 hl s10 _ _ hX => ?_⟩
      refine reprD_go (.tup hX.sqt (dp_strL _)) nmt ?_
      refine ⟨rfl, _, rfl, iteFB (by simp) ?_⟩
      have s03 := Same.trans s8 (Same.trans s9 s10)
      refine ⟨_, rfl, x, es, rfl, zx.same s03, fo, fun H4 s11 => ?_⟩
      have s04 := Same.trans s03 s11
      refine ⟨_, rfl, p, ds, rfl, zd.same s04, gd, fun es2 H5 hc2 s12 => ?_⟩
      obtain rfl : es = es2 := canon_one gd.1 (.refl _) hc hc2
      refine ⟨rfl, _, rfl, ?_⟩
      rw [show (!decide (V.str (filText es) = V.str (filText es))) = false by simp]
      exact hQ _ (Same.trans s04 s12)
    case r8 =>
    clear s8 ha2
    try dsimp only [List.set]
    have lks : ks.length = ds.length := paired_len pdK
    refine ⟨_, rfl, kl, rfl, ⟨_, SqL.of (s9 _ _ zk)⟩, for_list (xs := ks.map V.ref) (fun i σ Hx => ∃ y8 y9, σ = [some (.ref a), some (.ref d), some (.int (0 + (j : Int))), some (.ref p), some (.ref e), some (.ref kl), some (.ref x), some (.ref y), y8, y9, some (.ref a2), y11, y12, y13] ∧ Same Z Hx)
      ⟨_, _, rfl, s9⟩ (fun i σ Hx _ hP => by obtain ⟨_, _, _, h⟩ := hP; exact SqL.of (h _ _ zk)) (fun i v σ Hx hv hP => ?turn9) (fun σ Hx hP => ?fin9)⟩
    case turn9 =>
      obtain ⟨y8, y9, rfl, sx⟩ := hP
      rw [List.getElem?_map] at hv
      obtain ⟨t0, ht0, rfl⟩ := Option.map_eq_some_iff.mp hv
      obtain ⟨c, hc0, kt, us, g1, g2, g3⟩ := paired_at zp ht0
      have hcd := List.mem_of_getElem? hc0
      refine ⟨t0, _, rfl, Same.sqt sx g1, rfl, _, _, rfl, _, _, rfl, rfl, ?_⟩
      try dsimp only [List.set]
      refine stepEndB (fun H' => Same Z H') (fun Q' hQ => ?_) (fun H' s' => ⟨_, _, rfl, s'⟩)
      have x8 := zx.same sx
      obtain ⟨dxx, tpx, psx, hx0, _⟩ := id x8
      have v1 : ∀ r ∈ c.2, rowValid r := fun r hr => (goodF_ok ((gd.2.2 c hcd).2.2 r hr)).1
      refine ⟨_, rfl, x, dxx, _, rfl, hx0, fil_nof, _, rfl, ?_⟩
      dsimp only [tNil]
      refine rows_go x8 gd hc hcd fun r1 us1 H' s1 h1 h2 => ?_
      refine ⟨_, rfl, r1, kt, us1, us, c.2, c.2, rfl, rfl, h1, Same.sqt (Same.trans sx s1) g2, h2, paired_mono (fun _ _ z => z.same (Same.trans sx s1)) g3, v1, v1, fun H2' s2 => ?_⟩
      refine ⟨_, rfl, iteFB (by simp) ?_⟩
      have s02 := Same.trans sx (Same.trans s1 s2)
      have x9 := zx.same s02
      obtain ⟨dx2, tp2, ps2, hx2, _⟩ := id x9
      refine ⟨_, rfl, x, dx2, _, rfl, hx2, fil_nof, _, rfl, ?_⟩
      dsimp only [tNil]
      refine rows_go x9 gd hc hcd fun r2 us2 H3' s3 h3 h4 => ?_
      refine ⟨_, .ty "tuple", _, _, true, rfl, .ty _, sqt_ty h3, ?_, _, rfl, ?_⟩
      · exact kit_ty (by decide +kernel : kitB "tuple" "tuple" = some true)
      · exact hQ _ (Same.trans s02 s3)
    case fin9 =>
    clear y8 y9 s9
    obtain ⟨y8, y9, rfl, s9⟩ := hP
    try dsimp only [List.set]
    have nkd : kl ≠ d ∧ kl ≠ g := (hD1'.same s12).nd hkn
    have ux : FilI T.F (hh Z d g) x es := zx.sameN (hh_own zD)
    have uk : hh Z d g kl = some (.lst (ks.map V.ref)) := hh_get zk nkd.1 nkd.2
    have up10 := paired_mono (fun _ _ z => FItem.sameN (hh_own zD) z) zp
    refine stepNo (fun H' => DealAt H' d g ∧ Same (hh Z d g) (hh H' d g)) (fun Q' hQ => ?c10) (fun H10 hC => ?r11)
    case c10 =>
      have x8 := zx.same s9
      refine ⟨_, rfl, _, rfl, ?_⟩
      refine ne_go T x8 (zy.same s9) fo rfl fun H' s1 => ?_
      refine ⟨_, rfl, iteF ?_⟩
      have s01 := Same.trans s9 s1
      refine ⟨_, rfl, _, rfl, x, es, rfl, zx.same s01, fo, fun H2' s2 => ⟨two, fun l hlf => ?_⟩⟩
      have s02 := Same.trans s01 (Same.trans s2 (Same.new (o := .tup [.str (filText es), .non]) hlf))
      refine in_go T (zx.same s02) fo (SqT.of upd_same) ?_
      refine ⟨_, rfl, iteF ?_⟩
      generalize upd H2' l (.tup [.str (filText es), .non]) = G at s02
      have gD := zD.same s02
      have gk : hh G d g kl = some (.lst (ks.map V.ref)) := hh_get (s02 _ _ zk) nkd.1 nkd.2
      refine ⟨_, rfl, _, rfl, _, rfl, d, g, kl, ks.map V.ref, rfl, gD, SqL.of gk, by rw [List.length_map]; omega, fun ml zs G2 perm hD2 sG mG eml => ?_⟩
      have up2 : Same (hh Z d g) (hh G2 d g) := Same.trans (hh_same s02) sG
      obtain ⟨ks2, ds2, rfl, pm2, pd2⟩ := perm_items up10 perm
      obtain ⟨cs3, pc3, ec3⟩ := item_pairs (paired_mono (fun _ _ z => (z.same up2).same hh_sub) pd2) (goodD_rows (goodD_perm gd pm2))
      dsimp only [tNil]
      refine make_go T.F (.inl (SqL.of (hh_sub _ _ eml))) pc3 ec3 (goodD_perm gd pm2).1 (Nat.le_trans (goodD_perm gd pm2).2.1 (by decide)) (fun u es3 G3 s3 hF3 hc3 => ?_)
      obtain rfl : es = es3 := canon_one gd.1 pm2 hc hc3
      have x9 : FilI T.F G3 x es := ((ux.same up2).same hh_sub).same s3
      refine ne_go T x9 hF3 fo rfl fun H' s1 => ?_
      refine ⟨_, rfl, hQ _ ⟨(hD2.same s3).same s1, Same.trans up2 (Same.trans (hh_same s3) (hh_same s1))⟩⟩
    case r11 =>
    obtain ⟨hD10, s10⟩ := hC
    generalize hh Z d g = U at s10 ux uk up10
    have s11 : Same U H10 := Same.trans s10 hh_sub
    clear s10
    try dsimp only [List.set]
    have seven : 7 ≤ sizeLine := by decide
    refine ⟨one, fun t1 ht1 => ⟨one, fun l1 hl1 => ⟨_, rfl, seven, fun o ho => ?_⟩⟩⟩
    have sG := Same.trans s11 (Same.trans (Same.new (o := .tup [.str "f"]) ht1) (Same.trans (Same.new (o := .lst [.str "f"]) hl1) (Same.new (o := .lst [.str "zzzy", .str "", .non, .int 3, .ref t1, .ref l1, .ref x]) ho)))
    have gt : (upd (upd (upd H10 t1 (.tup [.str "f"])) l1 (.lst [.str "f"])) o (.lst [.str "zzzy", .str "", .non, .int 3, .ref t1, .ref l1, .ref x])) t1 = some (.tup [.str "f"]) := Same.new ho _ _ (Same.new hl1 _ _ upd_same)
    have gl : (upd (upd (upd H10 t1 (.tup [.str "f"])) l1 (.lst [.str "f"])) o (.lst [.str "zzzy", .str "", .non, .int 3, .ref t1, .ref l1, .ref x])) l1 = some (.lst [.str "f"]) := Same.new ho _ _ upd_same
    have go : (upd (upd (upd H10 t1 (.tup [.str "f"])) l1 (.lst [.str "f"])) o (.lst [.str "zzzy", .str "", .non, .int 3, .ref t1, .ref l1, .ref x])) o = some (.lst [.str "zzzy", .str "", .non, .int 3, .ref t1, .ref l1, .ref x]) := upd_same
    have gD : DealAt (upd (upd (upd H10 t1 (.tup [.str "f"])) l1 (.lst [.str "f"])) o (.lst [.str "zzzy", .str "", .non, .int 3, .ref t1, .ref l1, .ref x])) d g := ((hD10.new ht1).new hl1).new ho
    generalize upd (upd (upd H10 t1 (.tup [.str "f"])) l1 (.lst [.str "f"])) o (.lst [.str "zzzy", .str "", .non, .int 3, .ref t1, .ref l1, .ref x]) = G at sG gt gl go gD ⊢
    clear ho hl1 ht1
    have hodd : ∀ v ∈ [V.str "zzzy", .str "", .non, .int 3, .ref t1, .ref l1, .ref x], ∀ Hx, Same G Hx → (∃ z : Str, v = .str z ∧ PyData.strOk z = true ∧ z ∉ names16) ∨ (∃ e : PyData, Dp K Hx v e ∧ SeqAt.shaped e = true ∧ ∀ s, e ≠ .str s) ∨ (v = .ref x ∧ PySem.W.subIn K (.ref T.F.C) (.type "str") = some false) := by
      intro v hv Hx sx
      simp only [List.mem_cons, List.not_mem_nil, or_false] at hv
      rcases hv with rfl | rfl | rfl | rfl | rfl | rfl | rfl
      · exact .inl ⟨_, rfl, by decide +kernel, by decide +kernel⟩
      · exact .inl ⟨_, rfl, by decide +kernel, by decide +kernel⟩
      · exact .inr (.inl ⟨.none, .non, rfl, fun _ z => nomatch z⟩)
      · exact .inr (.inl ⟨.int 3, .int 3, rfl, fun _ z => nomatch z⟩)
      · exact .inr (.inl ⟨.tuple [.str "f"], .tup (SqT.of (sx _ _ gt)) (.cons (.str _) .nil), by decide +kernel, fun _ z => nomatch z⟩)
      · exact .inr (.inl ⟨.list [.str "f"], .lst (SqL.of (sx _ _ gl)) (.cons (.str _) .nil), by decide +kernel, fun _ z => nomatch z⟩)
      · exact .inr (.inr ⟨rfl, T.subS⟩)
    refine ⟨o, rfl, ⟨_, SqL.of go⟩, for_list (xs := [.str "zzzy", .str "", .non, .int 3, .ref t1, .ref l1, .ref x]) (fun i σ Hx => ∃ y11, σ = [some (.ref a), some (.ref d), some (.int (0 + (j : Int))), some (.ref p), some (.ref e), some (.ref kl), some (.ref x), some (.ref y), y8, y9, some (.ref a2), y11, y12, y13] ∧ Same G Hx)
      ⟨_, rfl, Same.refl _⟩ (fun i σ Hx _ hP => by obtain ⟨_, _, h⟩ := hP; exact SqL.of (h _ _ go)) (fun i v σ Hx hv hP => ?turn11) (fun σ Hx hP => ?fin11)⟩
    case turn11 =>
      obtain ⟨y11, rfl, sx⟩ := hP
      have hvm := List.mem_of_getElem? hv
      try dsimp only [List.set]
      refine stepEndB (fun H' => Same G H') (fun Q' hQ => ?_) (fun H' s' => ⟨_, rfl, s'⟩)
      have x8 := ux.same (Same.trans sG sx)
      obtain ⟨dxx, tpx, psx, hx0, _⟩ := id x8
      refine ⟨_, rfl, x, dxx, _, rfl, hx0, fil_nof, _, rfl, ?_⟩
      dsimp only [tNil]
      refine none_go x8 gd hc (hodd v hvm Hx sx) fun r1 H' s1 h1 => ⟨Nat.zero_le _, fun t ht => ?_⟩
      have st := Same.new (o := .tup []) ht
      refine ⟨r1, t, [], [], [], [], rfl, rfl, Same.sqt st h1, SqT.of upd_same, .nil, .nil, (fun _ z => nomatch z), (fun _ z => nomatch z), fun H2' s2 => ?_⟩
      exact ⟨_, rfl, hQ _ (Same.trans sx (Same.trans s1 (Same.trans st s2)))⟩
    case fin11 =>
    obtain ⟨y11, rfl, sx⟩ := hP
    have gD2 := gD.same sx
    have s12' := Same.trans sG sx
    clear hodd go gt gl gD sx sG s11 hD10
    generalize hHx : Hx = H12 at gD2 s12' ⊢
    clear hHx
    try dsimp only [List.set]
    refine stepSet (fun v H' => ∃ u : Addr, v = .ref u ∧ Same H12 H' ∧ FilI T.F H' u (es.map tk)) (fun Q' hQ => ?c12) (fun v H13 hC => ?r13)
    case c12 =>
      dsimp only [tMake, tCons, tNil]
      refine lcw_objD (K := K) (tl := tVar 5) (p := kl) (xs := ks.map V.ref) (cs := ds.map tk) (R := fun G t c => FItem T.R G t c) (fun s h => h.same s) ?h0 (SqL.of (s12' _ _ uk)) (by rw [List.length_map]; omega) (by rw [List.length_map, List.length_map, lks]) ?tn12 ?fn12
      case h0 => exact fun R z => ⟨_, rfl, z⟩
      case fn12 =>
        intro D H' ns2 hD sD hDl pd
        obtain ⟨cs3, pc3, ec3⟩ := item_pairs (paired_mono (fun _ _ z => z.same hid_sub) pd) (goodD_rows (goodD_tk gd))
        refine make_go T.F (.inl (SqL.of hDl)) pc3 ec3 (goodD_tk gd).1 (Nat.le_trans (goodD_tk gd).2.1 (by decide)) (fun u es3 G3 s3 hF3 hc3 => ?_)
        obtain rfl : es.map tk = es3 := canon_one (goodD_tk gd).1 (.refl _) (canon_tk hc) hc3
        exact hQ _ _ ⟨u, rfl, sD.trans s3, hF3⟩
      case tn12 =>
        intro m v c Hi S Y hy hci sI k
        rw [List.getElem?_map] at hy hci
        obtain ⟨t0, ht0, rfl⟩ := Option.map_eq_some_iff.mp hy
        obtain ⟨c0, hc0, rfl⟩ := Option.map_eq_some_iff.mp hci
        obtain ⟨c', hc', kt, us, g1, g2, g3⟩ := paired_at up10 ht0
        rw [hc0] at hc'
        cases hc'
        have up := Same.trans s12' sI
        refine ⟨t0, _, rfl, Same.sqt up g1, rfl, _, _, rfl, _, _, rfl, rfl, rfl, ?_⟩
        refine ⟨_, rfl, _, rfl, _, rfl, sl1_go (Same.sqt up g2) fun b H' s' hb => ⟨two, fun t ht => ?_⟩⟩
        have st := Same.new (o := .tup [.str c0.1, .ref b]) ht
        refine k t _ (s'.trans st) fun D ys hDi hD2 => ?_
        rw [← List.map_take] at hb
        exact FItem.sameN (hid_list (st _ _ (s' _ _ hDi))) ⟨b, us.take 1, SqT.of upd_same, Same.sqt st hb, paired_take1 (paired_mono (fun _ _ z => z.same (Same.trans up (Same.trans s' st))) g3)⟩
    case r13 =>
    obtain ⟨u, rfl, s13, hN⟩ := hC
    have fo2 := goodD_fil (goodD_tk gd) (canon_tk hc)
    have s13' := Same.trans s12' s13
    have gD3 := gD2.same s13
    try dsimp only [List.set]
    refine stepNo (fun H' => Same H13 H') (fun Q' hQ => ?c13) (fun H14 s14 => ?r14)
    case c13 =>
      refine ⟨_, rfl, _, rfl, ?_⟩
      refine eq_go T hN (ux.same s13') fo2 fo fun H' s1 => ?_
      refine ⟨_, rfl, u, _, rfl, hN.same s1, fo2, fun H2' s2 => ?_⟩
      refine ⟨_, rfl, x, es, rfl, ux.same (Same.trans s13' (Same.trans s1 s2)), fo, fun H3' s3 => ?_⟩
      refine ⟨rfl, rfl, _, rfl, ?_⟩
      rw [bl_same]
      exact hQ _ (Same.trans s1 (Same.trans s2 s3))
    case r14 =>
    have s14' := Same.trans s13' s14
    have hN2 := hN.same s14
    have gD4 := gD3.same s14
    try dsimp only [List.set]
    refine stepEndB (fun H' => Same H14 H') (fun Q' hQ => ?c14) (fun H' s' => ⟨_, _, _, _, _, _, _, _, _, _, _, _, rfl, gD4.same s'⟩)
    case c14 =>
      refine ⟨_, rfl, _, rfl, ?_⟩
      refine eq_go T hN2 (ux.same s14') fo2 fo fun H' s1 => ?_
      refine lcw_list (K := K) (tl := tVar 5) (p := kl) (xs := ks.map V.ref) (out := fun i => (ds[i]?).bind fun d => if 1 < d.2.length then some (V.int 1) else none) ?h0 (SqL.of (Same.trans s14' s1 _ _ uk)) (by rw [List.length_map]; omega) ?tn14 ?fn14
      case h0 => exact fun R z => ⟨_, rfl, z⟩
      case tn14 =>
        intro m v Hi S Y hy sI h0 h1
        rw [List.getElem?_map] at hy
        obtain ⟨t0, ht0, rfl⟩ := Option.map_eq_some_iff.mp hy
        obtain ⟨c, hc0, kt, us, g1, g2, g3⟩ := paired_at up10 ht0
        have up := Same.trans (Same.trans s14' s1) sI
        have lu := paired_len g3
        have oc : (fun i => (ds[i]?).bind fun d : FD => if 1 < d.2.length then some (V.int 1) else none) m = if 1 < c.2.length then some (V.int 1) else none := by
          show (ds[m]?).bind _ = _
          rw [hc0]
          rfl
        refine ⟨t0, _, rfl, Same.sqt up g1, rfl, _, _, rfl, _, _, rfl, rfl, rfl, ?_⟩
        refine ⟨_, rfl, kt, us.map V.ref, rfl, .inr (Same.sqt up g2), ?_⟩
        refine ⟨_, _, rfl, rfl, _, rfl, ?_⟩
        by_cases hz : 1 < c.2.length
        · rw [if_pos hz] at oc
          rw [if_pos (by rw [List.length_map, lu]; exact decide_eq_true (by omega))]
          exact h1 _ oc _ (Same.refl _)
        · rw [if_neg hz] at oc
          rw [if_neg (by rw [List.length_map, lu]; simp only [decide_eq_true_iff]; omega)]
          exact h0 oc _ (Same.refl _)
      case fn14 =>
        intro D H' hD sD hDl
        rw [List.length_map, lks, out_filter] at hDl
        refine ⟨Nat.zero_le _, fun n hn => ?_⟩
        have sn := Same.new (o := .lst []) hn
        refine ⟨D, n, _, rfl, rfl, SqL.of (sn _ _ hDl), SqL.of upd_same, rfl, _, rfl, ?_⟩
        rw [near_eq gd hc]
        generalize (List.filterMap (fun d : FD => if 1 < d.2.length then some (V.int 1) else none) ds).isEmpty = z
        rw [show (!decide (V.bl z = V.bl z)) = false by simp]
        exact hQ _ (Same.trans s1 (Same.trans sD sn))
end
end Pn

namespace Pn
open PySem PySem.Spec PyProof.Rows L2
/-- the goal that the short head leaves, from the law's promise at callerA -/
theorem walk_gE {l : PySem.W.OpenLaw} {n : Nat} {q : Program} {loose : List Str} {XP : (Str → Option Value) → Heap → Prop} {YP : World → Heap → Prop} {d : DefRec} {x : Str}
    (hn : l.most = some n) (hn2 : n ≤ sizeLine) (hdf : d.params.defaults = [])
    (F : ∀ (w : World) (mg : Str → Option Value) (fa : Addr) (h : Heap), YP w h → h.Ns mainGlobals mg → mg d.name = some (.ref fa) →
      ∃ (K : PySem.W.Frag) (fd : FuncData) (sp : Sp), K.In h ∧ (∀ (s : Shared) (u : Value), BindsTo s fd ⟨[u], []⟩ [(x, u)]) ∧
        (∀ (H : Hp) (a : Addr) (ns : List Int), ns.length ≤ n → SqL K H a (ns.map V.int) → sp [.ref a] H (fun v _ => v = .bl true) fun _ _ _ => False) ∧
        ∀ base : Heap, K.In base → base.Ns mainGlobals mg → RunAt l.prog w K mg base callerA fa fd [x] sp) :
    PySem.W.WalkO q loose XP YP l.row.toRowW d [] (fun f vs => PySem.call f vs) := by
  refine Att.attach_call hn hdf fun w s₀ s₁ mg mb fa o pm cd doc a vs ns G Y ho hd hcd hmg hobj hints hlen hg => ?_
  obtain ⟨K, fd, sp, KX, hb, hsp, hF⟩ := F w mg fa _ Y G.T.g hmg
  obtain ⟨H, hO, hS, hok, hA⟩ := law_track (P := l.prog) (w := w) KX hobj hints (Nat.le_trans hlen hn2)
  obtain ⟨kin, hns, e0⟩ := law_env KX G.T.g G.T.b G.T.builtins G.T.nolimit hg hobj hok hA
  refine codeAny_mono (hF _ kin hns s₁ H [.ref a] [.ref a] (fun v _ => v = .bl true) (fun _ _ _ => False) e0 (hb s₁ (.ref a)) (.cons rfl .nil) (hsp H a ns hlen hS)) fun r s' h => ?_
  cases r with
  | error e => exact False.elim h
  | ok fl =>
    cases fl with
    | next => exact False.elim h
    | brk => exact False.elim h
    | cont => exact False.elim h
    | ret u =>
      obtain ⟨v, H', os, bare, un, hok', rv, hv⟩ := h
      cases (show v = V.bl true from hv)
      cases (show u = Value.bool true from rv)
      refine ⟨rfl, OldK.of_keep fun b o e => ?_, os, bare⟩
      rcases hO b with z | ⟨ob, xs, z⟩
      · exact un.keep b o e z (by intro z; cases (show b ∈ ([] : List Addr) from z)) (by simp)
      · obtain ⟨e1, _⟩ := hok b _ z
        obtain ⟨e2, _⟩ := hok' b _ (un.frzs b ob _ z)
        cases e.symm.trans e1
        exact e2
end Pn

namespace Pn
open PySem PySem.Spec PyProof.Rows L2
/-! ### what the top leaves: asked in one run -/
/-- a def that is asked for: where it lies, its names, its statement, its defaults -/
structure DefQ where
  loc : PySem.W.Frag → Addr
  nm : Str
  ql : Str
  st : Stmt
  dv : List He.Dv := []
abbrev FnQ : Type := Option (Str × Str × Addr × Addr × Arguments × FuncBody × Scope × List (Str × Addr))
def fnSeen (K : PySem.W.Frag) (a : Addr) : FnQ := match K.lookup a with
  | some ⟨_, _, .func q, _⟩ => some (q.qualname, q.name, q.builtins, q.globals, q.params, q.body, q.scope, q.closure)
  | _ => none
def DefQ.is (d : DefQ) : FnQ := some (d.ql, d.nm, builtinsNs, mainGlobals, defArgs d.st, .stmts (defBody d.st), defScope d.st, [])
def DefQ.vals (d : DefQ) (K : PySem.W.Frag) : List V := d.dv.map (He.Dv.v K)
def DefQ.good (K : PySem.W.Frag) (d : DefQ) : Bool := match K.lookup (d.loc K) with
  | some ⟨_, _, .func q, _⟩ => PySem.W.keepIn K (.ref (d.loc K)) && (PySem.W.codeIn K q.code d.ql && He.dflB K q.defaults (d.vals K))
  | _ => false
theorem DefQ.funD {K : PySem.W.Frag} {d : DefQ} (e : fnSeen K (d.loc K) = d.is) (c : d.good K = true) : ∃ fd, FunD K d.nm d.ql (defArgs d.st) (defBody d.st) (defScope d.st) (d.vals K) [] (d.loc K) fd := by
  unfold DefQ.good at c
  unfold fnSeen at e
  cases hl : K.lookup (d.loc K) with
  | none => rw [hl] at c; cases c
  | some o =>
    obtain ⟨oc, od, dat, sl⟩ := o
    rw [hl] at c e
    cases dat with
    | func q =>
      obtain ⟨a1, a2, a3, a4, a5, a6, a7, a8, a9, b1, b2, b3, b4, b5, b6⟩ := q
      have e2 : (some (a2, a1, b6, a6, a3, a4, a5, a7) : FnQ) = some (d.ql, d.nm, builtinsNs, mainGlobals, defArgs d.st, .stmts (defBody d.st), defScope d.st, []) := e
      injection e2 with e2
      obtain ⟨rfl, rfl, rfl, rfl, rfl, rfl, rfl, rfl⟩ : a2 = d.ql ∧ a1 = d.nm ∧ b6 = builtinsNs ∧ a6 = mainGlobals ∧ a3 = defArgs d.st ∧ a4 = .stmts (defBody d.st) ∧ a5 = defScope d.st ∧ a7 = [] := by simpa using e2
      have c2 : (PySem.W.keepIn K (.ref (d.loc K)) && (PySem.W.codeIn K b4 d.ql && He.dflB K a8 (d.vals K))) = true := c
      rw [Bool.and_eq_true, Bool.and_eq_true] at c2
      exact ⟨_, ⟨oc, od, a8, a9, b1, b2, b3, b4, b5, sl, rfl, hl, c2.2.1, He.dflB_ok c2.2.2, .inl rfl⟩, c2.1⟩
    | _ => cases c
theorem fun_of {K : PySem.W.Frag} {x ql : Str} {st : Stmt} {f : Addr} {fd : FuncData} (F : FunD K x ql (defArgs st) (defBody st) (defScope st) [] [] f fd) : Fun K x ql st f fd := by
  obtain ⟨⟨oc, od, dV, kV, doc, pm, an, cdv, ct, sl, e, hl, hc, hd, _⟩, hk⟩ := F
  rcases hd with ⟨_, rfl⟩ | ⟨h, _⟩
  · exact ⟨⟨oc, od, kV, doc, pm, an, cdv, ct, sl, e, hl, hc⟩, hk⟩
  · exact absurd rfl h
abbrev Ask : Type := PySem.W.Frag → Bool
def askQ (fn : List DefQ) (ex : List (List Ask)) (K : PySem.W.Frag) : Bool × List FnQ := ((fn.all fun d => d.good K) && ex.all fun l => l.all fun f => f K, fn.map fun d => fnSeen K (d.loc K))
def toldQ (fn : List DefQ) : Bool × List FnQ := (true, fn.map DefQ.is)
/-- what an object leads to: a def's code and defaults, a class's own names, what a tuple or a dict holds -/
def leadsQ (o : Obj) : List Addr := match o.data with
  | .func q => He.refV q.code ++ He.refV q.defaults
  | .cls q => [q.ns]
  | .dict es _ => es.toList.flatMap fun z => He.refV z.val
  | .seq us _ => us.toList.flatMap He.refV
  | .fields us => us.toList.flatMap He.refV
  | _ => []
def levQ (g : Addr → Option Obj) : Nat → List Addr → List Addr
  | 0, as => as
  | n + 1, as => as ++ levQ g n (as.flatMap fun a => match g a with
    | some o => leadsQ o
    | none => [])
/-- the part of the heap that is looked at -/
def partQ (n : Nat) (g : Addr → Option Obj) : PySem.W.Frag := He.frG g (cStatics :: levQ g n [mainGlobals])
def hookQ (n : Nat) (fn : List DefQ) (ex : List (List Ask)) : PySem.W.Hook where
  α := Bool × List FnQ
  obs := fun s => askQ fn ex (partQ n s.heap.get?)
  val := fun _ => toldQ fn
  says := fun _ h => ∃ K : PySem.W.Frag, K.In h ∧ askQ fn ex K = toldQ fn
  of := fun _ _ e => ⟨_, He.frG_in, e⟩
  keeps := fun _ _ _ h k => by
    obtain ⟨K, hK, c⟩ := h
    exact ⟨K, PySem.W.Frag.In.keeps hK k, c⟩
def seenQ (n : Nat) (fn : List DefQ) (ex : List (List Ask)) (s : PySem.W.SharedT) : Bool × List FnQ := askQ fn ex (partQ n (HandSHeadRun.getT s))
theorem seenQ_eq (n : Nat) (fn : List DefQ) (ex : List (List Ask)) (s : PySem.W.SharedT) : seenQ n fn ex s = (hookQ n fn ex).obs s.abs := by
  have e : HandSHeadRun.getT s = s.abs.heap.get? := funext (HandSHeadRun.getT_eq s)
  unfold seenQ
  rw [e]
  rfl
section
variable {fn : List DefQ} {ex : List (List Ask)} {K : PySem.W.Frag}
theorem told_at (c : askQ fn ex K = toldQ fn) (i j : Nat) {l : List Ask} {f : Ask} (hl : ex[i]? = some l := by rfl) (hf : l[j]? = some f := by rfl) : f K = true := by
  have h := congrArg (fun z : Bool × List FnQ => z.1) c
  have h2 : ((fn.all fun d => d.good K) && ex.all fun l => l.all fun f => f K) = true := h
  rw [Bool.and_eq_true, List.all_eq_true, List.all_eq_true] at h2
  exact List.all_eq_true.mp (h2.2 l (List.mem_of_getElem? hl)) f (List.mem_of_getElem? hf)
theorem told_fn (c : askQ fn ex K = toldQ fn) (i : Nat) {d : DefQ} (hd : fn[i]? = some d := by rfl) : ∃ fd, FunD K d.nm d.ql (defArgs d.st) (defBody d.st) (defScope d.st) (d.vals K) [] (d.loc K) fd := by
  have h := congrArg (fun z : Bool × List FnQ => z.1) c
  have h2 : ((fn.all fun d => d.good K) && ex.all fun l => l.all fun f => f K) = true := h
  rw [Bool.and_eq_true, List.all_eq_true] at h2
  have h3 : fn.map (fun d => fnSeen K (d.loc K)) = fn.map DefQ.is := congrArg (fun z : Bool × List FnQ => z.2) c
  have h4 := congrArg (fun l : List FnQ => l[i]?) h3
  simp only [List.getElem?_map, hd, Option.map_some] at h4
  exact DefQ.funD (Option.some.inj h4) (h2.1 d (List.mem_of_getElem? hd))
end
/-- an own exception class -/
def excQ (K : PySem.W.Frag) (C : Addr) (nid : String) : Bool := match K.lookup C with
  | some ⟨.type t, _, .cls cd, sl⟩ => decide (t = "type") && (cd.hasDict && (!cd.hasDel && ((match cd.mro with
    | .ref D :: bm => decide (D = C) && PySem.HandSPX.refsVE bm
    | _ => false) && (match sl.toList with
    | [_, _, _, _, some (.builtin n), _] => decide (n = nid)
    | _ => false))))
  | _ => false
theorem excQ_ok {K : PySem.W.Frag} {C : Addr} {nid : String} (h : excQ K C nid = true) : ∃ nm q N bs bm sn sub ab col dd k0 k1 k2 k3 k5, K.lookup C = some (excClassObj nm q C N bs bm true sn sub ab col dd k0 k1 k2 k3 k5 nid) ∧ PySem.HandSPX.refsVE bm = true := by
  unfold excQ at h
  split at h
  · rename_i t dd cd sl hl
    rw [Bool.and_eq_true, Bool.and_eq_true, Bool.and_eq_true, Bool.and_eq_true] at h
    obtain ⟨h1, h2, h3, h4, h5⟩ := h
    split at h4
    · rename_i D bm hm
      split at h5
      · rename_i k0 k1 k2 k3 n k5 hs
        rw [Bool.and_eq_true] at h4
        obtain ⟨h6, h7⟩ := h4
        have e1 := of_decide_eq_true h1
        have e2 := of_decide_eq_true h6
        have e3 := of_decide_eq_true h5
        obtain ⟨nm, bs, mro, ns, qn, hd, sn, sub, ab, col, del⟩ := cd
        simp only at hm h2 h3
        have e4 : del = false := by simpa using h3
        have e5 : sl = #[k0, k1, k2, k3, some (.builtin n), k5] := by
          obtain ⟨l⟩ := sl
          simp only at hs
          rw [hs]
        subst e1 e2 e3 e4 e5 h2 hm
        exact ⟨nm, qn, ns, bs, bm, sn, sub, ab, col, dd, k0, k1, k2, k3, k5, hl, h7⟩
      · cases h5
    · cases h4
  · cases h
/-- a tuple of the written part -/
def tupQ (K : PySem.W.Frag) (a : Addr) (vs : List He.Dv) : Bool := match K.lookup a with
  | some ⟨.type t, _, .seq its _, _⟩ => decide (t = "tuple") && (decide (its.size ≤ sizeLine) && He.relAll (vs.map (He.Dv.v K)) its.toList)
  | _ => false
theorem tupQ_ok {K : PySem.W.Frag} {a : Addr} {vs : List He.Dv} (h : tupQ K a vs = true) (H : Hp) : SqT K H a (vs.map (He.Dv.v K)) := by
  unfold tupQ at h
  split at h
  · rename_i t d its n sl hl
    rw [Bool.and_eq_true, Bool.and_eq_true] at h
    have e := of_decide_eq_true h.1
    subst e
    exact .inr ⟨_, its, n, hl, rfl, rfl, of_decide_eq_true h.2.1, He.relAll_ok h.2.2⟩
  · cases h
/-- the getter of a property -/
def getterQ (K : PySem.W.Frag) (p : Addr) : Addr := match PySem.W.recIn K p "property" with
  | some (.ref g :: _) => g
  | _ => 0
def propQ (K : PySem.W.Frag) (C : Addr) (nm : Str) : Bool := decide (PySem.W.findIn K (.ref C) nm = some (some (.ref (He.ma K C nm)))) && (decide (PySem.W.specialIn K (.ref (He.ma K C nm)) "__get__" = some (some (.builtin "property.__get__"))) && (decide (PySem.W.takesIn K (.ref (He.ma K C nm)) = some true) &&
  (match PySem.W.recIn K (He.ma K C nm) "property" with
  | some (.ref _ :: _) => true
  | _ => false)))
theorem propQ_ok {K : PySem.W.Frag} {C : Addr} {nm : Str} (h : propQ K C nm = true) : PropOf K C nm (He.ma K C nm) (getterQ K (He.ma K C nm)) := by
  unfold propQ at h
  rw [Bool.and_eq_true, Bool.and_eq_true, Bool.and_eq_true] at h
  obtain ⟨h1, h2, h3, h4⟩ := h
  refine ⟨of_decide_eq_true h1, of_decide_eq_true h2, of_decide_eq_true h3, ?_⟩
  unfold getterQ
  split at h4
  · rename_i g r hr
    exact ⟨r, by rw [hr]⟩
  · cases h4
end Pn

namespace Pn
open PySem PySem.Spec PyProof.Rows L2
def fnQ0 : List DefQ := [
  { loc := fun K => (He.ga K "is_integer"), nm := "is_integer", ql := "is_integer", st := sIsInteger, dv := [] },
  { loc := fun K => (He.ga K "is_number"), nm := "is_number", ql := "is_number", st := sIsNumber, dv := [] },
  { loc := fun K => (He.ga K "is_name"), nm := "is_name", ql := "is_name", st := sIsName, dv := [] },
  { loc := fun K => (He.ma K (He.ga K "InvalidRow") "__init__"), nm := "__init__", ql := "InvalidRow.__init__", st := sIRInit, dv := [] },
  { loc := fun K => (He.ga K "need_name"), nm := "need_name", ql := "need_name", st := sNeedName, dv := [] },
  { loc := fun K => (He.ma K (He.ga K "Note") "__init__"), nm := "__init__", ql := "Note.__init__", st := sNoteInit, dv := [.str ""] },
  { loc := fun K => (He.ma K (He.ga K "Note") "__str__"), nm := "__str__", ql := "Note.__str__", st := sNoteStr, dv := [] },
  { loc := fun K => (He.ma K (He.ga K "Skip") "__init__"), nm := "__init__", ql := "Skip.__init__", st := sSkipInit, dv := [] },
  { loc := fun K => (He.ma K (He.ga K "Skip") "__str__"), nm := "__str__", ql := "Skip.__str__", st := sSkipStr, dv := [] },
  { loc := fun K => (He.ma K (He.ga K "Set") "__init__"), nm := "__init__", ql := "Set.__init__", st := sSetInit, dv := [] },
  { loc := fun K => (He.ma K (He.ga K "Set") "__str__"), nm := "__str__", ql := "Set.__str__", st := sSetStr, dv := [] },
  { loc := fun K => (He.ma K (He.ga K "Keep") "__init__"), nm := "__init__", ql := "Keep.__init__", st := sKeepInit, dv := [] }]
def fnQ1 : List DefQ := [
  { loc := fun K => (He.ma K (He.ga K "Keep") "__str__"), nm := "__str__", ql := "Keep.__str__", st := sKeepStr, dv := [] },
  { loc := fun K => (He.ma K (He.ga K "Back") "__init__"), nm := "__init__", ql := "Back.__init__", st := sBackInit, dv := [] },
  { loc := fun K => (He.ma K (He.ga K "Back") "__str__"), nm := "__str__", ql := "Back.__str__", st := sBackStr, dv := [] },
  { loc := fun K => (He.ma K (He.ga K "Ref") "__init__"), nm := "__init__", ql := "Ref.__init__", st := sRefInit, dv := [] },
  { loc := fun K => (He.ma K (He.ga K "Ref") "__str__"), nm := "__str__", ql := "Ref.__str__", st := sRefStr, dv := [] },
  { loc := fun K => (He.ma K (He.ga K "Put") "__init__"), nm := "__init__", ql := "Put.__init__", st := sPutInit, dv := [] },
  { loc := fun K => (He.ma K (He.ga K "Put") "__str__"), nm := "__str__", ql := "Put.__str__", st := sPutStr, dv := [] },
  { loc := fun K => (He.ma K (He.ga K "Open") "__init__"), nm := "__init__", ql := "Open.__init__", st := sOpenInit, dv := [] },
  { loc := fun K => (He.ma K (He.ga K "Open") "__str__"), nm := "__str__", ql := "Open.__str__", st := sOpenStr, dv := [] },
  { loc := fun K => (He.ga K "same_row"), nm := "same_row", ql := "same_row", st := sSameRow, dv := [] },
  { loc := fun K => (He.ma K (He.ga K "Note") "__eq__"), nm := "__eq__", ql := "Note.__eq__", st := sNoteEq, dv := [] },
  { loc := fun K => (He.ma K (He.ga K "Skip") "__eq__"), nm := "__eq__", ql := "Skip.__eq__", st := sSkipEq, dv := [] }]
def fnQ2 : List DefQ := [
  { loc := fun K => (He.ma K (He.ga K "Set") "__eq__"), nm := "__eq__", ql := "Set.__eq__", st := sSetEq, dv := [] },
  { loc := fun K => (He.ma K (He.ga K "Keep") "__eq__"), nm := "__eq__", ql := "Keep.__eq__", st := sKeepEq, dv := [] },
  { loc := fun K => (He.ma K (He.ga K "Back") "__eq__"), nm := "__eq__", ql := "Back.__eq__", st := sBackEq, dv := [] },
  { loc := fun K => (He.ma K (He.ga K "Ref") "__eq__"), nm := "__eq__", ql := "Ref.__eq__", st := sRefEq, dv := [] },
  { loc := fun K => (He.ma K (He.ga K "Put") "__eq__"), nm := "__eq__", ql := "Put.__eq__", st := sPutEq, dv := [] },
  { loc := fun K => (He.ma K (He.ga K "Open") "__eq__"), nm := "__eq__", ql := "Open.__eq__", st := sOpenEq, dv := [] },
  { loc := fun K => (He.ma K (He.ga K "InvalidFilling") "__init__"), nm := "__init__", ql := "InvalidFilling.__init__", st := sIFInit, dv := [] },
  { loc := fun K => (He.ma K (He.ga K "Filling") "__init__"), nm := "__init__", ql := "Filling.__init__", st := sFInit, dv := [.adr (He.dflAt ("Filling", some "__init__") 0)] },
  { loc := fun K => (getterQ K (He.ma K (He.ga K "Filling") "names")), nm := "names", ql := "Filling.names", st := sFNames, dv := [] },
  { loc := fun K => (He.ma K (He.ga K "Filling") "rows_for"), nm := "rows_for", ql := "Filling.rows_for", st := sFRows, dv := [] },
  { loc := fun K => (He.ma K (He.ga K "Filling") "__str__"), nm := "__str__", ql := "Filling.__str__", st := sFStr, dv := [] },
  { loc := fun K => (He.ma K (He.ga K "Filling") "__eq__"), nm := "__eq__", ql := "Filling.__eq__", st := sFEq, dv := [] }]
def fnQ3 : List DefQ := [
  { loc := fun K => (He.ga K "is_sequence"), nm := "is_sequence", ql := "is_sequence", st := sIsSeq, dv := [] },
  { loc := fun K => (He.ga K "is_pair"), nm := "is_pair", ql := "is_pair", st := sIsPairF, dv := [] },
  { loc := fun K => (He.ga K "are_fillable"), nm := "are_fillable", ql := "are_fillable", st := sAreFill, dv := [] },
  { loc := fun K => (He.ga K "is_filled"), nm := "is_filled", ql := "is_filled", st := sIsFilled, dv := [] },
  { loc := fun K => (He.ga K "filled_text"), nm := "filled_text", ql := "filled_text", st := sFText, dv := [] },
  { loc := fun K => (He.ga K "_law_deal"), nm := "_law_deal", ql := "_law_deal", st := sDeal, dv := [] },
  { loc := fun K => (He.ga K "_law_draw"), nm := "_law_draw", ql := "_law_draw", st := sDraw, dv := [] },
  { loc := fun K => (He.ga K "_law_pick"), nm := "_law_pick", ql := "_law_pick", st := sPick, dv := [] },
  { loc := fun K => (He.ga K "_law_mixed"), nm := "_law_mixed", ql := "_law_mixed", st := sMixed, dv := [] },
  { loc := fun K => (He.ga K "_law_names"), nm := "_law_names", ql := "_law_names", st := sNames, dv := [] },
  { loc := fun K => (He.ga K "_law_row_of"), nm := "_law_row_of", ql := "_law_row_of", st := sRowOf, dv := [] },
  { loc := fun K => (He.ga K "_law_rows_drawn"), nm := "_law_rows_drawn", ql := "_law_rows_drawn", st := sDrawn, dv := [] }]
def fnQ4 : List DefQ := [
  { loc := fun K => (He.ga K "_law_filling_text"), nm := "_law_filling_text", ql := "_law_filling_text", st := sFilT, dv := [] },
  { loc := fun K => (He.ga K "law"), nm := "law", ql := "law", st := sLaw17, dv := [] }]
def fnQ : List DefQ := fnQ0 ++ fnQ1 ++ fnQ2 ++ fnQ3 ++ fnQ4
def exQ0 : List Ask := [
  fun K => decide (PySem.W.nsIn K mainGlobals "int" = some none),
  fun K => decide (PySem.W.nsIn K mainGlobals "bool" = some none),
  fun K => decide (PySem.W.nsIn K mainGlobals "str" = some none),
  fun K => decide (PySem.W.nsIn K mainGlobals "isinstance" = some none),
  fun K => decide (PySem.W.nsIn K mainGlobals "len" = some none),
  fun K => decide (PySem.W.nsIn K mainGlobals "all" = some none),
  fun K => decide (PySem.W.nsIn K mainGlobals "abs" = some none),
  fun K => decide (PySem.W.nsIn K mainGlobals "list" = some none),
  fun K => decide (PySem.W.nsIn K mainGlobals "tuple" = some none),
  fun K => decide (PySem.W.nsIn K mainGlobals "set" = some none)]
def exQ1 : List Ask := [
  fun K => decide (PySem.W.nsIn K mainGlobals "sorted" = some none),
  fun K => decide (PySem.W.nsIn K mainGlobals "dict" = some none),
  fun K => decide (PySem.W.nsIn K mainGlobals "range" = some none),
  fun K => decide (PySem.W.nsIn K mainGlobals "repr" = some none),
  fun K => decide (PySem.W.nsIn K mainGlobals "ROW_WORDS" = some (some (.ref (He.ga K "ROW_WORDS")))),
  fun K => He.tupB K "ROW_WORDS" [.str "note", .str "skip", .str "set", .str "keep", .str "back", .str "ref", .str "put", .str "open", .str "part"],
  fun K => (He.Fa.int "LONGEST_NAME" 4).ok K,
  fun K => decide (PySem.W.nsIn K mainGlobals "is_integer" = some (some (.ref (He.ga K "is_integer")))),
  fun K => decide (PySem.W.nsIn K mainGlobals "is_number" = some (some (.ref (He.ga K "is_number")))),
  fun K => decide (PySem.W.nsIn K mainGlobals "is_name" = some (some (.ref (He.ga K "is_name"))))]
def exQ2 : List Ask := [
  fun K => decide (PySem.W.nsIn K mainGlobals "NoteError" = some (some (.ref (He.ga K "NoteError")))),
  fun K => decide (PySem.W.nsIn K mainGlobals "InvalidRow" = some (some (.ref (He.ga K "InvalidRow")))),
  fun K => excQ K (He.ga K "InvalidRow") "ValueError.__new__",
  fun K => decide (PySem.W.findIn K (.ref (He.ga K "InvalidRow")) "__setattr__" = some (some (.builtin "object.__setattr__"))),
  fun K => decide (PySem.W.findIn K (.ref (He.ga K "InvalidRow")) "__getattribute__" = some (some (.builtin "BaseException.__getattribute__"))),
  fun K => decide (PySem.W.findIn K (.ref (He.ga K "InvalidRow")) "__getattr__" = some (none)),
  fun K => decide (PySem.W.findIn K (.ref (He.ga K "InvalidRow")) "word" = some (none)),
  fun K => decide (PySem.W.findIn K (.ref (He.ga K "InvalidRow")) "__init__" = some (some (.ref (He.ma K (He.ga K "InvalidRow") "__init__")))),
  fun K => decide (PySem.W.findIn K (.ref (He.ga K "InvalidRow")) "__class__" = some (some (.builtin "object.__class__"))),
  fun K => decide (PySem.W.typeIn K (.ref (He.ma K (He.ga K "InvalidRow") "__init__")) = some (.type "function"))]
def exQ3 : List Ask := [
  fun K => PySem.W.keepIn K (.ref (He.ga K "InvalidRow")),
  fun K => decide (PySem.W.subIn K (.ref (He.ga K "InvalidRow")) (.type "BaseException") = some true),
  fun K => decide (PySem.W.typeIn K (.ref (He.ga K "InvalidRow")) = some (.type "type")),
  fun K => PySem.W.hasDictIn K (He.ga K "InvalidRow"),
  fun K => PySem.W.isClsIn K (He.ga K "InvalidRow"),
  fun K => decide (PySem.W.subIn K (.ref (He.ga K "InvalidRow")) (.ref (He.ga K "InvalidRow")) = some true),
  fun K => decide (PySem.W.mroIn K (He.ga K "InvalidRow") (.type "object") = some true),
  fun K => decide (PySem.W.nsIn K mainGlobals "need_name" = some (some (.ref (He.ga K "need_name")))),
  fun K => decide (PySem.W.nsIn K mainGlobals "Note" = some (some (.ref (He.ga K "Note")))),
  fun K => decide (PySem.W.findIn K (.ref (He.ga K "Note")) "__init__" = some (some (.ref (He.ma K (He.ga K "Note") "__init__"))))]
def exQ4 : List Ask := [
  fun K => PySem.W.isFn K (.ref (He.ma K (He.ga K "Note") "__init__")),
  fun K => PySem.W.plainGet K (He.ga K "Note") Str.empty,
  fun K => PySem.W.hasDictIn K (He.ga K "Note"),
  fun K => PySem.W.plainOver K (He.ga K "Note"),
  fun K => decide (PySem.W.findIn K (.ref (He.ga K "Note")) "__setattr__" = some (some (.builtin "object.__setattr__"))),
  fun K => PySem.W.makesIn K (He.ga K "Note"),
  fun K => PySem.W.keepIn K (.ref (He.ga K "Note")),
  fun K => decide (PySem.W.findIn K (.ref (He.ga K "Note")) "word" = some none),
  fun K => decide (PySem.W.findIn K (.ref (He.ga K "Note")) "counter" = some none),
  fun K => decide (PySem.W.findIn K (.ref (He.ga K "Note")) "label" = some none)]
def exQ5 : List Ask := [
  fun K => decide (PySem.W.findIn K (.ref (He.ga K "Note")) "__str__" = some (some (.ref (He.ma K (He.ga K "Note") "__str__")))),
  fun K => PySem.W.isFn K (.ref (He.ma K (He.ga K "Note") "__str__")),
  fun K => decide (PySem.W.nsIn K mainGlobals "Skip" = some (some (.ref (He.ga K "Skip")))),
  fun K => decide (PySem.W.findIn K (.ref (He.ga K "Skip")) "__init__" = some (some (.ref (He.ma K (He.ga K "Skip") "__init__")))),
  fun K => PySem.W.isFn K (.ref (He.ma K (He.ga K "Skip") "__init__")),
  fun K => PySem.W.plainGet K (He.ga K "Skip") Str.empty,
  fun K => PySem.W.hasDictIn K (He.ga K "Skip"),
  fun K => PySem.W.plainOver K (He.ga K "Skip"),
  fun K => decide (PySem.W.findIn K (.ref (He.ga K "Skip")) "__setattr__" = some (some (.builtin "object.__setattr__"))),
  fun K => PySem.W.makesIn K (He.ga K "Skip")]
def exQ6 : List Ask := [
  fun K => PySem.W.keepIn K (.ref (He.ga K "Skip")),
  fun K => decide (PySem.W.findIn K (.ref (He.ga K "Skip")) "word" = some none),
  fun K => decide (PySem.W.findIn K (.ref (He.ga K "Skip")) "counter" = some none),
  fun K => decide (PySem.W.findIn K (.ref (He.ga K "Skip")) "by" = some none),
  fun K => decide (PySem.W.findIn K (.ref (He.ga K "Skip")) "__str__" = some (some (.ref (He.ma K (He.ga K "Skip") "__str__")))),
  fun K => PySem.W.isFn K (.ref (He.ma K (He.ga K "Skip") "__str__")),
  fun K => decide (PySem.W.nsIn K mainGlobals "Set" = some (some (.ref (He.ga K "Set")))),
  fun K => decide (PySem.W.findIn K (.ref (He.ga K "Set")) "__init__" = some (some (.ref (He.ma K (He.ga K "Set") "__init__")))),
  fun K => PySem.W.isFn K (.ref (He.ma K (He.ga K "Set") "__init__")),
  fun K => PySem.W.plainGet K (He.ga K "Set") Str.empty]
def exQ7 : List Ask := [
  fun K => PySem.W.hasDictIn K (He.ga K "Set"),
  fun K => PySem.W.plainOver K (He.ga K "Set"),
  fun K => decide (PySem.W.findIn K (.ref (He.ga K "Set")) "__setattr__" = some (some (.builtin "object.__setattr__"))),
  fun K => PySem.W.makesIn K (He.ga K "Set"),
  fun K => PySem.W.keepIn K (.ref (He.ga K "Set")),
  fun K => decide (PySem.W.findIn K (.ref (He.ga K "Set")) "word" = some none),
  fun K => decide (PySem.W.findIn K (.ref (He.ga K "Set")) "counter" = some none),
  fun K => decide (PySem.W.findIn K (.ref (He.ga K "Set")) "to" = some none),
  fun K => decide (PySem.W.findIn K (.ref (He.ga K "Set")) "__str__" = some (some (.ref (He.ma K (He.ga K "Set") "__str__")))),
  fun K => PySem.W.isFn K (.ref (He.ma K (He.ga K "Set") "__str__"))]
def exQ8 : List Ask := [
  fun K => decide (PySem.W.nsIn K mainGlobals "Keep" = some (some (.ref (He.ga K "Keep")))),
  fun K => decide (PySem.W.findIn K (.ref (He.ga K "Keep")) "__init__" = some (some (.ref (He.ma K (He.ga K "Keep") "__init__")))),
  fun K => PySem.W.isFn K (.ref (He.ma K (He.ga K "Keep") "__init__")),
  fun K => PySem.W.plainGet K (He.ga K "Keep") Str.empty,
  fun K => PySem.W.hasDictIn K (He.ga K "Keep"),
  fun K => PySem.W.plainOver K (He.ga K "Keep"),
  fun K => decide (PySem.W.findIn K (.ref (He.ga K "Keep")) "__setattr__" = some (some (.builtin "object.__setattr__"))),
  fun K => PySem.W.makesIn K (He.ga K "Keep"),
  fun K => PySem.W.keepIn K (.ref (He.ga K "Keep")),
  fun K => decide (PySem.W.findIn K (.ref (He.ga K "Keep")) "word" = some none)]
def exQ9 : List Ask := [
  fun K => decide (PySem.W.findIn K (.ref (He.ga K "Keep")) "counter" = some none),
  fun K => decide (PySem.W.findIn K (.ref (He.ga K "Keep")) "__str__" = some (some (.ref (He.ma K (He.ga K "Keep") "__str__")))),
  fun K => PySem.W.isFn K (.ref (He.ma K (He.ga K "Keep") "__str__")),
  fun K => decide (PySem.W.nsIn K mainGlobals "Back" = some (some (.ref (He.ga K "Back")))),
  fun K => decide (PySem.W.findIn K (.ref (He.ga K "Back")) "__init__" = some (some (.ref (He.ma K (He.ga K "Back") "__init__")))),
  fun K => PySem.W.isFn K (.ref (He.ma K (He.ga K "Back") "__init__")),
  fun K => PySem.W.plainGet K (He.ga K "Back") Str.empty,
  fun K => PySem.W.hasDictIn K (He.ga K "Back"),
  fun K => PySem.W.plainOver K (He.ga K "Back"),
  fun K => decide (PySem.W.findIn K (.ref (He.ga K "Back")) "__setattr__" = some (some (.builtin "object.__setattr__")))]
def exQ10 : List Ask := [
  fun K => PySem.W.makesIn K (He.ga K "Back"),
  fun K => PySem.W.keepIn K (.ref (He.ga K "Back")),
  fun K => decide (PySem.W.findIn K (.ref (He.ga K "Back")) "word" = some none),
  fun K => decide (PySem.W.findIn K (.ref (He.ga K "Back")) "counter" = some none),
  fun K => decide (PySem.W.findIn K (.ref (He.ga K "Back")) "__str__" = some (some (.ref (He.ma K (He.ga K "Back") "__str__")))),
  fun K => PySem.W.isFn K (.ref (He.ma K (He.ga K "Back") "__str__")),
  fun K => decide (PySem.W.nsIn K mainGlobals "Ref" = some (some (.ref (He.ga K "Ref")))),
  fun K => decide (PySem.W.findIn K (.ref (He.ga K "Ref")) "__init__" = some (some (.ref (He.ma K (He.ga K "Ref") "__init__")))),
  fun K => PySem.W.isFn K (.ref (He.ma K (He.ga K "Ref") "__init__")),
  fun K => PySem.W.plainGet K (He.ga K "Ref") Str.empty]
def exQ11 : List Ask := [
  fun K => PySem.W.hasDictIn K (He.ga K "Ref"),
  fun K => PySem.W.plainOver K (He.ga K "Ref"),
  fun K => decide (PySem.W.findIn K (.ref (He.ga K "Ref")) "__setattr__" = some (some (.builtin "object.__setattr__"))),
  fun K => PySem.W.makesIn K (He.ga K "Ref"),
  fun K => PySem.W.keepIn K (.ref (He.ga K "Ref")),
  fun K => decide (PySem.W.findIn K (.ref (He.ga K "Ref")) "word" = some none),
  fun K => decide (PySem.W.findIn K (.ref (He.ga K "Ref")) "label" = some none),
  fun K => decide (PySem.W.findIn K (.ref (He.ga K "Ref")) "__str__" = some (some (.ref (He.ma K (He.ga K "Ref") "__str__")))),
  fun K => PySem.W.isFn K (.ref (He.ma K (He.ga K "Ref") "__str__")),
  fun K => decide (PySem.W.nsIn K mainGlobals "Put" = some (some (.ref (He.ga K "Put"))))]
def exQ12 : List Ask := [
  fun K => decide (PySem.W.findIn K (.ref (He.ga K "Put")) "__init__" = some (some (.ref (He.ma K (He.ga K "Put") "__init__")))),
  fun K => PySem.W.isFn K (.ref (He.ma K (He.ga K "Put") "__init__")),
  fun K => PySem.W.plainGet K (He.ga K "Put") Str.empty,
  fun K => PySem.W.hasDictIn K (He.ga K "Put"),
  fun K => PySem.W.plainOver K (He.ga K "Put"),
  fun K => decide (PySem.W.findIn K (.ref (He.ga K "Put")) "__setattr__" = some (some (.builtin "object.__setattr__"))),
  fun K => PySem.W.makesIn K (He.ga K "Put"),
  fun K => PySem.W.keepIn K (.ref (He.ga K "Put")),
  fun K => decide (PySem.W.findIn K (.ref (He.ga K "Put")) "word" = some none),
  fun K => decide (PySem.W.findIn K (.ref (He.ga K "Put")) "part" = some none)]
def exQ13 : List Ask := [
  fun K => decide (PySem.W.findIn K (.ref (He.ga K "Put")) "__str__" = some (some (.ref (He.ma K (He.ga K "Put") "__str__")))),
  fun K => PySem.W.isFn K (.ref (He.ma K (He.ga K "Put") "__str__")),
  fun K => decide (PySem.W.nsIn K mainGlobals "Open" = some (some (.ref (He.ga K "Open")))),
  fun K => decide (PySem.W.findIn K (.ref (He.ga K "Open")) "__init__" = some (some (.ref (He.ma K (He.ga K "Open") "__init__")))),
  fun K => PySem.W.isFn K (.ref (He.ma K (He.ga K "Open") "__init__")),
  fun K => PySem.W.plainGet K (He.ga K "Open") Str.empty,
  fun K => PySem.W.hasDictIn K (He.ga K "Open"),
  fun K => PySem.W.plainOver K (He.ga K "Open"),
  fun K => decide (PySem.W.findIn K (.ref (He.ga K "Open")) "__setattr__" = some (some (.builtin "object.__setattr__"))),
  fun K => PySem.W.makesIn K (He.ga K "Open")]
def exQ14 : List Ask := [
  fun K => PySem.W.keepIn K (.ref (He.ga K "Open")),
  fun K => decide (PySem.W.findIn K (.ref (He.ga K "Open")) "word" = some none),
  fun K => decide (PySem.W.findIn K (.ref (He.ga K "Open")) "name" = some none),
  fun K => decide (PySem.W.findIn K (.ref (He.ga K "Open")) "__str__" = some (some (.ref (He.ma K (He.ga K "Open") "__str__")))),
  fun K => PySem.W.isFn K (.ref (He.ma K (He.ga K "Open") "__str__")),
  fun K => decide (PySem.W.nsIn K mainGlobals "Row" = some (some (.ref (He.ga K "Row")))),
  fun K => decide (PySem.W.nsIn K mainGlobals "same_row" = some (some (.ref (He.ga K "same_row")))),
  fun K => decide (PySem.W.findIn K (.ref (He.ga K "Note")) "__eq__" = some (some (.ref (He.ma K (He.ga K "Note") "__eq__")))),
  fun K => PySem.W.isFn K (.ref (He.ma K (He.ga K "Note") "__eq__")),
  fun K => decide (PySem.W.findIn K (.ref (He.ga K "Skip")) "__eq__" = some (some (.ref (He.ma K (He.ga K "Skip") "__eq__"))))]
def exQ15 : List Ask := [
  fun K => PySem.W.isFn K (.ref (He.ma K (He.ga K "Skip") "__eq__")),
  fun K => decide (PySem.W.findIn K (.ref (He.ga K "Set")) "__eq__" = some (some (.ref (He.ma K (He.ga K "Set") "__eq__")))),
  fun K => PySem.W.isFn K (.ref (He.ma K (He.ga K "Set") "__eq__")),
  fun K => decide (PySem.W.findIn K (.ref (He.ga K "Keep")) "__eq__" = some (some (.ref (He.ma K (He.ga K "Keep") "__eq__")))),
  fun K => PySem.W.isFn K (.ref (He.ma K (He.ga K "Keep") "__eq__")),
  fun K => decide (PySem.W.findIn K (.ref (He.ga K "Back")) "__eq__" = some (some (.ref (He.ma K (He.ga K "Back") "__eq__")))),
  fun K => PySem.W.isFn K (.ref (He.ma K (He.ga K "Back") "__eq__")),
  fun K => decide (PySem.W.findIn K (.ref (He.ga K "Ref")) "__eq__" = some (some (.ref (He.ma K (He.ga K "Ref") "__eq__")))),
  fun K => PySem.W.isFn K (.ref (He.ma K (He.ga K "Ref") "__eq__")),
  fun K => decide (PySem.W.findIn K (.ref (He.ga K "Put")) "__eq__" = some (some (.ref (He.ma K (He.ga K "Put") "__eq__"))))]
def exQ16 : List Ask := [
  fun K => PySem.W.isFn K (.ref (He.ma K (He.ga K "Put") "__eq__")),
  fun K => decide (PySem.W.findIn K (.ref (He.ga K "Open")) "__eq__" = some (some (.ref (He.ma K (He.ga K "Open") "__eq__")))),
  fun K => PySem.W.isFn K (.ref (He.ma K (He.ga K "Open") "__eq__")),
  fun K => decide (PySem.W.nsIn K mainGlobals "InvalidFilling" = some (some (.ref (He.ga K "InvalidFilling")))),
  fun K => excQ K (He.ga K "InvalidFilling") "ValueError.__new__",
  fun K => decide (PySem.W.findIn K (.ref (He.ga K "InvalidFilling")) "__setattr__" = some (some (.builtin "object.__setattr__"))),
  fun K => decide (PySem.W.findIn K (.ref (He.ga K "InvalidFilling")) "__getattribute__" = some (some (.builtin "BaseException.__getattribute__"))),
  fun K => decide (PySem.W.findIn K (.ref (He.ga K "InvalidFilling")) "__getattr__" = some (none)),
  fun K => decide (PySem.W.findIn K (.ref (He.ga K "InvalidFilling")) "word" = some (none)),
  fun K => decide (PySem.W.findIn K (.ref (He.ga K "InvalidFilling")) "__init__" = some (some (.ref (He.ma K (He.ga K "InvalidFilling") "__init__"))))]
def exQ17 : List Ask := [
  fun K => decide (PySem.W.findIn K (.ref (He.ga K "InvalidFilling")) "__class__" = some (some (.builtin "object.__class__"))),
  fun K => decide (PySem.W.typeIn K (.ref (He.ma K (He.ga K "InvalidFilling") "__init__")) = some (.type "function")),
  fun K => PySem.W.keepIn K (.ref (He.ga K "InvalidFilling")),
  fun K => decide (PySem.W.subIn K (.ref (He.ga K "InvalidFilling")) (.type "BaseException") = some true),
  fun K => decide (PySem.W.typeIn K (.ref (He.ga K "InvalidFilling")) = some (.type "type")),
  fun K => PySem.W.hasDictIn K (He.ga K "InvalidFilling"),
  fun K => PySem.W.isClsIn K (He.ga K "InvalidFilling"),
  fun K => decide (PySem.W.subIn K (.ref (He.ga K "InvalidFilling")) (.ref (He.ga K "InvalidFilling")) = some true),
  fun K => decide (PySem.W.mroIn K (He.ga K "InvalidFilling") (.type "object") = some true),
  fun K => decide (PySem.W.nsIn K mainGlobals "Filling" = some (some (.ref (He.ga K "Filling"))))]
def exQ18 : List Ask := [
  fun K => decide (PySem.W.findIn K (.ref (He.ga K "Filling")) "__init__" = some (some (.ref (He.ma K (He.ga K "Filling") "__init__")))),
  fun K => PySem.W.isFn K (.ref (He.ma K (He.ga K "Filling") "__init__")),
  fun K => tupQ K (He.dflAt ("Filling", some "__init__") 0 K) [],
  fun K => PySem.W.plainGet K (He.ga K "Filling") Str.empty,
  fun K => PySem.W.hasDictIn K (He.ga K "Filling"),
  fun K => PySem.W.plainOver K (He.ga K "Filling"),
  fun K => decide (PySem.W.findIn K (.ref (He.ga K "Filling")) "__setattr__" = some (some (.builtin "object.__setattr__"))),
  fun K => PySem.W.makesIn K (He.ga K "Filling"),
  fun K => PySem.W.keepIn K (.ref (He.ga K "Filling")),
  fun K => decide (PySem.W.findIn K (.ref (He.ga K "Filling")) "filled" = some none)]
def exQ19 : List Ask := [
  fun K => propQ K (He.ga K "Filling") "names",
  fun K => decide (PySem.W.findIn K (.ref (He.ga K "Filling")) "rows_for" = some (some (.ref (He.ma K (He.ga K "Filling") "rows_for")))),
  fun K => PySem.W.isFn K (.ref (He.ma K (He.ga K "Filling") "rows_for")),
  fun K => decide (PySem.W.findIn K (.ref (He.ga K "Filling")) "__str__" = some (some (.ref (He.ma K (He.ga K "Filling") "__str__")))),
  fun K => PySem.W.isFn K (.ref (He.ma K (He.ga K "Filling") "__str__")),
  fun K => decide (PySem.W.findIn K (.ref (He.ga K "Filling")) "__eq__" = some (some (.ref (He.ma K (He.ga K "Filling") "__eq__")))),
  fun K => PySem.W.isFn K (.ref (He.ma K (He.ga K "Filling") "__eq__")),
  fun K => decide (PySem.W.nsIn K mainGlobals "is_sequence" = some (some (.ref (He.ga K "is_sequence")))),
  fun K => decide (PySem.W.nsIn K mainGlobals "is_pair" = some (some (.ref (He.ga K "is_pair")))),
  fun K => decide (PySem.W.nsIn K mainGlobals "are_fillable" = some (some (.ref (He.ga K "are_fillable"))))]
def exQ20 : List Ask := [
  fun K => decide (PySem.W.nsIn K mainGlobals "is_filled" = some (some (.ref (He.ga K "is_filled")))),
  fun K => decide (PySem.W.nsIn K mainGlobals "filled_text" = some (some (.ref (He.ga K "filled_text")))),
  fun K => decide (PySem.W.nsIn K mainGlobals "_law_deal" = some (some (.ref (He.ga K "_law_deal")))),
  fun K => decide (PySem.W.nsIn K mainGlobals "_law_draw" = some (some (.ref (He.ga K "_law_draw")))),
  fun K => decide (PySem.W.nsIn K mainGlobals "_law_pick" = some (some (.ref (He.ga K "_law_pick")))),
  fun K => decide (PySem.W.nsIn K mainGlobals "_law_mixed" = some (some (.ref (He.ga K "_law_mixed")))),
  fun K => decide (PySem.W.nsIn K mainGlobals "_law_names" = some (some (.ref (He.ga K "_law_names")))),
  fun K => decide (PySem.W.nsIn K mainGlobals "_law_row_of" = some (some (.ref (He.ga K "_law_row_of")))),
  fun K => decide (PySem.W.nsIn K mainGlobals "_law_rows_drawn" = some (some (.ref (He.ga K "_law_rows_drawn")))),
  fun K => decide (PySem.W.nsIn K mainGlobals "_law_filling_text" = some (some (.ref (He.ga K "_law_filling_text"))))]
def exQ21 : List Ask := [
  fun K => decide (PySem.W.nsIn K mainGlobals "law" = some (some (.ref (He.ga K "law")))),
  fun K => decide (PySem.W.specialIn K (.builtin "object.__class__") "__get__" = some (some (.builtin "getset_descriptor.__get__"))),
  fun K => decide (PySem.W.takesIn K (.builtin "object.__class__") = some true),
  fun K => decide (PySem.W.kitOne K (.type "str") (.ref (He.ga K "Row")) = some false),
  fun K => decide (PySem.W.kitOne K (.ref (He.ga K "Note")) (.ref (He.ga K "Row")) = some true),
  fun K => PySem.W.notFirst K (He.ga K "Note") (.type "str"),
  fun K => decide (PySem.W.findIn K (.ref (He.ga K "Note")) "__class__" = some (some (.builtin "object.__class__"))),
  fun K => decide (PySem.W.mroIn K (He.ga K "Note") (.type "object") = some true),
  fun K => decide (PySem.W.findIn K (.ref (He.ga K "Note")) "__ne__" = some (some (.builtin "object.__ne__"))),
  fun K => PySem.W.notFirst K (He.ga K "Note") (.ref (He.ga K "Note"))]
def exQ22 : List Ask := [
  fun K => PySem.W.notFirst K (He.ga K "Note") (.ref (He.ga K "Skip")),
  fun K => PySem.W.notFirst K (He.ga K "Note") (.ref (He.ga K "Set")),
  fun K => PySem.W.notFirst K (He.ga K "Note") (.ref (He.ga K "Keep")),
  fun K => PySem.W.notFirst K (He.ga K "Note") (.ref (He.ga K "Back")),
  fun K => PySem.W.notFirst K (He.ga K "Note") (.ref (He.ga K "Ref")),
  fun K => PySem.W.notFirst K (He.ga K "Note") (.ref (He.ga K "Put")),
  fun K => PySem.W.notFirst K (He.ga K "Note") (.ref (He.ga K "Open")),
  fun K => decide (PySem.W.kitOne K (.ref (He.ga K "Skip")) (.ref (He.ga K "Row")) = some true),
  fun K => PySem.W.notFirst K (He.ga K "Skip") (.type "str"),
  fun K => decide (PySem.W.findIn K (.ref (He.ga K "Skip")) "__class__" = some (some (.builtin "object.__class__")))]
def exQ23 : List Ask := [
  fun K => decide (PySem.W.mroIn K (He.ga K "Skip") (.type "object") = some true),
  fun K => decide (PySem.W.findIn K (.ref (He.ga K "Skip")) "__ne__" = some (some (.builtin "object.__ne__"))),
  fun K => PySem.W.notFirst K (He.ga K "Skip") (.ref (He.ga K "Note")),
  fun K => PySem.W.notFirst K (He.ga K "Skip") (.ref (He.ga K "Skip")),
  fun K => PySem.W.notFirst K (He.ga K "Skip") (.ref (He.ga K "Set")),
  fun K => PySem.W.notFirst K (He.ga K "Skip") (.ref (He.ga K "Keep")),
  fun K => PySem.W.notFirst K (He.ga K "Skip") (.ref (He.ga K "Back")),
  fun K => PySem.W.notFirst K (He.ga K "Skip") (.ref (He.ga K "Ref")),
  fun K => PySem.W.notFirst K (He.ga K "Skip") (.ref (He.ga K "Put")),
  fun K => PySem.W.notFirst K (He.ga K "Skip") (.ref (He.ga K "Open"))]
def exQ24 : List Ask := [
  fun K => decide (PySem.W.kitOne K (.ref (He.ga K "Set")) (.ref (He.ga K "Row")) = some true),
  fun K => PySem.W.notFirst K (He.ga K "Set") (.type "str"),
  fun K => decide (PySem.W.findIn K (.ref (He.ga K "Set")) "__class__" = some (some (.builtin "object.__class__"))),
  fun K => decide (PySem.W.mroIn K (He.ga K "Set") (.type "object") = some true),
  fun K => decide (PySem.W.findIn K (.ref (He.ga K "Set")) "__ne__" = some (some (.builtin "object.__ne__"))),
  fun K => PySem.W.notFirst K (He.ga K "Set") (.ref (He.ga K "Note")),
  fun K => PySem.W.notFirst K (He.ga K "Set") (.ref (He.ga K "Skip")),
  fun K => PySem.W.notFirst K (He.ga K "Set") (.ref (He.ga K "Set")),
  fun K => PySem.W.notFirst K (He.ga K "Set") (.ref (He.ga K "Keep")),
  fun K => PySem.W.notFirst K (He.ga K "Set") (.ref (He.ga K "Back"))]
def exQ25 : List Ask := [
  fun K => PySem.W.notFirst K (He.ga K "Set") (.ref (He.ga K "Ref")),
  fun K => PySem.W.notFirst K (He.ga K "Set") (.ref (He.ga K "Put")),
  fun K => PySem.W.notFirst K (He.ga K "Set") (.ref (He.ga K "Open")),
  fun K => decide (PySem.W.kitOne K (.ref (He.ga K "Keep")) (.ref (He.ga K "Row")) = some true),
  fun K => PySem.W.notFirst K (He.ga K "Keep") (.type "str"),
  fun K => decide (PySem.W.findIn K (.ref (He.ga K "Keep")) "__class__" = some (some (.builtin "object.__class__"))),
  fun K => decide (PySem.W.mroIn K (He.ga K "Keep") (.type "object") = some true),
  fun K => decide (PySem.W.findIn K (.ref (He.ga K "Keep")) "__ne__" = some (some (.builtin "object.__ne__"))),
  fun K => PySem.W.notFirst K (He.ga K "Keep") (.ref (He.ga K "Note")),
  fun K => PySem.W.notFirst K (He.ga K "Keep") (.ref (He.ga K "Skip"))]
def exQ26 : List Ask := [
  fun K => PySem.W.notFirst K (He.ga K "Keep") (.ref (He.ga K "Set")),
  fun K => PySem.W.notFirst K (He.ga K "Keep") (.ref (He.ga K "Keep")),
  fun K => PySem.W.notFirst K (He.ga K "Keep") (.ref (He.ga K "Back")),
  fun K => PySem.W.notFirst K (He.ga K "Keep") (.ref (He.ga K "Ref")),
  fun K => PySem.W.notFirst K (He.ga K "Keep") (.ref (He.ga K "Put")),
  fun K => PySem.W.notFirst K (He.ga K "Keep") (.ref (He.ga K "Open")),
  fun K => decide (PySem.W.kitOne K (.ref (He.ga K "Back")) (.ref (He.ga K "Row")) = some true),
  fun K => PySem.W.notFirst K (He.ga K "Back") (.type "str"),
  fun K => decide (PySem.W.findIn K (.ref (He.ga K "Back")) "__class__" = some (some (.builtin "object.__class__"))),
  fun K => decide (PySem.W.mroIn K (He.ga K "Back") (.type "object") = some true)]
def exQ27 : List Ask := [
  fun K => decide (PySem.W.findIn K (.ref (He.ga K "Back")) "__ne__" = some (some (.builtin "object.__ne__"))),
  fun K => PySem.W.notFirst K (He.ga K "Back") (.ref (He.ga K "Note")),
  fun K => PySem.W.notFirst K (He.ga K "Back") (.ref (He.ga K "Skip")),
  fun K => PySem.W.notFirst K (He.ga K "Back") (.ref (He.ga K "Set")),
  fun K => PySem.W.notFirst K (He.ga K "Back") (.ref (He.ga K "Keep")),
  fun K => PySem.W.notFirst K (He.ga K "Back") (.ref (He.ga K "Back")),
  fun K => PySem.W.notFirst K (He.ga K "Back") (.ref (He.ga K "Ref")),
  fun K => PySem.W.notFirst K (He.ga K "Back") (.ref (He.ga K "Put")),
  fun K => PySem.W.notFirst K (He.ga K "Back") (.ref (He.ga K "Open")),
  fun K => decide (PySem.W.kitOne K (.ref (He.ga K "Ref")) (.ref (He.ga K "Row")) = some true)]
def exQ28 : List Ask := [
  fun K => PySem.W.notFirst K (He.ga K "Ref") (.type "str"),
  fun K => decide (PySem.W.findIn K (.ref (He.ga K "Ref")) "__class__" = some (some (.builtin "object.__class__"))),
  fun K => decide (PySem.W.mroIn K (He.ga K "Ref") (.type "object") = some true),
  fun K => decide (PySem.W.findIn K (.ref (He.ga K "Ref")) "__ne__" = some (some (.builtin "object.__ne__"))),
  fun K => PySem.W.notFirst K (He.ga K "Ref") (.ref (He.ga K "Note")),
  fun K => PySem.W.notFirst K (He.ga K "Ref") (.ref (He.ga K "Skip")),
  fun K => PySem.W.notFirst K (He.ga K "Ref") (.ref (He.ga K "Set")),
  fun K => PySem.W.notFirst K (He.ga K "Ref") (.ref (He.ga K "Keep")),
  fun K => PySem.W.notFirst K (He.ga K "Ref") (.ref (He.ga K "Back")),
  fun K => PySem.W.notFirst K (He.ga K "Ref") (.ref (He.ga K "Ref"))]
def exQ29 : List Ask := [
  fun K => PySem.W.notFirst K (He.ga K "Ref") (.ref (He.ga K "Put")),
  fun K => PySem.W.notFirst K (He.ga K "Ref") (.ref (He.ga K "Open")),
  fun K => decide (PySem.W.kitOne K (.ref (He.ga K "Put")) (.ref (He.ga K "Row")) = some true),
  fun K => PySem.W.notFirst K (He.ga K "Put") (.type "str"),
  fun K => decide (PySem.W.findIn K (.ref (He.ga K "Put")) "__class__" = some (some (.builtin "object.__class__"))),
  fun K => decide (PySem.W.mroIn K (He.ga K "Put") (.type "object") = some true),
  fun K => decide (PySem.W.findIn K (.ref (He.ga K "Put")) "__ne__" = some (some (.builtin "object.__ne__"))),
  fun K => PySem.W.notFirst K (He.ga K "Put") (.ref (He.ga K "Note")),
  fun K => PySem.W.notFirst K (He.ga K "Put") (.ref (He.ga K "Skip")),
  fun K => PySem.W.notFirst K (He.ga K "Put") (.ref (He.ga K "Set"))]
def exQ30 : List Ask := [
  fun K => PySem.W.notFirst K (He.ga K "Put") (.ref (He.ga K "Keep")),
  fun K => PySem.W.notFirst K (He.ga K "Put") (.ref (He.ga K "Back")),
  fun K => PySem.W.notFirst K (He.ga K "Put") (.ref (He.ga K "Ref")),
  fun K => PySem.W.notFirst K (He.ga K "Put") (.ref (He.ga K "Put")),
  fun K => PySem.W.notFirst K (He.ga K "Put") (.ref (He.ga K "Open")),
  fun K => decide (PySem.W.kitOne K (.ref (He.ga K "Open")) (.ref (He.ga K "Row")) = some true),
  fun K => PySem.W.notFirst K (He.ga K "Open") (.type "str"),
  fun K => decide (PySem.W.findIn K (.ref (He.ga K "Open")) "__class__" = some (some (.builtin "object.__class__"))),
  fun K => decide (PySem.W.mroIn K (He.ga K "Open") (.type "object") = some true),
  fun K => decide (PySem.W.findIn K (.ref (He.ga K "Open")) "__ne__" = some (some (.builtin "object.__ne__")))]
def exQ31 : List Ask := [
  fun K => PySem.W.notFirst K (He.ga K "Open") (.ref (He.ga K "Note")),
  fun K => PySem.W.notFirst K (He.ga K "Open") (.ref (He.ga K "Skip")),
  fun K => PySem.W.notFirst K (He.ga K "Open") (.ref (He.ga K "Set")),
  fun K => PySem.W.notFirst K (He.ga K "Open") (.ref (He.ga K "Keep")),
  fun K => PySem.W.notFirst K (He.ga K "Open") (.ref (He.ga K "Back")),
  fun K => PySem.W.notFirst K (He.ga K "Open") (.ref (He.ga K "Ref")),
  fun K => PySem.W.notFirst K (He.ga K "Open") (.ref (He.ga K "Put")),
  fun K => PySem.W.notFirst K (He.ga K "Open") (.ref (He.ga K "Open")),
  fun K => decide (PySem.W.kitAny K (.ref (He.ga K "Note")) [.ref (He.ga K "Skip"), .ref (He.ga K "Set")] = some false),
  fun K => decide (PySem.W.kitAny K (.ref (He.ga K "Note")) [.type "list", .type "tuple"] = some false)]
def exQ32 : List Ask := [
  fun K => decide (PySem.W.kitAny K (.ref (He.ga K "Skip")) [.ref (He.ga K "Skip"), .ref (He.ga K "Set")] = some true),
  fun K => decide (PySem.W.kitAny K (.ref (He.ga K "Skip")) [.type "list", .type "tuple"] = some false),
  fun K => decide (PySem.W.kitAny K (.ref (He.ga K "Set")) [.ref (He.ga K "Skip"), .ref (He.ga K "Set")] = some true),
  fun K => decide (PySem.W.kitAny K (.ref (He.ga K "Set")) [.type "list", .type "tuple"] = some false),
  fun K => decide (PySem.W.kitAny K (.ref (He.ga K "Keep")) [.ref (He.ga K "Skip"), .ref (He.ga K "Set")] = some false),
  fun K => decide (PySem.W.kitAny K (.ref (He.ga K "Keep")) [.type "list", .type "tuple"] = some false),
  fun K => decide (PySem.W.kitAny K (.ref (He.ga K "Back")) [.ref (He.ga K "Skip"), .ref (He.ga K "Set")] = some false),
  fun K => decide (PySem.W.kitAny K (.ref (He.ga K "Back")) [.type "list", .type "tuple"] = some false),
  fun K => decide (PySem.W.kitAny K (.ref (He.ga K "Ref")) [.ref (He.ga K "Skip"), .ref (He.ga K "Set")] = some false),
  fun K => decide (PySem.W.kitAny K (.ref (He.ga K "Ref")) [.type "list", .type "tuple"] = some false)]
def exQ33 : List Ask := [
  fun K => decide (PySem.W.kitAny K (.ref (He.ga K "Put")) [.ref (He.ga K "Skip"), .ref (He.ga K "Set")] = some false),
  fun K => decide (PySem.W.kitAny K (.ref (He.ga K "Put")) [.type "list", .type "tuple"] = some false),
  fun K => decide (PySem.W.kitAny K (.ref (He.ga K "Open")) [.ref (He.ga K "Skip"), .ref (He.ga K "Set")] = some false),
  fun K => decide (PySem.W.kitAny K (.ref (He.ga K "Open")) [.type "list", .type "tuple"] = some false),
  fun K => decide (PySem.W.kitAny K (.type "NoneType") [.ref (He.ga K "Skip"), .ref (He.ga K "Set")] = some false),
  fun K => decide (PySem.W.kitAny K (.type "bool") [.ref (He.ga K "Skip"), .ref (He.ga K "Set")] = some false),
  fun K => decide (PySem.W.kitAny K (.type "int") [.ref (He.ga K "Skip"), .ref (He.ga K "Set")] = some false),
  fun K => decide (PySem.W.kitAny K (.type "str") [.ref (He.ga K "Skip"), .ref (He.ga K "Set")] = some false),
  fun K => decide (PySem.W.kitAny K (.type "list") [.ref (He.ga K "Skip"), .ref (He.ga K "Set")] = some false),
  fun K => decide (PySem.W.kitAny K (.type "tuple") [.ref (He.ga K "Skip"), .ref (He.ga K "Set")] = some false)]
def exQ34 : List Ask := [
  fun K => decide (PySem.W.kitAny K (.type "dict") [.ref (He.ga K "Skip"), .ref (He.ga K "Set")] = some false),
  fun K => decide (PySem.W.findIn K (.ref (He.ga K "Filling")) "__class__" = some (some (.builtin "object.__class__"))),
  fun K => decide (PySem.W.mroIn K (He.ga K "Filling") (.type "object") = some true),
  fun K => decide (PySem.W.kitOne K (.ref (He.ga K "Filling")) (.ref (He.ga K "Filling")) = some true),
  fun K => PySem.W.notFirst K (He.ga K "Filling") (.ref (He.ga K "Filling")),
  fun K => decide (PySem.W.findIn K (.ref (He.ga K "Filling")) "__ne__" = some (some (.builtin "object.__ne__"))),
  fun K => decide (PySem.W.subIn K (.ref (He.ga K "Filling")) (.type "str") = some false),
  fun K => decide (PySem.W.subIn K (.ref (He.ga K "Filling")) (.type "NoneType") = some false),
  fun K => decide (PySem.W.subIn K (.ref (He.ga K "Filling")) (.type "tuple") = some false),
  fun K => tupBQ K (He.dflAt ("Filling", some "__init__") 0 K)]
def exQ35 : List Ask := [
  fun K => decide (PySem.W.kitOne K (.type "NoneType") (.ref (He.ga K "Filling")) = some false),
  fun K => decide (PySem.W.kitOne K (.type "bool") (.ref (He.ga K "Filling")) = some false),
  fun K => decide (PySem.W.kitOne K (.type "int") (.ref (He.ga K "Filling")) = some false),
  fun K => decide (PySem.W.kitOne K (.type "str") (.ref (He.ga K "Filling")) = some false),
  fun K => decide (PySem.W.kitOne K (.type "list") (.ref (He.ga K "Filling")) = some false),
  fun K => decide (PySem.W.kitOne K (.type "tuple") (.ref (He.ga K "Filling")) = some false),
  fun K => decide (PySem.W.kitOne K (.type "dict") (.ref (He.ga K "Filling")) = some false)]
def exR0 : List (List Ask) := [exQ0, exQ1, exQ2, exQ3, exQ4, exQ5, exQ6, exQ7, exQ8, exQ9, exQ10, exQ11, exQ12, exQ13, exQ14, exQ15, exQ16, exQ17, exQ18, exQ19]
def exR1 : List (List Ask) := [exQ20, exQ21, exQ22, exQ23, exQ24, exQ25, exQ26, exQ27, exQ28, exQ29, exQ30, exQ31, exQ32, exQ33, exQ34, exQ35]
def exQ : List (List Ask) := exR0 ++ exR1
theorem facts {P : Program} {w : World} {K : PySem.W.Frag} {h : Heap} {mg : Str → Option Value} {fa : Addr} (X : K.In h) (G : h.Ns mainGlobals mg) (hfa : mg ("law" : Str) = some (.ref fa)) (c : askQ fnQ exQ K = toldQ fnQ) :
    ∃ fd : FuncData, (∀ (s : Shared) (v : Value), BindsTo s fd ⟨[v], []⟩ [("_law_script", v)]) ∧ ∀ base : Heap, K.In base → base.Ns mainGlobals mg → RunAt P w K mg base callerA fa fd ["_law_script"] (spLaw17 K) := by
  have zint : PySem.W.nsIn K mainGlobals "int" = some none := of_decide_eq_true (told_at c 0 0)
  have zbool : PySem.W.nsIn K mainGlobals "bool" = some none := of_decide_eq_true (told_at c 0 1)
  have zstr : PySem.W.nsIn K mainGlobals "str" = some none := of_decide_eq_true (told_at c 0 2)
  have zisinstance : PySem.W.nsIn K mainGlobals "isinstance" = some none := of_decide_eq_true (told_at c 0 3)
  have zlen : PySem.W.nsIn K mainGlobals "len" = some none := of_decide_eq_true (told_at c 0 4)
  have zall : PySem.W.nsIn K mainGlobals "all" = some none := of_decide_eq_true (told_at c 0 5)
  have zabs : PySem.W.nsIn K mainGlobals "abs" = some none := of_decide_eq_true (told_at c 0 6)
  have zlist : PySem.W.nsIn K mainGlobals "list" = some none := of_decide_eq_true (told_at c 0 7)
  have ztuple : PySem.W.nsIn K mainGlobals "tuple" = some none := of_decide_eq_true (told_at c 0 8)
  have zset : PySem.W.nsIn K mainGlobals "set" = some none := of_decide_eq_true (told_at c 0 9)
  have zsorted : PySem.W.nsIn K mainGlobals "sorted" = some none := of_decide_eq_true (told_at c 1 0)
  have zdict : PySem.W.nsIn K mainGlobals "dict" = some none := of_decide_eq_true (told_at c 1 1)
  have zrange : PySem.W.nsIn K mainGlobals "range" = some none := of_decide_eq_true (told_at c 1 2)
  have zrepr : PySem.W.nsIn K mainGlobals "repr" = some none := of_decide_eq_true (told_at c 1 3)
  have aROWWORDS : PySem.W.nsIn K mainGlobals "ROW_WORDS" = some (some (.ref (He.ga K "ROW_WORDS"))) := of_decide_eq_true (told_at c 1 4)
  have SROWWORDS : ∀ H : Hp, SqT K H (He.ga K "ROW_WORDS") [.str "note", .str "skip", .str "set", .str "keep", .str "back", .str "ref", .str "put", .str "open", .str "part"] := fun H => He.tupB_ok (x := "ROW_WORDS") (vs := [.str "note", .str "skip", .str "set", .str "keep", .str "back", .str "ref", .str "put", .str "open", .str "part"]) (told_at c 1 5) H
  obtain ⟨tkLONGESTNAME, ILONGESTNAME⟩ := He.int_ok X G (x := "LONGEST_NAME") (i := 4) (told_at c 1 6)
  have aisinteger : PySem.W.nsIn K mainGlobals "is_integer" = some (some (.ref (He.ga K "is_integer"))) := of_decide_eq_true (told_at c 1 7)
  obtain ⟨fdisinteger, Yisinteger⟩ := told_fn c 0
  have Xisinteger : Fun K "is_integer" "is_integer" sIsInteger (He.ga K "is_integer") fdisinteger := fun_of Yisinteger
  have aisnumber : PySem.W.nsIn K mainGlobals "is_number" = some (some (.ref (He.ga K "is_number"))) := of_decide_eq_true (told_at c 1 8)
  obtain ⟨fdisnumber, Yisnumber⟩ := told_fn c 1
  have Xisnumber : Fun K "is_number" "is_number" sIsNumber (He.ga K "is_number") fdisnumber := fun_of Yisnumber
  have aisname : PySem.W.nsIn K mainGlobals "is_name" = some (some (.ref (He.ga K "is_name"))) := of_decide_eq_true (told_at c 1 9)
  obtain ⟨fdisname, Yisname⟩ := told_fn c 2
  have Xisname : Fun K "is_name" "is_name" sIsName (He.ga K "is_name") fdisname := fun_of Yisname
  have aNoteError : PySem.W.nsIn K mainGlobals "NoteError" = some (some (.ref (He.ga K "NoteError"))) := of_decide_eq_true (told_at c 2 0)
  have aInvalidRow : PySem.W.nsIn K mainGlobals "InvalidRow" = some (some (.ref (He.ga K "InvalidRow"))) := of_decide_eq_true (told_at c 2 1)
  have xInvalidRow := excQ_ok (K := K) (C := (He.ga K "InvalidRow")) (nid := "ValueError.__new__") (told_at c 2 2)
  have saInvalidRow : PySem.W.findIn K (.ref (He.ga K "InvalidRow")) "__setattr__" = some (some (.builtin "object.__setattr__")) := of_decide_eq_true (told_at c 2 3)
  have gaInvalidRow : PySem.W.findIn K (.ref (He.ga K "InvalidRow")) "__getattribute__" = some (some (.builtin "BaseException.__getattribute__")) := of_decide_eq_true (told_at c 2 4)
  have ggInvalidRow : PySem.W.findIn K (.ref (He.ga K "InvalidRow")) "__getattr__" = some (none) := of_decide_eq_true (told_at c 2 5)
  have nfInvalidRow : PySem.W.findIn K (.ref (He.ga K "InvalidRow")) "word" = some (none) := of_decide_eq_true (told_at c 2 6)
  have inInvalidRow : PySem.W.findIn K (.ref (He.ga K "InvalidRow")) "__init__" = some (some (.ref (He.ma K (He.ga K "InvalidRow") "__init__"))) := of_decide_eq_true (told_at c 2 7)
  have haInvalidRow : PySem.W.findIn K (.ref (He.ga K "InvalidRow")) "__class__" = some (some (.builtin "object.__class__")) := of_decide_eq_true (told_at c 2 8)
  have tiInvalidRow : PySem.W.typeIn K (.ref (He.ma K (He.ga K "InvalidRow") "__init__")) = some (.type "function") := of_decide_eq_true (told_at c 2 9)
  obtain ⟨fdInvalidRow, YInvalidRow⟩ := told_fn c 3
  have XInvalidRow : Fun K "__init__" "InvalidRow.__init__" sIRInit (He.ma K (He.ga K "InvalidRow") "__init__") fdInvalidRow := fun_of YInvalidRow
  have kcInvalidRow : PySem.W.keepIn K (.ref (He.ga K "InvalidRow")) = true := (told_at c 3 0)
  have eCInvalidRow : PySem.W.subIn K (.ref (He.ga K "InvalidRow")) (.type "BaseException") = some true := of_decide_eq_true (told_at c 3 1)
  have tCInvalidRow : PySem.W.typeIn K (.ref (He.ga K "InvalidRow")) = some (.type "type") := of_decide_eq_true (told_at c 3 2)
  have hCInvalidRow : PySem.W.hasDictIn K (He.ga K "InvalidRow") = true := (told_at c 3 3)
  have iCInvalidRow : PySem.W.isClsIn K (He.ga K "InvalidRow") = true := (told_at c 3 4)
  have sCInvalidRow : PySem.W.subIn K (.ref (He.ga K "InvalidRow")) (.ref (He.ga K "InvalidRow")) = some true := of_decide_eq_true (told_at c 3 5)
  have hmInvalidRow : PySem.W.mroIn K (He.ga K "InvalidRow") (.type "object") = some true := of_decide_eq_true (told_at c 3 6)
  have aneedname : PySem.W.nsIn K mainGlobals "need_name" = some (some (.ref (He.ga K "need_name"))) := of_decide_eq_true (told_at c 3 7)
  obtain ⟨fdneedname, Yneedname⟩ := told_fn c 4
  have Xneedname : Fun K "need_name" "need_name" sNeedName (He.ga K "need_name") fdneedname := fun_of Yneedname
  have aNote : PySem.W.nsIn K mainGlobals "Note" = some (some (.ref (He.ga K "Note"))) := of_decide_eq_true (told_at c 3 8)
  have inNote : PySem.W.findIn K (.ref (He.ga K "Note")) "__init__" = some (some (.ref (He.ma K (He.ga K "Note") "__init__"))) := of_decide_eq_true (told_at c 3 9)
  have iNote : PySem.W.isFn K (.ref (He.ma K (He.ga K "Note") "__init__")) = true := (told_at c 4 0)
  obtain ⟨fdNote, YNote⟩ := told_fn c 5
  have FNote : FunD K "__init__" "Note.__init__" (defArgs sNoteInit) (defBody sNoteInit) (defScope sNoteInit) [.str ""] [] (He.ma K (He.ga K "Note") "__init__") fdNote := YNote
  have pgNote : PySem.W.plainGet K (He.ga K "Note") Str.empty = true := (told_at c 4 1)
  have hdNote : PySem.W.hasDictIn K (He.ga K "Note") = true := (told_at c 4 2)
  have poNote : PySem.W.plainOver K (He.ga K "Note") = true := (told_at c 4 3)
  have saNote : PySem.W.findIn K (.ref (He.ga K "Note")) "__setattr__" = some (some (.builtin "object.__setattr__")) := of_decide_eq_true (told_at c 4 4)
  have mkNote : PySem.W.makesIn K (He.ga K "Note") = true := (told_at c 4 5)
  have kcNote : PySem.W.keepIn K (.ref (He.ga K "Note")) = true := (told_at c 4 6)
  have nNote0 : PySem.W.findIn K (.ref (He.ga K "Note")) "word" = some none := of_decide_eq_true (told_at c 4 7)
  have nNote1 : PySem.W.findIn K (.ref (He.ga K "Note")) "counter" = some none := of_decide_eq_true (told_at c 4 8)
  have nNote2 : PySem.W.findIn K (.ref (He.ga K "Note")) "label" = some none := of_decide_eq_true (told_at c 4 9)
  have inSNote : PySem.W.findIn K (.ref (He.ga K "Note")) "__str__" = some (some (.ref (He.ma K (He.ga K "Note") "__str__"))) := of_decide_eq_true (told_at c 5 0)
  have iSNote : PySem.W.isFn K (.ref (He.ma K (He.ga K "Note") "__str__")) = true := (told_at c 5 1)
  obtain ⟨fdSNote, YSNote⟩ := told_fn c 6
  have XSNote : Fun K "__str__" "Note.__str__" sNoteStr (He.ma K (He.ga K "Note") "__str__") fdSNote := fun_of YSNote
  have aSkip : PySem.W.nsIn K mainGlobals "Skip" = some (some (.ref (He.ga K "Skip"))) := of_decide_eq_true (told_at c 5 2)
  have inSkip : PySem.W.findIn K (.ref (He.ga K "Skip")) "__init__" = some (some (.ref (He.ma K (He.ga K "Skip") "__init__"))) := of_decide_eq_true (told_at c 5 3)
  have iSkip : PySem.W.isFn K (.ref (He.ma K (He.ga K "Skip") "__init__")) = true := (told_at c 5 4)
  obtain ⟨fdSkip, YSkip⟩ := told_fn c 7
  have XSkip : Fun K "__init__" "Skip.__init__" sSkipInit (He.ma K (He.ga K "Skip") "__init__") fdSkip := fun_of YSkip
  have pgSkip : PySem.W.plainGet K (He.ga K "Skip") Str.empty = true := (told_at c 5 5)
  have hdSkip : PySem.W.hasDictIn K (He.ga K "Skip") = true := (told_at c 5 6)
  have poSkip : PySem.W.plainOver K (He.ga K "Skip") = true := (told_at c 5 7)
  have saSkip : PySem.W.findIn K (.ref (He.ga K "Skip")) "__setattr__" = some (some (.builtin "object.__setattr__")) := of_decide_eq_true (told_at c 5 8)
  have mkSkip : PySem.W.makesIn K (He.ga K "Skip") = true := (told_at c 5 9)
  have kcSkip : PySem.W.keepIn K (.ref (He.ga K "Skip")) = true := (told_at c 6 0)
  have nSkip0 : PySem.W.findIn K (.ref (He.ga K "Skip")) "word" = some none := of_decide_eq_true (told_at c 6 1)
  have nSkip1 : PySem.W.findIn K (.ref (He.ga K "Skip")) "counter" = some none := of_decide_eq_true (told_at c 6 2)
  have nSkip2 : PySem.W.findIn K (.ref (He.ga K "Skip")) "by" = some none := of_decide_eq_true (told_at c 6 3)
  have inSSkip : PySem.W.findIn K (.ref (He.ga K "Skip")) "__str__" = some (some (.ref (He.ma K (He.ga K "Skip") "__str__"))) := of_decide_eq_true (told_at c 6 4)
  have iSSkip : PySem.W.isFn K (.ref (He.ma K (He.ga K "Skip") "__str__")) = true := (told_at c 6 5)
  obtain ⟨fdSSkip, YSSkip⟩ := told_fn c 8
  have XSSkip : Fun K "__str__" "Skip.__str__" sSkipStr (He.ma K (He.ga K "Skip") "__str__") fdSSkip := fun_of YSSkip
  have aSet : PySem.W.nsIn K mainGlobals "Set" = some (some (.ref (He.ga K "Set"))) := of_decide_eq_true (told_at c 6 6)
  have inSet : PySem.W.findIn K (.ref (He.ga K "Set")) "__init__" = some (some (.ref (He.ma K (He.ga K "Set") "__init__"))) := of_decide_eq_true (told_at c 6 7)
  have iSet : PySem.W.isFn K (.ref (He.ma K (He.ga K "Set") "__init__")) = true := (told_at c 6 8)
  obtain ⟨fdSet, YSet⟩ := told_fn c 9
  have XSet : Fun K "__init__" "Set.__init__" sSetInit (He.ma K (He.ga K "Set") "__init__") fdSet := fun_of YSet
  have pgSet : PySem.W.plainGet K (He.ga K "Set") Str.empty = true := (told_at c 6 9)
  have hdSet : PySem.W.hasDictIn K (He.ga K "Set") = true := (told_at c 7 0)
  have poSet : PySem.W.plainOver K (He.ga K "Set") = true := (told_at c 7 1)
  have saSet : PySem.W.findIn K (.ref (He.ga K "Set")) "__setattr__" = some (some (.builtin "object.__setattr__")) := of_decide_eq_true (told_at c 7 2)
  have mkSet : PySem.W.makesIn K (He.ga K "Set") = true := (told_at c 7 3)
  have kcSet : PySem.W.keepIn K (.ref (He.ga K "Set")) = true := (told_at c 7 4)
  have nSet0 : PySem.W.findIn K (.ref (He.ga K "Set")) "word" = some none := of_decide_eq_true (told_at c 7 5)
  have nSet1 : PySem.W.findIn K (.ref (He.ga K "Set")) "counter" = some none := of_decide_eq_true (told_at c 7 6)
  have nSet2 : PySem.W.findIn K (.ref (He.ga K "Set")) "to" = some none := of_decide_eq_true (told_at c 7 7)
  have inSSet : PySem.W.findIn K (.ref (He.ga K "Set")) "__str__" = some (some (.ref (He.ma K (He.ga K "Set") "__str__"))) := of_decide_eq_true (told_at c 7 8)
  have iSSet : PySem.W.isFn K (.ref (He.ma K (He.ga K "Set") "__str__")) = true := (told_at c 7 9)
  obtain ⟨fdSSet, YSSet⟩ := told_fn c 10
  have XSSet : Fun K "__str__" "Set.__str__" sSetStr (He.ma K (He.ga K "Set") "__str__") fdSSet := fun_of YSSet
  have aKeep : PySem.W.nsIn K mainGlobals "Keep" = some (some (.ref (He.ga K "Keep"))) := of_decide_eq_true (told_at c 8 0)
  have inKeep : PySem.W.findIn K (.ref (He.ga K "Keep")) "__init__" = some (some (.ref (He.ma K (He.ga K "Keep") "__init__"))) := of_decide_eq_true (told_at c 8 1)
  have iKeep : PySem.W.isFn K (.ref (He.ma K (He.ga K "Keep") "__init__")) = true := (told_at c 8 2)
  obtain ⟨fdKeep, YKeep⟩ := told_fn c 11
  have XKeep : Fun K "__init__" "Keep.__init__" sKeepInit (He.ma K (He.ga K "Keep") "__init__") fdKeep := fun_of YKeep
  have pgKeep : PySem.W.plainGet K (He.ga K "Keep") Str.empty = true := (told_at c 8 3)
  have hdKeep : PySem.W.hasDictIn K (He.ga K "Keep") = true := (told_at c 8 4)
  have poKeep : PySem.W.plainOver K (He.ga K "Keep") = true := (told_at c 8 5)
  have saKeep : PySem.W.findIn K (.ref (He.ga K "Keep")) "__setattr__" = some (some (.builtin "object.__setattr__")) := of_decide_eq_true (told_at c 8 6)
  have mkKeep : PySem.W.makesIn K (He.ga K "Keep") = true := (told_at c 8 7)
  have kcKeep : PySem.W.keepIn K (.ref (He.ga K "Keep")) = true := (told_at c 8 8)
  have nKeep0 : PySem.W.findIn K (.ref (He.ga K "Keep")) "word" = some none := of_decide_eq_true (told_at c 8 9)
  have nKeep1 : PySem.W.findIn K (.ref (He.ga K "Keep")) "counter" = some none := of_decide_eq_true (told_at c 9 0)
  have inSKeep : PySem.W.findIn K (.ref (He.ga K "Keep")) "__str__" = some (some (.ref (He.ma K (He.ga K "Keep") "__str__"))) := of_decide_eq_true (told_at c 9 1)
  have iSKeep : PySem.W.isFn K (.ref (He.ma K (He.ga K "Keep") "__str__")) = true := (told_at c 9 2)
  obtain ⟨fdSKeep, YSKeep⟩ := told_fn c 12
  have XSKeep : Fun K "__str__" "Keep.__str__" sKeepStr (He.ma K (He.ga K "Keep") "__str__") fdSKeep := fun_of YSKeep
  have aBack : PySem.W.nsIn K mainGlobals "Back" = some (some (.ref (He.ga K "Back"))) := of_decide_eq_true (told_at c 9 3)
  have inBack : PySem.W.findIn K (.ref (He.ga K "Back")) "__init__" = some (some (.ref (He.ma K (He.ga K "Back") "__init__"))) := of_decide_eq_true (told_at c 9 4)
  have iBack : PySem.W.isFn K (.ref (He.ma K (He.ga K "Back") "__init__")) = true := (told_at c 9 5)
  obtain ⟨fdBack, YBack⟩ := told_fn c 13
  have XBack : Fun K "__init__" "Back.__init__" sBackInit (He.ma K (He.ga K "Back") "__init__") fdBack := fun_of YBack
  have pgBack : PySem.W.plainGet K (He.ga K "Back") Str.empty = true := (told_at c 9 6)
  have hdBack : PySem.W.hasDictIn K (He.ga K "Back") = true := (told_at c 9 7)
  have poBack : PySem.W.plainOver K (He.ga K "Back") = true := (told_at c 9 8)
  have saBack : PySem.W.findIn K (.ref (He.ga K "Back")) "__setattr__" = some (some (.builtin "object.__setattr__")) := of_decide_eq_true (told_at c 9 9)
  have mkBack : PySem.W.makesIn K (He.ga K "Back") = true := (told_at c 10 0)
  have kcBack : PySem.W.keepIn K (.ref (He.ga K "Back")) = true := (told_at c 10 1)
  have nBack0 : PySem.W.findIn K (.ref (He.ga K "Back")) "word" = some none := of_decide_eq_true (told_at c 10 2)
  have nBack1 : PySem.W.findIn K (.ref (He.ga K "Back")) "counter" = some none := of_decide_eq_true (told_at c 10 3)
  have inSBack : PySem.W.findIn K (.ref (He.ga K "Back")) "__str__" = some (some (.ref (He.ma K (He.ga K "Back") "__str__"))) := of_decide_eq_true (told_at c 10 4)
  have iSBack : PySem.W.isFn K (.ref (He.ma K (He.ga K "Back") "__str__")) = true := (told_at c 10 5)
  obtain ⟨fdSBack, YSBack⟩ := told_fn c 14
  have XSBack : Fun K "__str__" "Back.__str__" sBackStr (He.ma K (He.ga K "Back") "__str__") fdSBack := fun_of YSBack
  have aRef : PySem.W.nsIn K mainGlobals "Ref" = some (some (.ref (He.ga K "Ref"))) := of_decide_eq_true (told_at c 10 6)
  have inRef : PySem.W.findIn K (.ref (He.ga K "Ref")) "__init__" = some (some (.ref (He.ma K (He.ga K "Ref") "__init__"))) := of_decide_eq_true (told_at c 10 7)
  have iRef : PySem.W.isFn K (.ref (He.ma K (He.ga K "Ref") "__init__")) = true := (told_at c 10 8)
  obtain ⟨fdRef, YRef⟩ := told_fn c 15
  have XRef : Fun K "__init__" "Ref.__init__" sRefInit (He.ma K (He.ga K "Ref") "__init__") fdRef := fun_of YRef
  have pgRef : PySem.W.plainGet K (He.ga K "Ref") Str.empty = true := (told_at c 10 9)
  have hdRef : PySem.W.hasDictIn K (He.ga K "Ref") = true := (told_at c 11 0)
  have poRef : PySem.W.plainOver K (He.ga K "Ref") = true := (told_at c 11 1)
  have saRef : PySem.W.findIn K (.ref (He.ga K "Ref")) "__setattr__" = some (some (.builtin "object.__setattr__")) := of_decide_eq_true (told_at c 11 2)
  have mkRef : PySem.W.makesIn K (He.ga K "Ref") = true := (told_at c 11 3)
  have kcRef : PySem.W.keepIn K (.ref (He.ga K "Ref")) = true := (told_at c 11 4)
  have nRef0 : PySem.W.findIn K (.ref (He.ga K "Ref")) "word" = some none := of_decide_eq_true (told_at c 11 5)
  have nRef1 : PySem.W.findIn K (.ref (He.ga K "Ref")) "label" = some none := of_decide_eq_true (told_at c 11 6)
  have inSRef : PySem.W.findIn K (.ref (He.ga K "Ref")) "__str__" = some (some (.ref (He.ma K (He.ga K "Ref") "__str__"))) := of_decide_eq_true (told_at c 11 7)
  have iSRef : PySem.W.isFn K (.ref (He.ma K (He.ga K "Ref") "__str__")) = true := (told_at c 11 8)
  obtain ⟨fdSRef, YSRef⟩ := told_fn c 16
  have XSRef : Fun K "__str__" "Ref.__str__" sRefStr (He.ma K (He.ga K "Ref") "__str__") fdSRef := fun_of YSRef
  have aPut : PySem.W.nsIn K mainGlobals "Put" = some (some (.ref (He.ga K "Put"))) := of_decide_eq_true (told_at c 11 9)
  have inPut : PySem.W.findIn K (.ref (He.ga K "Put")) "__init__" = some (some (.ref (He.ma K (He.ga K "Put") "__init__"))) := of_decide_eq_true (told_at c 12 0)
  have iPut : PySem.W.isFn K (.ref (He.ma K (He.ga K "Put") "__init__")) = true := (told_at c 12 1)
  obtain ⟨fdPut, YPut⟩ := told_fn c 17
  have XPut : Fun K "__init__" "Put.__init__" sPutInit (He.ma K (He.ga K "Put") "__init__") fdPut := fun_of YPut
  have pgPut : PySem.W.plainGet K (He.ga K "Put") Str.empty = true := (told_at c 12 2)
  have hdPut : PySem.W.hasDictIn K (He.ga K "Put") = true := (told_at c 12 3)
  have poPut : PySem.W.plainOver K (He.ga K "Put") = true := (told_at c 12 4)
  have saPut : PySem.W.findIn K (.ref (He.ga K "Put")) "__setattr__" = some (some (.builtin "object.__setattr__")) := of_decide_eq_true (told_at c 12 5)
  have mkPut : PySem.W.makesIn K (He.ga K "Put") = true := (told_at c 12 6)
  have kcPut : PySem.W.keepIn K (.ref (He.ga K "Put")) = true := (told_at c 12 7)
  have nPut0 : PySem.W.findIn K (.ref (He.ga K "Put")) "word" = some none := of_decide_eq_true (told_at c 12 8)
  have nPut1 : PySem.W.findIn K (.ref (He.ga K "Put")) "part" = some none := of_decide_eq_true (told_at c 12 9)
  have inSPut : PySem.W.findIn K (.ref (He.ga K "Put")) "__str__" = some (some (.ref (He.ma K (He.ga K "Put") "__str__"))) := of_decide_eq_true (told_at c 13 0)
  have iSPut : PySem.W.isFn K (.ref (He.ma K (He.ga K "Put") "__str__")) = true := (told_at c 13 1)
  obtain ⟨fdSPut, YSPut⟩ := told_fn c 18
  have XSPut : Fun K "__str__" "Put.__str__" sPutStr (He.ma K (He.ga K "Put") "__str__") fdSPut := fun_of YSPut
  have aOpen : PySem.W.nsIn K mainGlobals "Open" = some (some (.ref (He.ga K "Open"))) := of_decide_eq_true (told_at c 13 2)
  have inOpen : PySem.W.findIn K (.ref (He.ga K "Open")) "__init__" = some (some (.ref (He.ma K (He.ga K "Open") "__init__"))) := of_decide_eq_true (told_at c 13 3)
  have iOpen : PySem.W.isFn K (.ref (He.ma K (He.ga K "Open") "__init__")) = true := (told_at c 13 4)
  obtain ⟨fdOpen, YOpen⟩ := told_fn c 19
  have XOpen : Fun K "__init__" "Open.__init__" sOpenInit (He.ma K (He.ga K "Open") "__init__") fdOpen := fun_of YOpen
  have pgOpen : PySem.W.plainGet K (He.ga K "Open") Str.empty = true := (told_at c 13 5)
  have hdOpen : PySem.W.hasDictIn K (He.ga K "Open") = true := (told_at c 13 6)
  have poOpen : PySem.W.plainOver K (He.ga K "Open") = true := (told_at c 13 7)
  have saOpen : PySem.W.findIn K (.ref (He.ga K "Open")) "__setattr__" = some (some (.builtin "object.__setattr__")) := of_decide_eq_true (told_at c 13 8)
  have mkOpen : PySem.W.makesIn K (He.ga K "Open") = true := (told_at c 13 9)
  have kcOpen : PySem.W.keepIn K (.ref (He.ga K "Open")) = true := (told_at c 14 0)
  have nOpen0 : PySem.W.findIn K (.ref (He.ga K "Open")) "word" = some none := of_decide_eq_true (told_at c 14 1)
  have nOpen1 : PySem.W.findIn K (.ref (He.ga K "Open")) "name" = some none := of_decide_eq_true (told_at c 14 2)
  have inSOpen : PySem.W.findIn K (.ref (He.ga K "Open")) "__str__" = some (some (.ref (He.ma K (He.ga K "Open") "__str__"))) := of_decide_eq_true (told_at c 14 3)
  have iSOpen : PySem.W.isFn K (.ref (He.ma K (He.ga K "Open") "__str__")) = true := (told_at c 14 4)
  obtain ⟨fdSOpen, YSOpen⟩ := told_fn c 20
  have XSOpen : Fun K "__str__" "Open.__str__" sOpenStr (He.ma K (He.ga K "Open") "__str__") fdSOpen := fun_of YSOpen
  have aRow : PySem.W.nsIn K mainGlobals "Row" = some (some (.ref (He.ga K "Row"))) := of_decide_eq_true (told_at c 14 5)
  have asamerow : PySem.W.nsIn K mainGlobals "same_row" = some (some (.ref (He.ga K "same_row"))) := of_decide_eq_true (told_at c 14 6)
  obtain ⟨fdsamerow, Ysamerow⟩ := told_fn c 21
  have Xsamerow : Fun K "same_row" "same_row" sSameRow (He.ga K "same_row") fdsamerow := fun_of Ysamerow
  have inQNote : PySem.W.findIn K (.ref (He.ga K "Note")) "__eq__" = some (some (.ref (He.ma K (He.ga K "Note") "__eq__"))) := of_decide_eq_true (told_at c 14 7)
  have iQNote : PySem.W.isFn K (.ref (He.ma K (He.ga K "Note") "__eq__")) = true := (told_at c 14 8)
  obtain ⟨fdQNote, YQNote⟩ := told_fn c 22
  have XQNote : Fun K "__eq__" "Note.__eq__" sNoteEq (He.ma K (He.ga K "Note") "__eq__") fdQNote := fun_of YQNote
  have inQSkip : PySem.W.findIn K (.ref (He.ga K "Skip")) "__eq__" = some (some (.ref (He.ma K (He.ga K "Skip") "__eq__"))) := of_decide_eq_true (told_at c 14 9)
  have iQSkip : PySem.W.isFn K (.ref (He.ma K (He.ga K "Skip") "__eq__")) = true := (told_at c 15 0)
  obtain ⟨fdQSkip, YQSkip⟩ := told_fn c 23
  have XQSkip : Fun K "__eq__" "Skip.__eq__" sSkipEq (He.ma K (He.ga K "Skip") "__eq__") fdQSkip := fun_of YQSkip
  have inQSet : PySem.W.findIn K (.ref (He.ga K "Set")) "__eq__" = some (some (.ref (He.ma K (He.ga K "Set") "__eq__"))) := of_decide_eq_true (told_at c 15 1)
  have iQSet : PySem.W.isFn K (.ref (He.ma K (He.ga K "Set") "__eq__")) = true := (told_at c 15 2)
  obtain ⟨fdQSet, YQSet⟩ := told_fn c 24
  have XQSet : Fun K "__eq__" "Set.__eq__" sSetEq (He.ma K (He.ga K "Set") "__eq__") fdQSet := fun_of YQSet
  have inQKeep : PySem.W.findIn K (.ref (He.ga K "Keep")) "__eq__" = some (some (.ref (He.ma K (He.ga K "Keep") "__eq__"))) := of_decide_eq_true (told_at c 15 3)
  have iQKeep : PySem.W.isFn K (.ref (He.ma K (He.ga K "Keep") "__eq__")) = true := (told_at c 15 4)
  obtain ⟨fdQKeep, YQKeep⟩ := told_fn c 25
  have XQKeep : Fun K "__eq__" "Keep.__eq__" sKeepEq (He.ma K (He.ga K "Keep") "__eq__") fdQKeep := fun_of YQKeep
  have inQBack : PySem.W.findIn K (.ref (He.ga K "Back")) "__eq__" = some (some (.ref (He.ma K (He.ga K "Back") "__eq__"))) := of_decide_eq_true (told_at c 15 5)
  have iQBack : PySem.W.isFn K (.ref (He.ma K (He.ga K "Back") "__eq__")) = true := (told_at c 15 6)
  obtain ⟨fdQBack, YQBack⟩ := told_fn c 26
  have XQBack : Fun K "__eq__" "Back.__eq__" sBackEq (He.ma K (He.ga K "Back") "__eq__") fdQBack := fun_of YQBack
  have inQRef : PySem.W.findIn K (.ref (He.ga K "Ref")) "__eq__" = some (some (.ref (He.ma K (He.ga K "Ref") "__eq__"))) := of_decide_eq_true (told_at c 15 7)
  have iQRef : PySem.W.isFn K (.ref (He.ma K (He.ga K "Ref") "__eq__")) = true := (told_at c 15 8)
  obtain ⟨fdQRef, YQRef⟩ := told_fn c 27
  have XQRef : Fun K "__eq__" "Ref.__eq__" sRefEq (He.ma K (He.ga K "Ref") "__eq__") fdQRef := fun_of YQRef
  have inQPut : PySem.W.findIn K (.ref (He.ga K "Put")) "__eq__" = some (some (.ref (He.ma K (He.ga K "Put") "__eq__"))) := of_decide_eq_true (told_at c 15 9)
  have iQPut : PySem.W.isFn K (.ref (He.ma K (He.ga K "Put") "__eq__")) = true := (told_at c 16 0)
  obtain ⟨fdQPut, YQPut⟩ := told_fn c 28
  have XQPut : Fun K "__eq__" "Put.__eq__" sPutEq (He.ma K (He.ga K "Put") "__eq__") fdQPut := fun_of YQPut
  have inQOpen : PySem.W.findIn K (.ref (He.ga K "Open")) "__eq__" = some (some (.ref (He.ma K (He.ga K "Open") "__eq__"))) := of_decide_eq_true (told_at c 16 1)
  have iQOpen : PySem.W.isFn K (.ref (He.ma K (He.ga K "Open") "__eq__")) = true := (told_at c 16 2)
  obtain ⟨fdQOpen, YQOpen⟩ := told_fn c 29
  have XQOpen : Fun K "__eq__" "Open.__eq__" sOpenEq (He.ma K (He.ga K "Open") "__eq__") fdQOpen := fun_of YQOpen
  have aInvalidFilling : PySem.W.nsIn K mainGlobals "InvalidFilling" = some (some (.ref (He.ga K "InvalidFilling"))) := of_decide_eq_true (told_at c 16 3)
  have xInvalidFilling := excQ_ok (K := K) (C := (He.ga K "InvalidFilling")) (nid := "ValueError.__new__") (told_at c 16 4)
  have saInvalidFilling : PySem.W.findIn K (.ref (He.ga K "InvalidFilling")) "__setattr__" = some (some (.builtin "object.__setattr__")) := of_decide_eq_true (told_at c 16 5)
  have gaInvalidFilling : PySem.W.findIn K (.ref (He.ga K "InvalidFilling")) "__getattribute__" = some (some (.builtin "BaseException.__getattribute__")) := of_decide_eq_true (told_at c 16 6)
  have ggInvalidFilling : PySem.W.findIn K (.ref (He.ga K "InvalidFilling")) "__getattr__" = some (none) := of_decide_eq_true (told_at c 16 7)
  have nfInvalidFilling : PySem.W.findIn K (.ref (He.ga K "InvalidFilling")) "word" = some (none) := of_decide_eq_true (told_at c 16 8)
  have inInvalidFilling : PySem.W.findIn K (.ref (He.ga K "InvalidFilling")) "__init__" = some (some (.ref (He.ma K (He.ga K "InvalidFilling") "__init__"))) := of_decide_eq_true (told_at c 16 9)
  have haInvalidFilling : PySem.W.findIn K (.ref (He.ga K "InvalidFilling")) "__class__" = some (some (.builtin "object.__class__")) := of_decide_eq_true (told_at c 17 0)
  have tiInvalidFilling : PySem.W.typeIn K (.ref (He.ma K (He.ga K "InvalidFilling") "__init__")) = some (.type "function") := of_decide_eq_true (told_at c 17 1)
  obtain ⟨fdInvalidFilling, YInvalidFilling⟩ := told_fn c 30
  have XInvalidFilling : Fun K "__init__" "InvalidFilling.__init__" sIFInit (He.ma K (He.ga K "InvalidFilling") "__init__") fdInvalidFilling := fun_of YInvalidFilling
  have kcInvalidFilling : PySem.W.keepIn K (.ref (He.ga K "InvalidFilling")) = true := (told_at c 17 2)
  have eCInvalidFilling : PySem.W.subIn K (.ref (He.ga K "InvalidFilling")) (.type "BaseException") = some true := of_decide_eq_true (told_at c 17 3)
  have tCInvalidFilling : PySem.W.typeIn K (.ref (He.ga K "InvalidFilling")) = some (.type "type") := of_decide_eq_true (told_at c 17 4)
  have hCInvalidFilling : PySem.W.hasDictIn K (He.ga K "InvalidFilling") = true := (told_at c 17 5)
  have iCInvalidFilling : PySem.W.isClsIn K (He.ga K "InvalidFilling") = true := (told_at c 17 6)
  have sCInvalidFilling : PySem.W.subIn K (.ref (He.ga K "InvalidFilling")) (.ref (He.ga K "InvalidFilling")) = some true := of_decide_eq_true (told_at c 17 7)
  have hmInvalidFilling : PySem.W.mroIn K (He.ga K "InvalidFilling") (.type "object") = some true := of_decide_eq_true (told_at c 17 8)
  have aFilling : PySem.W.nsIn K mainGlobals "Filling" = some (some (.ref (He.ga K "Filling"))) := of_decide_eq_true (told_at c 17 9)
  have inFilling : PySem.W.findIn K (.ref (He.ga K "Filling")) "__init__" = some (some (.ref (He.ma K (He.ga K "Filling") "__init__"))) := of_decide_eq_true (told_at c 18 0)
  have iFilling : PySem.W.isFn K (.ref (He.ma K (He.ga K "Filling") "__init__")) = true := (told_at c 18 1)
  have SDFilling : ∀ H : Hp, SqT K H (He.dflAt ("Filling", some "__init__") 0 K) [] := fun H => tupQ_ok (vs := []) (told_at c 18 2) H
  obtain ⟨fdFilling, YFilling⟩ := told_fn c 31
  have FFilling : FunD K "__init__" "Filling.__init__" (defArgs sFInit) (defBody sFInit) (defScope sFInit) [.ref (He.dflAt ("Filling", some "__init__") 0 K)] [] (He.ma K (He.ga K "Filling") "__init__") fdFilling := YFilling
  have pgFilling : PySem.W.plainGet K (He.ga K "Filling") Str.empty = true := (told_at c 18 3)
  have hdFilling : PySem.W.hasDictIn K (He.ga K "Filling") = true := (told_at c 18 4)
  have poFilling : PySem.W.plainOver K (He.ga K "Filling") = true := (told_at c 18 5)
  have saFilling : PySem.W.findIn K (.ref (He.ga K "Filling")) "__setattr__" = some (some (.builtin "object.__setattr__")) := of_decide_eq_true (told_at c 18 6)
  have mkFilling : PySem.W.makesIn K (He.ga K "Filling") = true := (told_at c 18 7)
  have kcFilling : PySem.W.keepIn K (.ref (He.ga K "Filling")) = true := (told_at c 18 8)
  have nFilling0 : PySem.W.findIn K (.ref (He.ga K "Filling")) "filled" = some none := of_decide_eq_true (told_at c 18 9)
  obtain ⟨fdnamesFilling, YnamesFilling⟩ := told_fn c 32
  have XnamesFilling : Fun K "names" "Filling.names" sFNames (getterQ K (He.ma K (He.ga K "Filling") "names")) fdnamesFilling := fun_of YnamesFilling
  have inrows_forFilling : PySem.W.findIn K (.ref (He.ga K "Filling")) "rows_for" = some (some (.ref (He.ma K (He.ga K "Filling") "rows_for"))) := of_decide_eq_true (told_at c 19 1)
  have irows_forFilling : PySem.W.isFn K (.ref (He.ma K (He.ga K "Filling") "rows_for")) = true := (told_at c 19 2)
  obtain ⟨fdrows_forFilling, Yrows_forFilling⟩ := told_fn c 33
  have Xrows_forFilling : Fun K "rows_for" "Filling.rows_for" sFRows (He.ma K (He.ga K "Filling") "rows_for") fdrows_forFilling := fun_of Yrows_forFilling
  have instrFilling : PySem.W.findIn K (.ref (He.ga K "Filling")) "__str__" = some (some (.ref (He.ma K (He.ga K "Filling") "__str__"))) := of_decide_eq_true (told_at c 19 3)
  have istrFilling : PySem.W.isFn K (.ref (He.ma K (He.ga K "Filling") "__str__")) = true := (told_at c 19 4)
  obtain ⟨fdstrFilling, YstrFilling⟩ := told_fn c 34
  have XstrFilling : Fun K "__str__" "Filling.__str__" sFStr (He.ma K (He.ga K "Filling") "__str__") fdstrFilling := fun_of YstrFilling
  have ineqFilling : PySem.W.findIn K (.ref (He.ga K "Filling")) "__eq__" = some (some (.ref (He.ma K (He.ga K "Filling") "__eq__"))) := of_decide_eq_true (told_at c 19 5)
  have ieqFilling : PySem.W.isFn K (.ref (He.ma K (He.ga K "Filling") "__eq__")) = true := (told_at c 19 6)
  obtain ⟨fdeqFilling, YeqFilling⟩ := told_fn c 35
  have XeqFilling : Fun K "__eq__" "Filling.__eq__" sFEq (He.ma K (He.ga K "Filling") "__eq__") fdeqFilling := fun_of YeqFilling
  have aissequence : PySem.W.nsIn K mainGlobals "is_sequence" = some (some (.ref (He.ga K "is_sequence"))) := of_decide_eq_true (told_at c 19 7)
  obtain ⟨fdissequence, Yissequence⟩ := told_fn c 36
  have Xissequence : Fun K "is_sequence" "is_sequence" sIsSeq (He.ga K "is_sequence") fdissequence := fun_of Yissequence
  have aispair : PySem.W.nsIn K mainGlobals "is_pair" = some (some (.ref (He.ga K "is_pair"))) := of_decide_eq_true (told_at c 19 8)
  obtain ⟨fdispair, Yispair⟩ := told_fn c 37
  have Xispair : Fun K "is_pair" "is_pair" sIsPairF (He.ga K "is_pair") fdispair := fun_of Yispair
  have aarefillable : PySem.W.nsIn K mainGlobals "are_fillable" = some (some (.ref (He.ga K "are_fillable"))) := of_decide_eq_true (told_at c 19 9)
  obtain ⟨fdarefillable, Yarefillable⟩ := told_fn c 38
  have Xarefillable : Fun K "are_fillable" "are_fillable" sAreFill (He.ga K "are_fillable") fdarefillable := fun_of Yarefillable
  have aisfilled : PySem.W.nsIn K mainGlobals "is_filled" = some (some (.ref (He.ga K "is_filled"))) := of_decide_eq_true (told_at c 20 0)
  obtain ⟨fdisfilled, Yisfilled⟩ := told_fn c 39
  have Xisfilled : Fun K "is_filled" "is_filled" sIsFilled (He.ga K "is_filled") fdisfilled := fun_of Yisfilled
  have afilledtext : PySem.W.nsIn K mainGlobals "filled_text" = some (some (.ref (He.ga K "filled_text"))) := of_decide_eq_true (told_at c 20 1)
  obtain ⟨fdfilledtext, Yfilledtext⟩ := told_fn c 40
  have Xfilledtext : Fun K "filled_text" "filled_text" sFText (He.ga K "filled_text") fdfilledtext := fun_of Yfilledtext
  have alawdeal : PySem.W.nsIn K mainGlobals "_law_deal" = some (some (.ref (He.ga K "_law_deal"))) := of_decide_eq_true (told_at c 20 2)
  obtain ⟨fdlawdeal, Ylawdeal⟩ := told_fn c 41
  have Xlawdeal : Fun K "_law_deal" "_law_deal" sDeal (He.ga K "_law_deal") fdlawdeal := fun_of Ylawdeal
  have alawdraw : PySem.W.nsIn K mainGlobals "_law_draw" = some (some (.ref (He.ga K "_law_draw"))) := of_decide_eq_true (told_at c 20 3)
  obtain ⟨fdlawdraw, Ylawdraw⟩ := told_fn c 42
  have Xlawdraw : Fun K "_law_draw" "_law_draw" sDraw (He.ga K "_law_draw") fdlawdraw := fun_of Ylawdraw
  have alawpick : PySem.W.nsIn K mainGlobals "_law_pick" = some (some (.ref (He.ga K "_law_pick"))) := of_decide_eq_true (told_at c 20 4)
  obtain ⟨fdlawpick, Ylawpick⟩ := told_fn c 43
  have Xlawpick : Fun K "_law_pick" "_law_pick" sPick (He.ga K "_law_pick") fdlawpick := fun_of Ylawpick
  have alawmixed : PySem.W.nsIn K mainGlobals "_law_mixed" = some (some (.ref (He.ga K "_law_mixed"))) := of_decide_eq_true (told_at c 20 5)
  obtain ⟨fdlawmixed, Ylawmixed⟩ := told_fn c 44
  have Xlawmixed : Fun K "_law_mixed" "_law_mixed" sMixed (He.ga K "_law_mixed") fdlawmixed := fun_of Ylawmixed
  have alawnames : PySem.W.nsIn K mainGlobals "_law_names" = some (some (.ref (He.ga K "_law_names"))) := of_decide_eq_true (told_at c 20 6)
  obtain ⟨fdlawnames, Ylawnames⟩ := told_fn c 45
  have Xlawnames : Fun K "_law_names" "_law_names" sNames (He.ga K "_law_names") fdlawnames := fun_of Ylawnames
  have alawrowof : PySem.W.nsIn K mainGlobals "_law_row_of" = some (some (.ref (He.ga K "_law_row_of"))) := of_decide_eq_true (told_at c 20 7)
  obtain ⟨fdlawrowof, Ylawrowof⟩ := told_fn c 46
  have Xlawrowof : Fun K "_law_row_of" "_law_row_of" sRowOf (He.ga K "_law_row_of") fdlawrowof := fun_of Ylawrowof
  have alawrowsdrawn : PySem.W.nsIn K mainGlobals "_law_rows_drawn" = some (some (.ref (He.ga K "_law_rows_drawn"))) := of_decide_eq_true (told_at c 20 8)
  obtain ⟨fdlawrowsdrawn, Ylawrowsdrawn⟩ := told_fn c 47
  have Xlawrowsdrawn : Fun K "_law_rows_drawn" "_law_rows_drawn" sDrawn (He.ga K "_law_rows_drawn") fdlawrowsdrawn := fun_of Ylawrowsdrawn
  have alawfillingtext : PySem.W.nsIn K mainGlobals "_law_filling_text" = some (some (.ref (He.ga K "_law_filling_text"))) := of_decide_eq_true (told_at c 20 9)
  obtain ⟨fdlawfillingtext, Ylawfillingtext⟩ := told_fn c 48
  have Xlawfillingtext : Fun K "_law_filling_text" "_law_filling_text" sFilT (He.ga K "_law_filling_text") fdlawfillingtext := fun_of Ylawfillingtext
  have alaw : PySem.W.nsIn K mainGlobals "law" = some (some (.ref (He.ga K "law"))) := of_decide_eq_true (told_at c 21 0)
  obtain ⟨fdlaw, Ylaw⟩ := told_fn c 49
  have Xlaw : Fun K "law" "law" sLaw17 (He.ga K "law") fdlaw := fun_of Ylaw
  have hnGet : PySem.W.specialIn K (.builtin "object.__class__") "__get__" = some (some (.builtin "getset_descriptor.__get__")) := of_decide_eq_true (told_at c 21 1)
  have htGet : PySem.W.takesIn K (.builtin "object.__class__") = some true := of_decide_eq_true (told_at c 21 2)
  have kSR : PySem.W.kitOne K (.type "str") (.ref (He.ga K "Row")) = some false := of_decide_eq_true (told_at c 21 3)
  have kRNote : PySem.W.kitOne K (.ref (He.ga K "Note")) (.ref (He.ga K "Row")) = some true := of_decide_eq_true (told_at c 21 4)
  have nSNote : PySem.W.notFirst K (He.ga K "Note") (.type "str") = true := (told_at c 21 5)
  have cANote : PySem.W.findIn K (.ref (He.ga K "Note")) "__class__" = some (some (.builtin "object.__class__")) := of_decide_eq_true (told_at c 21 6)
  have cMNote : PySem.W.mroIn K (He.ga K "Note") (.type "object") = some true := of_decide_eq_true (told_at c 21 7)
  have neNote : PySem.W.findIn K (.ref (He.ga K "Note")) "__ne__" = some (some (.builtin "object.__ne__")) := of_decide_eq_true (told_at c 21 8)
  have nRNoteNote : PySem.W.notFirst K (He.ga K "Note") (.ref (He.ga K "Note")) = true := (told_at c 21 9)
  have nRNoteSkip : PySem.W.notFirst K (He.ga K "Note") (.ref (He.ga K "Skip")) = true := (told_at c 22 0)
  have nRNoteSet : PySem.W.notFirst K (He.ga K "Note") (.ref (He.ga K "Set")) = true := (told_at c 22 1)
  have nRNoteKeep : PySem.W.notFirst K (He.ga K "Note") (.ref (He.ga K "Keep")) = true := (told_at c 22 2)
  have nRNoteBack : PySem.W.notFirst K (He.ga K "Note") (.ref (He.ga K "Back")) = true := (told_at c 22 3)
  have nRNoteRef : PySem.W.notFirst K (He.ga K "Note") (.ref (He.ga K "Ref")) = true := (told_at c 22 4)
  have nRNotePut : PySem.W.notFirst K (He.ga K "Note") (.ref (He.ga K "Put")) = true := (told_at c 22 5)
  have nRNoteOpen : PySem.W.notFirst K (He.ga K "Note") (.ref (He.ga K "Open")) = true := (told_at c 22 6)
  have kRSkip : PySem.W.kitOne K (.ref (He.ga K "Skip")) (.ref (He.ga K "Row")) = some true := of_decide_eq_true (told_at c 22 7)
  have nSSkip : PySem.W.notFirst K (He.ga K "Skip") (.type "str") = true := (told_at c 22 8)
  have cASkip : PySem.W.findIn K (.ref (He.ga K "Skip")) "__class__" = some (some (.builtin "object.__class__")) := of_decide_eq_true (told_at c 22 9)
  have cMSkip : PySem.W.mroIn K (He.ga K "Skip") (.type "object") = some true := of_decide_eq_true (told_at c 23 0)
  have neSkip : PySem.W.findIn K (.ref (He.ga K "Skip")) "__ne__" = some (some (.builtin "object.__ne__")) := of_decide_eq_true (told_at c 23 1)
  have nRSkipNote : PySem.W.notFirst K (He.ga K "Skip") (.ref (He.ga K "Note")) = true := (told_at c 23 2)
  have nRSkipSkip : PySem.W.notFirst K (He.ga K "Skip") (.ref (He.ga K "Skip")) = true := (told_at c 23 3)
  have nRSkipSet : PySem.W.notFirst K (He.ga K "Skip") (.ref (He.ga K "Set")) = true := (told_at c 23 4)
  have nRSkipKeep : PySem.W.notFirst K (He.ga K "Skip") (.ref (He.ga K "Keep")) = true := (told_at c 23 5)
  have nRSkipBack : PySem.W.notFirst K (He.ga K "Skip") (.ref (He.ga K "Back")) = true := (told_at c 23 6)
  have nRSkipRef : PySem.W.notFirst K (He.ga K "Skip") (.ref (He.ga K "Ref")) = true := (told_at c 23 7)
  have nRSkipPut : PySem.W.notFirst K (He.ga K "Skip") (.ref (He.ga K "Put")) = true := (told_at c 23 8)
  have nRSkipOpen : PySem.W.notFirst K (He.ga K "Skip") (.ref (He.ga K "Open")) = true := (told_at c 23 9)
  have kRSet : PySem.W.kitOne K (.ref (He.ga K "Set")) (.ref (He.ga K "Row")) = some true := of_decide_eq_true (told_at c 24 0)
  have nSSet : PySem.W.notFirst K (He.ga K "Set") (.type "str") = true := (told_at c 24 1)
  have cASet : PySem.W.findIn K (.ref (He.ga K "Set")) "__class__" = some (some (.builtin "object.__class__")) := of_decide_eq_true (told_at c 24 2)
  have cMSet : PySem.W.mroIn K (He.ga K "Set") (.type "object") = some true := of_decide_eq_true (told_at c 24 3)
  have neSet : PySem.W.findIn K (.ref (He.ga K "Set")) "__ne__" = some (some (.builtin "object.__ne__")) := of_decide_eq_true (told_at c 24 4)
  have nRSetNote : PySem.W.notFirst K (He.ga K "Set") (.ref (He.ga K "Note")) = true := (told_at c 24 5)
  have nRSetSkip : PySem.W.notFirst K (He.ga K "Set") (.ref (He.ga K "Skip")) = true := (told_at c 24 6)
  have nRSetSet : PySem.W.notFirst K (He.ga K "Set") (.ref (He.ga K "Set")) = true := (told_at c 24 7)
  have nRSetKeep : PySem.W.notFirst K (He.ga K "Set") (.ref (He.ga K "Keep")) = true := (told_at c 24 8)
  have nRSetBack : PySem.W.notFirst K (He.ga K "Set") (.ref (He.ga K "Back")) = true := (told_at c 24 9)
  have nRSetRef : PySem.W.notFirst K (He.ga K "Set") (.ref (He.ga K "Ref")) = true := (told_at c 25 0)
  have nRSetPut : PySem.W.notFirst K (He.ga K "Set") (.ref (He.ga K "Put")) = true := (told_at c 25 1)
  have nRSetOpen : PySem.W.notFirst K (He.ga K "Set") (.ref (He.ga K "Open")) = true := (told_at c 25 2)
  have kRKeep : PySem.W.kitOne K (.ref (He.ga K "Keep")) (.ref (He.ga K "Row")) = some true := of_decide_eq_true (told_at c 25 3)
  have nSKeep : PySem.W.notFirst K (He.ga K "Keep") (.type "str") = true := (told_at c 25 4)
  have cAKeep : PySem.W.findIn K (.ref (He.ga K "Keep")) "__class__" = some (some (.builtin "object.__class__")) := of_decide_eq_true (told_at c 25 5)
  have cMKeep : PySem.W.mroIn K (He.ga K "Keep") (.type "object") = some true := of_decide_eq_true (told_at c 25 6)
  have neKeep : PySem.W.findIn K (.ref (He.ga K "Keep")) "__ne__" = some (some (.builtin "object.__ne__")) := of_decide_eq_true (told_at c 25 7)
  have nRKeepNote : PySem.W.notFirst K (He.ga K "Keep") (.ref (He.ga K "Note")) = true := (told_at c 25 8)
  have nRKeepSkip : PySem.W.notFirst K (He.ga K "Keep") (.ref (He.ga K "Skip")) = true := (told_at c 25 9)
  have nRKeepSet : PySem.W.notFirst K (He.ga K "Keep") (.ref (He.ga K "Set")) = true := (told_at c 26 0)
  have nRKeepKeep : PySem.W.notFirst K (He.ga K "Keep") (.ref (He.ga K "Keep")) = true := (told_at c 26 1)
  have nRKeepBack : PySem.W.notFirst K (He.ga K "Keep") (.ref (He.ga K "Back")) = true := (told_at c 26 2)
  have nRKeepRef : PySem.W.notFirst K (He.ga K "Keep") (.ref (He.ga K "Ref")) = true := (told_at c 26 3)
  have nRKeepPut : PySem.W.notFirst K (He.ga K "Keep") (.ref (He.ga K "Put")) = true := (told_at c 26 4)
  have nRKeepOpen : PySem.W.notFirst K (He.ga K "Keep") (.ref (He.ga K "Open")) = true := (told_at c 26 5)
  have kRBack : PySem.W.kitOne K (.ref (He.ga K "Back")) (.ref (He.ga K "Row")) = some true := of_decide_eq_true (told_at c 26 6)
  have nSBack : PySem.W.notFirst K (He.ga K "Back") (.type "str") = true := (told_at c 26 7)
  have cABack : PySem.W.findIn K (.ref (He.ga K "Back")) "__class__" = some (some (.builtin "object.__class__")) := of_decide_eq_true (told_at c 26 8)
  have cMBack : PySem.W.mroIn K (He.ga K "Back") (.type "object") = some true := of_decide_eq_true (told_at c 26 9)
  have neBack : PySem.W.findIn K (.ref (He.ga K "Back")) "__ne__" = some (some (.builtin "object.__ne__")) := of_decide_eq_true (told_at c 27 0)
  have nRBackNote : PySem.W.notFirst K (He.ga K "Back") (.ref (He.ga K "Note")) = true := (told_at c 27 1)
  have nRBackSkip : PySem.W.notFirst K (He.ga K "Back") (.ref (He.ga K "Skip")) = true := (told_at c 27 2)
  have nRBackSet : PySem.W.notFirst K (He.ga K "Back") (.ref (He.ga K "Set")) = true := (told_at c 27 3)
  have nRBackKeep : PySem.W.notFirst K (He.ga K "Back") (.ref (He.ga K "Keep")) = true := (told_at c 27 4)
  have nRBackBack : PySem.W.notFirst K (He.ga K "Back") (.ref (He.ga K "Back")) = true := (told_at c 27 5)
  have nRBackRef : PySem.W.notFirst K (He.ga K "Back") (.ref (He.ga K "Ref")) = true := (told_at c 27 6)
  have nRBackPut : PySem.W.notFirst K (He.ga K "Back") (.ref (He.ga K "Put")) = true := (told_at c 27 7)
  have nRBackOpen : PySem.W.notFirst K (He.ga K "Back") (.ref (He.ga K "Open")) = true := (told_at c 27 8)
  have kRRef : PySem.W.kitOne K (.ref (He.ga K "Ref")) (.ref (He.ga K "Row")) = some true := of_decide_eq_true (told_at c 27 9)
  have nSRef : PySem.W.notFirst K (He.ga K "Ref") (.type "str") = true := (told_at c 28 0)
  have cARef : PySem.W.findIn K (.ref (He.ga K "Ref")) "__class__" = some (some (.builtin "object.__class__")) := of_decide_eq_true (told_at c 28 1)
  have cMRef : PySem.W.mroIn K (He.ga K "Ref") (.type "object") = some true := of_decide_eq_true (told_at c 28 2)
  have neRef : PySem.W.findIn K (.ref (He.ga K "Ref")) "__ne__" = some (some (.builtin "object.__ne__")) := of_decide_eq_true (told_at c 28 3)
  have nRRefNote : PySem.W.notFirst K (He.ga K "Ref") (.ref (He.ga K "Note")) = true := (told_at c 28 4)
  have nRRefSkip : PySem.W.notFirst K (He.ga K "Ref") (.ref (He.ga K "Skip")) = true := (told_at c 28 5)
  have nRRefSet : PySem.W.notFirst K (He.ga K "Ref") (.ref (He.ga K "Set")) = true := (told_at c 28 6)
  have nRRefKeep : PySem.W.notFirst K (He.ga K "Ref") (.ref (He.ga K "Keep")) = true := (told_at c 28 7)
  have nRRefBack : PySem.W.notFirst K (He.ga K "Ref") (.ref (He.ga K "Back")) = true := (told_at c 28 8)
  have nRRefRef : PySem.W.notFirst K (He.ga K "Ref") (.ref (He.ga K "Ref")) = true := (told_at c 28 9)
  have nRRefPut : PySem.W.notFirst K (He.ga K "Ref") (.ref (He.ga K "Put")) = true := (told_at c 29 0)
  have nRRefOpen : PySem.W.notFirst K (He.ga K "Ref") (.ref (He.ga K "Open")) = true := (told_at c 29 1)
  have kRPut : PySem.W.kitOne K (.ref (He.ga K "Put")) (.ref (He.ga K "Row")) = some true := of_decide_eq_true (told_at c 29 2)
  have nSPut : PySem.W.notFirst K (He.ga K "Put") (.type "str") = true := (told_at c 29 3)
  have cAPut : PySem.W.findIn K (.ref (He.ga K "Put")) "__class__" = some (some (.builtin "object.__class__")) := of_decide_eq_true (told_at c 29 4)
  have cMPut : PySem.W.mroIn K (He.ga K "Put") (.type "object") = some true := of_decide_eq_true (told_at c 29 5)
  have nePut : PySem.W.findIn K (.ref (He.ga K "Put")) "__ne__" = some (some (.builtin "object.__ne__")) := of_decide_eq_true (told_at c 29 6)
  have nRPutNote : PySem.W.notFirst K (He.ga K "Put") (.ref (He.ga K "Note")) = true := (told_at c 29 7)
  have nRPutSkip : PySem.W.notFirst K (He.ga K "Put") (.ref (He.ga K "Skip")) = true := (told_at c 29 8)
  have nRPutSet : PySem.W.notFirst K (He.ga K "Put") (.ref (He.ga K "Set")) = true := (told_at c 29 9)
  have nRPutKeep : PySem.W.notFirst K (He.ga K "Put") (.ref (He.ga K "Keep")) = true := (told_at c 30 0)
  have nRPutBack : PySem.W.notFirst K (He.ga K "Put") (.ref (He.ga K "Back")) = true := (told_at c 30 1)
  have nRPutRef : PySem.W.notFirst K (He.ga K "Put") (.ref (He.ga K "Ref")) = true := (told_at c 30 2)
  have nRPutPut : PySem.W.notFirst K (He.ga K "Put") (.ref (He.ga K "Put")) = true := (told_at c 30 3)
  have nRPutOpen : PySem.W.notFirst K (He.ga K "Put") (.ref (He.ga K "Open")) = true := (told_at c 30 4)
  have kROpen : PySem.W.kitOne K (.ref (He.ga K "Open")) (.ref (He.ga K "Row")) = some true := of_decide_eq_true (told_at c 30 5)
  have nSOpen : PySem.W.notFirst K (He.ga K "Open") (.type "str") = true := (told_at c 30 6)
  have cAOpen : PySem.W.findIn K (.ref (He.ga K "Open")) "__class__" = some (some (.builtin "object.__class__")) := of_decide_eq_true (told_at c 30 7)
  have cMOpen : PySem.W.mroIn K (He.ga K "Open") (.type "object") = some true := of_decide_eq_true (told_at c 30 8)
  have neOpen : PySem.W.findIn K (.ref (He.ga K "Open")) "__ne__" = some (some (.builtin "object.__ne__")) := of_decide_eq_true (told_at c 30 9)
  have nROpenNote : PySem.W.notFirst K (He.ga K "Open") (.ref (He.ga K "Note")) = true := (told_at c 31 0)
  have nROpenSkip : PySem.W.notFirst K (He.ga K "Open") (.ref (He.ga K "Skip")) = true := (told_at c 31 1)
  have nROpenSet : PySem.W.notFirst K (He.ga K "Open") (.ref (He.ga K "Set")) = true := (told_at c 31 2)
  have nROpenKeep : PySem.W.notFirst K (He.ga K "Open") (.ref (He.ga K "Keep")) = true := (told_at c 31 3)
  have nROpenBack : PySem.W.notFirst K (He.ga K "Open") (.ref (He.ga K "Back")) = true := (told_at c 31 4)
  have nROpenRef : PySem.W.notFirst K (He.ga K "Open") (.ref (He.ga K "Ref")) = true := (told_at c 31 5)
  have nROpenPut : PySem.W.notFirst K (He.ga K "Open") (.ref (He.ga K "Put")) = true := (told_at c 31 6)
  have nROpenOpen : PySem.W.notFirst K (He.ga K "Open") (.ref (He.ga K "Open")) = true := (told_at c 31 7)
  have kfNote : PySem.W.kitAny K (.ref (He.ga K "Note")) [.ref (He.ga K "Skip"), .ref (He.ga K "Set")] = some false := of_decide_eq_true (told_at c 31 8)
  have ksNote : PySem.W.kitAny K (.ref (He.ga K "Note")) [.type "list", .type "tuple"] = some false := of_decide_eq_true (told_at c 31 9)
  have kfSkip : PySem.W.kitAny K (.ref (He.ga K "Skip")) [.ref (He.ga K "Skip"), .ref (He.ga K "Set")] = some true := of_decide_eq_true (told_at c 32 0)
  have ksSkip : PySem.W.kitAny K (.ref (He.ga K "Skip")) [.type "list", .type "tuple"] = some false := of_decide_eq_true (told_at c 32 1)
  have kfSet : PySem.W.kitAny K (.ref (He.ga K "Set")) [.ref (He.ga K "Skip"), .ref (He.ga K "Set")] = some true := of_decide_eq_true (told_at c 32 2)
  have ksSet : PySem.W.kitAny K (.ref (He.ga K "Set")) [.type "list", .type "tuple"] = some false := of_decide_eq_true (told_at c 32 3)
  have kfKeep : PySem.W.kitAny K (.ref (He.ga K "Keep")) [.ref (He.ga K "Skip"), .ref (He.ga K "Set")] = some false := of_decide_eq_true (told_at c 32 4)
  have ksKeep : PySem.W.kitAny K (.ref (He.ga K "Keep")) [.type "list", .type "tuple"] = some false := of_decide_eq_true (told_at c 32 5)
  have kfBack : PySem.W.kitAny K (.ref (He.ga K "Back")) [.ref (He.ga K "Skip"), .ref (He.ga K "Set")] = some false := of_decide_eq_true (told_at c 32 6)
  have ksBack : PySem.W.kitAny K (.ref (He.ga K "Back")) [.type "list", .type "tuple"] = some false := of_decide_eq_true (told_at c 32 7)
  have kfRef : PySem.W.kitAny K (.ref (He.ga K "Ref")) [.ref (He.ga K "Skip"), .ref (He.ga K "Set")] = some false := of_decide_eq_true (told_at c 32 8)
  have ksRef : PySem.W.kitAny K (.ref (He.ga K "Ref")) [.type "list", .type "tuple"] = some false := of_decide_eq_true (told_at c 32 9)
  have kfPut : PySem.W.kitAny K (.ref (He.ga K "Put")) [.ref (He.ga K "Skip"), .ref (He.ga K "Set")] = some false := of_decide_eq_true (told_at c 33 0)
  have ksPut : PySem.W.kitAny K (.ref (He.ga K "Put")) [.type "list", .type "tuple"] = some false := of_decide_eq_true (told_at c 33 1)
  have kfOpen : PySem.W.kitAny K (.ref (He.ga K "Open")) [.ref (He.ga K "Skip"), .ref (He.ga K "Set")] = some false := of_decide_eq_true (told_at c 33 2)
  have ksOpen : PySem.W.kitAny K (.ref (He.ga K "Open")) [.type "list", .type "tuple"] = some false := of_decide_eq_true (told_at c 33 3)
  have kdNoneType : PySem.W.kitAny K (.type "NoneType") [.ref (He.ga K "Skip"), .ref (He.ga K "Set")] = some false := of_decide_eq_true (told_at c 33 4)
  have kdbool : PySem.W.kitAny K (.type "bool") [.ref (He.ga K "Skip"), .ref (He.ga K "Set")] = some false := of_decide_eq_true (told_at c 33 5)
  have kdint : PySem.W.kitAny K (.type "int") [.ref (He.ga K "Skip"), .ref (He.ga K "Set")] = some false := of_decide_eq_true (told_at c 33 6)
  have kdstr : PySem.W.kitAny K (.type "str") [.ref (He.ga K "Skip"), .ref (He.ga K "Set")] = some false := of_decide_eq_true (told_at c 33 7)
  have kdlist : PySem.W.kitAny K (.type "list") [.ref (He.ga K "Skip"), .ref (He.ga K "Set")] = some false := of_decide_eq_true (told_at c 33 8)
  have kdtuple : PySem.W.kitAny K (.type "tuple") [.ref (He.ga K "Skip"), .ref (He.ga K "Set")] = some false := of_decide_eq_true (told_at c 33 9)
  have kddict : PySem.W.kitAny K (.type "dict") [.ref (He.ga K "Skip"), .ref (He.ga K "Set")] = some false := of_decide_eq_true (told_at c 34 0)
  have cAF : PySem.W.findIn K (.ref (He.ga K "Filling")) "__class__" = some (some (.builtin "object.__class__")) := of_decide_eq_true (told_at c 34 1)
  have cMF : PySem.W.mroIn K (He.ga K "Filling") (.type "object") = some true := of_decide_eq_true (told_at c 34 2)
  have kCF : PySem.W.kitOne K (.ref (He.ga K "Filling")) (.ref (He.ga K "Filling")) = some true := of_decide_eq_true (told_at c 34 3)
  have nFF : PySem.W.notFirst K (He.ga K "Filling") (.ref (He.ga K "Filling")) = true := (told_at c 34 4)
  have neF : PySem.W.findIn K (.ref (He.ga K "Filling")) "__ne__" = some (some (.builtin "object.__ne__")) := of_decide_eq_true (told_at c 34 5)
  have suS : PySem.W.subIn K (.ref (He.ga K "Filling")) (.type "str") = some false := of_decide_eq_true (told_at c 34 6)
  have suN : PySem.W.subIn K (.ref (He.ga K "Filling")) (.type "NoneType") = some false := of_decide_eq_true (told_at c 34 7)
  have suT : PySem.W.subIn K (.ref (He.ga K "Filling")) (.type "tuple") = some false := of_decide_eq_true (told_at c 34 8)
  have dBF : tupBQ K (He.dflAt ("Filling", some "__init__") 0 K) = true := (told_at c 34 9)
  have kFNoneType : PySem.W.kitOne K (.type "NoneType") (.ref (He.ga K "Filling")) = some false := of_decide_eq_true (told_at c 35 0)
  have kFbool : PySem.W.kitOne K (.type "bool") (.ref (He.ga K "Filling")) = some false := of_decide_eq_true (told_at c 35 1)
  have kFint : PySem.W.kitOne K (.type "int") (.ref (He.ga K "Filling")) = some false := of_decide_eq_true (told_at c 35 2)
  have kFstr : PySem.W.kitOne K (.type "str") (.ref (He.ga K "Filling")) = some false := of_decide_eq_true (told_at c 35 3)
  have kFlist : PySem.W.kitOne K (.type "list") (.ref (He.ga K "Filling")) = some false := of_decide_eq_true (told_at c 35 4)
  have kFtuple : PySem.W.kitOne K (.type "tuple") (.ref (He.ga K "Filling")) = some false := of_decide_eq_true (told_at c 35 5)
  have kFdict : PySem.W.kitOne K (.type "dict") (.ref (He.ga K "Filling")) = some false := of_decide_eq_true (told_at c 35 6)
  have e := hfa.symm.trans (PySem.W.mg_of X G alaw)
  cases e
  have Mint : mg "int" = none := PySem.W.mg_none_of X G zint
  have Mbool : mg "bool" = none := PySem.W.mg_none_of X G zbool
  have Mstr : mg "str" = none := PySem.W.mg_none_of X G zstr
  have Misinstance : mg "isinstance" = none := PySem.W.mg_none_of X G zisinstance
  have Mlen : mg "len" = none := PySem.W.mg_none_of X G zlen
  have Mall : mg "all" = none := PySem.W.mg_none_of X G zall
  have Mabs : mg "abs" = none := PySem.W.mg_none_of X G zabs
  have Mlist : mg "list" = none := PySem.W.mg_none_of X G zlist
  have Mtuple : mg "tuple" = none := PySem.W.mg_none_of X G ztuple
  have Mset : mg "set" = none := PySem.W.mg_none_of X G zset
  have Msorted : mg "sorted" = none := PySem.W.mg_none_of X G zsorted
  have Mdict : mg "dict" = none := PySem.W.mg_none_of X G zdict
  have Mrange : mg "range" = none := PySem.W.mg_none_of X G zrange
  have Mrepr : mg "repr" = none := PySem.W.mg_none_of X G zrepr
  let Disinteger : At K mg "is_integer" sIsInteger ["value"] := ⟨(He.ga K "is_integer"), _, Xisinteger, Xisinteger.binds (ps := ["value"]) fun _ _ _ _ _ _ us hl => match us, hl with | [_], _ => rfl, PySem.W.mg_of X G aisinteger⟩
  let Disnumber : At K mg "is_number" sIsNumber ["value"] := ⟨(He.ga K "is_number"), _, Xisnumber, Xisnumber.binds (ps := ["value"]) fun _ _ _ _ _ _ us hl => match us, hl with | [_], _ => rfl, PySem.W.mg_of X G aisnumber⟩
  let Disname : At K mg "is_name" sIsName ["value"] := ⟨(He.ga K "is_name"), _, Xisname, Xisname.binds (ps := ["value"]) fun _ _ _ _ _ _ us hl => match us, hl with | [_], _ => rfl, PySem.W.mg_of X G aisname⟩
  have OInvalidRow : OexC K (He.ga K "InvalidRow") := ⟨xInvalidRow, saInvalidRow, eCInvalidRow, tCInvalidRow, kcInvalidRow⟩
  let EInvalidRow : TExc K mg "InvalidRow" "InvalidRow.__init__" "word" sIRInit := { C := (He.ga K "InvalidRow"), fI := (He.ma K (He.ga K "InvalidRow") "__init__"), fd := _, F := XInvalidRow, b := XInvalidRow.binds (ps := ["self", "word"]) fun _ _ _ _ _ _ us hl => match us, hl with | [_, _], _ => rfl, m := PySem.W.mg_of X G aInvalidRow, O := OInvalidRow, iC := inInvalidRow, tI := tiInvalidRow, noF := nfInvalidRow, E := ⟨gaInvalidRow, ggInvalidRow, eCInvalidRow, hCInvalidRow, haInvalidRow, hnGet, htGet, hmInvalidRow⟩, isC := iCInvalidRow, te := PySem.W.exm_ref eCInvalidRow hCInvalidRow tCInvalidRow sCInvalidRow, xf := ⟨gaInvalidRow, ggInvalidRow, eCInvalidRow, hCInvalidRow⟩ }
  let Dneedname : At K mg "need_name" sNeedName ["value", "word"] := ⟨(He.ga K "need_name"), _, Xneedname, Xneedname.binds (ps := ["value", "word"]) fun _ _ _ _ _ _ us hl => match us, hl with | [_, _], _ => rfl, PySem.W.mg_of X G aneedname⟩
  let MSNote : TStr K (He.ga K "Note") "Note.__str__" sNoteStr := ⟨(He.ma K (He.ga K "Note") "__str__"), _, XSNote, XSNote.binds (ps := ["self"]) fun _ _ _ _ _ _ us hl => match us, hl with | [_], _ => rfl, inSNote, iSNote⟩
  let MSSkip : TStr K (He.ga K "Skip") "Skip.__str__" sSkipStr := ⟨(He.ma K (He.ga K "Skip") "__str__"), _, XSSkip, XSSkip.binds (ps := ["self"]) fun _ _ _ _ _ _ us hl => match us, hl with | [_], _ => rfl, inSSkip, iSSkip⟩
  let MSSet : TStr K (He.ga K "Set") "Set.__str__" sSetStr := ⟨(He.ma K (He.ga K "Set") "__str__"), _, XSSet, XSSet.binds (ps := ["self"]) fun _ _ _ _ _ _ us hl => match us, hl with | [_], _ => rfl, inSSet, iSSet⟩
  let MSKeep : TStr K (He.ga K "Keep") "Keep.__str__" sKeepStr := ⟨(He.ma K (He.ga K "Keep") "__str__"), _, XSKeep, XSKeep.binds (ps := ["self"]) fun _ _ _ _ _ _ us hl => match us, hl with | [_], _ => rfl, inSKeep, iSKeep⟩
  let MSBack : TStr K (He.ga K "Back") "Back.__str__" sBackStr := ⟨(He.ma K (He.ga K "Back") "__str__"), _, XSBack, XSBack.binds (ps := ["self"]) fun _ _ _ _ _ _ us hl => match us, hl with | [_], _ => rfl, inSBack, iSBack⟩
  let MSRef : TStr K (He.ga K "Ref") "Ref.__str__" sRefStr := ⟨(He.ma K (He.ga K "Ref") "__str__"), _, XSRef, XSRef.binds (ps := ["self"]) fun _ _ _ _ _ _ us hl => match us, hl with | [_], _ => rfl, inSRef, iSRef⟩
  let MSPut : TStr K (He.ga K "Put") "Put.__str__" sPutStr := ⟨(He.ma K (He.ga K "Put") "__str__"), _, XSPut, XSPut.binds (ps := ["self"]) fun _ _ _ _ _ _ us hl => match us, hl with | [_], _ => rfl, inSPut, iSPut⟩
  let MSOpen : TStr K (He.ga K "Open") "Open.__str__" sOpenStr := ⟨(He.ma K (He.ga K "Open") "__str__"), _, XSOpen, XSOpen.binds (ps := ["self"]) fun _ _ _ _ _ _ us hl => match us, hl with | [_], _ => rfl, inSOpen, iSOpen⟩
  let Dsamerow : At K mg "same_row" sSameRow ["row", "other"] := ⟨(He.ga K "same_row"), _, Xsamerow, Xsamerow.binds (ps := ["row", "other"]) fun _ _ _ _ _ _ us hl => match us, hl with | [_, _], _ => rfl, PySem.W.mg_of X G asamerow⟩
  let MQNote : TEq K (He.ga K "Note") "Note.__eq__" sNoteEq := ⟨(He.ma K (He.ga K "Note") "__eq__"), _, XQNote, XQNote.binds (ps := ["self", "other"]) fun _ _ _ _ _ _ us hl => match us, hl with | [_, _], _ => rfl, inQNote, iQNote⟩
  let MQSkip : TEq K (He.ga K "Skip") "Skip.__eq__" sSkipEq := ⟨(He.ma K (He.ga K "Skip") "__eq__"), _, XQSkip, XQSkip.binds (ps := ["self", "other"]) fun _ _ _ _ _ _ us hl => match us, hl with | [_, _], _ => rfl, inQSkip, iQSkip⟩
  let MQSet : TEq K (He.ga K "Set") "Set.__eq__" sSetEq := ⟨(He.ma K (He.ga K "Set") "__eq__"), _, XQSet, XQSet.binds (ps := ["self", "other"]) fun _ _ _ _ _ _ us hl => match us, hl with | [_, _], _ => rfl, inQSet, iQSet⟩
  let MQKeep : TEq K (He.ga K "Keep") "Keep.__eq__" sKeepEq := ⟨(He.ma K (He.ga K "Keep") "__eq__"), _, XQKeep, XQKeep.binds (ps := ["self", "other"]) fun _ _ _ _ _ _ us hl => match us, hl with | [_, _], _ => rfl, inQKeep, iQKeep⟩
  let MQBack : TEq K (He.ga K "Back") "Back.__eq__" sBackEq := ⟨(He.ma K (He.ga K "Back") "__eq__"), _, XQBack, XQBack.binds (ps := ["self", "other"]) fun _ _ _ _ _ _ us hl => match us, hl with | [_, _], _ => rfl, inQBack, iQBack⟩
  let MQRef : TEq K (He.ga K "Ref") "Ref.__eq__" sRefEq := ⟨(He.ma K (He.ga K "Ref") "__eq__"), _, XQRef, XQRef.binds (ps := ["self", "other"]) fun _ _ _ _ _ _ us hl => match us, hl with | [_, _], _ => rfl, inQRef, iQRef⟩
  let MQPut : TEq K (He.ga K "Put") "Put.__eq__" sPutEq := ⟨(He.ma K (He.ga K "Put") "__eq__"), _, XQPut, XQPut.binds (ps := ["self", "other"]) fun _ _ _ _ _ _ us hl => match us, hl with | [_, _], _ => rfl, inQPut, iQPut⟩
  let MQOpen : TEq K (He.ga K "Open") "Open.__eq__" sOpenEq := ⟨(He.ma K (He.ga K "Open") "__eq__"), _, XQOpen, XQOpen.binds (ps := ["self", "other"]) fun _ _ _ _ _ _ us hl => match us, hl with | [_, _], _ => rfl, inQOpen, iQOpen⟩
  have OInvalidFilling : OexC K (He.ga K "InvalidFilling") := ⟨xInvalidFilling, saInvalidFilling, eCInvalidFilling, tCInvalidFilling, kcInvalidFilling⟩
  let EInvalidFilling : TExc K mg "InvalidFilling" "InvalidFilling.__init__" "word" sIFInit := { C := (He.ga K "InvalidFilling"), fI := (He.ma K (He.ga K "InvalidFilling") "__init__"), fd := _, F := XInvalidFilling, b := XInvalidFilling.binds (ps := ["self", "word"]) fun _ _ _ _ _ _ us hl => match us, hl with | [_, _], _ => rfl, m := PySem.W.mg_of X G aInvalidFilling, O := OInvalidFilling, iC := inInvalidFilling, tI := tiInvalidFilling, noF := nfInvalidFilling, E := ⟨gaInvalidFilling, ggInvalidFilling, eCInvalidFilling, hCInvalidFilling, haInvalidFilling, hnGet, htGet, hmInvalidFilling⟩, isC := iCInvalidFilling, te := PySem.W.exm_ref eCInvalidFilling hCInvalidFilling tCInvalidFilling sCInvalidFilling, xf := ⟨gaInvalidFilling, ggInvalidFilling, eCInvalidFilling, hCInvalidFilling⟩ }
  obtain ⟨dsFilling0, vFilling0, bFilling0⟩ := FFilling.binds1 (ps := ["self", "parts"]) 1 0 (by simp) rfl fun _ _ _ _ _ _ _ us its hl hi => match us, its, hl, hi with | [_], [_], _, _ => ⟨_, rfl, rfl⟩
  obtain ⟨dsFilling1, vFilling1, bFilling1⟩ := FFilling.binds1 (ps := ["self", "parts"]) 2 1 (by simp) rfl fun _ _ _ _ _ _ _ us its hl hi => match us, its, hl, hi with | [_, _], [_], _, _ => ⟨_, rfl, rfl⟩
  have eFilling : dsFilling1 = [] := by cases vFilling1; rfl
  subst eFilling
  let MnamesFilling : TPr K (He.ga K "Filling") "names" "Filling.names" sFNames := ⟨(He.ma K (He.ga K "Filling") "names"), (getterQ K (He.ma K (He.ga K "Filling") "names")), _, XnamesFilling, XnamesFilling.binds (ps := ["self"]) fun _ _ _ _ _ _ us hl => match us, hl with | [_], _ => rfl, propQ_ok (told_at c 19 0)⟩
  let Mrows_forFilling : TMeth K (He.ga K "Filling") "rows_for" "Filling.rows_for" sFRows ["self", "name"] := ⟨(He.ma K (He.ga K "Filling") "rows_for"), _, Xrows_forFilling, Xrows_forFilling.binds (ps := ["self", "name"]) fun _ _ _ _ _ _ us hl => match us, hl with | [_, _], _ => rfl, inrows_forFilling, irows_forFilling⟩
  let MstrFilling : TMeth K (He.ga K "Filling") "__str__" "Filling.__str__" sFStr ["self"] := ⟨(He.ma K (He.ga K "Filling") "__str__"), _, XstrFilling, XstrFilling.binds (ps := ["self"]) fun _ _ _ _ _ _ us hl => match us, hl with | [_], _ => rfl, instrFilling, istrFilling⟩
  let MeqFilling : TMeth K (He.ga K "Filling") "__eq__" "Filling.__eq__" sFEq ["self", "other"] := ⟨(He.ma K (He.ga K "Filling") "__eq__"), _, XeqFilling, XeqFilling.binds (ps := ["self", "other"]) fun _ _ _ _ _ _ us hl => match us, hl with | [_, _], _ => rfl, ineqFilling, ieqFilling⟩
  let Dissequence : At K mg "is_sequence" sIsSeq ["value"] := ⟨(He.ga K "is_sequence"), _, Xissequence, Xissequence.binds (ps := ["value"]) fun _ _ _ _ _ _ us hl => match us, hl with | [_], _ => rfl, PySem.W.mg_of X G aissequence⟩
  let Dispair : At K mg "is_pair" sIsPairF ["value"] := ⟨(He.ga K "is_pair"), _, Xispair, Xispair.binds (ps := ["value"]) fun _ _ _ _ _ _ us hl => match us, hl with | [_], _ => rfl, PySem.W.mg_of X G aispair⟩
  let Darefillable : At K mg "are_fillable" sAreFill ["rows"] := ⟨(He.ga K "are_fillable"), _, Xarefillable, Xarefillable.binds (ps := ["rows"]) fun _ _ _ _ _ _ us hl => match us, hl with | [_], _ => rfl, PySem.W.mg_of X G aarefillable⟩
  let Disfilled : At K mg "is_filled" sIsFilled ["value"] := ⟨(He.ga K "is_filled"), _, Xisfilled, Xisfilled.binds (ps := ["value"]) fun _ _ _ _ _ _ us hl => match us, hl with | [_], _ => rfl, PySem.W.mg_of X G aisfilled⟩
  let Dfilledtext : At K mg "filled_text" sFText ["name", "rows"] := ⟨(He.ga K "filled_text"), _, Xfilledtext, Xfilledtext.binds (ps := ["name", "rows"]) fun _ _ _ _ _ _ us hl => match us, hl with | [_, _], _ => rfl, PySem.W.mg_of X G afilledtext⟩
  let Dlawdeal : At K mg "_law_deal" sDeal ["_law_script"] := ⟨(He.ga K "_law_deal"), _, Xlawdeal, Xlawdeal.binds (ps := ["_law_script"]) fun _ _ _ _ _ _ us hl => match us, hl with | [_], _ => rfl, PySem.W.mg_of X G alawdeal⟩
  let Dlawdraw : At K mg "_law_draw" sDraw ["_law_deal_here", "_law_many"] := ⟨(He.ga K "_law_draw"), _, Xlawdraw, Xlawdraw.binds (ps := ["_law_deal_here", "_law_many"]) fun _ _ _ _ _ _ us hl => match us, hl with | [_, _], _ => rfl, PySem.W.mg_of X G alawdraw⟩
  let Dlawpick : At K mg "_law_pick" sPick ["_law_deal_here", "_law_some"] := ⟨(He.ga K "_law_pick"), _, Xlawpick, Xlawpick.binds (ps := ["_law_deal_here", "_law_some"]) fun _ _ _ _ _ _ us hl => match us, hl with | [_, _], _ => rfl, PySem.W.mg_of X G alawpick⟩
  let Dlawmixed : At K mg "_law_mixed" sMixed ["_law_deal_here", "_law_some"] := ⟨(He.ga K "_law_mixed"), _, Xlawmixed, Xlawmixed.binds (ps := ["_law_deal_here", "_law_some"]) fun _ _ _ _ _ _ us hl => match us, hl with | [_, _], _ => rfl, PySem.W.mg_of X G alawmixed⟩
  let Dlawnames : At K mg "_law_names" sNames ["_law_deal_here", "_law_many"] := ⟨(He.ga K "_law_names"), _, Xlawnames, Xlawnames.binds (ps := ["_law_deal_here", "_law_many"]) fun _ _ _ _ _ _ us hl => match us, hl with | [_, _], _ => rfl, PySem.W.mg_of X G alawnames⟩
  let Dlawrowof : At K mg "_law_row_of" sRowOf ["_law_row"] := ⟨(He.ga K "_law_row_of"), _, Xlawrowof, Xlawrowof.binds (ps := ["_law_row"]) fun _ _ _ _ _ _ us hl => match us, hl with | [_], _ => rfl, PySem.W.mg_of X G alawrowof⟩
  let Dlawrowsdrawn : At K mg "_law_rows_drawn" sDrawn ["_law_deal_here", "_law_words", "_law_many"] := ⟨(He.ga K "_law_rows_drawn"), _, Xlawrowsdrawn, Xlawrowsdrawn.binds (ps := ["_law_deal_here", "_law_words", "_law_many"]) fun _ _ _ _ _ _ us hl => match us, hl with | [_, _, _], _ => rfl, PySem.W.mg_of X G alawrowsdrawn⟩
  let Dlawfillingtext : At K mg "_law_filling_text" sFilT ["_law_filling"] := ⟨(He.ga K "_law_filling_text"), _, Xlawfillingtext, Xlawfillingtext.binds (ps := ["_law_filling"]) fun _ _ _ _ _ _ us hl => match us, hl with | [_], _ => rfl, PySem.W.mg_of X G alawfillingtext⟩
  let N : TNeed K mg := { mInt := Mint, mBool := Mbool, mStr := Mstr, mIsi := Misinstance, mLen := Mlen, mAll := Mall, words := (He.ga K "ROW_WORDS"), mWords := PySem.W.mg_of X G aROWWORDS, hWords := SROWWORDS, tok := tkLONGESTNAME, mLong := ILONGESTNAME, isInteger := Disinteger, isNumber := Disnumber, isName := Disname, IR := EInvalidRow, need := Dneedname }
  have FN := FNote
  obtain ⟨dsN, vN, bN⟩ := FN.binds1 (ps := ["self", "counter", "label"]) 3 1 (by simp) rfl fun _ _ _ _ _ _ _ us its hl hi => match us, its, hl, hi with | [_, _, _], [_], _, _ => ⟨_, rfl, rfl⟩
  have eN : dsN = [] := by cases vN; rfl
  subst eN
  obtain ⟨dsM, vM, bM⟩ := FN.binds1 (ps := ["self", "counter", "label"]) 2 0 (by simp) rfl fun _ _ _ _ _ _ _ us its hl hi => match us, its, hl, hi with | [_, _], [_], _, _ => ⟨_, rfl, rfl⟩
  let KNote : TNote K mg := { C := (He.ga K "Note"), fI := (He.ma K (He.ga K "Note") "__init__"), fd := _, F := FN, b := bN, m := PySem.W.mg_of X G aNote, M := ⟨mkNote, inNote, iNote, kcNote⟩, cl := ⟨pgNote, hdNote, poNote, saNote⟩, noW := nNote0, noC := nNote1, noL := nNote2 }
  let KSkip : TSkip K mg := { C := (He.ga K "Skip"), fI := (He.ma K (He.ga K "Skip") "__init__"), fd := _, F := XSkip, b := (XSkip).binds (ps := ["self", "counter", "by"]) fun _ _ _ _ _ _ us hl => match us, hl with | [_, _, _], _ => rfl, m := PySem.W.mg_of X G aSkip, M := ⟨mkSkip, inSkip, iSkip, kcSkip⟩, cl := ⟨pgSkip, hdSkip, poSkip, saSkip⟩, noW := nSkip0, noC := nSkip1, noF := nSkip2 }
  let KSet : TSet K mg := { C := (He.ga K "Set"), fI := (He.ma K (He.ga K "Set") "__init__"), fd := _, F := XSet, b := (XSet).binds (ps := ["self", "counter", "to"]) fun _ _ _ _ _ _ us hl => match us, hl with | [_, _, _], _ => rfl, m := PySem.W.mg_of X G aSet, M := ⟨mkSet, inSet, iSet, kcSet⟩, cl := ⟨pgSet, hdSet, poSet, saSet⟩, noW := nSet0, noC := nSet1, noF := nSet2 }
  let KKeep : TKeep K mg := { C := (He.ga K "Keep"), fI := (He.ma K (He.ga K "Keep") "__init__"), fd := _, F := XKeep, b := (XKeep).binds (ps := ["self", "counter"]) fun _ _ _ _ _ _ us hl => match us, hl with | [_, _], _ => rfl, m := PySem.W.mg_of X G aKeep, M := ⟨mkKeep, inKeep, iKeep, kcKeep⟩, cl := ⟨pgKeep, hdKeep, poKeep, saKeep⟩, noW := nKeep0, noF := nKeep1 }
  let KBack : TBack K mg := { C := (He.ga K "Back"), fI := (He.ma K (He.ga K "Back") "__init__"), fd := _, F := XBack, b := (XBack).binds (ps := ["self", "counter"]) fun _ _ _ _ _ _ us hl => match us, hl with | [_, _], _ => rfl, m := PySem.W.mg_of X G aBack, M := ⟨mkBack, inBack, iBack, kcBack⟩, cl := ⟨pgBack, hdBack, poBack, saBack⟩, noW := nBack0, noF := nBack1 }
  let KRef : TRef K mg := { C := (He.ga K "Ref"), fI := (He.ma K (He.ga K "Ref") "__init__"), fd := _, F := XRef, b := (XRef).binds (ps := ["self", "label"]) fun _ _ _ _ _ _ us hl => match us, hl with | [_, _], _ => rfl, m := PySem.W.mg_of X G aRef, M := ⟨mkRef, inRef, iRef, kcRef⟩, cl := ⟨pgRef, hdRef, poRef, saRef⟩, noW := nRef0, noF := nRef1 }
  let KPut : TPut K mg := { C := (He.ga K "Put"), fI := (He.ma K (He.ga K "Put") "__init__"), fd := _, F := XPut, b := (XPut).binds (ps := ["self", "part"]) fun _ _ _ _ _ _ us hl => match us, hl with | [_, _], _ => rfl, m := PySem.W.mg_of X G aPut, M := ⟨mkPut, inPut, iPut, kcPut⟩, cl := ⟨pgPut, hdPut, poPut, saPut⟩, noW := nPut0, noF := nPut1 }
  let KOpen : TOpen K mg := { C := (He.ga K "Open"), fI := (He.ma K (He.ga K "Open") "__init__"), fd := _, F := XOpen, b := (XOpen).binds (ps := ["self", "name"]) fun _ _ _ _ _ _ us hl => match us, hl with | [_, _], _ => rfl, m := PySem.W.mg_of X G aOpen, M := ⟨mkOpen, inOpen, iOpen, kcOpen⟩, cl := ⟨pgOpen, hdOpen, poOpen, saOpen⟩, noW := nOpen0, noF := nOpen1 }
  let R : TRows K mg := { N := N, note := KNote, skip := KSkip, set := KSet, keep := KKeep, back := KBack, ref := KRef, put := KPut, open_ := KOpen }
  let S : TStrs R := { note := MSNote, skip := MSSkip, set := MSSet, keep := MSKeep, back := MSBack, ref := MSRef, put := MSPut, open_ := MSOpen }
  let SS : TSame R := { S := S, CR := (He.ga K "Row"), mR := PySem.W.mg_of X G aRow, kS := kSR, kR := fun r => match r with | .note _ _ => kRNote | .skip _ _ => kRSkip | .set _ _ => kRSet | .keep _ => kRKeep | .back _ => kRBack | .ref _ => kRRef | .put _ => kRPut | .opn _ => kROpen, nS := fun r => match r with | .note _ _ => nSNote | .skip _ _ => nSSkip | .set _ _ => nSSet | .keep _ => nSKeep | .back _ => nSBack | .ref _ => nSRef | .put _ => nSPut | .opn _ => nSOpen, nR := fun r r' => match r, r' with | .note _ _, .note _ _ => nRNoteNote | .note _ _, .skip _ _ => nRNoteSkip | .note _ _, .set _ _ => nRNoteSet | .note _ _, .keep _ => nRNoteKeep | .note _ _, .back _ => nRNoteBack | .note _ _, .ref _ => nRNoteRef | .note _ _, .put _ => nRNotePut | .note _ _, .opn _ => nRNoteOpen | .skip _ _, .note _ _ => nRSkipNote | .skip _ _, .skip _ _ => nRSkipSkip | .skip _ _, .set _ _ => nRSkipSet | .skip _ _, .keep _ => nRSkipKeep | .skip _ _, .back _ => nRSkipBack | .skip _ _, .ref _ => nRSkipRef | .skip _ _, .put _ => nRSkipPut | .skip _ _, .opn _ => nRSkipOpen | .set _ _, .note _ _ => nRSetNote | .set _ _, .skip _ _ => nRSetSkip | .set _ _, .set _ _ => nRSetSet | .set _ _, .keep _ => nRSetKeep | .set _ _, .back _ => nRSetBack | .set _ _, .ref _ => nRSetRef | .set _ _, .put _ => nRSetPut | .set _ _, .opn _ => nRSetOpen | .keep _, .note _ _ => nRKeepNote | .keep _, .skip _ _ => nRKeepSkip | .keep _, .set _ _ => nRKeepSet | .keep _, .keep _ => nRKeepKeep | .keep _, .back _ => nRKeepBack | .keep _, .ref _ => nRKeepRef | .keep _, .put _ => nRKeepPut | .keep _, .opn _ => nRKeepOpen | .back _, .note _ _ => nRBackNote | .back _, .skip _ _ => nRBackSkip | .back _, .set _ _ => nRBackSet | .back _, .keep _ => nRBackKeep | .back _, .back _ => nRBackBack | .back _, .ref _ => nRBackRef | .back _, .put _ => nRBackPut | .back _, .opn _ => nRBackOpen | .ref _, .note _ _ => nRRefNote | .ref _, .skip _ _ => nRRefSkip | .ref _, .set _ _ => nRRefSet | .ref _, .keep _ => nRRefKeep | .ref _, .back _ => nRRefBack | .ref _, .ref _ => nRRefRef | .ref _, .put _ => nRRefPut | .ref _, .opn _ => nRRefOpen | .put _, .note _ _ => nRPutNote | .put _, .skip _ _ => nRPutSkip | .put _, .set _ _ => nRPutSet | .put _, .keep _ => nRPutKeep | .put _, .back _ => nRPutBack | .put _, .ref _ => nRPutRef | .put _, .put _ => nRPutPut | .put _, .opn _ => nRPutOpen | .opn _, .note _ _ => nROpenNote | .opn _, .skip _ _ => nROpenSkip | .opn _, .set _ _ => nROpenSet | .opn _, .keep _ => nROpenKeep | .opn _, .back _ => nROpenBack | .opn _, .ref _ => nROpenRef | .opn _, .put _ => nROpenPut | .opn _, .opn _ => nROpenOpen, cA := fun r => match r with | .note _ _ => cANote | .skip _ _ => cASkip | .set _ _ => cASet | .keep _ => cAKeep | .back _ => cABack | .ref _ => cARef | .put _ => cAPut | .opn _ => cAOpen, cN := hnGet, cT := htGet, cM := fun r => match r with | .note _ _ => cMNote | .skip _ _ => cMSkip | .set _ _ => cMSet | .keep _ => cMKeep | .back _ => cMBack | .ref _ => cMRef | .put _ => cMPut | .opn _ => cMOpen, ne := fun r => match r with | .note _ _ => neNote | .skip _ _ => neSkip | .set _ _ => neSet | .keep _ => neKeep | .back _ => neBack | .ref _ => neRef | .put _ => nePut | .opn _ => neOpen, mStr := Mstr, same := Dsamerow, note := MQNote, skip := MQSkip, set := MQSet, keep := MQKeep, back := MQBack, ref := MQRef, put := MQPut, open_ := MQOpen }
  let FL : TFil R := { kF := fun r => match r with | .note _ _ => kfNote | .skip _ _ => kfSkip | .set _ _ => kfSet | .keep _ => kfKeep | .back _ => kfBack | .ref _ => kfRef | .put _ => kfPut | .opn _ => kfOpen, kD := fun d => match d with | .none => kdNoneType | .bool _ => kdbool | .int _ => kdint | .str _ => kdstr | .list _ => kdlist | .tuple _ => kdtuple | .dict _ => kddict, kS := fun r => match r with | .note _ _ => ksNote | .skip _ _ => ksSkip | .set _ _ => ksSet | .keep _ => ksKeep | .back _ => ksBack | .ref _ => ksRef | .put _ => ksPut | .opn _ => ksOpen, cA := fun r => match r with | .note _ _ => cANote | .skip _ _ => cASkip | .set _ _ => cASet | .keep _ => cAKeep | .back _ => cABack | .ref _ => cARef | .put _ => cAPut | .opn _ => cAOpen, cN := hnGet, cT := htGet, cM := fun r => match r with | .note _ _ => cMNote | .skip _ _ => cMSkip | .set _ _ => cMSet | .keep _ => cMKeep | .back _ => cMBack | .ref _ => cMRef | .put _ => cMPut | .opn _ => cMOpen, mList := Mlist, mTup := Mtuple, isSeq := Dissequence, isPair := Dispair, areF := Darefillable, isF := Disfilled }
  let FF : TFill R := { toTFil := FL, mSet := Mset, mSorted := Msorted, mDict := Mdict, IF := EInvalidFilling, C := (He.ga K "Filling"), mC := PySem.W.mg_of X G aFilling, fI := (He.ma K (He.ga K "Filling") "__init__"), fdI := _, dP := (He.dflAt ("Filling", some "__init__") 0 K), hP := SDFilling, FI := FFilling, bI := bFilling1, M := ⟨mkFilling, inFilling, iFilling, kcFilling⟩, cl := ⟨pgFilling, hdFilling, poFilling, saFilling⟩, noF := nFilling0 }
  let MM : TFilM FF := { S := S, ftext := Dfilledtext, names := MnamesFilling, rowsFor := Mrows_forFilling, str := MstrFilling }
  let EE : TFilE MM := { eq := MeqFilling, cA := cAF, cM := cMF, kC := kCF, kD := fun d => match d with | .none => kFNoneType | .bool _ => kFbool | .int _ => kFint | .str _ => kFstr | .list _ => kFlist | .tuple _ => kFtuple | .dict _ => kFdict }
  let DC : TDealC K mg := { mI := Mint, mA := Mabs, mL := Mlen, mLs := Mlist, deal := Dlawdeal, draw := Dlawdraw, pick := Dlawpick, mixed := Dlawmixed, names := Dlawnames }
  let T : TK17 K mg := { R := R, F := FF, M := MM, E := EE, S := SS, D := DC, mR := Mrange, mRepr := Mrepr, nF := nFF, neF := neF, subS := suS, subN := suN, subT := suT, dB := tupBQ_ok dBF, dF := dsFilling0, vF := vFilling0, bF := bFilling0, made := Dlawrowof, drawn := Dlawrowsdrawn, text := Dlawfillingtext }
  have Flaw : FunD K "law" "law" (defArgs sLaw17) (defBody sLaw17) (defScope sLaw17) [] [] (He.ga K "law") fdlaw := Ylaw
  have blaw := FunD.bindsA (ps := ["_law_script"]) Flaw fun _ _ _ _ _ _ us hl => match us, hl with | [_], _ => rfl
  exact ⟨_, fun s v => blaw s [v] rfl, fun base _ _ => ok_law17 T (Xlaw) ⟨rfl, by decide, by decide⟩ rfl⟩
end Pn

namespace Pn
open PySem PySem.W PySem.Calls PyProof.Rows L2
abbrev rowQ : OpenRow := OpenLaw.row PySem.Challenge.rw_partnotes_k17_fillings_made
abbrev progQ : Program := view rowQ.prog [38]
def namesQ0 : List PySem.Str := ["__name__", "ROW_WORDS", "LONGEST_NAME", "is_integer", "is_number", "is_name", "is_sequence", "is_pair", "NoteError", "InvalidRow", "InvalidFilling", "Row", "same_row", "need_name", "Note", "Skip", "Set", "Keep", "Back", "Ref", "Put", "Open", "are_fillable", "is_filled", "filled_text", "Filling", "_law_deal", "_law_draw", "_law_pick", "_law_mixed"]
def namesQ1 : List PySem.Str := ["_law_names", "_law_row_of", "_law_rows_drawn", "_law_filling_text"]
def namesQ : List PySem.Str := namesQ0 ++ namesQ1
theorem runQ (w : World) : HandSHeadRun.RunEq rowQ progQ (hookQ 5 fnQ exQ) (seenQ 5 fnQ exQ) 20000 namesQ w := by
  intro os
  kernel_rfl
end Pn
open PySem PySem.W PySem.Calls PyProof.Rows
theorem PySem.Challenge.cw_partnotes_k17_fillings_made_holds : PySem.Challenge.rw_partnotes_k17_fillings_made.Holds := by
  w_on; o_law
  refine HandSHeadRun.head_any (M := 20000) (r := Pn.rowQ) (q := Pn.progQ) (H := Pn.hookQ 5 Pn.fnQ Pn.exQ) (ob := Pn.seenQ 5 Pn.fnQ Pn.exQ) (loose := Pn.namesQ) (kwd := []) (d := HandSHeadRun.topDef Pn.rowQ.prog 38) (Pn.seenQ_eq 5 Pn.fnQ Pn.exQ)
    (by kernel_rfl) (fun z => by kernel_rfl) Pn.runQ (by kernel_rfl) (by kernel_rfl) (by kernel_rfl) (by rfl) (by first | assumption | decide +kernel) (by decide +kernel) ⟨rfl, rfl, rfl, rfl, rfl, by decide +kernel⟩ ?hw ?hc
  case hw => w_witness2
  case hc =>
    refine Pn.walk_gE (l := PySem.Challenge.rw_partnotes_k17_fillings_made) (n := 63) (x := "_law_script") rfl (by decide) (by kernel_rfl) ?F
    intro w mg fa h Y G hm
    obtain ⟨K, KX, c⟩ := Y
    have hg : mg ("law" : PySem.Str) = some (.ref fa) := by
      have e : (HandSHeadRun.topDef Pn.rowQ.prog 38).name = ("law" : PySem.Str) := by kernel_rfl
      rw [← e]; exact hm
    obtain ⟨fd, hb, hF⟩ := Pn.facts (P := (PySem.Challenge.rw_partnotes_k17_fillings_made).prog) (w := w) KX G hg c
    exact ⟨K, fd, Pn.spLaw17 K, KX, hb, fun H a ns hl hS => ⟨a, ns, rfl, hS, hl, fun _ => rfl⟩, hF⟩
