import PyProof.Rows.All
import Wide.All
import OpenK.AllK
import Wide.FinOn
import HandS.ForMost
import HandS.Wide
import KE.KStateDown
import HandS.Head0
import HandS.Head1
import HandS.Head2
import HandS.HeadEnd
import HandS.HeadHook1
import HandS.HeadHook2
import HandS.Property
import HandS.ClsMeth
import HandS.Style
import HandS.Walk
import HandS.Flow
import HandS.Small
import HandS.Dict
import HandS.IsInst
import HandS.Text
import HandS.Exc
import HandS.ExcInit
import HandS.ExcField
import HandS.ExcIs
import HandS.WordsExc
import HandS.TryOnly
import KE.KExcIs
import HandS.ExcCtx
import HandS.ExcInitHot
import HandS.SuiteRaise
import HandS.RaiseFrom
import HandS.Defaults
import HandS.FStr
import KE.KCallOwn
import Flt.Len
import KE.IntTextLaws
import KE.IntTextText
import HandS.HotCalls
import HandS.TupLe
import HandS.RaiseMore
import HandS.OwnEq
import HandS.SlotsOwn
import HandS.NamedTupSort
import HandS.Ends
import HandS.WordsDict
import HandS.Star
import HandS.SetTxt0
import HandS.SetFor
import PyProof.Rows.SortStr
import HandS.SetKeys
import HandS.Strs
import HandS.Comp
import KE.GoesMore
import HandS.Zip
import HandS.SortInts
import PyProof.Rows.SortKeyStr
import PyProof.NeKinds
import HandS.Rev
import KE.KDictPairs
import HandS.TupAny
import PyProof.EqKinds
import PyProof.Rows.StrMeet
import HandS.TupSets
import HandS.TupLen
import KE.KSortTupG
import HandS.DictComp
import HandS.Conv
import HandS.Iter
import HandS.IterVal
import HandS.List
import HandS.More
import KE.KOpsOwn
import PyProof.CallFns
import OpenK.KOps
import PySem.Challenge.RW_partnotes_k36_whole_rules_of_leaves
set_option Elab.async false
set_option maxRecDepth 100000
set_option maxHeartbeats 4000000
namespace Pn
open PySem L2
/-! the text by places -/
def top (i : Nat) : Stmt := PySem.Challenge.pw_partnotes_k36_whole_rules_of_leaves.main.body.getD i (.Pass ⟨0, 0, 0, 0⟩)
/-- a def of the top: where it stands, what binds its arguments -/
structure At (K : PySem.W.Frag) (mg : Str → Option Value) (x : Str) (st : Stmt) (ps : List Str) : Type where
  f : Addr
  fd : FuncData
  F : Fun K x x st f fd
  b : Binds K fd ps []
  m : mg x = some (.ref f)
/-- all but what stands at b is as it was -/
def Kp (b : Addr) (H H' : Hp) : Prop := ∀ a o, H a = some o → a ≠ b → H' a = some o
theorem Kp.refl (b : Addr) (H : Hp) : Kp b H H := fun _ _ h _ => h
theorem Kp.trans {b : Addr} {H H1 H2 : Hp} (h : Kp b H H1) (g : Kp b H1 H2) : Kp b H H2 := fun a o e n => g a o (h a o e n) n
theorem Kp.new {b p : Addr} {H H1 : Hp} {o : HO} (h : Kp b H H1) (hp : H1 p = none) : Kp b H (upd H1 p o) := fun a u e n => by
  have z := h a u e n
  rw [upd_ne (ne_of_none z hp)]
  exact z
theorem Kp.box {b : Addr} {H H1 : Hp} {o : HO} (h : Kp b H H1) : Kp b H (upd H1 b o) := fun a u e n => by
  rw [upd_ne n]
  exact h a u e n
theorem Kp.sql {K : PySem.W.Frag} {b a : Addr} {xs : List V} {H H1 : Hp} (h : Kp b H H1) (n : a ≠ b) (s : SqL K H a xs) : SqL K H1 a xs := by
  rcases s with (s | ⟨o, s⟩) | s
  · exact .inl (.inl (h _ _ s n))
  · exact .inl (.inr ⟨o, h _ _ s n⟩)
  · exact .inr s
theorem Kp.sqt {K : PySem.W.Frag} {b a : Addr} {xs : List V} {H H1 : Hp} (h : Kp b H H1) (n : a ≠ b) (s : SqT K H a xs) : SqT K H1 a xs := by
  rcases s with (s | ⟨o, s⟩) | s
  · exact .inl (.inl (h _ _ s n))
  · exact .inl (.inr ⟨o, h _ _ s n⟩)
  · exact .inr s
theorem Kp.same {b : Addr} {H H1 : Hp} (h : Same H H1) : Kp b H H1 := fun a o e _ => h a o e
/-- the heap but for what stands at b -/
def hid (H : Hp) (b : Addr) : Hp := fun a => if a = b then none else H a
theorem hid_sub {H : Hp} {b : Addr} : Same (hid H b) H := fun a o e => by
  unfold hid at e
  by_cases h : a = b
  · rw [if_pos h] at e
    cases e
  · rw [if_neg h] at e
    exact e
theorem hid_kp {b : Addr} {H H1 : Hp} (h : Kp b H H1) : Same (hid H b) (hid H1 b) := fun a o e => by
  unfold hid at e ⊢
  by_cases n : a = b
  · rw [if_pos n] at e
    cases e
  · rw [if_neg n] at e ⊢
    exact h a o e n
theorem hid_get {b a : Addr} {H : Hp} {o : HO} (h : H a = some o) (n : a ≠ b) : hid H b a = some o := by
  unfold hid
  rw [if_neg n]
  exact h
theorem Same.sqt {K : PySem.W.Frag} {H H' : Hp} {a : Addr} {xs : List V} (e : Same H H') (h : SqT K H a xs) : SqT K H' a xs := by
  rcases h with (h | ⟨o, h⟩) | h
  · exact .inl (.inl (e _ _ h))
  · exact .inl (.inr ⟨o, e _ _ h⟩)
  · exact .inr h
theorem Same.new {H : Hp} {p : Addr} {o : HO} (h : H p = none) : Same H (upd H p o) := fun a u e => by
  rw [upd_ne (ne_of_none e h)]
  exact e
/-- what is new in H' -/
def dif (H H' : Hp) : Hp := fun a => match H a with
  | none => H' a
  | some _ => none
theorem dif_eq {H H' : Hp} {a : Addr} {o : HO} : dif H H' a = some o ↔ H a = none ∧ H' a = some o := by
  unfold dif
  cases h : H a with
  | none => exact ⟨fun e => ⟨rfl, e⟩, fun e => e.2⟩
  | some u => exact ⟨fun e => (nomatch (show (none : Option HO) = some o from e)), fun e => by cases e.1⟩
theorem dif_sub {H H' : Hp} : Same (dif H H') H' := fun _ _ e => (dif_eq.mp e).2
theorem dif_new {H H' : Hp} {a : Addr} {o : HO} (h : H a = none) (h' : H' a = some o) : dif H H' a = some o := dif_eq.mpr ⟨h, h'⟩
/-- what is tracked stays tracked -/
def Mo (H H' : Hp) : Prop := ∀ a, H' a = none → H a = none
theorem Mo.refl (H : Hp) : Mo H H := fun _ h => h
theorem Mo.trans {H H1 H2 : Hp} (h : Mo H H1) (g : Mo H1 H2) : Mo H H2 := fun a e => h a (g a e)
theorem Mo.upd {H : Hp} {p : Addr} {o : HO} : Mo H (upd H p o) := fun a e => by
  by_cases h : a = p
  · subst h
    rw [upd_same] at e
    cases e
  · rw [upd_ne h] at e
    exact e
theorem Kp.mo {b : Addr} {H H' : Hp} {o : HO} (h : Kp b H H') (hb : H' b = some o) : Mo H H' := fun a e => by
  cases q : H a with
  | none => rfl
  | some u =>
    have n : a ≠ b := fun z => by rw [z, hb] at e; cases e
    rw [h a u q n] at e
    cases e
/-- what was new stays: all of H1 but b, which stood in H -/
theorem dif_kp {b : Addr} {H H1 H2 : Hp} {o : HO} (hb : H b = some o) (k : Kp b H1 H2) : Same (dif H H1) (dif H H2) := fun a u e => by
  obtain ⟨e1, e2⟩ := dif_eq.mp e
  exact dif_new e1 (k a u e2 (fun z => by rw [z, hb] at e1; cases e1))
theorem dif_mo {H0 H H1 : Hp} (m : Mo H0 H) : Same (dif H H1) (dif H0 H1) := fun a u e => by
  obtain ⟨e1, e2⟩ := dif_eq.mp e
  exact dif_new (m a e1) e2
mutual
theorem dp_same {K : PySem.W.Frag} {H H' : Hp} (e : Same H H') : ∀ (d : PyData) (v : V), Dp K H v d → Dp K H' v d
  | .none, _, h => by cases h; exact .non
  | .bool _, _, h => by cases h; exact .bl _
  | .int _, _, h => by cases h; exact .int _
  | .str _, _, h => by cases h; exact .str _
  | .list ds, _, h => by
    cases h with
    | lst s a => exact .lst (e.seq s) (dpAll_same e ds _ a)
  | .tuple ds, _, h => by
    cases h with
    | tup s a => exact .tup (Same.sqt e s) (dpAll_same e ds _ a)
  | .dict _, _, h => by cases h
theorem dpAll_same {K : PySem.W.Frag} {H H' : Hp} (e : Same H H') : ∀ (ds : List PyData) (vs : List V), DpAll K H vs ds → DpAll K H' vs ds
  | [], _, h => by cases h; exact .nil
  | d :: ds, _, h => by
    cases h with
    | cons a b => exact .cons (dp_same e d _ a) (dpAll_same e ds _ b)
end
theorem dpAll_append {K : PySem.W.Frag} {H : Hp} : ∀ {vs : List V} {ds : List PyData} {ws : List V} {es : List PyData}, DpAll K H vs ds → DpAll K H ws es → DpAll K H (vs ++ ws) (ds ++ es)
  | _, _, _, _, .nil, g => g
  | _, _, _, _, .cons a b, g => .cons a (dpAll_append b g)
end Pn

namespace Pn
open PySem PySem.Spec PyProof.Rows L2
/-! ### what the top leaves: asked in one run -/
/-- a def that is asked for: where it lies, its names, its statement, its defaults -/
structure DefQ where
  loc : PySem.W.Frag → Addr
  nm : Str
  ql : Str
  st : Stmt
  dv : List He.Dv := []
abbrev FnQ : Type := Option (Str × Str × Addr × Addr × Arguments × FuncBody × Scope × List (Str × Addr))
def fnSeen (K : PySem.W.Frag) (a : Addr) : FnQ := match K.lookup a with
  | some ⟨_, _, .func q, _⟩ => some (q.qualname, q.name, q.builtins, q.globals, q.params, q.body, q.scope, q.closure)
  | _ => none
def DefQ.is (d : DefQ) : FnQ := some (d.ql, d.nm, builtinsNs, mainGlobals, defArgs d.st, .stmts (defBody d.st), defScope d.st, [])
def DefQ.vals (d : DefQ) (K : PySem.W.Frag) : List V := d.dv.map (He.Dv.v K)
def DefQ.good (K : PySem.W.Frag) (d : DefQ) : Bool := match K.lookup (d.loc K) with
  | some ⟨_, _, .func q, _⟩ => PySem.W.keepIn K (.ref (d.loc K)) && (PySem.W.codeIn K q.code d.ql && He.dflB K q.defaults (d.vals K))
  | _ => false
theorem DefQ.funD {K : PySem.W.Frag} {d : DefQ} (e : fnSeen K (d.loc K) = d.is) (c : d.good K = true) : ∃ fd, FunD K d.nm d.ql (defArgs d.st) (defBody d.st) (defScope d.st) (d.vals K) [] (d.loc K) fd := by
  unfold DefQ.good at c
  unfold fnSeen at e
  cases hl : K.lookup (d.loc K) with
  | none => rw [hl] at c; cases c
  | some o =>
    obtain ⟨oc, od, dat, sl⟩ := o
    rw [hl] at c e
    cases dat with
    | func q =>
      obtain ⟨a1, a2, a3, a4, a5, a6, a7, a8, a9, b1, b2, b3, b4, b5, b6⟩ := q
      have e2 : (some (a2, a1, b6, a6, a3, a4, a5, a7) : FnQ) = some (d.ql, d.nm, builtinsNs, mainGlobals, defArgs d.st, .stmts (defBody d.st), defScope d.st, []) := e
      injection e2 with e2
      obtain ⟨rfl, rfl, rfl, rfl, rfl, rfl, rfl, rfl⟩ : a2 = d.ql ∧ a1 = d.nm ∧ b6 = builtinsNs ∧ a6 = mainGlobals ∧ a3 = defArgs d.st ∧ a4 = .stmts (defBody d.st) ∧ a5 = defScope d.st ∧ a7 = [] := by simpa using e2
      have c2 : (PySem.W.keepIn K (.ref (d.loc K)) && (PySem.W.codeIn K b4 d.ql && He.dflB K a8 (d.vals K))) = true := c
      rw [Bool.and_eq_true, Bool.and_eq_true] at c2
      exact ⟨_, ⟨oc, od, a8, a9, b1, b2, b3, b4, b5, sl, rfl, hl, c2.2.1, He.dflB_ok c2.2.2, .inl rfl⟩, c2.1⟩
    | _ => cases c
theorem fun_of {K : PySem.W.Frag} {x ql : Str} {st : Stmt} {f : Addr} {fd : FuncData} (F : FunD K x ql (defArgs st) (defBody st) (defScope st) [] [] f fd) : Fun K x ql st f fd := by
  obtain ⟨⟨oc, od, dV, kV, doc, pm, an, cdv, ct, sl, e, hl, hc, hd, _⟩, hk⟩ := F
  rcases hd with ⟨_, rfl⟩ | ⟨h, _⟩
  · exact ⟨⟨oc, od, kV, doc, pm, an, cdv, ct, sl, e, hl, hc⟩, hk⟩
  · exact absurd rfl h
abbrev Ask : Type := PySem.W.Frag → Bool
def askQ (fn : List DefQ) (ex : List (List Ask)) (K : PySem.W.Frag) : Bool × List FnQ := ((fn.all fun d => d.good K) && ex.all fun l => l.all fun f => f K, fn.map fun d => fnSeen K (d.loc K))
def toldQ (fn : List DefQ) : Bool × List FnQ := (true, fn.map DefQ.is)
/-- what an object leads to: a def's code and defaults, a class's own names, what a tuple or a dict holds -/
def leadsQ (o : Obj) : List Addr := match o.data with
  | .func q => He.refV q.code ++ He.refV q.defaults
  | .cls q => [q.ns]
  | .dict es _ => es.toList.flatMap fun z => He.refV z.val
  | .seq us _ => us.toList.flatMap He.refV
  | .fields us => us.toList.flatMap He.refV
  | _ => []
def levQ (g : Addr → Option Obj) : Nat → List Addr → List Addr
  | 0, as => as
  | n + 1, as => as ++ levQ g n (as.flatMap fun a => match g a with
    | some o => leadsQ o
    | none => [])
/-- the part of the heap that is looked at -/
def partQ (n : Nat) (g : Addr → Option Obj) : PySem.W.Frag := He.frG g (cStatics :: levQ g n [mainGlobals])
def hookQ (n : Nat) (fn : List DefQ) (ex : List (List Ask)) : PySem.W.Hook where
  α := Bool × List FnQ
  obs := fun s => askQ fn ex (partQ n s.heap.get?)
  val := fun _ => toldQ fn
  says := fun _ h => ∃ K : PySem.W.Frag, K.In h ∧ askQ fn ex K = toldQ fn
  of := fun _ _ e => ⟨_, He.frG_in, e⟩
  keeps := fun _ _ _ h k => by
    obtain ⟨K, hK, c⟩ := h
    exact ⟨K, PySem.W.Frag.In.keeps hK k, c⟩
def seenQ (n : Nat) (fn : List DefQ) (ex : List (List Ask)) (s : PySem.W.SharedT) : Bool × List FnQ := askQ fn ex (partQ n (HandSHeadRun.getT s))
theorem seenQ_eq (n : Nat) (fn : List DefQ) (ex : List (List Ask)) (s : PySem.W.SharedT) : seenQ n fn ex s = (hookQ n fn ex).obs s.abs := by
  have e : HandSHeadRun.getT s = s.abs.heap.get? := funext (HandSHeadRun.getT_eq s)
  unfold seenQ
  rw [e]
  rfl
section
variable {fn : List DefQ} {ex : List (List Ask)} {K : PySem.W.Frag}
theorem told_at (c : askQ fn ex K = toldQ fn) (i j : Nat) {l : List Ask} {f : Ask} (hl : ex[i]? = some l := by rfl) (hf : l[j]? = some f := by rfl) : f K = true := by
  have h := congrArg (fun z : Bool × List FnQ => z.1) c
  have h2 : ((fn.all fun d => d.good K) && ex.all fun l => l.all fun f => f K) = true := h
  rw [Bool.and_eq_true, List.all_eq_true, List.all_eq_true] at h2
  exact List.all_eq_true.mp (h2.2 l (List.mem_of_getElem? hl)) f (List.mem_of_getElem? hf)
theorem told_fn (c : askQ fn ex K = toldQ fn) (i : Nat) {d : DefQ} (hd : fn[i]? = some d := by rfl) : ∃ fd, FunD K d.nm d.ql (defArgs d.st) (defBody d.st) (defScope d.st) (d.vals K) [] (d.loc K) fd := by
  have h := congrArg (fun z : Bool × List FnQ => z.1) c
  have h2 : ((fn.all fun d => d.good K) && ex.all fun l => l.all fun f => f K) = true := h
  rw [Bool.and_eq_true, List.all_eq_true] at h2
  have h3 : fn.map (fun d => fnSeen K (d.loc K)) = fn.map DefQ.is := congrArg (fun z : Bool × List FnQ => z.2) c
  have h4 := congrArg (fun l : List FnQ => l[i]?) h3
  simp only [List.getElem?_map, hd, Option.map_some] at h4
  exact DefQ.funD (Option.some.inj h4) (h2.1 d (List.mem_of_getElem? hd))
end
/-- an own exception class -/
def excQ (K : PySem.W.Frag) (C : Addr) (nid : String) : Bool := match K.lookup C with
  | some ⟨.type t, _, .cls cd, sl⟩ => decide (t = "type") && (cd.hasDict && (!cd.hasDel && ((match cd.mro with
    | .ref D :: bm => decide (D = C) && PySem.HandSPX.refsVE bm
    | _ => false) && (match sl.toList with
    | [_, _, _, _, some (.builtin n), _] => decide (n = nid)
    | _ => false))))
  | _ => false
theorem excQ_ok {K : PySem.W.Frag} {C : Addr} {nid : String} (h : excQ K C nid = true) : ∃ nm q N bs bm sn sub ab col dd k0 k1 k2 k3 k5, K.lookup C = some (excClassObj nm q C N bs bm true sn sub ab col dd k0 k1 k2 k3 k5 nid) ∧ PySem.HandSPX.refsVE bm = true := by
  unfold excQ at h
  split at h
  · rename_i t dd cd sl hl
    rw [Bool.and_eq_true, Bool.and_eq_true, Bool.and_eq_true, Bool.and_eq_true] at h
    obtain ⟨h1, h2, h3, h4, h5⟩ := h
    split at h4
    · rename_i D bm hm
      split at h5
      · rename_i k0 k1 k2 k3 n k5 hs
        rw [Bool.and_eq_true] at h4
        obtain ⟨h6, h7⟩ := h4
        have e1 := of_decide_eq_true h1
        have e2 := of_decide_eq_true h6
        have e3 := of_decide_eq_true h5
        obtain ⟨nm, bs, mro, ns, qn, hd, sn, sub, ab, col, del⟩ := cd
        simp only at hm h2 h3
        have e4 : del = false := by simpa using h3
        have e5 : sl = #[k0, k1, k2, k3, some (.builtin n), k5] := by
          obtain ⟨l⟩ := sl
          simp only at hs
          rw [hs]
        subst e1 e2 e3 e4 e5 h2 hm
        exact ⟨nm, qn, ns, bs, bm, sn, sub, ab, col, dd, k0, k1, k2, k3, k5, hl, h7⟩
      · cases h5
    · cases h4
  · cases h
/-- a tuple of the written part -/
def tupQ (K : PySem.W.Frag) (a : Addr) (vs : List He.Dv) : Bool := match K.lookup a with
  | some ⟨.type t, _, .seq its _, _⟩ => decide (t = "tuple") && (decide (its.size ≤ sizeLine) && He.relAll (vs.map (He.Dv.v K)) its.toList)
  | _ => false
theorem tupQ_ok {K : PySem.W.Frag} {a : Addr} {vs : List He.Dv} (h : tupQ K a vs = true) (H : Hp) : SqT K H a (vs.map (He.Dv.v K)) := by
  unfold tupQ at h
  split at h
  · rename_i t d its n sl hl
    rw [Bool.and_eq_true, Bool.and_eq_true] at h
    have e := of_decide_eq_true h.1
    subst e
    exact .inr ⟨_, its, n, hl, rfl, rfl, of_decide_eq_true h.2.1, He.relAll_ok h.2.2⟩
  · cases h
/-- the getter of a property -/
def getterQ (K : PySem.W.Frag) (p : Addr) : Addr := match PySem.W.recIn K p "property" with
  | some (.ref g :: _) => g
  | _ => 0
def propQ (K : PySem.W.Frag) (C : Addr) (nm : Str) : Bool := decide (PySem.W.findIn K (.ref C) nm = some (some (.ref (He.ma K C nm)))) && (decide (PySem.W.specialIn K (.ref (He.ma K C nm)) "__get__" = some (some (.builtin "property.__get__"))) && (decide (PySem.W.takesIn K (.ref (He.ma K C nm)) = some true) &&
  (match PySem.W.recIn K (He.ma K C nm) "property" with
  | some (.ref _ :: _) => true
  | _ => false)))
theorem propQ_ok {K : PySem.W.Frag} {C : Addr} {nm : Str} (h : propQ K C nm = true) : PropOf K C nm (He.ma K C nm) (getterQ K (He.ma K C nm)) := by
  unfold propQ at h
  rw [Bool.and_eq_true, Bool.and_eq_true, Bool.and_eq_true] at h
  obtain ⟨h1, h2, h3, h4⟩ := h
  refine ⟨of_decide_eq_true h1, of_decide_eq_true h2, of_decide_eq_true h3, ?_⟩
  unfold getterQ
  split at h4
  · rename_i g r hr
    exact ⟨r, by rw [hr]⟩
  · cases h4
end Pn

namespace Pn
open PySem PySem.Spec PyProof.Rows L2
/-! ### a classmethod, asked in the same run -/
def cgetQ (K : PySem.W.Frag) (p : Addr) : Addr := match PySem.W.recIn K p "classmethod" with
  | some (.ref g :: _) => g
  | _ => 0
def cfndQ (K : PySem.W.Frag) (C : Addr) (nm : Str) : Bool := match PySem.W.findCls K (.ref C) (.type "type") nm with
  | some (.get (.builtin g) (.ref p) .none (.ref D)) => decide (g = "classmethod.__get__") && (decide (p = He.ma K C nm) && decide (D = C))
  | _ => false
def crecQ (K : PySem.W.Frag) (p : Addr) : Bool := match PySem.W.recIn K p "classmethod" with
  | some (.ref _ :: _) => true
  | _ => false
def cmethQ (K : PySem.W.Frag) (C : Addr) (nm : Str) : Bool := PySem.W.readsIn K C (.type "type") && (decide (PySem.W.specialIn K (.ref C) "__getattribute__" = some (some (.builtin "type.__getattribute__"))) && (cfndQ K C nm && (crecQ K (He.ma K C nm) && PySem.W.fnIn K (cgetQ K (He.ma K C nm)))))
theorem cmethQ_ok {K : PySem.W.Frag} {C : Addr} {nm : Str} (h : cmethQ K C nm = true) : ClX.CRead K C (.type "type") ∧ ClX.CMet K C (.type "type") nm (He.ma K C nm) (cgetQ K (He.ma K C nm)) := by
  unfold cmethQ at h
  rw [Bool.and_eq_true, Bool.and_eq_true, Bool.and_eq_true, Bool.and_eq_true] at h
  obtain ⟨h1, h2, h3, h4, h5⟩ := h
  refine ⟨⟨h1, of_decide_eq_true h2⟩, ⟨?_, ?_, h5⟩⟩
  · unfold cfndQ at h3
    split at h3
    · rename_i g p D e
      rw [Bool.and_eq_true, Bool.and_eq_true] at h3
      obtain ⟨a, b, c⟩ := h3
      have a := of_decide_eq_true a
      have b := of_decide_eq_true b
      have c := of_decide_eq_true c
      rw [e, a, b, c]
    · cases h3
  · unfold crecQ at h4
    unfold cgetQ
    split at h4
    · rename_i g r e
      exact ⟨r, by rw [e]⟩
    · cases h4
end Pn

namespace Pn
open PySem PySem.Spec PyProof.Rows L2
/-- a class whose order is itself, then object -/
def mroQ (K : PySem.W.Frag) (C : Addr) : Bool := match PySem.W.clsIn K C with
  | some cd => cd.mro == [.ref C, .type "object"]
  | none => false
theorem mroQ_ok {K : PySem.W.Frag} {C : Addr} (h : mroQ K C = true) : ∃ cd, PySem.W.clsIn K C = some cd ∧ cd.mro = [.ref C, .type "object"] := by
  unfold mroQ at h
  split at h
  · rename_i cd hc
    exact ⟨cd, hc, beq_iff_eq.mp h⟩
  · cases h
end Pn

namespace Pn
open PySem PySem.Spec PyProof.Rows L2
def fnQ0 : List DefQ := [
  { loc := fun K => (He.ga K "is_integer"), nm := "is_integer", ql := "is_integer", st := top 4, dv := [] },
  { loc := fun K => (He.ga K "is_number"), nm := "is_number", ql := "is_number", st := top 5, dv := [] },
  { loc := fun K => (He.ga K "is_name"), nm := "is_name", ql := "is_name", st := top 6, dv := [] },
  { loc := fun K => (He.ma K (He.ga K "InvalidRow") "__init__"), nm := "__init__", ql := "InvalidRow.__init__", st := inClass (top 11) 0, dv := [] },
  { loc := fun K => (He.ga K "need_name"), nm := "need_name", ql := "need_name", st := top 28, dv := [] },
  { loc := fun K => (He.ma K (He.ga K "Note") "__init__"), nm := "__init__", ql := "Note.__init__", st := inClass (top 29) 0, dv := [.str ""] },
  { loc := fun K => (He.ma K (He.ga K "Note") "__str__"), nm := "__str__", ql := "Note.__str__", st := inClass (top 29) 1, dv := [] },
  { loc := fun K => (He.ma K (He.ga K "Skip") "__init__"), nm := "__init__", ql := "Skip.__init__", st := inClass (top 30) 0, dv := [] },
  { loc := fun K => (He.ma K (He.ga K "Skip") "__str__"), nm := "__str__", ql := "Skip.__str__", st := inClass (top 30) 1, dv := [] },
  { loc := fun K => (He.ma K (He.ga K "Set") "__init__"), nm := "__init__", ql := "Set.__init__", st := inClass (top 31) 0, dv := [] },
  { loc := fun K => (He.ma K (He.ga K "Set") "__str__"), nm := "__str__", ql := "Set.__str__", st := inClass (top 31) 1, dv := [] },
  { loc := fun K => (He.ma K (He.ga K "Keep") "__init__"), nm := "__init__", ql := "Keep.__init__", st := inClass (top 32) 0, dv := [] }]
def fnQ1 : List DefQ := [
  { loc := fun K => (He.ma K (He.ga K "Keep") "__str__"), nm := "__str__", ql := "Keep.__str__", st := inClass (top 32) 1, dv := [] },
  { loc := fun K => (He.ma K (He.ga K "Back") "__init__"), nm := "__init__", ql := "Back.__init__", st := inClass (top 33) 0, dv := [] },
  { loc := fun K => (He.ma K (He.ga K "Back") "__str__"), nm := "__str__", ql := "Back.__str__", st := inClass (top 33) 1, dv := [] },
  { loc := fun K => (He.ma K (He.ga K "Ref") "__init__"), nm := "__init__", ql := "Ref.__init__", st := inClass (top 34) 0, dv := [] },
  { loc := fun K => (He.ma K (He.ga K "Ref") "__str__"), nm := "__str__", ql := "Ref.__str__", st := inClass (top 34) 1, dv := [] },
  { loc := fun K => (He.ma K (He.ga K "Put") "__init__"), nm := "__init__", ql := "Put.__init__", st := inClass (top 35) 0, dv := [] },
  { loc := fun K => (He.ma K (He.ga K "Put") "__str__"), nm := "__str__", ql := "Put.__str__", st := inClass (top 35) 1, dv := [] },
  { loc := fun K => (He.ma K (He.ga K "Open") "__init__"), nm := "__init__", ql := "Open.__init__", st := inClass (top 36) 0, dv := [] },
  { loc := fun K => (He.ma K (He.ga K "Open") "__str__"), nm := "__str__", ql := "Open.__str__", st := inClass (top 36) 1, dv := [] },
  { loc := fun K => (He.ga K "is_sequence"), nm := "is_sequence", ql := "is_sequence", st := top 7, dv := [] },
  { loc := fun K => (He.ma K (He.ga K "InvalidPart") "__init__"), nm := "__init__", ql := "InvalidPart.__init__", st := inClass (top 12) 0, dv := [] },
  { loc := fun K => (He.ma K (He.ga K "Part") "__init__"), nm := "__init__", ql := "Part.__init__", st := inClass (top 43) 0, dv := [.adr (He.dflAt ("Part", some "__init__") 0)] }]
def fnQ2 : List DefQ := [
  { loc := fun K => (He.ma K (He.ga K "Part") "__str__"), nm := "__str__", ql := "Part.__str__", st := inClass (top 43) 1, dv := [] },
  { loc := fun K => (He.ma K (He.ga K "Part") "__eq__"), nm := "__eq__", ql := "Part.__eq__", st := inClass (top 43) 2, dv := [] },
  { loc := fun K => (He.ga K "is_pair"), nm := "is_pair", ql := "is_pair", st := top 8, dv := [] },
  { loc := fun K => (He.ga K "are_counters"), nm := "are_counters", ql := "are_counters", st := top 44, dv := [] },
  { loc := fun K => (He.ga K "are_parts"), nm := "are_parts", ql := "are_parts", st := top 45, dv := [] },
  { loc := fun K => (He.ga K "counters_are_known"), nm := "counters_are_known", ql := "counters_are_known", st := top 46, dv := [] },
  { loc := fun K => (He.ga K "names_put"), nm := "names_put", ql := "names_put", st := top 47, dv := [] },
  { loc := fun K => (He.ga K "puts_are_earlier"), nm := "puts_are_earlier", ql := "puts_are_earlier", st := top 48, dv := [] },
  { loc := fun K => (He.ga K "names_reached"), nm := "names_reached", ql := "names_reached", st := top 49, dv := [] },
  { loc := fun K => (He.ga K "unroll"), nm := "unroll", ql := "unroll", st := top 50, dv := [] },
  { loc := fun K => (He.ga K "unrolled_text"), nm := "unrolled_text", ql := "unrolled_text", st := top 51, dv := [] },
  { loc := fun K => (He.ga K "refs_are_known"), nm := "refs_are_known", ql := "refs_are_known", st := top 52, dv := [] }]
def fnQ3 : List DefQ := [
  { loc := fun K => (He.ma K (He.ga K "Book") "__init__"), nm := "__init__", ql := "Book.__init__", st := inClass (top 59) 0, dv := [] },
  { loc := fun K => (getterQ K (He.ma K (He.ga K "Book") "names")), nm := "names", ql := "Book.names", st := inClass (top 59) 2, dv := [] },
  { loc := fun K => (getterQ K (He.ma K (He.ga K "Book") "tops")), nm := "tops", ql := "Book.tops", st := inClass (top 59) 3, dv := [] },
  { loc := fun K => (getterQ K (He.ma K (He.ga K "Book") "unrolled")), nm := "unrolled", ql := "Book.unrolled", st := inClass (top 59) 4, dv := [] },
  { loc := fun K => (He.ma K (He.ga K "Book") "chain"), nm := "chain", ql := "Book.chain", st := inClass (top 59) 7, dv := [] },
  { loc := fun K => (He.ma K (He.ga K "InvalidFilling") "__init__"), nm := "__init__", ql := "InvalidFilling.__init__", st := inClass (top 15) 0, dv := [] },
  { loc := fun K => (He.ma K (He.ga K "Filling") "__init__"), nm := "__init__", ql := "Filling.__init__", st := inClass (top 64) 0, dv := [.adr (He.dflAt ("Filling", some "__init__") 0)] },
  { loc := fun K => (He.ma K (He.ga K "Filling") "rows_for"), nm := "rows_for", ql := "Filling.rows_for", st := inClass (top 64) 2, dv := [] },
  { loc := fun K => (He.ma K (He.ga K "Filling") "__str__"), nm := "__str__", ql := "Filling.__str__", st := inClass (top 64) 3, dv := [] },
  { loc := fun K => (He.ma K (He.ga K "Filling") "__eq__"), nm := "__eq__", ql := "Filling.__eq__", st := inClass (top 64) 4, dv := [] },
  { loc := fun K => (getterQ K (He.ma K (He.ga K "Filling") "names")), nm := "names", ql := "Filling.names", st := inClass (top 64) 1, dv := [] },
  { loc := fun K => (He.ga K "are_fillable"), nm := "are_fillable", ql := "are_fillable", st := top 61, dv := [] }]
def fnQ4 : List DefQ := [
  { loc := fun K => (He.ga K "is_filled"), nm := "is_filled", ql := "is_filled", st := top 62, dv := [] },
  { loc := fun K => (He.ga K "filled_text"), nm := "filled_text", ql := "filled_text", st := top 63, dv := [] },
  { loc := fun K => (He.ga K "is_triple"), nm := "is_triple", ql := "is_triple", st := top 19, dv := [] },
  { loc := fun K => (He.ga K "need_triples"), nm := "need_triples", ql := "need_triples", st := top 20, dv := [] },
  { loc := fun K => (He.ga K "rights_of"), nm := "rights_of", ql := "rights_of", st := top 21, dv := [] },
  { loc := fun K => (He.ma K (He.ga K "Leaves") "__init__"), nm := "__init__", ql := "Leaves.__init__", st := inClass (top 23) 0, dv := [.adr (He.dflAt ("Leaves", some "__init__") 0)] },
  { loc := fun K => (He.ga K "need_leaves"), nm := "need_leaves", ql := "need_leaves", st := top 22, dv := [] },
  { loc := fun K => (He.ma K (He.ga K "Leaves") "__eq__"), nm := "__eq__", ql := "Leaves.__eq__", st := inClass (top 23) 11, dv := [] },
  { loc := fun K => (He.ma K (He.ga K "Leaves") "__or__"), nm := "__or__", ql := "Leaves.__or__", st := inClass (top 23) 5, dv := [] },
  { loc := fun K => (He.ma K (He.ga K "Leaves") "__and__"), nm := "__and__", ql := "Leaves.__and__", st := inClass (top 23) 6, dv := [] },
  { loc := fun K => (He.ma K (He.ga K "Leaves") "__le__"), nm := "__le__", ql := "Leaves.__le__", st := inClass (top 23) 7, dv := [] },
  { loc := fun K => (He.ma K (He.ga K "Leaves") "__ge__"), nm := "__ge__", ql := "Leaves.__ge__", st := inClass (top 23) 8, dv := [] }]
def fnQ5 : List DefQ := [
  { loc := fun K => (He.ma K (He.ga K "Leaves") "__str__"), nm := "__str__", ql := "Leaves.__str__", st := inClass (top 23) 10, dv := [] },
  { loc := fun K => (He.ma K (He.ga K "Leaves") "__len__"), nm := "__len__", ql := "Leaves.__len__", st := inClass (top 23) 9, dv := [] },
  { loc := fun K => (getterQ K (He.ma K (He.ga K "Leaves") "pairs")), nm := "pairs", ql := "Leaves.pairs", st := inClass (top 23) 1, dv := [] },
  { loc := fun K => (He.ma K (He.ga K "Leaves") "lets"), nm := "lets", ql := "Leaves.lets", st := inClass (top 23) 3, dv := [] },
  { loc := fun K => (He.ma K (He.ga K "Leaves") "allow"), nm := "allow", ql := "Leaves.allow", st := inClass (top 23) 4, dv := [] },
  { loc := fun K => (He.ga K "_law_deal"), nm := "_law_deal", ql := "_law_deal", st := top 66, dv := [] },
  { loc := fun K => (He.ga K "_law_draw"), nm := "_law_draw", ql := "_law_draw", st := top 67, dv := [] },
  { loc := fun K => (He.ga K "_law_pick"), nm := "_law_pick", ql := "_law_pick", st := top 68, dv := [] },
  { loc := fun K => (He.ga K "_law_pools"), nm := "_law_pools", ql := "_law_pools", st := top 69, dv := [] },
  { loc := fun K => (He.ga K "_law_counters"), nm := "_law_counters", ql := "_law_counters", st := top 70, dv := [] },
  { loc := fun K => (He.ga K "_law_row"), nm := "_law_row", ql := "_law_row", st := top 71, dv := [] },
  { loc := fun K => (He.ga K "_law_unrolled"), nm := "_law_unrolled", ql := "_law_unrolled", st := top 72, dv := [] }]
def fnQ6 : List DefQ := [
  { loc := fun K => (He.ga K "_law_book"), nm := "_law_book", ql := "_law_book", st := top 73, dv := [] },
  { loc := fun K => (He.ga K "_law_made_row"), nm := "_law_made_row", ql := "_law_made_row", st := top 74, dv := [] },
  { loc := fun K => (He.ga K "_law_made_book"), nm := "_law_made_book", ql := "_law_made_book", st := top 75, dv := [] },
  { loc := fun K => (He.ga K "_law_opens"), nm := "_law_opens", ql := "_law_opens", st := top 76, dv := [] },
  { loc := fun K => (He.ga K "_law_bare"), nm := "_law_bare", ql := "_law_bare", st := top 81, dv := [] },
  { loc := fun K => (He.ga K "_law_leaves"), nm := "_law_leaves", ql := "_law_leaves", st := top 77, dv := [] },
  { loc := fun K => (He.ga K "_law_leaves_of"), nm := "_law_leaves_of", ql := "_law_leaves_of", st := top 78, dv := [] },
  { loc := fun K => (He.ga K "_law_filling"), nm := "_law_filling", ql := "_law_filling", st := top 79, dv := [] },
  { loc := fun K => (He.ga K "_law_filling_of"), nm := "_law_filling_of", ql := "_law_filling_of", st := top 80, dv := [] },
  { loc := fun K => (He.ga K "_law_items"), nm := "_law_items", ql := "_law_items", st := top 82, dv := [] },
  { loc := fun K => (He.ga K "_law_rules_right"), nm := "_law_rules_right", ql := "_law_rules_right", st := top 83, dv := [] },
  { loc := fun K => (He.ga K "law"), nm := "law", ql := "law", st := top 84, dv := [] }]
def fnQ : List DefQ := fnQ0 ++ fnQ1 ++ fnQ2 ++ fnQ3 ++ fnQ4 ++ fnQ5 ++ fnQ6
def exQ0 : List Ask := [
  fun K => decide (PySem.W.nsIn K mainGlobals "int" = some none),
  fun K => decide (PySem.W.nsIn K mainGlobals "bool" = some none),
  fun K => decide (PySem.W.nsIn K mainGlobals "str" = some none),
  fun K => decide (PySem.W.nsIn K mainGlobals "isinstance" = some none),
  fun K => decide (PySem.W.nsIn K mainGlobals "len" = some none),
  fun K => decide (PySem.W.nsIn K mainGlobals "all" = some none),
  fun K => decide (PySem.W.nsIn K mainGlobals "abs" = some none),
  fun K => decide (PySem.W.nsIn K mainGlobals "range" = some none),
  fun K => decide (PySem.W.nsIn K mainGlobals "list" = some none),
  fun K => decide (PySem.W.nsIn K mainGlobals "tuple" = some none)]
def exQ1 : List Ask := [
  fun K => decide (PySem.W.nsIn K mainGlobals "set" = some none),
  fun K => decide (PySem.W.nsIn K mainGlobals "reversed" = some none),
  fun K => decide (PySem.W.nsIn K mainGlobals "sorted" = some none),
  fun K => decide (PySem.W.nsIn K mainGlobals "dict" = some none),
  fun K => decide (PySem.W.nsIn K mainGlobals "enumerate" = some none),
  fun K => decide (PySem.W.nsIn K mainGlobals "ROW_WORDS" = some (some (.ref (He.ga K "ROW_WORDS")))),
  fun K => He.tupB K "ROW_WORDS" [.str "note", .str "skip", .str "set", .str "keep", .str "back", .str "ref", .str "put", .str "open", .str "part"],
  fun K => (He.Fa.int "LONGEST_NAME" 4).ok K,
  fun K => decide (PySem.W.nsIn K mainGlobals "is_integer" = some (some (.ref (He.ga K "is_integer")))),
  fun K => decide (PySem.W.nsIn K mainGlobals "is_number" = some (some (.ref (He.ga K "is_number"))))]
def exQ2 : List Ask := [
  fun K => decide (PySem.W.nsIn K mainGlobals "is_name" = some (some (.ref (He.ga K "is_name")))),
  fun K => decide (PySem.W.nsIn K mainGlobals "NoteError" = some (some (.ref (He.ga K "NoteError")))),
  fun K => decide (PySem.W.nsIn K mainGlobals "InvalidRow" = some (some (.ref (He.ga K "InvalidRow")))),
  fun K => excQ K (He.ga K "InvalidRow") "ValueError.__new__",
  fun K => decide (PySem.W.findIn K (.ref (He.ga K "InvalidRow")) "__setattr__" = some (some (.builtin "object.__setattr__"))),
  fun K => decide (PySem.W.findIn K (.ref (He.ga K "InvalidRow")) "__getattribute__" = some (some (.builtin "BaseException.__getattribute__"))),
  fun K => decide (PySem.W.findIn K (.ref (He.ga K "InvalidRow")) "__getattr__" = some (none)),
  fun K => decide (PySem.W.findIn K (.ref (He.ga K "InvalidRow")) "word" = some (none)),
  fun K => decide (PySem.W.findIn K (.ref (He.ga K "InvalidRow")) "__init__" = some (some (.ref (He.ma K (He.ga K "InvalidRow") "__init__")))),
  fun K => decide (PySem.W.findIn K (.ref (He.ga K "InvalidRow")) "__class__" = some (some (.builtin "object.__class__")))]
def exQ3 : List Ask := [
  fun K => decide (PySem.W.typeIn K (.ref (He.ma K (He.ga K "InvalidRow") "__init__")) = some (.type "function")),
  fun K => PySem.W.keepIn K (.ref (He.ga K "InvalidRow")),
  fun K => decide (PySem.W.subIn K (.ref (He.ga K "InvalidRow")) (.type "BaseException") = some true),
  fun K => decide (PySem.W.typeIn K (.ref (He.ga K "InvalidRow")) = some (.type "type")),
  fun K => PySem.W.hasDictIn K (He.ga K "InvalidRow"),
  fun K => PySem.W.isClsIn K (He.ga K "InvalidRow"),
  fun K => decide (PySem.W.subIn K (.ref (He.ga K "InvalidRow")) (.ref (He.ga K "InvalidRow")) = some true),
  fun K => decide (PySem.W.mroIn K (He.ga K "InvalidRow") (.type "object") = some true),
  fun K => decide (PySem.W.nsIn K mainGlobals "need_name" = some (some (.ref (He.ga K "need_name")))),
  fun K => decide (PySem.W.nsIn K mainGlobals "Note" = some (some (.ref (He.ga K "Note"))))]
def exQ4 : List Ask := [
  fun K => decide (PySem.W.findIn K (.ref (He.ga K "Note")) "__init__" = some (some (.ref (He.ma K (He.ga K "Note") "__init__")))),
  fun K => PySem.W.isFn K (.ref (He.ma K (He.ga K "Note") "__init__")),
  fun K => PySem.W.plainGet K (He.ga K "Note") Str.empty,
  fun K => PySem.W.hasDictIn K (He.ga K "Note"),
  fun K => PySem.W.plainOver K (He.ga K "Note"),
  fun K => decide (PySem.W.findIn K (.ref (He.ga K "Note")) "__setattr__" = some (some (.builtin "object.__setattr__"))),
  fun K => PySem.W.makesIn K (He.ga K "Note"),
  fun K => PySem.W.keepIn K (.ref (He.ga K "Note")),
  fun K => decide (PySem.W.findIn K (.ref (He.ga K "Note")) "word" = some none),
  fun K => decide (PySem.W.findIn K (.ref (He.ga K "Note")) "counter" = some none)]
def exQ5 : List Ask := [
  fun K => decide (PySem.W.findIn K (.ref (He.ga K "Note")) "label" = some none),
  fun K => decide (PySem.W.findIn K (.ref (He.ga K "Note")) "__str__" = some (some (.ref (He.ma K (He.ga K "Note") "__str__")))),
  fun K => PySem.W.isFn K (.ref (He.ma K (He.ga K "Note") "__str__")),
  fun K => decide (PySem.W.nsIn K mainGlobals "Skip" = some (some (.ref (He.ga K "Skip")))),
  fun K => decide (PySem.W.findIn K (.ref (He.ga K "Skip")) "__init__" = some (some (.ref (He.ma K (He.ga K "Skip") "__init__")))),
  fun K => PySem.W.isFn K (.ref (He.ma K (He.ga K "Skip") "__init__")),
  fun K => PySem.W.plainGet K (He.ga K "Skip") Str.empty,
  fun K => PySem.W.hasDictIn K (He.ga K "Skip"),
  fun K => PySem.W.plainOver K (He.ga K "Skip"),
  fun K => decide (PySem.W.findIn K (.ref (He.ga K "Skip")) "__setattr__" = some (some (.builtin "object.__setattr__")))]
def exQ6 : List Ask := [
  fun K => PySem.W.makesIn K (He.ga K "Skip"),
  fun K => PySem.W.keepIn K (.ref (He.ga K "Skip")),
  fun K => decide (PySem.W.findIn K (.ref (He.ga K "Skip")) "word" = some none),
  fun K => decide (PySem.W.findIn K (.ref (He.ga K "Skip")) "counter" = some none),
  fun K => decide (PySem.W.findIn K (.ref (He.ga K "Skip")) "by" = some none),
  fun K => decide (PySem.W.findIn K (.ref (He.ga K "Skip")) "__str__" = some (some (.ref (He.ma K (He.ga K "Skip") "__str__")))),
  fun K => PySem.W.isFn K (.ref (He.ma K (He.ga K "Skip") "__str__")),
  fun K => decide (PySem.W.nsIn K mainGlobals "Set" = some (some (.ref (He.ga K "Set")))),
  fun K => decide (PySem.W.findIn K (.ref (He.ga K "Set")) "__init__" = some (some (.ref (He.ma K (He.ga K "Set") "__init__")))),
  fun K => PySem.W.isFn K (.ref (He.ma K (He.ga K "Set") "__init__"))]
def exQ7 : List Ask := [
  fun K => PySem.W.plainGet K (He.ga K "Set") Str.empty,
  fun K => PySem.W.hasDictIn K (He.ga K "Set"),
  fun K => PySem.W.plainOver K (He.ga K "Set"),
  fun K => decide (PySem.W.findIn K (.ref (He.ga K "Set")) "__setattr__" = some (some (.builtin "object.__setattr__"))),
  fun K => PySem.W.makesIn K (He.ga K "Set"),
  fun K => PySem.W.keepIn K (.ref (He.ga K "Set")),
  fun K => decide (PySem.W.findIn K (.ref (He.ga K "Set")) "word" = some none),
  fun K => decide (PySem.W.findIn K (.ref (He.ga K "Set")) "counter" = some none),
  fun K => decide (PySem.W.findIn K (.ref (He.ga K "Set")) "to" = some none),
  fun K => decide (PySem.W.findIn K (.ref (He.ga K "Set")) "__str__" = some (some (.ref (He.ma K (He.ga K "Set") "__str__"))))]
def exQ8 : List Ask := [
  fun K => PySem.W.isFn K (.ref (He.ma K (He.ga K "Set") "__str__")),
  fun K => decide (PySem.W.nsIn K mainGlobals "Keep" = some (some (.ref (He.ga K "Keep")))),
  fun K => decide (PySem.W.findIn K (.ref (He.ga K "Keep")) "__init__" = some (some (.ref (He.ma K (He.ga K "Keep") "__init__")))),
  fun K => PySem.W.isFn K (.ref (He.ma K (He.ga K "Keep") "__init__")),
  fun K => PySem.W.plainGet K (He.ga K "Keep") Str.empty,
  fun K => PySem.W.hasDictIn K (He.ga K "Keep"),
  fun K => PySem.W.plainOver K (He.ga K "Keep"),
  fun K => decide (PySem.W.findIn K (.ref (He.ga K "Keep")) "__setattr__" = some (some (.builtin "object.__setattr__"))),
  fun K => PySem.W.makesIn K (He.ga K "Keep"),
  fun K => PySem.W.keepIn K (.ref (He.ga K "Keep"))]
def exQ9 : List Ask := [
  fun K => decide (PySem.W.findIn K (.ref (He.ga K "Keep")) "word" = some none),
  fun K => decide (PySem.W.findIn K (.ref (He.ga K "Keep")) "counter" = some none),
  fun K => decide (PySem.W.findIn K (.ref (He.ga K "Keep")) "__str__" = some (some (.ref (He.ma K (He.ga K "Keep") "__str__")))),
  fun K => PySem.W.isFn K (.ref (He.ma K (He.ga K "Keep") "__str__")),
  fun K => decide (PySem.W.nsIn K mainGlobals "Back" = some (some (.ref (He.ga K "Back")))),
  fun K => decide (PySem.W.findIn K (.ref (He.ga K "Back")) "__init__" = some (some (.ref (He.ma K (He.ga K "Back") "__init__")))),
  fun K => PySem.W.isFn K (.ref (He.ma K (He.ga K "Back") "__init__")),
  fun K => PySem.W.plainGet K (He.ga K "Back") Str.empty,
  fun K => PySem.W.hasDictIn K (He.ga K "Back"),
  fun K => PySem.W.plainOver K (He.ga K "Back")]
def exQ10 : List Ask := [
  fun K => decide (PySem.W.findIn K (.ref (He.ga K "Back")) "__setattr__" = some (some (.builtin "object.__setattr__"))),
  fun K => PySem.W.makesIn K (He.ga K "Back"),
  fun K => PySem.W.keepIn K (.ref (He.ga K "Back")),
  fun K => decide (PySem.W.findIn K (.ref (He.ga K "Back")) "word" = some none),
  fun K => decide (PySem.W.findIn K (.ref (He.ga K "Back")) "counter" = some none),
  fun K => decide (PySem.W.findIn K (.ref (He.ga K "Back")) "__str__" = some (some (.ref (He.ma K (He.ga K "Back") "__str__")))),
  fun K => PySem.W.isFn K (.ref (He.ma K (He.ga K "Back") "__str__")),
  fun K => decide (PySem.W.nsIn K mainGlobals "Ref" = some (some (.ref (He.ga K "Ref")))),
  fun K => decide (PySem.W.findIn K (.ref (He.ga K "Ref")) "__init__" = some (some (.ref (He.ma K (He.ga K "Ref") "__init__")))),
  fun K => PySem.W.isFn K (.ref (He.ma K (He.ga K "Ref") "__init__"))]
def exQ11 : List Ask := [
  fun K => PySem.W.plainGet K (He.ga K "Ref") Str.empty,
  fun K => PySem.W.hasDictIn K (He.ga K "Ref"),
  fun K => PySem.W.plainOver K (He.ga K "Ref"),
  fun K => decide (PySem.W.findIn K (.ref (He.ga K "Ref")) "__setattr__" = some (some (.builtin "object.__setattr__"))),
  fun K => PySem.W.makesIn K (He.ga K "Ref"),
  fun K => PySem.W.keepIn K (.ref (He.ga K "Ref")),
  fun K => decide (PySem.W.findIn K (.ref (He.ga K "Ref")) "word" = some none),
  fun K => decide (PySem.W.findIn K (.ref (He.ga K "Ref")) "label" = some none),
  fun K => decide (PySem.W.findIn K (.ref (He.ga K "Ref")) "__str__" = some (some (.ref (He.ma K (He.ga K "Ref") "__str__")))),
  fun K => PySem.W.isFn K (.ref (He.ma K (He.ga K "Ref") "__str__"))]
def exQ12 : List Ask := [
  fun K => decide (PySem.W.nsIn K mainGlobals "Put" = some (some (.ref (He.ga K "Put")))),
  fun K => decide (PySem.W.findIn K (.ref (He.ga K "Put")) "__init__" = some (some (.ref (He.ma K (He.ga K "Put") "__init__")))),
  fun K => PySem.W.isFn K (.ref (He.ma K (He.ga K "Put") "__init__")),
  fun K => PySem.W.plainGet K (He.ga K "Put") Str.empty,
  fun K => PySem.W.hasDictIn K (He.ga K "Put"),
  fun K => PySem.W.plainOver K (He.ga K "Put"),
  fun K => decide (PySem.W.findIn K (.ref (He.ga K "Put")) "__setattr__" = some (some (.builtin "object.__setattr__"))),
  fun K => PySem.W.makesIn K (He.ga K "Put"),
  fun K => PySem.W.keepIn K (.ref (He.ga K "Put")),
  fun K => decide (PySem.W.findIn K (.ref (He.ga K "Put")) "word" = some none)]
def exQ13 : List Ask := [
  fun K => decide (PySem.W.findIn K (.ref (He.ga K "Put")) "part" = some none),
  fun K => decide (PySem.W.findIn K (.ref (He.ga K "Put")) "__str__" = some (some (.ref (He.ma K (He.ga K "Put") "__str__")))),
  fun K => PySem.W.isFn K (.ref (He.ma K (He.ga K "Put") "__str__")),
  fun K => decide (PySem.W.nsIn K mainGlobals "Open" = some (some (.ref (He.ga K "Open")))),
  fun K => decide (PySem.W.findIn K (.ref (He.ga K "Open")) "__init__" = some (some (.ref (He.ma K (He.ga K "Open") "__init__")))),
  fun K => PySem.W.isFn K (.ref (He.ma K (He.ga K "Open") "__init__")),
  fun K => PySem.W.plainGet K (He.ga K "Open") Str.empty,
  fun K => PySem.W.hasDictIn K (He.ga K "Open"),
  fun K => PySem.W.plainOver K (He.ga K "Open"),
  fun K => decide (PySem.W.findIn K (.ref (He.ga K "Open")) "__setattr__" = some (some (.builtin "object.__setattr__")))]
def exQ14 : List Ask := [
  fun K => PySem.W.makesIn K (He.ga K "Open"),
  fun K => PySem.W.keepIn K (.ref (He.ga K "Open")),
  fun K => decide (PySem.W.findIn K (.ref (He.ga K "Open")) "word" = some none),
  fun K => decide (PySem.W.findIn K (.ref (He.ga K "Open")) "name" = some none),
  fun K => decide (PySem.W.findIn K (.ref (He.ga K "Open")) "__str__" = some (some (.ref (He.ma K (He.ga K "Open") "__str__")))),
  fun K => PySem.W.isFn K (.ref (He.ma K (He.ga K "Open") "__str__")),
  fun K => decide (PySem.W.nsIn K mainGlobals "Row" = some (some (.ref (He.ga K "Row")))),
  fun K => decide (PySem.W.nsIn K mainGlobals "is_sequence" = some (some (.ref (He.ga K "is_sequence")))),
  fun K => decide (PySem.W.nsIn K mainGlobals "InvalidPart" = some (some (.ref (He.ga K "InvalidPart")))),
  fun K => excQ K (He.ga K "InvalidPart") "ValueError.__new__"]
def exQ15 : List Ask := [
  fun K => decide (PySem.W.findIn K (.ref (He.ga K "InvalidPart")) "__setattr__" = some (some (.builtin "object.__setattr__"))),
  fun K => decide (PySem.W.findIn K (.ref (He.ga K "InvalidPart")) "__getattribute__" = some (some (.builtin "BaseException.__getattribute__"))),
  fun K => decide (PySem.W.findIn K (.ref (He.ga K "InvalidPart")) "__getattr__" = some (none)),
  fun K => decide (PySem.W.findIn K (.ref (He.ga K "InvalidPart")) "word" = some (none)),
  fun K => decide (PySem.W.findIn K (.ref (He.ga K "InvalidPart")) "__init__" = some (some (.ref (He.ma K (He.ga K "InvalidPart") "__init__")))),
  fun K => decide (PySem.W.findIn K (.ref (He.ga K "InvalidPart")) "__class__" = some (some (.builtin "object.__class__"))),
  fun K => decide (PySem.W.typeIn K (.ref (He.ma K (He.ga K "InvalidPart") "__init__")) = some (.type "function")),
  fun K => PySem.W.keepIn K (.ref (He.ga K "InvalidPart")),
  fun K => decide (PySem.W.subIn K (.ref (He.ga K "InvalidPart")) (.type "BaseException") = some true),
  fun K => decide (PySem.W.typeIn K (.ref (He.ga K "InvalidPart")) = some (.type "type"))]
def exQ16 : List Ask := [
  fun K => PySem.W.hasDictIn K (He.ga K "InvalidPart"),
  fun K => PySem.W.isClsIn K (He.ga K "InvalidPart"),
  fun K => decide (PySem.W.subIn K (.ref (He.ga K "InvalidPart")) (.ref (He.ga K "InvalidPart")) = some true),
  fun K => decide (PySem.W.mroIn K (He.ga K "InvalidPart") (.type "object") = some true),
  fun K => decide (PySem.W.nsIn K mainGlobals "Part" = some (some (.ref (He.ga K "Part")))),
  fun K => decide (PySem.W.findIn K (.ref (He.ga K "Part")) "__init__" = some (some (.ref (He.ma K (He.ga K "Part") "__init__")))),
  fun K => PySem.W.isFn K (.ref (He.ma K (He.ga K "Part") "__init__")),
  fun K => tupQ K (He.dflAt ("Part", some "__init__") 0 K) [],
  fun K => PySem.W.plainGet K (He.ga K "Part") Str.empty,
  fun K => PySem.W.hasDictIn K (He.ga K "Part")]
def exQ17 : List Ask := [
  fun K => PySem.W.plainOver K (He.ga K "Part"),
  fun K => decide (PySem.W.findIn K (.ref (He.ga K "Part")) "__setattr__" = some (some (.builtin "object.__setattr__"))),
  fun K => PySem.W.makesIn K (He.ga K "Part"),
  fun K => PySem.W.keepIn K (.ref (He.ga K "Part")),
  fun K => decide (PySem.W.findIn K (.ref (He.ga K "Part")) "name" = some none),
  fun K => decide (PySem.W.findIn K (.ref (He.ga K "Part")) "rows" = some none),
  fun K => decide (PySem.W.findIn K (.ref (He.ga K "Part")) "__str__" = some (some (.ref (He.ma K (He.ga K "Part") "__str__")))),
  fun K => PySem.W.isFn K (.ref (He.ma K (He.ga K "Part") "__str__")),
  fun K => decide (PySem.W.findIn K (.ref (He.ga K "Part")) "__eq__" = some (some (.ref (He.ma K (He.ga K "Part") "__eq__")))),
  fun K => PySem.W.isFn K (.ref (He.ma K (He.ga K "Part") "__eq__"))]
def exQ18 : List Ask := [
  fun K => decide (PySem.W.nsIn K mainGlobals "COUNTING_WORDS" = some (some (.ref (He.ga K "COUNTING_WORDS")))),
  fun K => He.tupB K "COUNTING_WORDS" [.str "note", .str "skip", .str "set", .str "keep", .str "back"],
  fun K => decide (PySem.W.nsIn K mainGlobals "is_pair" = some (some (.ref (He.ga K "is_pair")))),
  fun K => decide (PySem.W.nsIn K mainGlobals "are_counters" = some (some (.ref (He.ga K "are_counters")))),
  fun K => decide (PySem.W.nsIn K mainGlobals "are_parts" = some (some (.ref (He.ga K "are_parts")))),
  fun K => decide (PySem.W.nsIn K mainGlobals "counters_are_known" = some (some (.ref (He.ga K "counters_are_known")))),
  fun K => decide (PySem.W.nsIn K mainGlobals "names_put" = some (some (.ref (He.ga K "names_put")))),
  fun K => decide (PySem.W.nsIn K mainGlobals "puts_are_earlier" = some (some (.ref (He.ga K "puts_are_earlier")))),
  fun K => decide (PySem.W.nsIn K mainGlobals "names_reached" = some (some (.ref (He.ga K "names_reached")))),
  fun K => decide (PySem.W.nsIn K mainGlobals "unroll" = some (some (.ref (He.ga K "unroll"))))]
def exQ19 : List Ask := [
  fun K => decide (PySem.W.nsIn K mainGlobals "unrolled_text" = some (some (.ref (He.ga K "unrolled_text")))),
  fun K => decide (PySem.W.nsIn K mainGlobals "refs_are_known" = some (some (.ref (He.ga K "refs_are_known")))),
  fun K => decide (PySem.W.nsIn K mainGlobals "Book" = some (some (.ref (He.ga K "Book")))),
  fun K => decide (PySem.W.findIn K (.ref (He.ga K "Book")) "__init__" = some (some (.ref (He.ma K (He.ga K "Book") "__init__")))),
  fun K => PySem.W.isFn K (.ref (He.ma K (He.ga K "Book") "__init__")),
  fun K => PySem.W.plainGet K (He.ga K "Book") Str.empty,
  fun K => PySem.W.hasDictIn K (He.ga K "Book"),
  fun K => PySem.W.plainOver K (He.ga K "Book"),
  fun K => decide (PySem.W.findIn K (.ref (He.ga K "Book")) "__setattr__" = some (some (.builtin "object.__setattr__"))),
  fun K => PySem.W.makesIn K (He.ga K "Book")]
def exQ20 : List Ask := [
  fun K => PySem.W.keepIn K (.ref (He.ga K "Book")),
  fun K => decide (PySem.W.findIn K (.ref (He.ga K "Book")) "counters" = some none),
  fun K => decide (PySem.W.findIn K (.ref (He.ga K "Book")) "parts" = some none),
  fun K => decide (PySem.W.findIn K (.ref (He.ga K "Book")) "flat" = some none),
  fun K => propQ K (He.ga K "Book") "names",
  fun K => propQ K (He.ga K "Book") "tops",
  fun K => propQ K (He.ga K "Book") "unrolled",
  fun K => decide (PySem.W.findIn K (.ref (He.ga K "Book")) "chain" = some (some (.ref (He.ma K (He.ga K "Book") "chain")))),
  fun K => PySem.W.isFn K (.ref (He.ma K (He.ga K "Book") "chain")),
  fun K => decide (PySem.W.nsIn K mainGlobals "InvalidFilling" = some (some (.ref (He.ga K "InvalidFilling"))))]
def exQ21 : List Ask := [
  fun K => excQ K (He.ga K "InvalidFilling") "ValueError.__new__",
  fun K => decide (PySem.W.findIn K (.ref (He.ga K "InvalidFilling")) "__setattr__" = some (some (.builtin "object.__setattr__"))),
  fun K => decide (PySem.W.findIn K (.ref (He.ga K "InvalidFilling")) "__getattribute__" = some (some (.builtin "BaseException.__getattribute__"))),
  fun K => decide (PySem.W.findIn K (.ref (He.ga K "InvalidFilling")) "__getattr__" = some (none)),
  fun K => decide (PySem.W.findIn K (.ref (He.ga K "InvalidFilling")) "word" = some (none)),
  fun K => decide (PySem.W.findIn K (.ref (He.ga K "InvalidFilling")) "__init__" = some (some (.ref (He.ma K (He.ga K "InvalidFilling") "__init__")))),
  fun K => decide (PySem.W.findIn K (.ref (He.ga K "InvalidFilling")) "__class__" = some (some (.builtin "object.__class__"))),
  fun K => decide (PySem.W.typeIn K (.ref (He.ma K (He.ga K "InvalidFilling") "__init__")) = some (.type "function")),
  fun K => PySem.W.keepIn K (.ref (He.ga K "InvalidFilling")),
  fun K => decide (PySem.W.subIn K (.ref (He.ga K "InvalidFilling")) (.type "BaseException") = some true)]
def exQ22 : List Ask := [
  fun K => decide (PySem.W.typeIn K (.ref (He.ga K "InvalidFilling")) = some (.type "type")),
  fun K => PySem.W.hasDictIn K (He.ga K "InvalidFilling"),
  fun K => PySem.W.isClsIn K (He.ga K "InvalidFilling"),
  fun K => decide (PySem.W.subIn K (.ref (He.ga K "InvalidFilling")) (.ref (He.ga K "InvalidFilling")) = some true),
  fun K => decide (PySem.W.mroIn K (He.ga K "InvalidFilling") (.type "object") = some true),
  fun K => decide (PySem.W.nsIn K mainGlobals "Filling" = some (some (.ref (He.ga K "Filling")))),
  fun K => decide (PySem.W.findIn K (.ref (He.ga K "Filling")) "__init__" = some (some (.ref (He.ma K (He.ga K "Filling") "__init__")))),
  fun K => PySem.W.isFn K (.ref (He.ma K (He.ga K "Filling") "__init__")),
  fun K => tupQ K (He.dflAt ("Filling", some "__init__") 0 K) [],
  fun K => PySem.W.plainGet K (He.ga K "Filling") Str.empty]
def exQ23 : List Ask := [
  fun K => PySem.W.hasDictIn K (He.ga K "Filling"),
  fun K => PySem.W.plainOver K (He.ga K "Filling"),
  fun K => decide (PySem.W.findIn K (.ref (He.ga K "Filling")) "__setattr__" = some (some (.builtin "object.__setattr__"))),
  fun K => PySem.W.makesIn K (He.ga K "Filling"),
  fun K => PySem.W.keepIn K (.ref (He.ga K "Filling")),
  fun K => decide (PySem.W.findIn K (.ref (He.ga K "Filling")) "filled" = some none),
  fun K => decide (PySem.W.findIn K (.ref (He.ga K "Filling")) "rows_for" = some (some (.ref (He.ma K (He.ga K "Filling") "rows_for")))),
  fun K => PySem.W.isFn K (.ref (He.ma K (He.ga K "Filling") "rows_for")),
  fun K => decide (PySem.W.findIn K (.ref (He.ga K "Filling")) "__str__" = some (some (.ref (He.ma K (He.ga K "Filling") "__str__")))),
  fun K => PySem.W.isFn K (.ref (He.ma K (He.ga K "Filling") "__str__"))]
def exQ24 : List Ask := [
  fun K => decide (PySem.W.findIn K (.ref (He.ga K "Filling")) "__eq__" = some (some (.ref (He.ma K (He.ga K "Filling") "__eq__")))),
  fun K => PySem.W.isFn K (.ref (He.ma K (He.ga K "Filling") "__eq__")),
  fun K => propQ K (He.ga K "Filling") "names",
  fun K => decide (PySem.W.nsIn K mainGlobals "are_fillable" = some (some (.ref (He.ga K "are_fillable")))),
  fun K => decide (PySem.W.nsIn K mainGlobals "is_filled" = some (some (.ref (He.ga K "is_filled")))),
  fun K => decide (PySem.W.nsIn K mainGlobals "filled_text" = some (some (.ref (He.ga K "filled_text")))),
  fun K => decide (PySem.W.nsIn K mainGlobals "LEAVE_WORDS" = some (some (.ref (He.ga K "LEAVE_WORDS")))),
  fun K => He.tupB K "LEAVE_WORDS" [.str "on", .str "any"],
  fun K => decide (PySem.W.nsIn K mainGlobals "is_triple" = some (some (.ref (He.ga K "is_triple")))),
  fun K => decide (PySem.W.nsIn K mainGlobals "need_triples" = some (some (.ref (He.ga K "need_triples"))))]
def exQ25 : List Ask := [
  fun K => decide (PySem.W.nsIn K mainGlobals "rights_of" = some (some (.ref (He.ga K "rights_of")))),
  fun K => decide (PySem.W.nsIn K mainGlobals "Leaves" = some (some (.ref (He.ga K "Leaves")))),
  fun K => decide (PySem.W.findIn K (.ref (He.ga K "Leaves")) "__init__" = some (some (.ref (He.ma K (He.ga K "Leaves") "__init__")))),
  fun K => PySem.W.isFn K (.ref (He.ma K (He.ga K "Leaves") "__init__")),
  fun K => tupQ K (He.dflAt ("Leaves", some "__init__") 0 K) [],
  fun K => PySem.W.plainGet K (He.ga K "Leaves") Str.empty,
  fun K => PySem.W.hasDictIn K (He.ga K "Leaves"),
  fun K => PySem.W.plainOver K (He.ga K "Leaves"),
  fun K => decide (PySem.W.findIn K (.ref (He.ga K "Leaves")) "__setattr__" = some (some (.builtin "object.__setattr__"))),
  fun K => PySem.W.makesIn K (He.ga K "Leaves")]
def exQ26 : List Ask := [
  fun K => PySem.W.keepIn K (.ref (He.ga K "Leaves")),
  fun K => decide (PySem.W.findIn K (.ref (He.ga K "Leaves")) "rights" = some none),
  fun K => decide (PySem.W.nsIn K mainGlobals "need_leaves" = some (some (.ref (He.ga K "need_leaves")))),
  fun K => decide (PySem.W.findIn K (.ref (He.ga K "Leaves")) "__eq__" = some (some (.ref (He.ma K (He.ga K "Leaves") "__eq__")))),
  fun K => PySem.W.isFn K (.ref (He.ma K (He.ga K "Leaves") "__eq__")),
  fun K => decide (PySem.W.findIn K (.ref (He.ga K "Leaves")) "__or__" = some (some (.ref (He.ma K (He.ga K "Leaves") "__or__")))),
  fun K => PySem.W.isFn K (.ref (He.ma K (He.ga K "Leaves") "__or__")),
  fun K => decide (PySem.W.findIn K (.ref (He.ga K "Leaves")) "__and__" = some (some (.ref (He.ma K (He.ga K "Leaves") "__and__")))),
  fun K => PySem.W.isFn K (.ref (He.ma K (He.ga K "Leaves") "__and__")),
  fun K => decide (PySem.W.findIn K (.ref (He.ga K "Leaves")) "__le__" = some (some (.ref (He.ma K (He.ga K "Leaves") "__le__"))))]
def exQ27 : List Ask := [
  fun K => PySem.W.isFn K (.ref (He.ma K (He.ga K "Leaves") "__le__")),
  fun K => decide (PySem.W.findIn K (.ref (He.ga K "Leaves")) "__ge__" = some (some (.ref (He.ma K (He.ga K "Leaves") "__ge__")))),
  fun K => PySem.W.isFn K (.ref (He.ma K (He.ga K "Leaves") "__ge__")),
  fun K => decide (PySem.W.findIn K (.ref (He.ga K "Leaves")) "__str__" = some (some (.ref (He.ma K (He.ga K "Leaves") "__str__")))),
  fun K => PySem.W.isFn K (.ref (He.ma K (He.ga K "Leaves") "__str__")),
  fun K => decide (PySem.W.findIn K (.ref (He.ga K "Leaves")) "__len__" = some (some (.ref (He.ma K (He.ga K "Leaves") "__len__")))),
  fun K => PySem.W.isFn K (.ref (He.ma K (He.ga K "Leaves") "__len__")),
  fun K => propQ K (He.ga K "Leaves") "pairs",
  fun K => decide (PySem.W.findIn K (.ref (He.ga K "Leaves")) "lets" = some (some (.ref (He.ma K (He.ga K "Leaves") "lets")))),
  fun K => PySem.W.isFn K (.ref (He.ma K (He.ga K "Leaves") "lets"))]
def exQ28 : List Ask := [
  fun K => decide (PySem.W.findIn K (.ref (He.ga K "Leaves")) "allow" = some (some (.ref (He.ma K (He.ga K "Leaves") "allow")))),
  fun K => PySem.W.isFn K (.ref (He.ma K (He.ga K "Leaves") "allow")),
  fun K => decide (PySem.W.nsIn K mainGlobals "_law_deal" = some (some (.ref (He.ga K "_law_deal")))),
  fun K => decide (PySem.W.nsIn K mainGlobals "_law_draw" = some (some (.ref (He.ga K "_law_draw")))),
  fun K => decide (PySem.W.nsIn K mainGlobals "_law_pick" = some (some (.ref (He.ga K "_law_pick")))),
  fun K => decide (PySem.W.nsIn K mainGlobals "_law_pools" = some (some (.ref (He.ga K "_law_pools")))),
  fun K => decide (PySem.W.nsIn K mainGlobals "_law_counters" = some (some (.ref (He.ga K "_law_counters")))),
  fun K => decide (PySem.W.nsIn K mainGlobals "_law_row" = some (some (.ref (He.ga K "_law_row")))),
  fun K => decide (PySem.W.nsIn K mainGlobals "_law_unrolled" = some (some (.ref (He.ga K "_law_unrolled")))),
  fun K => decide (PySem.W.nsIn K mainGlobals "_law_book" = some (some (.ref (He.ga K "_law_book"))))]
def exQ29 : List Ask := [
  fun K => decide (PySem.W.nsIn K mainGlobals "_law_made_row" = some (some (.ref (He.ga K "_law_made_row")))),
  fun K => decide (PySem.W.nsIn K mainGlobals "_law_made_book" = some (some (.ref (He.ga K "_law_made_book")))),
  fun K => decide (PySem.W.nsIn K mainGlobals "_law_opens" = some (some (.ref (He.ga K "_law_opens")))),
  fun K => decide (PySem.W.nsIn K mainGlobals "_law_bare" = some (some (.ref (He.ga K "_law_bare")))),
  fun K => decide (PySem.W.nsIn K mainGlobals "_law_leaves" = some (some (.ref (He.ga K "_law_leaves")))),
  fun K => decide (PySem.W.nsIn K mainGlobals "_law_leaves_of" = some (some (.ref (He.ga K "_law_leaves_of")))),
  fun K => decide (PySem.W.nsIn K mainGlobals "_law_filling" = some (some (.ref (He.ga K "_law_filling")))),
  fun K => decide (PySem.W.nsIn K mainGlobals "_law_filling_of" = some (some (.ref (He.ga K "_law_filling_of")))),
  fun K => decide (PySem.W.nsIn K mainGlobals "_law_items" = some (some (.ref (He.ga K "_law_items")))),
  fun K => decide (PySem.W.nsIn K mainGlobals "_law_rules_right" = some (some (.ref (He.ga K "_law_rules_right"))))]
def exQ30 : List Ask := [
  fun K => decide (PySem.W.nsIn K mainGlobals "law" = some (some (.ref (He.ga K "law")))),
  fun K => decide (PySem.W.specialIn K (.builtin "object.__class__") "__get__" = some (some (.builtin "getset_descriptor.__get__"))),
  fun K => decide (PySem.W.takesIn K (.builtin "object.__class__") = some true),
  fun K => decide (PySem.W.kitOne K (.type "NoneType") (.ref (He.ga K "Row")) = some false),
  fun K => decide (PySem.W.kitOne K (.type "bool") (.ref (He.ga K "Row")) = some false),
  fun K => decide (PySem.W.kitOne K (.type "int") (.ref (He.ga K "Row")) = some false),
  fun K => decide (PySem.W.kitOne K (.type "str") (.ref (He.ga K "Row")) = some false),
  fun K => decide (PySem.W.kitOne K (.type "list") (.ref (He.ga K "Row")) = some false),
  fun K => decide (PySem.W.kitOne K (.type "tuple") (.ref (He.ga K "Row")) = some false),
  fun K => decide (PySem.W.kitOne K (.type "dict") (.ref (He.ga K "Row")) = some false)]
def exQ31 : List Ask := [
  fun K => decide (PySem.W.kitOne K (.ref (He.ga K "Note")) (.ref (He.ga K "Row")) = some true),
  fun K => decide (PySem.W.findIn K (.ref (He.ga K "Note")) "__class__" = some (some (.builtin "object.__class__"))),
  fun K => decide (PySem.W.mroIn K (He.ga K "Note") (.type "object") = some true),
  fun K => decide (PySem.W.kitOne K (.ref (He.ga K "Skip")) (.ref (He.ga K "Row")) = some true),
  fun K => decide (PySem.W.findIn K (.ref (He.ga K "Skip")) "__class__" = some (some (.builtin "object.__class__"))),
  fun K => decide (PySem.W.mroIn K (He.ga K "Skip") (.type "object") = some true),
  fun K => decide (PySem.W.kitOne K (.ref (He.ga K "Set")) (.ref (He.ga K "Row")) = some true),
  fun K => decide (PySem.W.findIn K (.ref (He.ga K "Set")) "__class__" = some (some (.builtin "object.__class__"))),
  fun K => decide (PySem.W.mroIn K (He.ga K "Set") (.type "object") = some true),
  fun K => decide (PySem.W.kitOne K (.ref (He.ga K "Keep")) (.ref (He.ga K "Row")) = some true)]
def exQ32 : List Ask := [
  fun K => decide (PySem.W.findIn K (.ref (He.ga K "Keep")) "__class__" = some (some (.builtin "object.__class__"))),
  fun K => decide (PySem.W.mroIn K (He.ga K "Keep") (.type "object") = some true),
  fun K => decide (PySem.W.kitOne K (.ref (He.ga K "Back")) (.ref (He.ga K "Row")) = some true),
  fun K => decide (PySem.W.findIn K (.ref (He.ga K "Back")) "__class__" = some (some (.builtin "object.__class__"))),
  fun K => decide (PySem.W.mroIn K (He.ga K "Back") (.type "object") = some true),
  fun K => decide (PySem.W.kitOne K (.ref (He.ga K "Ref")) (.ref (He.ga K "Row")) = some true),
  fun K => decide (PySem.W.findIn K (.ref (He.ga K "Ref")) "__class__" = some (some (.builtin "object.__class__"))),
  fun K => decide (PySem.W.mroIn K (He.ga K "Ref") (.type "object") = some true),
  fun K => decide (PySem.W.kitOne K (.ref (He.ga K "Put")) (.ref (He.ga K "Row")) = some true),
  fun K => decide (PySem.W.findIn K (.ref (He.ga K "Put")) "__class__" = some (some (.builtin "object.__class__")))]
def exQ33 : List Ask := [
  fun K => decide (PySem.W.mroIn K (He.ga K "Put") (.type "object") = some true),
  fun K => decide (PySem.W.kitOne K (.ref (He.ga K "Open")) (.ref (He.ga K "Row")) = some true),
  fun K => decide (PySem.W.findIn K (.ref (He.ga K "Open")) "__class__" = some (some (.builtin "object.__class__"))),
  fun K => decide (PySem.W.mroIn K (He.ga K "Open") (.type "object") = some true),
  fun K => decide (PySem.W.findIn K (.ref (He.ga K "Part")) "__class__" = some (some (.builtin "object.__class__"))),
  fun K => decide (PySem.W.mroIn K (He.ga K "Part") (.type "object") = some true),
  fun K => decide (PySem.W.findIn K (.ref (He.ga K "Part")) "__ne__" = some (some (.builtin "object.__ne__"))),
  fun K => decide (PySem.W.kitOne K (.ref (He.ga K "Part")) (.ref (He.ga K "Part")) = some true),
  fun K => decide (PySem.W.kitOne K (.type "str") (.ref (He.ga K "Part")) = some false),
  fun K => PySem.W.notFirst K (He.ga K "Part") (.ref (He.ga K "Part"))]
def exQ34 : List Ask := [
  fun K => PySem.W.notFirst K (He.ga K "Part") (.type "str"),
  fun K => decide (PySem.W.kitAny K (.ref (He.ga K "Note")) [.ref (He.ga K "Skip"), .ref (He.ga K "Set")] = some false),
  fun K => decide (PySem.W.kitAny K (.ref (He.ga K "Note")) [.type "list", .type "tuple"] = some false),
  fun K => decide (PySem.W.kitAny K (.ref (He.ga K "Skip")) [.ref (He.ga K "Skip"), .ref (He.ga K "Set")] = some true),
  fun K => decide (PySem.W.kitAny K (.ref (He.ga K "Skip")) [.type "list", .type "tuple"] = some false),
  fun K => decide (PySem.W.kitAny K (.ref (He.ga K "Set")) [.ref (He.ga K "Skip"), .ref (He.ga K "Set")] = some true),
  fun K => decide (PySem.W.kitAny K (.ref (He.ga K "Set")) [.type "list", .type "tuple"] = some false),
  fun K => decide (PySem.W.kitAny K (.ref (He.ga K "Keep")) [.ref (He.ga K "Skip"), .ref (He.ga K "Set")] = some false),
  fun K => decide (PySem.W.kitAny K (.ref (He.ga K "Keep")) [.type "list", .type "tuple"] = some false),
  fun K => decide (PySem.W.kitAny K (.ref (He.ga K "Back")) [.ref (He.ga K "Skip"), .ref (He.ga K "Set")] = some false)]
def exQ35 : List Ask := [
  fun K => decide (PySem.W.kitAny K (.ref (He.ga K "Back")) [.type "list", .type "tuple"] = some false),
  fun K => decide (PySem.W.kitAny K (.ref (He.ga K "Ref")) [.ref (He.ga K "Skip"), .ref (He.ga K "Set")] = some false),
  fun K => decide (PySem.W.kitAny K (.ref (He.ga K "Ref")) [.type "list", .type "tuple"] = some false),
  fun K => decide (PySem.W.kitAny K (.ref (He.ga K "Put")) [.ref (He.ga K "Skip"), .ref (He.ga K "Set")] = some false),
  fun K => decide (PySem.W.kitAny K (.ref (He.ga K "Put")) [.type "list", .type "tuple"] = some false),
  fun K => decide (PySem.W.kitAny K (.ref (He.ga K "Open")) [.ref (He.ga K "Skip"), .ref (He.ga K "Set")] = some false),
  fun K => decide (PySem.W.kitAny K (.ref (He.ga K "Open")) [.type "list", .type "tuple"] = some false),
  fun K => decide (PySem.W.kitAny K (.type "NoneType") [.ref (He.ga K "Skip"), .ref (He.ga K "Set")] = some false),
  fun K => decide (PySem.W.kitAny K (.type "bool") [.ref (He.ga K "Skip"), .ref (He.ga K "Set")] = some false),
  fun K => decide (PySem.W.kitAny K (.type "int") [.ref (He.ga K "Skip"), .ref (He.ga K "Set")] = some false)]
def exQ36 : List Ask := [
  fun K => decide (PySem.W.kitAny K (.type "str") [.ref (He.ga K "Skip"), .ref (He.ga K "Set")] = some false),
  fun K => decide (PySem.W.kitAny K (.type "list") [.ref (He.ga K "Skip"), .ref (He.ga K "Set")] = some false),
  fun K => decide (PySem.W.kitAny K (.type "tuple") [.ref (He.ga K "Skip"), .ref (He.ga K "Set")] = some false),
  fun K => decide (PySem.W.kitAny K (.type "dict") [.ref (He.ga K "Skip"), .ref (He.ga K "Set")] = some false),
  fun K => decide (PySem.W.findIn K (.ref (He.ga K "Filling")) "__class__" = some (some (.builtin "object.__class__"))),
  fun K => decide (PySem.W.mroIn K (He.ga K "Filling") (.type "object") = some true),
  fun K => decide (PySem.W.kitOne K (.ref (He.ga K "Filling")) (.ref (He.ga K "Filling")) = some true),
  fun K => decide (PySem.W.kitOne K (.type "NoneType") (.ref (He.ga K "Filling")) = some false),
  fun K => decide (PySem.W.kitOne K (.type "bool") (.ref (He.ga K "Filling")) = some false),
  fun K => decide (PySem.W.kitOne K (.type "int") (.ref (He.ga K "Filling")) = some false)]
def exQ37 : List Ask := [
  fun K => decide (PySem.W.kitOne K (.type "str") (.ref (He.ga K "Filling")) = some false),
  fun K => decide (PySem.W.kitOne K (.type "list") (.ref (He.ga K "Filling")) = some false),
  fun K => decide (PySem.W.kitOne K (.type "tuple") (.ref (He.ga K "Filling")) = some false),
  fun K => decide (PySem.W.kitOne K (.type "dict") (.ref (He.ga K "Filling")) = some false),
  fun K => PySem.W.selfFirst K (He.ga K "Leaves"),
  fun K => decide (PySem.W.kitOne K (.ref (He.ga K "Leaves")) (.ref (He.ga K "Leaves")) = some true),
  fun K => PySem.W.notFirst K (He.ga K "Leaves") (.ref (He.ga K "Leaves")),
  fun K => decide (PySem.W.findIn K (.ref (He.ga K "Leaves")) "__class__" = some (some (.builtin "object.__class__"))),
  fun K => decide (PySem.W.mroIn K (He.ga K "Leaves") (.type "object") = some true),
  fun K => decide (PySem.W.findIn K (.ref (He.ga K "Leaves")) "__ne__" = some (some (.builtin "object.__ne__")))]
def exQ38 : List Ask := [
  fun K => decide (PySem.W.specialIn K (.builtin "object.__class__") "__get__" = some (some (.builtin "getset_descriptor.__get__"))),
  fun K => decide (PySem.W.takesIn K (.builtin "object.__class__") = some true),
  fun K => mroQ K (He.ga K "Leaves"),
  fun K => decide (PySem.W.findIn K (.ref (He.ga K "Leaves")) "__ior__" = some none),
  fun K => decide (PySem.W.findIn K (.type "object") "__ior__" = some none),
  fun K => decide (PySem.W.findIn K (.ref (He.ga K "Leaves")) "__iand__" = some none),
  fun K => decide (PySem.W.findIn K (.type "object") "__iand__" = some none)]
def exR0 : List (List Ask) := [exQ0, exQ1, exQ2, exQ3, exQ4, exQ5, exQ6, exQ7, exQ8, exQ9, exQ10, exQ11, exQ12, exQ13, exQ14, exQ15, exQ16, exQ17, exQ18, exQ19]
def exR1 : List (List Ask) := [exQ20, exQ21, exQ22, exQ23, exQ24, exQ25, exQ26, exQ27, exQ28, exQ29, exQ30, exQ31, exQ32, exQ33, exQ34, exQ35, exQ36, exQ37, exQ38]
def exQ : List (List Ask) := exR0 ++ exR1
end Pn
namespace Pn
open PySem PySem.W PySem.Calls PyProof.Rows L2
abbrev rowQ : OpenRow := OpenLaw.row PySem.Challenge.rw_partnotes_k36_whole_rules_of_leaves
abbrev progQ : Program := view rowQ.prog [84]
def namesQ0 : List PySem.Str := ["_wall", "__name__", "ROW_WORDS", "LONGEST_NAME", "is_integer", "is_number", "is_name", "is_sequence", "is_pair", "NoteError", "InvalidRow", "InvalidPart", "InvalidBook", "InvalidText", "InvalidFilling", "InvalidLeaves", "LEAVE_WORDS", "is_triple", "need_triples", "rights_of", "need_leaves", "Leaves", "MOST_DIGITS", "Row", "same_row", "need_name", "Note", "Skip", "Set", "Keep"]
def namesQ1 : List PySem.Str := ["Back", "Ref", "Put", "Open", "read_number", "row_of_two", "row_of_three", "read_row", "COUNTING_WORDS", "Part", "are_counters", "are_parts", "counters_are_known", "names_put", "puts_are_earlier", "names_reached", "unroll", "unrolled_text", "refs_are_known", "counter_line", "read_counter", "read_counters", "is_part_line", "read_line", "read_parts", "Book", "are_fillable", "is_filled", "filled_text", "Filling"]
def namesQ2 : List PySem.Str := ["_law_deal", "_law_draw", "_law_pick", "_law_pools", "_law_counters", "_law_row", "_law_unrolled", "_law_book", "_law_made_row", "_law_made_book", "_law_opens", "_law_leaves", "_law_leaves_of", "_law_filling", "_law_filling_of", "_law_bare", "_law_items", "_law_rules_right"]
def namesQ : List PySem.Str := namesQ0 ++ namesQ1 ++ namesQ2
theorem runQ (w : World) : HandSHeadRun.RunEq rowQ progQ (hookQ 5 fnQ exQ) (seenQ 5 fnQ exQ) 20000 namesQ w := by
  intro os
  kernel_rfl
end Pn

namespace Pn
open PySem L2
/-! ### one statement, with what it comes to -/
/-- x = e, where what e comes to is said by C -/
theorem stepSet {te : TE} {i : Nat} {B : TS} {D : Ends} {σ : L2.St} {H : Hp} (C : V → Hp → Prop) (h1 : ∀ Q' : VK, (∀ v H', C v H' → Q' v H') → te σ H Q') (h2 : ∀ v H', C v H' → B D (σ.set i (some v)) H') : tSeq (tAsg te (gName i)) B D σ H := h1 _ h2
theorem stepNo {tt : TT} {A C : TS} {D : Ends} {σ : L2.St} {H : Hp} (G : Hp → Prop) (h1 : ∀ Q : Bool → Hp → Prop, (∀ H', G H' → Q false H') → tt σ H Q) (h2 : ∀ H', G H' → C D σ H') : tSeq (tIfS tt A tNext) C D σ H := h1 _ fun H' g => by
  rw [if_neg Bool.false_ne_true]
  exact h2 H' g
theorem stepYes {tt : TT} {A B C : TS} {D : Ends} {σ : L2.St} {H : Hp} (G : Hp → Prop) (h1 : ∀ Q : Bool → Hp → Prop, (∀ H', G H' → Q true H') → tt σ H Q) (h2 : ∀ H', G H' → A { D with nx := C D } σ H') : tSeq (tIfS tt A B) C D σ H := h1 _ fun H' g => by
  rw [if_pos rfl]
  exact h2 H' g
theorem Same.mo {H H' : Hp} (s : Same H H') : Mo H H' := fun _ e => s.free e
end Pn

namespace Pn
open PySem L2
section
variable {K : PySem.W.Frag}
end
end Pn

namespace Pn
open PySem L2
theorem iteTB {c : Bool} {A B : Prop} (hc : c = true) (h : A) : if c = true then A else B := by
  rw [if_pos hc]
  exact h
theorem iteFB {c : Bool} {A B : Prop} (hc : c = false) (h : B) : if c = true then A else B := by
  rw [hc, if_neg Bool.false_ne_true]
  exact h
theorem kF {A B : Hp → Prop} {H : Hp} (h : B H) : (fun (b : Bool) H1 => if b = true then A H1 else B H1) false H := by
  show if false = true then A H else B H
  rw [if_neg Bool.false_ne_true]
  exact h
abbrev sDeal : Stmt := top 66
abbrev sDraw : Stmt := top 67
abbrev sPick : Stmt := top 68
/-! ### draws out of a deal: a dict of a list of great numbers and three numbers -/
def deal4 (g : Addr) (n m t : Int) : List (Key × V) := [(.inr "great", .ref g), (.inr "now", .int n), (.inr "mixed", .int m), (.inr "turn", .int t)]
theorem deal4_get {g : Addr} {n m t : Int} : valV (deal4 g n m t) (.inr "great") = some (.ref g) ∧ valV (deal4 g n m t) (.inr "now") = some (.int n) ∧ valV (deal4 g n m t) (.inr "mixed") = some (.int m) ∧ valV (deal4 g n m t) (.inr "turn") = some (.int t) := by
  have e1 : ¬ (.inr "great" : Key) = .inr "now" := by decide +kernel
  have e4 : ¬ (.inr "great" : Key) = .inr "mixed" := by decide +kernel
  have e5 : ¬ (.inr "now" : Key) = .inr "mixed" := by decide +kernel
  have e7 : ¬ (.inr "great" : Key) = .inr "turn" := by decide +kernel
  have e8 : ¬ (.inr "now" : Key) = .inr "turn" := by decide +kernel
  have e9 : ¬ (.inr "mixed" : Key) = .inr "turn" := by decide +kernel
  refine ⟨?_, ?_, ?_, ?_⟩
  · exact valV_pos rfl
  · exact (valV_neg e1).trans (valV_pos rfl)
  · exact (valV_neg e4).trans ((valV_neg e5).trans (valV_pos rfl))
  · exact (valV_neg e7).trans ((valV_neg e8).trans ((valV_neg e9).trans (valV_pos rfl)))
theorem deal4_put {g : Addr} {n m t x : Int} : putK (deal4 g n m t) (.inr "now") (.int x) = deal4 g x m t ∧ putK (deal4 g n m t) (.inr "mixed") (.int x) = deal4 g n x t ∧ putK (deal4 g n m t) (.inr "turn") (.int x) = deal4 g n m x := by
  have e1 : ((.inr "great" : Key) = .inr "now") = False := eq_false (by decide +kernel)
  have e2 : ((.inr "mixed" : Key) = .inr "now") = False := eq_false (by decide +kernel)
  have e3 : ((.inr "turn" : Key) = .inr "now") = False := eq_false (by decide +kernel)
  have e4 : ((.inr "great" : Key) = .inr "mixed") = False := eq_false (by decide +kernel)
  have e5 : ((.inr "now" : Key) = .inr "mixed") = False := eq_false (by decide +kernel)
  have e6 : ((.inr "turn" : Key) = .inr "mixed") = False := eq_false (by decide +kernel)
  have e7 : ((.inr "great" : Key) = .inr "turn") = False := eq_false (by decide +kernel)
  have e8 : ((.inr "now" : Key) = .inr "turn") = False := eq_false (by decide +kernel)
  have e9 : ((.inr "mixed" : Key) = .inr "turn") = False := eq_false (by decide +kernel)
  refine ⟨?_, ?_, ?_⟩ <;> unfold putK deal4 <;> simp [e1, e2, e3, e4, e5, e6, e7, e8, e9]
/-- the heap but for a deal -/
def hh (H : Hp) (d g : Addr) : Hp := hid (hid H d) g
def DealAt (H : Hp) (d g : Addr) : Prop := d ≠ g ∧ ∃ (xs : List Int) (n m t : Int), H d = some (.dK (deal4 g n m t)) ∧ H g = some (.lst (xs.map V.int)) ∧ xs.length ≤ 63
theorem hh_ne {H : Hp} {d g a : Addr} {o : HO} (h : hh H d g a = some o) : a ≠ d ∧ a ≠ g ∧ H a = some o := by
  unfold hh hid at h
  by_cases h1 : a = g
  · rw [if_pos h1] at h; cases h
  · rw [if_neg h1] at h
    by_cases h2 : a = d
    · rw [if_pos h2] at h; cases h
    · rw [if_neg h2] at h; exact ⟨h2, h1, h⟩
theorem hh_get {H : Hp} {d g a : Addr} {o : HO} (h : H a = some o) (n1 : a ≠ d) (n2 : a ≠ g) : hh H d g a = some o := hid_get (hid_get h n1) n2
theorem hh_sub {H : Hp} {d g : Addr} : Same (hh H d g) H := fun _ _ e => (hh_ne e).2.2
theorem hh_same {H H' : Hp} {d g : Addr} (s : Same H H') : Same (hh H d g) (hh H' d g) := fun _ _ e => by
  obtain ⟨n1, n2, e⟩ := hh_ne e
  exact hh_get (s _ _ e) n1 n2
theorem hh_d {H : Hp} {d g : Addr} {o : HO} : Same (hh H d g) (hh (upd H d o) d g) := fun _ _ e => by
  obtain ⟨n1, n2, e⟩ := hh_ne e
  exact hh_get (by rw [upd_ne n1]; exact e) n1 n2
theorem hh_g {H : Hp} {d g : Addr} {o : HO} : Same (hh H d g) (hh (upd H g o) d g) := fun _ _ e => by
  obtain ⟨n1, n2, e⟩ := hh_ne e
  exact hh_get (by rw [upd_ne n2]; exact e) n1 n2
theorem DealAt.there {H : Hp} {d g : Addr} (h : DealAt H d g) : H d ≠ none ∧ H g ≠ none := by
  obtain ⟨_, xs, n, m, t, e1, e2, _⟩ := h
  refine ⟨fun z => ?_, fun z => ?_⟩
  · rw [e1] at z; cases z
  · rw [e2] at z; cases z
theorem DealAt.new {H : Hp} {d g p : Addr} {o : HO} (h : DealAt H d g) (hp : H p = none) : DealAt (upd H p o) d g := by
  obtain ⟨ne, xs, n, m, t, e1, e2, r⟩ := h
  exact ⟨ne, xs, n, m, t, by rw [upd_ne (ne_of_none e1 hp)]; exact e1, by rw [upd_ne (ne_of_none e2 hp)]; exact e2, r⟩
theorem DealAt.same {H H' : Hp} {d g : Addr} (h : DealAt H d g) (s : Same H H') : DealAt H' d g := by
  obtain ⟨ne, xs, n, m, t, e1, e2, r⟩ := h
  exact ⟨ne, xs, n, m, t, s _ _ e1, s _ _ e2, r⟩
theorem DealAt.upd {H : Hp} {d g p : Addr} {o : HO} (h : DealAt H d g) (n1 : p ≠ d) (n2 : p ≠ g) : DealAt (upd H p o) d g := by
  obtain ⟨ne, xs, n, m, t, e1, e2, r⟩ := h
  exact ⟨ne, xs, n, m, t, by rw [upd_ne n1.symm]; exact e1, by rw [upd_ne n2.symm]; exact e2, r⟩
/-- what is new beside a deal -/
theorem DealAt.nd {H : Hp} {d g p : Addr} (h : DealAt H d g) (hp : H p = none) : p ≠ d ∧ p ≠ g := ⟨fun z => h.there.1 (z ▸ hp), fun z => h.there.2 (z ▸ hp)⟩
theorem hh_new {H : Hp} {d g p : Addr} {o : HO} (hp : H p = none) : Same (hh H d g) (hh (upd H p o) d g) := hh_same (Same.new hp)
theorem hh_at {H : Hp} {d g p : Addr} {o : HO} (h : DealAt H d g) (hp : H p = none) : hh (upd H p o) d g p = some o := hh_get upd_same (h.nd hp).1 (h.nd hp).2
section
variable {P : Program} {w : World} {K : PySem.W.Frag} {mg : Str → Option Value} {base : Heap}
def spDraw : Sp := fun vs H Q _ => ∃ (d g : Addr) (m : Int), vs = [.ref d, .int m] ∧ DealAt H d g ∧ 0 < m ∧ m < 2147483648 ∧ ∀ (r : Int) (H' : Hp), 0 ≤ r → r < m → DealAt H' d g → Same (hh H d g) (hh H' d g) → Mo H H' → Q (.int r) H'
theorem scDraw : FnScope ["_law_deal_here", "_law_many", "_law_digit", "_law_first", "_law_second"] ["_law_deal_here", "_law_many"] (defScope sDraw) := ⟨rfl, rfl, rfl, by decide +kernel, rfl, by decide +kernel, by decide +kernel⟩
/-- a deal and what it holds, beside what stood ahead -/
structure DL (H0 H : Hp) (d g : Addr) (xs : List Int) (n m t : Int) : Prop where
  ne : d ≠ g
  hd : H d = some (.dK (deal4 g n m t))
  hg : H g = some (.lst (xs.map V.int))
  len : xs.length ≤ 63
  s : Same (hh H0 d g) (hh H d g)
  mo : Mo H0 H
theorem putD_new {kvs : List (Key × V)} {k : Key} {v : V} (h : k ∉ kvs.map (·.1)) : putK kvs k v = kvs ++ [(k, v)] := by
  unfold putK
  rw [if_neg]
  rw [List.any_eq_true]
  rintro ⟨kv, hm, e⟩
  exact h (List.mem_map.mpr ⟨kv, hm, of_decide_eq_true e⟩)
theorem mergeD_new : ∀ (l acc : List (Key × V)), (acc.map (·.1) ++ l.map (·.1)).Nodup → mergeK acc l = acc ++ l
  | [], acc, _ => by rw [List.append_nil]; rfl
  | kv :: l, acc, h => by
    have hk : kv.1 ∉ acc.map (·.1) := fun hm => (List.nodup_append.mp h).2.2 _ hm _ List.mem_cons_self rfl
    show mergeK (putK acc kv.1 kv.2) l = _
    rw [putD_new hk, mergeD_new l _ (by rw [List.map_append, List.append_assoc]; exact h), List.append_assoc]
    rfl
theorem roomDl {k : Nat} {A : Around} (r : Room k A) : A.units + 1 < PySem.cLine := by have := r.un; omega
theorem DL.setG {H0 H : Hp} {d g : Addr} {xs ys : List Int} {n m t : Int} (D : DL H0 H d g xs n m t) (hl : ys.length ≤ 63) : DL H0 (upd H g (.lst (ys.map V.int))) d g ys n m t :=
  ⟨D.ne, by rw [upd_ne D.ne]; exact D.hd, upd_same, hl, D.s.trans hh_g, D.mo.trans Mo.upd⟩
theorem DL.setD {H0 H : Hp} {d g : Addr} {xs : List Int} {n m t : Int} (n2 m2 t2 : Int) (D : DL H0 H d g xs n m t) : DL H0 (upd H d (.dK (deal4 g n2 m2 t2))) d g xs n2 m2 t2 :=
  ⟨D.ne, upd_same, by rw [upd_ne D.ne.symm]; exact D.hg, D.len, D.s.trans hh_d, D.mo.trans Mo.upd⟩
theorem DL.at {H0 H : Hp} {d g : Addr} {xs : List Int} {n m t : Int} (D : DL H0 H d g xs n m t) : DealAt H d g := ⟨D.ne, xs, n, m, t, D.hd, D.hg, D.len⟩
theorem DL.great {H0 H : Hp} {d g : Addr} {xs : List Int} {n m t : Int} (D : DL H0 H d g xs n m t) : DGet H d (.str "great") (some (.ref g)) := .inl ⟨_, .inr "great", .inl D.hd, rfl, deal4_get.1.symm⟩
theorem DL.now {H0 H : Hp} {d g : Addr} {xs : List Int} {n m t : Int} (D : DL H0 H d g xs n m t) : DGet H d (.str "now") (some (.int n)) := .inl ⟨_, .inr "now", .inl D.hd, rfl, deal4_get.2.1.symm⟩
theorem DL.mixed {H0 H : Hp} {d g : Addr} {xs : List Int} {n m t : Int} (D : DL H0 H d g xs n m t) : DGet H d (.str "mixed") (some (.int m)) := .inl ⟨_, .inr "mixed", .inl D.hd, rfl, deal4_get.2.2.1.symm⟩
theorem DL.turn {H0 H : Hp} {d g : Addr} {xs : List Int} {n m t : Int} (D : DL H0 H d g xs n m t) : DGet H d (.str "turn") (some (.int t)) := .inl ⟨_, .inr "turn", .inl D.hd, rfl, deal4_get.2.2.2.symm⟩
theorem d4small (g : Addr) (n m t : Int) : (deal4 g n m t).length < sizeLine := by show 4 < sizeLine; decide
theorem DL.pNow {H0 H : Hp} {d g : Addr} {xs : List Int} {n m t x : Int} (D : DL H0 H d g xs n m t) : DPut H d (.str "now") (.int x) (upd H d (.dK (deal4 g x m t))) := .inl ⟨_, .inr "now", D.hd, rfl, d4small .., by rw [deal4_put.1]⟩
theorem DL.pMixed {H0 H : Hp} {d g : Addr} {xs : List Int} {n m t x : Int} (D : DL H0 H d g xs n m t) : DPut H d (.str "mixed") (.int x) (upd H d (.dK (deal4 g n x t))) := .inl ⟨_, .inr "mixed", D.hd, rfl, d4small .., by rw [deal4_put.2.1]⟩
theorem DL.pTurn {H0 H : Hp} {d g : Addr} {xs : List Int} {n m t x : Int} (D : DL H0 H d g xs n m t) : DPut H d (.str "turn") (.int x) (upd H d (.dK (deal4 g n m x))) := .inl ⟨_, .inr "turn", D.hd, rfl, d4small .., by rw [deal4_put.2.2]⟩
theorem ok_draw {f : Addr} {fd : FuncData} (F : Fun K "_law_draw" "_law_draw" sDraw f fd) (mI : mg "int" = none) (mL : mg "len" = none) : FnOk P w K mg base CX0 1 f fd ["_law_deal_here", "_law_many"] spDraw := by
  refine F.ok scDraw (fun vs H Q E h => ?_) (fun cdv A outer s H vs Q E hr h => ?_)
  · obtain ⟨d, g, m, rfl, _⟩ := h
    rfl
  · obtain ⟨d, g, many, rfl, hD, h0, h1, k⟩ := h
    have dg : ∀ {X : Cx} {e : Expr} {te : TE} {pos p : Pos} {j : Nat} {z : Str}, X.A.units + 1 < PySem.cLine → PE X e te → PE X (.Subscript e (.Constant (.str z) j p) pos) (tDGet te (tC (.str z))) := fun hu h => pe_dget hu h pe_str (fun _ _ => rfl)
    refine ⟨_, pss_cons (ps_while PassesOwn.never (PW.pt (pw_and (pt_cmpR op_eq (dg (roomDl hr) (pv 0)) pe_int (nomark _)) (pw_and1 (pt_cmpR op_gt (pe_callB call_len_seq (by rfl) mL PySem.boot_len (pa_cons (dg (roomDl hr) (pv 0)) pa_nil)) pe_int (nomark _)))))
        (pss_one (ps_asg (pe_bm0 PySem.F.plainAttrs_list PySem.F.slot_list_pop PySem.F.type_list_pop mt_pop (dg (roomDl hr) (pv 0))) (pg_sub (pv 0) pe_str (set_dict (roomDl hr))))))
      (pss_cons (ps_if (pt_cmpR op_gt (dg (roomDl hr) (pv 0)) pe_int (nomark _))
        (pss_cons (ps_set (i := 2) scDraw.nd rfl (Or.inl rfl) (pe_op op_mod (pe_callTy call_int1 (by rfl) mI (by decide +kernel) (pa_cons (dg (roomDl hr) (pv 0)) pa_nil)) (pv 1)))
        (pss_cons (ps_asg (pe_op op_fdivW (dg (roomDl hr) (pv 0)) (pv 1)) (pg_sub (pv 0) pe_str (set_dict (roomDl hr))))
        (pss_one (ps_ret (pv 2))))) pss_nil)
      (pss_cons (ps_asg (pe_op op_add (dg (roomDl hr) (pv 0)) pe_int) (pg_sub (pv 0) pe_str (set_dict (roomDl hr))))
      (pss_cons (ps_set (i := 3) scDraw.nd rfl (Or.inl rfl) (pe_op op_mod (pe_callTy call_int1 (by rfl) mI (by decide +kernel) (pa_cons (pe_op op_add (pe_op op_mul (dg (roomDl hr) (pv 0)) pe_int) (pe_op op_mul (dg (roomDl hr) (pv 0)) pe_int)) pa_nil)) pe_int))
      (pss_cons (ps_set (i := 4) scDraw.nd rfl (Or.inl rfl) (pe_op op_mod (pe_callTy call_int1 (by rfl) mI (by decide +kernel) (pa_cons (pe_op op_add (pe_op op_mul (pv 3) (pv 3)) (pe_op op_mul (dg (roomDl hr) (pv 0)) pe_int)) pa_nil)) pe_int))
      (pss_cons (ps_asg (pe_op op_add (pe_op op_mod (pe_callTy call_int1 (by rfl) mI (by decide +kernel) (pa_cons (pe_op op_add (pe_op op_mul (pv 4) pe_int) (pv 3)) pa_nil)) pe_int) pe_int) (pg_sub (pv 0) pe_str (set_dict (roomDl hr))))
      (pss_one (ps_ret (pe_op op_mod (pe_callTy call_int1 (by rfl) mI (by decide +kernel) (pa_cons (pe_op op_add (pe_op op_fdiv (pv 4) pe_int) (pv 3)) pa_nil)) (pv 1))))))))), ?_⟩
    obtain ⟨ne, xs0, n0, m0, t0, e1, e2, e3⟩ := hD
    refine ⟨fun c σ Hc => ∃ (xs : List Int) (n : Int), σ = [some (.ref d), some (.int many), none, none, none] ∧ xs.length = c ∧ DL H Hc d g xs n m0 t0, ⟨_, xs0, n0, rfl, rfl, ne, e1, e2, e3, Same.refl _, Mo.refl _⟩, fun c σ Hc hP => ?_⟩
    obtain ⟨xs, n, rfl, hn, D⟩ := hP
    have hx : ∀ (l : List Int) (x : Int), atI ((l ++ [x]).map V.int) (-1) = some (.int x) := fun l x => by rw [List.map_append]; exact atI_last _ _
    have rev2 : ∀ (l : List Int) (x : Int), ((l ++ [x]).map V.int).dropLast = l.map V.int := fun l x => by rw [List.map_append]; exact List.dropLast_concat
    have lst2 : ∀ (l : List Int) (x : Int), ((l ++ [x]).map V.int)[((l ++ [x]).map V.int).length - 1]? = some (.int x) := fun l x => by
      rw [List.map_append, List.length_append]
      show (l.map V.int ++ [V.int x])[(l.map V.int).length + 1 - 1]? = _
      rw [Nat.add_sub_cancel, List.getElem?_append_right (Nat.le_refl _), Nat.sub_self]
      rfl
    refine ⟨_, rfl, d, _, rfl, D.now, rfl, _, rfl, ?_⟩
    by_cases hz : n = 0
    · subst hz
      refine iteTB (by simp) ?_
      refine ⟨_, rfl, d, _, rfl, D.great, g, _, rfl, .inl (SqL.of D.hg), _, _, rfl, rfl, _, rfl, ?_⟩
      rcases List.eq_nil_or_concat xs with hxs | ⟨l, x, hxs⟩
      · subst hxs
        refine iteFB rfl ?_
        refine ⟨_, rfl, d, _, rfl, D.now, _, _, rfl, rfl, _, rfl, iteF ?_⟩
        refine ⟨_, rfl, d, _, rfl, D.turn, _, _, rfl, rfl, _, rfl, d, _, rfl, D.pTurn, ?_⟩
        have D1 := D.setD 0 m0 (t0 + 1)
        generalize upd Hc d (.dK (deal4 g 0 m0 (t0 + 1))) = H1 at D1 ⊢
        refine ⟨_, rfl, d, _, rfl, D1.mixed, _, _, rfl, rfl, .inr ⟨by decide, by decide⟩, _, rfl, d, _, rfl, D1.turn, _, _, rfl, rfl, .inr ⟨by decide, by decide⟩, _, _, rfl, rfl, .inl ⟨_, rfl, _, _, rfl, rfl, (by show (0 : Int) < 2147483629; decide), ?_⟩⟩
        have f0 := Int.emod_nonneg (m0 * 48271 + (t0 + 1) * 69621) (show (2147483629 : Int) ≠ 0 by decide)
        have f1 := Int.emod_lt_of_pos (m0 * 48271 + (t0 + 1) * 69621) (show (0 : Int) < 2147483629 by decide)
        unfold gName
        dsimp only
        generalize (m0 * 48271 + (t0 + 1) * 69621) % 2147483629 = fi at f0 f1 ⊢
        refine ⟨_, rfl, _, rfl, _, _, rfl, rfl, .inl ⟨by omega, by omega⟩, _, rfl, d, _, rfl, D1.turn, _, _, rfl, rfl, .inr ⟨by decide, by decide⟩, _, _, rfl, rfl, .inl ⟨_, rfl, _, _, rfl, rfl, (by show (0 : Int) < 2147483563; decide), ?_⟩⟩
        dsimp only
        generalize (fi * fi + (t0 + 1) * 7919) % 2147483563 = se
        refine ⟨_, rfl, _, _, rfl, rfl, .inr ⟨by decide, by decide⟩, _, rfl, _, _, rfl, rfl, .inl ⟨_, rfl, _, _, rfl, rfl, (by show (0 : Int) < 2147483647; decide), _, _, rfl, rfl, _, rfl, d, _, rfl, D1.pMixed, ?_⟩⟩
        have D2 := D1.setD 0 ((se * 40692 + fi) % 2147483647 + 1) (t0 + 1)
        refine ⟨_, rfl, _, _, rfl, rfl, ⟨by decide, by decide⟩, _, rfl, _, _, rfl, rfl, .inl ⟨_, rfl, _, rfl, _, _, rfl, rfl, h0, ?_⟩⟩
        exact k _ _ (Int.emod_nonneg _ (by omega)) (Int.emod_lt_of_pos _ h0) D2.at D2.s D2.mo
      · rw [List.concat_eq_append] at hxs
        subst hxs
        refine iteTB (by simp) ?_
        refine ⟨fun σ' H' => ∃ (xs : List Int) (n : Int), σ' = [some (.ref d), some (.int many), none, none, none] ∧ xs.length = l.length ∧ DL H H' d g xs n m0 t0, fun σ' H' q => ⟨l.length, by rw [← hn, List.length_append]; exact Nat.lt_succ_self _, q⟩, ?_⟩
        refine ⟨_, rfl, d, _, rfl, D.great, .inl ⟨rfl, _, SqL.of D.hg⟩, g, _, _, rfl, rfl, D.hg, lst2 l x, ?_⟩
        rw [rev2]
        have D1 := D.setG (ys := l) (by have := D.len; rw [List.length_append] at this; omega)
        exact ⟨_, rfl, d, _, rfl, D1.pNow, l, x, rfl, rfl, D1.setD x m0 t0⟩
    · refine iteFB (by simp [hz]) ?_
      refine ⟨_, rfl, d, _, rfl, D.now, _, _, rfl, rfl, _, rfl, ?_⟩
      by_cases hp : 0 < n
      · refine iteTB (decide_eq_true hp) ?_
        refine ⟨_, rfl, d, _, rfl, D.now, .inl ⟨_, rfl, _, rfl, _, _, rfl, rfl, h0, ?_⟩⟩
        unfold gName
        dsimp only
        refine ⟨_, rfl, d, _, rfl, D.now, _, rfl, _, _, rfl, rfl, wide_div (b := 40) h0 (by omega) (by decide) (by decide), _, rfl, d, _, rfl, D.pNow, ?_⟩
        have D2 := D.setD (n / many) m0 t0
        exact ⟨_, rfl, k _ _ (Int.emod_nonneg _ (by omega)) (Int.emod_lt_of_pos _ h0) D2.at D2.s D2.mo⟩
      · refine iteFB (decide_eq_false hp) ?_
        refine ⟨_, rfl, d, _, rfl, D.turn, _, _, rfl, rfl, _, rfl, d, _, rfl, D.pTurn, ?_⟩
        have D1 := D.setD n m0 (t0 + 1)
        generalize upd Hc d (.dK (deal4 g n m0 (t0 + 1))) = H1 at D1 ⊢
        refine ⟨_, rfl, d, _, rfl, D1.mixed, _, _, rfl, rfl, .inr ⟨by decide, by decide⟩, _, rfl, d, _, rfl, D1.turn, _, _, rfl, rfl, .inr ⟨by decide, by decide⟩, _, _, rfl, rfl, .inl ⟨_, rfl, _, _, rfl, rfl, (by show (0 : Int) < 2147483629; decide), ?_⟩⟩
        have f0 := Int.emod_nonneg (m0 * 48271 + (t0 + 1) * 69621) (show (2147483629 : Int) ≠ 0 by decide)
        have f1 := Int.emod_lt_of_pos (m0 * 48271 + (t0 + 1) * 69621) (show (0 : Int) < 2147483629 by decide)
        unfold gName
        dsimp only
        generalize (m0 * 48271 + (t0 + 1) * 69621) % 2147483629 = fi at f0 f1 ⊢
        refine ⟨_, rfl, _, rfl, _, _, rfl, rfl, .inl ⟨by omega, by omega⟩, _, rfl, d, _, rfl, D1.turn, _, _, rfl, rfl, .inr ⟨by decide, by decide⟩, _, _, rfl, rfl, .inl ⟨_, rfl, _, _, rfl, rfl, (by show (0 : Int) < 2147483563; decide), ?_⟩⟩
        dsimp only
        generalize (fi * fi + (t0 + 1) * 7919) % 2147483563 = se
        refine ⟨_, rfl, _, _, rfl, rfl, .inr ⟨by decide, by decide⟩, _, rfl, _, _, rfl, rfl, .inl ⟨_, rfl, _, _, rfl, rfl, (by show (0 : Int) < 2147483647; decide), _, _, rfl, rfl, _, rfl, d, _, rfl, D1.pMixed, ?_⟩⟩
        have D2 := D1.setD n ((se * 40692 + fi) % 2147483647 + 1) (t0 + 1)
        refine ⟨_, rfl, _, _, rfl, rfl, ⟨by decide, by decide⟩, _, rfl, _, _, rfl, rfl, .inl ⟨_, rfl, _, rfl, _, _, rfl, rfl, h0, ?_⟩⟩
        exact k _ _ (Int.emod_nonneg _ (by omega)) (Int.emod_lt_of_pos _ h0) D2.at D2.s D2.mo
def spPick (K : PySem.W.Frag) : Sp := fun vs H Q _ => ∃ (d g a : Addr) (xs : List V), vs = [.ref d, .ref a] ∧ DealAt H d g ∧ SqL K (hh H d g) a xs ∧ 0 < xs.length ∧ xs.length < 1000000 ∧ ∀ (v : V) (H' : Hp), v ∈ xs → DealAt H' d g → Same (hh H d g) (hh H' d g) → Mo H H' → Q v H'
theorem scPick : FnScope ["_law_deal_here", "_law_some"] ["_law_deal_here", "_law_some"] (defScope sPick) := ⟨rfl, rfl, rfl, by decide +kernel, rfl, by decide +kernel, by decide +kernel⟩
theorem ok_pick {f : Addr} {fd : FuncData} (F : Fun K "_law_pick" "_law_pick" sPick f fd) (mL : mg "len" = none) (D : At K mg "_law_draw" sDraw ["_law_deal_here", "_law_many"]) (mI : mg "int" = none) : FnOk P w K mg base CX0 2 f fd ["_law_deal_here", "_law_some"] (spPick K) := by
  refine F.ok scPick (fun vs H Q E h => ?_) (fun cdv A outer s H vs Q E hr h => ?_)
  · obtain ⟨d, g, a, xs, rfl, _⟩ := h
    rfl
  · obtain ⟨d, g, a, xs, rfl, hD, hS, h0, h1, q⟩ := h
    refine ⟨_, pss_one (ps_ret (pe_ix ix_list (pv 1) (pe_call (ok_draw D.F mI mL) hr rfl D.m D.F.kp D.b .nil pass0 (pa_cons (pv 0) (pa_cons (pe_callB call_len_seq (by rfl) mL PySem.boot_len (pa_cons (pv 1) pa_nil)) pa_nil))) (fun _ _ => rfl))), ?_⟩
    refine ⟨_, rfl, _, rfl, _, rfl, _, _, rfl, .inl (hh_sub.seq hS), ?_⟩
    refine ⟨d, g, _, rfl, hD, by omega, by omega, fun r H' r0 r1 hD' hs hm => ?_⟩
    obtain ⟨i, rfl⟩ : ∃ i : Nat, r = (i : Int) := ⟨r.toNat, by omega⟩
    have hi : i < xs.length := by omega
    exact ⟨_, _, _, _, rfl, rfl, hh_sub.seq (hs.seq hS), atI_nat (List.getElem?_eq_getElem hi), q _ _ (List.getElem_mem hi) hD' hs hm⟩
def absI (x : Int) : Int := if x < 0 then -x else x
theorem cut_ints (ns : List Int) (lo hi : Option Int) : ∃ us : List Int, cutV (ns.map V.int) lo hi = us.map V.int ∧ us.length ≤ ns.length := by
  refine ⟨(ns.drop (HT.sIx (ns.map V.int).length 0 lo)).take (HT.sIx (ns.map V.int).length (ns.map V.int).length hi - HT.sIx (ns.map V.int).length 0 lo), ?_, ?_⟩
  · unfold cutV
    rw [List.map_take, List.map_drop]
  · rw [List.length_take, List.length_drop]
    omega
def spDeal (K : PySem.W.Frag) : Sp := fun vs H Q _ => ∃ (a : Addr) (b : Int) (ns : List Int), vs = [.ref a, .int b] ∧ SqL K H a (ns.map V.int) ∧ ns.length ≤ 63 ∧ ∀ (d g : Addr) (H' : Hp), DealAt H' d g → Same H (hh H' d g) → Q (.ref d) H'
theorem scDeal : FnScope ["_law_script", "_law_base", "_law_cell", "_law_cells", "_law_mixed", "_law_great"] ["_law_script", "_law_base"] (defScope sDeal) := ⟨rfl, rfl, rfl, by decide +kernel, rfl, by decide +kernel, by decide +kernel⟩
theorem ok_deal {f : Addr} {fd : FuncData} (F : Fun K "_law_deal" "_law_deal" sDeal f fd) (mI : mg "int" = none) (mA : mg "abs" = none) : FnOk P w K mg base CX0 1 f fd ["_law_script", "_law_base"] (spDeal K) := by
  refine F.ok scDeal (fun vs H Q E h => ?_) (fun cdv A outer s H vs Q E hr h => ?_)
  · obtain ⟨a, b, ns, rfl, _⟩ := h
    rfl
  · obtain ⟨a, b, ns, rfl, hS, hl, q⟩ := h
    refine ⟨_, pss_cons (ps_setLc (i := 3) (own := [("_law_cell", 2)]) (g := gName 2) (tt := tYes) (by rfl) scDeal.nd rfl rfl (sw_true rfl rfl rfl (by decide +kernel)) (pi_list (pe_slice sl_list (pv 0) (po_some (pv 1)) (po_some pe_int)))
          (blkOk_by (N := ["_law_script", "_law_base", "_law_cell", "_law_cells", "_law_mixed", "_law_great"]) (sc := defScope sDeal) (by decide +kernel)) (fun _ _ _ _ _ => pg_name (i := 2) scDeal.nd rfl (Or.inl rfl)) (fun _ _ _ _ _ => pts_nil)
          (fun _ _ _ _ _ => pe_callB call_abs (by rfl) mA (by decide +kernel) (pa_cons (pv 2) pa_nil)))
      (pss_cons (ps_set (i := 4) scDeal.nd rfl (Or.inl rfl) (pe_op op_add pe_int (pv 1)))
      (pss_cons (ps_for PassesOwn.never rfl (pi_list (pv 3)) (pg_name (i := 2) scDeal.nd rfl (Or.inl rfl))
        (pss_one (ps_set (i := 4) scDeal.nd rfl (Or.inl rfl) (pe_op op_mod (pe_callTy call_int1 (by rfl) mI (by decide +kernel) (pa_cons (pe_op op_add (pe_op op_mul (pv 4) pe_int) (pv 2)) pa_nil)) pe_int))))
      (pss_cons (ps_setLc (i := 5) (own := [("_law_cell", 2)]) (g := gName 2) (by rfl) scDeal.nd rfl rfl (sw_true rfl rfl rfl (by decide +kernel)) (pi_list (pv 3))
          (blkOk_by (N := ["_law_script", "_law_base", "_law_cell", "_law_cells", "_law_mixed", "_law_great"]) (sc := defScope sDeal) (by decide +kernel)) (fun _ _ _ _ _ => pg_name (i := 2) scDeal.nd rfl (Or.inl rfl)) (fun _ _ _ _ _ => pts_one (pt_cmpR op_ge (pv 2) (pe_op op_pow pe_int pe_int) (nomark _)))
          (fun _ _ _ _ _ => pv 2))
      (pss_one (ps_ret (pe_disp (pps_cons pe_str (pe_revL (pv 5)) (pps_cons pe_str pe_int (pps_cons pe_str (pe_op op_add (pv 4) pe_int) (pps_cons pe_str pe_int pps_nil)))) (by rfl) (by rfl) (by intro z; cases z) (by decide))))))), ?_⟩
    obtain ⟨us, hu, hul⟩ := cut_ints ns (some b) (some 63)
    refine ⟨_, rfl, _, rfl, b, rfl, 63, rfl, a, _, rfl, hS, fun p hp => ?_⟩
    rw [hu]
    have s1 : Same H (upd H p (.lst (us.map V.int))) := Same.new hp
    have hp1 : upd H p (.lst (us.map V.int)) p = some (.lst (us.map V.int)) := upd_same
    generalize upd H p (.lst (us.map V.int)) = H1 at s1 hp1 ⊢
    refine ⟨p, rfl, ⟨_, SqL.of hp1⟩, fun D hD => lc_it (walk_list (xs := us.map V.int)) (fun i Hi => Hi D = some (.lst (((us.take i).map absI).map V.int)) ∧ Same H1 Hi) ⟨upd_same, Same.new hD⟩ (fun i Hi _ hP => SqL.of (hP.2 _ _ hp1)) (fun i x Hi Hj hi hP hY => ?turn1) (fun Hi hP => ?done1)⟩
    case turn1 =>
      obtain ⟨rfl, hx⟩ := hY
      obtain ⟨hDi, hs⟩ := hP
      rw [List.getElem?_map] at hx
      cases hxi : us[i]? with
      | none => rw [hxi] at hx; cases hx
      | some u =>
      rw [hxi] at hx
      cases hx
      have hi2 : i < us.length := by rw [List.length_map] at hi; exact hi
      refine ⟨rfl, _, rfl, _, rfl, _, hDi, small1000 (by rw [List.length_map, List.length_map]; have := List.length_take_le i us; omega), ?_, fun b o e => ?_⟩
      · rw [upd_same, List.take_add_one, hxi, List.map_append, List.map_append]
        rfl
      · rw [upd_ne (ne_of_none e hD)]
        exact hs _ _ e
    case done1 =>
      obtain ⟨hD1, hs⟩ := hP
      rw [List.length_map, List.take_length] at hD1
      have hcl : (us.map absI).length ≤ 63 := by rw [List.length_map]; omega
      generalize us.map absI = cs at hD1 hcl
      have s2 := s1.trans hs
      refine ⟨_, rfl, _, _, rfl, rfl, ?_⟩
      refine ⟨_, rfl, D, rfl, ⟨_, SqL.of hD1⟩, for_list (xs := cs.map V.int) (fun i σ Hc => ∃ (x2 : Option V) (m : Int), σ = [some (.ref a), some (.int b), x2, some (.ref D), some (.int m), none] ∧ Hc = Hi) ⟨none, 15485863 + b, rfl, rfl⟩ (fun i σ Hc _ hP => by obtain ⟨_, _, _, rfl⟩ := hP; exact SqL.of hD1) (fun i x σ Hc hx hP => ?turn2) (fun σ Hc hP => ?done2)⟩
      case turn2 =>
        obtain ⟨x2, m, rfl, rfl⟩ := hP
        rw [List.getElem?_map] at hx
        cases hxi : cs[i]? with
        | none => rw [hxi] at hx; cases hx
        | some c =>
        rw [hxi] at hx
        cases hx
        refine ⟨_, rfl, _, _, rfl, rfl, .inr ⟨by decide, by decide⟩, _, rfl, _, _, rfl, rfl, .inl ⟨_, rfl, _, _, rfl, rfl, (by show (0 : Int) < 2147483647; decide), ?_⟩⟩
        exact ⟨_, _, rfl, rfl⟩
      case done2 =>
        obtain ⟨x2, m, rfl, rfl⟩ := hP
        refine ⟨_, rfl, D, rfl, ⟨_, SqL.of hD1⟩, fun D2 hD2 => lc_it (walk_list (xs := cs.map V.int)) (fun i Hi2 => ∃ l : List Int, l.length ≤ i ∧ Hi2 D2 = some (.lst (l.map V.int)) ∧ Same Hc Hi2) ⟨[], Nat.le_refl _, upd_same, Same.new hD2⟩ (fun i Hi2 _ hP => by obtain ⟨_, _, _, h⟩ := hP; exact SqL.of (h _ _ hD1)) (fun i x Hi2 Hj hi hP hY => ?turn3) (fun Hi2 hP => ?done3)⟩
        case turn3 =>
          obtain ⟨rfl, hx⟩ := hY
          obtain ⟨l, l1, l3, l4⟩ := hP
          rw [List.getElem?_map] at hx
          cases hxi : cs[i]? with
          | none => rw [hxi] at hx; cases hx
          | some c =>
          rw [hxi] at hx
          cases hx
          have hi2 : i < cs.length := by rw [List.length_map] at hi; exact hi
          refine ⟨rfl, _, rfl, _, _, rfl, rfl, ⟨by decide, by decide, by decide⟩, _, _, rfl, rfl, _, rfl, ?_⟩
          refine ite2 (fun _ => ?_) (fun _ => ?_)
          · refine ⟨_, rfl, _, l3, small1000 (by rw [List.length_map]; omega), l ++ [c], by rw [List.length_append]; exact Nat.add_le_add_right l1 1, by rw [upd_same, List.map_append]; rfl, fun b o e => ?_⟩
            rw [upd_ne (ne_of_none e hD2)]
            exact l4 _ _ e
          · exact ⟨l, by omega, l3, l4⟩
        case done3 =>
          obtain ⟨l, l1, l3, l4⟩ := hP
          have s3 : Same H Hi2 := s2.trans l4
          dsimp only
          intro d hd
          have ndD : d ≠ D2 := fun z => by rw [z, l3] at hd; cases hd
          refine ⟨_, rfl, D2, _, rfl, SqL.of (by rw [upd_ne ndD.symm]; exact l3), fun g hg => ?_⟩
          have ngd : g ≠ d := fun z => by rw [z, upd_same] at hg; cases hg
          have hd0 : H d = none := s3.free hd
          have hg0 : H g = none := s3.free ((Same.new hd).free hg)
          refine ⟨_, rfl, _, _, rfl, rfl, ?_⟩
          refine ⟨by rw [upd_ne ngd.symm]; exact upd_same, deal4 g 0 (m + 1) 0, rfl, by show 4 ≤ 15; decide, ?_⟩
          rw [mergeD_new (deal4 g 0 (m + 1) 0) [] (show ([.inr "great", .inr "now", .inr "mixed", .inr "turn"] : List Key).Nodup by decide +kernel)]
          refine q d g _ ⟨ngd.symm, l.reverse, 0, m + 1, 0, upd_same, by rw [upd_ne ngd, upd_same, List.map_reverse], by rw [List.length_reverse]; rw [List.length_map] at l1; omega⟩ fun b o e => hh_get ?_ (ne_of_none e hd0) (ne_of_none e hg0)
          rw [upd_ne (ne_of_none e hd0), upd_ne (ne_of_none e hg0), upd_ne (ne_of_none e hd0)]
          exact s3 _ _ e
end
end Pn

namespace Pn
open PySem L2
abbrev sIsInteger : Stmt := top 4
abbrev sIsNumber : Stmt := top 5
abbrev sIsName : Stmt := top 6
/-! ### what these checks tell of data -/
def rowV : List V := [.str "note", .str "skip", .str "set", .str "keep", .str "back", .str "ref", .str "put", .str "open", .str "part"]
/-- a letter of a name -/
def lok (c : Nat) : Bool := decide (97 ≤ c) && decide (c ≤ 122)
def nameS (z : Str) : Bool := !inV (.str z) rowV && (decide (1 ≤ (z.length : Int)) && decide ((z.length : Int) ≤ 4)) && z.cps.toList.all lok
def nameD : PyData → Bool
  | .str z => nameS z
  | _ => false
def intD : PyData → Bool
  | .int _ => true
  | _ => false
def numD : PyData → Bool
  | .int i => decide (0 ≤ i)
  | _ => false
/-- the type of data -/
def tyD : PyData → String
  | .none => "NoneType"
  | .bool _ => "bool"
  | .int _ => "int"
  | .str _ => "str"
  | .list _ => "list"
  | .tuple _ => "tuple"
  | .dict _ => "dict"
theorem dp_ty {K : PySem.W.Frag} {H : Hp} {v : V} {d : PyData} (h : Dp K H v d) : TyX K H v (.type (tyD d)) := by
  cases h with
  | non => exact .base .non
  | bl b => exact .base (.bl b)
  | int i => exact .base (.int i)
  | str x => exact .base (.str x)
  | lst s _ =>
    rcases s with (s | ⟨o, s⟩) | ⟨o, _, _, e, c, _⟩
    · exact .base (.lst s)
    · exact .base (.frz s)
    · exact .kList e c
  | tup s _ =>
    rcases s with (s | ⟨o, s⟩) | ⟨o, _, _, e, c, _⟩
    · exact .base (.tup s)
    · exact .fTuple s
    · exact .kTuple e c
def strT : PyData → Bool
  | .str _ => true
  | _ => false
def intT : PyData → Bool
  | .bool _ => true
  | .int _ => true
  | _ => false
def boolT : PyData → Bool
  | .bool _ => true
  | _ => false
theorem kit_str : ∀ d : PyData, kitB (tyD d) "str" = some (strT d)
  | .none => (by decide +kernel : kitB "NoneType" "str" = some false)
  | .bool _ => (by decide +kernel : kitB "bool" "str" = some false)
  | .int _ => (by decide +kernel : kitB "int" "str" = some false)
  | .str _ => (by decide +kernel : kitB "str" "str" = some true)
  | .list _ => (by decide +kernel : kitB "list" "str" = some false)
  | .tuple _ => (by decide +kernel : kitB "tuple" "str" = some false)
  | .dict _ => (by decide +kernel : kitB "dict" "str" = some false)
theorem kit_int : ∀ d : PyData, kitB (tyD d) "int" = some (intT d)
  | .none => (by decide +kernel : kitB "NoneType" "int" = some false)
  | .bool _ => (by decide +kernel : kitB "bool" "int" = some true)
  | .int _ => (by decide +kernel : kitB "int" "int" = some true)
  | .str _ => (by decide +kernel : kitB "str" "int" = some false)
  | .list _ => (by decide +kernel : kitB "list" "int" = some false)
  | .tuple _ => (by decide +kernel : kitB "tuple" "int" = some false)
  | .dict _ => (by decide +kernel : kitB "dict" "int" = some false)
theorem kit_bool : ∀ d : PyData, kitB (tyD d) "bool" = some (boolT d)
  | .none => (by decide +kernel : kitB "NoneType" "bool" = some false)
  | .bool _ => (by decide +kernel : kitB "bool" "bool" = some true)
  | .int _ => (by decide +kernel : kitB "int" "bool" = some false)
  | .str _ => (by decide +kernel : kitB "str" "bool" = some false)
  | .list _ => (by decide +kernel : kitB "list" "bool" = some false)
  | .tuple _ => (by decide +kernel : kitB "tuple" "bool" = some false)
  | .dict _ => (by decide +kernel : kitB "dict" "bool" = some false)
/-! ### a comprehension whose items are told by their places -/
theorem lc_step {H1 : Hp} {D : Addr} {f : Nat → V} {i : Nat} (hi : i < 1000) : ∃ acc, (upd H1 D (.lst ((List.range i).map f))) D = some (.lst acc) ∧ acc.length < sizeLine ∧
    upd (upd H1 D (.lst ((List.range i).map f))) D (.lst (acc ++ [f i])) = upd H1 D (.lst ((List.range (i + 1)).map f)) := by
  refine ⟨_, upd_same, by rw [List.length_map, List.length_range]; exact small1000 (by omega), ?_⟩
  rw [List.range_succ, List.map_append]
  funext b
  by_cases e : b = D
  · rw [e, upd_same, upd_same]
    rfl
  · rw [upd_ne e, upd_ne e, upd_ne e]
theorem range_getD {f : Nat → Bool} : ∀ l : List Nat, (((List.range l.length).map fun i => f (l.getD i 0)).all id) = l.all f := by
  intro l
  have e : (List.range l.length).map (fun i => f (l.getD i 0)) = l.map f := by
    apply List.ext_getElem
    · simp
    · intro i h1 h2
      have h3 : i < l.length := by simpa using h2
      simp [List.getD_eq_getElem?_getD, List.getElem?_eq_getElem h3]
  rw [e]
  simp
theorem lt_one {a b : Nat} : decide ([a] < [b]) = decide (a < b) := by
  by_cases h : a < b
  · rw [decide_eq_true h, decide_eq_true]
    exact List.Lex.rel h
  · rw [decide_eq_false h, decide_eq_false]
    intro z
    cases z with
    | rel r => exact h r
    | cons r => cases r
theorem lok_eq (c : Nat) : (if (!decide ([c] < [97])) = true then (!decide ([122] < [c])) else false) = lok c := by
  rw [lt_one, lt_one]
  unfold lok
  by_cases h1 : c < 97
  · rw [decide_eq_true h1, decide_eq_false (show ¬ 97 ≤ c by omega)]
    rfl
  · rw [decide_eq_false h1, decide_eq_true (show 97 ≤ c by omega)]
    by_cases h2 : 122 < c
    · rw [decide_eq_true h2, decide_eq_false (show ¬ c ≤ 122 by omega)]
      rfl
    · rw [decide_eq_false h2, decide_eq_true (show c ≤ 122 by omega)]
      rfl
section
variable {P : Program} {w : World} {K : PySem.W.Frag} {mg : Str → Option Value} {base : Heap}
structure TChk (K : PySem.W.Frag) (mg : Str → Option Value) : Type where
  mInt : mg "int" = none
  mBool : mg "bool" = none
  mStr : mg "str" = none
  mIsi : mg "isinstance" = none
  mLen : mg "len" = none
  mAll : mg "all" = none
  words : Addr
  mWords : mg "ROW_WORDS" = some (.ref words)
  hWords : ∀ H, SqT K H words rowV
  tok : Tok
  mLong : mg "LONGEST_NAME" = some (.int 4 tok)
  isInteger : At K mg "is_integer" sIsInteger ["value"]
  isNumber : At K mg "is_number" sIsNumber ["value"]
  isName : At K mg "is_name" sIsName ["value"]
def spIsInteger (K : PySem.W.Frag) : Sp := fun vs H Q _ => ∃ (v : V) (d : PyData), vs = [v] ∧ Dp K H v d ∧ Q (.bl (intD d)) H
theorem scIsInteger : FnScope ["value"] ["value"] (defScope sIsInteger) := ⟨rfl, rfl, rfl, by decide +kernel, rfl, by decide +kernel, by decide +kernel⟩
theorem TChk.okInteger (T : TChk K mg) : FnOk P w K mg base CX0 1 T.isInteger.f T.isInteger.fd ["value"] (spIsInteger K) := by
  refine T.isInteger.F.ok scIsInteger (fun vs H Q E h => ?_) (fun cdv A outer s H vs Q E hr h => ?_)
  · obtain ⟨v, d, rfl, _⟩ := h
    rfl
  · obtain ⟨v, d, rfl, hd, q⟩ := h
    refine ⟨_, pss_one (ps_ret (pe_and (pe_callB call_isi (by rfl) T.mIsi (by decide +kernel) (pa_cons (pv 0) (pa_cons (pe_bltn (v := .ty "int") (by rfl) T.mInt (by decide +kernel) rfl) pa_nil)))
      (pe_one (pe_not (pe_callB call_isi (by rfl) T.mIsi (by decide +kernel) (pa_cons (pv 0) (pa_cons (pe_bltn (v := .ty "bool") (by rfl) T.mBool (by decide +kernel) rfl) pa_nil))))))), ?_⟩
    refine ⟨_, rfl, v, _, _, _, _, rfl, .ty _, dp_ty hd, kit_ty (kit_int d), _, rfl, ?_⟩
    cases d with
    | none => exact q
    | str z => exact q
    | list ds => exact q
    | tuple ds => exact q
    | dict ds => exact q
    | int i => exact ⟨_, rfl, v, _, _, _, _, rfl, .ty _, dp_ty hd, kit_ty (kit_bool _), _, rfl, q⟩
    | bool i => exact ⟨_, rfl, v, _, _, _, _, rfl, .ty _, dp_ty hd, kit_ty (kit_bool _), _, rfl, q⟩
def spIsNumber (K : PySem.W.Frag) : Sp := fun vs H Q _ => ∃ (v : V) (d : PyData), vs = [v] ∧ Dp K H v d ∧ Q (.bl (numD d)) H
theorem scIsNumber : FnScope ["value"] ["value"] (defScope sIsNumber) := ⟨rfl, rfl, rfl, by decide +kernel, rfl, by decide +kernel, by decide +kernel⟩
theorem TChk.okNumber (T : TChk K mg) : FnOk P w K mg base CX0 2 T.isNumber.f T.isNumber.fd ["value"] (spIsNumber K) := by
  refine T.isNumber.F.ok scIsNumber (fun vs H Q E h => ?_) (fun cdv A outer s H vs Q E hr h => ?_)
  · obtain ⟨v, d, rfl, _⟩ := h
    rfl
  · obtain ⟨v, d, rfl, hd, q⟩ := h
    refine ⟨_, pss_one (ps_ret (pe_and (pe_call T.okInteger hr rfl T.isInteger.m T.isInteger.F.kp T.isInteger.b .nil pass0 (pa_cons (pv 0) pa_nil)) (pe_one (pe_cmpR op_ge (pv 0) pe_int (nomark _))))), ?_⟩
    refine ⟨_, rfl, v, d, rfl, hd, _, rfl, ?_⟩
    cases d with
    | none => exact q
    | str z => exact q
    | list ds => exact q
    | tuple ds => exact q
    | dict ds => exact q
    | bool i => exact q
    | int i =>
      cases hd
      exact ⟨_, rfl, _, _, rfl, rfl, q⟩
def dlen : PyData → Prop
  | .str z => z.length ≤ 900
  | _ => True
def spIsName (K : PySem.W.Frag) : Sp := fun vs H Q _ => ∃ (v : V) (d : PyData), vs = [v] ∧ Dp K H v d ∧ dlen d ∧ ∀ H', Same H H' → Mo H H' → Q (.bl (nameD d)) H'
theorem scIsName : FnScope ["value", "letter"] ["value"] (defScope sIsName) := ⟨rfl, rfl, rfl, by decide +kernel, rfl, by decide +kernel, by decide +kernel⟩
theorem TChk.okName (T : TChk K mg) : FnOk P w K mg base CX0 1 T.isName.f T.isName.fd ["value"] (spIsName K) := by
  refine T.isName.F.ok scIsName (fun vs H Q E h => ?_) (fun cdv A outer s H vs Q E hr h => ?_)
  · obtain ⟨v, d, rfl, _⟩ := h
    rfl
  · obtain ⟨v, d, rfl, hd, hl, q⟩ := h
    refine ⟨_, pss_cons (ps_if (PW.pt (pw_or (pt_not (pt_val (pe_callB call_isi (by rfl) T.mIsi (by decide +kernel) (pa_cons (pv 0) (pa_cons (pe_bltn (v := .ty "str") (by rfl) T.mStr (by decide +kernel) rfl) pa_nil)))))
        (pw_or1 (pt_cmpR op_in_seq (pv 0) (pe_glob (v := .ref T.words) (by rfl) T.mWords rfl) rfl)))) (pss_one (ps_ret pe_bl)) pss_nil)
      (pss_one (ps_ret (pe_and (pe_chain op_le op_le pe_int (pe_callB call_len_str (by rfl) T.mLen PySem.boot_len (pa_cons (pv 0) pa_nil)) (pe_glob (v := .int 4) (by rfl) T.mLong ⟨_, rfl⟩))
        (pe_one (pe_callB (cr_all rfl) (by rfl) T.mAll (by decide +kernel) (pa_cons (pe_lc (own := [("letter", 1)]) (g := gName 1) (tt := tYes) (by rfl) scIsName.nd (pi_str (pv 0))
          (blkOk_by (N := ["value", "letter"]) (sc := defScope sIsName) (by decide +kernel)) (fun _ _ _ _ _ => pg_name (i := 1) scIsName.nd rfl (Or.inl rfl)) (fun _ _ _ _ _ => pts_nil)
          (fun _ _ _ _ _ => pe_chain op_le_str op_le_str pe_str (pv 1) pe_str)) pa_nil)))))), ?_⟩
    refine ⟨_, rfl, v, _, _, _, _, rfl, .ty _, dp_ty hd, kit_ty (kit_str d), _, rfl, ?_⟩
    cases d with
    | str z =>
      cases hd
      refine ⟨_, rfl, T.words, rowV, rfl, .inr (T.hWords H), rfl, rfl, _, rfl, ?_⟩
      have hl' : z.length ≤ 900 := hl
      cases e : inV (.str z) rowV with
      | true =>
        have e2 : nameD (.str z) = false := by show nameS z = false; unfold nameS; rw [e]; rfl
        rw [e2] at q
        refine iteT ?_
        exact q H (Same.refl H) (Mo.refl H)
      | false =>
        refine iteF ?_
        refine ⟨_, rfl, z, rfl, Nat.le_trans hl' (by decide), _, _, rfl, rfl, _, rfl, ?_⟩
        have e2 : nameD (.str z) = ((decide (1 ≤ (z.length : Int)) && decide ((z.length : Int) ≤ 4)) && z.cps.toList.all lok) := by show nameS z = _; unfold nameS; rw [e]; rfl
        rw [e2] at q
        cases h1 : decide (1 ≤ (z.length : Int)) with
        | false =>
          rw [h1] at q
          refine iteF ?_
          exact ⟨false, rfl, iteF (q H (Same.refl H) (Mo.refl H))⟩
        | true =>
          rw [h1] at q
          refine iteT ?_
          refine ⟨_, _, rfl, rfl, _, rfl, ?_⟩
          cases h2 : decide ((z.length : Int) ≤ 4) with
          | false =>
            rw [h2] at q
            exact iteF (q H (Same.refl H) (Mo.refl H))
          | true =>
            rw [h2] at q
            refine iteT ?_
            refine ⟨_, rfl, z, rfl, fun D hD => lc_it walk_str (fun i Hi => Hi = upd H D (.lst ((List.range i).map fun j => .bl (lok (z.cps.toList.getD j 0))))) rfl (fun _ _ _ _ => trivial) (fun i x Hi Hj hi hP hY => ?_) (fun Hi hP => ?_)⟩
            · obtain ⟨rfl, c, hc, rfl⟩ := hY
              subst hP
              have hi2 : i < 1000 := by
                have : z.cps.size = z.length := rfl
                omega
              have hg : z.cps.toList.getD i 0 = c := by
                rw [List.getD_eq_getElem?_getD, Array.getElem?_toList, hc]
                rfl
              have fin := lc_step (H1 := H) (D := D) (f := fun j => .bl (lok (z.cps.toList.getD j 0))) (i := i) hi2
              rw [hg, ← lok_eq] at fin
              refine ⟨rfl, _, rfl, _, _, rfl, rfl, _, rfl, ?_⟩
              cases h3 : (!decide ([c] < [97])) with
              | false =>
                have h4 : (!decide (({ cps := #[c] } : Str).cps.toList < (Str.ofString "a").cps.toList)) = false := h3
                rw [h3] at fin
                rw [h4]
                exact fin
              | true =>
                have h4 : (!decide (({ cps := #[c] } : Str).cps.toList < (Str.ofString "a").cps.toList)) = true := h3
                rw [h3] at fin
                rw [h4]
                exact ⟨_, _, rfl, rfl, fin⟩
            · subst hP
              refine ⟨D, (List.range z.cps.size).map fun j => lok (z.cps.toList.getD j 0), rfl, ?_, ?_⟩
              · refine SqL.of ?_
                rw [upd_same, List.map_map]
                rfl
              · have e3 := range_getD (f := lok) z.cps.toList
                rw [Array.length_toList] at e3
                rw [e3]
                exact q _ (Same.new hD) Mo.upd
    | none => exact q H (Same.refl H) (Mo.refl H)
    | list ds => exact q H (Same.refl H) (Mo.refl H)
    | tuple ds => exact q H (Same.refl H) (Mo.refl H)
    | dict ds => exact q H (Same.refl H) (Mo.refl H)
    | int i => exact q H (Same.refl H) (Mo.refl H)
    | bool i => exact q H (Same.refl H) (Mo.refl H)
end
end Pn

namespace Pn
open PySem L2
theorem iteTD {c : Bool} {A B : Prop} (hc : c = true) (h : A) : if c = true then A else B := by
  rw [if_pos hc]
  exact h
theorem iteFD {c : Bool} {A B : Prop} (hc : c = false) (h : B) : if c = true then A else B := by
  rw [hc, if_neg Bool.false_ne_true]
  exact h
/-! ### own exceptions that keep one thing -/
theorem same_made {H1 : Hp} {a d : Addr} {y : V} {f : Str} {o1 o2 o3 : HO} (ha : H1 a = none) (hd : H1 d = none) : Same H1 (upd (del (upd (upd (upd H1 a o1) d o2) a o3) a) d (.xd [(f, y)])) := fun b o e => by
  have n1 : b ≠ a := ne_of_none e ha
  have n2 : b ≠ d := ne_of_none e hd
  rw [upd_ne n2, del_ne n1, upd_ne n1, upd_ne n2, upd_ne n1]
  exact e
/-- an own exception class of the text whose __init__ keeps one thing under the name fld -/
structure TExc (K : PySem.W.Frag) (mg : Str → Option Value) (x : Str) (qual fld : Str) (st : Stmt) : Type where
  C : Addr
  fI : Addr
  fd : FuncData
  F : Fun K "__init__" qual st fI fd
  b : Binds K fd ["self", fld] []
  m : mg x = some (.ref C)
  O : OexC K C
  iC : PySem.W.findIn K (.ref C) "__init__" = some (some (.ref fI))
  tI : PySem.W.typeIn K (.ref fI) = some (.type "function")
  noF : PySem.W.findIn K (.ref C) fld = some none
  E : ExcC K C
  isC : PySem.W.isClsIn K C = true
  te : PySem.W.exmOne K (.ref C) (.ref C) = some true
  xf : XfC K C
def spXInit (K : PySem.W.Frag) (fld : Str) : Sp := fun vs H Q _ => ∃ (a C : Addr) (v : V), vs = [.ref a, v] ∧ H a = some (exo a C none) ∧ OexC K C ∧ PySem.W.findIn K (.ref C) fld = some none ∧
  ∀ dx, H dx = none → dx ≠ a → Q .non (upd (upd H dx (exd dx [(fld, v)])) a (exo a C (some dx)))
end Pn

namespace Pn
open PySem PySem.Spec PyProof.Rows L2
/-! ### the same exceptions, with what is known of their context -/
section
variable {X : Cx} {CX : CXT} {C fI : Addr} {k : Nat} {fd : FuncData} {ps : List Str} {sp : Sp} {ta : TA}
theorem pmk_oexN {x : Str} {e : Expr} {es : List Expr} {p pos : Pos} (T : OexC X.K C) (iC : PySem.W.findIn X.K (.ref C) "__init__" = some (some (.ref fI))) (tI : PySem.W.typeIn X.K (.ref fI) = some (.type "function"))
    (F1 : FnOk X.prog X.w X.K X.mg X.base CX k fI fd ps sp) (room : Room (k + 1) X.A) (bnd : Binds X.K fd ps []) (noE : Passes CX X (fun _ _ _ => False))
    (gl : Gl X x) (at_ : X.mg x = some (.ref C)) (ha : PA X (e :: es) ta) (hdb : (x == ("__debug__" : Str)) = false := by decide)
    (he : starEach (e :: es) X.env = (false, eval e X.env) :: starEach es X.env := by rfl) (hpl : (backTo pos (starEach es X.env)).any (·.1) = false := by rfl) :
    L2N.PMk X (.Call (.Name x p) (e :: es) [] pos) (tMkO C sp [] ta) := by
  intro pins s σ H Q I want
  rcases T.cls with ⟨c1, c2, c3, c4, mro, c5, c6, c7, c8, c9, d0, d1, d2, d3, d5, look, vet⟩
  apply wpAny_Call_Name_kw
  refine ld_glob I gl at_ ?_ hdb
  refine PySem.W.callWith_K (h₀ := X.base) I.ok.mod.kin T.kC ?_ he hpl
  refine thn (ha.run pos pins s σ H _ I want) ?_
  rintro us ⟨hp, gs, dr, tk, os⟩ ⟨vs, H1, J, rel, few, made⟩
  refine ⟨J.kIn, ?_⟩
  let a := hp.objs.size + 1
  let hp2 := (hp.push (PySem.W.kdv_tup us)).push (PySem.HandSPX.excO C hp.objs.size)
  have old : ∀ b o, hp.get? b = some o → hp2.get? b = some o := fun b o z => Heap.get?_push_of_some _ (Heap.get?_push_of_some _ z)
  have fresh : H1 a = none := J.hok.fresh (Nat.le_succ _)
  have there : hp2.get? a = some (PySem.HandSPX.excO C hp.objs.size) := by
    show ((hp.push (PySem.W.kdv_tup us)).push (PySem.HandSPX.excO C hp.objs.size)).get? (hp.objs.size + 1) = _
    heap_get
  have J2 : Inv X pins σ (upd H1 a (exo a C none)) ⟨hp2, gs, dr, tk, os⟩ := J.laid (t' := tk) (a := a) (o := exo a C none) (h' := hp2) old (Nat.le_succ _) (exo_ok there)
  have go := made a fresh
  rw [List.append_nil] at go
  have rel2 : Vals (V.ref a :: vs) (Value.ref a :: us) := .cons (show RelV (.ref a) (Value.ref a) from rfl) rel
  have cnt : (Value.ref a :: us ++ []).length = ps.length := by
    rw [List.append_nil, ← rel2.length]
    exact F1.len _ _ _ _ go
  have bd := bnd ⟨hp2, gs, dr, tk, os⟩ (Value.ref a :: us) J2.kIn cnt
  rw [List.append_nil] at bd
  have lim : us.length ≤ sizeLine := by
    rw [← Paired.length rel, sizeLine_eq]
    omega
  show wpAny _ _ (call (.ref C) us) _ _ _
  refine wpAny_call (PySem.HandSPX.call_own F.excBase_ValueError (fun Y => PySem.HandSPX.refsVE_contains Y mro vet) (J.kIn _ _ look) (PySem.W.looks_findIn J.kIn iC)
    (fun self => PySem.W.bind_fn J.kIn self tI) lim ?_)
  have ran := F1.run _ X.stack _ _ ⟨Value.ref a :: us, []⟩ (Value.ref a :: us) _ _ (fun _ _ _ => False) (room.make C us []) (J2.env0.make C us []) bd rel2 go
  refine codeAny_mono ran ?_
  intro r s' out
  match r, out with
  | .error er, out => exact noE pins σ _ _ er s' J2 out
  | .ok .next, out => exact False.elim out
  | .ok .brk, out => exact False.elim out
  | .ok .cont, out => exact False.elim out
  | .ok (.ret u), out =>
    obtain ⟨v, H2, osame, bare, un, ok2, rv, rfl, d, fs, ea, ed, dn, fin⟩ := out
    obtain ⟨h2, g2, dr2, t2, os2⟩ := s'
    obtain ⟨t0, G, J3, sub, gone, obj, untr⟩ := mk_end0 (d2 := dr2) (t2 := t2) J (Nat.le_succ _) old un ok2 osame bare ea ed dn
    exact ⟨rv, a, _, _, ⟨G, g2, dr2, t2, os2⟩, _, .ref C, some d, rfl, J3, sub, gone, obj, ⟨rfl, rfl, fun ws z => by cases z; rfl⟩, rfl, rfl, untr, rfl, bare, raises_own T.exC T.tyC, fin⟩
end
section
variable {P : Program} {w : World} {K : PySem.W.Frag} {mg : Str → Option Value} {base : Heap}
theorem funD {x qual : Str} {st : Stmt} {f : Addr} {fd : FuncData} (F : Fun K x qual st f fd) : FunD K x qual (defArgs st) (defBody st) (defScope st) [] [] f fd := by
  obtain ⟨oc, od, kV, doc, pm, an, cdv, ct, osl, e, l, c⟩ := F.ex
  exact ⟨⟨oc, od, _, kV, doc, pm, an, cdv, ct, osl, e, l, c, .inl ⟨rfl, rfl⟩, .inl rfl⟩, F.kp⟩
end
end Pn

namespace Pn
open PySem L2
abbrev sNeedName : Stmt := top 28
abbrev sIRInit : Stmt := inClass (top 11) 0
section
variable {P : Program} {w : World} {K : PySem.W.Frag} {mg : Str → Option Value} {base : Heap}
theorem scIRInit : FnScope ["self", "word"] ["self", "word"] (defScope sIRInit) := ⟨rfl, rfl, rfl, by decide +kernel, rfl, by decide +kernel, by decide +kernel⟩
abbrev TIR (K : PySem.W.Frag) (mg : Str → Option Value) := TExc K mg "InvalidRow" "InvalidRow.__init__" "word" sIRInit
theorem okIRInit (T : TIR K mg) : FnOk P w K mg base CX0 1 T.fI T.fd ["self", "word"] (spXInit K "word") := by
  refine T.F.ok scIRInit (fun vs H Q E h => ?_) (fun cdv A outer s H vs Q E hr h => ?_)
  · obtain ⟨a, C, v, rfl, _⟩ := h
    rfl
  · obtain ⟨a, C, v, rfl, ha, O, no, q⟩ := h
    refine ⟨_, pss_one (ps_ost (pv 0) (pv 1)), ?_⟩
    exact ⟨_, rfl, _, rfl, a, C, rfl, O, no, .inl ⟨ha, fun dx h1 h2 => q dx h1 h2⟩⟩
/-- InvalidRow(wd) leaves the def -/
def RaiseW (C : Addr) (H : Hp) (E : XK) (wd : V) : Prop := ∀ (e : Addr) (H' : Hp), Same H H' → Mo H H' → H e = none → H' e = some (.xd [("word", wd)]) → E (.ref C) (some e) H'
theorem RaiseW.back {C : Addr} {H H1 : Hp} {E : XK} {wd : V} (h : RaiseW C H E wd) (s : Same H H1) (m : Mo H H1) : RaiseW C H1 E wd := fun e H' h1 h2 h3 h4 => h e H' (s.trans h1) (m.trans h2) (m e h3) h4
def spNeed (K : PySem.W.Frag) (C : Addr) : Sp := fun vs H Q E => ∃ (v wd : V) (d : PyData), vs = [v, wd] ∧ Dp K H v d ∧ dlen d ∧ (nameD d = true → ∀ H', Same H H' → Mo H H' → Q .non H') ∧ (nameD d = false → RaiseW C H E wd)
structure TNeed (K : PySem.W.Frag) (mg : Str → Option Value) : Type extends TChk K mg where
  IR : TIR K mg
  need : At K mg "need_name" sNeedName ["value", "word"]
theorem scNeed : FnScope ["value", "word"] ["value", "word"] (defScope sNeedName) := ⟨rfl, rfl, rfl, by decide +kernel, rfl, by decide +kernel, by decide +kernel⟩
/-- a new exception of InvalidRow, as its making leaves it -/
theorem ir_made {C : Addr} {H H1 : Hp} {E : XK} {wd : V} (s : Same H H1) (m : Mo H H1) (h : RaiseW C H E wd) {a : Addr} (ha : H1 a = none) (dx : Addr) (h1 : (upd H1 a (exo a C none)) dx = none) (h2 : dx ≠ a) :
    E (.ref C) (some dx) (upd (del (upd (upd (upd H1 a (exo a C none)) dx (exd dx [("word", wd)])) a (exo a C (some dx))) a) dx (.xd [("word", wd)])) := by
  have hd : H1 dx = none := by rw [upd_ne h2] at h1; exact h1
  refine h dx _ (s.trans (same_made ha hd)) (m.trans fun b e => ?_) (m dx hd) upd_same
  by_cases n2 : b = dx
  · rw [n2]; exact hd
  · by_cases n1 : b = a
    · rw [n1]; exact ha
    · rw [upd_ne n2, del_ne n1, upd_ne n1, upd_ne n2, upd_ne n1] at e
      exact e
theorem okNeed (T : TNeed K mg) : FnOk P w K mg base (L2N.CX P w) 3 T.need.f T.need.fd ["value", "word"] (spNeed K T.IR.C) := by
  refine (funD T.need.F).ok scNeed (fun vs H Q E h => ?_) (fun cdv A outer s H vs Q E hr h => ?_)
  · obtain ⟨v, wd, d, rfl, _⟩ := h
    rfl
  · obtain ⟨v, wd, d, rfl, hd, hl, q1, q2⟩ := h
    refine ⟨_, pss_one (ps_if (pt_not (pt_val (pe_call (T.okName) (hr.mono (by decide)) rfl T.isName.m T.isName.F.kp T.isName.b .nil pass0 (pa_cons (pv 0) pa_nil))))
      (pss_one (L2N.ps_raise rfl (L2N.takes_of rfl rfl rfl rfl) (pmk_oexN T.IR.O T.IR.iC T.IR.tI (okIRInit T.IR) (hr.mono (by decide)) T.IR.b pass0 rfl T.IR.m (pa_cons (pv 1) pa_nil)))) pss_nil), ?_⟩
    refine ⟨_, rfl, v, d, rfl, hd, hl, fun H1 hs hm => ?_⟩
    cases hn : nameD d with
    | true => exact ⟨true, rfl, iteF (q1 hn H1 hs hm)⟩
    | false =>
      refine ⟨false, rfl, iteT ?_⟩
      refine ⟨_, rfl, (by show 1 ≤ 1000; decide), fun a ha => ⟨a, T.IR.C, wd, rfl, upd_same, T.IR.O, T.IR.noF, fun dx h1 h2 => ?_⟩⟩
      have hd1 : H1 dx = none := by rw [upd_ne h2] at h1; exact h1
      exact ⟨rfl, dx, _, upd_same, by rw [upd_ne h2, upd_same], hd1, ir_made hs hm (q2 hn) ha dx h1 h2⟩
/-- an own class with an __init__ -/
structure TCls (K : PySem.W.Frag) (mg : Str → Option Value) (x qual : Str) (st : Stmt) (ps : List Str) : Type where
  C : Addr
  fI : Addr
  fd : FuncData
  F : Fun K "__init__" qual st fI fd
  b : Binds K fd ps []
  m : mg x = some (.ref C)
  M : Mk K C fI
  cl : Cls K C
  noW : NoAttr K C "word"
theorem small2 {f g : Str} {v u : V} : (putF g u (putF f v ([] : List (Str × V)))).length < 1000 := by
  unfold putF putF
  simp only
  split
  · show 1 < 1000
    decide
  · show 2 < 1000
    decide
/-- all but the new instance is as it was -/
def KpI (x : Addr) (H H' : Hp) : Prop := ∀ b o, H b = some o → b ≠ x → H' b = some o
/-! ### Keep -/
abbrev sKeepInit : Stmt := inClass (top 32) 0
theorem scKeepInit : FnScope ["self", "counter"] ["self", "counter"] (defScope sKeepInit) := ⟨rfl, rfl, rfl, by decide +kernel, rfl, by decide +kernel, by decide +kernel⟩
structure TKeep (K : PySem.W.Frag) (mg : Str → Option Value) : Type extends TCls K mg "Keep" "Keep.__init__" sKeepInit ["self", "counter"] where
  noF : NoAttr K C "counter"
def insKeep (C dx : Addr) (v : V) : HO := .ins C dx (putF "counter" v (putF "word" (.str "keep") []))
def spKeepInit (K : PySem.W.Frag) (C CR : Addr) : Sp := fun vs H Q E => ∃ (x dx : Addr) (v : V) (d : PyData), vs = [.ref x, v] ∧ H x = some (.ins C dx []) ∧ Dp K H v d ∧ dlen d ∧
  (nameD d = true → ∀ H', KpI x H H' → Mo H H' → H' x = some (insKeep C dx v) → Q .non H') ∧ (nameD d = false → RaiseW CR H E (.str "counter"))
theorem okKeepInit (T : TKeep K mg) (N : TNeed K mg) : FnOk P w K mg base (L2N.CX P w) 4 T.fI T.fd ["self", "counter"] (spKeepInit K T.C N.IR.C) := by
  refine (funD T.F).ok scKeepInit (fun vs H Q E h => ?_) (fun cdv A outer s H vs Q E hr h => ?_)
  · obtain ⟨x, dx, v, d, rfl, _⟩ := h
    rfl
  · obtain ⟨x, dx, v, d, rfl, hx, hd, hl, q1, q2⟩ := h
    refine ⟨_, pss_cons (ps_expr (pe_callS (okNeed N) hr rfl N.need.m N.need.F.kp N.need.b (fun σ => L2N.passAt (L2N.takes_of rfl rfl rfl rfl) σ) (pa_cons (pv 1) (pa_cons pe_str pa_nil))))
      (pss_cons (ps_fld (pv 0) pe_str rfl) (pss_one (ps_fld (pv 0) (pv 1) rfl))), ?_⟩
    refine ⟨_, rfl, v, _, d, rfl, hd, hl, fun hn H1 hs hm => ?_, fun hn => q2 hn⟩
    refine ⟨_, rfl, x, T.C, dx, [], rfl, hs x _ hx, T.cl, T.noW, (by show 0 < 1000; decide), _, rfl, _, rfl, x, T.C, dx, _, rfl, upd_same, T.cl, T.noF, (by show 1 < 1000; decide), ?_⟩
    refine q1 hn _ (fun b o e n => ?_) (hm.trans (Mo.upd.trans Mo.upd)) upd_same
    rw [upd_ne n, upd_ne n]
    exact hs b o e
/-! ### Back -/
abbrev sBackInit : Stmt := inClass (top 33) 0
theorem scBackInit : FnScope ["self", "counter"] ["self", "counter"] (defScope sBackInit) := ⟨rfl, rfl, rfl, by decide +kernel, rfl, by decide +kernel, by decide +kernel⟩
structure TBack (K : PySem.W.Frag) (mg : Str → Option Value) : Type extends TCls K mg "Back" "Back.__init__" sBackInit ["self", "counter"] where
  noF : NoAttr K C "counter"
def insBack (C dx : Addr) (v : V) : HO := .ins C dx (putF "counter" v (putF "word" (.str "back") []))
def spBackInit (K : PySem.W.Frag) (C CR : Addr) : Sp := fun vs H Q E => ∃ (x dx : Addr) (v : V) (d : PyData), vs = [.ref x, v] ∧ H x = some (.ins C dx []) ∧ Dp K H v d ∧ dlen d ∧
  (nameD d = true → ∀ H', KpI x H H' → Mo H H' → H' x = some (insBack C dx v) → Q .non H') ∧ (nameD d = false → RaiseW CR H E (.str "counter"))
theorem okBackInit (T : TBack K mg) (N : TNeed K mg) : FnOk P w K mg base (L2N.CX P w) 4 T.fI T.fd ["self", "counter"] (spBackInit K T.C N.IR.C) := by
  refine (funD T.F).ok scBackInit (fun vs H Q E h => ?_) (fun cdv A outer s H vs Q E hr h => ?_)
  · obtain ⟨x, dx, v, d, rfl, _⟩ := h
    rfl
  · obtain ⟨x, dx, v, d, rfl, hx, hd, hl, q1, q2⟩ := h
    refine ⟨_, pss_cons (ps_expr (pe_callS (okNeed N) hr rfl N.need.m N.need.F.kp N.need.b (fun σ => L2N.passAt (L2N.takes_of rfl rfl rfl rfl) σ) (pa_cons (pv 1) (pa_cons pe_str pa_nil))))
      (pss_cons (ps_fld (pv 0) pe_str rfl) (pss_one (ps_fld (pv 0) (pv 1) rfl))), ?_⟩
    refine ⟨_, rfl, v, _, d, rfl, hd, hl, fun hn H1 hs hm => ?_, fun hn => q2 hn⟩
    refine ⟨_, rfl, x, T.C, dx, [], rfl, hs x _ hx, T.cl, T.noW, (by show 0 < 1000; decide), _, rfl, _, rfl, x, T.C, dx, _, rfl, upd_same, T.cl, T.noF, (by show 1 < 1000; decide), ?_⟩
    refine q1 hn _ (fun b o e n => ?_) (hm.trans (Mo.upd.trans Mo.upd)) upd_same
    rw [upd_ne n, upd_ne n]
    exact hs b o e
/-! ### Ref -/
abbrev sRefInit : Stmt := inClass (top 34) 0
theorem scRefInit : FnScope ["self", "label"] ["self", "label"] (defScope sRefInit) := ⟨rfl, rfl, rfl, by decide +kernel, rfl, by decide +kernel, by decide +kernel⟩
structure TRef (K : PySem.W.Frag) (mg : Str → Option Value) : Type extends TCls K mg "Ref" "Ref.__init__" sRefInit ["self", "label"] where
  noF : NoAttr K C "label"
def insRef (C dx : Addr) (v : V) : HO := .ins C dx (putF "label" v (putF "word" (.str "ref") []))
def spRefInit (K : PySem.W.Frag) (C CR : Addr) : Sp := fun vs H Q E => ∃ (x dx : Addr) (v : V) (d : PyData), vs = [.ref x, v] ∧ H x = some (.ins C dx []) ∧ Dp K H v d ∧ dlen d ∧
  (nameD d = true → ∀ H', KpI x H H' → Mo H H' → H' x = some (insRef C dx v) → Q .non H') ∧ (nameD d = false → RaiseW CR H E (.str "label"))
theorem okRefInit (T : TRef K mg) (N : TNeed K mg) : FnOk P w K mg base (L2N.CX P w) 4 T.fI T.fd ["self", "label"] (spRefInit K T.C N.IR.C) := by
  refine (funD T.F).ok scRefInit (fun vs H Q E h => ?_) (fun cdv A outer s H vs Q E hr h => ?_)
  · obtain ⟨x, dx, v, d, rfl, _⟩ := h
    rfl
  · obtain ⟨x, dx, v, d, rfl, hx, hd, hl, q1, q2⟩ := h
    refine ⟨_, pss_cons (ps_expr (pe_callS (okNeed N) hr rfl N.need.m N.need.F.kp N.need.b (fun σ => L2N.passAt (L2N.takes_of rfl rfl rfl rfl) σ) (pa_cons (pv 1) (pa_cons pe_str pa_nil))))
      (pss_cons (ps_fld (pv 0) pe_str rfl) (pss_one (ps_fld (pv 0) (pv 1) rfl))), ?_⟩
    refine ⟨_, rfl, v, _, d, rfl, hd, hl, fun hn H1 hs hm => ?_, fun hn => q2 hn⟩
    refine ⟨_, rfl, x, T.C, dx, [], rfl, hs x _ hx, T.cl, T.noW, (by show 0 < 1000; decide), _, rfl, _, rfl, x, T.C, dx, _, rfl, upd_same, T.cl, T.noF, (by show 1 < 1000; decide), ?_⟩
    refine q1 hn _ (fun b o e n => ?_) (hm.trans (Mo.upd.trans Mo.upd)) upd_same
    rw [upd_ne n, upd_ne n]
    exact hs b o e
/-! ### Put -/
abbrev sPutInit : Stmt := inClass (top 35) 0
theorem scPutInit : FnScope ["self", "part"] ["self", "part"] (defScope sPutInit) := ⟨rfl, rfl, rfl, by decide +kernel, rfl, by decide +kernel, by decide +kernel⟩
structure TPut (K : PySem.W.Frag) (mg : Str → Option Value) : Type extends TCls K mg "Put" "Put.__init__" sPutInit ["self", "part"] where
  noF : NoAttr K C "part"
def insPut (C dx : Addr) (v : V) : HO := .ins C dx (putF "part" v (putF "word" (.str "put") []))
def spPutInit (K : PySem.W.Frag) (C CR : Addr) : Sp := fun vs H Q E => ∃ (x dx : Addr) (v : V) (d : PyData), vs = [.ref x, v] ∧ H x = some (.ins C dx []) ∧ Dp K H v d ∧ dlen d ∧
  (nameD d = true → ∀ H', KpI x H H' → Mo H H' → H' x = some (insPut C dx v) → Q .non H') ∧ (nameD d = false → RaiseW CR H E (.str "part"))
theorem okPutInit (T : TPut K mg) (N : TNeed K mg) : FnOk P w K mg base (L2N.CX P w) 4 T.fI T.fd ["self", "part"] (spPutInit K T.C N.IR.C) := by
  refine (funD T.F).ok scPutInit (fun vs H Q E h => ?_) (fun cdv A outer s H vs Q E hr h => ?_)
  · obtain ⟨x, dx, v, d, rfl, _⟩ := h
    rfl
  · obtain ⟨x, dx, v, d, rfl, hx, hd, hl, q1, q2⟩ := h
    refine ⟨_, pss_cons (ps_expr (pe_callS (okNeed N) hr rfl N.need.m N.need.F.kp N.need.b (fun σ => L2N.passAt (L2N.takes_of rfl rfl rfl rfl) σ) (pa_cons (pv 1) (pa_cons pe_str pa_nil))))
      (pss_cons (ps_fld (pv 0) pe_str rfl) (pss_one (ps_fld (pv 0) (pv 1) rfl))), ?_⟩
    refine ⟨_, rfl, v, _, d, rfl, hd, hl, fun hn H1 hs hm => ?_, fun hn => q2 hn⟩
    refine ⟨_, rfl, x, T.C, dx, [], rfl, hs x _ hx, T.cl, T.noW, (by show 0 < 1000; decide), _, rfl, _, rfl, x, T.C, dx, _, rfl, upd_same, T.cl, T.noF, (by show 1 < 1000; decide), ?_⟩
    refine q1 hn _ (fun b o e n => ?_) (hm.trans (Mo.upd.trans Mo.upd)) upd_same
    rw [upd_ne n, upd_ne n]
    exact hs b o e
/-! ### Open -/
abbrev sOpenInit : Stmt := inClass (top 36) 0
theorem scOpenInit : FnScope ["self", "name"] ["self", "name"] (defScope sOpenInit) := ⟨rfl, rfl, rfl, by decide +kernel, rfl, by decide +kernel, by decide +kernel⟩
structure TOpen (K : PySem.W.Frag) (mg : Str → Option Value) : Type extends TCls K mg "Open" "Open.__init__" sOpenInit ["self", "name"] where
  noF : NoAttr K C "name"
def insOpen (C dx : Addr) (v : V) : HO := .ins C dx (putF "name" v (putF "word" (.str "open") []))
def spOpenInit (K : PySem.W.Frag) (C CR : Addr) : Sp := fun vs H Q E => ∃ (x dx : Addr) (v : V) (d : PyData), vs = [.ref x, v] ∧ H x = some (.ins C dx []) ∧ Dp K H v d ∧ dlen d ∧
  (nameD d = true → ∀ H', KpI x H H' → Mo H H' → H' x = some (insOpen C dx v) → Q .non H') ∧ (nameD d = false → RaiseW CR H E (.str "name"))
theorem okOpenInit (T : TOpen K mg) (N : TNeed K mg) : FnOk P w K mg base (L2N.CX P w) 4 T.fI T.fd ["self", "name"] (spOpenInit K T.C N.IR.C) := by
  refine (funD T.F).ok scOpenInit (fun vs H Q E h => ?_) (fun cdv A outer s H vs Q E hr h => ?_)
  · obtain ⟨x, dx, v, d, rfl, _⟩ := h
    rfl
  · obtain ⟨x, dx, v, d, rfl, hx, hd, hl, q1, q2⟩ := h
    refine ⟨_, pss_cons (ps_expr (pe_callS (okNeed N) hr rfl N.need.m N.need.F.kp N.need.b (fun σ => L2N.passAt (L2N.takes_of rfl rfl rfl rfl) σ) (pa_cons (pv 1) (pa_cons pe_str pa_nil))))
      (pss_cons (ps_fld (pv 0) pe_str rfl) (pss_one (ps_fld (pv 0) (pv 1) rfl))), ?_⟩
    refine ⟨_, rfl, v, _, d, rfl, hd, hl, fun hn H1 hs hm => ?_, fun hn => q2 hn⟩
    refine ⟨_, rfl, x, T.C, dx, [], rfl, hs x _ hx, T.cl, T.noW, (by show 0 < 1000; decide), _, rfl, _, rfl, x, T.C, dx, _, rfl, upd_same, T.cl, T.noF, (by show 1 < 1000; decide), ?_⟩
    refine q1 hn _ (fun b o e n => ?_) (hm.trans (Mo.upd.trans Mo.upd)) upd_same
    rw [upd_ne n, upd_ne n]
    exact hs b o e
/-! ### Note, Skip, Set -/
abbrev sNoteInit : Stmt := inClass (top 29) 0
theorem scNoteInit : FnScope ["self", "counter", "label"] ["self", "counter", "label"] (defScope sNoteInit) := ⟨rfl, rfl, rfl, by decide +kernel, rfl, by decide +kernel, by decide +kernel⟩
structure TNote (K : PySem.W.Frag) (mg : Str → Option Value) : Type where
  C : Addr
  fI : Addr
  fd : FuncData
  F : FunD K "__init__" "Note.__init__" (defArgs sNoteInit) (defBody sNoteInit) (defScope sNoteInit) [.str ""] [] fI fd
  b : Binds K fd ["self", "counter", "label"] []
  m : mg "Note" = some (.ref C)
  M : Mk K C fI
  cl : Cls K C
  noW : NoAttr K C "word"
  noC : NoAttr K C "counter"
  noL : NoAttr K C "label"
def insNote (C dx : Addr) (v u : V) : HO := .ins C dx (putF "label" u (putF "counter" v (putF "word" (.str "note") [])))
/-- the label of a note -/
def labD (d : PyData) : Bool := PyData.eqv d (.str "") || nameD d
def spNoteInit (K : PySem.W.Frag) (C CR : Addr) : Sp := fun vs H Q E => ∃ (x dx : Addr) (v u : V) (d e : PyData), vs = [.ref x, v, u] ∧ H x = some (.ins C dx []) ∧ Dp K H v d ∧ dlen d ∧ Dp K H u e ∧ dlen e ∧ SeqAt.shaped e = true ∧
  (nameD d = true → labD e = true → ∀ H', KpI x H H' → Mo H H' → H' x = some (insNote C dx v u) → Q .non H') ∧ (nameD d = false → RaiseW CR H E (.str "counter")) ∧ (nameD d = true → labD e = false → RaiseW CR H E (.str "label"))
theorem okNoteInit (T : TNote K mg) (N : TNeed K mg) : FnOk P w K mg base (L2N.CX P w) 4 T.fI T.fd ["self", "counter", "label"] (spNoteInit K T.C N.IR.C) := by
  refine T.F.ok scNoteInit (fun vs H Q E h => ?_) (fun cdv A outer s H vs Q E hr h => ?_)
  · obtain ⟨x, dx, v, u, d, e, rfl, _⟩ := h
    rfl
  · obtain ⟨x, dx, v, u, d, e, rfl, hx, hd, hl, he, hl2, hsh, q1, q2, q3⟩ := h
    refine ⟨_, pss_cons (ps_expr (pe_callS (okNeed N) hr rfl N.need.m N.need.F.kp N.need.b (fun σ => L2N.passAt (L2N.takes_of rfl rfl rfl rfl) σ) (pa_cons (pv 1) (pa_cons pe_str pa_nil))))
      (pss_cons (ps_if (pt_cmpR (op_neD hr.units) (pv 2) pe_str (nomark _)) (pss_one (ps_expr (pe_callS (okNeed N) hr rfl N.need.m N.need.F.kp N.need.b (fun σ => L2N.passAt (L2N.takes_of rfl rfl rfl rfl) σ) (pa_cons (pv 2) (pa_cons pe_str pa_nil))))) pss_nil)
      (pss_cons (ps_fld (pv 0) pe_str rfl) (pss_cons (ps_fld (pv 0) (pv 1) rfl) (pss_one (ps_fld (pv 0) (pv 2) rfl))))), ?_⟩
    refine ⟨_, rfl, v, _, d, rfl, hd, hl, fun hn H1 hs hm => ?_, fun hn => q2 hn⟩
    refine ⟨_, rfl, e, .str "", dp_same hs e u he, .str "", hsh, (by decide +kernel), _, rfl, ?_⟩
    have fin : ∀ (H2 : Hp) (o1 o2 : HO), labD e = true → Same H H2 → Mo H H2 → Q .non (upd (upd (upd H2 x o1) x o2) x (insNote T.C dx v u)) := fun H2 o1 o2 hlab hs2 hm2 => q1 hn hlab _ (fun b o eb n => by
      rw [upd_ne n, upd_ne n, upd_ne n]
      exact hs2 b o eb) (hm2.trans (Mo.upd.trans (Mo.upd.trans Mo.upd))) upd_same
    cases h1 : PyData.eqv e (.str "") with
    | true =>
      refine iteF ?_
      have hlab : labD e = true := by unfold labD; rw [h1]; rfl
      refine ⟨_, rfl, x, T.C, dx, [], rfl, hs x _ hx, T.cl, T.noW, (by show 0 < 1000; decide), _, rfl, _, rfl, x, T.C, dx, _, rfl, upd_same, T.cl, T.noC, (by show 1 < 1000; decide), _, rfl, _, rfl, x, T.C, dx, _, rfl, upd_same, T.cl, T.noL, ?_, ?_⟩
      · exact small2
      · exact fin H1 _ _ hlab hs hm
    | false =>
      refine iteT ?_
      refine ⟨_, rfl, u, _, e, rfl, dp_same hs e u he, hl2, fun hn2 H2 hs2 hm2 => ?_, fun hn2 => ?_⟩
      · have hlab : labD e = true := by unfold labD; rw [hn2, Bool.or_true]
        refine ⟨_, rfl, x, T.C, dx, [], rfl, hs2 x _ (hs x _ hx), T.cl, T.noW, (by show 0 < 1000; decide), _, rfl, _, rfl, x, T.C, dx, _, rfl, upd_same, T.cl, T.noC, (by show 1 < 1000; decide), _, rfl, _, rfl, x, T.C, dx, _, rfl, upd_same, T.cl, T.noL, ?_, ?_⟩
        · exact small2
        · exact fin H2 _ _ hlab (hs.trans hs2) (hm.trans hm2)
      · have hlab : labD e = false := by unfold labD; rw [h1, hn2]; rfl
        exact (q3 hn hlab).back hs hm
abbrev sSkipInit : Stmt := inClass (top 30) 0
theorem scSkipInit : FnScope ["self", "counter", "by"] ["self", "counter", "by"] (defScope sSkipInit) := ⟨rfl, rfl, rfl, by decide +kernel, rfl, by decide +kernel, by decide +kernel⟩
structure TSkip (K : PySem.W.Frag) (mg : Str → Option Value) : Type extends TCls K mg "Skip" "Skip.__init__" sSkipInit ["self", "counter", "by"] where
  noC : NoAttr K C "counter"
  noF : NoAttr K C "by"
def insSkip (C dx : Addr) (v u : V) : HO := .ins C dx (putF "by" u (putF "counter" v (putF "word" (.str "skip") [])))
def skipD (d : PyData) : Bool := numD d && (match d with | .int i => decide (i ≠ 0) | _ => false)
def spSkipInit (K : PySem.W.Frag) (C CR : Addr) : Sp := fun vs H Q E => ∃ (x dx : Addr) (v u : V) (d e : PyData), vs = [.ref x, v, u] ∧ H x = some (.ins C dx []) ∧ Dp K H v d ∧ dlen d ∧ Dp K H u e ∧
  (nameD d = true → skipD e = true → ∀ H', KpI x H H' → Mo H H' → H' x = some (insSkip C dx v u) → Q .non H') ∧ (nameD d = false → RaiseW CR H E (.str "counter")) ∧ (nameD d = true → skipD e = false → RaiseW CR H E (.str "by"))
theorem okSkipInit (T : TSkip K mg) (N : TNeed K mg) : FnOk P w K mg base (L2N.CX P w) 4 T.fI T.fd ["self", "counter", "by"] (spSkipInit K T.C N.IR.C) := by
  refine (funD T.F).ok scSkipInit (fun vs H Q E h => ?_) (fun cdv A outer s H vs Q E hr h => ?_)
  · obtain ⟨x, dx, v, u, d, e, rfl, _⟩ := h
    rfl
  · obtain ⟨x, dx, v, u, d, e, rfl, hx, hd, hl, he, q1, q2, q3⟩ := h
    refine ⟨_, pss_cons (ps_expr (pe_callS (okNeed N) hr rfl N.need.m N.need.F.kp N.need.b (fun σ => L2N.passAt (L2N.takes_of rfl rfl rfl rfl) σ) (pa_cons (pv 1) (pa_cons pe_str pa_nil))))
      (pss_cons (ps_if (PW.pt (pw_or (pt_not (pt_val (pe_call N.okNumber (hr.mono (by decide)) rfl N.isNumber.m N.isNumber.F.kp N.isNumber.b .nil pass0 (pa_cons (pv 2) pa_nil)))) (pw_or1 (pt_cmpR op_eq (pv 2) pe_int (nomark _)))))
        (pss_one (L2N.ps_raise rfl (L2N.takes_of rfl rfl rfl rfl) (pmk_oexN N.IR.O N.IR.iC N.IR.tI (okIRInit N.IR) (hr.mono (by decide)) N.IR.b pass0 rfl N.IR.m (pa_cons pe_str pa_nil)))) pss_nil)
      (pss_cons (ps_fld (pv 0) pe_str rfl) (pss_cons (ps_fld (pv 0) (pv 1) rfl) (pss_one (ps_fld (pv 0) (pv 2) rfl))))), ?_⟩
    refine ⟨_, rfl, v, _, d, rfl, hd, hl, fun hn H1 hs hm => ?_, fun hn => q2 hn⟩
    have he1 := dp_same hs e u he
    have raises : skipD e = false → ∀ a, H1 a = none → ∀ dx2, (upd H1 a (exo a N.IR.C none)) dx2 = none → dx2 ≠ a → _ := fun hf a ha dx2 h1 h2 => ir_made hs hm (q3 hn hf) ha dx2 h1 h2
    refine ⟨_, rfl, u, e, rfl, he1, ?_⟩
    cases h1 : numD e with
    | false =>
      have hg : skipD e = false := by unfold skipD; rw [h1]; rfl
      refine ⟨_, rfl, ?_⟩
      refine iteT ?_
      refine iteT ?_
      refine ⟨(by show 1 ≤ 1000; decide), fun a ha => ⟨a, N.IR.C, _, rfl, upd_same, N.IR.O, N.IR.noF, fun dx2 h1 h2 => ?_⟩⟩
      have hd1 : H1 dx2 = none := by rw [upd_ne h2] at h1; exact h1
      exact ⟨rfl, dx2, _, upd_same, by rw [upd_ne h2, upd_same], hd1, raises hg a ha dx2 h1 h2⟩
    | true =>
      refine ⟨_, rfl, ?_⟩
      refine iteF ?_
      obtain ⟨i, rfl⟩ : ∃ i : Int, e = .int i := by
        cases e <;> first | exact ⟨_, rfl⟩ | (exact absurd h1 (by decide)) | cases h1
      cases he1
      refine ⟨_, rfl, rfl, _, rfl, ?_⟩
      refine ite2 (fun hz => ?_) (fun hz => ?_)
      · have hz2 : V.int i = V.int 0 := of_decide_eq_true hz
        have hg : skipD (.int i) = false := by
          cases hz2
          rfl
        refine ⟨(by show 1 ≤ 1000; decide), fun a ha => ⟨a, N.IR.C, _, rfl, upd_same, N.IR.O, N.IR.noF, fun dx2 h1 h2 => ?_⟩⟩
        have hd1 : H1 dx2 = none := by rw [upd_ne h2] at h1; exact h1
        exact ⟨rfl, dx2, _, upd_same, by rw [upd_ne h2, upd_same], hd1, raises hg a ha dx2 h1 h2⟩
      · have hz2 : ¬ V.int i = V.int 0 := fun z => hz (decide_eq_true z)
        have hg : skipD (.int i) = true := by
          unfold skipD
          rw [h1]
          exact decide_eq_true (fun z => hz2 (by cases z; rfl))
        refine ⟨_, rfl, x, T.C, dx, [], rfl, hs x _ hx, T.cl, T.noW, (by show 0 < 1000; decide), _, rfl, _, rfl, x, T.C, dx, _, rfl, upd_same, T.cl, T.noC, (by show 1 < 1000; decide), _, rfl, _, rfl, x, T.C, dx, _, rfl, upd_same, T.cl, T.noF, small2, ?_⟩
        refine q1 hn hg _ (fun b o eb n => ?_) (hm.trans (Mo.upd.trans (Mo.upd.trans Mo.upd))) upd_same
        rw [upd_ne n, upd_ne n, upd_ne n]
        exact hs b o eb
abbrev sSetInit : Stmt := inClass (top 31) 0
theorem scSetInit : FnScope ["self", "counter", "to"] ["self", "counter", "to"] (defScope sSetInit) := ⟨rfl, rfl, rfl, by decide +kernel, rfl, by decide +kernel, by decide +kernel⟩
structure TSet (K : PySem.W.Frag) (mg : Str → Option Value) : Type extends TCls K mg "Set" "Set.__init__" sSetInit ["self", "counter", "to"] where
  noC : NoAttr K C "counter"
  noF : NoAttr K C "to"
def insSet (C dx : Addr) (v u : V) : HO := .ins C dx (putF "to" u (putF "counter" v (putF "word" (.str "set") [])))
def setD (d : PyData) : Bool := numD d
def spSetInit (K : PySem.W.Frag) (C CR : Addr) : Sp := fun vs H Q E => ∃ (x dx : Addr) (v u : V) (d e : PyData), vs = [.ref x, v, u] ∧ H x = some (.ins C dx []) ∧ Dp K H v d ∧ dlen d ∧ Dp K H u e ∧
  (nameD d = true → setD e = true → ∀ H', KpI x H H' → Mo H H' → H' x = some (insSet C dx v u) → Q .non H') ∧ (nameD d = false → RaiseW CR H E (.str "counter")) ∧ (nameD d = true → setD e = false → RaiseW CR H E (.str "to"))
theorem okSetInit (T : TSet K mg) (N : TNeed K mg) : FnOk P w K mg base (L2N.CX P w) 4 T.fI T.fd ["self", "counter", "to"] (spSetInit K T.C N.IR.C) := by
  refine (funD T.F).ok scSetInit (fun vs H Q E h => ?_) (fun cdv A outer s H vs Q E hr h => ?_)
  · obtain ⟨x, dx, v, u, d, e, rfl, _⟩ := h
    rfl
  · obtain ⟨x, dx, v, u, d, e, rfl, hx, hd, hl, he, q1, q2, q3⟩ := h
    refine ⟨_, pss_cons (ps_expr (pe_callS (okNeed N) hr rfl N.need.m N.need.F.kp N.need.b (fun σ => L2N.passAt (L2N.takes_of rfl rfl rfl rfl) σ) (pa_cons (pv 1) (pa_cons pe_str pa_nil))))
      (pss_cons (ps_if ((pt_not (pt_val (pe_call N.okNumber (hr.mono (by decide)) rfl N.isNumber.m N.isNumber.F.kp N.isNumber.b .nil pass0 (pa_cons (pv 2) pa_nil)))))
        (pss_one (L2N.ps_raise rfl (L2N.takes_of rfl rfl rfl rfl) (pmk_oexN N.IR.O N.IR.iC N.IR.tI (okIRInit N.IR) (hr.mono (by decide)) N.IR.b pass0 rfl N.IR.m (pa_cons pe_str pa_nil)))) pss_nil)
      (pss_cons (ps_fld (pv 0) pe_str rfl) (pss_cons (ps_fld (pv 0) (pv 1) rfl) (pss_one (ps_fld (pv 0) (pv 2) rfl))))), ?_⟩
    refine ⟨_, rfl, v, _, d, rfl, hd, hl, fun hn H1 hs hm => ?_, fun hn => q2 hn⟩
    have he1 := dp_same hs e u he
    have raises : setD e = false → ∀ a, H1 a = none → ∀ dx2, (upd H1 a (exo a N.IR.C none)) dx2 = none → dx2 ≠ a → _ := fun hf a ha dx2 h1 h2 => ir_made hs hm (q3 hn hf) ha dx2 h1 h2
    refine ⟨_, rfl, u, e, rfl, he1, ?_⟩
    cases hg : setD e with
    | true =>
      have hg2 : numD e = true := hg
      refine ⟨_, by rw [hg2], ?_⟩
      refine iteF ?_
      refine ⟨_, rfl, x, T.C, dx, [], rfl, hs x _ hx, T.cl, T.noW, (by show 0 < 1000; decide), _, rfl, _, rfl, x, T.C, dx, _, rfl, upd_same, T.cl, T.noC, (by show 1 < 1000; decide), _, rfl, _, rfl, x, T.C, dx, _, rfl, upd_same, T.cl, T.noF, small2, ?_⟩
      refine q1 hn hg _ (fun b o eb n => ?_) (hm.trans (Mo.upd.trans (Mo.upd.trans Mo.upd))) upd_same
      rw [upd_ne n, upd_ne n, upd_ne n]
      exact hs b o eb
    | false =>
      have hg2 : numD e = false := hg
      refine ⟨_, by rw [hg2], ?_⟩
      refine iteT ?_
      refine ⟨(by show 1 ≤ 1000; decide), fun a ha => ⟨a, N.IR.C, _, rfl, upd_same, N.IR.O, N.IR.noF, fun dx2 h1 h2 => ?_⟩⟩
      have hd1 : H1 dx2 = none := by rw [upd_ne h2] at h1; exact h1
      exact ⟨rfl, dx2, _, upd_same, by rw [upd_ne h2, upd_same], hd1, raises hg a ha dx2 h1 h2⟩
end
end Pn

namespace Pn
open PySem L2
section
variable {X : Cx} {CX : CXT} {k : Nat} {f C : Addr} {fd : FuncData} {ps : List Str} {sp : Sp} {E : XK}
/-- the run of a def within a deeper around -/
theorem run_fnA {A' : Around} {pins : List (Addr × Obj)} {σ : L2.St} {H : Hp} {s : Shared} {Q : VK} {us : List Value} {vs : List V} (F : FnOk X.prog X.w X.K X.mg X.base CX k f fd ps sp) (hr : Room k A') (e0 : Env0 X.prog X.w X.K X.mg X.base A' X.stack s H) (hb : Binds X.K fd ps []) (hx : Passes CX X E)
    (I : Inv X pins σ H s) (r : Vals vs us) (h : sp vs H Q E) : wpAny (model X.prog X.w) A' (call (.ref f) us) (EP X pins σ Q) X.xe s := by
  have hl : (us ++ []).length = ps.length := by rw [List.append_nil, ← r.length]; exact F.len _ _ _ _ h
  have hbb := hb s us I.kIn hl
  rw [List.append_nil] at hbb
  refine wpAny_call (codeAny_mono (F.run A' X.stack s H ⟨us, []⟩ us vs Q E hr e0 hbb r h) fun x s' hq => ?_)
  cases x with
  | error e => exact hx pins σ H s e s' I hq
  | ok fl =>
    cases fl with
    | ret u => exact I.after hq
    | next => exact hq.elim
    | brk => exact hq.elim
    | cont => exact hq.elim
/-- str(x), x an instance whose class has a __str__ of its own -/
def rStrIns (K : PySem.W.Frag) (f : Addr) (sp : Sp) (E : XK) : List V → Hp → VK → Prop := fun xs H Q => ∃ (a C dx : Addr) (fs : List (Str × V)), xs = [.ref a] ∧ H a = some (.ins C dx fs) ∧ PySem.W.findIn K (.ref C) "__str__" = some (some (.ref f)) ∧ sp [.ref a] H (fun v H' => ∃ z, v = .str z ∧ Q (.str z) H') E
theorem call_strIns (F : FnOk X.prog X.w X.K X.mg X.base CX k f fd ps sp) (hf : PySem.W.isFn X.K (.ref f) = true) (hr : Room (k + 2) X.A) (hb : Binds X.K fd ps []) (hx : Passes CX X E) : CallR X (.type "str") (rStrIns X.K f sp E) := by
  intro pins s σ H xs us Q I r h
  obtain ⟨a, C, dx, fs, rfl, ha, hs, q⟩ := h
  obtain ⟨u, rfl, ru⟩ := r.one
  obtain rfl : u = Value.ref a := ru
  obtain ⟨mA, O, _⟩ := ins_get I.hok ha
  obtain ⟨od, J, _⟩ := O.look
  have hr2 : Room k X.A.in1.in1 := (show Room (k + 1) X.A.in1 from Room.in1 hr).in1
  refine PySem.W.kso_call (by have := hr2.un; omega) I.kIn J hs hf (wpAny_mono (run_fnA F hr2 I.env0.in1.in1 hb hx I (.cons (show RelV (.ref a) (Value.ref a) from rfl) .nil) q) (fun v s' z => ?_) fun _ _ x => x)
  obtain ⟨z', H', I', rz, t, ez, qz⟩ := z
  subst ez
  obtain ⟨tk, e⟩ := (show ∃ tk, v = Value.str t tk from rz)
  cases e
  exact ⟨.str t, H', I', ⟨tk, rfl⟩, qz⟩
end
end Pn

namespace Pn
open PySem L2 TL
/-! ### rows as data -/
inductive RowD where
  | note (c l : Str) | skip (c : Str) (n : Nat) | set (c : Str) (n : Nat) | keep (c : Str) | back (c : Str) | ref (l : Str) | put (p : Str) | opn (x : Str)
structure TRows (K : PySem.W.Frag) (mg : Str → Option Value) : Type where
  N : TNeed K mg
  note : TNote K mg
  skip : TSkip K mg
  set : TSet K mg
  keep : TKeep K mg
  back : TBack K mg
  ref : TRef K mg
  put : TPut K mg
  open_ : TOpen K mg
def numStr (n : Nat) : Str := Str.ofString (toString ((n : Nat) : Int))
/-- the words of a row's text -/
def rowWords : RowD → List Str
  | .note c l => if l = "" then ["note", c] else ["note", c, l]
  | .skip c n => ["skip", c, numStr n]
  | .set c n => ["set", c, numStr n]
  | .keep c => ["keep", c]
  | .back c => ["back", c]
  | .ref l => ["ref", l]
  | .put p => ["put", p]
  | .opn x => ["open", x]
def rowText (r : RowD) : Str := Txt.join " " (rowWords r)
/-- how large the texts and numbers of a row are -/
def rowSmall : RowD → Prop
  | .note c l => c.length ≤ 100 ∧ l.length ≤ 100
  | .skip c n => c.length ≤ 100 ∧ n < 10 ^ 20
  | .set c n => c.length ≤ 100 ∧ n < 10 ^ 20
  | .keep c => c.length ≤ 100
  | .back c => c.length ≤ 100
  | .ref c => c.length ≤ 100
  | .put c => c.length ≤ 100
  | .opn c => c.length ≤ 100
theorem join2 (a b : Str) {ab : Str} (h : tl ab = tl a ++ [32]) : Str.empty ++ ab ++ b = Txt.join " " [a, b] := by
  rw [join_eq]
  apply ext_tl
  rw [tl_join]
  show tl (Str.empty ++ ab ++ b) = tl a ++ (tl (" " : Str) ++ tl b)
  rw [tl_append, tl_append, h]
  show [] ++ (tl a ++ [32]) ++ tl b = tl a ++ ([32] ++ tl b)
  simp
theorem join3 (a b c : Str) {ab s : Str} (h : tl ab = tl a ++ [32]) (hs : s = " ") : Str.empty ++ ab ++ b ++ s ++ c = Txt.join " " [a, b, c] := by
  subst hs
  rw [join_eq]
  apply ext_tl
  rw [tl_join]
  show tl (Str.empty ++ ab ++ b ++ (" " : Str) ++ c) = tl a ++ (tl (" " : Str) ++ (tl b ++ (tl (" " : Str) ++ tl c)))
  rw [tl_append, tl_append, tl_append, tl_append, h]
  show [] ++ (tl a ++ [32]) ++ tl b ++ [32] ++ tl c = tl a ++ ([32] ++ (tl b ++ ([32] ++ tl c)))
  simp
section
variable {P : Program} {w : World} {K : PySem.W.Frag} {mg : Str → Option Value} {base : Heap}
/-- a row's instance -/
def insRow (T : TRows K mg) (dx : Addr) : RowD → HO
  | .note c l => insNote T.note.C dx (.str c) (.str l)
  | .skip c n => insSkip T.skip.C dx (.str c) (.int (n : Int))
  | .set c n => insSet T.set.C dx (.str c) (.int (n : Int))
  | .keep c => insKeep T.keep.C dx (.str c)
  | .back c => insBack T.back.C dx (.str c)
  | .ref c => insRef T.ref.C dx (.str c)
  | .put c => insPut T.put.C dx (.str c)
  | .opn c => insOpen T.open_.C dx (.str c)
def RowAt (T : TRows K mg) (H : Hp) (a : Addr) (r : RowD) : Prop := ∃ dx, H a = some (insRow T dx r)
/-- a method of one argument of an own class -/
structure TStr (K : PySem.W.Frag) (C : Addr) (qual : Str) (st : Stmt) : Type where
  f : Addr
  fd : FuncData
  F : Fun K "__str__" qual st f fd
  b : Binds K fd ["self"] []
  hs : PySem.W.findIn K (.ref C) "__str__" = some (some (.ref f))
  hf : PySem.W.isFn K (.ref f) = true
abbrev sNoteStr : Stmt := inClass (top 29) 1
theorem scNoteStr : FnScope ["self"] ["self"] (defScope sNoteStr) := ⟨rfl, rfl, rfl, by decide +kernel, rfl, by decide +kernel, by decide +kernel⟩
abbrev sSkipStr : Stmt := inClass (top 30) 1
theorem scSkipStr : FnScope ["self"] ["self"] (defScope sSkipStr) := ⟨rfl, rfl, rfl, by decide +kernel, rfl, by decide +kernel, by decide +kernel⟩
abbrev sSetStr : Stmt := inClass (top 31) 1
theorem scSetStr : FnScope ["self"] ["self"] (defScope sSetStr) := ⟨rfl, rfl, rfl, by decide +kernel, rfl, by decide +kernel, by decide +kernel⟩
abbrev sKeepStr : Stmt := inClass (top 32) 1
theorem scKeepStr : FnScope ["self"] ["self"] (defScope sKeepStr) := ⟨rfl, rfl, rfl, by decide +kernel, rfl, by decide +kernel, by decide +kernel⟩
theorem fld_keep {v : V} : (putF "counter" v (putF "word" (.str "keep") [])).lookup ("counter" : Str) = some v := by
  rw [lookup_putF, if_pos rfl]
def spKeepStr (T : TRows K mg) : Sp := fun vs H Q _ => ∃ (a : Addr) (c : Str), vs = [.ref a] ∧ RowAt T H a (.keep c) ∧ c.length ≤ 100 ∧ Q (.str (rowText (.keep c))) H
theorem okKeepStr (T : TRows K mg) (S : TStr K T.keep.C "Keep.__str__" sKeepStr) : FnOk P w K mg base CX0 1 S.f S.fd ["self"] (spKeepStr T) := by
  refine S.F.ok scKeepStr (fun vs H Q E h => ?_) (fun cdv A outer s H vs Q E hr h => ?_)
  · obtain ⟨a, c, rfl, _⟩ := h
    rfl
  · obtain ⟨a, c, rfl, ⟨dx, ha⟩, hl, q⟩ := h
    refine ⟨_, pss_one (ps_ret (pe_joined (.cons pe_str (.cons (pe_fmt (pe_fld (pv 0) rfl)) .nil)))), ?_⟩
    refine ⟨_, rfl, (by decide +kernel), _, rfl, a, T.keep.C, dx, _, .str c, rfl, ha, T.keep.cl, T.keep.noF, fld_keep, .inl ⟨c, rfl, Nat.le_trans hl (by decide), c, rfl, ?_, ?_⟩⟩
    · rw [strLen_append]
      exact Nat.le_trans (Nat.add_le_add_left hl _) (by decide +kernel)
    · rw [join2 "keep" c (by decide +kernel)]
      exact q
abbrev sBackStr : Stmt := inClass (top 33) 1
theorem scBackStr : FnScope ["self"] ["self"] (defScope sBackStr) := ⟨rfl, rfl, rfl, by decide +kernel, rfl, by decide +kernel, by decide +kernel⟩
theorem fld_back {v : V} : (putF "counter" v (putF "word" (.str "back") [])).lookup ("counter" : Str) = some v := by
  rw [lookup_putF, if_pos rfl]
def spBackStr (T : TRows K mg) : Sp := fun vs H Q _ => ∃ (a : Addr) (c : Str), vs = [.ref a] ∧ RowAt T H a (.back c) ∧ c.length ≤ 100 ∧ Q (.str (rowText (.back c))) H
theorem okBackStr (T : TRows K mg) (S : TStr K T.back.C "Back.__str__" sBackStr) : FnOk P w K mg base CX0 1 S.f S.fd ["self"] (spBackStr T) := by
  refine S.F.ok scBackStr (fun vs H Q E h => ?_) (fun cdv A outer s H vs Q E hr h => ?_)
  · obtain ⟨a, c, rfl, _⟩ := h
    rfl
  · obtain ⟨a, c, rfl, ⟨dx, ha⟩, hl, q⟩ := h
    refine ⟨_, pss_one (ps_ret (pe_joined (.cons pe_str (.cons (pe_fmt (pe_fld (pv 0) rfl)) .nil)))), ?_⟩
    refine ⟨_, rfl, (by decide +kernel), _, rfl, a, T.back.C, dx, _, .str c, rfl, ha, T.back.cl, T.back.noF, fld_back, .inl ⟨c, rfl, Nat.le_trans hl (by decide), c, rfl, ?_, ?_⟩⟩
    · rw [strLen_append]
      exact Nat.le_trans (Nat.add_le_add_left hl _) (by decide +kernel)
    · rw [join2 "back" c (by decide +kernel)]
      exact q
abbrev sRefStr : Stmt := inClass (top 34) 1
theorem scRefStr : FnScope ["self"] ["self"] (defScope sRefStr) := ⟨rfl, rfl, rfl, by decide +kernel, rfl, by decide +kernel, by decide +kernel⟩
theorem fld_ref {v : V} : (putF "label" v (putF "word" (.str "ref") [])).lookup ("label" : Str) = some v := by
  rw [lookup_putF, if_pos rfl]
def spRefStr (T : TRows K mg) : Sp := fun vs H Q _ => ∃ (a : Addr) (c : Str), vs = [.ref a] ∧ RowAt T H a (.ref c) ∧ c.length ≤ 100 ∧ Q (.str (rowText (.ref c))) H
theorem okRefStr (T : TRows K mg) (S : TStr K T.ref.C "Ref.__str__" sRefStr) : FnOk P w K mg base CX0 1 S.f S.fd ["self"] (spRefStr T) := by
  refine S.F.ok scRefStr (fun vs H Q E h => ?_) (fun cdv A outer s H vs Q E hr h => ?_)
  · obtain ⟨a, c, rfl, _⟩ := h
    rfl
  · obtain ⟨a, c, rfl, ⟨dx, ha⟩, hl, q⟩ := h
    refine ⟨_, pss_one (ps_ret (pe_joined (.cons pe_str (.cons (pe_fmt (pe_fld (pv 0) rfl)) .nil)))), ?_⟩
    refine ⟨_, rfl, (by decide +kernel), _, rfl, a, T.ref.C, dx, _, .str c, rfl, ha, T.ref.cl, T.ref.noF, fld_ref, .inl ⟨c, rfl, Nat.le_trans hl (by decide), c, rfl, ?_, ?_⟩⟩
    · rw [strLen_append]
      exact Nat.le_trans (Nat.add_le_add_left hl _) (by decide +kernel)
    · rw [join2 "ref" c (by decide +kernel)]
      exact q
abbrev sPutStr : Stmt := inClass (top 35) 1
theorem scPutStr : FnScope ["self"] ["self"] (defScope sPutStr) := ⟨rfl, rfl, rfl, by decide +kernel, rfl, by decide +kernel, by decide +kernel⟩
theorem fld_put {v : V} : (putF "part" v (putF "word" (.str "put") [])).lookup ("part" : Str) = some v := by
  rw [lookup_putF, if_pos rfl]
def spPutStr (T : TRows K mg) : Sp := fun vs H Q _ => ∃ (a : Addr) (c : Str), vs = [.ref a] ∧ RowAt T H a (.put c) ∧ c.length ≤ 100 ∧ Q (.str (rowText (.put c))) H
theorem okPutStr (T : TRows K mg) (S : TStr K T.put.C "Put.__str__" sPutStr) : FnOk P w K mg base CX0 1 S.f S.fd ["self"] (spPutStr T) := by
  refine S.F.ok scPutStr (fun vs H Q E h => ?_) (fun cdv A outer s H vs Q E hr h => ?_)
  · obtain ⟨a, c, rfl, _⟩ := h
    rfl
  · obtain ⟨a, c, rfl, ⟨dx, ha⟩, hl, q⟩ := h
    refine ⟨_, pss_one (ps_ret (pe_joined (.cons pe_str (.cons (pe_fmt (pe_fld (pv 0) rfl)) .nil)))), ?_⟩
    refine ⟨_, rfl, (by decide +kernel), _, rfl, a, T.put.C, dx, _, .str c, rfl, ha, T.put.cl, T.put.noF, fld_put, .inl ⟨c, rfl, Nat.le_trans hl (by decide), c, rfl, ?_, ?_⟩⟩
    · rw [strLen_append]
      exact Nat.le_trans (Nat.add_le_add_left hl _) (by decide +kernel)
    · rw [join2 "put" c (by decide +kernel)]
      exact q
abbrev sOpenStr : Stmt := inClass (top 36) 1
theorem scOpenStr : FnScope ["self"] ["self"] (defScope sOpenStr) := ⟨rfl, rfl, rfl, by decide +kernel, rfl, by decide +kernel, by decide +kernel⟩
theorem fld_open {v : V} : (putF "name" v (putF "word" (.str "open") [])).lookup ("name" : Str) = some v := by
  rw [lookup_putF, if_pos rfl]
def spOpenStr (T : TRows K mg) : Sp := fun vs H Q _ => ∃ (a : Addr) (c : Str), vs = [.ref a] ∧ RowAt T H a (.opn c) ∧ c.length ≤ 100 ∧ Q (.str (rowText (.opn c))) H
theorem okOpenStr (T : TRows K mg) (S : TStr K T.open_.C "Open.__str__" sOpenStr) : FnOk P w K mg base CX0 1 S.f S.fd ["self"] (spOpenStr T) := by
  refine S.F.ok scOpenStr (fun vs H Q E h => ?_) (fun cdv A outer s H vs Q E hr h => ?_)
  · obtain ⟨a, c, rfl, _⟩ := h
    rfl
  · obtain ⟨a, c, rfl, ⟨dx, ha⟩, hl, q⟩ := h
    refine ⟨_, pss_one (ps_ret (pe_joined (.cons pe_str (.cons (pe_fmt (pe_fld (pv 0) rfl)) .nil)))), ?_⟩
    refine ⟨_, rfl, (by decide +kernel), _, rfl, a, T.open_.C, dx, _, .str c, rfl, ha, T.open_.cl, T.open_.noF, fld_open, .inl ⟨c, rfl, Nat.le_trans hl (by decide), c, rfl, ?_, ?_⟩⟩
    · rw [strLen_append]
      exact Nat.le_trans (Nat.add_le_add_left hl _) (by decide +kernel)
    · rw [join2 "open" c (by decide +kernel)]
      exact q
theorem numStr_len {n : Nat} (h : n < 10 ^ 20) : (numStr n).length ≤ 20 := by
  rw [len_tl]
  show (tl (Str.ofString (toString ((n : Nat) : Int)))).length ≤ 20
  rw [tl_num]
  exact numL_len (by decide) h
theorem log_small {n : Nat} (h : n < 10 ^ 20) : (n : Int).natAbs.log2 < 1920 := by
  show n.log2 < 1920
  have : n < 2 ^ 1919 := Nat.lt_trans h (by decide +kernel)
  exact Nat.lt_of_lt_of_le (PySem.Flt.log2_lt_of (k := 1919) (by decide) this) (by decide)
def spNoteStr (T : TRows K mg) : Sp := fun vs H Q _ => ∃ (a : Addr) (c l : Str), vs = [.ref a] ∧ RowAt T H a (.note c l) ∧ c.length ≤ 100 ∧ l.length ≤ 100 ∧ Q (.str (rowText (.note c l))) H
theorem note_counter {c l : V} : (putF "label" l (putF "counter" c (putF "word" (.str "note") []))).lookup ("counter" : Str) = some c := by
  rw [lookup_putF, if_neg (by decide +kernel), lookup_putF, if_pos rfl]
theorem note_label {c l : V} : (putF "label" l (putF "counter" c (putF "word" (.str "note") []))).lookup ("label" : Str) = some l := by
  rw [lookup_putF, if_pos rfl]
theorem len3 {a b c : Str} (ha : a.length ≤ 200) (hb : b.length ≤ 200) (hc : c.length ≤ 200) : (((Str.empty ++ a) ++ b) ++ c).length ≤ sizeLine := by
  rw [strLen_append, strLen_append, strLen_append]
  exact Nat.le_trans (show _ ≤ 600 by have : (Str.empty : Str).length = 0 := rfl; omega) (by decide)
theorem len4 {a b c d : Str} (ha : a.length ≤ 200) (hb : b.length ≤ 200) (hc : c.length ≤ 200) (hd : d.length ≤ 200) : ((((Str.empty ++ a) ++ b) ++ c) ++ d).length ≤ sizeLine := by
  rw [strLen_append, strLen_append, strLen_append, strLen_append]
  exact Nat.le_trans (show _ ≤ 800 by have : (Str.empty : Str).length = 0 := rfl; omega) (by decide)
theorem len2 {a b : Str} (ha : a.length ≤ 200) (hb : b.length ≤ 200) : ((Str.empty ++ a) ++ b).length ≤ sizeLine := by
  rw [strLen_append, strLen_append]
  exact Nat.le_trans (show _ ≤ 400 by have : (Str.empty : Str).length = 0 := rfl; omega) (by decide)
theorem okNoteStr (T : TRows K mg) (S : TStr K T.note.C "Note.__str__" sNoteStr) : FnOk P w K mg base CX0 1 S.f S.fd ["self"] (spNoteStr T) := by
  refine S.F.ok scNoteStr (fun vs H Q E h => ?_) (fun cdv A outer s H vs Q E hr h => ?_)
  · obtain ⟨a, c, l, rfl, _⟩ := h
    rfl
  · obtain ⟨a, c, l, rfl, ⟨dx, ha⟩, hc, hl, q⟩ := h
    refine ⟨_, pss_cons (ps_if (pt_cmpR op_eq (pe_fld (pv 0) rfl) pe_str (nomark _)) (pss_one (ps_ret (pe_joined (.cons pe_str (.cons (pe_fmt (pe_fld (pv 0) rfl)) .nil))))) pss_nil)
      (pss_one (ps_ret (pe_joined (.cons pe_str (.cons (pe_fmt (pe_fld (pv 0) rfl)) (.cons pe_str (.cons (pe_fmt (pe_fld (pv 0) rfl)) .nil))))))), ?_⟩
    refine ⟨_, rfl, a, T.note.C, dx, _, .str l, rfl, ha, T.note.cl, T.note.noL, note_label, rfl, _, rfl, ?_⟩
    have s5 : ("note " : Str).length ≤ 200 := by decide +kernel
    have s1 : (" " : Str).length ≤ 200 := by decide +kernel
    refine ite2 (fun hz => ?_) (fun hz => ?_)
    · have hz2 : l = "" := by
        have := of_decide_eq_true hz
        cases this
        rfl
      have hw : rowText (.note c l) = Txt.join " " ["note", c] := by
        show Txt.join " " (if l = "" then ["note", c] else ["note", c, l]) = _
        rw [if_pos hz2]
      rw [hw] at q
      refine ⟨_, rfl, (by decide +kernel), _, rfl, a, T.note.C, dx, _, .str c, rfl, ha, T.note.cl, T.note.noC, note_counter, .inl ⟨c, rfl, Nat.le_trans hc (by decide), c, rfl, len2 s5 (by omega), ?_⟩⟩
      rw [join2 "note" c (by decide +kernel)]
      exact q
    · have hz2 : ¬ l = "" := fun z => hz (decide_eq_true (by rw [z]))
      have hw : rowText (.note c l) = Txt.join " " ["note", c, l] := by
        show Txt.join " " (if l = "" then ["note", c] else ["note", c, l]) = _
        rw [if_neg hz2]
      rw [hw] at q
      refine ⟨_, rfl, (by decide +kernel), _, rfl, a, T.note.C, dx, _, .str c, rfl, ha, T.note.cl, T.note.noC, note_counter, .inl ⟨c, rfl, Nat.le_trans hc (by decide), c, rfl, len2 s5 (by omega), _, rfl, len3 s5 (by omega) s1, _, rfl, a, T.note.C, dx, _, .str l, rfl, ha, T.note.cl, T.note.noL, note_label, .inl ⟨l, rfl, Nat.le_trans hl (by decide), l, rfl, len4 s5 (by omega) s1 (by omega), ?_⟩⟩⟩
      rw [join3 "note" c l (by decide +kernel) rfl]
      exact q
theorem skip_counter {c l : V} : (putF "by" l (putF "counter" c (putF "word" (.str "skip") []))).lookup ("counter" : Str) = some c := by
  rw [lookup_putF, if_neg (by decide +kernel), lookup_putF, if_pos rfl]
theorem skip_num {c l : V} : (putF "by" l (putF "counter" c (putF "word" (.str "skip") []))).lookup ("by" : Str) = some l := by
  rw [lookup_putF, if_pos rfl]
def spSkipStr (T : TRows K mg) : Sp := fun vs H Q _ => ∃ (a : Addr) (c : Str) (n : Nat), vs = [.ref a] ∧ RowAt T H a (.skip c n) ∧ c.length ≤ 100 ∧ n < 10 ^ 20 ∧ Q (.str (rowText (.skip c n))) H
theorem okSkipStr (T : TRows K mg) (S : TStr K T.skip.C "Skip.__str__" sSkipStr) : FnOk P w K mg base CX0 1 S.f S.fd ["self"] (spSkipStr T) := by
  refine S.F.ok scSkipStr (fun vs H Q E h => ?_) (fun cdv A outer s H vs Q E hr h => ?_)
  · obtain ⟨a, c, n, rfl, _⟩ := h
    rfl
  · obtain ⟨a, c, n, rfl, ⟨dx, ha⟩, hc, hn, q⟩ := h
    refine ⟨_, pss_one (ps_ret (pe_joined (.cons pe_str (.cons (pe_fmt (pe_fld (pv 0) rfl)) (.cons pe_str (.cons (pe_fmt (pe_fld (pv 0) rfl)) .nil)))))), ?_⟩
    have s5 : ("skip " : Str).length ≤ 200 := by decide +kernel
    have s1 : (" " : Str).length ≤ 200 := by decide +kernel
    have sn := numStr_len hn
    refine ⟨_, rfl, (by decide +kernel), _, rfl, a, T.skip.C, dx, _, .str c, rfl, ha, T.skip.cl, T.skip.noC, skip_counter, .inl ⟨c, rfl, Nat.le_trans hc (by decide), c, rfl, len2 s5 (by omega), _, rfl, len3 s5 (by omega) s1, _, rfl, a, T.skip.C, dx, _, .int (n : Int), rfl, ha, T.skip.cl, T.skip.noF, skip_num, .inr ⟨(n : Int), rfl, log_small hn, numStr n, rfl, len4 s5 (by omega) s1 (by omega), ?_⟩⟩⟩
    rw [join3 "skip" c (numStr n) (by decide +kernel) rfl]
    exact q
theorem set_counter {c l : V} : (putF "to" l (putF "counter" c (putF "word" (.str "set") []))).lookup ("counter" : Str) = some c := by
  rw [lookup_putF, if_neg (by decide +kernel), lookup_putF, if_pos rfl]
theorem set_num {c l : V} : (putF "to" l (putF "counter" c (putF "word" (.str "set") []))).lookup ("to" : Str) = some l := by
  rw [lookup_putF, if_pos rfl]
def spSetStr (T : TRows K mg) : Sp := fun vs H Q _ => ∃ (a : Addr) (c : Str) (n : Nat), vs = [.ref a] ∧ RowAt T H a (.set c n) ∧ c.length ≤ 100 ∧ n < 10 ^ 20 ∧ Q (.str (rowText (.set c n))) H
theorem okSetStr (T : TRows K mg) (S : TStr K T.set.C "Set.__str__" sSetStr) : FnOk P w K mg base CX0 1 S.f S.fd ["self"] (spSetStr T) := by
  refine S.F.ok scSetStr (fun vs H Q E h => ?_) (fun cdv A outer s H vs Q E hr h => ?_)
  · obtain ⟨a, c, n, rfl, _⟩ := h
    rfl
  · obtain ⟨a, c, n, rfl, ⟨dx, ha⟩, hc, hn, q⟩ := h
    refine ⟨_, pss_one (ps_ret (pe_joined (.cons pe_str (.cons (pe_fmt (pe_fld (pv 0) rfl)) (.cons pe_str (.cons (pe_fmt (pe_fld (pv 0) rfl)) .nil)))))), ?_⟩
    have s5 : ("set " : Str).length ≤ 200 := by decide +kernel
    have s1 : (" " : Str).length ≤ 200 := by decide +kernel
    have sn := numStr_len hn
    refine ⟨_, rfl, (by decide +kernel), _, rfl, a, T.set.C, dx, _, .str c, rfl, ha, T.set.cl, T.set.noC, set_counter, .inl ⟨c, rfl, Nat.le_trans hc (by decide), c, rfl, len2 s5 (by omega), _, rfl, len3 s5 (by omega) s1, _, rfl, a, T.set.C, dx, _, .int (n : Int), rfl, ha, T.set.cl, T.set.noF, set_num, .inr ⟨(n : Int), rfl, log_small hn, numStr n, rfl, len4 s5 (by omega) s1 (by omega), ?_⟩⟩⟩
    rw [join3 "set" c (numStr n) (by decide +kernel) rfl]
    exact q
end
end Pn

namespace Pn
open PySem L2 TL
/-! ### numbers in texts -/
section
variable {P : Program} {w : World} {K : PySem.W.Frag} {mg : Str → Option Value} {base : Heap}
/-- InvalidText(at) leaves the def -/
def RaiseT (C : Addr) (H : Hp) (E : XK) (n : Int) : Prop := ∀ (e : Addr) (H' : Hp), Same H H' → Mo H H' → H e = none → H' e = some (.xd [("at", .int n)]) → E (.ref C) (some e) H'
theorem RaiseT.back {C : Addr} {H H1 : Hp} {E : XK} {n : Int} (h : RaiseT C H E n) (s : Same H H1) (m : Mo H H1) : RaiseT C H1 E n := fun e H' h1 h2 h3 h4 => h e H' (s.trans h1) (m.trans h2) (m e h3) h4
end
end Pn

namespace Pn
open PySem L2 TL
/-! ### what a line's words tell -/
section
variable {P : Program} {w : World} {K : PySem.W.Frag} {mg : Str → Option Value} {base : Heap}
theorem kpi_same2 {H H1 : Hp} {x dx : Addr} {o o2 : HO} (hx : H x = none) (hdx : H dx = none) (k : KpI x (upd (upd H dx o) x o2) H1) : Same H H1 := fun b u e => by
  have n1 : b ≠ x := ne_of_none e hx
  have n2 : b ≠ dx := ne_of_none e hdx
  exact k b u (by rw [upd_ne n1, upd_ne n2]; exact e) n1
theorem ins_same2 {H : Hp} {x dx : Addr} {o o2 : HO} (hx : H x = none) (hdx : H dx = none) : Same H (upd (upd H dx o) x o2) := fun b u e => by
  rw [upd_ne (ne_of_none e hx), upd_ne (ne_of_none e hdx)]
  exact e
theorem skip_of {n : Nat} (h : n ≠ 0) : skipD (.int (n : Int)) = true := by
  show (decide ((0 : Int) ≤ (n : Int)) && decide ((n : Int) ≠ 0)) = true
  rw [decide_eq_true (show (0 : Int) ≤ (n : Int) by omega), decide_eq_true (show (n : Int) ≠ 0 by omega)]
  rfl
theorem set_of {n : Nat} : setD (.int (n : Int)) = true := decide_eq_true (show (0 : Int) ≤ (n : Int) by omega)
end
end Pn

namespace Pn
open PySem L2 TL
/-! ### read_row -/
theorem strOk_tl {z : Str} : PyData.strOk z = true ↔ ∀ c ∈ tl z, c < 0x110000 := by
  unfold PyData.strOk
  simp only [Array.all_eq_true']
  constructor
  · intro h c hc
    exact of_decide_eq_true (h c (by simpa using hc))
  · intro h c hc
    exact decide_eq_true (h c (by simpa using hc))
theorem str_shaped {z : Str} (h : PyData.strOk z = true) : SeqAt.shaped (.str z) = true := by
  show (PyData.strOk z && decide (PyData.depth (.str z) ≤ 64)) = true
  rw [h]
  rfl
section
variable {P : Program} {w : World} {K : PySem.W.Frag} {mg : Str → Option Value} {base : Heap}
end
end Pn

namespace Pn
open PySem PySem.Spec PyProof.Rows L2 TL
/-! ### all but a deal (its dict, its list) stands: the words that the fragments of boxes have -/
def Nb (b g a : Addr) : Prop := a ≠ b ∧ a ≠ g
def Kd (b g : Addr) (H H' : Hp) : Prop := ∀ a o, H a = some o → Nb b g a → H' a = some o
theorem Kd.refl (b g : Addr) (H : Hp) : Kd b g H H := fun _ _ h _ => h
theorem Kd.trans {b g : Addr} {H H1 H2 : Hp} (h : Kd b g H H1) (k : Kd b g H1 H2) : Kd b g H H2 := fun a o e n => k a o (h a o e n) n
theorem Kd.same {b g : Addr} {H H1 : Hp} (h : Same H H1) : Kd b g H H1 := fun a o e _ => h a o e
theorem Kd.new {b g p : Addr} {H H1 : Hp} {o : HO} (h : Kd b g H H1) (hp : H1 p = none) : Kd b g H (upd H1 p o) := h.trans (Kd.same (Same.new hp))
theorem Kd.of {b g : Addr} {H H1 : Hp} (h : Same (hh H b g) (hh H1 b g)) : Kd b g H H1 := fun a o e n => hh_sub _ _ (h _ _ (hh_get e n.1 n.2))
theorem Kd.hh {b g : Addr} {H H1 : Hp} (h : Kd b g H H1) : Same (hh H b g) (hh H1 b g) := fun a o e => by
  obtain ⟨n1, n2, e⟩ := hh_ne e
  exact hh_get (h a o e ⟨n1, n2⟩) n1 n2
theorem Kd.sql {K : PySem.W.Frag} {b g a : Addr} {xs : List V} {H H1 : Hp} (h : Kd b g H H1) (n : Nb b g a) (s : SqL K H a xs) : SqL K H1 a xs := by
  rcases s with (s | ⟨o, s⟩) | s
  · exact .inl (.inl (h _ _ s n))
  · exact .inl (.inr ⟨o, h _ _ s n⟩)
  · exact .inr s
theorem Kd.sqt {K : PySem.W.Frag} {b g a : Addr} {xs : List V} {H H1 : Hp} (h : Kd b g H H1) (n : Nb b g a) (s : SqT K H a xs) : SqT K H1 a xs := by
  rcases s with (s | ⟨o, s⟩) | s
  · exact .inl (.inl (h _ _ s n))
  · exact .inl (.inr ⟨o, h _ _ s n⟩)
  · exact .inr s
theorem Kd.mo {b g : Addr} {H H' : Hp} (h : Kd b g H H') (hD : DealAt H' b g) : Mo H H' := fun a z => by
  cases q : H a with
  | none => rfl
  | some u =>
    by_cases n1 : a = b
    · exact absurd (by rw [n1] at z; exact z) hD.there.1
    by_cases n2 : a = g
    · exact absurd (by rw [n2] at z; exact z) hD.there.2
    have := h a u q ⟨n1, n2⟩
    rw [z] at this
    cases this
theorem hh_nb {H : Hp} {b g a : Addr} {o : HO} (h : hh H b g a = some o) : Nb b g a := ⟨(hh_ne h).1, (hh_ne h).2.1⟩
theorem hhn_get {H : Hp} {b g a : Addr} {o : HO} (h : H a = some o) (n : Nb b g a) : hh H b g a = some o := hh_get h n.1 n.2
theorem dif_hh {b g : Addr} {H H' : Hp} (hD : DealAt H b g) : Same (dif H H') (hh H' b g) := fun a u e => by
  obtain ⟨e0, e1⟩ := dif_eq.mp e
  exact hh_get e1 (fun z => hD.there.1 (by rw [← z]; exact e0)) (fun z => hD.there.2 (by rw [← z]; exact e0))
theorem DealAt.nb {H : Hp} {b g p : Addr} (h : DealAt H b g) (hp : H p = none) : Nb b g p := h.nd hp
theorem newAt {b g t : Addr} {H Hx : Hp} {o : HO} (k : Kd b g H Hx) (hx : DealAt Hx b g) (ht : Hx t = none) : dif H (upd Hx t o) t = some o := dif_new (k.mo hx t ht) upd_same
section
variable {P : Program} {w : World} {K : PySem.W.Frag} {mg : Str → Option Value} {base : Heap}
structure TDraw (K : PySem.W.Frag) (mg : Str → Option Value) : Type where
  mI : mg "int" = none
  mL : mg "len" = none
  mA : mg "abs" = none
  deal : At K mg "_law_deal" sDeal ["_law_script", "_law_base"]
  choose : At K mg "_law_draw" sDraw ["_law_deal_here", "_law_many"]
  one : At K mg "_law_pick" sPick ["_law_deal_here", "_law_some"]
def spChooseB : Sp := fun vs H Q _ => ∃ (b g : Addr) (m : Int), vs = [.ref b, .int m] ∧ DealAt H b g ∧ 0 < m ∧ m < 1000000 ∧ ∀ (r : Int) (H' : Hp), 0 ≤ r → r < m → DealAt H' b g → Kd b g H H' → Mo H H' → Q (.int r) H'
theorem TDraw.okChoose (T : TDraw K mg) : FnOk P w K mg base CX0 1 T.choose.f T.choose.fd ["_law_deal_here", "_law_many"] spChooseB :=
  (ok_draw T.choose.F T.mI T.mL).imp fun vs H Q E h => by
    obtain ⟨b, g, m, rfl, hD, h0, h1, k⟩ := h
    exact ⟨b, g, m, rfl, hD, h0, by omega, fun r H' r0 r1 hD' s m' => k r H' r0 r1 hD' (Kd.of s) m'⟩
def spOneB (K : PySem.W.Frag) : Sp := fun vs H Q _ => ∃ (b g a : Addr) (xs : List V), vs = [.ref b, .ref a] ∧ DealAt H b g ∧ SqL K H a xs ∧ Nb b g a ∧ 0 < xs.length ∧ xs.length < 1000000 ∧
  ∀ (v : V) (H' : Hp), v ∈ xs → DealAt H' b g → Kd b g H H' → Mo H H' → Q v H'
theorem sql_hh {H : Hp} {b g a : Addr} {xs : List V} (h : SqL K H a xs) (n : Nb b g a) : SqL K (hh H b g) a xs := by
  rcases h with (s | ⟨o, s⟩) | s
  · exact .inl (.inl (hhn_get s n))
  · exact .inl (.inr ⟨o, hhn_get s n⟩)
  · exact .inr s
theorem TDraw.okOne (T : TDraw K mg) : FnOk P w K mg base CX0 2 T.one.f T.one.fd ["_law_deal_here", "_law_some"] (spOneB K) :=
  (ok_pick T.one.F T.mL T.choose T.mI).imp fun vs H Q E h => by
    obtain ⟨b, g, a, xs, rfl, hD, hS, ne, h0, h1, k⟩ := h
    exact ⟨b, g, a, xs, rfl, hD, sql_hh hS ne, h0, h1, fun v H' hv hD' s m' => k v H' hv hD' (Kd.of s) m'⟩
end
end Pn

namespace Pn
open PySem PySem.Spec PyProof.Rows L2 TL
abbrev sPools : Stmt := top 69
/-- a pool of names: counters, parts, open places, labels -/
structure Pool where
  c : List Str
  p : List Str
  x : List Str
  l : List Str
def poolsD : List Pool := [⟨["c", "f", "r"], ["p", "pic", "fig", "text"], ["x", "y"], ["cat", "dog"]⟩, ⟨["a", "ab", "abc"], ["a", "aa", "ab", "b"], ["b", "bb"], ["a", "z"]⟩, ⟨["n", "nn", "m"], ["z", "y", "x", "w"], ["n", "o"], ["x", "n"]⟩]
structure Pool.Fine (d : Pool) : Prop where
  cl : d.c.length = 3
  pl : d.p.length = 4
  xl : d.x.length = 2
  ll : d.l.length = 2
  cn : d.c.Nodup
  pn : d.p.Nodup
  names : ∀ y ∈ d.c ++ d.p ++ d.x ++ d.l, nameS y = true
theorem pool_fine : ∀ d ∈ poolsD, d.Fine := fun d hd => by
  have h : ∀ d ∈ poolsD, ((decide (d.c.length = 3) && decide (d.p.length = 4) && decide (d.x.length = 2) && decide (d.l.length = 2)) && (decide d.c.Nodup && decide d.p.Nodup)) && (d.c ++ d.p ++ d.x ++ d.l).all nameS = true := List.all_eq_true.mp (by decide +kernel)
  have q := h d hd
  simp only [Bool.and_eq_true, decide_eq_true_eq] at q
  obtain ⟨⟨⟨⟨⟨q1, q2⟩, q3⟩, q4⟩, q5, q6⟩, q7⟩ := q
  exact ⟨q1, q2, q3, q4, q5, q6, List.all_eq_true.mp q7⟩
/-- a pool as it stands -/
def PoolAt (H : Hp) (a : Addr) (d : Pool) : Prop := ∃ a0 a1 a2 a3 : Addr, H a = some (.lst [.ref a0, .ref a1, .ref a2, .ref a3]) ∧ H a0 = some (.lst (d.c.map V.str)) ∧ H a1 = some (.lst (d.p.map V.str)) ∧ H a2 = some (.lst (d.x.map V.str)) ∧ H a3 = some (.lst (d.l.map V.str))
section
variable {P : Program} {w : World} {K : PySem.W.Frag} {mg : Str → Option Value} {base : Heap}
def spPools : Sp := fun vs H Q _ => ∃ b g : Addr, vs = [.ref b] ∧ DealAt H b g ∧ ∀ (a : Addr) (d : Pool) (H' : Hp), d ∈ poolsD → DealAt H' b g → Kd b g H H' → PoolAt (dif H H') a d → Q (.ref a) H'
theorem scPools : FnScope ["_law_deal_here", "_law_first", "_law_second", "_law_third"] ["_law_deal_here"] (defScope sPools) := ⟨rfl, rfl, rfl, by decide +kernel, rfl, by decide +kernel, by decide +kernel⟩
theorem ok_pools {f : Addr} {fd : FuncData} (F : Fun K "_law_pools" "_law_pools" sPools f fd) (T : TDraw K mg) : FnOk P w K mg base CX0 3 f fd ["_law_deal_here"] spPools := by
  refine F.ok scPools (fun vs H Q E h => ?_) (fun cdv A outer s H vs Q E hr h => ?_)
  · obtain ⟨b, g, rfl, _⟩ := h
    rfl
  · obtain ⟨b, g, rfl, hB, k⟩ := h
    refine ⟨_, pss_cons (ps_set (i := 1) scPools.nd rfl (Or.inl rfl) (pe_lst (pa_cons (pe_lst (pa_cons pe_str (pa_cons pe_str (pa_cons pe_str pa_nil)))) (pa_cons (pe_lst (pa_cons pe_str (pa_cons pe_str (pa_cons pe_str (pa_cons pe_str pa_nil))))) (pa_cons (pe_lst (pa_cons pe_str (pa_cons pe_str pa_nil))) (pa_cons (pe_lst (pa_cons pe_str (pa_cons pe_str pa_nil))) pa_nil))))))
      (pss_cons (ps_set (i := 2) scPools.nd rfl (Or.inl rfl) (pe_lst (pa_cons (pe_lst (pa_cons pe_str (pa_cons pe_str (pa_cons pe_str pa_nil)))) (pa_cons (pe_lst (pa_cons pe_str (pa_cons pe_str (pa_cons pe_str (pa_cons pe_str pa_nil))))) (pa_cons (pe_lst (pa_cons pe_str (pa_cons pe_str pa_nil))) (pa_cons (pe_lst (pa_cons pe_str (pa_cons pe_str pa_nil))) pa_nil))))))
      (pss_cons (ps_set (i := 3) scPools.nd rfl (Or.inl rfl) (pe_lst (pa_cons (pe_lst (pa_cons pe_str (pa_cons pe_str (pa_cons pe_str pa_nil)))) (pa_cons (pe_lst (pa_cons pe_str (pa_cons pe_str (pa_cons pe_str (pa_cons pe_str pa_nil))))) (pa_cons (pe_lst (pa_cons pe_str (pa_cons pe_str pa_nil))) (pa_cons (pe_lst (pa_cons pe_str (pa_cons pe_str pa_nil))) pa_nil))))))
      (pss_one (ps_ret (pe_call T.okOne hr rfl T.one.m T.one.F.kp T.one.b .nil pass0 (pa_cons (pv 0) (pa_cons (pe_lst (pa_cons (pv 1) (pa_cons (pv 2) (pa_cons (pv 3) pa_nil)))) pa_nil))))))), ?_⟩
    refine ⟨(by show 3 ≤ sizeLine; decide), fun a00 h1 => ?_⟩
    refine ⟨(by show 4 ≤ sizeLine; decide), fun a01 h2 => ?_⟩
    refine ⟨(by show 2 ≤ sizeLine; decide), fun a02 h3 => ?_⟩
    refine ⟨(by show 2 ≤ sizeLine; decide), fun a03 h4 => ?_⟩
    refine ⟨(by show 4 ≤ sizeLine; decide), fun p0 h5 => ?_⟩
    refine ⟨(by show 3 ≤ sizeLine; decide), fun a10 h6 => ?_⟩
    refine ⟨(by show 4 ≤ sizeLine; decide), fun a11 h7 => ?_⟩
    refine ⟨(by show 2 ≤ sizeLine; decide), fun a12 h8 => ?_⟩
    refine ⟨(by show 2 ≤ sizeLine; decide), fun a13 h9 => ?_⟩
    refine ⟨(by show 4 ≤ sizeLine; decide), fun p1 h10 => ?_⟩
    refine ⟨(by show 3 ≤ sizeLine; decide), fun a20 h11 => ?_⟩
    refine ⟨(by show 4 ≤ sizeLine; decide), fun a21 h12 => ?_⟩
    refine ⟨(by show 2 ≤ sizeLine; decide), fun a22 h13 => ?_⟩
    refine ⟨(by show 2 ≤ sizeLine; decide), fun a23 h14 => ?_⟩
    refine ⟨(by show 4 ≤ sizeLine; decide), fun p2 h15 => ?_⟩
    refine ⟨_, rfl, _, rfl, _, rfl, _, rfl, (by show 3 ≤ sizeLine; decide), fun q h16 => ?_⟩
    have hb15 := fun o => (((((((((((((((hB.new h1).new h2).new h3).new h4).new h5).new h6).new h7).new h8).new h9).new h10).new h11).new h12).new h13).new h14).new (o := o) h15)
    have kq : ∀ o, Kd b g H _ := fun o => ((((((((((((((((Kd.refl b g H).new h1).new h2).new h3).new h4).new h5).new h6).new h7).new h8).new h9).new h10).new h11).new h12).new h13).new h14).new h15).new (o := o) h16
    have f_a00 : H a00 = none := h1
    have f_a01 : H a01 = none := Same.free (Same.new h1) h2
    have f_a02 : H a02 = none := Same.free ((Same.new h1).trans (Same.new h2)) h3
    have f_a03 : H a03 = none := Same.free (((Same.new h1).trans (Same.new h2)).trans (Same.new h3)) h4
    have f_p0 : H p0 = none := Same.free ((((Same.new h1).trans (Same.new h2)).trans (Same.new h3)).trans (Same.new h4)) h5
    have f_a10 : H a10 = none := Same.free (((((Same.new h1).trans (Same.new h2)).trans (Same.new h3)).trans (Same.new h4)).trans (Same.new h5)) h6
    have f_a11 : H a11 = none := Same.free ((((((Same.new h1).trans (Same.new h2)).trans (Same.new h3)).trans (Same.new h4)).trans (Same.new h5)).trans (Same.new h6)) h7
    have f_a12 : H a12 = none := Same.free (((((((Same.new h1).trans (Same.new h2)).trans (Same.new h3)).trans (Same.new h4)).trans (Same.new h5)).trans (Same.new h6)).trans (Same.new h7)) h8
    have f_a13 : H a13 = none := Same.free ((((((((Same.new h1).trans (Same.new h2)).trans (Same.new h3)).trans (Same.new h4)).trans (Same.new h5)).trans (Same.new h6)).trans (Same.new h7)).trans (Same.new h8)) h9
    have f_p1 : H p1 = none := Same.free (((((((((Same.new h1).trans (Same.new h2)).trans (Same.new h3)).trans (Same.new h4)).trans (Same.new h5)).trans (Same.new h6)).trans (Same.new h7)).trans (Same.new h8)).trans (Same.new h9)) h10
    have f_a20 : H a20 = none := Same.free ((((((((((Same.new h1).trans (Same.new h2)).trans (Same.new h3)).trans (Same.new h4)).trans (Same.new h5)).trans (Same.new h6)).trans (Same.new h7)).trans (Same.new h8)).trans (Same.new h9)).trans (Same.new h10)) h11
    have f_a21 : H a21 = none := Same.free (((((((((((Same.new h1).trans (Same.new h2)).trans (Same.new h3)).trans (Same.new h4)).trans (Same.new h5)).trans (Same.new h6)).trans (Same.new h7)).trans (Same.new h8)).trans (Same.new h9)).trans (Same.new h10)).trans (Same.new h11)) h12
    have f_a22 : H a22 = none := Same.free ((((((((((((Same.new h1).trans (Same.new h2)).trans (Same.new h3)).trans (Same.new h4)).trans (Same.new h5)).trans (Same.new h6)).trans (Same.new h7)).trans (Same.new h8)).trans (Same.new h9)).trans (Same.new h10)).trans (Same.new h11)).trans (Same.new h12)) h13
    have f_a23 : H a23 = none := Same.free (((((((((((((Same.new h1).trans (Same.new h2)).trans (Same.new h3)).trans (Same.new h4)).trans (Same.new h5)).trans (Same.new h6)).trans (Same.new h7)).trans (Same.new h8)).trans (Same.new h9)).trans (Same.new h10)).trans (Same.new h11)).trans (Same.new h12)).trans (Same.new h13)) h14
    have f_p2 : H p2 = none := Same.free ((((((((((((((Same.new h1).trans (Same.new h2)).trans (Same.new h3)).trans (Same.new h4)).trans (Same.new h5)).trans (Same.new h6)).trans (Same.new h7)).trans (Same.new h8)).trans (Same.new h9)).trans (Same.new h10)).trans (Same.new h11)).trans (Same.new h12)).trans (Same.new h13)).trans (Same.new h14)) h15
    refine ⟨b, g, q, _, rfl, (hb15 _).new h16, SqL.of upd_same, (hb15 _).nb h16, (by show 0 < 3; decide), (by show 3 < 1000000; decide), fun v H' hv hB' hk _ => ?_⟩
    have g_a00 := hk a00 _ (Same.new h16 a00 _ (Same.new h15 a00 _ (Same.new h14 a00 _ (Same.new h13 a00 _ (Same.new h12 a00 _ (Same.new h11 a00 _ (Same.new h10 a00 _ (Same.new h9 a00 _ (Same.new h8 a00 _ (Same.new h7 a00 _ (Same.new h6 a00 _ (Same.new h5 a00 _ (Same.new h4 a00 _ (Same.new h3 a00 _ (Same.new h2 a00 _ upd_same))))))))))))))) (hB.nd f_a00)
    have g_a01 := hk a01 _ (Same.new h16 a01 _ (Same.new h15 a01 _ (Same.new h14 a01 _ (Same.new h13 a01 _ (Same.new h12 a01 _ (Same.new h11 a01 _ (Same.new h10 a01 _ (Same.new h9 a01 _ (Same.new h8 a01 _ (Same.new h7 a01 _ (Same.new h6 a01 _ (Same.new h5 a01 _ (Same.new h4 a01 _ (Same.new h3 a01 _ upd_same)))))))))))))) (hB.nd f_a01)
    have g_a02 := hk a02 _ (Same.new h16 a02 _ (Same.new h15 a02 _ (Same.new h14 a02 _ (Same.new h13 a02 _ (Same.new h12 a02 _ (Same.new h11 a02 _ (Same.new h10 a02 _ (Same.new h9 a02 _ (Same.new h8 a02 _ (Same.new h7 a02 _ (Same.new h6 a02 _ (Same.new h5 a02 _ (Same.new h4 a02 _ upd_same))))))))))))) (hB.nd f_a02)
    have g_a03 := hk a03 _ (Same.new h16 a03 _ (Same.new h15 a03 _ (Same.new h14 a03 _ (Same.new h13 a03 _ (Same.new h12 a03 _ (Same.new h11 a03 _ (Same.new h10 a03 _ (Same.new h9 a03 _ (Same.new h8 a03 _ (Same.new h7 a03 _ (Same.new h6 a03 _ (Same.new h5 a03 _ upd_same)))))))))))) (hB.nd f_a03)
    have g_p0 := hk p0 _ (Same.new h16 p0 _ (Same.new h15 p0 _ (Same.new h14 p0 _ (Same.new h13 p0 _ (Same.new h12 p0 _ (Same.new h11 p0 _ (Same.new h10 p0 _ (Same.new h9 p0 _ (Same.new h8 p0 _ (Same.new h7 p0 _ (Same.new h6 p0 _ upd_same))))))))))) (hB.nd f_p0)
    have g_a10 := hk a10 _ (Same.new h16 a10 _ (Same.new h15 a10 _ (Same.new h14 a10 _ (Same.new h13 a10 _ (Same.new h12 a10 _ (Same.new h11 a10 _ (Same.new h10 a10 _ (Same.new h9 a10 _ (Same.new h8 a10 _ (Same.new h7 a10 _ upd_same)))))))))) (hB.nd f_a10)
    have g_a11 := hk a11 _ (Same.new h16 a11 _ (Same.new h15 a11 _ (Same.new h14 a11 _ (Same.new h13 a11 _ (Same.new h12 a11 _ (Same.new h11 a11 _ (Same.new h10 a11 _ (Same.new h9 a11 _ (Same.new h8 a11 _ upd_same))))))))) (hB.nd f_a11)
    have g_a12 := hk a12 _ (Same.new h16 a12 _ (Same.new h15 a12 _ (Same.new h14 a12 _ (Same.new h13 a12 _ (Same.new h12 a12 _ (Same.new h11 a12 _ (Same.new h10 a12 _ (Same.new h9 a12 _ upd_same)))))))) (hB.nd f_a12)
    have g_a13 := hk a13 _ (Same.new h16 a13 _ (Same.new h15 a13 _ (Same.new h14 a13 _ (Same.new h13 a13 _ (Same.new h12 a13 _ (Same.new h11 a13 _ (Same.new h10 a13 _ upd_same))))))) (hB.nd f_a13)
    have g_p1 := hk p1 _ (Same.new h16 p1 _ (Same.new h15 p1 _ (Same.new h14 p1 _ (Same.new h13 p1 _ (Same.new h12 p1 _ (Same.new h11 p1 _ upd_same)))))) (hB.nd f_p1)
    have g_a20 := hk a20 _ (Same.new h16 a20 _ (Same.new h15 a20 _ (Same.new h14 a20 _ (Same.new h13 a20 _ (Same.new h12 a20 _ upd_same))))) (hB.nd f_a20)
    have g_a21 := hk a21 _ (Same.new h16 a21 _ (Same.new h15 a21 _ (Same.new h14 a21 _ (Same.new h13 a21 _ upd_same)))) (hB.nd f_a21)
    have g_a22 := hk a22 _ (Same.new h16 a22 _ (Same.new h15 a22 _ (Same.new h14 a22 _ upd_same))) (hB.nd f_a22)
    have g_a23 := hk a23 _ (Same.new h16 a23 _ (Same.new h15 a23 _ upd_same)) (hB.nd f_a23)
    have g_p2 := hk p2 _ (Same.new h16 p2 _ upd_same) (hB.nd f_p2)
    have kp := (kq _).trans hk
    clear hk kq h1 h2 h3 h4 h5 h6 h7 h8 h9 h10 h11 h12 h13 h14 h15 h16
    simp only [List.mem_cons, List.not_mem_nil, or_false] at hv
    rcases hv with rfl | rfl | rfl
    · exact k _ ⟨["c", "f", "r"], ["p", "pic", "fig", "text"], ["x", "y"], ["cat", "dog"]⟩ H' (List.mem_cons_self) hB' kp ⟨a00, a01, a02, a03, dif_new f_p0 g_p0, dif_new f_a00 g_a00, dif_new f_a01 g_a01, dif_new f_a02 g_a02, dif_new f_a03 g_a03⟩
    · exact k _ ⟨["a", "ab", "abc"], ["a", "aa", "ab", "b"], ["b", "bb"], ["a", "z"]⟩ H' (List.mem_cons_of_mem _ List.mem_cons_self) hB' kp ⟨a10, a11, a12, a13, dif_new f_p1 g_p1, dif_new f_a10 g_a10, dif_new f_a11 g_a11, dif_new f_a12 g_a12, dif_new f_a13 g_a13⟩
    · exact k _ ⟨["n", "nn", "m"], ["z", "y", "x", "w"], ["n", "o"], ["x", "n"]⟩ H' (List.mem_cons_of_mem _ (List.mem_cons_of_mem _ List.mem_cons_self)) hB' kp ⟨a20, a21, a22, a23, dif_new f_p2 g_p2, dif_new f_a20 g_a20, dif_new f_a21 g_a21, dif_new f_a22 g_a22, dif_new f_a23 g_a23⟩
end
end Pn

namespace Pn
open PySem PySem.Spec PyProof.Rows L2 TL
abbrev sCounters : Stmt := top 70
/-- counters as they stand: a list of pairs -/
def CsAt (H : Hp) (c : Addr) (cs : List (Str × Str)) : Prop := ∃ ts : List Addr, H c = some (.lst (ts.map V.ref)) ∧ Paired (fun t p => H t = some (.tup [.str p.1, .str p.2])) ts cs
/-- each upper one stands ahead -/
def TreeOk (cs : List (Str × Str)) : Prop := ∀ (i : Nat) (p : Str × Str), cs[i]? = some p → p.2 = "" ∨ p.2 ∈ (cs.take i).map (·.1)
theorem tree_snoc {cs : List (Str × Str)} {p : Str × Str} (h : TreeOk cs) (hp : p.2 = "" ∨ p.2 ∈ cs.map (·.1)) : TreeOk (cs ++ [p]) := fun i q hq => by
  by_cases hi : i < cs.length
  · rw [List.getElem?_append_left hi] at hq
    rcases h i q hq with e | e
    · exact .inl e
    · refine .inr ?_
      rw [List.take_append_of_le_length (by omega)]
      exact e
  · rw [List.getElem?_append_right (by omega)] at hq
    have h0 : i - cs.length = 0 := by
      cases h1 : i - cs.length with
      | zero => rfl
      | succ n => rw [h1] at hq; simp at hq
    rw [h0] at hq
    have e : p = q := by simpa using hq
    subst e
    rcases hp with e | e
    · exact .inl e
    · refine .inr ?_
      rw [show i = cs.length by omega, List.take_left']
      · exact e
      · rfl
theorem paired_mono {α β : Type} {R S : α → β → Prop} (h : ∀ a b, R a b → S a b) : ∀ {l : List α} {m : List β}, Paired R l m → Paired S l m
  | _, _, .nil => .nil
  | _, _, .cons a b => .cons (h _ _ a) (paired_mono h b)
theorem paired_snoc {α β : Type} {R : α → β → Prop} {x : α} {y : β} (h : R x y) : ∀ {l : List α} {m : List β}, Paired R l m → Paired R (l ++ [x]) (m ++ [y])
  | _, _, .nil => .cons h .nil
  | _, _, .cons a b => .cons a (paired_snoc h b)
theorem paired_at {α β : Type} {R : α → β → Prop} : ∀ {l : List α} {m : List β} {i : Nat} {x : α}, Paired R l m → l[i]? = some x → ∃ y, m[i]? = some y ∧ R x y
  | _, _, _, _, .nil, h => by simp at h
  | _, _, 0, _, .cons a _, h => by
    have e := Option.some.inj h
    subst e
    exact ⟨_, rfl, a⟩
  | _, _, i + 1, _, .cons _ b, h => paired_at (i := i) b h
theorem paired_len {α β : Type} {R : α → β → Prop} : ∀ {l : List α} {m : List β}, Paired R l m → l.length = m.length
  | _, _, .nil => rfl
  | _, _, .cons _ b => by rw [List.length_cons, List.length_cons, paired_len b]
section
variable {P : Program} {w : World} {K : PySem.W.Frag} {mg : Str → Option Value} {base : Heap}
structure TCnt (K : PySem.W.Frag) (mg : Str → Option Value) : Type extends TDraw K mg where
  mR : mg "range" = none
  counters : At K mg "_law_counters" sCounters ["_law_deal_here", "_law_pool", "_law_many"]
def spCounters (K : PySem.W.Frag) : Sp := fun vs H Q _ => ∃ (b g p : Addr) (m : Nat) (l : List Str), vs = [.ref b, .ref p, .int (m : Int)] ∧ DealAt H b g ∧ SqL K H p (l.map V.str) ∧ Nb b g p ∧ 0 < m ∧ m ≤ l.length ∧ l.length ≤ 100 ∧
  ∀ (c : Addr) (cs : List (Str × Str)) (H' : Hp), Kd b g H H' → DealAt H' b g → CsAt (dif H H') c cs → 0 < cs.length → cs.length ≤ m → cs.map (·.1) = l.take cs.length → TreeOk cs → Q (.ref c) H'
theorem scCounters : FnScope ["_law_deal_here", "_law_pool", "_law_many", "_law_found", "_law_at", "_law_uppers", "_law_name", "_law_upper"] ["_law_deal_here", "_law_pool", "_law_many"] (defScope sCounters) := ⟨rfl, rfl, rfl, by decide +kernel, rfl, by decide +kernel, by decide +kernel⟩
theorem ok_counters (T : TCnt K mg) : FnOk P w K mg base CX0 3 T.counters.f T.counters.fd ["_law_deal_here", "_law_pool", "_law_many"] (spCounters K) := by
  refine T.counters.F.ok scCounters (fun vs H Q E h => ?_) (fun cdv A outer s H vs Q E hr h => ?_)
  · obtain ⟨b, g, p, m, l, rfl, _⟩ := h
    rfl
  · obtain ⟨b, g, p, m, l, rfl, hB, hp, npb, m0, m1, hl, q⟩ := h
    refine ⟨_, pss_cons (ps_set (i := 3) scCounters.nd rfl (Or.inl rfl) (pe_lst pa_nil))
      (pss_cons (ps_for PassesOwn.never rfl (pi_range1 rfl T.mR (pa_cons (pe_op op_add pe_int (pe_call T.okChoose (hr.mono (by decide)) rfl T.choose.m T.choose.F.kp T.choose.b .nil pass0 (pa_cons (pv 0) (pa_cons (pv 2) pa_nil)))) pa_nil)) (pg_name (i := 4) scCounters.nd rfl (Or.inl rfl))
        (pss_cons (ps_set (i := 5) scCounters.nd rfl (Or.inl rfl) (pe_op op_cat (pe_lst (pa_cons pe_str pa_nil)) (pe_lc (own := [("_law_name", 6), ("_law_upper", 7)]) (g := gTup K 2 (gCons (gName 6) (gCons (gName 7) gNil))) (tt := tYes) (by rfl) scCounters.nd (pi_list (pv 3))
            (blkOk_by (N := ["_law_deal_here", "_law_pool", "_law_many", "_law_found", "_law_at", "_law_uppers", "_law_name", "_law_upper"]) (sc := defScope sCounters) (by decide +kernel))
            (fun _ _ _ _ _ => pg_tup (by rfl) (pgs_cons (pg_name (i := 6) scCounters.nd rfl (Or.inl rfl)) (pgs_cons (pg_name (i := 7) scCounters.nd rfl (Or.inl rfl)) pgs_nil))) (fun _ _ _ _ _ => pts_nil) (fun _ _ _ _ _ => pv 6))))
        (pss_one (ps_expr (pe_bm PySem.F.plainAttrs_list PySem.F.slot_list_append PySem.F.type_list_append mt_append (pv 3) (pa_cons (pe_tup (pa_cons (pe_ix ix_list (pv 1) (pv 4) (fun _ _ => rfl)) (pa_cons (pe_call T.okOne (hr.mono (by decide)) rfl T.one.m T.one.F.kp T.one.b .nil pass0 (pa_cons (pv 0) (pa_cons (pe_op op_cat (pv 5) (pe_slice sl_list (pv 5) (po_some pe_int) po_none)) pa_nil))) pa_nil))) pa_nil))))))
      (pss_one (ps_ret (pv 3)))), ?_⟩
    refine ⟨Nat.zero_le _, fun F hF => ?_⟩
    have hFb : Nb b g F := hB.nb hF
    refine ⟨_, rfl, _, rfl, b, g, (m : Int), rfl, hB.new hF, by omega, by omega, fun r H2 r0 r1 hB2 kp2 _ => ?_⟩
    have kpH2 : Kd b g H H2 := ((Kd.refl b g H).new hF).trans kp2
    have hF2 : H2 F = some (.lst []) := kp2 F _ upd_same hFb
    refine ⟨_, _, rfl, rfl, _, rfl, by omega, by omega, for_range (lo := 0) (fun i σ Hi => ∃ x4 x5 x6 x7 cs ts, σ = [some (.ref b), some (.ref p), some (.int (m : Int)), some (.ref F), x4, x5, x6, x7] ∧ Kd b g H Hi ∧ DealAt Hi b g ∧ Hi F = some (.lst ((ts : List Addr).map V.ref)) ∧
      Paired (fun t p => dif H Hi t = some (.tup [.str p.1, .str p.2])) ts cs ∧ cs.length = i ∧ cs.map (·.1) = l.take i ∧ TreeOk cs) ⟨_, _, _, _, [], [], rfl, kpH2, hB2, hF2, .nil, rfl, rfl, fun i p h => by simp at h⟩ (fun i σ Hi hi hP => ?turn) (fun σ Hi hP => ?fin)⟩
    case fin =>
      obtain ⟨x4, x5, x6, x7, cs, ts, rfl, kp, hBi, hFi, hpd, hlen, htk, hT⟩ := hP
      refine ⟨_, rfl, ?_⟩
      have hn : cs.length = (1 + r).toNat := hlen
      exact q F cs Hi kp hBi ⟨ts, dif_new hF hFi, hpd⟩ (by omega) (by omega) (by rw [hn]; exact htk) hT
    case turn =>
      obtain ⟨x4, x5, x6, x7, cs, ts, rfl, kp, hBi, hFi, hpd, hlen, htk, hT⟩ := hP
      have hi2 : i < m := by omega
      have hil : i < l.length := by omega
      have hts : ts.length = i := by rw [paired_len hpd, hlen]
      have hpi : SqL K Hi p (l.map V.str) := kp.sql npb hp
      refine ⟨(by show 1 ≤ sizeLine; decide), fun u0 hu0 => ?_⟩
      have hF3 := fun o => Same.new (o := o) hu0 F _ hFi
      refine ⟨_, rfl, F, rfl, ⟨_, SqL.of (hF3 _)⟩, fun D hD => lc_list (K := K) (a := F) (xs := ts.map V.ref) (fun j Hj => Hj = upd (upd Hi u0 (.lst [.str ""])) D (.lst ((List.range j).map fun j => .str ((cs.map (·.1)).getD j "")))) rfl (fun j Hj _ hP => ?stays) (fun j x Hj hj hP => ?cturn) (fun Hj hP => ?cend)⟩
      case stays =>
        subst hP
        exact SqL.of (Same.new hD F _ (hF3 _))
      case cturn =>
        subst hP
        obtain ⟨t, ht, rfl⟩ : ∃ t, ts[j]? = some t ∧ x = V.ref t := by
          rw [List.getElem?_map] at hj
          cases hk : ts[j]? with
          | none => rw [hk] at hj; cases hj
          | some t => rw [hk] at hj; exact ⟨t, rfl, (Option.some.inj hj).symm⟩
        obtain ⟨pr, hpr, htt⟩ := paired_at hpd ht
        have htH := (dif_eq.mp htt).2
        have htD := Same.new (o := .lst ((List.range j).map fun j => .str ((cs.map (·.1)).getD j ""))) hD t _ (Same.new hu0 t _ htH)
        have hjl : j < ts.length := (List.getElem?_eq_some_iff.mp ht).1
        have fin := lc_step (H1 := upd Hi u0 (.lst [.str ""])) (D := D) (f := fun j => .str ((cs.map (·.1)).getD j "")) (i := j) (by omega)
        have hg : (cs.map (·.1)).getD j ("" : Str) = pr.1 := by
          rw [List.getD_eq_getElem?_getD, List.getElem?_map, hpr]
          rfl
        rw [hg] at fin
        exact ⟨t, _, rfl, SqT.of htD, rfl, _, _, rfl, _, _, rfl, rfl, rfl, _, rfl, fin⟩
      case cend =>
        subst hP
        have hnames : ((List.range (ts.map V.ref).length).map fun j => V.str ((cs.map (·.1)).getD j "")) = (cs.map (·.1)).map V.str := by
          apply List.ext_getElem
          · simp [hts, hlen]
          · intro k h1 h2
            have h3 : k < cs.length := by simpa using h2
            simp [List.getD_eq_getElem?_getD, List.getElem?_eq_getElem h3]
        rw [hnames]
        generalize hG : upd (upd Hi u0 (.lst [.str ""])) D (.lst ((cs.map (·.1)).map V.str)) = G
        have sG : Same Hi G := by rw [← hG]; exact (Same.new hu0).trans (Same.new hD)
        have gu : G u0 = some (.lst [.str ""]) := by rw [← hG]; exact Same.new hD u0 _ upd_same
        have gD : G D = some (.lst ((cs.map (·.1)).map V.str)) := by rw [← hG]; exact upd_same
        clear hG
        have hln : ((cs.map (·.1)).map V.str).length = i := by rw [List.length_map, List.length_map, hlen]
        refine ⟨u0, D, _, _, rfl, rfl, gu, gD, Nat.le_trans (show _ ≤ 101 by rw [hln]; simp; omega) (by decide), fun U hU => ?_⟩
        -- found.append((pool[at], one_of(box, uppers + uppers[1:])))
        have hul : ([.str ""] ++ (cs.map (·.1)).map V.str : List V).length = i + 1 := by rw [List.length_append, hln]; simp; omega
        have hp5 : ∀ o, SqL K (upd G U o) p (l.map V.str) := fun o => (Same.new hU).seq (sG.seq hpi)
        have hF5 : ∀ o, (upd G U o) F = some (.lst (ts.map V.ref)) := fun o => Same.new hU F _ (sG F _ hFi)
        have hB5 : ∀ o, DealAt (upd G U o) b g := fun o => (hBi.same sG).new hU
        refine ⟨_, rfl, .inl ⟨rfl, _, SqL.of (hF5 _)⟩, _, rfl, _, rfl, p, _, _, .str l[i], rfl, rfl, hp5 _, ?at_, _, rfl, _, rfl, _, rfl, 1, rfl, U, _, rfl, SqL.of upd_same, fun S hS => ?_⟩
        case at_ =>
          rw [Int.zero_add]
          exact atI_nat (by rw [List.getElem?_map, List.getElem?_eq_getElem hil]; rfl)
        have hcl := cutV_length ([.str ""] ++ (cs.map (·.1)).map V.str) (some 1) none
        refine ⟨U, S, _, _, rfl, rfl, Same.new hS U _ upd_same, upd_same, Nat.le_trans (show _ ≤ 202 by rw [hul] at hcl ⊢; omega) (by decide), fun W hW => ?_⟩
        have hB6 := fun o => ((hB5 _).new hS).new (o := o) hW
        refine ⟨b, g, W, _, rfl, hB6 _, SqL.of upd_same, ((hB5 _).new hS).nb hW, by rw [List.length_append, hul]; omega, by rw [List.length_append, hul]; rw [hul] at hcl; omega, fun v H' hv hB' hk' _ => ?_⟩
        have hv2 : v ∈ ([.str ""] ++ (cs.map (·.1)).map V.str : List V) := by
          rcases List.mem_append.mp hv with h | h
          · exact h
          · unfold cutV at h
            exact List.mem_of_mem_drop (List.mem_of_mem_take h)
        obtain ⟨uu, rfl, huu⟩ : ∃ uu : Str, v = .str uu ∧ (uu = "" ∨ uu ∈ cs.map (·.1)) := by
          rcases List.mem_append.mp hv2 with h | h
          · exact ⟨"", List.mem_singleton.mp h, .inl rfl⟩
          · obtain ⟨uu, h1, h2⟩ := List.mem_map.mp h
            exact ⟨uu, h2.symm, .inr h1⟩
        refine ⟨(by show 2 ≤ sizeLine; decide), fun t ht => ?_⟩
        -- all that stood in Hi but the box stands
        have kk : Kd b g Hi H' := (((Kd.same sG).new hU).new hS |>.new hW).trans hk'
        have kkt : Kd b g Hi (upd H' t (.tup [.str l[i], .str uu])) := kk.new ht
        have hFt : upd H' t (.tup [.str l[i], .str uu]) F = some (.lst (ts.map V.ref)) := kkt F _ hFi hFb
        have htH : H t = none := (kp.trans kk).mo hB' t ht
        have hFne : F ≠ t := fun z => by
          have z2 := kk F _ hFi hFb
          rw [z, ht] at z2
          cases z2
        refine ⟨F, ts.map V.ref, .ref t, rfl, rfl, hFt, small1000 (by rw [List.length_map]; omega), ?_⟩
        refine ⟨_, _, _, _, cs ++ [(l[i], uu)], ts ++ [t], rfl, fun a o ea na => ?_, (hB'.new ht).upd hFb.1 hFb.2, ?_, ?_, ?_, ?_, tree_snoc hT huu⟩
        · rw [upd_ne (fun z => by rw [z, hF] at ea; cases ea)]
          exact (kp.trans kkt) a o ea na
        · rw [upd_same, List.map_append]
          rfl
        · refine paired_snoc ?_ (paired_mono (fun a pr e => ?_) hpd)
          · refine dif_new htH ?_
            rw [upd_ne hFne.symm]
            exact upd_same
          · obtain ⟨e0, e1⟩ := dif_eq.mp e
            have nab : Nb b g a := hB.nd e0
            refine dif_new e0 ?_
            have naF : a ≠ F := fun z => by
              rw [z, hFi] at e1
              cases e1
            rw [upd_ne naF]
            exact kkt a _ e1 nab
        · rw [List.length_append, hlen]
          rfl
        · rw [List.map_append, htk, List.take_add_one, List.getElem?_eq_getElem hil]
          rfl
end
end Pn

namespace Pn
open PySem PySem.Spec PyProof.Rows L2 TL
abbrev sLRow : Stmt := top 71
/-- a row as the tuple that the law draws -/
def rowTup : RowD → List V
  | .note c l => [.str "note", .str c, .str l]
  | .skip c n => [.str "skip", .str c, .int (n : Int)]
  | .set c n => [.str "set", .str c, .int (n : Int)]
  | .keep c => [.str "keep", .str c]
  | .back c => [.str "back", .str c]
  | .ref c => [.str "ref", .str c]
  | .put c => [.str "put", .str c]
  | .opn c => [.str "open", .str c]
def rowFine (d : Pool) (cs : List (Str × Str)) (parts : List Str) : RowD → Prop
  | .note c l => c ∈ cs.map (·.1) ∧ (l = "" ∨ l ∈ d.l)
  | .skip c n => c ∈ cs.map (·.1) ∧ 1 ≤ n ∧ n ≤ 3
  | .set c n => c ∈ cs.map (·.1) ∧ n ≤ 3
  | .keep c => c ∈ cs.map (·.1)
  | .back c => c ∈ cs.map (·.1)
  | .ref _ => False
  | .put p => p ∈ parts
  | .opn x => x ∈ d.x
theorem PoolAt.mono {H H' : Hp} {a : Addr} {d : Pool} (s : Same H H') (h : PoolAt H a d) : PoolAt H' a d := by
  obtain ⟨a0, a1, a2, a3, e, e0, e1, e2, e3⟩ := h
  exact ⟨a0, a1, a2, a3, s _ _ e, s _ _ e0, s _ _ e1, s _ _ e2, s _ _ e3⟩
theorem CsAt.mono {H H' : Hp} {a : Addr} {cs : List (Str × Str)} (s : Same H H') (h : CsAt H a cs) : CsAt H' a cs := by
  obtain ⟨ts, e, p⟩ := h
  exact ⟨ts, s _ _ e, paired_mono (fun _ _ z => s _ _ z) p⟩
theorem hid_ne {H : Hp} {b a : Addr} {o : HO} (h : hid H b a = some o) : a ≠ b := fun z => by
  unfold hid at h
  rw [if_pos z] at h
  cases h
theorem strsL_nil (l : List Str) : PyData.eqv (.list (l.map PyData.str)) (.list []) = l.isEmpty := by
  cases l <;> simp [PyData.eqv, PyData.eqvAll]
theorem dp_strL {K : PySem.W.Frag} {H : Hp} : ∀ l : List Str, DpAll K H (l.map V.str) (l.map PyData.str)
  | [] => .nil
  | x :: l => .cons (.str x) (dp_strL l)
theorem strL_sh {l : List Str} (h : ∀ x ∈ l, PyData.strOk x = true) : SeqAt.shaped (.list (l.map PyData.str)) = true := by
  have q : ∀ m : List Str, (∀ x ∈ m, PyData.strOk x = true) → PyData.canLayAll0 (m.map PyData.str) = true ∧ PyData.depthAll (m.map PyData.str) = 0 := by
    intro m
    induction m with
    | nil => intro _; exact ⟨by simp [PyData.canLayAll0], by simp [PyData.depthAll]⟩
    | cons x m ih =>
      intro h
      have q := ih fun y hy => h y (List.mem_cons_of_mem _ hy)
      refine ⟨?_, by simp [PyData.depthAll, PyData.depth, q.2]⟩
      show (PyData.strOk x && PyData.canLayAll0 (m.map PyData.str)) = true
      rw [h x List.mem_cons_self, q.1]
      rfl
  have q := q l h
  show (PyData.canLay0 (.list (l.map PyData.str)) && decide (PyData.depth (.list (l.map PyData.str)) ≤ 64)) = true
  rw [Bool.and_eq_true]
  refine ⟨by simp only [PyData.canLay0]; exact q.1, decide_eq_true ?_⟩
  simp only [PyData.depth, q.2]
  decide
theorem name_ok {z : Str} (h : nameS z = true) : PyData.strOk z = true ∧ z.length ≤ 4 := by
  unfold nameS at h
  rw [Bool.and_eq_true, Bool.and_eq_true, Bool.and_eq_true] at h
  obtain ⟨⟨_, h2, h3⟩, h4⟩ := h
  refine ⟨strOk_tl.mpr fun c hc => ?_, by have := of_decide_eq_true h3; omega⟩
  have q := List.all_eq_true.mp h4 c hc
  unfold lok at q
  rw [Bool.and_eq_true] at q
  have := of_decide_eq_true q.2
  omega
section
variable {P : Program} {w : World} {K : PySem.W.Frag} {mg : Str → Option Value} {base : Heap}
structure TDRow (K : PySem.W.Frag) (mg : Str → Option Value) : Type extends TCnt K mg where
  pools : At K mg "_law_pools" sPools ["_law_deal_here"]
  row : At K mg "_law_row" sLRow ["_law_deal_here", "_law_pools_here", "_law_counters_here", "_law_parts"]
def spDRow (K : PySem.W.Frag) : Sp := fun vs H Q _ => ∃ (b g pp cc ps : Addr) (d : Pool) (cs : List (Str × Str)) (parts : List Str), vs = [.ref b, .ref pp, .ref cc, .ref ps] ∧ DealAt H b g ∧ PoolAt (hh H b g) pp d ∧ d ∈ poolsD ∧ CsAt (hh H b g) cc cs ∧ 0 < cs.length ∧ cs.length ≤ 100 ∧
  SqL K H ps (parts.map V.str) ∧ Nb b g ps ∧ parts.length ≤ 100 ∧ (∀ x ∈ parts, nameS x = true) ∧
  ∀ (t : Addr) (r : RowD) (H' : Hp), Kd b g H H' → DealAt H' b g → dif H H' t = some (.tup (rowTup r)) → rowFine d cs parts r → Q (.ref t) H'
theorem scLRow : FnScope ["_law_deal_here", "_law_pools_here", "_law_counters_here", "_law_parts", "_law_counter", "_law_form", "_law_label"] ["_law_deal_here", "_law_pools_here", "_law_counters_here", "_law_parts"] (defScope sLRow) := ⟨rfl, rfl, rfl, by decide +kernel, rfl, by decide +kernel, by decide +kernel⟩
theorem ok_drow (T : TDRow K mg) : FnOk P w K mg base CX0 3 T.row.f T.row.fd ["_law_deal_here", "_law_pools_here", "_law_counters_here", "_law_parts"] (spDRow K) := by
  refine T.row.F.ok scLRow (fun vs H Q E h => ?_) (fun cdv A outer s H vs Q E hr h => ?_)
  · obtain ⟨b, g, pp, cc, ps, d, cs, parts, rfl, _⟩ := h
    rfl
  · obtain ⟨b, g, pp, cc, ps, d, cs, parts, rfl, hB, hP, hd, hC, c0, c1, hS, npb, pl, pn, q⟩ := h
    refine ⟨_, pss_cons (ps_par (i := 4) (j := 5) (by rfl) scLRow.nd rfl rfl (by decide) rfl rfl (pa_cons (pe_ix ix_tup (pe_call T.okOne (hr.mono (by decide)) rfl T.one.m T.one.F.kp T.one.b .nil pass0 (pa_cons (pv 0) (pa_cons (pv 2) pa_nil))) pe_int (fun _ _ => rfl)) (pa_cons (pe_call T.okChoose (hr.mono (by decide)) rfl T.choose.m T.choose.F.kp T.choose.b .nil pass0 (pa_cons (pv 0) (pa_cons pe_int pa_nil))) pa_nil)) (by rfl))
      (pss_cons (ps_if (pt_cmpR op_lt (pv 5) pe_int (nomark _))
        (pss_cons (ps_set (i := 6) scLRow.nd rfl (Or.inl rfl) (pe_ifExp (pt_cmpR op_eq (pe_call T.okChoose (hr.mono (by decide)) rfl T.choose.m T.choose.F.kp T.choose.b .nil pass0 (pa_cons (pv 0) (pa_cons pe_int pa_nil))) pe_int (nomark _)) (pe_call T.okOne (hr.mono (by decide)) rfl T.one.m T.one.F.kp T.one.b .nil pass0 (pa_cons (pv 0) (pa_cons (pe_ix ix_list (pv 1) pe_int (fun _ _ => rfl)) pa_nil))) pe_str))
        (pss_one (ps_ret (pe_tup (pa_cons pe_str (pa_cons (pv 4) (pa_cons (pv 6) pa_nil))))))) pss_nil)
      (pss_cons (ps_if (pt_cmpR op_lt (pv 5) pe_int (nomark _))
        (pss_one (ps_ret (pe_call T.okOne (hr.mono (by decide)) rfl T.one.m T.one.F.kp T.one.b .nil pass0 (pa_cons (pv 0) (pa_cons (pe_lst (pa_cons (pe_tup (pa_cons pe_str (pa_cons (pv 4) (pa_cons (pe_op op_add pe_int (pe_call T.okChoose (hr.mono (by decide)) rfl T.choose.m T.choose.F.kp T.choose.b .nil pass0 (pa_cons (pv 0) (pa_cons pe_int pa_nil)))) pa_nil))))
          (pa_cons (pe_tup (pa_cons pe_str (pa_cons (pv 4) (pa_cons (pe_call T.okChoose (hr.mono (by decide)) rfl T.choose.m T.choose.F.kp T.choose.b .nil pass0 (pa_cons (pv 0) (pa_cons pe_int pa_nil))) pa_nil)))) pa_nil))) pa_nil))))) pss_nil)
      (pss_cons (ps_if (pt_cmpR op_lt (pv 5) pe_int (nomark _))
        (pss_one (ps_ret (pe_call T.okOne (hr.mono (by decide)) rfl T.one.m T.one.F.kp T.one.b .nil pass0 (pa_cons (pv 0) (pa_cons (pe_lst (pa_cons (pe_tup (pa_cons pe_str (pa_cons (pv 4) pa_nil))) (pa_cons (pe_tup (pa_cons pe_str (pa_cons (pv 4) pa_nil))) (pa_cons (pe_tup (pa_cons pe_str (pa_cons (pv 4) pa_nil))) pa_nil)))) pa_nil))))) pss_nil)
      (pss_cons (ps_if (PW.pt (pw_or (pt_cmpR op_eq (pv 5) pe_int (nomark _)) (pw_or1 (pt_cmpR (op_eqD hr.units) (pv 3) (pe_lst pa_nil) (nomark _)))))
        (pss_one (ps_ret (pe_tup (pa_cons pe_str (pa_cons (pe_call T.okOne (hr.mono (by decide)) rfl T.one.m T.one.F.kp T.one.b .nil pass0 (pa_cons (pv 0) (pa_cons (pe_ix ix_list (pv 1) pe_int (fun _ _ => rfl)) pa_nil))) pa_nil))))) pss_nil)
      (pss_one (ps_ret (pe_tup (pa_cons pe_str (pa_cons (pe_call T.okOne (hr.mono (by decide)) rfl T.one.m T.one.F.kp T.one.b .nil pass0 (pa_cons (pv 0) (pa_cons (pv 3) pa_nil))) pa_nil))))))))), ?_⟩
    obtain ⟨ts, hcl, hpd⟩ := hC
    have fl := pool_fine d hd
    have htl : ts.length = cs.length := paired_len hpd
    refine ⟨_, rfl, _, rfl, b, g, cc, ts.map V.ref, rfl, hB, SqL.of (hh_sub _ _ hcl), hh_nb hcl, by rw [List.length_map]; omega, by rw [List.length_map]; omega, fun v H1 hv hB1 k1 _ => ?_⟩
    obtain ⟨t, htm, rfl⟩ := List.mem_map.mp hv
    obtain ⟨it, hit⟩ := List.getElem?_of_mem htm
    obtain ⟨pr, hpr, htt⟩ := paired_at hpd hit
    have hc : pr.1 ∈ cs.map (·.1) := List.mem_map.mpr ⟨pr, List.mem_of_getElem? hpr, rfl⟩
    have ht1 := k1 t _ (hh_sub _ _ htt) (hh_nb htt)
    refine ⟨t, _, _, _, rfl, rfl, SqT.of ht1, rfl, ?_⟩
    refine ⟨_, rfl, b, g, 12, rfl, hB1, by decide, by decide, fun f H2 f0 f1 hB2 k2 _ => ⟨_, _, rfl, ?_⟩⟩
    have kp := k1.trans k2
    have hP2 := hP.mono (Kd.hh kp)
    clear ht1 k1 k2 hB1
    obtain ⟨a0, a1, a2, a3, ep, e0, e1, e2, e3⟩ := id hP2
    generalize pr.1 = c at hc ⊢
    refine ⟨_, rfl, _, _, rfl, rfl, _, rfl, ite2 (fun h5 => ?_) (fun h5 => ?_)⟩
    · try dsimp only
      refine stepSet (fun v' Hx => ∃ l, v' = .str l ∧ (l = "" ∨ l ∈ d.l) ∧ Kd b g H Hx ∧ DealAt Hx b g) (fun Q' hQ => ?lab) (fun v Hx hC => ?ret)
      case lab =>
        refine ⟨_, rfl, b, g, 3, rfl, hB2, by decide, by decide, fun r H3 r0 r1 hB3 k3 _ => ⟨rfl, _, rfl, ite2 (fun hz => ?_) (fun hz => ?_)⟩⟩
        · obtain ⟨b0, b1, b2, b3, dp, d0, d1, d2, d3⟩ := hP2.mono (Kd.hh k3)
          refine ⟨_, rfl, _, rfl, pp, _, _, .ref b3, rfl, rfl, SqL.of (hh_sub _ _ dp), rfl, b, g, b3, _, rfl, hB3, SqL.of (hh_sub _ _ d3), hh_nb d3, by rw [List.length_map, fl.ll]; decide, by rw [List.length_map, fl.ll]; decide, fun v H4 hv hB4 k4 _ => ?_⟩
          obtain ⟨l, hl, rfl⟩ := List.mem_map.mp hv
          exact hQ _ _ ⟨l, rfl, .inr hl, (kp.trans k3).trans k4, hB4⟩
        · exact hQ _ _ ⟨"", rfl, .inl rfl, kp.trans k3, hB3⟩
      case ret =>
        obtain ⟨l, rfl, hl, kx, hBx⟩ := hC
        refine ⟨_, rfl, _, rfl, (by show 3 ≤ sizeLine; decide), fun t ht => ?_⟩
        exact q t (.note c l) _ (kx.new ht) (hBx.new ht) (newAt kx hBx ht) ⟨hc, hl⟩
    refine ⟨_, rfl, _, _, rfl, rfl, _, rfl, ite2 (fun h7 => ?_) (fun h7 => ?_)⟩
    · refine ⟨_, rfl, _, rfl, _, rfl, b, g, 3, rfl, hB2, by decide, by decide, fun n H3 n0 n1 hB3 k3 _ => ⟨_, _, rfl, rfl, (by show 3 ≤ sizeLine; decide), fun t1 ht1 => ?_⟩⟩
      have k3' := kp.trans k3
      refine ⟨_, rfl, _, rfl, b, g, 4, rfl, hB3.new ht1, by decide, by decide, fun m H4 m0 m1 hB4 k4 _ => ⟨(by show 3 ≤ sizeLine; decide), fun t2 ht2 => ⟨(by show 2 ≤ sizeLine; decide), fun L hL => ?_⟩⟩⟩
      have g1 := fun o => Same.new (o := o) hL t1 _ (Same.new ht2 t1 _ (k4 t1 _ upd_same (hB3.nb ht1)))
      have g2 := fun o => Same.new (o := o) hL t2 _ upd_same
      have kL := fun o => (((k3'.new ht1).trans k4).new ht2).new (o := o) hL
      have hBL := fun o => (hB4.new ht2).new (o := o) hL
      have f1 : H t1 = none := by
        exact k3'.mo hB3 t1 ht1
      have f2 : H t2 = none := by
        exact ((k3'.new ht1).trans k4).mo hB4 t2 ht2
      have n1b := hB3.nb ht1
      have n2b := hB4.nb ht2
      refine ⟨b, g, L, _, rfl, hBL _, SqL.of upd_same, (hB4.new ht2).nb hL, by show 0 < 2; decide, by show 2 < 1000000; decide, fun v H' hv hB' k' _ => ?_⟩
      obtain ⟨n', rfl⟩ : ∃ n' : Nat, n = (n' : Int) := ⟨n.toNat, by omega⟩
      obtain ⟨m', rfl⟩ : ∃ m' : Nat, m = (m' : Int) := ⟨m.toNat, by omega⟩
      simp only [List.mem_cons, List.not_mem_nil, or_false] at hv
      rcases hv with rfl | rfl
      · refine q t1 (.skip c (1 + n')) _ ((kL _).trans k') hB' (dif_new f1 ?_) ⟨hc, by omega, by omega⟩
        have e := k' t1 _ (g1 _) n1b
        rw [e]
        show some (HO.tup [.str "skip", .str c, .int (1 + (n' : Int))]) = some (HO.tup [.str "skip", .str c, .int ((1 + n' : Nat) : Int)])
        rw [show ((1 + n' : Nat) : Int) = 1 + (n' : Int) by omega]
      · exact q t2 (.set c m') _ ((kL _).trans k') hB' (dif_new f2 (k' t2 _ (g2 _) n2b)) ⟨hc, by omega⟩
    refine ⟨_, rfl, _, _, rfl, rfl, _, rfl, ite2 (fun h9 => ?_) (fun h9 => ?_)⟩
    · refine ⟨_, rfl, _, rfl, (by show 2 ≤ sizeLine; decide), fun t1 ht1 => ⟨_, rfl, (by show 2 ≤ sizeLine; decide), fun t2 ht2 => ⟨_, rfl, (by show 2 ≤ sizeLine; decide), fun t3 ht3 => ⟨(by show 3 ≤ sizeLine; decide), fun L hL => ?_⟩⟩⟩⟩
      have g1 := fun o => Same.new (o := o) hL t1 _ (Same.new ht3 t1 _ (Same.new ht2 t1 _ upd_same))
      have g2 := fun o => Same.new (o := o) hL t2 _ (Same.new ht3 t2 _ upd_same)
      have g3 := fun o => Same.new (o := o) hL t3 _ upd_same
      have kL := fun o => (((kp.new ht1).new ht2).new ht3).new (o := o) hL
      have hBL := fun o => (((hB2.new ht1).new ht2).new ht3).new (o := o) hL
      have f1 : H t1 = none := kp.mo hB2 t1 ht1
      have f2 : H t2 = none := (kp.new ht1).mo (hB2.new ht1) t2 ht2
      have f3 : H t3 = none := ((kp.new ht1).new ht2).mo ((hB2.new ht1).new ht2) t3 ht3
      refine ⟨b, g, L, _, rfl, hBL _, SqL.of upd_same, (((hB2.new ht1).new ht2).new ht3).nb hL, by show 0 < 3; decide, by show 3 < 1000000; decide, fun v H' hv hB' k' _ => ?_⟩
      simp only [List.mem_cons, List.not_mem_nil, or_false] at hv
      rcases hv with rfl | rfl | rfl
      · exact q t1 (.keep c) _ ((kL _).trans k') hB' (dif_new f1 (k' t1 _ (g1 _) (hB2.nb ht1))) hc
      · exact q t2 (.back c) _ ((kL _).trans k') hB' (dif_new f2 (k' t2 _ (g2 _) ((hB2.new ht1).nb ht2))) hc
      · exact q t3 (.keep c) _ ((kL _).trans k') hB' (dif_new f3 (k' t3 _ (g3 _) (((hB2.new ht1).new ht2).nb ht3))) hc
    unfold tNext
    try dsimp only
    by_cases ho : f = 9 ∨ parts = []
    · refine stepYes (fun Hx => Kd b g H2 Hx ∧ DealAt Hx b g) (fun Q' hQ => ?ts) (fun Hx hx => ?op)
      case ts =>
        refine ⟨_, rfl, rfl, _, rfl, ?_⟩
        by_cases h : f = 9
        · exact iteTD (decide_eq_true (by rw [h])) (hQ _ ⟨Kd.refl b g H2, hB2⟩)
        · have hp : parts = [] := ho.resolve_left h
          refine iteFD (decide_eq_false fun z => h (V.int.inj z)) ?_
          subst hp
          refine ⟨_, rfl, (by show 0 ≤ sizeLine; decide), fun e he => ?_⟩
          have hS2 : SqL K H2 ps (([] : List Str).map V.str) := kp.sql npb hS
          refine ⟨.list [], .list [], .lst ((Same.new he).seq hS2) .nil, .lst (SqL.of upd_same) .nil, by decide +kernel, by decide +kernel, _, rfl, ?_⟩
          exact hQ _ ⟨(Kd.refl b g H2).new he, hB2.new he⟩
      case op =>
        obtain ⟨kx, hBx⟩ := hx
        obtain ⟨b0, b1, b2, b3, dp, d0, d1, d2, d3⟩ := hP2.mono (Kd.hh kx)
        refine ⟨_, rfl, _, rfl, pp, _, _, .ref b2, rfl, rfl, SqL.of (hh_sub _ _ dp), rfl, b, g, b2, _, rfl, hBx, SqL.of (hh_sub _ _ d2), hh_nb d2, by rw [List.length_map, fl.xl]; decide, by rw [List.length_map, fl.xl]; decide, fun v H4 hv hB4 k4 _ => ?_⟩
        obtain ⟨xn, hxn, rfl⟩ := List.mem_map.mp hv
        refine ⟨(by show 2 ≤ sizeLine; decide), fun t ht => ?_⟩
        have k5 := (kp.trans kx).trans k4
        exact q t (.opn xn) _ (k5.new ht) (hB4.new ht) (newAt k5 hB4 ht) hxn
    · have h : ¬ f = 9 := fun z => ho (.inl z)
      have hp : ¬ parts = [] := fun z => ho (.inr z)
      refine stepNo (fun Hx => Kd b g H2 Hx ∧ DealAt Hx b g) (fun Q' hQ => ?ts2) (fun Hx hx => ?put)
      case ts2 =>
        refine ⟨_, rfl, rfl, _, rfl, ?_⟩
        refine iteFD (decide_eq_false fun z => h (V.int.inj z)) ?_
        refine ⟨_, rfl, (by show 0 ≤ sizeLine; decide), fun e he => ?_⟩
        have hS2 := kp.sql npb hS
        refine ⟨.list (parts.map PyData.str), .list [], .lst ((Same.new he).seq hS2) (dp_strL _), .lst (SqL.of upd_same) .nil, strL_sh (fun x hx => (name_ok (pn x hx)).1), by decide +kernel, _, rfl, ?_⟩
        rw [strsL_nil]
        have : parts.isEmpty = false := by
          cases parts with
          | nil => exact absurd rfl hp
          | cons a l => rfl
        rw [this]
        exact hQ _ ⟨(Kd.refl b g H2).new he, hB2.new he⟩
      case put =>
        obtain ⟨kx, hBx⟩ := hx
        have k3 := kp.trans kx
        have hl0 : 0 < parts.length := List.length_pos_iff.mpr hp
        refine ⟨_, rfl, _, rfl, b, g, ps, _, rfl, hBx, k3.sql npb hS, npb, by rw [List.length_map]; exact hl0, by rw [List.length_map]; omega, fun v H4 hv hB4 k4 _ => ?_⟩
        obtain ⟨xn, hxn, rfl⟩ := List.mem_map.mp hv
        refine ⟨(by show 2 ≤ sizeLine; decide), fun t ht => ?_⟩
        have k5 := k3.trans k4
        exact q t (.put xn) _ (k5.new ht) (hB4.new ht) (newAt k5 hB4 ht) hxn
end
end Pn

namespace Pn
open PySem L2 TL
def rowValid : RowD → Prop
  | .note c l => nameS c = true ∧ (l = "" ∨ nameS l = true)
  | .skip c n => nameS c = true ∧ 1 ≤ n ∧ n < 10 ^ 10
  | .set c n => nameS c = true ∧ n < 10 ^ 10
  | .keep c => nameS c = true
  | .back c => nameS c = true
  | .ref c => nameS c = true
  | .put c => nameS c = true
  | .opn c => nameS c = true
theorem fine_valid {d : Pool} {cs : List (Str × Str)} {parts : List Str} (hd : d.Fine) (hc : ∀ x ∈ cs.map (·.1), nameS x = true) (hp : ∀ x ∈ parts, nameS x = true) : ∀ {r : RowD}, rowFine d cs parts r → rowValid r
  | .note _ _, h => ⟨hc _ h.1, h.2.imp id fun z => hd.names _ (List.mem_append_right _ z)⟩
  | .skip _ _, h => ⟨hc _ h.1, h.2.1, Nat.lt_of_le_of_lt h.2.2 (by decide)⟩
  | .set _ _, h => ⟨hc _ h.1, Nat.lt_of_le_of_lt h.2 (by decide)⟩
  | .keep _, h => hc _ h
  | .back _, h => hc _ h
  | .put _, h => hp _ h
  | .opn _, h => hd.names _ (List.mem_append_left _ (List.mem_append_right _ h))
theorem numStr_small {n : Nat} (h : n < 10 ^ 10) : (numStr n).length ≤ 20 ∧ PyData.strOk (numStr n) = true := by
  refine ⟨numStr_len (Nat.lt_trans h (by decide)), strOk_tl.mpr fun c hc => ?_⟩
  have e : tl (numStr n) = numL n := tl_num n
  rw [e] at hc
  have q := numL_digits n c hc
  omega
/-- the words of a row that stands: few, short, of ordinary signs -/
theorem words_small {r : RowD} (h : rowValid r) : (rowWords r).length ≤ 3 ∧ 2 ≤ (rowWords r).length ∧ ∀ x ∈ rowWords r, x.length ≤ 20 ∧ PyData.strOk x = true := by
  have nm : ∀ {z : Str}, nameS z = true → z.length ≤ 20 ∧ PyData.strOk z = true := fun h => ⟨Nat.le_trans (name_ok h).2 (by decide), (name_ok h).1⟩
  have lit : ∀ z ∈ (["note", "skip", "set", "keep", "back", "ref", "put", "open"] : List Str), z.length ≤ 20 ∧ PyData.strOk z = true := fun z hz => by
    have q : (["note", "skip", "set", "keep", "back", "ref", "put", "open"] : List Str).all (fun z => decide (z.length ≤ 20) && PyData.strOk z) = true := by decide +kernel
    have := List.all_eq_true.mp q z hz
    rw [Bool.and_eq_true] at this
    exact ⟨of_decide_eq_true this.1, this.2⟩
  have two : ∀ {a c : Str}, a ∈ (["note", "skip", "set", "keep", "back", "ref", "put", "open"] : List Str) → nameS c = true → ([a, c] : List Str).length ≤ 3 ∧ 2 ≤ ([a, c] : List Str).length ∧ ∀ x ∈ ([a, c] : List Str), x.length ≤ 20 ∧ PyData.strOk x = true := fun {a c} ha hc =>
    ⟨by show 2 ≤ 3; decide, by show 2 ≤ 2; decide, fun x hx => by
      rcases List.mem_cons.mp hx with rfl | hx
      · exact lit _ ha
      · rw [List.mem_singleton.mp hx]; exact nm hc⟩
  have three : ∀ {a c l : Str}, a ∈ (["note", "skip", "set", "keep", "back", "ref", "put", "open"] : List Str) → nameS c = true → (l.length ≤ 20 ∧ PyData.strOk l = true) → ([a, c, l] : List Str).length ≤ 3 ∧ 2 ≤ ([a, c, l] : List Str).length ∧ ∀ x ∈ ([a, c, l] : List Str), x.length ≤ 20 ∧ PyData.strOk x = true := fun {a c l} ha hc hl =>
    ⟨by show 3 ≤ 3; decide, by show 2 ≤ 3; decide, fun x hx => by
      rcases List.mem_cons.mp hx with rfl | hx
      · exact lit _ ha
      · rcases List.mem_cons.mp hx with rfl | hx
        · exact nm hc
        · rw [List.mem_singleton.mp hx]; exact hl⟩
  cases r with
  | note c l =>
    show (if l = "" then (["note", c] : List Str) else ["note", c, l]).length ≤ 3 ∧ 2 ≤ (if l = "" then (["note", c] : List Str) else ["note", c, l]).length ∧ ∀ x ∈ (if l = "" then (["note", c] : List Str) else ["note", c, l]), _
    by_cases hl : l = ""
    · rw [if_pos hl]
      exact two (by decide +kernel) h.1
    · rw [if_neg hl]
      exact three (by decide +kernel) h.1 (nm (h.2.resolve_left hl))
  | skip c n => exact three (by decide +kernel) h.1 (numStr_small h.2.2)
  | set c n => exact three (by decide +kernel) h.1 (numStr_small h.2)
  | keep c => exact two (by decide +kernel) h
  | back c => exact two (by decide +kernel) h
  | ref c => exact two (by decide +kernel) h
  | put c => exact two (by decide +kernel) h
  | opn c => exact two (by decide +kernel) h
section
variable {P : Program} {w : World} {K : PySem.W.Frag} {mg : Str → Option Value} {base : Heap}
def rStrF : List V → Hp → VK → Prop := fun xs H Q => (∃ a, xs = [.str a] ∧ Q (.str a) H) ∨ ∃ i : Int, xs = [.int i] ∧ i.natAbs.log2 < 1920 ∧ Q (.str (Str.ofString (toString i))) H
theorem call_strF {X : Cx} : CallR X (.type "str") rStrF := fun pins s σ H xs us Q I r h => h.elim (fun h => SkE.call_str_str pins s σ H xs us Q I r h) fun h => call_str_int pins s σ H xs us Q I r h
end
end Pn

namespace Pn
open PySem L2 TL
structure TStrs {K : PySem.W.Frag} {mg : Str → Option Value} (T : TRows K mg) : Type where
  note : TStr K T.note.C "Note.__str__" sNoteStr
  skip : TStr K T.skip.C "Skip.__str__" sSkipStr
  set : TStr K T.set.C "Set.__str__" sSetStr
  keep : TStr K T.keep.C "Keep.__str__" sKeepStr
  back : TStr K T.back.C "Back.__str__" sBackStr
  ref : TStr K T.ref.C "Ref.__str__" sRefStr
  put : TStr K T.put.C "Put.__str__" sPutStr
  open_ : TStr K T.open_.C "Open.__str__" sOpenStr
def rStrRow {K : PySem.W.Frag} {mg : Str → Option Value} (T : TRows K mg) : List V → Hp → VK → Prop := fun xs H Q => ∃ (a : Addr) (r : RowD), xs = [.ref a] ∧ RowAt T H a r ∧ rowSmall r ∧ Q (.str (rowText r)) H
theorem call_strRow {X : Cx} (T : TRows X.K X.mg) (S : TStrs T) (hr : Room 3 X.A) : CallR X (.type "str") (rStrRow T) := by
  intro pins s σ H xs us Q I rv h
  obtain ⟨a, r, rfl, ⟨dx, ha⟩, hs, q⟩ := h
  cases r with
  | note c l => exact call_strIns (okNoteStr T S.note) S.note.hf hr S.note.b pass0 pins s σ H _ us Q I rv ⟨a, _, dx, _, rfl, ha, S.note.hs, a, c, l, rfl, ⟨dx, ha⟩, hs.1, hs.2, _, rfl, q⟩
  | skip c n => exact call_strIns (okSkipStr T S.skip) S.skip.hf hr S.skip.b pass0 pins s σ H _ us Q I rv ⟨a, _, dx, _, rfl, ha, S.skip.hs, a, c, n, rfl, ⟨dx, ha⟩, hs.1, hs.2, _, rfl, q⟩
  | set c n => exact call_strIns (okSetStr T S.set) S.set.hf hr S.set.b pass0 pins s σ H _ us Q I rv ⟨a, _, dx, _, rfl, ha, S.set.hs, a, c, n, rfl, ⟨dx, ha⟩, hs.1, hs.2, _, rfl, q⟩
  | keep c => exact call_strIns (okKeepStr T S.keep) S.keep.hf hr S.keep.b pass0 pins s σ H _ us Q I rv ⟨a, _, dx, _, rfl, ha, S.keep.hs, a, c, rfl, ⟨dx, ha⟩, hs, _, rfl, q⟩
  | back c => exact call_strIns (okBackStr T S.back) S.back.hf hr S.back.b pass0 pins s σ H _ us Q I rv ⟨a, _, dx, _, rfl, ha, S.back.hs, a, c, rfl, ⟨dx, ha⟩, hs, _, rfl, q⟩
  | ref c => exact call_strIns (okRefStr T S.ref) S.ref.hf hr S.ref.b pass0 pins s σ H _ us Q I rv ⟨a, _, dx, _, rfl, ha, S.ref.hs, a, c, rfl, ⟨dx, ha⟩, hs, _, rfl, q⟩
  | put c => exact call_strIns (okPutStr T S.put) S.put.hf hr S.put.b pass0 pins s σ H _ us Q I rv ⟨a, _, dx, _, rfl, ha, S.put.hs, a, c, rfl, ⟨dx, ha⟩, hs, _, rfl, q⟩
  | opn c => exact call_strIns (okOpenStr T S.open_) S.open_.hf hr S.open_.b pass0 pins s σ H _ us Q I rv ⟨a, _, dx, _, rfl, ha, S.open_.hs, a, c, rfl, ⟨dx, ha⟩, hs, _, rfl, q⟩
theorem call_strRowK {X : Cx} {K : PySem.W.Frag} {mg : Str → Option Value} (hK : X.K = K) (hm : X.mg = mg) (T : TRows K mg) (S : TStrs T) (hr : Room 3 X.A) : CallR X (.type "str") (rStrRow T) := by
  subst hK
  subst hm
  exact call_strRow T S hr
theorem name_small {z : Str} (h : nameS z = true) : z.length ≤ 100 := Nat.le_trans (name_ok h).2 (by decide)
end Pn

namespace Pn
open PySem L2 TL
abbrev sMadeRow : Stmt := top 74
theorem passN0 {P : Program} {w : World} {X : Cx} : Passes (L2N.CX P w) X E0 := fun _ _ _ _ _ _ _ ⟨_, _, _, _, _, _, _, _, _, _, _, _, h⟩ => h.elim
section
variable {P : Program} {w : World} {K : PySem.W.Frag} {mg : Str → Option Value} {base : Heap}
def spMade (R : TRows K mg) : Sp := fun vs H Q _ => ∃ (t : Addr) (r : RowD), vs = [.ref t] ∧ SqT K H t (rowTup r) ∧ rowValid r ∧ ∀ a H', Same H H' → RowAt R H' a r → Q (.ref a) H'
theorem scMadeRow : FnScope ["_law_row_here"] ["_law_row_here"] (defScope sMadeRow) := ⟨rfl, rfl, rfl, by decide +kernel, rfl, by decide +kernel, by decide +kernel⟩
theorem lab_of {l : Str} (h : l = "" ∨ nameS l = true) : labD (.str l) = true := by
  rcases h with rfl | h
  · decide +kernel
  · show (PyData.eqv (.str l) (.str "") || nameS l) = true
    rw [h, Bool.or_true]
theorem ok_made (R : TRows K mg) {f : Addr} {fd : FuncData} (F : Fun K "_law_made_row" "_law_made_row" sMadeRow f fd) : FnOk P w K mg base CX0 6 f fd ["_law_row_here"] (spMade R) := by
  refine F.ok scMadeRow (fun vs H Q E h => ?_) (fun cdv A outer s H vs Q E hr h => ?_)
  · obtain ⟨t, r, rfl, _⟩ := h
    rfl
  · obtain ⟨t, r, rfl, ht, hv, q⟩ := h
    refine ⟨_, pss_cons (ps_if (pt_cmpR op_eq (pe_ix ix_tup (pv 0) pe_int (fun _ _ => rfl)) pe_str (nomark _)) (pss_one (ps_ret (pe_make R.note.M (okNoteInit R.note R.N) (hr.mono (by decide)) rfl R.note.m R.note.b .nil passN0 (pa_cons (pe_ix ix_tup (pv 0) pe_int (fun _ _ => rfl)) (pa_cons (pe_ix ix_tup (pv 0) pe_int (fun _ _ => rfl)) pa_nil))))) pss_nil)
      (pss_cons (ps_if (pt_cmpR op_in_seq (pe_ix ix_tup (pv 0) pe_int (fun _ _ => rfl)) (pe_tup (pa_cons pe_str (pa_cons pe_str pa_nil))) rfl) (pss_one (ps_ret (pe_ifExp (pt_cmpR op_eq (pe_ix ix_tup (pv 0) pe_int (fun _ _ => rfl)) pe_str (nomark _)) (pe_make R.skip.M (okSkipInit R.skip R.N) (hr.mono (by decide)) rfl R.skip.m R.skip.b .nil passN0 (pa_cons (pe_ix ix_tup (pv 0) pe_int (fun _ _ => rfl)) (pa_cons (pe_ix ix_tup (pv 0) pe_int (fun _ _ => rfl)) pa_nil))) (pe_make R.set.M (okSetInit R.set R.N) (hr.mono (by decide)) rfl R.set.m R.set.b .nil passN0 (pa_cons (pe_ix ix_tup (pv 0) pe_int (fun _ _ => rfl)) (pa_cons (pe_ix ix_tup (pv 0) pe_int (fun _ _ => rfl)) pa_nil)))))) pss_nil)
      (pss_cons (ps_if (pt_cmpR op_in_seq (pe_ix ix_tup (pv 0) pe_int (fun _ _ => rfl)) (pe_tup (pa_cons pe_str (pa_cons pe_str pa_nil))) rfl) (pss_one (ps_ret (pe_ifExp (pt_cmpR op_eq (pe_ix ix_tup (pv 0) pe_int (fun _ _ => rfl)) pe_str (nomark _)) (pe_make R.keep.M (okKeepInit R.keep R.N) (hr.mono (by decide)) rfl R.keep.m R.keep.b .nil passN0 (pa_cons (pe_ix ix_tup (pv 0) pe_int (fun _ _ => rfl)) pa_nil)) (pe_make R.back.M (okBackInit R.back R.N) (hr.mono (by decide)) rfl R.back.m R.back.b .nil passN0 (pa_cons (pe_ix ix_tup (pv 0) pe_int (fun _ _ => rfl)) pa_nil))))) pss_nil)
      (pss_cons (ps_if (pt_cmpR op_eq (pe_ix ix_tup (pv 0) pe_int (fun _ _ => rfl)) pe_str (nomark _)) (pss_one (ps_ret (pe_make R.ref.M (okRefInit R.ref R.N) (hr.mono (by decide)) rfl R.ref.m R.ref.b .nil passN0 (pa_cons (pe_ix ix_tup (pv 0) pe_int (fun _ _ => rfl)) pa_nil)))) pss_nil)
      (pss_one (ps_ret (pe_ifExp (pt_cmpR op_eq (pe_ix ix_tup (pv 0) pe_int (fun _ _ => rfl)) pe_str (nomark _)) (pe_make R.put.M (okPutInit R.put R.N) (hr.mono (by decide)) rfl R.put.m R.put.b .nil passN0 (pa_cons (pe_ix ix_tup (pv 0) pe_int (fun _ _ => rfl)) pa_nil)) (pe_make R.open_.M (okOpenInit R.open_ R.N) (hr.mono (by decide)) rfl R.open_.m R.open_.b .nil passN0 (pa_cons (pe_ix ix_tup (pv 0) pe_int (fun _ _ => rfl)) pa_nil)))))))), ?_⟩
    have nl : ∀ {z : Str}, nameS z = true → dlen (.str z) := fun h => Nat.le_trans (name_ok h).2 (by show 4 ≤ 900; decide)
    cases r with
    | note c l =>
      refine ⟨_, rfl, t, _, _, _, rfl, rfl, ht, atI_nat (j := 0) rfl, rfl, _, rfl, iteTD (by decide +kernel) ?_⟩
      refine ⟨_, rfl, t, _, _, _, rfl, rfl, ht, atI_nat (j := 1) rfl, _, rfl, t, _, _, _, rfl, rfl, ht, atI_nat (j := 2) rfl, fun x dx hx hdx ne => ?_⟩
      exact ⟨x, dx, .str c, .str l, .str c, .str l, rfl, upd_same, .str c, nl hv.1, .str l, (by rcases hv.2 with rfl | z; exact (by decide +kernel : ("" : Str).length ≤ 900); exact nl z), str_shaped (by rcases hv.2 with rfl | z; decide +kernel; exact (name_ok z).1), fun hn hg H1 kp m hi => ⟨rfl, q x H1 (kpi_same2 hx hdx kp) ⟨dx, hi⟩⟩, fun hn => absurd hv.1 (by rw [show nameS c = false from hn]; decide), fun _ hg => absurd (lab_of hv.2) (by rw [hg]; decide)⟩
    | skip c n =>
      refine ⟨_, rfl, t, _, _, _, rfl, rfl, ht, atI_nat (j := 0) rfl, rfl, _, rfl, iteFD (by decide +kernel) ?_⟩
      refine ⟨_, rfl, t, _, _, _, rfl, rfl, ht, atI_nat (j := 0) rfl, (by show 2 ≤ sizeLine; decide), fun t1 h1 => ?_⟩
      refine ⟨t1, _, rfl, .inr (SqT.of upd_same), rfl, rfl, _, rfl, iteTD (by decide +kernel) ?_⟩
      have s1 := (Same.new (o := .tup [.str "skip", .str "set"]) h1)
      generalize upd _ t1 (.tup [.str "skip", .str "set"]) = H1 at s1 ⊢
      have ht1 := Same.sqt s1 ht
      refine ⟨_, rfl, t, _, _, _, rfl, rfl, ht1, atI_nat (j := 0) rfl, rfl, _, rfl, iteTD (by decide +kernel) ?_⟩
      refine ⟨_, rfl, t, _, _, _, rfl, rfl, ht1, atI_nat (j := 1) rfl, _, rfl, t, _, _, _, rfl, rfl, ht1, atI_nat (j := 2) rfl, fun x dx hx hdx ne => ?_⟩
      exact ⟨x, dx, .str c, .int (n : Int), .str c, .int (n : Int), rfl, upd_same, .str c, nl hv.1, .int _, fun hn hg H1 kp m hi => ⟨rfl, q x H1 (s1.trans (kpi_same2 hx hdx kp)) ⟨dx, hi⟩⟩, fun hn => absurd hv.1 (by rw [show nameS c = false from hn]; decide), fun _ hg => absurd (skip_of (n := n) (by have := hv.2.1; omega)) (by rw [hg]; decide)⟩
    | set c n =>
      refine ⟨_, rfl, t, _, _, _, rfl, rfl, ht, atI_nat (j := 0) rfl, rfl, _, rfl, iteFD (by decide +kernel) ?_⟩
      refine ⟨_, rfl, t, _, _, _, rfl, rfl, ht, atI_nat (j := 0) rfl, (by show 2 ≤ sizeLine; decide), fun t1 h1 => ?_⟩
      refine ⟨t1, _, rfl, .inr (SqT.of upd_same), rfl, rfl, _, rfl, iteTD (by decide +kernel) ?_⟩
      have s1 := (Same.new (o := .tup [.str "skip", .str "set"]) h1)
      generalize upd _ t1 (.tup [.str "skip", .str "set"]) = H1 at s1 ⊢
      have ht1 := Same.sqt s1 ht
      refine ⟨_, rfl, t, _, _, _, rfl, rfl, ht1, atI_nat (j := 0) rfl, rfl, _, rfl, iteFD (by decide +kernel) ?_⟩
      refine ⟨_, rfl, t, _, _, _, rfl, rfl, ht1, atI_nat (j := 1) rfl, _, rfl, t, _, _, _, rfl, rfl, ht1, atI_nat (j := 2) rfl, fun x dx hx hdx ne => ?_⟩
      exact ⟨x, dx, .str c, .int (n : Int), .str c, .int (n : Int), rfl, upd_same, .str c, nl hv.1, .int _, fun hn hg H1 kp m hi => ⟨rfl, q x H1 (s1.trans (kpi_same2 hx hdx kp)) ⟨dx, hi⟩⟩, fun hn => absurd hv.1 (by rw [show nameS c = false from hn]; decide), fun _ hg => absurd (set_of (n := n)) (by rw [hg]; decide)⟩
    | keep c =>
      refine ⟨_, rfl, t, _, _, _, rfl, rfl, ht, atI_nat (j := 0) rfl, rfl, _, rfl, iteFD (by decide +kernel) ?_⟩
      refine ⟨_, rfl, t, _, _, _, rfl, rfl, ht, atI_nat (j := 0) rfl, (by show 2 ≤ sizeLine; decide), fun t1 h1 => ?_⟩
      refine ⟨t1, _, rfl, .inr (SqT.of upd_same), rfl, rfl, _, rfl, iteFD (by decide +kernel) ?_⟩
      have s1 := (Same.new (o := .tup [.str "skip", .str "set"]) h1)
      generalize upd _ t1 (.tup [.str "skip", .str "set"]) = H1 at s1 ⊢
      have ht1 := Same.sqt s1 ht
      refine ⟨_, rfl, t, _, _, _, rfl, rfl, ht1, atI_nat (j := 0) rfl, (by show 2 ≤ sizeLine; decide), fun t2 h2 => ?_⟩
      refine ⟨t2, _, rfl, .inr (SqT.of upd_same), rfl, rfl, _, rfl, iteTD (by decide +kernel) ?_⟩
      have s2 := s1.trans (Same.new (o := .tup [.str "keep", .str "back"]) h2)
      generalize upd _ t2 (.tup [.str "keep", .str "back"]) = H2 at s2 ⊢
      have ht2 := Same.sqt s2 ht
      refine ⟨_, rfl, t, _, _, _, rfl, rfl, ht2, atI_nat (j := 0) rfl, rfl, _, rfl, iteTD (by decide +kernel) ?_⟩
      refine ⟨_, rfl, t, _, _, _, rfl, rfl, ht2, atI_nat (j := 1) rfl, fun x dx hx hdx ne => ?_⟩
      exact ⟨x, dx, .str c, .str c, rfl, upd_same, .str c, nl hv, fun hn H1 kp m hi => ⟨rfl, q x H1 (s2.trans (kpi_same2 hx hdx kp)) ⟨dx, hi⟩⟩, fun hn => absurd (show nameS c = true from hv) (by rw [show nameS c = false from hn]; decide)⟩
    | back c =>
      refine ⟨_, rfl, t, _, _, _, rfl, rfl, ht, atI_nat (j := 0) rfl, rfl, _, rfl, iteFD (by decide +kernel) ?_⟩
      refine ⟨_, rfl, t, _, _, _, rfl, rfl, ht, atI_nat (j := 0) rfl, (by show 2 ≤ sizeLine; decide), fun t1 h1 => ?_⟩
      refine ⟨t1, _, rfl, .inr (SqT.of upd_same), rfl, rfl, _, rfl, iteFD (by decide +kernel) ?_⟩
      have s1 := (Same.new (o := .tup [.str "skip", .str "set"]) h1)
      generalize upd _ t1 (.tup [.str "skip", .str "set"]) = H1 at s1 ⊢
      have ht1 := Same.sqt s1 ht
      refine ⟨_, rfl, t, _, _, _, rfl, rfl, ht1, atI_nat (j := 0) rfl, (by show 2 ≤ sizeLine; decide), fun t2 h2 => ?_⟩
      refine ⟨t2, _, rfl, .inr (SqT.of upd_same), rfl, rfl, _, rfl, iteTD (by decide +kernel) ?_⟩
      have s2 := s1.trans (Same.new (o := .tup [.str "keep", .str "back"]) h2)
      generalize upd _ t2 (.tup [.str "keep", .str "back"]) = H2 at s2 ⊢
      have ht2 := Same.sqt s2 ht
      refine ⟨_, rfl, t, _, _, _, rfl, rfl, ht2, atI_nat (j := 0) rfl, rfl, _, rfl, iteFD (by decide +kernel) ?_⟩
      refine ⟨_, rfl, t, _, _, _, rfl, rfl, ht2, atI_nat (j := 1) rfl, fun x dx hx hdx ne => ?_⟩
      exact ⟨x, dx, .str c, .str c, rfl, upd_same, .str c, nl hv, fun hn H1 kp m hi => ⟨rfl, q x H1 (s2.trans (kpi_same2 hx hdx kp)) ⟨dx, hi⟩⟩, fun hn => absurd (show nameS c = true from hv) (by rw [show nameS c = false from hn]; decide)⟩
    | ref c =>
      refine ⟨_, rfl, t, _, _, _, rfl, rfl, ht, atI_nat (j := 0) rfl, rfl, _, rfl, iteFD (by decide +kernel) ?_⟩
      refine ⟨_, rfl, t, _, _, _, rfl, rfl, ht, atI_nat (j := 0) rfl, (by show 2 ≤ sizeLine; decide), fun t1 h1 => ?_⟩
      refine ⟨t1, _, rfl, .inr (SqT.of upd_same), rfl, rfl, _, rfl, iteFD (by decide +kernel) ?_⟩
      have s1 := (Same.new (o := .tup [.str "skip", .str "set"]) h1)
      generalize upd _ t1 (.tup [.str "skip", .str "set"]) = H1 at s1 ⊢
      have ht1 := Same.sqt s1 ht
      refine ⟨_, rfl, t, _, _, _, rfl, rfl, ht1, atI_nat (j := 0) rfl, (by show 2 ≤ sizeLine; decide), fun t2 h2 => ?_⟩
      refine ⟨t2, _, rfl, .inr (SqT.of upd_same), rfl, rfl, _, rfl, iteFD (by decide +kernel) ?_⟩
      have s2 := s1.trans (Same.new (o := .tup [.str "keep", .str "back"]) h2)
      generalize upd _ t2 (.tup [.str "keep", .str "back"]) = H2 at s2 ⊢
      have ht2 := Same.sqt s2 ht
      refine ⟨_, rfl, t, _, _, _, rfl, rfl, ht2, atI_nat (j := 0) rfl, rfl, _, rfl, iteTD (by decide +kernel) ?_⟩
      refine ⟨_, rfl, t, _, _, _, rfl, rfl, ht2, atI_nat (j := 1) rfl, fun x dx hx hdx ne => ?_⟩
      exact ⟨x, dx, .str c, .str c, rfl, upd_same, .str c, nl hv, fun hn H1 kp m hi => ⟨rfl, q x H1 (s2.trans (kpi_same2 hx hdx kp)) ⟨dx, hi⟩⟩, fun hn => absurd (show nameS c = true from hv) (by rw [show nameS c = false from hn]; decide)⟩
    | put c =>
      refine ⟨_, rfl, t, _, _, _, rfl, rfl, ht, atI_nat (j := 0) rfl, rfl, _, rfl, iteFD (by decide +kernel) ?_⟩
      refine ⟨_, rfl, t, _, _, _, rfl, rfl, ht, atI_nat (j := 0) rfl, (by show 2 ≤ sizeLine; decide), fun t1 h1 => ?_⟩
      refine ⟨t1, _, rfl, .inr (SqT.of upd_same), rfl, rfl, _, rfl, iteFD (by decide +kernel) ?_⟩
      have s1 := (Same.new (o := .tup [.str "skip", .str "set"]) h1)
      generalize upd _ t1 (.tup [.str "skip", .str "set"]) = H1 at s1 ⊢
      have ht1 := Same.sqt s1 ht
      refine ⟨_, rfl, t, _, _, _, rfl, rfl, ht1, atI_nat (j := 0) rfl, (by show 2 ≤ sizeLine; decide), fun t2 h2 => ?_⟩
      refine ⟨t2, _, rfl, .inr (SqT.of upd_same), rfl, rfl, _, rfl, iteFD (by decide +kernel) ?_⟩
      have s2 := s1.trans (Same.new (o := .tup [.str "keep", .str "back"]) h2)
      generalize upd _ t2 (.tup [.str "keep", .str "back"]) = H2 at s2 ⊢
      have ht2 := Same.sqt s2 ht
      refine ⟨_, rfl, t, _, _, _, rfl, rfl, ht2, atI_nat (j := 0) rfl, rfl, _, rfl, iteFD (by decide +kernel) ?_⟩
      refine ⟨_, rfl, t, _, _, _, rfl, rfl, ht2, atI_nat (j := 0) rfl, rfl, _, rfl, iteTD (by decide +kernel) ?_⟩
      refine ⟨_, rfl, t, _, _, _, rfl, rfl, ht2, atI_nat (j := 1) rfl, fun x dx hx hdx ne => ?_⟩
      exact ⟨x, dx, .str c, .str c, rfl, upd_same, .str c, nl hv, fun hn H1 kp m hi => ⟨rfl, q x H1 (s2.trans (kpi_same2 hx hdx kp)) ⟨dx, hi⟩⟩, fun hn => absurd (show nameS c = true from hv) (by rw [show nameS c = false from hn]; decide)⟩
    | opn c =>
      refine ⟨_, rfl, t, _, _, _, rfl, rfl, ht, atI_nat (j := 0) rfl, rfl, _, rfl, iteFD (by decide +kernel) ?_⟩
      refine ⟨_, rfl, t, _, _, _, rfl, rfl, ht, atI_nat (j := 0) rfl, (by show 2 ≤ sizeLine; decide), fun t1 h1 => ?_⟩
      refine ⟨t1, _, rfl, .inr (SqT.of upd_same), rfl, rfl, _, rfl, iteFD (by decide +kernel) ?_⟩
      have s1 := (Same.new (o := .tup [.str "skip", .str "set"]) h1)
      generalize upd _ t1 (.tup [.str "skip", .str "set"]) = H1 at s1 ⊢
      have ht1 := Same.sqt s1 ht
      refine ⟨_, rfl, t, _, _, _, rfl, rfl, ht1, atI_nat (j := 0) rfl, (by show 2 ≤ sizeLine; decide), fun t2 h2 => ?_⟩
      refine ⟨t2, _, rfl, .inr (SqT.of upd_same), rfl, rfl, _, rfl, iteFD (by decide +kernel) ?_⟩
      have s2 := s1.trans (Same.new (o := .tup [.str "keep", .str "back"]) h2)
      generalize upd _ t2 (.tup [.str "keep", .str "back"]) = H2 at s2 ⊢
      have ht2 := Same.sqt s2 ht
      refine ⟨_, rfl, t, _, _, _, rfl, rfl, ht2, atI_nat (j := 0) rfl, rfl, _, rfl, iteFD (by decide +kernel) ?_⟩
      refine ⟨_, rfl, t, _, _, _, rfl, rfl, ht2, atI_nat (j := 0) rfl, rfl, _, rfl, iteFD (by decide +kernel) ?_⟩
      refine ⟨_, rfl, t, _, _, _, rfl, rfl, ht2, atI_nat (j := 1) rfl, fun x dx hx hdx ne => ?_⟩
      exact ⟨x, dx, .str c, .str c, rfl, upd_same, .str c, nl hv, fun hn H1 kp m hi => ⟨rfl, q x H1 (s2.trans (kpi_same2 hx hdx kp)) ⟨dx, hi⟩⟩, fun hn => absurd (show nameS c = true from hv) (by rw [show nameS c = false from hn]; decide)⟩
end
end Pn

namespace Pn
open PySem L2
/-! ### == of an own instance whose class has an __eq__ of its own -/
section
variable {X : Cx} {CX : CXT} {k : Nat} {f C : Addr} {fd : FuncData} {ps : List Str} {sp : Sp} {E : XK}
/-- what stands to the right: a text, or an instance whose class is not first asked -/
def Right (K : PySem.W.Frag) (C : Addr) (H : Hp) (y : V) : Prop := (∃ z : Str, y = .str z ∧ PySem.W.notFirst K C (.type "str") = true) ∨ ∃ (b D dy : Addr) (gs : List (Str × V)), y = .ref b ∧ H b = some (.ins D dy gs) ∧ PySem.W.notFirst K C (.ref D) = true
end
end Pn
namespace Pn
open PySem PySem.W PyProof.Rows
section
variable {prog : Program} {w : World} {A : Around} {E : Value → Shared → Prop} {s : Shared} {K : Frag} {x C L f : Addr} {h₀ : Heap} {m : Str → Option Value} {ox : Obj} {od : Option Obj} {b tb : Value}
/-- object.__ne__ asks __eq__ and turns its answer round -/
theorem obj_ne {Q : Fin → Shared → Prop} (hu : A.units < cLine) (X : K.In s.heap) (I : InstAt s.heap x ox C od) (hs : findIn K (.ref C) "__eq__" = some (some (.ref f))) (hf : isFn K (.ref f) = true)
    (h : wpAny (model prog w) A (call (.ref f) [.ref x, b]) (fun v s' => ∃ c, v = .bool c ∧ Q (.done (.ret (.bool (!c)))) s') E s) : wpAny (model prog w) A (Builtin.«object.__ne__» ⟨[.ref x, b], []⟩) Q E s := by
  unfold Builtin.«object.__ne__»
  repeat (first
    | with_reducible refine wpAny_cRoomFor hu ?_
    | (refine wpAny_bind (m := callSpecialIfBound? (.ref x) (Str.ofString "__eq__") [b])
        (ifBound_K X I hs hf (wpAny_mono h (fun v s' hv => by
          obtain ⟨c, rfl, hq⟩ := hv
          repeat (first | exact hq | exact wpAny_pure hq | exact wpAny_truthy_bool hq | (refine wpAny_bind (m := truthy (.bool _)) (wpAny_truthy_bool ?_)) | wp_step)) fun _ _ e => e)))
    | wp_step)
theorem rich_ne {Q : Value → Shared → Prop} (hu : A.units + 1 < cLine) (F : Fr h₀ L s.heap m) (X₀ : K.In h₀) (I : InstAt s.heap x ox C od) (hb : Looks (model prog w) s.heap (typeOf b) tb) (hn : notFirst K C tb = true)
    (hne : findIn K (.ref C) "__ne__" = some (some (.builtin "object.__ne__"))) (ho : mroIn K C (.type "object") = some true) (hs : findIn K (.ref C) "__eq__" = some (some (.ref f))) (hf : isFn K (.ref f) = true)
    (h : wpAny (model prog w) A.in1 (call (.ref f) [.ref x, b]) (fun v s' => ∃ c, v = .bool c ∧ Q (.bool (!c)) s') E s) : wpAny (model prog w) A (richCompare .NotEq (.ref x) b) Q E s := by
  have X := X₀.keeps F.keep
  have one : wpAny (model prog w) A (tryCompare (.ref x) (cmpInfo .NotEq).2.1 b) (fun r s' => ∃ v, r = some v ∧ Q v s') E s := by
    unfold tryCompare
    refine wpAny_bind (NtL.csib (I.type.andThen (looks_findIn X hne)) (PySem.F.slot_object_ne.bind _) (wpAny_call (codeAny_call_builtin PySem.F.slot_object_ne.plain PySem.F.entry_object_ne
      (check_slot (i := "object.__ne__") (owner := "object") (n := "__ne__") (by decide +kernel) (by decide +kernel) (I.type.andThen (looks_mroIn X ho)) (PySem.F.args_object_ne_2 _ _)
        (obj_ne (A := A.in1) hu X I hs hf (wpAny_mono h (fun v s' hv => ?_) fun _ _ e => e))))))
    obtain ⟨c, rfl, hq⟩ := hv
    first | exact ⟨c, rfl, wpAny_pure ⟨_, rfl, hq⟩⟩ | exact ⟨c, rfl, _, rfl, hq⟩ | exact ⟨c, rfl, wpAny_pure (wpAny_pure ⟨_, rfl, hq⟩)⟩
  unfold richCompare
  simp only [oneThing_ref]
  refine wpAny_holding (wpAny_bind (wpAny_cRoomFor (Nat.lt_of_succ_lt hu) ?_))
  refine wpAny_bind (I.type.here (wpAny_bind (hb.here ?_)))
  have last : ∀ {t : Option Value → Sem Value}, (∀ v, t (some v) = pure v) → wpAny (model prog w) A (tryCompare (.ref x) (cmpInfo .NotEq).2.1 b >>= t) Q E s := fun ht => wpAny_bind (wpAny_mono one (fun r s' ⟨v, hr, hq⟩ => by
    subst hr
    rw [ht]
    exact wpAny_pure hq) fun _ _ e => e)
  by_cases hq : tb = .ref C
  · subst hq
    rw [if_neg (by simp)]
    exact wpAny_bind (wpAny_pure (by simp only [Bool.false_eq_true, if_false]; exact last fun v => rfl))
  · have e : subIn K tb (.ref C) = some false := (Bool.or_eq_true_iff.mp hn).elim (fun e => absurd (beq_iff_eq.mp e) hq) beq_iff_eq.mp
    rw [if_pos (by simpa using fun z => hq z.symm)]
    exact wpAny_bind ((looks_subIn X e).here (by simp only [Bool.false_eq_true, if_false]; exact last fun v => rfl))
end
end Pn
namespace Pn
open PySem L2
section
variable {X : Cx} {CX : CXT} {k : Nat} {f C : Addr} {fd : FuncData} {ps : List Str} {sp : Sp} {E : XK}
/-- != of an own instance with an __eq__ of its own and object's __ne__ -/
def rNeIns (K : PySem.W.Frag) (f : Addr) (sp : Sp) (E : XK) : R2 := fun x y H Q => ∃ (a C dx : Addr) (fs : List (Str × V)), x = .ref a ∧ H a = some (.ins C dx fs) ∧ PySem.W.findIn K (.ref C) "__eq__" = some (some (.ref f)) ∧
  PySem.W.findIn K (.ref C) "__ne__" = some (some (.builtin "object.__ne__")) ∧ PySem.W.mroIn K C (.type "object") = some true ∧ Right K C H y ∧ sp [x, y] H (fun v H' => ∃ c, v = .bl c ∧ Q (.bl (!c)) H') E
theorem op_neIns (F : FnOk X.prog X.w X.K X.mg X.base CX k f fd ps sp) (hf : PySem.W.isFn X.K (.ref f) = true) (hr : Room (k + 1) X.A) (hb : Binds X.K fd ps []) (hx : Passes CX X E) : OpR X (compareOp .NotEq) (rNeIns X.K f sp E) := by
  intro pins s σ H x y v u Q I rx ry h
  obtain ⟨a, C, dx, fs, rfl, ha, hs, hne, ho, hy, q⟩ := h
  cases rx
  obtain ⟨mA, O, _⟩ := ins_get I.hok ha
  obtain ⟨od, J, _⟩ := O.look
  obtain ⟨m, hF⟩ := I.fr
  show wpAny (model X.prog X.w) X.A (richCompare .NotEq (.ref a) u) (EP X pins σ Q) X.xe s
  have hr1 : Room k X.A.in1 := Room.in1 hr
  have go : ∀ tb, PySem.W.Looks (model X.prog X.w) s.heap (typeOf u) tb → PySem.W.notFirst X.K C tb = true → wpAny (model X.prog X.w) X.A (richCompare .NotEq (.ref a) u) (EP X pins σ Q) X.xe s := fun tb hl hn => by
    refine rich_ne (hu_of hr) hF I.ok.mod.kin J hl hn hne ho hs hf ?_
    refine wpAny_mono (run_fnA F hr1 I.env0.in1 hb hx I (.cons (show RelV (.ref a) (Value.ref a) from rfl) (.cons ry .nil)) q) (fun w s' z => ?_) fun _ _ x => x
    obtain ⟨z', H', I', rz, c, ez, qz⟩ := z
    subst ez
    cases (show w = Value.bool c from rz)
    exact ⟨c, rfl, .bl (!c), H', I', rfl, qz⟩
  rcases hy with ⟨z, rfl, hn⟩ | ⟨b, D, dy, gs, rfl, hb2, hn⟩
  · obtain ⟨t, rfl⟩ := ry
    exact go _ (PySem.W.Looks.of_pure rfl) hn
  · cases ry
    obtain ⟨mB, O2, _⟩ := ins_get I.hok hb2
    obtain ⟨od2, J2, _⟩ := O2.look
    exact go _ J2.type hn
end
end Pn

namespace Pn
open PySem L2 TL
section
variable {P : Program} {w : World} {K : PySem.W.Frag} {mg : Str → Option Value} {base : Heap}
def clsOf (T : TRows K mg) : RowD → Addr
  | .note _ _ => T.note.C
  | .skip _ _ => T.skip.C
  | .set _ _ => T.set.C
  | .keep _ => T.keep.C
  | .back _ => T.back.C
  | .ref _ => T.ref.C
  | .put _ => T.put.C
  | .opn _ => T.open_.C
theorem insRow_ins (T : TRows K mg) (dx : Addr) (r : RowD) : ∃ fs, insRow T dx r = .ins (clsOf T r) dx fs := by cases r <;> exact ⟨_, rfl⟩
theorem cls_of (T : TRows K mg) (r : RowD) : Cls K (clsOf T r) := by
  cases r with
  | note _ _ => exact T.note.cl
  | skip _ _ => exact T.skip.cl
  | set _ _ => exact T.set.cl
  | keep _ => exact T.keep.cl
  | back _ => exact T.back.cl
  | ref _ => exact T.ref.cl
  | put _ => exact T.put.cl
  | opn _ => exact T.open_.cl
end
end Pn

namespace Pn
open PySem PySem.Spec PyProof.Rows L2
/-! ### the law's def at the surrounding that the judge calls it from: there no repr is under way -/
section
variable {P : Program} {w : World} {K : PySem.W.Frag} {mg mb : Str → Option Value} {s₁ : Shared} {a : Addr} {vs : List Value} {ns : List Int}
end
end Pn
namespace Pn
open PySem PySem.Spec PyProof.Rows L2
section
variable {P : Program} {w : World} {K : PySem.W.Frag} {mg : Str → Option Value} {base : Heap} {A : Around}
end
end Pn

namespace Pn
open PySem PySem.Spec PyProof.Rows L2
/-! ### repr of a tuple of texts and integers, where no repr is under way -/
/-- plain items as data -/
inductive Fl : List V → List PyData → Prop where
  | nil : Fl [] []
  | str {vs ds} (z : Str) (r : Fl vs ds) : Fl (.str z :: vs) (.str z :: ds)
  | int {vs ds} (i : Int) (r : Fl vs ds) : Fl (.int i :: vs) (.int i :: ds)
theorem Fl.reads {h : Heap} : ∀ {vs : List V} {ds : List PyData} {us : List Value}, Fl vs ds → Vals vs us → ReadsAll h us ds []
  | _, _, _, .nil, r => by
    cases r
    exact .nil
  | _, _, _, .str z f, r => by
    cases r with
    | cons r1 r2 =>
      obtain ⟨t, rfl⟩ := r1
      exact .cons (.str z t) (f.reads r2)
  | _, _, _, .int i f, r => by
    cases r with
    | cons r1 r2 =>
      obtain ⟨t, rfl⟩ := r1
      exact .cons (.int i t) (f.reads r2)
section
variable {X : Cx}
end
end Pn

namespace Pn
open PySem L2 TL
/-! ### texts put together of words: their size -/
def sz1 (l : List Str) : Nat := (l.map fun x => x.length + 1).sum
theorem sz1_cons (x : Str) (l : List Str) : sz1 (x :: l) = x.length + 1 + sz1 l := by
  unfold sz1
  rw [List.map_cons, List.sum_cons]
theorem sz1_sub {l m : List Str} (h : l.Sublist m) : sz1 l ≤ sz1 m := by
  induction h with
  | slnil => exact Nat.le_refl _
  | cons a _ ih => rw [sz1_cons]; omega
  | cons_cons a _ ih => rw [sz1_cons, sz1_cons]; omega
/-- words of at most n signs with as many blanks, all of good signs -/
def Sm (n : Nat) (l : List Str) : Prop := sz1 l ≤ n ∧ ∀ x ∈ l, PyData.strOk x = true
theorem Sm.sub {n : Nat} {l m : List Str} (h : Sm n m) (s : l.Sublist m) : Sm n l := ⟨Nat.le_trans (sz1_sub s) h.1, fun x hx => h.2 x (s.subset hx)⟩
theorem joinL_len : ∀ l : List Str, (joinL (tl " ") (l.map tl)).length ≤ sz1 l ∧ sz1 l ≤ (joinL (tl " ") (l.map tl)).length + 1
  | [] => ⟨Nat.le_refl _, Nat.zero_le _⟩
  | [a] => by
    show (tl a).length ≤ sz1 [a] ∧ sz1 [a] ≤ (tl a).length + 1
    rw [sz1_cons, ← len_tl, show sz1 [] = 0 from rfl]
    omega
  | a :: b :: r => by
    have q := joinL_len (b :: r)
    rw [sz1_cons]
    show (tl a ++ (tl " " ++ joinL (tl " ") ((b :: r).map tl))).length ≤ _ ∧ _ ≤ (tl a ++ (tl " " ++ joinL (tl " ") ((b :: r).map tl))).length + 1
    rw [List.length_append, List.length_append, ← len_tl, show (tl " ").length = 1 from by decide +kernel]
    omega
theorem joinL_mem : ∀ (l : List Str) (c : Nat), c ∈ joinL (tl " ") (l.map tl) → c ∈ tl " " ∨ ∃ x ∈ l, c ∈ tl x
  | [], c, h => by cases h
  | [a], c, h => .inr ⟨a, by simp, h⟩
  | a :: b :: r, c, h => by
    rcases List.mem_append.mp h with h | h
    · exact .inr ⟨a, by simp, h⟩
    · rcases List.mem_append.mp h with h | h
      · exact .inl h
      · rcases joinL_mem (b :: r) c h with h | ⟨x, hx, hc⟩
        · exact .inl h
        · exact .inr ⟨x, List.mem_cons_of_mem _ hx, hc⟩
theorem Sm.join {n : Nat} {l : List Str} (h : Sm n l) : (Txt.join " " l).length ≤ n ∧ PyData.strOk (Txt.join " " l) = true := by
  have e : tl (Txt.join " " l) = joinL (tl " ") (l.map tl) := by rw [join_eq]; exact tl_join " " l
  refine ⟨?_, strOk_tl.mpr fun c hc => ?_⟩
  · rw [len_tl, e]
    exact Nat.le_trans (joinL_len l).1 h.1
  · rw [e] at hc
    rcases joinL_mem l c hc with hc | ⟨x, hx, hc⟩
    · exact strOk_tl.mp (show PyData.strOk " " = true by decide +kernel) c hc
    · exact strOk_tl.mp (h.2 x hx) c hc
theorem sz1_lens : ∀ l : List Str, (l.map (·.length)).sum + l.length * (" " : Str).length = sz1 l
  | [] => rfl
  | x :: l => by
    have q := sz1_lens l
    rw [show (" " : Str).length = 1 from by decide +kernel] at q ⊢
    rw [sz1_cons, List.map_cons, List.sum_cons, List.length_cons]
    omega
theorem Sm.fits {n : Nat} {l : List Str} (h : Sm n l) (hn : n ≤ 16777216) : (l.map (·.length)).sum + l.length * (" " : Str).length ≤ 16777216 := by
  rw [sz1_lens]
  exact Nat.le_trans h.1 hn
theorem sm_row {r : RowD} (h : rowValid r) : (rowText r).length ≤ 63 ∧ PyData.strOk (rowText r) = true := by
  obtain ⟨h1, _, h2⟩ := words_small h
  have h3 : Sm 63 (rowWords r) := by
    refine ⟨?_, fun x hx => (h2 x hx).2⟩
    have key : ∀ l : List Str, (∀ x ∈ l, x.length ≤ 20) → sz1 l ≤ 21 * l.length := by
      intro l
      induction l with
      | nil => intro _; exact Nat.le_refl _
      | cons x l ih =>
        intro hx
        have q1 := hx x List.mem_cons_self
        have q2 := ih fun y hy => hx y (List.mem_cons_of_mem _ hy)
        rw [sz1_cons, List.length_cons]
        omega
    have := key (rowWords r) fun x hx => (h2 x hx).1
    omega
  exact h3.join
end Pn

namespace Pn
open PySem L2 TL
/-! ### what the law asks of a made row -/
def rowWord : RowD → Str
  | .note _ _ => "note"
  | .skip _ _ => "skip"
  | .set _ _ => "set"
  | .keep _ => "keep"
  | .back _ => "back"
  | .ref _ => "ref"
  | .put _ => "put"
  | .opn _ => "open"
theorem valid_small {r : RowD} (h : rowValid r) : rowSmall r := by
  have b : ∀ {n : Nat}, n < 10 ^ 10 → n < 10 ^ 20 := fun h => Nat.lt_trans h (by decide)
  cases r with
  | note c l => exact ⟨name_small h.1, by rcases h.2 with rfl | z; exact (by decide +kernel : ("" : Str).length ≤ 100); exact name_small z⟩
  | skip c n => exact ⟨name_small h.1, b h.2.2⟩
  | set c n => exact ⟨name_small h.1, b h.2⟩
  | keep c => exact name_small h
  | back c => exact name_small h
  | ref c => exact name_small h
  | put c => exact name_small h
  | opn c => exact name_small h
section
variable {P : Program} {w : World} {K : PySem.W.Frag} {mg : Str → Option Value} {base : Heap}
/-- the word of an instance of a row -/
theorem row_word (T : TRows K mg) {H : Hp} {a : Addr} {r : RowD} (h : RowAt T H a r) : ∃ dx fs, H a = some (.ins (clsOf T r) dx fs) ∧ Cls K (clsOf T r) ∧ NoAttr K (clsOf T r) "word" ∧ fs.lookup ("word" : Str) = some (V.str (rowWord r)) := by
  obtain ⟨dx, ha⟩ := h
  cases r with
  | note c l => exact ⟨dx, _, ha, T.note.cl, T.note.noW, by rw [lookup_putF, if_neg (by decide +kernel), lookup_putF, if_neg (by decide +kernel), lookup_putF, if_pos rfl]; rfl⟩
  | skip c n => exact ⟨dx, _, ha, T.skip.cl, T.skip.noW, by rw [lookup_putF, if_neg (by decide +kernel), lookup_putF, if_neg (by decide +kernel), lookup_putF, if_pos rfl]; rfl⟩
  | set c n => exact ⟨dx, _, ha, T.set.cl, T.set.noW, by rw [lookup_putF, if_neg (by decide +kernel), lookup_putF, if_neg (by decide +kernel), lookup_putF, if_pos rfl]; rfl⟩
  | keep c => exact ⟨dx, _, ha, T.keep.cl, T.keep.noW, by rw [lookup_putF, if_neg (by decide +kernel), lookup_putF, if_pos rfl]; rfl⟩
  | back c => exact ⟨dx, _, ha, T.back.cl, T.back.noW, by rw [lookup_putF, if_neg (by decide +kernel), lookup_putF, if_pos rfl]; rfl⟩
  | ref c => exact ⟨dx, _, ha, T.ref.cl, T.ref.noW, by rw [lookup_putF, if_neg (by decide +kernel), lookup_putF, if_pos rfl]; rfl⟩
  | put c => exact ⟨dx, _, ha, T.put.cl, T.put.noW, by rw [lookup_putF, if_neg (by decide +kernel), lookup_putF, if_pos rfl]; rfl⟩
  | opn c => exact ⟨dx, _, ha, T.open_.cl, T.open_.noW, by rw [lookup_putF, if_neg (by decide +kernel), lookup_putF, if_pos rfl]; rfl⟩
theorem RowAt.same {T : TRows K mg} {H H' : Hp} {a : Addr} {r : RowD} (h : RowAt T H a r) (s : Same H H') : RowAt T H' a r := h.elim fun dx e => ⟨dx, s _ _ e⟩
end
end Pn

namespace Pn
open PySem L2 TL
/-! ### a row's text, read back -/
end Pn

namespace Pn
open PySem L2
/-! ### parts as they are drawn, and their unrolled text -/
abbrev sUnrolled : Stmt := top 72
abbrev PartD := Str × List RowD
def expand (kn : List PartD) : RowD → List RowD
  | .put z => (kn.lookup z).getD []
  | r => [r]
def unrollIn (kn : List PartD) (rs : List RowD) : List RowD := rs.flatMap (expand kn)
def knowns (bk : List PartD) : List PartD := bk.foldl (fun kn p => (p.1, unrollIn kn p.2) :: kn) []
def unrolled (bk : List PartD) : List RowD := ((knowns bk).head?.map (·.2)).getD []
theorem knowns_snoc (bk : List PartD) (p : PartD) : knowns (bk ++ [p]) = (p.1, unrollIn (knowns bk) p.2) :: knowns bk := by
  unfold knowns
  rw [List.foldl_append]
  rfl
theorem knowns_len (bk : List PartD) : (knowns bk).map (·.1) = (bk.map (·.1)).reverse := by
  unfold knowns
  have q : ∀ (l : List PartD) (kn : List PartD), (l.foldl (fun kn p => (p.1, unrollIn kn p.2) :: kn) kn).map (·.1) = (l.map (·.1)).reverse ++ kn.map (·.1) := by
    intro l
    induction l with
    | nil => intro kn; rfl
    | cons p l ih =>
      intro kn
      rw [List.foldl_cons, ih]
      simp
  rw [q]
  simp
def RowsAt (H : Hp) (us : List Addr) (rs : List RowD) : Prop := Paired (fun t r => H t = some (.tup (rowTup r))) us rs
def LstAt (H : Hp) (a : Addr) (rs : List RowD) : Prop := ∃ us : List Addr, H a = some (.lst (us.map V.ref)) ∧ RowsAt H us rs
def PartAt (H : Hp) (t : Addr) (p : PartD) : Prop := ∃ ra, H t = some (.tup [.str p.1, .ref ra]) ∧ LstAt H ra p.2
def PartsAt (H : Hp) (a : Addr) (bk : List PartD) : Prop := ∃ ts : List Addr, H a = some (.lst (ts.map V.ref)) ∧ Paired (PartAt H) ts bk
theorem RowsAt.same {H H' : Hp} {us : List Addr} {rs : List RowD} (h : RowsAt H us rs) (s : Same H H') : RowsAt H' us rs := paired_mono (fun _ _ e => s _ _ e) h
theorem LstAt.same {H H' : Hp} {a : Addr} {rs : List RowD} (h : LstAt H a rs) (s : Same H H') : LstAt H' a rs := by
  obtain ⟨us, e, p⟩ := h
  exact ⟨us, s _ _ e, p.same s⟩
theorem PartAt.same {H H' : Hp} {t : Addr} {p : PartD} (h : PartAt H t p) (s : Same H H') : PartAt H' t p := by
  obtain ⟨ra, e, q⟩ := h
  exact ⟨ra, s _ _ e, q.same s⟩
theorem PartsAt.same {H H' : Hp} {a : Addr} {bk : List PartD} (h : PartsAt H a bk) (s : Same H H') : PartsAt H' a bk := by
  obtain ⟨ts, e, p⟩ := h
  exact ⟨ts, s _ _ e, paired_mono (fun _ _ z => z.same s) p⟩
theorem rows_dk {H : Hp} {K : Addr} {kvs kv2 : List (Key × V)} (hK : H K = some (.dK kvs)) {us : List Addr} {rs : List RowD} (h : RowsAt H us rs) : RowsAt (upd H K (.dK kv2)) us rs :=
  paired_mono (fun a _ e => by rw [upd_ne (fun z => by rw [z, hK] at e; cases e)]; exact e) h
theorem lst_dk {H : Hp} {K a : Addr} {kvs kv2 : List (Key × V)} {rs : List RowD} (hK : H K = some (.dK kvs)) (h : LstAt H a rs) : LstAt (upd H K (.dK kv2)) a rs := by
  obtain ⟨us, e, p⟩ := h
  exact ⟨us, by rw [upd_ne (fun z => by rw [z, hK] at e; cases e)]; exact e, rows_dk hK p⟩
theorem rows_lst {H : Hp} {F : Addr} {xs ys : List V} (hF : H F = some (.lst xs)) {us : List Addr} {rs : List RowD} (h : RowsAt H us rs) : RowsAt (upd H F (.lst ys)) us rs :=
  paired_mono (fun a _ e => by rw [upd_ne (fun z => by rw [z, hF] at e; cases e)]; exact e) h
theorem Same.updn {H H1 : Hp} {p : Addr} {o : HO} (s : Same H H1) (h : H p = none) : Same H (upd H1 p o) := fun a u e => by
  rw [upd_ne (ne_of_none e h)]
  exact s a u e
theorem paired_app {α β : Type} {R : α → β → Prop} : ∀ {l : List α} {m : List β} {l2 : List α} {m2 : List β}, Paired R l m → Paired R l2 m2 → Paired R (l ++ l2) (m ++ m2)
  | _, _, _, _, .nil, h => h
  | _, _, _, _, .cons a b, h => .cons a (paired_app b h)
def headW : RowD → Str
  | .note _ _ => "note"
  | .skip _ _ => "skip"
  | .set _ _ => "set"
  | .keep _ => "keep"
  | .back _ => "back"
  | .ref _ => "ref"
  | .put _ => "put"
  | .opn _ => "open"
theorem head_put : ∀ {r : RowD}, (¬ ∃ z, r = .put z) → decide (V.str (headW r) = V.str "put") = false
  | .note _ _, _ => (by decide +kernel : decide (V.str "note" = V.str "put") = false)
  | .skip _ _, _ => (by decide +kernel : decide (V.str "skip" = V.str "put") = false)
  | .set _ _, _ => (by decide +kernel : decide (V.str "set" = V.str "put") = false)
  | .keep _, _ => (by decide +kernel : decide (V.str "keep" = V.str "put") = false)
  | .back _, _ => (by decide +kernel : decide (V.str "back" = V.str "put") = false)
  | .ref _, _ => (by decide +kernel : decide (V.str "ref" = V.str "put") = false)
  | .put z, h => absurd ⟨z, rfl⟩ h
  | .opn _, _ => (by decide +kernel : decide (V.str "open" = V.str "put") = false)
/-- puts are of earlier parts; no part is long -/
def PutsOk (bk : List PartD) : Prop := ∀ (i : Nat) (p : PartD), bk[i]? = some p → p.2.length ≤ 7 ∧ ∀ z, RowD.put z ∈ p.2 → z ∈ (bk.take i).map (·.1)
/-- what the dict of the unrolled parts holds -/
def KnAt (H0 H : Hp) (kvs : List (Key × V)) (kn : List PartD) : Prop := ∀ z rs, kn.lookup z = some rs → ∃ f, valV kvs (.inr z) = some (.ref f) ∧ H0 f = none ∧ LstAt H f rs
theorem lookup_of_mem : ∀ {kn : List PartD} {z : Str}, z ∈ kn.map (·.1) → ∃ rs, kn.lookup z = some rs ∧ (z, rs) ∈ kn
  | [], z, h => by cases h
  | (y, rs) :: kn, z, h => by
    by_cases e : z = y
    · subst e
      exact ⟨rs, by rw [List.lookup_cons]; simp, List.mem_cons_self⟩
    · have h2 : z ∈ kn.map (·.1) := by
        rcases List.mem_cons.mp h with h | h
        · exact absurd h e
        · exact h
      obtain ⟨rs2, h3, h4⟩ := lookup_of_mem h2
      refine ⟨rs2, ?_, List.mem_cons_of_mem _ h4⟩
      rw [List.lookup_cons, show (z == y) = false from by simpa using e]
      exact h3
theorem tup_head (r : RowD) : (rowTup r)[0]? = some (.str (headW r)) := by cases r <;> rfl
theorem roomU {k : Nat} {A : Around} (r : Room k A) : A.units + 1 < cLine := by have := r.un; omega
theorem putK_len {κ : Type} [DecidableEq κ] (kvs : List (κ × V)) (k : κ) (v : V) : (putK kvs k v).length ≤ kvs.length + 1 := by
  unfold putK
  split
  · rw [List.length_map]; omega
  · rw [List.length_append]; simp
section
variable {P : Program} {w : World} {K : PySem.W.Frag} {mg : Str → Option Value} {base : Heap}
def spUnrolled : Sp := fun vs H Q _ => ∃ (pa : Addr) (bk : List PartD), vs = [.ref pa] ∧ PartsAt H pa bk ∧ PutsOk bk ∧ bk ≠ [] ∧ bk.length ≤ 4 ∧ ∀ (F : Addr) (H' : Hp), Same H H' → H F = none → LstAt H' F (unrolled bk) → (unrolled bk).length ≤ 2401 → Q (.ref F) H'
theorem scUnrolled : FnScope ["_law_parts", "_law_known", "_law_name", "_law_rows", "_law_found", "_law_row_here"] ["_law_parts"] (defScope sUnrolled) := ⟨rfl, rfl, rfl, by decide +kernel, rfl, by decide +kernel, by decide +kernel⟩
theorem ok_unrolled {f : Addr} {fd : FuncData} (F : Fun K "_law_unrolled" "_law_unrolled" sUnrolled f fd) : FnOk P w K mg base CX0 1 f fd ["_law_parts"] spUnrolled := by
  refine F.ok scUnrolled (fun vs H Q E h => ?_) (fun cdv A outer s H vs Q E hr h => ?_)
  · obtain ⟨pa, bk, rfl, _⟩ := h
    rfl
  · obtain ⟨pa, bk, rfl, ⟨ts, hpa, hpd⟩, hPO, hne, hlen, q⟩ := h
    refine ⟨_, pss_cons (ps_set (i := 1) scUnrolled.nd rfl (Or.inl rfl) pe_dnewK)
      (pss_cons (ps_for PassesOwn.never rfl (pi_list (pv 0)) (pg_tup (by rfl) (pgs_cons (pg_name (i := 2) scUnrolled.nd rfl (Or.inl rfl)) (pgs_cons (pg_name (i := 3) scUnrolled.nd rfl (Or.inl rfl)) pgs_nil)))
        (pss_cons (ps_set (i := 4) scUnrolled.nd rfl (Or.inl rfl) (pe_lst pa_nil))
        (pss_cons (ps_for PassesOwn.never rfl (pi_list (pv 3)) (pg_name (i := 5) scUnrolled.nd rfl (Or.inl rfl))
          (pss_one (ps_expr (pe_bm PySem.F.plainAttrs_list PySem.F.slot_list_extend PySem.F.type_list_extend mt_extend (pv 4) (pa_cons (pe_ifExp (pt_cmpR op_eq (pe_ix ix_tup (pv 5) pe_int (fun _ _ => rfl)) pe_str (nomark _)) (pe_dget (roomU hr) (pv 1) (pe_ix ix_tup (pv 5) pe_int (fun _ _ => rfl)) (fun _ _ => rfl)) (pe_lst (pa_cons (pv 5) pa_nil))) pa_nil)))))
        (pss_one (ps_dput (roomU hr) (pv 1) (pv 2) (pv 4) (by rfl))))))
      (pss_one (ps_ret (pe_dget (roomU hr) (pv 1) (pe_ix ix_tup (pe_ix ix_list (pv 0) (pe_un un_neg pe_int) (fun _ _ => rfl)) pe_int (fun _ _ => rfl)) (fun _ _ => rfl))))), ?_⟩
    try dsimp only
    refine fun kp hkp => ?_
    have s0 : Same H (upd H kp (.dK [])) := Same.new hkp
    have hK0 : upd H kp (.dK []) kp = some (.dK []) := upd_same
    generalize upd H kp (.dK []) = H0 at s0 hK0 ⊢
    have htl : ts.length = bk.length := paired_len hpd
    refine ⟨_, rfl, pa, rfl, ⟨_, SqL.of (s0 _ _ hpa)⟩, for_list (xs := ts.map V.ref) (fun i σ Hi => ∃ x2 x3 x4 x5 kvs, σ = [some (.ref pa), some (.ref kp), x2, x3, x4, x5] ∧ Same H Hi ∧ Hi kp = some (.dK kvs) ∧ kvs.length ≤ i ∧ KnAt H Hi kvs (knowns (bk.take i)) ∧ ∀ z rs, (z, rs) ∈ knowns (bk.take i) → rs.length ≤ 7 ^ i)
      ⟨_, _, _, _, [], rfl, s0, hK0, Nat.le_refl _, (fun z rs h => by cases h), (fun z rs h => by cases h)⟩ (fun i σ Hi _ hP => by obtain ⟨_, _, _, _, _, _, hs, _⟩ := hP; exact SqL.of (hs _ _ hpa)) (fun i x σ Hi hx hP => ?turnO) (fun σ Hi hP => ?doneO)⟩
    case turnO =>
      obtain ⟨x2, x3, x4, x5, kvs, rfl, sH, hK, hkl, hKn, hlen6⟩ := hP
      rw [List.getElem?_map] at hx
      cases hxi : ts[i]? with
      | none => rw [hxi] at hx; cases hx
      | some t =>
      rw [hxi] at hx
      cases hx
      obtain ⟨p, hp, ra, ht, us, hra, hus⟩ := paired_at hpd hxi
      have hi4 : i < 4 := by
        have := (List.getElem?_eq_some_iff.mp hp).1
        omega
      obtain ⟨hp6, hput⟩ := hPO i p hp
      have hul : us.length = p.2.length := paired_len hus
      refine ⟨t, _, rfl, SqT.of (sH _ _ ht), rfl, _, _, rfl, _, _, rfl, rfl, ?_⟩
      try dsimp only
      refine ⟨Nat.zero_le _, fun fp hfp => ?_⟩
      have hfH : H fp = none := sH.free hfp
      have s1 : Same Hi (upd Hi fp (.lst [])) := Same.new hfp
      have hF1 : upd Hi fp (.lst []) fp = some (.lst []) := upd_same
      generalize upd Hi fp (.lst []) = H1 at s1 hF1 ⊢
      refine ⟨_, rfl, ra, rfl, ⟨_, SqL.of (s1 _ _ (sH _ _ hra))⟩, for_list (xs := us.map V.ref) (fun j σ Hj => ∃ x5 fs, σ = [some (.ref pa), some (.ref kp), some (.str p.1), some (.ref ra), some (.ref fp), x5] ∧ Same Hi Hj ∧ Hj fp = some (.lst ((fs : List Addr).map V.ref)) ∧ RowsAt Hj fs (unrollIn (knowns (bk.take i)) (p.2.take j)) ∧ fs.length ≤ j * 7 ^ i)
        ⟨_, [], rfl, s1, hF1, .nil, Nat.zero_le _⟩ (fun j σ Hj _ hP => by obtain ⟨_, _, _, hs, _⟩ := hP; exact SqL.of (hs _ _ (sH _ _ hra))) (fun j x σ Hj hx hP => ?turnI) (fun σ Hj hP => ?doneI)⟩
      case turnI =>
        obtain ⟨y5, fs, rfl, sj, hFj, hfs, hfl⟩ := hP
        rw [List.getElem?_map] at hx
        cases hxj : us[j]? with
        | none => rw [hxj] at hx; cases hx
        | some u =>
        rw [hxj] at hx
        cases hx
        obtain ⟨r, hrj, hru⟩ := paired_at hus hxj
        have hruj := sj _ _ (sH _ _ hru)
        have hj6 : j < 7 := by
          have := (List.getElem?_eq_some_iff.mp hrj).1
          omega
        have hstep : ∀ es : List RowD, expand (knowns (bk.take i)) r = es → unrollIn (knowns (bk.take i)) (p.2.take (j + 1)) = unrollIn (knowns (bk.take i)) (p.2.take j) ++ es := fun es he => by
          unfold unrollIn
          rw [List.take_add_one, hrj, List.flatMap_append]
          show _ ++ List.flatMap _ [r] = _
          rw [List.flatMap_singleton, he]
        have h6 : 7 ^ i ≤ 343 := by
          have : 7 ^ i ≤ 7 ^ 3 := Nat.pow_le_pow_right (by decide) (by omega)
          exact this
        have h61 : 1 ≤ 7 ^ i := Nat.le_trans Nat.one_le_two_pow (Nat.pow_le_pow_left (by decide) i)
        have hflB : fs.length ≤ 2401 := by
          have : j * 7 ^ i ≤ 7 * 343 := Nat.mul_le_mul (by omega) h6
          omega
        refine ⟨_, rfl, .inl ⟨rfl, _, SqL.of hFj⟩, ?_⟩
        refine ⟨_, rfl, u, _, _, _, rfl, rfl, SqT.of hruj, atI_nat (j := 0) (tup_head r), rfl, _, rfl, ?_⟩
        have hgo : ∀ (b : Addr) (gs : List Addr) (es : List RowD) (Hx : Hp), Same Hj Hx → Hx b = some (.lst (gs.map V.ref)) → RowsAt Hx gs es → gs.length ≤ 7 ^ i → expand (knowns (bk.take i)) r = es →
            ∃ (x5 : Option V) (fs2 : List Addr), [some (V.ref pa), some (.ref kp), some (.str p.1), some (.ref ra), some (.ref fp), some (.ref u)] = [some (V.ref pa), some (.ref kp), some (.str p.1), some (.ref ra), some (.ref fp), x5] ∧ Same Hi (upd Hx fp (.lst ((fs.map V.ref) ++ gs.map V.ref))) ∧ upd Hx fp (.lst ((fs.map V.ref) ++ gs.map V.ref)) fp = some (.lst (fs2.map V.ref)) ∧ RowsAt (upd Hx fp (.lst ((fs.map V.ref) ++ gs.map V.ref))) fs2 (unrollIn (knowns (bk.take i)) (p.2.take (j + 1))) ∧ fs2.length ≤ (j + 1) * 7 ^ i := by
          intro b gs es Hx sx hb hgs hgl he
          refine ⟨_, fs ++ gs, rfl, Same.updn (sj.trans sx) hfp, by rw [List.map_append]; exact upd_same, ?_, ?_⟩
          · rw [hstep es he]
            exact rows_lst (sx _ _ hFj) (paired_app (hfs.same sx) hgs)
          · rw [List.length_append, Nat.add_mul]
            omega
        have hsz : ∀ gs : List Addr, gs.length ≤ 7 ^ i → (fs.map V.ref).length + (gs.map V.ref).length ≤ sizeLine := fun gs hg => by
          rw [List.length_map, List.length_map]
          have : (4802 : Nat) ≤ sizeLine := by decide
          omega
        by_cases hp : ∃ z, r = .put z
        · obtain ⟨z, rfl⟩ := hp
          refine iteTD (by show decide (V.str "put" = V.str "put") = true; exact decide_eq_true rfl) ?_
          have hzm := hput z (List.mem_of_getElem? hrj)
          have hzk : z ∈ (knowns (bk.take i)).map (·.1) := by rw [knowns_len]; exact List.mem_reverse.mpr hzm
          obtain ⟨rs, hlk, hmem⟩ := lookup_of_mem hzk
          obtain ⟨g, hvg, hgn, gs, hg, hgs⟩ := hKn z rs hlk
          have hrl : gs.length = rs.length := paired_len hgs
          have hr6 := hlen6 z rs hmem
          refine ⟨_, rfl, _, rfl, u, _, _, .str z, rfl, rfl, SqT.of hruj, rfl, kp, _, rfl, (by have g := DGet.k (k := Sum.inr z) (sj _ _ hK); rw [hvg] at g; exact g), ?_⟩
          refine ⟨fp, g, _, _, rfl, rfl, hFj, sj _ _ hg, hsz gs (by omega), ?_⟩
          exact hgo g gs rs Hj (fun _ _ e => e) (sj _ _ hg) (hgs.same sj) (by omega) (by show (List.lookup z (knowns (bk.take i))).getD [] = rs; rw [hlk]; rfl)
        · refine iteFD (head_put hp) ?_
          refine ⟨_, rfl, (by show 1 ≤ sizeLine; decide), fun L hL => ?_⟩
          have sx := fun o => Same.new (H := Hj) (o := o) hL
          refine ⟨fp, L, _, [.ref u], rfl, rfl, sx _ _ _ hFj, upd_same, hsz [u] h61, ?_⟩
          exact hgo L [u] [r] _ (sx _) upd_same (.cons (sx _ _ _ hruj) .nil) h61 (by cases r <;> first | exact absurd ⟨_, rfl⟩ hp | rfl)
      case doneI =>
        obtain ⟨y5, fs, rfl, sj, hFj, hfs, hfl⟩ := hP
        rw [List.length_map, hul] at hfl hfs
        rw [List.take_length] at hfs
        have hk5 : kvs.length < sizeLine := by
          have : (5 : Nat) ≤ sizeLine := by decide
          omega
        refine ⟨_, rfl, _, rfl, _, rfl, kp, _, rfl, DPut.k (k := Sum.inr p.1) (sj _ _ hK) hk5, ?_⟩
        have hkt : knowns (bk.take (i + 1)) = (p.1, unrollIn (knowns (bk.take i)) p.2) :: knowns (bk.take i) := by
          rw [List.take_add_one, hp]
          exact knowns_snoc _ _
        have hKj := sj _ _ hK
        have nF : fp ≠ kp := fun z => by rw [z, hK] at hfp; cases hfp
        refine ⟨_, _, _, _, putK kvs (.inr p.1) (.ref fp), rfl, ?_, upd_same, ?_, ?_, ?_⟩
        · exact Same.updn (sH.trans sj) hkp
        · have := putK_len kvs (Sum.inr p.1 : Key) (V.ref fp)
          omega
        · rw [hkt]
          intro z rs hz
          rw [List.lookup_cons] at hz
          rw [valV_put]
          by_cases e : z = p.1
          · subst e
            rw [beq_self_eq_true] at hz
            have hz2 : unrollIn (knowns (bk.take i)) p.2 = rs := Option.some.inj hz
            subst hz2
            rw [if_pos rfl]
            exact ⟨fp, rfl, hfH, fs, by rw [upd_ne nF]; exact hFj, rows_dk hKj hfs⟩
          · rw [show (z == p.1) = false from by simpa using e] at hz
            rw [if_neg (fun q => e (by injection q))]
            obtain ⟨f, h1, h2, h3⟩ := hKn z rs hz
            exact ⟨f, h1, h2, lst_dk hKj (h3.same sj)⟩
        · rw [hkt]
          intro z rs hz
          rcases List.mem_cons.mp hz with e | hz
          · injection e with e1 e2
            subst e2
            have hln := paired_len hfs
            rw [Nat.pow_succ]
            have hq : p.2.length * 7 ^ i ≤ 7 * 7 ^ i := Nat.mul_le_mul_right _ (by omega)
            omega
          · have := hlen6 z rs hz
            rw [Nat.pow_succ]
            omega
    case doneO =>
      obtain ⟨x2, x3, x4, x5, kvs, rfl, sH, hK, hkl, hKn, hlen6⟩ := hP
      rw [List.length_map, htl] at hKn hlen6 hkl
      rw [List.take_length] at hKn hlen6
      obtain ⟨bi, p, rfl⟩ : ∃ bi p, bk = bi ++ [p] := ⟨_, _, (List.dropLast_concat_getLast hne).symm⟩
      obtain ⟨tsi, t, rfl⟩ : ∃ tsi t, ts = tsi ++ [t] := ⟨_, _, (List.dropLast_concat_getLast (by intro z; rw [z] at htl; simp at htl)).symm⟩
      have hli : tsi.length = bi.length := by simpa using htl
      obtain ⟨p2, hp2, ra, htt, _⟩ := paired_at hpd (show (tsi ++ [t])[tsi.length]? = some t by simp)
      have hpp : p = p2 := by
        rw [hli] at hp2
        simpa using hp2
      subst hpp
      have hk2 := knowns_snoc bi p
      obtain ⟨f, h1, h2, h3⟩ := hKn p.1 (unrollIn (knowns bi) p.2) (by rw [hk2]; simp)
      have hu : unrolled (bi ++ [p]) = unrollIn (knowns bi) p.2 := by
        unfold unrolled
        rw [hk2]
        rfl
      have hl6 := hlen6 p.1 (unrollIn (knowns bi) p.2) (by rw [hk2]; exact List.mem_cons_self)
      have h64 : 7 ^ (bi ++ [p]).length ≤ 2401 := by
        have : 7 ^ (bi ++ [p]).length ≤ 7 ^ 4 := Nat.pow_le_pow_right (by decide) (by omega)
        exact this
      refine ⟨_, rfl, _, rfl, ?_⟩
      refine ⟨_, rfl, pa, _, _, .ref t, rfl, rfl, SqL.of (sH _ _ hpa), (by rw [List.map_append]; exact atI_last _ _), ?_⟩
      refine ⟨t, _, _, .str p.1, rfl, rfl, SqT.of (sH _ _ htt), rfl, kp, _, rfl, (by have g := DGet.k (k := Sum.inr p.1) hK; rw [h1] at g; exact g), ?_⟩
      exact q f _ sH h2 (by rw [hu]; exact h3) (by rw [hu]; omega)
end
end Pn

namespace Pn
open PySem L2 TL
abbrev sIsSeq : Stmt := top 7
abbrev sPartInit : Stmt := inClass (top 43) 0
abbrev sPartStr : Stmt := inClass (top 43) 1
abbrev sPartEq : Stmt := inClass (top 43) 2
abbrev sIPInit : Stmt := inClass (top 12) 0
/-! ### a sequence, and which of its things are rows -/
def seqD : PyData → Bool
  | .list _ => true
  | .tuple _ => true
  | _ => false
theorem kit_two {K : PySem.W.Frag} {t : String} {a b : Bool} (h1 : kitB t "list" = some a) (h2 : kitB t "tuple" = some b) : PySem.W.kitAny K (.type t) [.type "list", .type "tuple"] = some (a || b) := by
  cases a
  · refine kitAny_cons (kit_ty h1) (fun _ => kitAny_cons (kit_ty h2) (fun z => ?_) (fun z => ?_)) (fun z => nomatch z)
    · rw [z]; exact kitAny_nil
    · rw [z]; rfl
  · exact kitAny_cons (kit_ty h1) (fun z => nomatch z) (fun _ => rfl)
theorem kit_seq {K : PySem.W.Frag} : ∀ d : PyData, PySem.W.kitAny K (.type (tyD d)) [.type "list", .type "tuple"] = some (seqD d)
  | .none => kit_two (by decide +kernel : kitB "NoneType" "list" = some false) (by decide +kernel : kitB "NoneType" "tuple" = some false)
  | .bool _ => kit_two (by decide +kernel : kitB "bool" "list" = some false) (by decide +kernel : kitB "bool" "tuple" = some false)
  | .int _ => kit_two (by decide +kernel : kitB "int" "list" = some false) (by decide +kernel : kitB "int" "tuple" = some false)
  | .str _ => kit_two (by decide +kernel : kitB "str" "list" = some false) (by decide +kernel : kitB "str" "tuple" = some false)
  | .list _ => kit_two (by decide +kernel : kitB "list" "list" = some true) (by decide +kernel : kitB "list" "tuple" = some false)
  | .tuple _ => kit_two (by decide +kernel : kitB "tuple" "list" = some false) (by decide +kernel : kitB "tuple" "tuple" = some true)
  | .dict _ => kit_two (by decide +kernel : kitB "dict" "list" = some false) (by decide +kernel : kitB "dict" "tuple" = some false)
theorem sql_ty {K : PySem.W.Frag} {H : Hp} {p : Addr} {xs : List V} (h : SqL K H p xs) : TyX K H (.ref p) (.type "list") := by
  rcases h with (s | ⟨o, s⟩) | ⟨o, _, _, e, c, _⟩
  · exact .base (.lst s)
  · exact .base (.frz s)
  · exact .kList e c
theorem sqt_ty {K : PySem.W.Frag} {H : Hp} {p : Addr} {xs : List V} (h : SqT K H p xs) : TyX K H (.ref p) (.type "tuple") := by
  rcases h with (s | ⟨o, s⟩) | ⟨o, _, _, e, c, _⟩
  · exact .base (.tup s)
  · exact .fTuple s
  · exact .kTuple e c
theorem sql_ins {K : PySem.W.Frag} {H : Hp} {x C dx p : Addr} {fs : List (Str × V)} {o : HO} {xs : List V} (hx : H x = some (.ins C dx fs)) (h : SqL K H p xs) : SqL K (upd H x o) p xs := by
  rcases h with (s | ⟨u, s⟩) | s
  · exact .inl (.inl (by rw [upd_ne (fun z => by rw [z, hx] at s; cases s)]; exact s))
  · exact .inl (.inr ⟨u, by rw [upd_ne (fun z => by rw [z, hx] at s; cases s)]; exact s⟩)
  · exact .inr s
theorem sqt_ins {K : PySem.W.Frag} {H : Hp} {x C dx p : Addr} {fs : List (Str × V)} {o : HO} {xs : List V} (hx : H x = some (.ins C dx fs)) (h : SqT K H p xs) : SqT K (upd H x o) p xs := by
  rcases h with (s | ⟨u, s⟩) | s
  · exact .inl (.inl (by rw [upd_ne (fun z => by rw [z, hx] at s; cases s)]; exact s))
  · exact .inl (.inr ⟨u, by rw [upd_ne (fun z => by rw [z, hx] at s; cases s)]; exact s⟩)
  · exact .inr s
section
variable {X : Cx} {tg : Expr}
/-- for x in a list or a tuple: whichever it is known to be -/
def iSeq (K : PySem.W.Frag) (tl : TE) : TI := fun σ H R => iList K tl σ H R ∨ iTup K tl σ H R
theorem pi_seq {l : Expr} {tl : TE} (hl : PE X l tl) : PI X tg l (iSeq X.K tl) :=
  ⟨fun pins s σ H R I h => h.elim (fun a => (pi_list hl).run pins s σ H R I a) fun a => (pi_tup hl).run pins s σ H R I a⟩
end
section
variable {P : Program} {w : World} {K : PySem.W.Frag} {mg : Str → Option Value} {base : Heap}
/-- a method of an own class -/
structure TMeth (K : PySem.W.Frag) (C : Addr) (nm qual : Str) (st : Stmt) (ps : List Str) : Type where
  f : Addr
  fd : FuncData
  F : Fun K nm qual st f fd
  b : Binds K fd ps []
  hs : PySem.W.findIn K (.ref C) nm = some (some (.ref f))
  hf : PySem.W.isFn K (.ref f) = true
/-- a row, or data -/
def RowFlag (R : TRows K mg) (H : Hp) (x : V) (b : Bool) : Prop := (b = true ∧ ∃ a r, x = .ref a ∧ RowAt R H a r) ∨ (b = false ∧ ∃ d, Dp K H x d)
theorem RowFlag.same {R : TRows K mg} {H H' : Hp} {x : V} {b : Bool} (h : RowFlag R H x b) (s : Same H H') : RowFlag R H' x b := by
  rcases h with ⟨e, a, r, ex, h⟩ | ⟨e, d, h⟩
  · exact .inl ⟨e, a, r, ex, h.same s⟩
  · exact .inr ⟨e, d, dp_same s d x h⟩
structure TPart {K : PySem.W.Frag} {mg : Str → Option Value} (R : TRows K mg) : Type where
  S : TStrs R
  CR : Addr
  mR : mg "Row" = some (.ref CR)
  kR : ∀ r, PySem.W.kitOne K (.ref (clsOf R r)) (.ref CR) = some true
  kD : ∀ d : PyData, PySem.W.kitOne K (.type (tyD d)) (.ref CR) = some false
  cA : ∀ r, PySem.W.findIn K (.ref (clsOf R r)) "__class__" = some (some (.builtin "object.__class__"))
  cN : PySem.W.specialIn K (.builtin "object.__class__") "__get__" = some (some (.builtin "getset_descriptor.__get__"))
  cT : PySem.W.takesIn K (.builtin "object.__class__") = some true
  cM : ∀ r, PySem.W.mroIn K (clsOf R r) (.type "object") = some true
  mList : mg "list" = none
  mTup : mg "tuple" = none
  isSeq : At K mg "is_sequence" sIsSeq ["value"]
  IP : TExc K mg "InvalidPart" "InvalidPart.__init__" "word" sIPInit
  C : Addr
  mC : mg "Part" = some (.ref C)
  fI : Addr
  fdI : FuncData
  dRows : Addr
  hRows : ∀ H, SqT K H dRows []
  FI : FunD K "__init__" "Part.__init__" (defArgs sPartInit) (defBody sPartInit) (defScope sPartInit) [.ref dRows] [] fI fdI
  bI : Binds K fdI ["self", "name", "rows"] []
  ds1 : List Value
  v1 : Vals [V.ref dRows] ds1
  b1 : Binds K fdI ["self", "name", "rows"] ds1
  M : Mk K C fI
  cl : Cls K C
  noN : NoAttr K C "name"
  noR : NoAttr K C "rows"
  pA : PySem.W.findIn K (.ref C) "__class__" = some (some (.builtin "object.__class__"))
  pM : PySem.W.mroIn K C (.type "object") = some true
  ne : PySem.W.findIn K (.ref C) "__ne__" = some (some (.builtin "object.__ne__"))
  kC : PySem.W.kitOne K (.ref C) (.ref C) = some true
  kS : PySem.W.kitOne K (.type "str") (.ref C) = some false
  nC : PySem.W.notFirst K C (.ref C) = true
  nS : PySem.W.notFirst K C (.type "str") = true
  str : TMeth K C "__str__" "Part.__str__" sPartStr ["self"]
  eq : TMeth K C "__eq__" "Part.__eq__" sPartEq ["self", "other"]
theorem flag_kit {R : TRows K mg} (T : TPart R) {H : Hp} {x : V} {b : Bool} (h : RowFlag R H x b) : ∃ t, TyX K H x t ∧ PySem.W.kitOne K t (.ref T.CR) = some b := by
  rcases h with ⟨rfl, a, r, rfl, dy, h⟩ | ⟨rfl, d, h⟩
  · obtain ⟨gs, eg⟩ := insRow_ins R dy r
    rw [eg] at h
    exact ⟨_, .base (.ins h (cls_of R r) (T.cA r) T.cN T.cT (T.cM r)), T.kR r⟩
  · exact ⟨_, dp_ty h, T.kD d⟩
def spIsSeq (K : PySem.W.Frag) : Sp := fun vs H Q _ => ∃ (v : V) (t : Value) (b : Bool), vs = [v] ∧ TyX K H v t ∧ PySem.W.kitAny K t [.type "list", .type "tuple"] = some b ∧ (∀ H', Same H H' → TyX K H' v t) ∧ ∀ H', Same H H' → Mo H H' → Q (.bl b) H'
theorem scIsSeq : FnScope ["value"] ["value"] (defScope sIsSeq) := ⟨rfl, rfl, rfl, by decide +kernel, rfl, by decide +kernel, by decide +kernel⟩
theorem ok_isSeq {f : Addr} {fd : FuncData} (F : Fun K "is_sequence" "is_sequence" sIsSeq f fd) (mIsi : mg "isinstance" = none) (mL : mg "list" = none) (mT : mg "tuple" = none) : FnOk P w K mg base CX0 1 f fd ["value"] (spIsSeq K) := by
  refine F.ok scIsSeq (fun vs H Q E h => ?_) (fun cdv A outer s H vs Q E hr h => ?_)
  · obtain ⟨v, t, b, rfl, _⟩ := h
    rfl
  · obtain ⟨v, t, b, rfl, ht, hk, hS, q⟩ := h
    refine ⟨_, pss_one (ps_ret (pe_callB call_isiT (by rfl) mIsi (by decide +kernel) (pa_cons (pv 0) (pa_cons (pe_tup (pa_cons (pe_bltn (v := .ty "list") (by rfl) mL (by decide +kernel) rfl) (pa_cons (pe_bltn (v := .ty "tuple") (by rfl) mT (by decide +kernel) rfl) pa_nil))) pa_nil)))), ?_⟩
    refine ⟨_, rfl, (by show 2 ≤ sizeLine; decide), fun p hp => ?_⟩
    exact ⟨v, p, _, t, _, b, rfl, upd_same, .cons (.ty _) (.cons (.ty _) .nil), hS _ (Same.new hp), hk, q _ (Same.new hp) Mo.upd⟩
theorem scIPInit : FnScope ["self", "word"] ["self", "word"] (defScope sIPInit) := ⟨rfl, rfl, rfl, by decide +kernel, rfl, by decide +kernel, by decide +kernel⟩
theorem okIPInit (T : TExc K mg "InvalidPart" "InvalidPart.__init__" "word" sIPInit) : FnOk P w K mg base CX0 1 T.fI T.fd ["self", "word"] (spXInit K "word") := by
  refine T.F.ok scIPInit (fun vs H Q E h => ?_) (fun cdv A outer s H vs Q E hr h => ?_)
  · obtain ⟨a, C, v, rfl, _⟩ := h
    rfl
  · obtain ⟨a, C, v, rfl, ha, O, no, q⟩ := h
    refine ⟨_, pss_one (ps_ost (pv 0) (pv 1)), ?_⟩
    exact ⟨_, rfl, _, rfl, a, C, rfl, O, no, .inl ⟨ha, fun dx h1 h2 => q dx h1 h2⟩⟩
def insPart (C dx : Addr) (v u : V) : HO := .ins C dx (putF "rows" u (putF "name" v []))
theorem part_name {v u : V} : (putF "rows" u (putF "name" v ([] : List (Str × V)))).lookup ("name" : Str) = some v := by
  rw [lookup_putF, if_neg (by decide +kernel), lookup_putF, if_pos rfl]
theorem part_rows {v u : V} : (putF "rows" u (putF "name" v ([] : List (Str × V)))).lookup ("rows" : Str) = some u := by
  rw [lookup_putF, if_pos rfl]
/-- what is passed as rows: no sequence, or one of so many things -/
def RowsArg (R : TRows K mg) (H : Hp) (u : V) : Option (List V × List Bool) → Prop
  | none => ∃ d, Dp K H u d ∧ seqD d = false
  | some (xs, bs) => ∃ p, u = .ref p ∧ (SqL K H p xs ∨ SqT K H p xs) ∧ Paired (RowFlag R H) xs bs ∧ xs.length ≤ 1000
theorem RowsArg.same {R : TRows K mg} {H H' : Hp} {u : V} {o : Option (List V × List Bool)} (h : RowsArg R H u o) (s : Same H H') : RowsArg R H' u o := by
  cases o with
  | none =>
    obtain ⟨d, h, e⟩ := h
    exact ⟨d, dp_same s d u h, e⟩
  | some o =>
    obtain ⟨p, e, h, hp, hl⟩ := h
    exact ⟨p, e, h.elim (fun h => .inl (s.seq h)) (fun h => .inr (Same.sqt s h)), paired_mono (fun _ _ z => z.same s) hp, hl⟩
def argOk : Option (List V × List Bool) → Bool
  | none => false
  | some (_, bs) => bs.all id
def spPartInit (R : TRows K mg) (C CP : Addr) : Sp := fun vs H Q E => ∃ (x dx : Addr) (v u : V) (d : PyData) (o : Option (List V × List Bool)), vs = [.ref x, v, u] ∧ H x = some (.ins C dx []) ∧ Dp K H v d ∧ dlen d ∧ RowsArg R H u o ∧
  (nameD d = false → RaiseW CP H E (.str "name")) ∧ (nameD d = true → argOk o = false → RaiseW CP H E (.str "rows")) ∧
  (nameD d = true → argOk o = true → ∀ xs bs, o = some (xs, bs) → ∀ tp H', KpI x H H' → Mo H H' → SqT K H' tp xs → H' x = some (insPart C dx v (.ref tp)) → Q .non H')
theorem scPartInit : FnScope ["self", "name", "rows", "row"] ["self", "name", "rows"] (defScope sPartInit) := ⟨rfl, rfl, rfl, by decide +kernel, rfl, by decide +kernel, by decide +kernel⟩
theorem okPartInit {R : TRows K mg} (T : TPart R) : FnOk P w K mg base (L2N.CX P w) 4 T.fI T.fdI ["self", "name", "rows"] (spPartInit R T.C T.IP.C) := by
  refine T.FI.ok scPartInit (fun vs H Q E h => ?_) (fun cdv A outer s H vs Q E hr h => ?_)
  · obtain ⟨x, dx, v, u, d, o, rfl, _⟩ := h
    rfl
  · obtain ⟨x, dx, v, u, d, o, rfl, hx, hd, hl, ha, q1, q2, q3⟩ := h
    refine ⟨_, pss_cons (ps_if (pt_not (pt_val (pe_call (R.N.okName) (hr.mono (by decide)) rfl R.N.isName.m R.N.isName.F.kp R.N.isName.b .nil pass0 (pa_cons (pv 1) pa_nil))))
        (pss_one (L2N.ps_raise rfl (L2N.takes_of rfl rfl rfl rfl) (pmk_oexN T.IP.O T.IP.iC T.IP.tI (okIPInit T.IP) (hr.mono (by decide)) T.IP.b pass0 rfl T.IP.m (pa_cons pe_str pa_nil)))) pss_nil)
      (pss_cons (ps_if (PW.pt (pw_or (pt_not (pt_val (pe_call (ok_isSeq T.isSeq.F R.N.mIsi T.mList T.mTup) (hr.mono (by decide)) rfl T.isSeq.m T.isSeq.F.kp T.isSeq.b .nil pass0 (pa_cons (pv 2) pa_nil))))
          (pw_or1 (pt_not (pt_val (pe_callB (cr_all rfl) (by rfl) R.N.mAll (by decide +kernel) (pa_cons (pe_lc (own := [("row", 3)]) (g := gName 3) (tt := tYes) (by rfl) scPartInit.nd (pi_seq (pv 2))
            (blkOk_by (N := ["self", "name", "rows", "row"]) (sc := defScope sPartInit) (by decide +kernel)) (fun _ _ _ _ _ => pg_name (i := 3) scPartInit.nd rfl (Or.inl rfl)) (fun _ _ _ _ _ => pts_nil)
            (fun _ _ _ _ _ => pe_callB (show CallR _ (.builtin "isinstance") (rIsi K) from call_isi) (by rfl) R.N.mIsi (by decide +kernel) (pa_cons (pv 3) (pa_cons (pe_glob (v := .ref T.CR) (by rfl) T.mR rfl) pa_nil)))) pa_nil)))))))
        (pss_one (L2N.ps_raise rfl (L2N.takes_of rfl rfl rfl rfl) (pmk_oexN T.IP.O T.IP.iC T.IP.tI (okIPInit T.IP) (hr.mono (by decide)) T.IP.b pass0 rfl T.IP.m (pa_cons pe_str pa_nil)))) pss_nil)
      (pss_cons (ps_fld (pv 0) (pv 1) rfl) (pss_one (ps_fld (pv 0) (pe_callTy call_tuple_of (by rfl) T.mTup (by decide +kernel) (pa_cons (pv 2) pa_nil)) rfl)))), ?_⟩
    refine ⟨_, rfl, v, d, rfl, hd, hl, fun H1 hs hm => ?_⟩
    cases hn : nameD d with
    | false =>
      refine ⟨false, rfl, iteT ?_⟩
      exact ⟨(by show 1 ≤ 1000; decide), fun a ha => ⟨a, T.IP.C, _, rfl, upd_same, T.IP.O, T.IP.noF, fun dx g1 g2 => ⟨rfl, dx, _, upd_same, by rw [upd_ne g2, upd_same], by rw [upd_ne g2] at g1; exact g1, ir_made hs hm (q1 hn) ha dx g1 g2⟩⟩⟩
    | true =>
      refine ⟨true, rfl, iteF ?_⟩
      have ha1 := ha.same hs
      cases o with
      | none =>
        obtain ⟨e, he, hse⟩ := ha1
        refine ⟨_, rfl, u, _, _, rfl, dp_ty he, kit_seq e, fun H' s' => dp_ty (dp_same s' e u he), fun H2 hs2 hm2 => ?_⟩
        rw [hse]
        refine ⟨false, rfl, iteT ?_⟩
        exact ⟨(by show 1 ≤ 1000; decide), fun a ha => ⟨a, T.IP.C, _, rfl, upd_same, T.IP.O, T.IP.noF, fun dx g1 g2 => ⟨rfl, dx, _, upd_same, by rw [upd_ne g2, upd_same], by rw [upd_ne g2] at g1; exact g1, ir_made (hs.trans hs2) (hm.trans hm2) (q2 hn rfl) ha dx g1 g2⟩⟩⟩
      | some o =>
        obtain ⟨xs, bs⟩ := o
        obtain ⟨p, rfl, hp, hpd, hxl⟩ := ha1
        have htk : ∃ t, PySem.W.kitAny K t [.type "list", .type "tuple"] = some true ∧ TyX K H1 (.ref p) t ∧ ∀ H', Same H1 H' → TyX K H' (.ref p) t := by
          rcases hp with hp | hp
          · exact ⟨_, kit_two (by decide +kernel : kitB "list" "list" = some true) (by decide +kernel : kitB "list" "tuple" = some false), sql_ty hp, fun H' s' => sql_ty (s'.seq hp)⟩
          · exact ⟨_, kit_two (by decide +kernel : kitB "tuple" "list" = some false) (by decide +kernel : kitB "tuple" "tuple" = some true), sqt_ty hp, fun H' s' => sqt_ty (Same.sqt s' hp)⟩
        obtain ⟨t, hk, ht1, ht2⟩ := htk
        refine ⟨_, rfl, _, t, true, rfl, ht1, hk, ht2, fun H2 hs2 hm2 => ⟨true, rfl, iteF ?_⟩⟩
        have hp2 : SqL K H2 p xs ∨ SqT K H2 p xs := hp.elim (fun h => .inl (hs2.seq h)) (fun h => .inr (Same.sqt hs2 h))
        have hpd2 := paired_mono (fun _ _ z => z.same hs2) hpd
        have hbl : xs.length = bs.length := paired_len hpd
        have hp2c := hp2
        refine hp2.elim (fun hp3 => .inl ⟨_, rfl, p, rfl, ⟨_, hp3⟩, fun D hD => lc_list (xs := xs) (fun i Hi => Same H2 Hi ∧ Mo H2 Hi ∧ Hi D = some (.lst ((bs.take i).map V.bl))) ⟨Same.new hD, Mo.upd, upd_same⟩ (fun i Hi _ hP => hP.1.seq hp3) (fun i z Hi hz hP => ?turn) (fun Hi hP => ?fin)⟩)
          (fun hp3 => .inr ⟨_, rfl, p, rfl, ⟨_, hp3⟩, fun D hD => lc_tup (xs := xs) (fun i Hi => Same H2 Hi ∧ Mo H2 Hi ∧ Hi D = some (.lst ((bs.take i).map V.bl))) ⟨Same.new hD, Mo.upd, upd_same⟩ (fun i Hi _ hP => Same.sqt hP.1 hp3) (fun i z Hi hz hP => ?turn2) (fun Hi hP => ?fin2)⟩)
        case turn | turn2 =>
          obtain ⟨s3, m3, hDi⟩ := hP
          obtain ⟨b, hb, hfl⟩ := paired_at hpd2 hz
          obtain ⟨t2, hty, hkt⟩ := flag_kit T (hfl.same s3)
          have hi : i < bs.length := (List.getElem?_eq_some_iff.mp hb).1
          refine ⟨rfl, _, rfl, z, .ref T.CR, t2, _, b, rfl, .own _, hty, hkt, _, hDi, ?_, Same.updn s3 hD, m3.trans Mo.upd, ?_⟩
          · rw [List.length_map, List.length_take]
            have : (1001 : Nat) ≤ sizeLine := by decide
            omega
          · rw [upd_same, List.take_add_one, hb, List.map_append]
            rfl
        case fin | fin2 =>
          obtain ⟨s3, m3, hDi⟩ := hP
          rw [hbl, List.take_length] at hDi
          refine ⟨D, bs, rfl, SqL.of hDi, ?_⟩
          have ho : argOk (some (xs, bs)) = bs.all id := rfl
          cases hall : bs.all id with
          | false =>
            refine ⟨false, rfl, iteT ?_⟩
            exact ⟨(by show 1 ≤ 1000; decide), fun a ha => ⟨a, T.IP.C, _, rfl, upd_same, T.IP.O, T.IP.noF, fun dx g1 g2 => ⟨rfl, dx, _, upd_same, by rw [upd_ne g2, upd_same], by rw [upd_ne g2] at g1; exact g1, ir_made ((hs.trans hs2).trans s3) ((hm.trans hm2).trans m3) (q2 hn (ho.trans hall)) ha dx g1 g2⟩⟩⟩
          | true =>
            refine ⟨true, rfl, iteF ?_⟩
            have s5 := (hs.trans hs2).trans s3
            have m5 := (hm.trans hm2).trans m3
            have hxi := s5 _ _ hx
            refine ⟨_, rfl, _, rfl, x, T.C, dx, [], rfl, hxi, T.cl, T.noN, (by show 0 < 1000; decide), ?_⟩
            have k1 : KpI x H (upd Hi x (.ins T.C dx (putF "name" v []))) := fun b o e n => by
              rw [upd_ne n]
              exact s5 _ _ e
            have hp5 : SqL K (upd Hi x (.ins T.C dx (putF "name" v []))) p xs ∨ SqT K (upd Hi x (.ins T.C dx (putF "name" v []))) p xs :=
              hp2c.elim (fun h => .inl (sql_ins hxi (s3.seq h))) (fun h => .inr (sqt_ins hxi (Same.sqt s3 h)))
            have m6 : Mo H (upd Hi x (.ins T.C dx (putF "name" v []))) := m5.trans Mo.upd
            have hx6 : upd Hi x (.ins T.C dx (putF "name" v [])) x = some (.ins T.C dx (putF "name" v [])) := upd_same
            generalize upd Hi x (.ins T.C dx (putF "name" v [])) = Hy at k1 hp5 m6 hx6 ⊢
            refine ⟨_, rfl, p, xs, rfl, hp5.elim (fun h => .inl ⟨h, fun l hl2 => ?nl⟩) (fun h => .inr ⟨h, ?nt⟩)⟩
            case nl =>
              have nxl : x ≠ l := fun z => by rw [← z, hx6] at hl2; cases hl2
              refine ⟨_, rfl, x, T.C, dx, _, rfl, Same.new hl2 _ _ hx6, T.cl, T.noR, (by show 1 < 1000; decide), ?_⟩
              refine q3 hn (ho.trans hall) xs bs rfl l _ (fun b o e n => ?_) ((m6.trans Mo.upd).trans Mo.upd) (SqT.of (by rw [upd_ne (fun z => nxl z.symm)]; exact upd_same)) upd_same
              rw [upd_ne n]
              exact Same.new hl2 _ _ (k1 b o e n)
            case nt =>
              refine ⟨_, rfl, x, T.C, dx, _, rfl, hx6, T.cl, T.noR, (by show 1 < 1000; decide), ?_⟩
              refine q3 hn (ho.trans hall) xs bs rfl p _ (fun b o e n => ?_) (m6.trans Mo.upd) (sqt_ins hx6 h) upd_same
              rw [upd_ne n]
              exact k1 b o e n
end
end Pn

namespace Pn
open PySem L2 TL
section
variable {P : Program} {w : World} {K : PySem.W.Frag} {mg : Str → Option Value} {base : Heap}
/-- rows as they stand -/
def RowsIn (R : TRows K mg) (H : Hp) (us : List Addr) (rs : List RowD) : Prop := Paired (fun u r => RowAt R H u r) us rs
theorem RowsIn.same {R : TRows K mg} {H H' : Hp} {us : List Addr} {rs : List RowD} (h : RowsIn R H us rs) (s : Same H H') : RowsIn R H' us rs := paired_mono (fun _ _ e => e.same s) h
/-- a part of the package -/
def PtAt {R : TRows K mg} (T : TPart R) (H : Hp) (a : Addr) (n : Str) (rs : List RowD) : Prop := ∃ dx tp us, H a = some (insPart T.C dx (.str n) (.ref tp)) ∧ SqT K H tp (us.map V.ref) ∧ RowsIn R H us rs
theorem PtAt.same {R : TRows K mg} {T : TPart R} {H H' : Hp} {a : Addr} {n : Str} {rs : List RowD} (h : PtAt T H a n rs) (s : Same H H') : PtAt T H' a n rs := by
  obtain ⟨dx, tp, us, h1, h2, h3⟩ := h
  exact ⟨dx, tp, us, s _ _ h1, Same.sqt s h2, h3.same s⟩
def partOk (n : Str) (rs : List RowD) : Prop := n.length ≤ 100 ∧ rs.length ≤ 100 ∧ ∀ r ∈ rs, rowValid r
end
end Pn

namespace Pn
open PySem PySem.Spec PyProof.Rows PySem.Froz
/-! ### sets of texts: which are in it, and a table that can be walked -/
/-- the texts of a list, each once -/
def uniq (l : List Str) : List Str := l.foldl (fun acc x => if x ∈ acc then acc else x :: acc) []
theorem uniq_snoc (l : List Str) (x : Str) : uniq (l ++ [x]) = if x ∈ uniq l then uniq l else x :: uniq l := by
  unfold uniq
  rw [List.foldl_append]
  rfl
theorem uniq_has : ∀ (l : List Str) (z : Str), z ∈ uniq l ↔ z ∈ l := by
  have key : ∀ (l acc : List Str) (z : Str), z ∈ l.foldl (fun acc x => if x ∈ acc then acc else x :: acc) acc ↔ z ∈ acc ∨ z ∈ l := by
    intro l
    induction l with
    | nil => intro acc z; simp
    | cons x l ih =>
      intro acc z
      rw [List.foldl_cons, ih]
      by_cases h : x ∈ acc
      · rw [if_pos h]
        constructor
        · rintro (h1 | h1)
          · exact .inl h1
          · exact .inr (List.mem_cons_of_mem _ h1)
        · rintro (h1 | h1)
          · exact .inl h1
          · rcases List.mem_cons.mp h1 with rfl | h1
            · exact .inl h
            · exact .inr h1
      · rw [if_neg h]
        simp only [List.mem_cons]
        constructor
        · rintro ((h1 | h1) | h1)
          · exact .inr (.inl h1)
          · exact .inl h1
          · exact .inr (.inr h1)
        · rintro (h1 | h1 | h1)
          · exact .inl (.inr h1)
          · exact .inl (.inl h1)
          · exact .inr h1
  intro l z
  exact (key l [] z).trans (by simp)
theorem uniq_nodup (l : List Str) : (uniq l).Nodup := by
  have key : ∀ (l acc : List Str), acc.Nodup → (l.foldl (fun acc x => if x ∈ acc then acc else x :: acc) acc).Nodup := by
    intro l
    induction l with
    | nil => intro acc h; exact h
    | cons x l ih =>
      intro acc h
      rw [List.foldl_cons]
      refine ih _ ?_
      by_cases e : x ∈ acc
      · rw [if_pos e]; exact h
      · rw [if_neg e]; exact List.nodup_cons.mpr ⟨e, h⟩
  exact key l [] List.nodup_nil
theorem uniq_len (l : List Str) : (uniq l).length ≤ l.length := by
  have key : ∀ (l acc : List Str), (l.foldl (fun acc x => if x ∈ acc then acc else x :: acc) acc).length ≤ acc.length + l.length := by
    intro l
    induction l with
    | nil => intro acc; exact Nat.le_refl _
    | cons x l ih =>
      intro acc
      rw [List.foldl_cons, List.length_cons]
      have q := ih (if x ∈ acc then acc else x :: acc)
      by_cases e : x ∈ acc
      · rw [if_pos e] at q ⊢; omega
      · rw [if_neg e] at q ⊢
        rw [List.length_cons] at q
        omega
  have q := key l []
  unfold uniq
  simpa using q
theorem addTx_led (h : Int) (v : Value) (D : SD) : (addTx h v D).2.2.led = D.2.2.led := by
  have e := L2.layNew_led D.2.2 D.1 h v
  unfold addTx tailTx
  by_cases c : (layNew D.2.2 D.1 h v).2.1.plain = true
  · rw [if_pos c]
    split
    · exact (L2.relayAll_led _ _ _).trans e
    · exact e
  · rw [if_neg c]
    split
    · exact (L2.relayAll_led _ _ _).trans e
    · exact e
theorem addTx_ris (h : Int) (v : Value) (D : SD) (r : L2.Ris D.2.2.place.toList) : L2.Ris (addTx h v D).2.2.place.toList := by
  have e := L2.layNew_ris D.2.2 D.1 h v r
  unfold addTx tailTx
  by_cases c : (layNew D.2.2 D.1 h v).2.1.plain = true
  · rw [if_pos c]
    split
    · exact L2.relayAll_ris _ _ _
    · exact e
  · rw [if_neg c]
    split
    · exact L2.relayAll_ris _ _ _
    · exact e
/-- at a stands the set of the texts l -/
def TxtSet (P : Program) (w : World) (h : Heap) (a : Addr) (l : List Str) : Prop :=
  ∃ D : SD, h.get? a = some (sObj "set" D) ∧ TxOk P w D l ∧ L2.Ris D.2.2.place.toList ∧ (w.params.followText "set-order" = true ∨ D.2.2.led = true) ∧ l.Nodup
theorem TxtSet.keep {P : Program} {w : World} {h h' : Heap} {a : Addr} {l : List Str} (R : TxtSet P w h a l) (k : ∀ o, h.get? a = some o → h'.get? a = some o) : TxtSet P w h' a l := by
  obtain ⟨D, ho, r⟩ := R
  exact ⟨D, k _ ho, r⟩
section
variable {P : Program} {w : World} {A : Around} {E : Value → Shared → Prop} {s : Shared}
/-- a text that is there is not put in again -/
theorem held_x {a : Addr} {T : String} {D : SD} {l : List Str} {k : Str} {u : Tok} {Q : Bool → Shared → Prop} (ho : s.heap.get? a = some (sObj T D)) (F : TxOk P w D l) (hk : k ∈ l) (hb : l.length < scanBound) (h : Q false s) :
    wpAny (model P w) A (setAddHashed a (.str k u) (hashStr w k)) Q E s := by
  obtain ⟨es, ep, t⟩ := D
  have dat : (sObj T (es, ep, t)).data = .set es ep t := rfl
  have elm : ElemsOf (strKind P w) es.toList := F.el
  have low : es.size < scanBound := by rw [show es.size = l.length from F.sz]; exact hb
  have key : (strKind P w).is k (.str k u) = true := is_str k u
  obtain ⟨j, found⟩ : ∃ j, List.findIdx? (fun e => (strKind P w).is k e.2) es.toList = some j := by
    cases q : List.findIdx? (fun e => (strKind P w).is k e.2) es.toList with
    | some j => exact ⟨j, rfl⟩
    | none =>
      obtain ⟨e, he, hi⟩ := (F.mem k).mp hk
      exact absurd hi (by rw [List.findIdx?_eq_none_iff.mp q e he]; decide)
  unfold setAddHashed setAddHashedIn
  refine wpAny_holding ?_
  refine wpAny_bind (wpAny_setState_of ho dat F.fit ?_)
  dsimp only
  rw [byScan_of rfl low elm]
  simp only [↓reduceIte]
  unfold setAddByScan
  refine wpAny_bind (wpAny_bind (wpAny_rule ?_))
  refine wpAny_bind (wpAny_setScan_of (k := k) (knd := strKind P w) key ho dat F.fit elm ?_)
  rw [found]
  exact wpAny_pure (wpAny_pure h)
theorem txt_new {h : Heap} {a : Addr} (ho : h.get? a = some (sObj "set" (#[], 0, .fresh 0 0 (!w.params.followText "set-order")))) : TxtSet P w h a [] :=
  ⟨_, ho, TxOk.nil (by rfl), List.Pairwise.nil, (by
    show _ ∨ (!w.params.followText "set-order") = true
    cases w.params.followText "set-order" <;> simp), List.nodup_nil⟩
/-- one text is put in -/
theorem txt_add {a : Addr} {l : List Str} {k : Str} {u : Tok} {Q : Bool → Shared → Prop} (R : TxtSet P w s.heap a l) (hb : l.length + 1 < scanBound)
    (h : ∀ b h', (∀ c, c ≠ a → h'.get? c = s.heap.get? c) → TxtSet P w h' a (if k ∈ l then l else k :: l) → Q b { s with heap := h' }) : wpAny (model P w) A (setAddHashed a (.str k u) (hashStr w k)) Q E s := by
  obtain ⟨D, ho, F, r, g, nd⟩ := id R
  by_cases hk : k ∈ l
  · refine held_x ho F hk (by omega) ?_
    have q := h false s.heap (fun _ _ => rfl)
    rw [if_pos hk] at q
    exact q R
  · refine add_x ho F hk hb ?_
    have q := h true (s.heap.update a fun _ => sObj "set" (addTx (hashStr w k) (.str k u) D)) (fun c n => Heap.get?_update_other _ _ n.symm)
    rw [if_neg hk] at q
    exact q ⟨_, get_upd _ ho rfl, add_ok u F, addTx_ris _ _ _ r, g.imp id fun z => (addTx_led _ _ _).trans z, List.nodup_cons.mpr ⟨hk, nd⟩⟩
theorem loop_txt {I : Addr} {fp wr : List Addr} {G : Array GenState → Array GenState → Prop} {n : Nat} {Pv : Nat → Value → Prop} {St : Nat → Shared → Prop} {R : Result → Shared → Prop} (W : WalksS P w A.in1 I fp wr G n Pv St)
    (S : Addr) (out : S ∉ fp) (xs : List Str) (hn : n = xs.length) (low : n + 1 < scanBound) (hv : ∀ i v, Pv i v → ∃ x t, xs[i]? = some x ∧ v = .str x t) : ∀ (k i : Nat) (s : Shared), n - i = k → i ≤ n → St i s → TxtSet P w s.heap S (uniq (xs.take i)) →
      (∀ s', Moved (S :: wr) G s s' → TxtSet P w s'.heap S (uniq xs) → R (.ok (.ret .none)) s') → codeAny (model P w) A (.builtin "set.update.loop" ⟨[.ref S, .ref I], []⟩) R s := by
  have outW : S ∉ wr := fun h => out (W.sub _ h)
  have more : ∀ b ∈ wr, b ∈ S :: wr := fun b h => List.mem_cons_of_mem _ h
  intro k
  induction k with
  | zero =>
    intro i s e1 e2 st X fin
    obtain rfl : i = n := by omega
    refine codeAny_builtin PyProof.Rows.F.entry_set_update_loop ?_
    rw [Around.under_plainId PyProof.Rows.F.plain_set_update_loop _]
    show wpAny _ A.in1 (pyNext (.ref I) >>= _) _ _ s
    refine wpAny_bind (W.done s _ _ st fun s' mv => wpAny_pure (fin s' (mv.mono more) ?_))
    rw [hn, List.take_length] at X
    exact X.keep fun o e => mv.heap S o outW e
  | succ k ih =>
    intro i s e1 e2 st X fin
    have lt : i < n := by omega
    refine codeAny_builtin PyProof.Rows.F.entry_set_update_loop ?_
    rw [Around.under_plainId PyProof.Rows.F.plain_set_update_loop _]
    show wpAny _ A.in1 (pyNext (.ref I) >>= _) _ _ s
    refine wpAny_bind (W.item i s _ _ lt st fun v s1 pv st1 mv => ?_)
    obtain ⟨x, t, hx, rfl⟩ := hv i v pv
    have X1 := X.keep (h' := s1.heap) fun o e => mv.heap S o outW e
    show wpAny _ A.in1 (holding [Value.str x t] (setAdd S (.str x t)) >>= _) _ _ s1
    refine wpAny_bind (wpAny_holding ?_)
    unfold setAdd
    refine wpAny_holding (wpAny_bind ((PySem.strKind P w).pyHash (is_str x t) ?_))
    have few : (uniq (xs.take i)).length + 1 < scanBound := by
      have := uniq_len (xs.take i)
      rw [List.length_take] at this
      omega
    refine txt_add (s := { s1 with toks := s1.toks + 1 }) X1 few fun b h' oth X2 => ?_
    have e3 : (if x ∈ uniq (xs.take i) then uniq (xs.take i) else x :: uniq (xs.take i)) = uniq (xs.take (i + 1)) := by
      rw [List.take_add_one, hx]
      exact (uniq_snoc _ _).symm
    rw [e3] at X2
    refine wpAny_pure ⟨plainId_quiet PyProof.Rows.F.plain_set_update_loop _, ih (i + 1) _ (by omega) lt (W.frame (i + 1) s1 h' (s1.toks + 1) st1 (by omega) fun c hc o e => ?_) X2 fun s2 mv2 X3 => fin s2 (Moved.trans W.gtrans ((mv.mono more).then_heap (Nat.le_succ _) fun c o hc e => ?_) mv2) X3⟩
    · exact (oth c fun z => out (z ▸ hc)).trans e
    · exact (oth c fun z => hc (z ▸ List.mem_cons_self)).trans e
theorem perm_of_sup {α : Type} [DecidableEq α] {l ks : List α} (nd : l.Nodup) (sup : ∀ k ∈ l, k ∈ ks) (len : ks.length ≤ l.length) : l.Perm ks := by
  induction l generalizing ks with
  | nil =>
    cases ks with
    | nil => exact .nil
    | cons k ks => simp at len
  | cons x l ih =>
    obtain ⟨h1, h2⟩ := List.nodup_cons.mp nd
    have hx := sup x List.mem_cons_self
    have p : ks.Perm (x :: ks.erase x) := List.perm_cons_erase hx
    refine List.Perm.trans (.cons x (ih h2 (fun k hk => ?_) ?_)) p.symm
    · have q := p.mem_iff.mp (sup k (List.mem_cons_of_mem _ hk))
      rcases List.mem_cons.mp q with rfl | q
      · exact absurd hk h1
      · exact q
    · have q := p.length_eq
      simp only [List.length_cons] at q len
      omega
theorem strs_perm : ∀ {vs us : List Value} {xs : List Str}, StrsAre vs xs → vs.Perm us → ∃ ys, StrsAre us ys ∧ ys.Perm xs := by
  intro vs us xs h p
  induction p generalizing xs with
  | nil => exact ⟨xs, h, .refl _⟩
  | cons v _ ih =>
    cases h with
    | cons x t r =>
      obtain ⟨ys, h1, h2⟩ := ih r
      exact ⟨x :: ys, .cons x t h1, h2.cons x⟩
  | swap v u l =>
    cases h with
    | cons x t r =>
      cases r with
      | cons y t2 r => exact ⟨y :: x :: _, .cons y t2 (.cons x t r), .swap _ _ _⟩
  | trans _ _ ih1 ih2 =>
    obtain ⟨ys, h1, h2⟩ := ih1 h
    obtain ⟨zs, h3, h4⟩ := ih2 h1
    exact ⟨zs, h3, h4.trans h2⟩
theorem strs_get : ∀ {vs : List Value} {xs : List Str} {i : Nat} {v : Value}, StrsAre vs xs → vs[i]? = some v → ∃ x t, xs[i]? = some x ∧ v = .str x t
  | _, _, i, v, .nil, h => by simp at h
  | _, _, 0, v, .cons x t r, h => ⟨x, t, rfl, (Option.some.inj h).symm⟩
  | _, _, i + 1, v, .cons x t r, h => strs_get (i := i) r h
/-- the new set, empty -/
abbrev bare (w : World) : Obj := sObj "set" (#[], 0, .fresh 0 0 (!w.params.followText "set-order"))
set_option maxHeartbeats 3200000 in
/-- set(xs), xs a list of texts -/
theorem set_of_texts {l : Addr} {items : Array Value} {xs : List Str} {Q : Value → Shared → Prop} (calm : A.handled = none) (hl : s.heap.IsList l items) (hx : StrsAre items.toList xs) (low : xs.length + 1 < scanBound)
    (h : ∀ (h' : Heap) (tk : Nat), TxtSet P w h' s.heap.objs.size (uniq xs) → (∀ b o, s.heap.get? b = some o → h'.get? b = some o) → Q (.ref s.heap.objs.size) { s with heap := h', toks := tk }) : wpAny (model P w) A (call (.type "set") [.ref l]) Q E s := by
  have sz : items.size = xs.length := by
    have q := StrsAre.length hx
    rw [Array.length_toList] at q
    exact q
  obtain ⟨mc, mt, mro⟩ := PySem.F.called_set.mro
  have made := PySem.F.called_set.made
  have sub := PySem.F.called_set.sub
  have notT := PySem.F.called_set.notType
  have can := PySem.F.called_set.canCreate
  have chk := PySem.F.typeCall_set_1 (.ref l)
  refine wpAny_call (codeAny_of_tree (show wpAny _ _ (callAny (.type "set") _) _ _ _ from wpAny_pure ⟨Code.quiet_builtin _ (by decide +kernel), codeAny_builtin PySem.F.entry_type_call ?_⟩))
  rw [Around.under_plain (weight_type_call_type "set" [.ref l] []) rfl]
  repeat (any_goals (first | assumption | wp_step))
  let S := s.heap.objs.size
  let H1 := s.heap.push (bare w)
  refine codeAny_mono (L2.code_set_led1 (.ref l) (E := E) (Q₁ := fun v s1 => v = .ref S ∧ s1 = { s with heap := H1 }) ⟨rfl, rfl⟩) fun r s1 hr => ?_
  match r, hr with
  | .error e, hr => exact hr
  | .ok .next, hr => exact hr.elim
  | .ok .brk, hr => exact hr.elim
  | .ok .cont, hr => exact hr.elim
  | .ok (.ret v), ⟨e1, e2⟩ =>
    subst e1
    subst e2
    have there : H1.get? S = some (bare w) := Heap.get?_push_size _ rfl
    have ty : Shared.TypeIs { s with heap := H1 } (.ref S) "set" := ⟨_, there, rfl⟩
    have look := PySem.F.called_set.init.lookup
    have bnd := PySem.F.called_set.init.bind (.ref S)
    repeat (any_goals (first | assumption | wp_step))
    refine codeAny_mono (codeAny_call_builtin (R := wants (fun v s2 => v = .none ∧ ∃ h' tk, s2 = { s with heap := h', toks := tk } ∧ TxtSet P w h' S (uniq xs) ∧ ∀ b o, s.heap.get? b = some o → h'.get? b = some o) E)
      PySem.F.called_set.init.plain PySem.F.entry_set_init (check_set_init_1 ty ?_)) fun r2 s2 hr2 => ?_
    · obtain ⟨⟨kc, kd, kt, ks⟩, ol, c1, nl, c2⟩ := hl
      simp only at c1 c2
      subst c1
      subst c2
      have ol1 : H1.get? l = some { cls := .type "list", dict := kd, data := .seq items nl, slots := ks } := Heap.get?_push_of_some _ ol
      have l1 : H1.IsList l items := ⟨_, ol1, rfl, nl, rfl⟩
      have f1 := PySem.F.sub_list_set
      have f2 := PySem.F.sub_list_frozenset
      have f3 : (Value.type "list" == Value.type "dict") = false := by decide
      unfold Builtin.«set.__init__» noKeywords Builtin.Frozenset.updateFrom
      generalize hp : pyIter = PI
      wp_walk
      subst hp
      refine wpAny_pyIter_list l1 (wpAny_bind (wpAny_runValue ?_))
      have lS : l < S := Heap.lt_size ol
      have zz : H1.objs.size = S + 1 := size_push' _ _
      have calm3 : A.in1.in1.in1.handled = none := by simp [calm]
      have nI : l ≠ H1.objs.size := by rw [zz]; exact Nat.ne_of_lt (Nat.lt_succ_of_lt lS)
      have outS : S ∉ [H1.objs.size, l] := by
        rw [zz]
        intro z
        rcases List.mem_cons.mp z with z | z
        · exact absurd z (Nat.ne_of_lt (Nat.lt_succ_self _))
        · exact absurd (List.mem_singleton.mp z) (Nat.ne_of_gt lS)
      refine loop_txt (Walks.list calm3 _ l nI items).toS S outS xs sz (by rw [sz]; exact low) (fun i v pv => ?_) (items.size - 0) 0 _ (by omega) (Nat.zero_le _) ⟨⟨_, Heap.get?_push_size _ rfl, rfl, rfl⟩, l1.push _⟩ (txt_new (Heap.get?_push_of_some _ there)) (fun s' mv X => ?_)
      · have pv' : items.toList[i]? = some v := by rw [Array.getElem?_toList]; exact pv
        exact strs_get hx pv'
      · obtain ⟨h', g', d', tk', os'⟩ := s'
        obtain rfl : g' = s.gens := mv.gens
        obtain rfl : d' = s.drawn := mv.drawn
        obtain rfl : os' = s.os := mv.os
        show wpAny _ _ _ _ _ _
        refine wpAny_pure ?_
        show wpAny _ _ (ret Value.none) _ _ _
        refine wpAny_pure ⟨rfl, h', tk', rfl, X, fun b o e => ?_⟩
        have lb : b < S := Heap.lt_size e
        refine mv.heap b o (fun z => ?_) (Heap.get?_push_of_some _ (Heap.get?_push_of_some _ e))
        rcases List.mem_cons.mp z with z | z
        · exact absurd z (Nat.ne_of_lt lb)
        · have e2 := List.mem_singleton.mp z
          rw [zz] at e2
          exact absurd e2 (Nat.ne_of_lt (Nat.lt_succ_of_lt lb))
    · match r2, hr2 with
      | .error e, hr2 => exact hr2
      | .ok .next, hr2 => exact hr2.elim
      | .ok .brk, hr2 => exact hr2.elim
      | .ok .cont, hr2 => exact hr2.elim
      | .ok (.ret v), ⟨e1, h', tk, e2, X, old⟩ =>
        subst e1
        subst e2
        repeat (any_goals (first | assumption | wp_step))
        exact h _ _ X old
/-- what walks over the set brings, sorted -/
theorem sorted_txt {a : Addr} {l : List Str} {Q : Value → Shared → Prop} (R : TxtSet P w s.heap a l) (calm : A.handled = none) (low : l.length < 64)
    (h : ∀ s' p (out : Array Value) (c : Nat) (ys : List Str), (∀ b o, s.heap.get? b = some o → s'.heap.get? b = some o) → s'.gens = s.gens → s'.os = s.os → s.heap.objs.size ≤ p → s'.heap.get? p = some (seqObj "list" out c) → StrsAre out.toList ys → ys.Perm l → sortedS ys = true → Q (.ref p) s') :
    wpAny (model P w) A (call (.builtin "sorted") [.ref a]) Q E s := by
  obtain ⟨D, ho, F, rs, led, nd⟩ := R
  have sz : D.1.size = l.length := F.sz
  have few : D.1.size < scanBound := by unfold scanBound; omega
  -- the entries as texts
  have ent : ∃ ks : List Str, StrsAre (D.1.toList.map (·.2)) ks ∧ ks.Perm l := by
    have one : ∀ e ∈ D.1.toList, ∃ k t, e.2 = Value.str k t ∧ k ∈ l := fun e he => by
      obtain ⟨⟨k, hk, _⟩, _⟩ := F.el e he
      have hk2 : Value.isStrOf k e.2 = true := hk
      cases hv : e.2 with
      | str x t =>
        rw [hv] at hk2
        have e2 : x = k := by simpa [Value.isStrOf] using hk2
        exact ⟨x, t, rfl, (F.mem x).mpr ⟨e, he, by rw [e2]; exact hk⟩⟩
      | _ => rw [hv] at hk2; simp [Value.isStrOf] at hk2
    have mk : ∀ es : List (Int × Value), (∀ e ∈ es, ∃ k t, e.2 = Value.str k t ∧ k ∈ l) → ∃ ks : List Str, StrsAre (es.map (·.2)) ks ∧ ∀ k ∈ ks, k ∈ l := by
      intro es
      induction es with
      | nil => intro _; exact ⟨[], .nil, fun k hk => by cases hk⟩
      | cons e es ih =>
        intro he
        obtain ⟨k, t, e1, e2⟩ := he e List.mem_cons_self
        obtain ⟨ks, g1, g2⟩ := ih fun x hx => he x (List.mem_cons_of_mem _ hx)
        refine ⟨k :: ks, ?_, fun z hz => ?_⟩
        · rw [List.map_cons, e1]
          exact .cons k t g1
        · rcases List.mem_cons.mp hz with rfl | hz
          · exact e2
          · exact g2 z hz
    obtain ⟨ks, g1, g2⟩ := mk _ one
    refine ⟨ks, g1, ?_⟩
    have len : ks.length = l.length := by
      have q := StrsAre.length g1
      rw [List.length_map, Array.length_toList] at q
      omega
    -- each text of l is among them
    have sup : ∀ k ∈ l, k ∈ ks := fun k hk => by
      obtain ⟨e, he, hi⟩ := (F.mem k).mp hk
      obtain ⟨x, t, hx, _⟩ := one e he
      have e2 : x = k := by
        have q : Value.isStrOf k e.2 = true := hi
        rw [hx] at q
        simpa [Value.isStrOf] using q
      subst e2
      obtain ⟨i, hi2⟩ := List.getElem?_of_mem (List.mem_map.mpr ⟨e, he, rfl⟩ : e.2 ∈ D.1.toList.map (·.2))
      obtain ⟨y, u, hy, e3⟩ := strs_get g1 hi2
      rw [hx] at e3
      injection e3 with e3 _
      rw [e3]
      exact List.mem_of_getElem? hy
    exact (perm_of_sup nd sup (by omega)).symm
  obtain ⟨ks, g1, g2⟩ := ent
  refine Calls.call_function_entry kind_sorted plain_sorted entry_sorted (args_sorted1 _) ?_
  unfold Builtin.«sorted»
  refine wpAny_bind (m := checkCount "sorted" 1 1 _) (wpAny_pure (wpAny_bind (L2.collect_set (A := A.in1) (t := D.2.2) (ep := D.2.1) (es := D.1) calm ⟨_, ho, rfl, rfl⟩ F.fit few rs led fun s1 vs k1 hz g1' o1 pm => ?_)))
  obtain ⟨zs, z1, z2⟩ := strs_perm g1 pm.symm
  have vl : vs.length = l.length := by rw [StrsAre.length z1, z2.length_eq, g2.length_eq]
  refine wpAny_bind (wpAny_newList ?_ (by rw [vl, sizeLine_eq]; omega))
  have hoL : (s1.heap.push (seqObj "list" vs.toArray 0)).get? s1.heap.objs.size = some (seqObj "list" vs.toArray 0) := Heap.get?_push_size _ rfl
  refine wpAny_bind (wpAny_holding (wpAny_call_entry slot_list_sort ⟨_, hoL, rfl⟩ entry_list_sort (list_sort_treeK strKind_oneLt hoL z1.keysOf (fun v1 v2 rest e => keyKind_strs (by rw [← e]; exact z1)) (by rw [vl]; exact low) fun st hp hs => ⟨_, rfl, ?_⟩) (args_list_sort _)))
  obtain ⟨ys, y1, y2, y3⟩ := sorted_out_str z1 hp hs
  obtain ⟨c, hc⟩ := sortedHeap_at (vs := vs) (out := (arrOf st).map (·.2)) hoL
  refine wpAny_pure ⟨_, rfl, h _ s1.heap.objs.size _ c ys (fun b u e => ?_) g1' o1 hz hc y1 ((y2.trans z2).trans g2) y3⟩
  have q := k1 b u e
  have lt := Heap.lt_size q
  show (sortedHeap (s1.heap.push (seqObj "list" vs.toArray 0)) s1.heap.objs.size vs ((arrOf st).map (·.2))).get? b = some u
  rw [sortedHeap_old (Nat.ne_of_lt lt) (by rw [size_push']; exact Nat.lt_succ_of_lt lt)]
  exact Heap.get?_push_of_some _ q
end
end Pn

namespace Pn
open PySem L2
/-! ### sets of texts as rules: set(xs), len(s), sorted(s) -/
def SetX (P : Program) (w : World) (a : Addr) (l : List Str) : HO := .ext fun h => TxtSet P w h a l
section
variable {X : Cx}
theorem setX_new {w : World} {P : Program} {H : Hp} {h : Heap} {a : Addr} {l : List Str} (R : TxtSet P w h a l) : ObjOk P w H h a (SetX P w a l) := by
  have ⟨_, there, _⟩ := R
  exact ⟨R, ⟨_, there⟩, fun _ _ z keep => TxtSet.keep z keep⟩
theorem setX_get {pins : List (Addr × Obj)} {σ : L2.St} {H : Hp} {s : Shared} {a : Addr} {l : List Str} (I : Inv X pins σ H s) (ha : H a = some (SetX X.prog X.w a l)) : TxtSet X.prog X.w s.heap a l := (I.hok a _ ha).1
def rSetX (K : PySem.W.Frag) (P : Program) (w : World) : List V → Hp → VK → Prop := fun xs H Q => ∃ (l : Addr) (ss : List Str), xs = [.ref l] ∧ SqL K H l (ss.map V.str) ∧ ss.length < 4000 ∧ ∀ a, H a = none → Q (.ref a) (upd H a (SetX P w a (uniq ss)))
theorem cr_setX (hc : X.calm = true) : CallR X (.type "set") (rSetX X.K X.prog X.w) := by
  intro pins s σ H xs us Q I r h
  obtain ⟨l, ss, rfl, hl, low, q⟩ := h
  rw [Vals.ref1 r]
  obtain ⟨its, rv, pl, _⟩ := I.list hl
  refine set_of_texts (I.ok.hd hc) pl.isList (xs := ss) (by simpa using rv.strs) (by unfold scanBound; omega) fun h' tk R old => ?_
  exact ⟨.ref s.heap.objs.size, upd H s.heap.objs.size (SetX X.prog X.w s.heap.objs.size (uniq ss)), I.laid (t' := tk) old (Nat.le_refl _) (setX_new R), rfl, q _ (I.hok.fresh (Nat.le_refl _))⟩
def rLenX (P : Program) (w : World) : List V → Hp → VK → Prop := fun xs H Q => ∃ (a : Addr) (l : List Str), xs = [.ref a] ∧ H a = some (SetX P w a l) ∧ l.length ≤ 4000 ∧ Q (.int (l.length : Nat)) H
theorem cr_lenX : CallR X (.builtin "len") (rLenX X.prog X.w) := by
  intro pins s σ H xs us Q I r h
  obtain ⟨a, l, rfl, ha, low, q⟩ := h
  rw [Vals.ref1 r]
  obtain ⟨D, there, F, _⟩ := setX_get I ha
  have few : (D.1.size : Int) < 2 ^ 63 := by
    rw [show D.1.size = l.length from F.sz]
    omega
  refine call_len_set there ⟨rfl, rfl, rfl⟩ rfl F.fit few ?_
  rw [F.sz]
  exact ⟨.int (l.length : Nat), H, I.tok _, ⟨_, rfl⟩, q⟩
def rSortX (P : Program) (w : World) : List V → Hp → VK → Prop := fun xs H Q => ∃ (a : Addr) (l : List Str), xs = [.ref a] ∧ H a = some (SetX P w a l) ∧ l.length < 64 ∧ ∀ (ys : List Str) (p : Addr), ys.Perm l → PyProof.Rows.sortedS ys = true → H p = none → Q (.ref p) (upd H p (.lst (ys.map V.str)))
theorem cr_sortX (hc : X.calm = true) : CallR X (.builtin "sorted") (rSortX X.prog X.w) := by
  intro pins s σ H xs us Q I r h
  obtain ⟨a, l, rfl, ha, low, q⟩ := h
  rw [Vals.ref1 r]
  refine sorted_txt (setX_get I ha) (I.ok.hd hc) low fun s' p out c ys old sg so hp there ys1 ys2 ys3 => ?_
  have free : H p = none := I.hok.fresh hp
  have size : (ys.map V.str).length ≤ sizeLine := by rw [List.length_map, ys2.length_eq]; exact small64 low
  have J : Inv X pins σ (upd H p (.lst (ys.map V.str))) { s with heap := s'.heap, gens := s'.gens, drawn := s'.drawn, toks := s'.toks } :=
    I.call (ch := []) (Un.laid old hp free) (I.hok.laid old hp ⟨size, out.toList, c, vals_of_strs ys1, there⟩) (by rw [sg]; exact I.bare) (fun _ z => nomatch z)
  have same : s' = { s with heap := s'.heap, gens := s'.gens, drawn := s'.drawn, toks := s'.toks } := by
    obtain ⟨_, _, _, _, _⟩ := s'
    obtain ⟨_, _, _, _, _⟩ := s
    cases so
    rfl
  rw [same]
  exact ⟨.ref p, _, J, rfl, q ys p ys2 ys3 free⟩
end
end Pn

namespace Pn
open PySem L2 TL
/-! ### books: what is asked of counters and parts, and the unrolled text -/
def putsOf (rs : List RowD) : List Str := rs.filterMap fun r => match r with | .put z => some z | _ => none
theorem mem_puts {rs : List RowD} {z : Str} : z ∈ putsOf rs ↔ RowD.put z ∈ rs := by
  unfold putsOf
  rw [List.mem_filterMap]
  constructor
  · rintro ⟨r, hr, e⟩
    cases r with
    | put y => rw [← Option.some.inj e]; exact hr
    | _ => cases e
  · intro h
    exact ⟨_, h, rfl⟩
/-- the counter of a row that counts -/
def cntOf : RowD → Option Str
  | .note c _ => some c
  | .skip c _ => some c
  | .set c _ => some c
  | .keep c => some c
  | .back c => some c
  | _ => none
def refOf : RowD → Option Str
  | .ref l => some l
  | _ => none
/-- a note's label, an empty one too -/
def labOf : RowD → Option Str
  | .note _ l => some l
  | _ => none
/-- each puts only earlier ones -/
def Earlier (bk : List PartD) : Prop := ∀ (i : Nat) (p : PartD), bk[i]? = some p → ∀ z, RowD.put z ∈ p.2 → z ∈ (bk.take i).map (·.1)
structure CsOk (cs : List (Str × Str)) : Prop where
  nm : ∀ c ∈ cs, nameS c.1 = true
  nd : (cs.map (·.1)).Nodup
  up : TreeOk cs
  len : cs.length ≤ 100
structure BookV (cs : List (Str × Str)) (bk : List PartD) : Prop where
  c : CsOk cs
  b0 : bk ≠ []
  nd : (bk.map (·.1)).Nodup
  len : bk.length ≤ 50
  rows : ∀ p ∈ bk, partOk p.1 p.2
  cnt : ∀ p ∈ bk, ∀ r ∈ p.2, ∀ c, cntOf r = some c → c ∈ cs.map (·.1)
  puts : Earlier bk
  small : ∀ z rs, (z, rs) ∈ knowns bk → rs.length ≤ 4000
  refs : ∀ l, RowD.ref l ∈ unrolled bk → ∃ c, RowD.note c l ∈ unrolled bk
theorem puts_earlier {bk : List PartD} (h : PutsOk bk) : Earlier bk := fun i p hp => (h i p hp).2
/-- none puts itself or one behind it -/
def NoLater : List PartD → Prop
  | [] => True
  | p :: rest => (∀ z, RowD.put z ∈ p.2 → z ∉ (p :: rest).map (·.1)) ∧ NoLater rest
theorem no_later {bk : List PartD} (nd : (bk.map (·.1)).Nodup) (e : Earlier bk) : NoLater bk := by
  have key : ∀ (l pre : List PartD), bk = pre ++ l → NoLater l := by
    intro l
    induction l with
    | nil => intro pre _; trivial
    | cons p rest ih =>
      intro pre hb
      refine ⟨fun z hz hm => ?_, ih (pre ++ [p]) (by rw [hb]; simp)⟩
      have h1 := e pre.length p (by rw [hb]; simp) z hz
      rw [hb, List.take_left' rfl] at h1
      rw [hb, List.map_append] at nd
      exact (List.nodup_append.mp nd).2.2 _ h1 _ hm rfl
  exact key bk [] rfl
def reachStep (p : PartD) (ns : List Str) : List Str := if p.1 ∈ ns then ns ++ putsOf p.2 else ns
def reach (l : List PartD) (ns : List Str) : List Str := l.foldr reachStep ns
theorem reach_sub {l : List PartD} {ns : List Str} : ∀ z ∈ ns, z ∈ reach l ns := by
  induction l with
  | nil => intro z h; exact h
  | cons p l ih =>
    intro z h
    show z ∈ reachStep p (reach l ns)
    unfold reachStep
    split
    · exact List.mem_append_left _ (ih z h)
    · exact ih z h
theorem reach_closed {l : List PartD} {ns : List Str} (nl : NoLater l) : ∀ p ∈ l, p.1 ∈ reach l ns → ∀ z, RowD.put z ∈ p.2 → z ∈ reach l ns := by
  induction l with
  | nil => intro p h; cases h
  | cons q l ih =>
    intro p hp hin z hz
    have hin : p.1 ∈ reachStep q (reach l ns) := hin
    show z ∈ reachStep q (reach l ns)
    unfold reachStep at hin ⊢
    rcases List.mem_cons.mp hp with rfl | hp
    · by_cases c : p.1 ∈ reach l ns
      · rw [if_pos c]
        exact List.mem_append_right _ (mem_puts.mpr hz)
      · rw [if_neg c] at hin
        exact absurd hin c
    · have hM : p.1 ∈ reach l ns := by
        by_cases c : q.1 ∈ reach l ns
        · rw [if_pos c] at hin
          rcases List.mem_append.mp hin with h | h
          · exact h
          · exact absurd (List.mem_map.mpr ⟨p, List.mem_cons_of_mem _ hp, rfl⟩) (nl.1 p.1 (mem_puts.mp h))
        · rw [if_neg c] at hin
          exact hin
      have q2 := ih nl.2 p hp hM z hz
      split
      · exact List.mem_append_left _ q2
      · exact q2
/-- the parts that are unrolled, with their unrolled rows -/
def lastName (bk : List PartD) : Str := (bk.getLast?.map (·.1)).getD ""
def reached (bk : List PartD) : List Str := reach bk [lastName bk]
theorem knowns_in {bk : List PartD} {i : Nat} {p : PartD} (hp : bk[i]? = some p) : (p.1, unrollIn (knowns (bk.take i)) p.2) ∈ knowns (bk.take (i + 1)) := by
  rw [List.take_add_one, hp]
  show _ ∈ knowns (bk.take i ++ [p])
  rw [knowns_snoc]
  exact List.mem_cons_self
theorem knowns_mono {bk : List PartD} {i : Nat} : ∀ x ∈ knowns (bk.take i), x ∈ knowns bk := by
  have key : ∀ (l pre : List PartD), ∀ x ∈ knowns pre, x ∈ knowns (pre ++ l) := by
    intro l
    induction l with
    | nil => intro pre x h; rw [List.append_nil]; exact h
    | cons p l ih =>
      intro pre x h
      have e : pre ++ p :: l = (pre ++ [p]) ++ l := by simp
      rw [e]
      refine ih _ x ?_
      rw [knowns_snoc]
      exact List.mem_cons_of_mem _ h
  intro x h
  have e : bk = bk.take i ++ bk.drop i := (List.take_append_drop i bk).symm
  rw [e]
  exact key _ _ x (by simpa using h)
end Pn

namespace Pn
open PySem L2 TL
abbrev sBook : Stmt := top 73
/-! ### drawn books -/
theorem cut_to (xs : List V) {k : Nat} (h : k ≤ xs.length) : cutV xs none (some (k : Int)) = xs.take k := by
  unfold cutV
  rw [HT.sIx_none, HT.sIx_nat]
  simp [Nat.min_eq_left h]
theorem cut_from (xs : List V) {k : Nat} (h : k ≤ xs.length) : cutV xs (some (k : Int)) none = xs.drop k := by
  unfold cutV
  rw [HT.sIx_none, HT.sIx_nat, Nat.min_eq_left h]
  exact List.take_of_length_le (by rw [List.length_drop]; omega)
theorem cut_last (xs : List V) : cutV xs none (some (-1)) = xs.dropLast := by
  unfold cutV
  rw [HT.sIx_none, List.dropLast_eq_take]
  have e : HT.sIx xs.length xs.length (some (-1)) = xs.length - 1 := by
    show (if (-1 : Int) < 0 then ((-1 : Int) + (xs.length : Int)).toNat else min (-1 : Int).toNat xs.length) = _
    rw [if_pos (by decide)]
    omega
  rw [e]
  rfl
def labelOf : RowD → Option Str
  | .note _ l => if l = "" then none else some l
  | _ => none
def labelsOf (rs : List RowD) : List Str := rs.filterMap labelOf
/-- what a row of a drawn book is -/
def RowIn (d : Pool) (cs : List (Str × Str)) (bk : List PartD) (r : RowD) : Prop := rowFine d cs (bk.map (·.1)) r ∨ (∃ l, r = .ref l ∧ l ∈ labelsOf (unrolled bk) ∧ nameS l = true) ∨ r = .opn "x"
structure BookOk (d : Pool) (cs : List (Str × Str)) (bk : List PartD) : Prop where
  hd : d ∈ poolsD
  c0 : 0 < cs.length
  c3 : cs.length ≤ 3
  cn : cs.map (·.1) = d.c.take cs.length
  ct : TreeOk cs
  b0 : bk ≠ []
  b3 : bk.length ≤ 3
  bn : bk.map (·.1) = d.p.take bk.length
  puts : PutsOk bk
  rows : ∀ p ∈ bk, ∀ r ∈ p.2, RowIn d cs bk r
theorem paired_take {α β : Type} {R : α → β → Prop} : ∀ (k : Nat) {l : List α} {m : List β}, Paired R l m → Paired R (l.take k) (m.take k)
  | 0, _, _, _ => .nil
  | _ + 1, _, _, .nil => .nil
  | k + 1, _, _, .cons a b => .cons a (paired_take k b)
theorem paired_drop {α β : Type} {R : α → β → Prop} : ∀ (k : Nat) {l : List α} {m : List β}, Paired R l m → Paired R (l.drop k) (m.drop k)
  | 0, _, _, h => h
  | _ + 1, _, _, .nil => .nil
  | k + 1, _, _, .cons _ b => paired_drop k b
theorem paired_init {α β : Type} {R : α → β → Prop} {l : List α} {m : List β} {x : α} {y : β} (h : l.length = m.length) (p : Paired R (l ++ [x]) (m ++ [y])) : Paired R l m := by
  have q := paired_take l.length p
  rw [List.take_left' rfl, h, List.take_left' rfl] at q
  exact q
theorem hid_same {A B : Hp} (s : Same A B) (p : Addr) : Same (hid A p) (hid B p) := fun a o e => by
  unfold hid at e ⊢
  by_cases h : a = p
  · rw [if_pos h] at e; cases e
  · rw [if_neg h] at e ⊢
    exact s a o e
/-- the heap but for the deal and one list -/
def zz (H : Hp) (b g p : Addr) : Hp := hid (hh H b g) p
theorem zz_sub {H : Hp} {b g p : Addr} : Same (zz H b g p) H := fun a o e => hh_sub a o (hid_sub a o e)
theorem zz_hid {H : Hp} {b g p : Addr} : Same (zz H b g p) (hh H b g) := fun a o e => hid_sub a o e
theorem zz_kp {H H' : Hp} {b g p : Addr} (k : Kd b g H H') : Same (zz H b g p) (zz H' b g p) := hid_same (Kd.hh k) p
theorem zz_same {H H' : Hp} {b g p : Addr} (s : Same H H') : Same (zz H b g p) (zz H' b g p) := hid_same (hh_same s) p
theorem zz_new {H : Hp} {b g p : Addr} {o : HO} (h : H p = none) : Same (hh H b g) (zz (upd H p o) b g p) := fun a u e => by
  obtain ⟨n1, n2, e⟩ := hh_ne e
  have n : a ≠ p := fun z => by
    rw [z, h] at e
    cases e
  exact hid_get (hh_get (by rw [upd_ne n]; exact e) n1 n2) n
theorem zz_put {H : Hp} {b g p : Addr} {o : HO} : Same (zz H b g p) (zz (upd H p o) b g p) := fun a u e => by
  have n := hid_ne e
  obtain ⟨n1, n2, e⟩ := hh_ne (hid_sub _ _ e)
  exact hid_get (hh_get (by rw [upd_ne n]; exact e) n1 n2) n
theorem Kd.updn {b g p : Addr} {H H1 : Hp} {o : HO} (h : Kd b g H H1) (hp : H p = none) : Kd b g H (upd H1 p o) := fun a u e n => by
  rw [upd_ne (ne_of_none e hp)]
  exact h a u e n
theorem zz_get {H : Hp} {b g p a : Addr} {o : HO} (h : H a = some o) (n : Nb b g a) (m : a ≠ p) : zz H b g p a = some o := hid_get (hh_get h n.1 n.2) m
theorem PutsOk.snoc {bk : List PartD} {p : PartD} (h : PutsOk bk) (hl : p.2.length ≤ 7) (hp : ∀ z, RowD.put z ∈ p.2 → z ∈ bk.map (·.1)) : PutsOk (bk ++ [p]) := fun i q e => by
  by_cases hi : i < bk.length
  · rw [List.getElem?_append_left hi] at e
    obtain ⟨h1, h2⟩ := h i q e
    refine ⟨h1, fun z hz => ?_⟩
    rw [List.take_append_of_le_length (by omega)]
    exact h2 z hz
  · have hi2 : i = bk.length := by
      have := (List.getElem?_eq_some_iff.mp e).1
      simp at this
      omega
    subst hi2
    have e2 : p = q := by simpa using e
    subst e2
    refine ⟨hl, fun z hz => ?_⟩
    rw [List.take_left']
    · exact hp z hz
    · rfl
theorem fine_more {d : Pool} {cs : List (Str × Str)} {l m : List Str} (h : ∀ x ∈ l, x ∈ m) : ∀ {r : RowD}, rowFine d cs l r → rowFine d cs m r
  | .note _ _, f => f
  | .skip _ _, f => f
  | .set _ _, f => f
  | .keep _, f => f
  | .back _, f => f
  | .ref _, f => f
  | .put _, f => h _ f
  | .opn _, f => f
/-- the parts drawn so far -/
structure BkOk (d : Pool) (cs : List (Str × Str)) (i : Nat) (bk : List PartD) : Prop where
  n : bk.length = i
  nm : bk.map (·.1) = d.p.take i
  puts : PutsOk bk
  rows : ∀ p ∈ bk, p.2.length ≤ 5 ∧ ∀ r ∈ p.2, rowFine d cs (bk.map (·.1)) r
theorem fine_puts {d : Pool} {cs : List (Str × Str)} {l : List Str} {rs : List RowD} (h : ∀ r ∈ rs, rowFine d cs l r) : ∀ z, RowD.put z ∈ rs → z ∈ l := fun z hz => h _ hz
theorem lookup_mem {kn : List PartD} {z : Str} {ys : List RowD} (h : kn.lookup z = some ys) : (z, ys) ∈ kn := by
  induction kn with
  | nil => cases h
  | cons a kn ih =>
    obtain ⟨y, rs⟩ := a
    rw [List.lookup_cons] at h
    by_cases e : z = y
    · subst e
      rw [beq_self_eq_true] at h
      have := Option.some.inj h
      subst this
      exact List.mem_cons_self
    · rw [show (z == y) = false from by simpa using e] at h
      exact List.mem_cons_of_mem _ (ih h)
theorem expand_all {G : RowD → Prop} {kn : List PartD} (h : ∀ z rs, (z, rs) ∈ kn → ∀ r ∈ rs, G r) {rs : List RowD} (g : ∀ r ∈ rs, G r) : ∀ r ∈ unrollIn kn rs, G r := fun r hr => by
  obtain ⟨x, hx, hr⟩ := List.mem_flatMap.mp hr
  have gx := g x hx
  cases x with
  | put z =>
    cases hl : kn.lookup z with
    | none =>
      have e : expand kn (.put z) = [] := by show (List.lookup z kn).getD [] = []; rw [hl]; rfl
      rw [e] at hr
      cases hr
    | some ys =>
      have e : expand kn (.put z) = ys := by show (List.lookup z kn).getD [] = ys; rw [hl]; rfl
      rw [e] at hr
      exact h z ys (lookup_mem hl) r hr
  | _ => rw [List.mem_singleton.mp hr]; exact gx
theorem knowns_all {G : RowD → Prop} {bk : List PartD} (h : ∀ p ∈ bk, ∀ r ∈ p.2, G r) : ∀ z rs, (z, rs) ∈ knowns bk → ∀ r ∈ rs, G r := by
  have key : ∀ (l : List PartD) (kn : List PartD), (∀ z rs, (z, rs) ∈ kn → ∀ r ∈ rs, G r) → (∀ p ∈ l, ∀ r ∈ p.2, G r) → ∀ z rs, (z, rs) ∈ l.foldl (fun kn p => (p.1, unrollIn kn p.2) :: kn) kn → ∀ r ∈ rs, G r := by
    intro l
    induction l with
    | nil => intro kn hk _; exact hk
    | cons p l ih =>
      intro kn hk hl
      rw [List.foldl_cons]
      refine ih _ (fun z rs hz => ?_) (fun q hq => hl q (List.mem_cons_of_mem _ hq))
      rcases List.mem_cons.mp hz with e | hz
      · injection e with e1 e2
        subst e2
        exact expand_all hk (hl p List.mem_cons_self)
      · exact hk z rs hz
  exact key bk [] (fun z rs hz => by cases hz) h
theorem unrolled_snoc (bi : List PartD) (p : PartD) : unrolled (bi ++ [p]) = unrollIn (knowns bi) p.2 := by
  unfold unrolled
  rw [knowns_snoc]
  rfl
theorem unrolled_all {G : RowD → Prop} {bk : List PartD} (h : ∀ p ∈ bk, ∀ r ∈ p.2, G r) : ∀ r ∈ unrolled bk, G r := by
  intro r hr
  unfold unrolled at hr
  cases hk : knowns bk with
  | nil => rw [hk] at hr; cases hr
  | cons a l =>
    rw [hk] at hr
    exact knowns_all h a.1 a.2 (by rw [hk]; exact List.mem_cons_self) r hr
theorem labels_of {rs : List RowD} {l : Str} (h : l ∈ labelsOf rs) : ∃ c, RowD.note c l ∈ rs ∧ l ≠ "" := by
  obtain ⟨r, hr, e⟩ := List.mem_filterMap.mp h
  cases r with
  | note c z =>
    have e : (if z = "" then none else some z) = some l := e
    by_cases hz : z = ""
    · rw [if_pos hz] at e; cases e
    · rw [if_neg hz] at e
      have := Option.some.inj e
      subst this
      exact ⟨c, hr, hz⟩
  | _ => cases e
theorem labels_fine {d : Pool} {cs : List (Str × Str)} {bk : List PartD} (fl : d.Fine) (h : ∀ p ∈ bk, ∀ r ∈ p.2, rowFine d cs (bk.map (·.1)) r) : ∀ l ∈ labelsOf (unrolled bk), nameS l = true := fun l hl => by
  obtain ⟨c, hr, hn⟩ := labels_of hl
  have q := (unrolled_all h _ hr).2
  rcases q with e | e
  · exact absurd e hn
  · exact fl.names l (by simp [e])
/-- a drawn book with one reference put into its text -/
def withRef (p : PartD) (k : Nat) (l : Str) : PartD := (p.1, p.2.take k ++ [RowD.ref l] ++ p.2.drop k)
theorem with_ref {d : Pool} {cs : List (Str × Str)} {bi : List PartD} {p : PartD} {i k : Nat} {l : Str} (fl : d.Fine) (ok : BkOk d cs i (bi ++ [p])) (hi : i ≤ 3) (hd : d ∈ poolsD) (c0 : 0 < cs.length) (c3 : cs.length ≤ 3) (cn : cs.map (·.1) = d.c.take cs.length) (ct : TreeOk cs)
    (hl : l ∈ labelsOf (unrolled (bi ++ [p]))) : BookOk d cs (bi ++ [withRef p k l]) ∧ (∀ q ∈ bi ++ [withRef p k l], q.2.length ≤ 6) := by
  have hn : (bi ++ [withRef p k l]).map (·.1) = (bi ++ [p]).map (·.1) := by rw [List.map_append, List.map_append]; rfl
  have hlen : (bi ++ [withRef p k l]).length = i := by rw [← ok.n]; simp
  have hmem : ∀ r ∈ (withRef p k l).2, r ∈ p.2 ∨ r = .ref l := fun r hr => by
    rcases List.mem_append.mp hr with hr | hr
    · rcases List.mem_append.mp hr with hr | hr
      · exact .inl (List.mem_of_mem_take hr)
      · exact .inr (List.mem_singleton.mp hr)
    · exact .inl (List.mem_of_mem_drop hr)
  have hl2 : l ∈ labelsOf (unrolled (bi ++ [withRef p k l])) := by
    rw [unrolled_snoc] at hl ⊢
    have e : p.2 = p.2.take k ++ p.2.drop k := (List.take_append_drop k p.2).symm
    unfold labelsOf unrollIn at hl ⊢
    rw [e, List.flatMap_append, List.filterMap_append] at hl
    show l ∈ List.filterMap labelOf (List.flatMap (expand (knowns bi)) (p.2.take k ++ [RowD.ref l] ++ p.2.drop k))
    rw [List.flatMap_append, List.flatMap_append, List.filterMap_append, List.filterMap_append]
    rcases List.mem_append.mp hl with h | h
    · exact List.mem_append_left _ (List.mem_append_left _ h)
    · exact List.mem_append_right _ h
  have pbi : PutsOk bi := fun j q e => by
    have hj := (List.getElem?_eq_some_iff.mp e).1
    have := ok.puts j q (by rw [List.getElem?_append_left hj]; exact e)
    rw [List.take_append_of_le_length (by omega)] at this
    exact this
  have pp := ok.puts bi.length p (by simp)
  rw [List.take_left' rfl] at pp
  have hp5 := (ok.rows p (by simp)).1
  have h66 : (withRef p k l).2.length ≤ 6 := by
    show (p.2.take k ++ [RowD.ref l] ++ p.2.drop k).length ≤ 6
    rw [List.length_append, List.length_append, List.length_take, List.length_drop]
    show min k p.2.length + 1 + (p.2.length - k) ≤ 6
    omega
  refine ⟨⟨hd, c0, c3, cn, ct, by simp, by omega, by rw [hn, hlen]; exact ok.nm, pbi.snoc (by omega) (fun z hz => ?_), fun q hq r hr => ?_⟩, fun q hq => ?_⟩
  rotate_left 2
  · rcases List.mem_append.mp hq with hq | hq
    · exact Nat.le_trans (ok.rows q (List.mem_append_left _ hq)).1 (by decide)
    · rw [List.mem_singleton.mp hq]
      exact h66
  · rcases hmem _ hz with h | h
    · exact pp.2 z h
    · cases h
  · rcases List.mem_append.mp hq with hq | hq
    · exact .inl (by rw [hn]; exact (ok.rows q (List.mem_append_left _ hq)).2 r hr)
    · rw [List.mem_singleton.mp hq] at hr
      rcases hmem r hr with h | h
      · exact .inl (by rw [hn]; exact (ok.rows p (by simp)).2 r h)
      · exact .inr (.inl ⟨l, h, hl2, labels_fine fl (fun q hq => (ok.rows q hq).2) l hl⟩)
section
variable {P : Program} {w : World} {K : PySem.W.Frag} {mg : Str → Option Value} {base : Heap}
structure TBook (K : PySem.W.Frag) (mg : Str → Option Value) : Type extends TDRow K mg where
  unr : At K mg "_law_unrolled" sUnrolled ["_law_parts"]
  book : At K mg "_law_book" sBook ["_law_deal_here", "_law_most"]
def spBook : Sp := fun vs H Q _ => ∃ (b g : Addr) (m : Int), vs = [.ref b, .int m] ∧ DealAt H b g ∧
  ∀ (t c pl : Addr) (d : Pool) (cs : List (Str × Str)) (bk : List PartD) (H' : Hp), BookOk d cs bk → (∀ q ∈ bk, q.2.length ≤ 6) → Kd b g H H' → DealAt H' b g → hh H' b g t = some (.tup [.ref c, .ref pl]) → CsAt (hh H' b g) c cs → PartsAt (hh H' b g) pl bk → Q (.ref t) H'
theorem scBook : FnScope ["_law_deal_here", "_law_most", "_law_pools_here", "_law_counters_here", "_law_parts", "_law_at", "_law_names", "_law_rows", "_law_turn", "_law_labels", "_law_spot", "_law_name", "_law_some", "_law_row_here"] ["_law_deal_here", "_law_most"] (defScope sBook) := ⟨rfl, rfl, rfl, by decide +kernel, rfl, by decide +kernel, by decide +kernel⟩
theorem ok_book (T : TBook K mg) : FnOk P w K mg base CX0 4 T.book.f T.book.fd ["_law_deal_here", "_law_most"] spBook := by
  refine T.book.F.ok scBook (fun vs H Q E h => ?_) (fun cdv A outer s H vs Q E hr h => ?_)
  · obtain ⟨b, g, m, rfl, _⟩ := h
    rfl
  · obtain ⟨b, g, m, rfl, hB, q⟩ := h
    refine ⟨_, pss_cons (ps_set (i := 2) scBook.nd rfl (Or.inl rfl) (pe_call (ok_pools T.pools.F T.toTDraw) hr rfl T.pools.m T.pools.F.kp T.pools.b .nil pass0 (pa_cons (pv 0) pa_nil)))
      (pss_cons (ps_par (i := 3) (j := 4) (by rfl) scBook.nd rfl rfl (by decide) rfl rfl (pa_cons (pe_call (ok_counters T.toTCnt) hr rfl T.counters.m T.counters.F.kp T.counters.b .nil pass0 (pa_cons (pv 0) (pa_cons (pe_ix ix_list (pv 2) pe_int (fun _ _ => rfl)) (pa_cons pe_int pa_nil)))) (pa_cons (pe_lst pa_nil) pa_nil)) (by rfl))
      (pss_cons (ps_for PassesOwn.never rfl (pi_range1 (by rfl) T.mR (pa_cons (pe_op op_add pe_int (pe_call T.okChoose (hr.mono (by decide)) rfl T.choose.m T.choose.F.kp T.choose.b .nil pass0 (pa_cons (pv 0) (pa_cons pe_int pa_nil)))) pa_nil)) (pg_name (i := 5) scBook.nd rfl (Or.inl rfl))
        (pss_cons (ps_par (i := 6) (j := 7) (by rfl) scBook.nd rfl rfl (by decide) rfl rfl (pa_cons (pe_lc (own := [("_law_name", 11), ("_law_some", 12)]) (g := gTup K 2 (gCons (gName 11) (gCons (gName 12) gNil))) (tt := tYes) (by rfl) scBook.nd (pi_list (pv 4))
            (blkOk_by (N := ["_law_deal_here", "_law_most", "_law_pools_here", "_law_counters_here", "_law_parts", "_law_at", "_law_names", "_law_rows", "_law_turn", "_law_labels", "_law_spot", "_law_name", "_law_some", "_law_row_here"]) (sc := defScope sBook) (by decide +kernel))
            (fun _ _ _ _ _ => pg_tup (by rfl) (pgs_cons (pg_name (i := 11) scBook.nd rfl (Or.inl rfl)) (pgs_cons (pg_name (i := 12) scBook.nd rfl (Or.inl rfl)) pgs_nil))) (fun _ _ _ _ _ => pts_nil) (fun _ _ _ _ _ => pv 11)) (pa_cons (pe_lst pa_nil) pa_nil)) (by rfl))
        (pss_cons (ps_for PassesOwn.never rfl (pi_range1 (by rfl) T.mR (pa_cons (pe_op op_add pe_int (pe_call T.okChoose (hr.mono (by decide)) rfl T.choose.m T.choose.F.kp T.choose.b .nil pass0 (pa_cons (pv 0) (pa_cons pe_int pa_nil)))) pa_nil)) (pg_name (i := 8) scBook.nd rfl (Or.inl rfl))
          (pss_cons (ps_set (i := 7) scBook.nd rfl (Or.inl rfl) (pe_op op_cat (pv 7) (pe_lst (pa_cons (pe_call (ok_drow T.toTDRow) hr rfl T.row.m T.row.F.kp T.row.b .nil pass0 (pa_cons (pv 0) (pa_cons (pv 2) (pa_cons (pv 3) (pa_cons (pv 6) pa_nil))))) pa_nil))))
          (pss_one (ps_if (pt_cmpR op_gt (pe_callB call_len_seq (by rfl) T.mL PySem.boot_len (pa_cons (pe_lc (own := [("_law_row_here", 13)]) (g := gName 13) (by rfl) scBook.nd (pi_list (pe_call (ok_unrolled T.unr.F) (hr.mono (by decide)) rfl T.unr.m T.unr.F.kp T.unr.b .nil pass0 (pa_cons (pe_op op_cat (pv 4) (pe_lst (pa_cons (pe_tup (pa_cons pe_str (pa_cons (pv 7) pa_nil))) pa_nil))) pa_nil)))
              (blkOk_by (N := ["_law_deal_here", "_law_most", "_law_pools_here", "_law_counters_here", "_law_parts", "_law_at", "_law_names", "_law_rows", "_law_turn", "_law_labels", "_law_spot", "_law_name", "_law_some", "_law_row_here"]) (sc := defScope sBook) (by decide +kernel))
              (fun _ _ _ _ _ => pg_name (i := 13) scBook.nd rfl (Or.inl rfl)) (fun _ _ _ _ _ => pts_one (pt_cmpR op_eq (pe_ix (show IxR _ (rIxT K) from ix_tup) (pv 13) pe_int (fun _ _ => rfl)) pe_str (nomark _))) (fun _ _ _ _ _ => pv 13)) pa_nil)) (pv 1) (nomark _))
            (pss_one (ps_set (i := 7) scBook.nd rfl (Or.inl rfl) (pe_slice sl_list (pv 7) po_none (po_some (pe_un un_neg pe_int))))) pss_nil))))
        (pss_one (ps_expr (pe_bm PySem.F.plainAttrs_list PySem.F.slot_list_append PySem.F.type_list_append mt_append (pv 4) (pa_cons (pe_tup (pa_cons (pe_ix ix_list (pe_ix ix_list (pv 2) pe_int (fun _ _ => rfl)) (pv 5) (fun _ _ => rfl)) (pa_cons (pv 7) pa_nil))) pa_nil)))))))
      (pss_cons (ps_setLc (i := 9) (own := [("_law_row_here", 13)]) (g := gName 13) (by rfl) scBook.nd rfl rfl (sw_true rfl rfl rfl (by decide +kernel)) (pi_list (pe_call (ok_unrolled T.unr.F) (hr.mono (by decide)) rfl T.unr.m T.unr.F.kp T.unr.b .nil pass0 (pa_cons (pv 4) pa_nil)))
          (blkOk_by (N := ["_law_deal_here", "_law_most", "_law_pools_here", "_law_counters_here", "_law_parts", "_law_at", "_law_names", "_law_rows", "_law_turn", "_law_labels", "_law_spot", "_law_name", "_law_some", "_law_row_here"]) (sc := defScope sBook) (by decide +kernel))
          (fun _ _ _ _ _ => pg_name (i := 13) scBook.nd rfl (Or.inl rfl))
          (fun _ _ _ _ _ => pts_one (PW.pt (pw_and (pt_cmpR op_eq (pe_ix (show IxR _ (rIxT K) from ix_tup) (pv 13) pe_int (fun _ _ => rfl)) pe_str (nomark _)) (pw_and1 (pt_cmpR op_ne (pe_ix (show IxR _ (rIxT K) from ix_tup) (pv 13) pe_int (fun _ _ => rfl)) pe_str (nomark _))))))
          (fun _ _ _ _ _ => pe_ix (show IxR _ (rIxT K) from ix_tup) (pv 13) pe_int (fun _ _ => rfl)))
      (pss_cons (ps_if (PW.pt (pw_and (pt_cmpR (op_neD hr.units) (pv 9) (pe_lst pa_nil) (nomark _)) (pw_and1 (pt_cmpR op_eq (pe_call T.okChoose (hr.mono (by decide)) rfl T.choose.m T.choose.F.kp T.choose.b .nil pass0 (pa_cons (pv 0) (pa_cons pe_int pa_nil))) pe_int (nomark _)))))
        (pss_cons (ps_set (i := 10) scBook.nd rfl (Or.inl rfl) (pe_call T.okChoose (hr.mono (by decide)) rfl T.choose.m T.choose.F.kp T.choose.b .nil pass0 (pa_cons (pv 0) (pa_cons (pe_op op_add (pe_callB call_len_seq (by rfl) T.mL PySem.boot_len (pa_cons (pe_ix ix_tup (pe_ix ix_list (pv 4) (pe_un un_neg pe_int) (fun _ _ => rfl)) pe_int (fun _ _ => rfl)) pa_nil)) pe_int) pa_nil))))
        (pss_cons (ps_set (i := 7) scBook.nd rfl (Or.inl rfl) (pe_op op_cat (pe_op op_cat (pe_slice sl_list (pe_ix ix_tup (pe_ix ix_list (pv 4) (pe_un un_neg pe_int) (fun _ _ => rfl)) pe_int (fun _ _ => rfl)) po_none (po_some (pv 10)))
            (pe_lst (pa_cons (pe_tup (pa_cons pe_str (pa_cons (pe_call T.okOne (hr.mono (by decide)) rfl T.one.m T.one.F.kp T.one.b .nil pass0 (pa_cons (pv 0) (pa_cons (pv 9) pa_nil))) pa_nil))) pa_nil))) (pe_slice sl_list (pe_ix ix_tup (pe_ix ix_list (pv 4) (pe_un un_neg pe_int) (fun _ _ => rfl)) pe_int (fun _ _ => rfl)) (po_some (pv 10)) po_none)))
        (pss_one (ps_set (i := 4) scBook.nd rfl (Or.inl rfl) (pe_op op_cat (pe_slice sl_list (pv 4) po_none (po_some (pe_un un_neg pe_int))) (pe_lst (pa_cons (pe_tup (pa_cons (pe_ix ix_tup (pe_ix ix_list (pv 4) (pe_un un_neg pe_int) (fun _ _ => rfl)) pe_int (fun _ _ => rfl)) (pa_cons (pv 7) pa_nil))) pa_nil))))))) pss_nil)
      (pss_one (ps_ret (pe_tup (pa_cons (pv 3) (pa_cons (pv 4) pa_nil))))))))), ?_⟩
    refine ⟨_, rfl, b, g, rfl, hB, fun pp d H1 hd hB1 k1 hP0 => ?_⟩
    have fl := pool_fine d hd
    have hP1 : PoolAt (hh H1 b g) pp d := hP0.mono (dif_hh hB)
    obtain ⟨a0, a1, a2, a3, ep, e0, e1, e2, e3⟩ := id hP1
    refine ⟨_, rfl, _, rfl, pp, _, _, .ref a0, rfl, rfl, SqL.of (hh_sub _ _ ep), rfl, ?_⟩
    refine ⟨b, g, a0, 3, d.c, rfl, hB1, SqL.of (hh_sub _ _ e0), hh_nb e0, by decide, by rw [fl.cl]; decide, by rw [fl.cl]; decide, fun cc cs H2 k2 hB2 hC0 c0 c3 cn ct => ⟨Nat.zero_le _, fun pl hpl => ⟨_, _, rfl, ?_⟩⟩⟩
    have kH2 := k1.trans k2
    have hPL : H pl = none := kH2.mo hB2 pl hpl
    have npl : Nb b g pl := hB2.nb hpl
    have hC2 : CsAt (hh H2 b g) cc cs := hC0.mono (dif_hh hB1)
    have hP2 : PoolAt (hh H2 b g) pp d := hP1.mono (Kd.hh k2)
    have hP3 : PoolAt (zz (upd H2 pl (.lst [])) b g pl) pp d := hP2.mono (zz_new hpl)
    have hC3 : CsAt (zz (upd H2 pl (.lst [])) b g pl) cc cs := hC2.mono (zz_new hpl)
    have k3 := kH2.new (o := .lst []) hpl
    have hB3 : DealAt (upd H2 pl (.lst [])) b g := hB2.new hpl
    have hl3 : upd H2 pl (.lst []) pl = some (.lst []) := upd_same
    generalize upd H2 pl (.lst []) = H3 at hP3 hC3 k3 hB3 hl3 ⊢
    clear hP0 hP1 hP2 hC0 hC2 ep e0 e1 e2 e3 hB1 hB2 k1 k2 kH2 hpl
    refine ⟨_, rfl, b, g, 3, rfl, hB3, by decide, by decide, fun r H4 r0 r1 hB4 k4 _ => ?_⟩
    refine ⟨_, _, rfl, rfl, _, rfl, by omega, by omega, for_range (lo := 0) (fun i σ Hi => ∃ x5 x6 x7 x8 x9 x10 x11 x12 x13 ts bk, σ = [some (.ref b), some (.int m), some (.ref pp), some (.ref cc), some (.ref pl), x5, x6, x7, x8, x9, x10, x11, x12, x13] ∧ Kd b g H Hi ∧ DealAt Hi b g ∧ Hi pl = some (.lst ((ts : List Addr).map V.ref)) ∧
      PoolAt (zz Hi b g pl) pp d ∧ CsAt (zz Hi b g pl) cc cs ∧ Paired (PartAt (zz Hi b g pl)) ts bk ∧ BkOk d cs i bk)
      ⟨_, _, _, _, _, _, _, _, _, [], [], rfl, k3.trans k4, hB4, k4 _ _ hl3 npl, hP3.mono (zz_kp k4), hC3.mono (zz_kp k4), .nil, ⟨rfl, rfl, fun i p h => by simp at h, fun p h => by cases h⟩⟩ (fun i σ Hi hi hP => ?turn) (fun σ Hi hP => ?fin)⟩
    case turn =>
      obtain ⟨x5, x6, x7, x8, x9, x10, x11, x12, x13, ts, bk, rfl, kI, hBI, hpI, hPI, hCI, hbk, ok⟩ := hP
      clear hB3 hB4 k4 hP3 hC3 hl3 k3
      have hi3 : i < 3 := by omega
      have htl : ts.length = bk.length := paired_len hbk
      have hbl : bk.length = i := ok.n
      have hnames : ∀ x ∈ bk.map (·.1), nameS x = true := fun x hx => by
        rw [ok.nm] at hx
        exact fl.names x (by simp [List.mem_of_mem_take hx])
      refine ⟨_, rfl, pl, rfl, ⟨_, SqL.of hpI⟩, fun D hD => lc_list (K := K) (a := pl) (xs := ts.map V.ref) (fun j Hj => Hj = upd Hi D (.lst (((bk.take j).map (·.1)).map V.str))) rfl (fun j Hj _ hP => ?stays) (fun j x Hj hj hP => ?cturn) (fun Hj hP => ?cend)⟩
      case stays =>
        subst hP
        exact SqL.of (Same.new hD _ _ hpI)
      case cturn =>
        subst hP
        rw [List.getElem?_map] at hj
        cases hxj : ts[j]? with
        | none => rw [hxj] at hj; cases hj
        | some t =>
        rw [hxj] at hj
        cases hj
        obtain ⟨p, hpj, ra, htt, _⟩ := paired_at hbk hxj
        have htH := Same.new (o := .lst (((bk.take j).map (·.1)).map V.str)) hD t _ (zz_sub _ _ htt)
        refine ⟨t, _, rfl, SqT.of htH, rfl, _, _, rfl, _, _, rfl, rfl, rfl, _, rfl, _, upd_same, ?_, ?_⟩
        · rw [List.length_map, List.length_map, List.length_take]
          have : (1001 : Nat) ≤ sizeLine := by decide
          omega
        · rw [List.take_add_one, hpj, List.map_append, List.map_append]
          funext c
          by_cases ec : c = D
          · rw [ec, upd_same, upd_same]
            rfl
          · rw [upd_ne ec, upd_ne ec, upd_ne ec]
      case cend =>
        subst hP
        rw [List.length_map, htl, List.take_length]
        refine ⟨Nat.zero_le _, fun rl hrl => ⟨_, _, rfl, ?_⟩⟩
        have nD : Nb b g D := hBI.nb hD
        have nDp : D ≠ pl := fun z => by rw [z, hpI] at hD; cases hD
        have sN : Same Hi (upd (upd Hi D (.lst ((bk.map (·.1)).map V.str))) rl (.lst [])) := (Same.new hD).trans (Same.new hrl)
        have hDN : upd (upd Hi D (.lst ((bk.map (·.1)).map V.str))) rl (.lst []) D = some (.lst ((bk.map (·.1)).map V.str)) := Same.new hrl D _ upd_same
        have hrN : upd (upd Hi D (.lst ((bk.map (·.1)).map V.str))) rl (.lst []) rl = some (.lst []) := upd_same
        have nr : Nb b g rl := (hBI.new hD).nb hrl
        have nrp : rl ≠ pl := fun z => by rw [z, (Same.new hD) _ _ hpI] at hrl; cases hrl
        have hBN : DealAt (upd (upd Hi D (.lst ((bk.map (·.1)).map V.str))) rl (.lst [])) b g := (hBI.new hD).new hrl
        generalize upd (upd Hi D (.lst ((bk.map (·.1)).map V.str))) rl (.lst []) = HN at sN hDN hrN hBN ⊢
        have hPN := hPI.mono (zz_same (b := b) (g := g) (p := pl) sN)
        have hCN := hCI.mono (zz_same (b := b) (g := g) (p := pl) sN)
        have hbN := paired_mono (fun _ _ e => e.same (zz_same (b := b) (g := g) (p := pl) sN)) hbk
        have hpN := sN _ _ hpI
        have hrN2 : zz HN b g pl rl = some (.lst (([] : List Addr).map V.ref)) := zz_get hrN nr nrp
        refine ⟨_, rfl, b, g, 5, rfl, hBN, by decide, by decide, fun r2 H5 r20 r21 hB5 k5 _ => ?_⟩
        refine ⟨_, _, rfl, rfl, _, rfl, by omega, by omega, for_range (lo := 0) (fun j σ Hj => ∃ y8 y9 y10 y11 y12 y13 rl us rs, σ = [some (.ref b), some (.int m), some (.ref pp), some (.ref cc), some (.ref pl), some (.int (0 + (i : Int))), some (.ref D), some (.ref rl), y8, y9, y10, y11, y12, y13] ∧ Kd b g HN Hj ∧ DealAt Hj b g ∧
          zz Hj b g pl rl = some (.lst ((us : List Addr).map V.ref)) ∧ RowsAt (zz Hj b g pl) us rs ∧ rs.length ≤ j ∧ ∀ r ∈ rs, rowFine d cs (bk.map (·.1)) r)
          ⟨_, _, _, _, _, _, rl, [], [], rfl, k5, hB5, zz_kp k5 _ _ hrN2, .nil, Nat.le_refl _, fun r h => by cases h⟩ (fun j σ Hj hj hP => ?inner) (fun σ Hj hP => ?outer)⟩
        case inner =>
          obtain ⟨y8, y9, y10, y11, y12, y13, rl2, us, rs, rfl, kJ, hBJ, hrJ, huJ, hlJ, hfJ⟩ := hP
          have hPJ := hPN.mono (zz_kp (p := pl) kJ)
          have hCJ := hCN.mono (zz_kp (p := pl) kJ)
          have hpJ := kJ _ _ hpN npl
          have hDJ := kJ _ _ hDN nD
          have hj5 : j < 5 := by omega
          refine ⟨_, rfl, _, rfl, _, rfl, _, rfl, _, rfl, b, g, pp, cc, D, d, cs, bk.map (·.1), rfl, hBJ, hPJ.mono zz_hid, hd, hCJ.mono zz_hid, c0, by omega, SqL.of hDJ, nD, by rw [List.length_map]; omega, hnames, fun t r3 H6 k6 hB6 ht hf => ⟨(by show 1 ≤ sizeLine; decide), fun L hL => ?_⟩⟩
          have hr6 := k6 _ _ (zz_sub _ _ hrJ) (hh_nb (zz_hid _ _ hrJ))
          have htn := dif_eq.mp ht
          refine ⟨rl2, L, _, [.ref t], rfl, rfl, Same.new hL _ _ hr6, upd_same, ?_, fun rl3 hrl3 => ?_⟩
          · rw [List.length_map, paired_len huJ]
            have : (1001 : Nat) ≤ sizeLine := by decide
            show rs.length + 1 ≤ sizeLine
            omega
          have k8 : Kd b g Hj (upd (upd H6 L (.lst [.ref t])) rl3 (.lst (us.map V.ref ++ [.ref t]))) := (k6.new hL).new hrl3
          have hB8 : DealAt (upd (upd H6 L (.lst [.ref t])) rl3 (.lst (us.map V.ref ++ [.ref t]))) b g := (hB6.new hL).new hrl3
          have ht8 : upd (upd H6 L (.lst [.ref t])) rl3 (.lst (us.map V.ref ++ [.ref t])) t = some (.tup (rowTup r3)) := Same.new hrl3 _ _ (Same.new hL _ _ htn.2)
          have hr8 : upd (upd H6 L (.lst [.ref t])) rl3 (.lst (us.map V.ref ++ [.ref t])) rl3 = some (.lst (us.map V.ref ++ [.ref t])) := upd_same
          have nr3 : Nb b g rl3 := (hB6.new hL).nb hrl3
          have nr3p : rl3 ≠ pl := fun z => by
            rw [z, Same.new hL _ _ (k6 _ _ hpJ npl)] at hrl3
            cases hrl3
          have nt3 : Nb b g t := hBJ.nd htn.1
          have nt3p : t ≠ pl := fun z => by
            rw [z, hpJ] at htn
            cases htn.1
          generalize upd (upd H6 L (.lst [.ref t])) rl3 (.lst (us.map V.ref ++ [.ref t])) = H8 at k8 hB8 ht8 hr8 ⊢
          have hr8z : zz H8 b g pl rl3 = some (.lst ((us ++ [t]).map V.ref)) := by
            rw [List.map_append]
            exact zz_get hr8 nr3 nr3p
          have hu8 : RowsAt (zz H8 b g pl) (us ++ [t]) (rs ++ [r3]) := paired_snoc (R := fun t r => zz H8 b g pl t = some (HO.tup (rowTup r))) (zz_get ht8 nt3 nt3p) (huJ.same (zz_kp k8))
          have hf8 : ∀ r ∈ rs ++ [r3], rowFine d cs (bk.map (·.1)) r := fun r hr => (List.mem_append.mp hr).elim (hfJ r) (fun h => by rw [List.mem_singleton.mp h]; exact hf)
          have hl8 : (rs ++ [r3]).length ≤ j + 1 := by rw [List.length_append]; exact Nat.add_le_add_right hlJ 1
          have hp8 := k8 _ _ hpJ npl
          have kN8 := kJ.trans k8
          have hb8 := paired_mono (fun _ _ e => e.same ((zz_kp (p := pl) kN8).trans zz_sub)) hbN
          have hr8' := zz_sub _ _ hr8z
          have kD8 := hB8
          clear ht8 hr8 hf hfJ ht htn
          refine ⟨_, rfl, _, rfl, (by show 2 ≤ sizeLine; decide), fun t' ht' => ⟨(by show 1 ≤ sizeLine; decide), fun L2 hL2 => ⟨pl, L2, _, [.ref t'], rfl, rfl, Same.new hL2 _ _ (Same.new ht' _ _ hp8), upd_same, ?_, fun P' hP' => ?_⟩⟩⟩
          · rw [List.length_map]
            have : (1001 : Nat) ≤ sizeLine := by decide
            show ts.length + 1 ≤ sizeLine
            omega
          have s9 : Same H8 (upd (upd (upd H8 t' (.tup [.str "text", .ref rl3])) L2 (.lst [.ref t'])) P' (.lst (ts.map V.ref ++ [.ref t']))) := ((Same.new ht').trans (Same.new hL2)).trans (Same.new hP')
          have hP9 : upd (upd (upd H8 t' (.tup [.str "text", .ref rl3])) L2 (.lst [.ref t'])) P' (.lst (ts.map V.ref ++ [.ref t'])) P' = some (.lst (ts.map V.ref ++ [.ref t'])) := upd_same
          have ht9 : upd (upd (upd H8 t' (.tup [.str "text", .ref rl3])) L2 (.lst [.ref t'])) P' (.lst (ts.map V.ref ++ [.ref t'])) t' = some (.tup [.str "text", .ref rl3]) := Same.new hP' _ _ (Same.new hL2 _ _ upd_same)
          generalize upd (upd (upd H8 t' (.tup [.str "text", .ref rl3])) L2 (.lst [.ref t'])) P' (.lst (ts.map V.ref ++ [.ref t'])) = H9 at s9 hP9 ht9 ⊢
          have hL8 : LstAt H9 rl3 (rs ++ [r3]) := ⟨us ++ [t], s9 _ _ hr8', hu8.same (zz_sub.trans s9)⟩
          have hPA : PartsAt H9 P' (bk ++ [((("text" : Str), rs ++ [r3]) : PartD)]) := ⟨ts ++ [t'], by rw [hP9, List.map_append]; rfl, paired_snoc ⟨rl3, ht9, hL8⟩ (paired_mono (fun _ _ e => e.same s9) hb8)⟩
          have h6 : (rs ++ [r3]).length ≤ 6 := by omega
          refine ⟨P', _, rfl, hPA, ok.puts.snoc (Nat.le_succ_of_le h6) (fine_puts hf8), by simp, by simp; omega, fun F HF sF hFn hFl hle => ?_⟩
          obtain ⟨fs, hF, hfs⟩ := hFl
          have hfl := paired_len hfs
          refine ⟨F, rfl, ⟨_, SqL.of hF⟩, fun D2 hD2 => lc_list (K := K) (a := F) (xs := fs.map V.ref) (fun j2 Hj2 => Same HF Hj2 ∧ ∃ acc, Hj2 D2 = some (.lst acc) ∧ acc.length ≤ j2) ⟨Same.new hD2, [], upd_same, Nat.le_refl _⟩ (fun j2 Hj2 _ hP => SqL.of (hP.1 _ _ hF)) (fun j2 x Hj2 hj2 hP => ?cturn2) (fun Hj2 hP => ?cend2)⟩
          case cturn2 =>
            obtain ⟨sj2, acc, hacc, hal⟩ := hP
            rw [List.getElem?_map] at hj2
            cases hxj : fs[j2]? with
            | none => rw [hxj] at hj2; cases hj2
            | some u2 =>
            rw [hxj] at hj2
            cases hj2
            obtain ⟨r4, hr4, hu4⟩ := paired_at hfs hxj
            have hj3 : j2 < fs.length := (List.getElem?_eq_some_iff.mp hxj).1
            refine ⟨rfl, _, rfl, u2, _, _, _, rfl, rfl, SqT.of (sj2 _ _ hu4), atI_nat (j := 0) (tup_head r4), rfl, _, rfl, ite2 (fun hc => ?_) (fun hc => ?_)⟩
            · refine ⟨_, rfl, acc, hacc, ?_, Same.updn sj2 hD2, _, upd_same, ?_⟩
              · have : (4000 : Nat) ≤ sizeLine := by decide
                omega
              · rw [List.length_append]
                exact Nat.add_le_add_right hal 1
            · exact ⟨sj2, acc, hacc, Nat.le_succ_of_le hal⟩
          case cend2 =>
            obtain ⟨sj2, acc, hacc, hal⟩ := hP
            have s82 := (s9.trans sF).trans sj2
            refine ⟨D2, acc, rfl, .inl (SqL.of hacc), _, rfl, _, _, rfl, rfl, _, rfl, ite2 (fun hc => ?_) (fun hc => ?_)⟩
            · refine ⟨_, rfl, _, rfl, _, rfl, rl3, _, rfl, SqL.of (s82 _ _ hr8'), fun p5 hp5 => ?_⟩
              have ec : cutV ((us ++ [t]).map V.ref) none (some (-1)) = us.map V.ref := by
                rw [cut_last, List.map_append]
                simp
              rw [ec]
              have s83 := fun o => s82.trans (Same.new (o := o) hp5)
              refine ⟨_, _, _, _, _, _, p5, us, rs, rfl, kN8.trans (Kd.same (s83 _)), ?_, zz_get upd_same ?_ ?_, huJ.same ((zz_kp k8).trans (zz_same (s83 _))), Nat.le_succ_of_le hlJ, fun r hr => hf8 r (List.mem_append_left _ hr)⟩
              · exact hB8.same (s83 _)
              · exact (hB8.same s82).nb hp5
              · intro z
                rw [z, s82 _ _ hp8] at hp5
                cases hp5
            · refine ⟨_, _, _, _, _, _, rl3, us ++ [t], rs ++ [r3], rfl, kN8.trans (Kd.same s82), ?_, zz_same s82 _ _ hr8z, hu8.same (zz_same s82), hl8, hf8⟩
              exact hB8.same s82
        case outer =>
          obtain ⟨y8, y9, y10, y11, y12, y13, rl2, us, rs, rfl, kJ, hBJ, hrJ, huJ, hlJ, hfJ⟩ := hP
          have hPJ := hPN.mono (zz_kp (p := pl) kJ)
          have hCJ := hCN.mono (zz_kp (p := pl) kJ)
          have hbJ := paired_mono (fun _ _ e => e.same (zz_kp (p := pl) kJ)) hbN
          have hpJ := kJ _ _ hpN npl
          have kHJ := kI.trans ((Kd.same sN).trans kJ)
          obtain ⟨a0, a1, a2, a3, ep, e0, e1, e2, e3⟩ := id hPJ
          have hip : i < d.p.length := by rw [fl.pl]; omega
          have hat : atI (d.p.map V.str) (0 + (i : Int)) = some (.str d.p[i]) := by
            rw [Int.zero_add]
            exact atI_nat (by rw [List.getElem?_map, List.getElem?_eq_getElem hip]; rfl)
          refine ⟨_, rfl, .inl ⟨rfl, _, SqL.of hpJ⟩, _, rfl, pp, _, _, .ref a1, rfl, rfl, SqL.of (zz_sub _ _ ep), rfl, _, rfl, a1, _, _, _, rfl, rfl, SqL.of (zz_sub _ _ e1), hat, _, rfl, (by show 2 ≤ sizeLine; decide), fun t ht => ?_⟩
          refine ⟨pl, _, _, rfl, rfl, Same.new ht _ _ hpJ, ?_, ?_⟩
          · rw [List.length_map]
            have : (1001 : Nat) ≤ sizeLine := by decide
            omega
          have nt : Nb b g t := hBJ.nb ht
          have ntp : t ≠ pl := fun z => by rw [z, hpJ] at ht; cases ht
          have sZ : Same (zz Hj b g pl) (zz (upd (upd Hj t (.tup [.str d.p[i], .ref rl2])) pl (.lst (ts.map V.ref ++ [.ref t]))) b g pl) := (zz_same (Same.new ht)).trans zz_put
          refine ⟨_, _, _, _, _, _, _, _, _, ts ++ [t], bk ++ [(d.p[i], rs)], rfl, ((kHJ.new ht).updn hPL), (hBJ.new ht).upd npl.1 npl.2, by rw [List.map_append]; exact upd_same, hPJ.mono sZ, hCJ.mono sZ, ?_, ?_⟩
          · refine paired_snoc ?_ (paired_mono (fun _ _ e => e.same sZ) hbJ)
            exact ⟨rl2, zz_put _ _ (zz_get upd_same nt ntp), us, sZ _ _ hrJ, huJ.same sZ⟩
          · have hnm : (bk ++ [(d.p[i], rs)]).map (·.1) = d.p.take (i + 1) := by
              rw [List.map_append, ok.nm, List.take_add_one, List.getElem?_eq_getElem hip]
              rfl
            have h5 : rs.length ≤ 5 := by omega
            refine ⟨by simp [hbl], hnm, ok.puts.snoc (by show rs.length ≤ 7; omega) (fine_puts hfJ), fun p hp => ?_⟩
            have hsub : ∀ x ∈ bk.map (·.1), x ∈ (bk ++ [(d.p[i], rs)]).map (·.1) := fun x hx => by rw [List.map_append]; exact List.mem_append_left _ hx
            rcases List.mem_append.mp hp with hp | hp
            · exact ⟨(ok.rows p hp).1, fun r hr => fine_more hsub ((ok.rows p hp).2 r hr)⟩
            · rw [List.mem_singleton.mp hp]
              exact ⟨h5, fun r hr => fine_more hsub (hfJ r hr)⟩
    case fin =>
      obtain ⟨x5, x6, x7, x8, x9, x10, x11, x12, x13, ts, bk, rfl, kI, hBI, hpI, hPI, hCI, hbk, ok⟩ := hP
      clear hB3 hB4 k4 hP3 hC3 hl3 k3
      have hir : (1 + r).toNat ≤ 3 := by omega
      have hbl : bk.length = (1 + r).toNat := ok.n
      have hbn : bk ≠ [] := fun z => by rw [z] at hbl; simp at hbl; omega
      have htl : ts.length = bk.length := paired_len hbk
      have hC0 : CsAt (hh Hi b g) cc cs := hCI.mono zz_hid
      have hb0 : Paired (PartAt (hh Hi b g)) ts bk := paired_mono (fun _ _ e => e.same zz_hid) hbk
      have hp0 : hh Hi b g pl = some (.lst (ts.map V.ref)) := hhn_get hpI npl
      have hfine : ∀ p ∈ bk, ∀ r ∈ p.2, rowFine d cs (bk.map (·.1)) r := fun p hp => (ok.rows p hp).2
      have okB : BookOk d cs bk := ⟨hd, c0, c3, cn, ct, hbn, by omega, by rw [hbl]; exact ok.nm, ok.puts, fun p hp r hr => .inl (hfine p hp r hr)⟩
      clear hPI hCI hbk hpI
      -- the answer without a reference
      have back : ∀ (Hx : Hp) (t : Addr), Kd b g H Hx → DealAt Hx b g → Same (hh Hi b g) (hh Hx b g) → Hx t = none → Q (.ref t) (upd Hx t (.tup [.ref cc, .ref pl])) := fun Hx t kx hBx sx ht => by
        have s2 := sx.trans (hh_same (Same.new (o := .tup [.ref cc, .ref pl]) ht))
        exact q t cc pl d cs bk _ okB (fun p hp => Nat.le_trans (ok.rows p hp).1 (by decide)) (kx.new ht) (hBx.new ht) (hhn_get upd_same (hBx.nb ht)) (hC0.mono s2) ⟨ts, s2 _ _ hp0, paired_mono (fun _ _ e => e.same s2) hb0⟩
      refine ⟨_, rfl, pl, bk, rfl, ⟨ts, hh_sub _ _ hp0, paired_mono (fun _ _ e => e.same hh_sub) hb0⟩, ok.puts, hbn, by omega, fun F HF sF hFn hFl hle => ?_⟩
      obtain ⟨fs, hF, hfs⟩ := hFl
      have hfl := paired_len hfs
      refine ⟨F, rfl, ⟨_, SqL.of hF⟩, fun D hD => lc_list (K := K) (a := F) (xs := fs.map V.ref) (fun j Hj => Same HF Hj ∧ Hj D = some (.lst ((labelsOf ((unrolled bk).take j)).map V.str))) ⟨Same.new hD, upd_same⟩ (fun j Hj _ hP => SqL.of (hP.1 _ _ hF)) (fun j x Hj hj hP => ?lturn) (fun Hj hP => ?lend)⟩
      case lturn =>
        obtain ⟨sj, hDj⟩ := hP
        rw [List.getElem?_map] at hj
        cases hxj : fs[j]? with
        | none => rw [hxj] at hj; cases hj
        | some u2 =>
        rw [hxj] at hj
        cases hj
        obtain ⟨r4, hr4, hu4⟩ := paired_at hfs hxj
        have hut := sj _ _ hu4
        have hj3 : j < fs.length := (List.getElem?_eq_some_iff.mp hxj).1
        have hsz : ((labelsOf ((unrolled bk).take j)).map V.str).length < sizeLine := by
          rw [List.length_map]
          have h1 : (labelsOf ((unrolled bk).take j)).length ≤ j := Nat.le_trans (List.length_filterMap_le _ _) (by rw [List.length_take]; omega)
          have : (4000 : Nat) ≤ sizeLine := by decide
          omega
        have hstep : labelsOf ((unrolled bk).take (j + 1)) = labelsOf ((unrolled bk).take j) ++ labelsOf [r4] := by
          unfold labelsOf
          rw [List.take_add_one, hr4, List.filterMap_append]
          rfl
        have no : labelOf r4 = none → Same HF Hj ∧ Hj D = some (.lst ((labelsOf ((unrolled bk).take (j + 1))).map V.str)) := fun e => by
          refine ⟨sj, ?_⟩
          rw [hstep]
          have : labelsOf [r4] = [] := by unfold labelsOf; simp [e]
          rw [this, List.append_nil]
          exact hDj
        by_cases hnote : ∃ c l, r4 = .note c l
        · obtain ⟨c, l, rfl⟩ := hnote
          refine ⟨rfl, _, rfl, u2, _, _, _, rfl, rfl, SqT.of hut, atI_nat (j := 0) rfl, rfl, _, rfl, iteTD (by show decide (V.str "note" = V.str "note") = true; exact decide_eq_true rfl) ?_⟩
          refine ⟨_, rfl, u2, _, _, _, rfl, rfl, SqT.of hut, atI_nat (j := 2) rfl, rfl, _, rfl, ?_⟩
          by_cases hl : l = ""
          · refine iteFD (by rw [hl]; decide +kernel) ?_
            exact no (if_pos hl)
          · refine iteTD (by rw [Bool.not_eq_true', decide_eq_false_iff_not]; exact fun z => hl (V.str.inj z)) ?_
            refine ⟨_, rfl, u2, _, _, _, rfl, rfl, SqT.of hut, atI_nat (j := 2) rfl, _, hDj, hsz, Same.updn sj hD, ?_⟩
            rw [upd_same, hstep]
            have : labelsOf [RowD.note c l] = [l] := by unfold labelsOf; simp [labelOf, hl]
            rw [this, List.map_append]
            rfl
        · refine ⟨rfl, _, rfl, u2, _, _, _, rfl, rfl, SqT.of hut, atI_nat (j := 0) (tup_head r4), rfl, _, rfl, iteFD ?_ ?_⟩
          · cases r4 with
            | note c l => exact absurd ⟨c, l, rfl⟩ hnote
            | skip _ _ => exact (by decide +kernel : decide (V.str "skip" = V.str "note") = false)
            | set _ _ => exact (by decide +kernel : decide (V.str "set" = V.str "note") = false)
            | keep _ => exact (by decide +kernel : decide (V.str "keep" = V.str "note") = false)
            | back _ => exact (by decide +kernel : decide (V.str "back" = V.str "note") = false)
            | ref _ => exact (by decide +kernel : decide (V.str "ref" = V.str "note") = false)
            | put _ => exact (by decide +kernel : decide (V.str "put" = V.str "note") = false)
            | opn _ => exact (by decide +kernel : decide (V.str "open" = V.str "note") = false)
          · refine no ?_
            cases r4 with
            | note c l => exact absurd ⟨c, l, rfl⟩ hnote
            | _ => rfl
      case lend =>
        obtain ⟨sG, hDG⟩ := hP
        rw [List.length_map, hfl, List.take_length] at hDG
        have sG0 := sF.trans sG
        have hlab := labels_fine fl hfine
        have hln : (labelsOf (unrolled bk)).length ≤ 2401 := Nat.le_trans (List.length_filterMap_le _ _) hle
        generalize hls : labelsOf (unrolled bk) = ls at hDG hlab hln
        have nDb : Nb b g D := (hBI.same sF).nb hD
        refine ⟨_, rfl, Nat.zero_le _, fun e he => ?_⟩
        have s1 := sG0.trans (Same.new (o := .lst []) he)
        have hDe := Same.new (o := .lst []) he _ _ hDG
        have hee : upd Hj e (.lst []) e = some (.lst []) := upd_same
        generalize upd Hj e (.lst []) = He at s1 hDe hee ⊢
        have hBe : DealAt He b g := hBI.same s1
        have ke := kI.trans (Kd.same s1)
        refine ⟨.list (ls.map PyData.str), .list [], .lst (SqL.of hDe) (dp_strL ls), .lst (SqL.of hee) .nil, strL_sh (fun x hx => (name_ok (hlab x hx)).1), by decide +kernel, _, rfl, ?_⟩
        rw [strsL_nil]
        by_cases hl0 : ls = []
        · rw [hl0]
          refine iteF ?_
          exact ⟨_, rfl, _, rfl, (by show 2 ≤ sizeLine; decide), fun t ht => back _ t ke hBe (hh_same s1) ht⟩
        · refine iteTD (by cases ls with | nil => exact absurd rfl hl0 | cons _ _ => rfl) ?_
          refine ⟨_, rfl, b, g, 2, rfl, hBe, by decide, by decide, fun c H6 c0' c1' hB6 k6 _ => ⟨rfl, _, rfl, ite2 (fun hc => ?yes) (fun hc => ?no)⟩⟩
          case no => exact ⟨_, rfl, _, rfl, (by show 2 ≤ sizeLine; decide), fun t ht => back _ t (ke.trans k6) hB6 ((hh_same s1).trans (Kd.hh k6)) ht⟩
          case yes =>
            obtain ⟨bi, p, rfl⟩ : ∃ bi p, bk = bi ++ [p] := ⟨_, _, (List.dropLast_concat_getLast hbn).symm⟩
            obtain ⟨tsi, tl, rfl⟩ : ∃ tsi t, ts = tsi ++ [t] := ⟨_, _, (List.dropLast_concat_getLast (by intro z; rw [z] at htl; simp at htl)).symm⟩
            have hli : tsi.length = bi.length := by simpa using htl
            obtain ⟨p2, hpp2, ra, htt, us, hra, hus⟩ := paired_at hb0 (show (tsi ++ [tl])[tsi.length]? = some tl by simp)
            have hpp : p = p2 := by
              rw [hli] at hpp2
              simpa using hpp2
            subst hpp
            have hul : us.length = p.2.length := paired_len hus
            have hp5 : p.2.length ≤ 5 := (ok.rows p (by simp)).1
            have hlast : atI ((tsi ++ [tl]).map V.ref) (-1) = some (.ref tl) := by rw [List.map_append]; exact atI_last _ _
            have hbig : (4000 : Nat) ≤ sizeLine := by decide
            have S6 := (hh_same s1).trans (Kd.hh k6)
            have g6 : ∀ {a o}, hh Hi b g a = some o → H6 a = some o := fun h => hh_sub _ _ (S6 _ _ h)
            have hD6 := k6 _ _ hDe nDb
            refine ⟨_, rfl, _, rfl, _, rfl, pl, _, _, .ref tl, rfl, rfl, SqL.of (g6 hp0), hlast, tl, _, _, .ref ra, rfl, rfl, SqT.of (g6 htt), rfl, ra, _, rfl, .inl (SqL.of (g6 hra)), _, _, rfl, rfl, b, g, _, rfl, hB6, by omega, by rw [List.length_map]; omega, fun sp H7 sp0 sp1 hB7 k7 _ => ?_⟩
            obtain ⟨k, rfl⟩ : ∃ k : Nat, sp = (k : Int) := ⟨sp.toNat, by omega⟩
            have hk : k ≤ us.length := by rw [List.length_map] at sp1; omega
            have S7 := S6.trans (Kd.hh k7)
            have g7 : ∀ {a o}, hh Hi b g a = some o → H7 a = some o := fun h => hh_sub _ _ (S7 _ _ h)
            have hD7 := k7 _ _ hD6 nDb
            refine ⟨_, rfl, _, rfl, pl, _, _, .ref tl, rfl, rfl, SqL.of (g7 hp0), hlast, tl, _, _, .ref ra, rfl, rfl, SqT.of (g7 htt), rfl, _, rfl, _, rfl, ra, _, rfl, SqL.of (g7 hra), fun p1 hp1 => ?_⟩
            have hlp : 0 < ls.length := List.length_pos_iff.mpr hl0
            refine ⟨_, rfl, _, rfl, b, g, D, _, rfl, hB7.new hp1, SqL.of (Same.new hp1 _ _ hD7), nDb, by rw [List.length_map]; exact hlp, by rw [List.length_map]; omega, fun v H8 hv hB8 k8 _ => ?_⟩
            obtain ⟨l, hlm, rfl⟩ := List.mem_map.mp hv
            have S8 := (S7.trans (hh_same (Same.new (o := .lst (cutV (us.map V.ref) none (some (k : Int)))) hp1))).trans (Kd.hh k8)
            have K8 := (((ke.trans k6).trans k7).new hp1).trans k8
            have n1 : Nb b g p1 := hB7.nb hp1
            have f1 := k8 p1 _ upd_same n1
            rw [cut_to _ (by rw [List.length_map]; exact hk)] at f1
            refine ⟨(by show 2 ≤ sizeLine; decide), fun t5 ht5 => ⟨(by show 1 ≤ sizeLine; decide), fun L5 hL5 => ⟨p1, L5, _, [.ref t5], rfl, rfl, Same.new hL5 _ _ (Same.new ht5 _ _ f1), upd_same, ?_, fun c1 hc1 => ?_⟩⟩⟩
            · rw [List.length_take, List.length_map]
              show min k us.length + 1 ≤ sizeLine
              omega
            have s9 : Same H8 (upd (upd (upd H8 t5 (.tup [.str "ref", .str l])) L5 (.lst [.ref t5])) c1 (.lst ((us.map V.ref).take k ++ [.ref t5]))) := ((Same.new ht5).trans (Same.new hL5)).trans (Same.new hc1)
            have ft9 := Same.new (o := .lst ((us.map V.ref).take k ++ [.ref t5])) hc1 _ _ (Same.new (o := .lst [.ref t5]) hL5 _ _ (upd_same (H := H8) (a := t5) (o := .tup [.str "ref", .str l])))
            have fc9 : upd (upd (upd H8 t5 (.tup [.str "ref", .str l])) L5 (.lst [.ref t5])) c1 (.lst ((us.map V.ref).take k ++ [.ref t5])) c1 = some (.lst ((us.map V.ref).take k ++ [.ref t5])) := upd_same
            have n5 : Nb b g t5 := hB8.nb ht5
            generalize upd (upd (upd H8 t5 (.tup [.str "ref", .str l])) L5 (.lst [.ref t5])) c1 (.lst ((us.map V.ref).take k ++ [.ref t5])) = H9 at s9 ft9 fc9 ⊢
            have S9 := S8.trans (hh_same s9)
            have g9 : ∀ {a o}, hh Hi b g a = some o → H9 a = some o := fun h => hh_sub _ _ (S9 _ _ h)
            have K9 := K8.trans (Kd.same s9)
            refine ⟨_, rfl, _, rfl, pl, _, _, .ref tl, rfl, rfl, SqL.of (g9 hp0), hlast, tl, _, _, .ref ra, rfl, rfl, SqT.of (g9 htt), rfl, _, rfl, _, rfl, ra, _, rfl, SqL.of (g9 hra), fun p2 hp2 => ?_⟩
            rw [cut_from _ (by rw [List.length_map]; exact hk)]
            refine ⟨c1, p2, _, _, rfl, rfl, Same.new hp2 _ _ fc9, upd_same, ?_, fun rl hrl => ?_⟩
            · rw [List.length_append, List.length_take, List.length_drop, List.length_map]
              show min k us.length + 1 + (us.length - k) ≤ sizeLine
              omega
            have s10 : Same H9 (upd (upd H9 p2 (.lst ((us.map V.ref).drop k))) rl (.lst (((us.map V.ref).take k ++ [.ref t5]) ++ (us.map V.ref).drop k))) := (Same.new hp2).trans (Same.new hrl)
            have frl : upd (upd H9 p2 (.lst ((us.map V.ref).drop k))) rl (.lst (((us.map V.ref).take k ++ [.ref t5]) ++ (us.map V.ref).drop k)) rl = some (.lst (((us.map V.ref).take k ++ [.ref t5]) ++ (us.map V.ref).drop k)) := upd_same
            have hB9 : DealAt H9 b g := hB8.same s9
            have nrl : Nb b g rl := (hB9.new hp2).nb hrl
            have hB10 : DealAt (upd (upd H9 p2 (.lst ((us.map V.ref).drop k))) rl (.lst (((us.map V.ref).take k ++ [.ref t5]) ++ (us.map V.ref).drop k))) b g := (hB9.new hp2).new hrl
            generalize upd (upd H9 p2 (.lst ((us.map V.ref).drop k))) rl (.lst (((us.map V.ref).take k ++ [.ref t5]) ++ (us.map V.ref).drop k)) = H10 at s10 frl hB10 ⊢
            have S10 := S9.trans (hh_same s10)
            have g10 : ∀ {a o}, hh Hi b g a = some o → H10 a = some o := fun h => hh_sub _ _ (S10 _ _ h)
            have K10 := K9.trans (Kd.same s10)
            refine ⟨_, rfl, _, rfl, _, rfl, pl, _, rfl, SqL.of (g10 hp0), fun p3 hp3 => ?_⟩
            have e3 : cutV ((tsi ++ [tl]).map V.ref) none (some (-1)) = tsi.map V.ref := by
              rw [cut_last, List.map_append]
              simp
            rw [e3]
            have s10a := Same.new (o := .lst (tsi.map V.ref)) hp3
            refine ⟨_, rfl, _, rfl, pl, _, _, .ref tl, rfl, rfl, SqL.of (s10a _ _ (g10 hp0)), hlast, tl, _, _, .str p.1, rfl, rfl, SqT.of (s10a _ _ (g10 htt)), rfl, _, rfl, (by show 2 ≤ sizeLine; decide), fun t6 ht6 => ⟨(by show 1 ≤ sizeLine; decide), fun L6 hL6 => ⟨p3, L6, _, [.ref t6], rfl, rfl, Same.new hL6 _ _ (Same.new ht6 _ _ upd_same), upd_same, ?_, fun P6 hP6 => ?_⟩⟩⟩
            · rw [List.length_map]
              show tsi.length + 1 ≤ sizeLine
              have : (tsi ++ [tl]).length ≤ 3 := by omega
              simp at this
              omega
            have s11 : Same H10 (upd (upd (upd (upd H10 p3 (.lst (tsi.map V.ref))) t6 (.tup [.str p.1, .ref rl])) L6 (.lst [.ref t6])) P6 (.lst (tsi.map V.ref ++ [.ref t6]))) := ((s10a.trans (Same.new ht6)).trans (Same.new hL6)).trans (Same.new hP6)
            have ft6 := Same.new (o := .lst (tsi.map V.ref ++ [.ref t6])) hP6 _ _ (Same.new (o := .lst [.ref t6]) hL6 _ _ (upd_same (H := upd H10 p3 (.lst (tsi.map V.ref))) (a := t6) (o := .tup [.str p.1, .ref rl])))
            have fP6 : upd (upd (upd (upd H10 p3 (.lst (tsi.map V.ref))) t6 (.tup [.str p.1, .ref rl])) L6 (.lst [.ref t6])) P6 (.lst (tsi.map V.ref ++ [.ref t6])) P6 = some (.lst (tsi.map V.ref ++ [.ref t6])) := upd_same
            have n6 : Nb b g t6 := (hB10.new hp3).nb ht6
            have nP6 : Nb b g P6 := (((hB10.new hp3).new ht6).new hL6).nb hP6
            have hB11 : DealAt (upd (upd (upd (upd H10 p3 (.lst (tsi.map V.ref))) t6 (.tup [.str p.1, .ref rl])) L6 (.lst [.ref t6])) P6 (.lst (tsi.map V.ref ++ [.ref t6]))) b g := (((hB10.new hp3).new ht6).new hL6).new hP6
            generalize upd (upd (upd (upd H10 p3 (.lst (tsi.map V.ref))) t6 (.tup [.str p.1, .ref rl])) L6 (.lst [.ref t6])) P6 (.lst (tsi.map V.ref ++ [.ref t6])) = H11 at s11 ft6 fP6 hB11 ⊢
            refine ⟨_, rfl, _, rfl, (by show 2 ≤ sizeLine; decide), fun t ht => ?_⟩
            have S12 := (S10.trans (hh_same s11)).trans (hh_same (Same.new (o := .tup [.ref cc, .ref P6]) ht))
            have s12 := s11.trans (Same.new (o := .tup [.ref cc, .ref P6]) ht)
            have okR := with_ref (k := k) fl ok (by omega) hd c0 c3 cn ct (l := l) (by rw [hls]; exact hlm)
            refine q t cc P6 d cs (bi ++ [withRef p k l]) _ okR.1 okR.2 ((K10.trans (Kd.same s11)).new ht) (hB11.new ht) (hhn_get upd_same (hB11.nb ht)) (hC0.mono S12) ⟨tsi ++ [t6], hhn_get (by rw [List.map_append]; exact Same.new ht _ _ fP6) nP6, ?_⟩
            have hbi : Paired (PartAt (hh (upd H11 t (.tup [.ref cc, .ref P6])) b g)) tsi bi := by
              have := paired_mono (fun _ _ e => e.same S12) hb0
              exact paired_init hli this
            refine paired_snoc ⟨rl, hhn_get (Same.new ht _ _ ft6) n6, us.take k ++ [t5] ++ us.drop k, hhn_get ?_ nrl, ?_⟩ hbi
            · rw [s12 _ _ frl, List.map_append, List.map_append, List.map_take, List.map_drop]
              rfl
            · have hus2 := hus.same S12
              have t5s : hh (upd H11 t (.tup [.ref cc, .ref P6])) b g t5 = some (.tup (rowTup (.ref l))) := hhn_get (s12 _ _ (s10 _ _ ft9)) n5
              exact paired_app (paired_app (paired_take k hus2) (.cons t5s .nil)) (paired_drop k hus2)
end
end Pn

namespace Pn
open PySem PySem.Spec PyProof.Rows L2
/-! ### enumerate(tuple) -/
section
open AutoSeq1 (wpAny_loadPart')
set_option maxHeartbeats 2000000 in
theorem enum_newT (t : Addr) (its : Array Value) (n : Nat) (dct : Option Addr) (sl : Array (Option Value)) :
    Meets (Builtin.«enumerate.__new__» ⟨[.type "enumerate", .ref t], []⟩) (fun _ R s => s.heap.get? t = some { cls := .type "tuple", dict := dct, data := .seq its n, slots := sl } ∧
      R (.ok (.ret (.ref (s.heap.push { cls := .type "tuple_iterator", data := .fields #[.ref t, .int 0 0] }).objs.size)))
        { s with heap := (s.heap.push { cls := .type "tuple_iterator", data := .fields #[.ref t, .int 0 0] }).push { cls := .type "enumerate", data := .fields #[.none, .bool false, .ref s.heap.objs.size, rawInt 0, .none, .none] } }) :=
  .of_wp fun prog w A R s h => by
    obtain ⟨hp, g, d, tk, os⟩ := s
    obtain ⟨ht, h⟩ := h
    have e1 := sub_enumerate
    have hL : Heap.IsTuple (Shared.heap ⟨hp, g, d, tk, os⟩) t its := ⟨_, ht, rfl, n, rfl⟩
    wp_walk using wpAny_loadPart' ht
    refine wpAny_stack_any fun st => wpAny_pure ?_
    split
    · rename_i c _ _ _ _ _
      cases (c == Value.type "enumerate") <;> (wp_walk using wpAny_loadPart' ht, wpAny_pyIter_tuple hL; exact ⟨_, rfl, h⟩)
    · wp_walk using wpAny_loadPart' ht, wpAny_pyIter_tuple hL
      exact ⟨_, rfl, h⟩
end
section
variable {prog : Program} {w : World} {A : Around} {E : Value → Shared → Prop} {s : Shared}
theorem enum_callT {t : Addr} {its : Array Value} {Q : Value → Shared → Prop} (hL : s.heap.IsTuple t its)
    (h : ∀ h', IsEnum h' (s.heap.objs.size + 1) s.heap.objs.size 0 .none → h'.IsTupleIter s.heap.objs.size t 0 → h'.objs.size = s.heap.objs.size + 2 →
      (∀ b o, s.heap.get? b = some o → h'.get? b = some o) → Q (.ref (s.heap.objs.size + 1)) { s with heap := h' }) :
    wpAny (model prog w) A (call (.type "enumerate") [.ref t]) Q E s := by
  obtain ⟨⟨c, dct, dt, sl⟩, hl, hc, n, hd⟩ := hL
  simp only at hc hd
  subst hc hd
  refine callType_new F.called_enumerate (by decide) (F.typeCall_enumerate_1 _) (F.newCall_enumerate_1 _) (fun z => F.args_object_init_2 z _) F.entry_enumerate_new (enum_newT t its n dct sl) ⟨hl, ?_⟩
  have hz : (s.heap.push { cls := .type "tuple_iterator", data := .fields #[.ref t, .int 0 0] }).objs.size = s.heap.objs.size + 1 := Heap.size_push ..
  show _ ∧ _
  rw [hz]
  have he : IsEnum ((s.heap.push { cls := .type "tuple_iterator", data := .fields #[.ref t, .int 0 0] }).push { cls := .type "enumerate", data := .fields #[.none, .bool false, .ref s.heap.objs.size, rawInt 0, .none, .none] })
      (s.heap.objs.size + 1) s.heap.objs.size 0 .none := by
    have q := Heap.get?_push_size (s.heap.push { cls := .type "tuple_iterator", data := .fields #[.ref t, .int 0 0] }) (o := { cls := .type "enumerate", data := .fields #[.none, .bool false, .ref s.heap.objs.size, rawInt 0, .none, .none] }) rfl
    rw [hz] at q
    exact q
  exact ⟨⟨_, he, rfl⟩, h _ he ⟨_, Heap.get?_push_of_some _ (Heap.get?_push_size _ rfl), rfl, rfl⟩ (by rw [Heap.size_push, hz]) fun b o x => Heap.get?_push_of_some _ (Heap.get?_push_of_some _ x)⟩
end
section
variable {prog : Program} {w : World} {A : Around} {E : Value → Shared → Prop} {s : Shared}
theorem enum_outT {e it t : Addr} {its : Array Value} {i : Nat} {old : Value} {Q : Option Value → Shared → Prop} (hh : A.handled = none) (he : IsEnum s.heap e it ((i : Nat) : Int) old) (hit : s.heap.IsTupleIter it t i) (hp : s.heap.IsTuple t its) (hi : its.size ≤ i)
    (hQ : ∀ h', Heap.ExtBut it s.heap h' → Q none { s with heap := h' }) : wpAny (model prog w) A (pyNext (.ref e)) Q E s := by
  have D : Draws prog w A.in1 it [it, t] i (fun _ _ => False) (fun j h => j = i ∧ h.IsTupleIter it t i ∧ h.IsTuple t its) := {
    live := fun _ _ st => by obtain ⟨_, ⟨o, ho, _⟩, _⟩ := st; exact ⟨o, ho⟩
    frame := fun _ _ _ st hk => ⟨st.1, st.2.1.at fun o e => hk it (by simp) o e, st.2.2.at fun o e => hk t (by simp) o e⟩
    item := fun j s Q E hj st _ => absurd st.1 (Nat.ne_of_lt hj)
    done := fun s Q E st hE => wpAny_nextOf_tuple_end hh st.2.1 st.2.2 (by simp [hi]) hE }
  exact wpAny_pyNext_enum_endD D he ⟨rfl, hit, hp⟩ hQ
end
/-- the things of the tuple at t with their numbers, each in a new pair -/
def IteT (K : PySem.W.Frag) (t : Addr) : It :=
  ⟨fun i H => ∃ (xs : List V) (x : V), SqT K H t xs ∧ xs[i]? = some x, fun i H v H' => ∃ T x, v = .ref T ∧ H T = none ∧ H' = upd H T (.tup [.int (i : Nat), x]) ∧ ∀ xs, SqT K H t xs → xs[i]? = some x, fun i H => ∃ xs : List V, SqT K H t xs ∧ xs.length ≤ i⟩
theorem tup_apart {h : Heap} {t e it : Addr} {its : Array Value} {i : Nat} {c : Int} {old : Value} (p : h.IsTuple t its) (he : IsEnum h e it c old) (hit : h.IsTupleIter it t i) : t ≠ it ∧ t ≠ e := by
  obtain ⟨o, ho, hc, _⟩ := p
  constructor
  · intro z
    subst z
    obtain ⟨o2, ho2, hc2, _⟩ := hit
    rw [ho] at ho2
    cases Option.some.inj ho2
    rw [hc] at hc2
    exact absurd hc2 (by decide)
  · intro z
    subst z
    have q : h.get? t = some _ := he
    rw [ho] at q
    have e2 := Option.some.inj q
    rw [e2] at hc
    have e3 : Value.type "enumerate" = Value.type "tuple" := hc
    exact absurd e3 (by decide)
theorem turn_enumT {P : Program} {w : World} {K : PySem.W.Frag} {elts : List Expr} {kk : Nat} {tpos : Pos} (t e it : Addr) :
    Turn P w K (.Tuple elts kk tpos) (IteT K t) [e, it] e (fun i h => (∃ old, IsEnum h e it ((i : Nat) : Int) old) ∧ h.IsTupleIter it t i ∧ e ≠ it) where
  mem := by simp
  obj := fun i h st b hb => by
    obtain ⟨⟨old, he⟩, ⟨o, ho, hc, hd⟩, _⟩ := st
    have e' : b = e ∨ b = it := by simpa using hb
    rcases e' with z | z
    · rw [z]; exact ⟨_, he, fun v q => nomatch q⟩
    · rw [z]; exact ⟨o, ho, fun v q => by rw [hd] at q; cases q⟩
  keep := fun i h h' st k => by
    obtain ⟨⟨old, he⟩, hi, hne⟩ := st
    exact ⟨⟨old, k e (by simp) _ he⟩, hi.at fun o q => k it (by simp) o q, hne⟩
  item := by
    intro X hP hw hK hc i pins s σ H E I hf st hg
    subst hP hw hK
    obtain ⟨⟨old, he⟩, hit, hne⟩ := st
    obtain ⟨xs, x, hq, hx⟩ := hg
    obtain ⟨its, rv, p, hz⟩ := I.tuple hq
    obtain ⟨u, hu, ru⟩ := rv.get hx
    obtain ⟨n1, n2⟩ := tup_apart p he hit
    have hel : e < s.heap.objs.size := Heap.lt_size he
    have hil : it < s.heap.objs.size := by
      obtain ⟨_, q, _⟩ := hit
      exact Heap.lt_size q
    have hn : i < its.toArray.size := by
      rw [List.size_toArray]
      exact (List.getElem?_eq_some_iff.mp hu).1
    refine wpAny_pyNext_enum_itemD (Draws.tuple (prog := X.prog) (w := X.w) (A := X.A.in1) (I.ok.hd hc) it t n1 its.toArray) he ⟨hit, p⟩ hn hne (by simp [hne, Ne.symm n2]) fun y h' tk hy ho hs hT hsz hk => ?_
    have ey : y = u := by
      rw [List.getElem?_toArray, hu] at hy
      exact (Option.some.inj hy).symm
    subst ey
    refine ⟨_, rfl, wpAny_letOwnedTupleGo_enum (s := { s with heap := h', toks := tk + 1 }) ho fun h'' he' sb => ?_⟩
    have hT2 : h''.get? s.heap.objs.size = some { cls := .type "tuple", data := .seq #[.int i tk, y] } := (sb.2 _ (Nat.ne_of_gt hel)).trans hT
    have new : ObjOk X.prog X.w (upd H s.heap.objs.size (.tup [.int (i : Nat), x])) h'' s.heap.objs.size (.tup [.int (i : Nat), x]) :=
      ⟨by show 2 ≤ sizeLine; decide, [.int i tk, y], .cons ⟨_, rfl⟩ (.cons ru .nil), ⟨_, hT2, rfl, _, rfl⟩⟩
    have I1 : Inv X pins σ (upd H s.heap.objs.size (.tup [.int (i : Nat), x])) { s with heap := h'', toks := tk + 1 } :=
      I.turnedNew (ch := [e, it]) (fun b ob hb q => by
        have b1 : b ≠ e := fun z => hb (by simp [z])
        have b2 : b ≠ it := fun z => hb (by simp [z])
        exact (sb.2 b b1).trans (hk b ob b1 b2 q)) hf (Nat.le_refl _) new
    refine ⟨.ref s.heap.objs.size, _, I1, rfl, ⟨_, x, rfl, I.hok.fresh (Nat.le_refl _), rfl, fun ys hy2 => by rw [I.tuple_inj hy2 hq]; exact hx⟩, ⟨⟨y, ?_⟩, hs.1.at fun o q => (sb.2 it (Ne.symm hne)).trans q, hne⟩, fun b hb => ?_⟩
    · rw [show ((i + 1 : Nat) : Int) = (i : Int) + 1 by omega]
      exact he'
    · have hb' : b < s.heap.objs.size := by
        have e2 : b = e ∨ b = it := by simpa using hb
        rcases e2 with rfl | rfl
        · exact hel
        · exact hil
      rw [upd_ne (Nat.ne_of_lt hb')]
      exact (hf b hb).1
  done := by
    intro X hP hw hK hc i pins s σ H E I hf st hg
    subst hP hw hK
    obtain ⟨⟨old, he⟩, hit, hne⟩ := st
    obtain ⟨xs, hq, hx⟩ := hg
    obtain ⟨its, rv, p, hz⟩ := I.tuple hq
    obtain ⟨n1, n2⟩ := tup_apart p he hit
    obtain ⟨f0, f1, f2, f3, f4, f5⟩ := hf it (by simp)
    have D := Draws.tuple (prog := X.prog) (w := X.w) (A := X.A.in1) (I.ok.hd hc) it t n1 its.toArray
    exact enum_outT (A := X.A) (I.ok.hd hc) he hit p (by rw [List.size_toArray, ← rv.length]; exact hx) fun h' eb => ⟨rfl, I.turned (t' := s.toks) (fun b o hb q => eb b o hb q) f0 f1 f3 f4 f5⟩
  self := fun A i s Q E st h => by
    obtain ⟨⟨_, he⟩, _⟩ := st
    exact wpAny_pyIter_enum he h
def iEnumT (K : PySem.W.Frag) (ta : TA) : TI := fun σ H R => ta σ H fun vs H1 => ∃ t xs, vs = [.ref t] ∧ SqT K H1 t xs ∧ R (IteT K t) H1
theorem pi_enumT {X : Cx} {e : Expr} {ta : TA} {p pos tpos : Pos} {elts : List Expr} {kk : Nat} (hg : Gl X "enumerate") (hm : X.mg "enumerate" = none) (ha : PA X [e] ta) (hs : starEach [e] X.env = [(false, eval e X.env)] := by rfl) :
    PI X (.Tuple elts kk tpos) (.Call (.Name "enumerate" p) [e] [] pos) (iEnumT X.K ta) := by
  refine ⟨fun pins s σ H R I h => ?_⟩
  refine Call_ (ld_blt I hg hm boot_enumerate (PyProof.Rows.callWith_type1 (thn (ha.run pos pins s σ H _ I h) fun us s1 hu => ?_) hs rfl))
  obtain ⟨vs, H1, I1, r1, t, xs, rfl, hq, q⟩ := hu
  cases r1 with
  | cons r rr =>
    cases rr
    cases r
    obtain ⟨its, rv, p', hz⟩ := I1.tuple hq
    refine enum_callT p' fun h' he hit hsz hk => wpAny_pyIter_enum he ?_
    have I2 : Inv X pins σ H1 { s1 with heap := h' } := I1.kept (t' := s1.toks) hk
    refine ⟨s1.heap.objs.size + 1, [s1.heap.objs.size + 1, s1.heap.objs.size], _, _, H1, rfl, I2, turn_enumT t (s1.heap.objs.size + 1) s1.heap.objs.size, ⟨⟨.none, he⟩, hit, Nat.succ_ne_self _⟩, fun b hb => ?_, q⟩
    have hle : s1.heap.objs.size ≤ b := by
      have e2 : b = s1.heap.objs.size + 1 ∨ b = s1.heap.objs.size := by simpa using hb
      rcases e2 with rfl | rfl
      · exact Nat.le_succ _
      · exact Nat.le_refl _
    exact I1.fpOk hle (I1.hok.fresh hle)
theorem walk_enumT {K : PySem.W.Frag} {t : Addr} {xs : List V} : Walk (IteT K t) xs.length (fun H => SqT K H t xs) (YPair (fun i => some (.int (i : Nat))) (fun i => xs[i]?)) :=
  ⟨fun i _ hi q => ⟨xs, xs[i], q, by simp [hi]⟩, fun _ q => ⟨xs, q, Nat.le_refl _⟩, fun i H v H' _ q y => by
    obtain ⟨T, x, h1, h2, h3, h4⟩ := y
    exact ⟨T, .int (i : Nat), x, h1, h2, h3, rfl, h4 xs q⟩⟩
end Pn

namespace SrtO
open PySem PyProof.Rows Srt
/-! ### sorted of texts, any number of them (some arrangement) -/
section
variable {prog : Program} {w : World} {A : Around} {E : Value → Shared → Prop} {s : Shared}
def sv : Value → PySem.Str
  | .str x _ => x
  | _ => PySem.Str.empty
def ltSv (v u : Value) : Bool := decide ((sv v).cps.toList < (sv u).cps.toList)
theorem swo_str : Swo ltSv := by
  refine ⟨fun x y h => ?_, fun x y z h1 h2 => ?_⟩
  · have a := of_decide_eq_true (p := (sv x).cps.toList < (sv y).cps.toList) h
    exact decide_eq_false (p := (sv y).cps.toList < (sv x).cps.toList) (List.lt_asymm a)
  · have a := of_decide_eq_false (p := (sv y).cps.toList < (sv x).cps.toList) h1
    have b := of_decide_eq_false (p := (sv z).cps.toList < (sv y).cps.toList) h2
    exact decide_eq_false (p := (sv z).cps.toList < (sv x).cps.toList) (List.not_lt.mpr (List.le_trans (List.not_lt.mp a) (List.not_lt.mp b)))
theorem strs_mem : ∀ {vs : List Value} {ns : List PySem.Str}, StrsAre vs ns → ∀ v ∈ vs, ∃ i t, v = Value.str i t
  | _, _, .nil, v, h => absurd h (by simp)
  | _, _, .cons n t r, v, h => by
    rcases List.mem_cons.mp h with e | h
    · exact ⟨n, t, e⟩
    · exact strs_mem r v h
theorem strs_sv : ∀ {vs : List Value}, (∀ v ∈ vs, ∃ i t, v = Value.str i t) → StrsAre vs (vs.map sv)
  | [], _ => .nil
  | v :: vs, h => by
    obtain ⟨i, t, e⟩ := h v List.mem_cons_self
    subst e
    exact .cons i t (strs_sv fun u hu => h u (List.mem_cons_of_mem _ hu))
theorem sv_strs : ∀ {vs : List Value} {ns : List PySem.Str}, StrsAre vs ns → vs.map sv = ns
  | _, _, .nil => rfl
  | _, _, .cons n t r => congrArg (n :: ·) (sv_strs r)
theorem str_cmp {vs : List Value} {ns : List PySem.Str} (hI : StrsAre vs ns) : Cmp prog w A s oneType' (fun p => p.1 ∈ vs) (lt2 ltSv) := by
  intro p q hm hm'
  obtain ⟨a, t, e⟩ := strs_mem hI _ hm
  obtain ⟨b, u, e'⟩ := strs_mem hI _ hm'
  show wpAny (model prog w) A (keyLt' oneType' p.1 q.1) (fun r s' => s' = s ∧ r = ltSv p.1 q.1) (fun _ _ => False) s
  rw [e, e', keyLt'_oneType]
  exact oneLt_str ⟨rfl, rfl⟩
theorem strs_sortable {a : Addr} {vs : List Value} {ns : List PySem.Str} (hI : StrsAre vs ns) (h2 : 2 ≤ vs.length) : SortableO prog w A s a vs ltSv := by
  intro h' _
  refine ⟨oneType', fun Q E hq => ?_, str_cmp hI⟩
  match vs, hI, h2 with
  | v1 :: v2 :: rest, hI, _ =>
    rw [keyKind_strs hI]
    exact wpAny_pure hq
  | [], _, h => exact absurd h (by decide)
  | [v], _, h => exact absurd h (by simp)
end
end SrtO
namespace Pn
open PySem PySem.Spec PyProof.Rows L2 TL
/-- sorted(xs), texts, any number of them: a new list, the same texts -/
def rSortedSL (K : PySem.W.Frag) : List V → Hp → VK → Prop := fun vs H Q => ∃ (a : Addr) (xs : List Str), vs = [V.ref a] ∧ SqL K H a (xs.map V.str) ∧
  ∀ (ys : List Str) (p : Addr), ys.Perm xs → ys.Pairwise (fun x y => ¬ y.cps.toList < x.cps.toList) → H p = none → Q (.ref p) (upd H p (.lst (ys.map V.str)))
theorem cr_sortedSL {X : Cx} : CallR X (.builtin "sorted") (rSortedSL X.K) := by
  intro pins s σ H vs us Q I r h
  obtain ⟨a, xs, rfl, hs, q⟩ := h
  obtain ⟨its, rv, hl, hz⟩ := I.list hs
  rw [Vals.ref1 r]
  have hi := rv.strs
  refine SrtO.sorted_ord SrtO.swo_str hl.isList (by rw [← rv.length]; exact hz) (fun h2 h₁ a' _ _ => SrtO.strs_sortable hi h2) fun out h1 h2 => ?_
  have k1 := SrtO.strs_sv fun v hv => SrtO.strs_mem hi v (h2.perm.mem_iff.mp hv)
  have k2 : (out.map SrtO.sv).Perm xs := by
    have q := h2.perm.map SrtO.sv
    rw [SrtO.sv_strs hi] at q
    exact q
  have k3 : (out.map SrtO.sv).Pairwise (fun x y => ¬ y.cps.toList < x.cps.toList) := List.pairwise_map.mpr (h1.imp fun {x y} h => of_decide_eq_false (p := (SrtO.sv y).cps.toList < (SrtO.sv x).cps.toList) h)
  obtain ⟨ep, he'⟩ := PyProof.Rows.sortedAll_at s.heap its out.toArray
  have hlen : ((out.map SrtO.sv).map V.str).length ≤ sizeLine := by
    rw [List.length_map, k2.length_eq]
    rw [List.length_map] at hz
    exact hz
  exact ⟨.ref _, upd H (s.heap.objs.size + 1) (.lst ((out.map SrtO.sv).map V.str)), I.laid (t' := s.toks) (fun _ _ => PyProof.Rows.sortedAll_old) (Nat.le_succ _) ⟨hlen, out, ep, vals_of_strs k1, he'⟩, rfl, q _ _ k2 k3 (I.hok.fresh (Nat.le_succ _))⟩
end Pn

namespace Pn
open PySem L2 SeqAt
open MeetsSeq MeetsSeq2 MeetsSeq3 SeqRoads2
open AutoSeq1 (wpAny_loadPart')
/-! ### == and != of tuples whose things are compared by an own == -/
section
variable {prog : Program} {w : World} {A : Around} {R : Result → Shared → Prop}
end
section
variable {prog : Program} {w : World} {A : Around} {E : Value → Shared → Prop}
end
/-! ### .. as rules -/
section
variable {X : Cx} {pins : List (Addr × Obj)} {σ : St} {H : Hp} {s : Shared}
end
end Pn

namespace Pn
open PySem L2 SeqAt
open MeetsSeq MeetsSeq2 MeetsSeq3 SeqRoads2
open AutoSeq1 (wpAny_loadPart')
/-! ### != of two lists whose things are told to be equal by their own == -/
section
variable {prog : Program} {w : World} {A : Around} {R : Result → Shared → Prop}
end
section
variable {prog : Program} {w : World} {A : Around} {E : Value → Shared → Prop}
end
end Pn

namespace Pn
open PySem L2 SeqAt
open MeetsSeq MeetsSeq2 MeetsSeq3 SeqRoads2
open AutoSeq1 (wpAny_loadPart')
/-! ### a list != [] -/
section
variable {prog : Program} {w : World} {A : Around} {R : Result → Shared → Prop}
end
section
variable {prog : Program} {w : World} {A : Around} {E : Value → Shared → Prop}
end
end Pn

namespace Pn
open PySem L2
/-! ### comprehensions that keep what stands: what each turn puts out -/
section
variable {K : PySem.W.Frag} {tl : TE} {g : TG} {tt : TT} {te : TE} {vs : List Nat} {σ : L2.St} {H : Hp} {Q : VK} {p : Addr} {xs : List V}
/-- one turn of a comprehension that puts out what out says -/
def LcTurn (xs : List V) (H : Hp) (g : TG) (tt : TT) (te : TE) (vs : List Nat) (σ : L2.St) (out : Nat → Option V) : Prop :=
  ∀ (i : Nat) (x : V) (Hi : Hp) (S : Hp → Prop) (Y : VK), xs[i]? = some x → Same H Hi → (out i = none → ∀ H', Same Hi H' → S H') → (∀ v, out i = some v → ∀ H', Same Hi H' → Y v H') →
    g x (wipe σ vs) Hi fun σ2 H2 => wipe σ2 vs = wipe σ vs ∧ tt σ2 H2 fun b H3 => if b = true then te σ2 H3 Y else S H3
theorem range_out (out : Nat → Option V) (i : Nat) : (List.range (i + 1)).filterMap out = (List.range i).filterMap out ++ (match out i with | none => [] | some v => [v]) := by
  rw [List.range_succ, List.filterMap_append]
  cases h : out i with
  | none => simp [h]
  | some v => simp [h]
theorem lc_keep (hl : xs.length ≤ 10000) {out : Nat → Option V} (turn : LcTurn xs H g tt te vs σ out) {D : Addr} (hD : H D = none) (i : Nat) (x : V) (Hi : Hp) (hx : xs[i]? = some x) (hP : Same H Hi ∧ Hi D = some (.lst ((List.range i).filterMap out))) :
    g x (wipe σ vs) Hi fun σ2 H2 => wipe σ2 vs = wipe σ vs ∧ tt σ2 H2 fun b H3 =>
      if b = true then te σ2 H3 fun y H4 => ∃ acc, H4 D = some (.lst acc) ∧ acc.length < sizeLine ∧ (Same H (upd H4 D (.lst (acc ++ [y]))) ∧ upd H4 D (.lst (acc ++ [y])) D = some (.lst ((List.range (i + 1)).filterMap out)))
      else (Same H H3 ∧ H3 D = some (.lst ((List.range (i + 1)).filterMap out))) := by
  obtain ⟨s, hd⟩ := hP
  have hi : i < xs.length := (List.getElem?_eq_some_iff.mp hx).1
  refine turn i x Hi (fun H3 => Same H H3 ∧ H3 D = some (.lst ((List.range (i + 1)).filterMap out))) _ hx s (fun h0 H' s' => ⟨s.trans s', ?_⟩) (fun v hv H' s' => ⟨_, s' _ _ hd, ?_, ?_, ?_⟩)
  · rw [range_out, h0, List.append_nil]
    exact s' _ _ hd
  · have h1 : ((List.range i).filterMap out).length ≤ (List.range i).length := List.length_filterMap_le _ _
    rw [List.length_range] at h1
    have h2 : (10001 : Nat) ≤ sizeLine := by decide
    omega
  · exact fun a o e => by
      rw [upd_ne (ne_of_none e hD)]
      exact s' _ _ (s _ _ e)
  · rw [upd_same, range_out, hv]
theorem lcw_list (h0 : ∀ R : VK, R (.ref p) H → tl σ H R) (hp : SqL K H p xs) (hl : xs.length ≤ 10000) {out : Nat → Option V} (turn : LcTurn xs H g tt te vs σ out)
    (fin : ∀ (D : Addr) (H' : Hp), H D = none → Same H H' → H' D = some (.lst ((List.range xs.length).filterMap out)) → Q (.ref D) H') : tLc (iList K tl) g tt te vs σ H Q :=
  h0 _ ⟨p, rfl, ⟨_, hp⟩, fun D hD => lc_list (xs := xs) (fun i Hi => Same H Hi ∧ Hi D = some (.lst ((List.range i).filterMap out))) ⟨Same.new hD, upd_same⟩ (fun _ _ _ hP => hP.1.seq hp) (lc_keep hl turn hD) (fun Hi hP => fin D Hi hD hP.1 hP.2)⟩
theorem lcw_tup (h0 : ∀ R : VK, R (.ref p) H → tl σ H R) (hp : SqT K H p xs) (hl : xs.length ≤ 10000) {out : Nat → Option V} (turn : LcTurn xs H g tt te vs σ out)
    (fin : ∀ (D : Addr) (H' : Hp), H D = none → Same H H' → H' D = some (.lst ((List.range xs.length).filterMap out)) → Q (.ref D) H') : tLc (iTup K tl) g tt te vs σ H Q :=
  h0 _ ⟨p, rfl, ⟨_, hp⟩, fun D hD => lc_tup (xs := xs) (fun i Hi => Same H Hi ∧ Hi D = some (.lst ((List.range i).filterMap out))) ⟨Same.new hD, upd_same⟩ (fun _ _ _ hP => Same.sqt hP.1 hp) (lc_keep hl turn hD) (fun Hi hP => fin D Hi hD hP.1 hP.2)⟩
theorem lcw_seq (h0 : ∀ R : VK, R (.ref p) H → tl σ H R) (hp : SqL K H p xs ∨ SqT K H p xs) (hl : xs.length ≤ 10000) {out : Nat → Option V} (turn : LcTurn xs H g tt te vs σ out)
    (fin : ∀ (D : Addr) (H' : Hp), H D = none → Same H H' → H' D = some (.lst ((List.range xs.length).filterMap out)) → Q (.ref D) H') : tLc (iSeq K tl) g tt te vs σ H Q :=
  hp.elim (fun h => .inl (lcw_list h0 h hl turn fin)) (fun h => .inr (lcw_tup h0 h hl turn fin))
/-- what is put out, by a list beside -/
theorem out_map {α β : Type} {l : List α} {f : α → β} : (List.range l.length).filterMap (fun i => (l[i]?).map f) = l.map f := by
  induction l with
  | nil => rfl
  | cons a l ih =>
    rw [List.length_cons, List.range_succ_eq_map, List.filterMap_cons]
    simp only [List.getElem?_cons_zero, Option.map_some, List.filterMap_map, List.map_cons]
    congr 1
theorem out_filter {α β : Type} {l : List α} {f : α → Option β} : (List.range l.length).filterMap (fun i => (l[i]?).bind f) = l.filterMap f := by
  induction l with
  | nil => rfl
  | cons a l ih =>
    have e : (List.range l.length).filterMap ((fun i => ((a :: l)[i]?).bind f) ∘ Nat.succ) = l.filterMap f := by
      rw [← ih]
      rfl
    rw [List.length_cons, List.range_succ_eq_map, List.filterMap_cons, List.filterMap_map, e, List.filterMap_cons]
    rfl
/-- one turn of a walk whose body goes on with Pv -/
def ForTurn (xs : List V) (g : TG) (tb : TS) (D : Ends) (Pv : Nat → L2.St → Hp → Prop) : Prop :=
  ∀ (i : Nat) (x : V) (σ : L2.St) (H : Hp), xs[i]? = some x → Pv i σ H → g x σ H fun σ2 H2 => tb { D with nx := Pv (i + 1), ct := Pv (i + 1), bk := D.nx } σ2 H2
theorem forw_list {tb : TS} {D : Ends} (h0 : ∀ R : VK, R (.ref p) H → tl σ H R) (hp : SqL K H p xs) (Pv : Nat → L2.St → Hp → Prop) (P0 : Pv 0 σ H) (hl : ∀ i σ' H', Pv i σ' H' → SqL K H' p xs) (turn : ForTurn xs g tb D Pv)
    (fin : ∀ σ' H', Pv xs.length σ' H' → D.nx σ' H') : tFor (iList K tl) g tb D σ H :=
  h0 _ ⟨p, rfl, ⟨_, hp⟩, for_list (xs := xs) Pv P0 (fun i σ' H' _ hP => hl i σ' H' hP) turn fin⟩
theorem forw_tup {tb : TS} {D : Ends} (h0 : ∀ R : VK, R (.ref p) H → tl σ H R) (hp : SqT K H p xs) (Pv : Nat → L2.St → Hp → Prop) (P0 : Pv 0 σ H) (hl : ∀ i σ' H', Pv i σ' H' → SqT K H' p xs) (turn : ForTurn xs g tb D Pv)
    (fin : ∀ σ' H', Pv xs.length σ' H' → D.nx σ' H') : tFor (iTup K tl) g tb D σ H :=
  h0 _ ⟨p, rfl, ⟨_, hp⟩, for_tup (xs := xs) Pv P0 (fun i σ' H' _ hP => hl i σ' H' hP) turn fin⟩
theorem forw_seq {tb : TS} {D : Ends} {H0 : Hp} (h0 : ∀ R : VK, R (.ref p) H → tl σ H R) (hp : SqL K H0 p xs ∨ SqT K H0 p xs) (Pv : Nat → L2.St → Hp → Prop) (P0 : Pv 0 σ H) (hl : ∀ i σ' H', Pv i σ' H' → Same H0 H') (turn : ForTurn xs g tb D Pv)
    (fin : ∀ σ' H', Pv xs.length σ' H' → D.nx σ' H') : tFor (iSeq K tl) g tb D σ H :=
  hp.elim (fun h => .inl (forw_list h0 ((hl 0 σ H P0).seq h) Pv P0 (fun i σ' H' hP => (hl i σ' H' hP).seq h) turn fin)) (fun h => .inr (forw_tup h0 (Same.sqt (hl 0 σ H P0) h) Pv P0 (fun i σ' H' hP => Same.sqt (hl i σ' H' hP) h) turn fin))
/-- [e for x in xs for y in x.ys if ..]: the walk over both, told by the two turns -/
theorem lc2_walk {J : It} {n : Nat} {G : Hp → Prop} (wk : Walk J n G (YAt xs)) (hn : n = xs.length) {k k1 : Nat} {te1 : TE} {tt1 : TT} {vs1 : List Nat} {D : Addr} (Pv : Nat → Nat → Hp → Prop) (P0 : Pv 0 0 (upd H D (.lst []))) (keep : ∀ i Hi, Pv i 0 Hi → G Hi)
    (hw : ∀ x, wipe ((wipe σ vs).set k (some x)) vs = wipe σ vs)
    (inner : ∀ (i : Nat) (x : V) (Hi : Hp), xs[i]? = some x → Pv i 0 Hi → ∃ (a : Addr) (ys : List V), (∀ R : VK, R (.ref a) Hi → te1 ((wipe σ vs).set k (some x)) Hi R) ∧ (∀ j Hj, Pv i j Hj → SqT K Hj a ys) ∧ (∀ Hj, Pv i ys.length Hj → Pv (i + 1) 0 Hj) ∧
      ∀ (j : Nat) (y : V) (Hj : Hp), ys[j]? = some y → Pv i j Hj → wipe ((wipe ((wipe σ vs).set k (some x)) vs1).set k1 (some y)) vs1 = wipe ((wipe σ vs).set k (some x)) vs1 ∧
        tt1 ((wipe ((wipe σ vs).set k (some x)) vs1).set k1 (some y)) Hj fun b H6 => if b = true then te ((wipe ((wipe σ vs).set k (some x)) vs1).set k1 (some y)) H6 fun z H7 => ∃ acc, H7 D = some (.lst acc) ∧ acc.length < sizeLine ∧ Pv i (j + 1) (upd H7 D (.lst (acc ++ [z]))) else Pv i (j + 1) H6)
    (fin : ∀ Hi, Pv n 0 Hi → Q (.ref D) Hi) :
    ∃ W : Nat → Nat → Hp → Prop, (∃ m, W 0 m (upd H D (.lst []))) ∧ ∀ i m H, W i m H →
      (J.stop i H ∧ Q (.ref D) H) ∨ (J.go i H ∧ ∃ Nx : Hp → Prop, (∀ H', Nx H' → ∃ m', m' < m ∧ W (i + 1) m' H') ∧ ∀ x H', J.yld i H x H' → gName k x (wipe σ vs) H' fun σ2 H2 => wipe σ2 vs = wipe σ vs ∧ tYes σ2 H2 fun b H3 =>
        if b = true then iTup K te1 σ2 H3 fun J1 H4 => ∃ W1 : Nat → Nat → Hp → Prop, (∃ m, W1 0 m H4) ∧ ∀ j k H, W1 j k H →
          (J1.stop j H ∧ Nx H) ∨ (J1.go j H ∧ ∃ Nx1 : Hp → Prop, (∀ H', Nx1 H' → ∃ k', k' < k ∧ W1 (j + 1) k' H') ∧ ∀ x H', J1.yld j H x H' → gName k1 x (wipe σ2 vs1) H' fun σ3 H5 => wipe σ3 vs1 = wipe σ2 vs1 ∧ tt1 σ3 H5 fun b H6 =>
            if b = true then te σ3 H6 fun y H7 => ∃ acc, H7 D = some (.lst acc) ∧ acc.length < sizeLine ∧ Nx1 (upd H7 D (.lst (acc ++ [y]))) else Nx1 H6)
        else Nx H3) := by
  refine ⟨fun i m Hi => m = n - i ∧ i ≤ n ∧ Pv i 0 Hi, ⟨n, by simp, Nat.zero_le _, P0⟩, ?_⟩
  rintro i m Hi ⟨rfl, hi, pv⟩
  by_cases lt : i < n
  · refine .inr ⟨wk.goes i Hi lt (keep i Hi pv), Pv (i + 1) 0, fun H' p' => ⟨n - (i + 1), by omega, rfl, lt, p'⟩, fun x H' y => ?_⟩
    obtain ⟨rfl, hx⟩ := wk.yields i Hi x H' lt (keep i Hi pv) y
    obtain ⟨a, ys, h1, h2, h3, h4⟩ := inner i x _ hx pv
    refine ⟨hw x, ?_⟩
    unfold tYes
    refine iteT ?_
    unfold iTup
    refine h1 _ ⟨a, rfl, ⟨ys, h2 0 _ pv⟩, fun j m Hj => m = ys.length - j ∧ j ≤ ys.length ∧ Pv i j Hj, ⟨ys.length, by simp, Nat.zero_le _, pv⟩, ?_⟩
    rintro j m Hj ⟨rfl, hj, pj⟩
    have wt : Walk (Itt K a) ys.length (fun H => SqT K H a ys) (YAt ys) := walk_tup
    by_cases lj : j < ys.length
    · refine .inr ⟨wt.goes j Hj lj (h2 j Hj pj), Pv i (j + 1), fun H' p' => ⟨ys.length - (j + 1), by omega, rfl, lj, p'⟩, fun y H' yy => ?_⟩
      obtain ⟨rfl, hy⟩ := wt.yields j Hj y H' lj (h2 j Hj pj) yy
      exact h4 j y _ hy pj
    · obtain rfl : j = ys.length := by omega
      exact .inl ⟨wt.stops Hj (h2 _ Hj pj), h3 Hj pj⟩
  · obtain rfl : i = n := by omega
    exact .inl ⟨wk.stops Hi (keep _ Hi pv), fin Hi pv⟩
end
end Pn

namespace Pn
open PySem L2 TL
abbrev sIsPair : Stmt := top 8
abbrev sAreC : Stmt := top 44
abbrev sAreP : Stmt := top 45
abbrev sCKnown : Stmt := top 46
abbrev sNPut : Stmt := top 47
abbrev sPEarly : Stmt := top 48
abbrev sNReach : Stmt := top 49
abbrev sUnr1 : Stmt := top 50
abbrev sUText : Stmt := top 51
abbrev sRefsK : Stmt := top 52
theorem eqV_str {a b : Str} : eqV (.str a) (.str b) = decide (a = b) := by
  show decide (a = b) = _
  rfl
theorem inV_strs {x : Str} : ∀ {l : List Str}, inV (.str x) (l.map V.str) = decide (x ∈ l)
  | [] => by simp [inV]
  | y :: l => by
    have ih := inV_strs (x := x) (l := l)
    unfold inV at ih ⊢
    rw [List.map_cons, List.any_cons, ih, eqV_str]
    by_cases h : y = x
    · subst h; simp
    · have h2 : ¬ x = y := fun z => h z.symm
      simp [h, h2]
theorem flat_strs : ∀ {l : List Str}, (l.map V.str).all flatV = true
  | [] => rfl
  | _ :: l => flat_strs (l := l)
section
variable {P : Program} {w : World} {K : PySem.W.Frag} {mg : Str → Option Value} {base : Heap}
def cwV : List V := [.str "note", .str "skip", .str "set", .str "keep", .str "back"]
structure TBks {K : PySem.W.Frag} {mg : Str → Option Value} {R : TRows K mg} (T : TPart R) : Type where
  mSet : mg "set" = none
  mRev : mg "reversed" = none
  cw : Addr
  mCW : mg "COUNTING_WORDS" = some (.ref cw)
  hCW : ∀ H, SqT K H cw cwV
  isPair : At K mg "is_pair" sIsPair ["value"]
  areC : At K mg "are_counters" sAreC ["counters"]
  areP : At K mg "are_parts" sAreP ["parts"]
  cKnown : At K mg "counters_are_known" sCKnown ["counters", "parts"]
  nPut : At K mg "names_put" sNPut ["part"]
  pEarly : At K mg "puts_are_earlier" sPEarly ["parts"]
  nReach : At K mg "names_reached" sNReach ["parts"]
  unroll : At K mg "unroll" sUnr1 ["part", "flat"]
  uText : At K mg "unrolled_text" sUText ["parts"]
  refsK : At K mg "refs_are_known" sRefsK ["rows"]
/-- a list or a tuple -/
def Sq (K : PySem.W.Frag) (H : Hp) (p : Addr) (xs : List V) : Prop := SqL K H p xs ∨ SqT K H p xs
theorem Sq.same {H H' : Hp} {p : Addr} {xs : List V} (h : Sq K H p xs) (s : Same H H') : Sq K H' p xs := h.elim (fun h => .inl (s.seq h)) (fun h => .inr (Same.sqt s h))
def CsArg (K : PySem.W.Frag) (H : Hp) (cu : V) (cs : List (Str × Str)) : Prop := ∃ p ts, cu = .ref p ∧ Sq K H p (ts.map V.ref) ∧ Paired (fun t (c : Str × Str) => SqT K H t [.str c.1, .str c.2]) ts cs
theorem CsArg.same {H H' : Hp} {cu : V} {cs : List (Str × Str)} (h : CsArg K H cu cs) (s : Same H H') : CsArg K H' cu cs := by
  obtain ⟨p, ts, e, h1, h2⟩ := h
  exact ⟨p, ts, e, h1.same s, paired_mono (fun _ _ z => Same.sqt s z) h2⟩
def PtsArg {R : TRows K mg} (T : TPart R) (H : Hp) (pu : V) (bk : List PartD) : Prop := ∃ p ps, pu = .ref p ∧ Sq K H p (ps.map V.ref) ∧ Paired (fun a (q : PartD) => PtAt T H a q.1 q.2) ps bk
theorem PtsArg.same {R : TRows K mg} {T : TPart R} {H H' : Hp} {pu : V} {bk : List PartD} (h : PtsArg T H pu bk) (s : Same H H') : PtsArg T H' pu bk := by
  obtain ⟨p, ps, e, h1, h2⟩ := h
  exact ⟨p, ps, e, h1.same s, paired_mono (fun _ _ z => z.same s) h2⟩
theorem seq_kind {H : Hp} {p : Addr} {xs : List V} (h : Sq K H p xs) : ∃ t, PySem.W.kitAny K t [.type "list", .type "tuple"] = some true ∧ TyX K H (.ref p) t ∧ ∀ H', Same H H' → TyX K H' (.ref p) t := by
  rcases h with hp | hp
  · exact ⟨_, kit_two (by decide +kernel : kitB "list" "list" = some true) (by decide +kernel : kitB "list" "tuple" = some false), sql_ty hp, fun H' s' => sql_ty (s'.seq hp)⟩
  · exact ⟨_, kit_two (by decide +kernel : kitB "tuple" "list" = some false) (by decide +kernel : kitB "tuple" "tuple" = some true), sqt_ty hp, fun H' s' => sqt_ty (Same.sqt s' hp)⟩
def spIsPairT (K : PySem.W.Frag) : Sp := fun vs H Q _ => ∃ (t : Addr) (a b : V), vs = [.ref t] ∧ SqT K H t [a, b] ∧ Q (.bl true) H
theorem scIsPair : FnScope ["value"] ["value"] (defScope sIsPair) := ⟨rfl, rfl, rfl, by decide +kernel, rfl, by decide +kernel, by decide +kernel⟩
theorem ok_isPair {R : TRows K mg} {T : TPart R} (B : TBks T) : FnOk P w K mg base CX0 1 B.isPair.f B.isPair.fd ["value"] (spIsPairT K) := by
  refine B.isPair.F.ok scIsPair (fun vs H Q E h => ?_) (fun cdv A outer s H vs Q E hr h => ?_)
  · obtain ⟨t, a, b, rfl, _⟩ := h
    rfl
  · obtain ⟨t, a, b, rfl, ht, q⟩ := h
    refine ⟨_, pss_one (ps_ret (pe_and (pe_callB call_isi (by rfl) R.N.mIsi (by decide +kernel) (pa_cons (pv 0) (pa_cons (pe_bltn (v := .ty "tuple") (by rfl) T.mTup (by decide +kernel) rfl) pa_nil)))
      (pe_one (pe_cmpR op_eq (pe_callB call_len_seq (by rfl) R.N.mLen PySem.boot_len (pa_cons (pv 0) pa_nil)) pe_int (nomark _))))), ?_⟩
    refine ⟨_, rfl, .ref t, .ty "tuple", _, _, true, rfl, .ty _, sqt_ty ht, kit_ty (by decide +kernel : kitB "tuple" "tuple" = some true), _, rfl, iteT ?_⟩
    exact ⟨_, rfl, t, _, rfl, .inr ht, rfl, q⟩
def spAreC (K : PySem.W.Frag) : Sp := fun vs H Q _ => ∃ (cu : V) (cs : List (Str × Str)), vs = [cu] ∧ CsArg K H cu cs ∧ CsOk cs ∧ ∀ H', Same H H' → Q (.bl true) H'
theorem scAreC : FnScope ["counters", "earlier", "pair"] ["counters"] (defScope sAreC) := ⟨rfl, rfl, rfl, by decide +kernel, rfl, by decide +kernel, by decide +kernel⟩
theorem ok_areC {R : TRows K mg} {T : TPart R} (B : TBks T) : FnOk P w K mg base CX0 2 B.areC.f B.areC.fd ["counters"] (spAreC K) := by
  refine B.areC.F.ok scAreC (fun vs H Q E h => ?_) (fun cdv A outer s H vs Q E hr h => ?_)
  · obtain ⟨cu, cs, rfl, _⟩ := h
    rfl
  · obtain ⟨cu, cs, rfl, ⟨p, ts, rfl, hp, hpd⟩, ok, q⟩ := h
    refine ⟨_, pss_cons (ps_if (pt_not (pt_val (pe_call (ok_isSeq T.isSeq.F R.N.mIsi T.mList T.mTup) (hr.mono (by decide)) rfl T.isSeq.m T.isSeq.F.kp T.isSeq.b .nil pass0 (pa_cons (pv 0) pa_nil)))) (pss_one (ps_ret pe_bl)) pss_nil)
      (pss_cons (ps_set (i := 1) scAreC.nd rfl (Or.inl rfl) (pe_lst pa_nil))
      (pss_cons (ps_for PassesOwn.never rfl (pi_seq (pv 0)) (pg_name (i := 2) scAreC.nd rfl (Or.inl rfl))
        (pss_cons (ps_if (PW.pt (pw_or (pt_not (pt_val (pe_call (ok_isPair B) (hr.mono (by decide)) rfl B.isPair.m B.isPair.F.kp B.isPair.b .nil pass0 (pa_cons (pv 2) pa_nil))))
            (pw_or (pt_not (pt_val (pe_call R.N.okName (hr.mono (by decide)) rfl R.N.isName.m R.N.isName.F.kp R.N.isName.b .nil pass0 (pa_cons (pe_ix ix_tup (pv 2) pe_int (fun _ _ => rfl)) pa_nil))))
              (pw_or1 (pt_cmpR op_in_seq (pe_ix ix_tup (pv 2) pe_int (fun _ _ => rfl)) (pv 1) rfl))))) (pss_one (ps_ret pe_bl)) pss_nil)
        (pss_cons (ps_if (PW.pt (pw_and (pt_cmpR op_ne (pe_ix ix_tup (pv 2) pe_int (fun _ _ => rfl)) pe_str (nomark _)) (pw_and1 (pt_cmpR op_notIn_seq (pe_ix ix_tup (pv 2) pe_int (fun _ _ => rfl)) (pv 1) rfl)))) (pss_one (ps_ret pe_bl)) pss_nil)
        (pss_one (ps_expr (pe_bm PySem.F.plainAttrs_list PySem.F.slot_list_append PySem.F.type_list_append mt_append (pv 1) (pa_cons (pe_ix ix_tup (pv 2) pe_int (fun _ _ => rfl)) pa_nil)))))))
      (pss_one (ps_ret pe_bl)))), ?_⟩
    obtain ⟨t0, hk, ht1, ht2⟩ := seq_kind hp
    refine ⟨_, rfl, _, t0, true, rfl, ht1, hk, ht2, fun H1 s1 m1 => ⟨true, rfl, iteF ?_⟩⟩
    refine ⟨Nat.zero_le _, fun F hF => ?_⟩
    have hp2 := (hp.same s1).same (Same.new (o := .lst []) hF)
    have hpd2 := paired_mono (fun _ _ z => Same.sqt (s1.trans (Same.new (o := .lst []) hF)) z) hpd
    have sH := s1.trans (Same.new (o := .lst []) hF)
    have hFn : H F = none := s1.free hF
    have hF2 : upd H1 F (.lst []) F = some (.lst []) := upd_same
    generalize upd H1 F (.lst []) = H2 at hp2 hpd2 sH hF2 ⊢
    have htl : ts.length = cs.length := paired_len hpd
    have big : (1001 : Nat) ≤ sizeLine := by decide
    have hcl := ok.len
    refine hp.elim (fun h3 => .inl ⟨_, rfl, p, rfl, ⟨_, sH.seq h3⟩, for_list (xs := ts.map V.ref) (fun i σ Hi => ∃ x2, σ = [some (.ref p), some (.ref F), x2] ∧ Same H Hi ∧ Hi F = some (.lst (((cs.take i).map (·.1)).map V.str))) ⟨_, rfl, sH, hF2⟩ (fun i σ Hi _ hP => by obtain ⟨_, _, s, _⟩ := hP; exact s.seq h3) (fun i x σ Hi hx hP => ?turn) (fun σ Hi hP => ?done)⟩)
      (fun h3 => .inr ⟨_, rfl, p, rfl, ⟨_, Same.sqt sH h3⟩, for_tup (xs := ts.map V.ref) (fun i σ Hi => ∃ x2, σ = [some (.ref p), some (.ref F), x2] ∧ Same H Hi ∧ Hi F = some (.lst (((cs.take i).map (·.1)).map V.str))) ⟨_, rfl, sH, hF2⟩ (fun i σ Hi _ hP => by obtain ⟨_, _, s, _⟩ := hP; exact Same.sqt s h3) (fun i x σ Hi hx hP => ?turn2) (fun σ Hi hP => ?done2)⟩)
    case done | done2 =>
      obtain ⟨_, rfl, s3, _⟩ := hP
      exact q _ s3
    case turn | turn2 =>
      obtain ⟨_, rfl, s3, hFi⟩ := hP
      rw [List.getElem?_map] at hx
      cases hxi : ts[i]? with
      | none => rw [hxi] at hx; cases hx
      | some t =>
      rw [hxi] at hx
      cases hx
      obtain ⟨c, hc, ht⟩ := paired_at hpd hxi
      have ht3 := Same.sqt s3 ht
      have hcm := List.mem_of_getElem? hc
      have hnm := ok.nm c hcm
      have hi : i < cs.length := (List.getElem?_eq_some_iff.mp hc).1
      have hnew : c.1 ∉ (cs.take i).map (·.1) := fun z => by
        have e : (cs.map (·.1)) = (cs.take i).map (·.1) ++ (cs.drop i).map (·.1) := by rw [← List.map_append, List.take_append_drop]
        have nd := ok.nd
        rw [e] at nd
        refine (List.nodup_append.mp nd).2.2 _ z c.1 (List.mem_map.mpr ⟨c, ?_, rfl⟩) rfl
        exact List.mem_of_getElem? (i := 0) (by rw [List.getElem?_drop]; simpa using hc)
      refine ⟨_, rfl, t, _, _, rfl, ht3, true, rfl, iteF ?_⟩
      refine ⟨_, rfl, t, _, _, .str c.1, rfl, rfl, ht3, rfl, .str c.1, .str c.1, rfl, .str _, Nat.le_trans (name_ok hnm).2 (by decide), fun H4 s4 m4 => ⟨nameS c.1, rfl, ?_⟩⟩
      rw [hnm]
      refine iteF ?_
      have ht4 := Same.sqt s4 ht3
      have hF4 := s4 _ _ hFi
      refine ⟨_, rfl, t, _, _, .str c.1, rfl, rfl, ht4, rfl, _, rfl, F, _, rfl, .inl (SqL.of hF4), rfl, flat_strs, ?_⟩
      refine ⟨_, rfl, iteFD (by show inV (.str c.1) _ = false; rw [inV_strs]; exact decide_eq_false hnew) ?_⟩
      unfold tNext
      try dsimp only
      refine stepNo (fun Hx => Hx = H4) (fun Q' hQ => ?_) (fun Hx hx => ?_)
      · refine ⟨_, rfl, t, _, _, .str c.2, rfl, rfl, ht4, rfl, rfl, _, rfl, ?_⟩
        by_cases hc2 : c.2 = ""
        · refine iteFD (by rw [hc2]; decide +kernel) ?_
          exact hQ _ rfl
        · refine iteTD (by rw [Bool.not_eq_true', decide_eq_false_iff_not]; exact fun z => hc2 (V.str.inj z)) ?_
          refine ⟨_, rfl, t, _, _, .str c.2, rfl, rfl, ht4, rfl, _, rfl, F, _, rfl, .inl (SqL.of hF4), rfl, flat_strs, _, rfl, ?_⟩
          have hup := (ok.up i c hc).resolve_left hc2
          have e : (!inV (.str c.2) (((cs.take i).map (·.1)).map V.str)) = false := by rw [inV_strs, decide_eq_true hup]; rfl
          show Q' (!inV (.str c.2) (((cs.take i).map (·.1)).map V.str)) H4
          rw [e]
          exact hQ _ rfl
      · subst hx
        refine ⟨_, rfl, .inl ⟨rfl, _, SqL.of hF4⟩, _, rfl, t, _, _, .str c.1, rfl, rfl, ht4, rfl, F, _, _, rfl, rfl, hF4, ?_, ?_⟩
        · rw [List.length_map, List.length_map, List.length_take]
          omega
        · refine ⟨_, rfl, Same.updn (s3.trans s4) hFn, ?_⟩
          rw [upd_same, List.take_add_one, hc, List.map_append, List.map_append]
          rfl
/-! ### parts -/
def spAreP {R : TRows K mg} (T : TPart R) : Sp := fun vs H Q _ => ∃ (pu : V) (bk : List PartD), vs = [pu] ∧ PtsArg T H pu bk ∧ bk ≠ [] ∧ (bk.map (·.1)).Nodup ∧ bk.length ≤ 50 ∧ ∀ H', Same H H' → Q (.bl true) H'
theorem scAreP : FnScope ["parts", "part"] ["parts"] (defScope sAreP) := ⟨rfl, rfl, rfl, by decide +kernel, rfl, by decide +kernel, by decide +kernel⟩
theorem all_tt {α : Type} (l : List α) : (l.map fun _ => true).all id = true := by
  induction l with
  | nil => rfl
  | cons _ _ ih => exact ih
theorem uniq_of_nodup {l : List Str} (h : l.Nodup) : (uniq l).length = l.length := by
  have p : l.Perm (uniq l) := perm_of_sup h (fun k hk => (uniq_has l k).mpr hk) (uniq_len l)
  exact p.length_eq.symm
theorem ok_areP {R : TRows K mg} {T : TPart R} (B : TBks T) : FnOk P w K mg base CX0 2 B.areP.f B.areP.fd ["parts"] (spAreP T) := by
  refine B.areP.F.ok scAreP (fun vs H Q E h => ?_) (fun cdv A outer s H vs Q E hr h => ?_)
  · obtain ⟨pu, bk, rfl, _⟩ := h
    rfl
  · obtain ⟨pu, bk, rfl, ⟨p, ps, rfl, hp, hpd⟩, hne, hnd, hlen, q⟩ := h
    refine ⟨_, pss_cons (ps_if (PW.pt (pw_or (pt_not (pt_val (pe_call (ok_isSeq T.isSeq.F R.N.mIsi T.mList T.mTup) (hr.mono (by decide)) rfl T.isSeq.m T.isSeq.F.kp T.isSeq.b .nil pass0 (pa_cons (pv 0) pa_nil))))
          (pw_or1 (pt_not (pt_val (pe_callB (cr_all rfl) (by rfl) R.N.mAll (by decide +kernel) (pa_cons (pe_lc (own := [("part", 1)]) (g := gName 1) (tt := tYes) (by rfl) scAreP.nd (pi_seq (pv 0))
            (blkOk_by (N := ["parts", "part"]) (sc := defScope sAreP) (by decide +kernel)) (fun _ _ _ _ _ => pg_name (i := 1) scAreP.nd rfl (Or.inl rfl)) (fun _ _ _ _ _ => pts_nil)
            (fun _ _ _ _ _ => pe_callB (show CallR _ (.builtin "isinstance") (rIsi K) from call_isi) (by rfl) R.N.mIsi (by decide +kernel) (pa_cons (pv 1) (pa_cons (pe_glob (v := .ref T.C) (by rfl) T.mC rfl) pa_nil)))) pa_nil)))))))
        (pss_one (ps_ret pe_bl)) pss_nil)
      (pss_one (ps_ret (pe_chain op_lt op_eq pe_int (pe_callB call_len_seq (by rfl) R.N.mLen PySem.boot_len (pa_cons (pv 0) pa_nil))
        (pe_callB cr_lenX (by rfl) R.N.mLen PySem.boot_len (pa_cons (pe_callTy (cr_setX rfl) (by rfl) B.mSet (by decide +kernel) (pa_cons (pe_lc (own := [("part", 1)]) (g := gName 1) (tt := tYes) (by rfl) scAreP.nd (pi_seq (pv 0))
            (blkOk_by (N := ["parts", "part"]) (sc := defScope sAreP) (by decide +kernel)) (fun _ _ _ _ _ => pg_name (i := 1) scAreP.nd rfl (Or.inl rfl)) (fun _ _ _ _ _ => pts_nil)
            (fun _ _ _ _ _ => (show PE _ _ (tFld K (tVar 1) "name") from pe_fld (pv 1) rfl))) pa_nil)) pa_nil))))), ?_⟩
    obtain ⟨t0, hk, ht1, ht2⟩ := seq_kind hp
    refine ⟨_, rfl, _, t0, true, rfl, ht1, hk, ht2, fun H1 s1 m1 => ⟨true, rfl, iteF ?_⟩⟩
    have hpl : ps.length = bk.length := paired_len hpd
    have big : (1001 : Nat) ≤ sizeLine := by decide
    have hp1 := hp.same s1
    have hpd1 := paired_mono (fun _ _ z => PtAt.same z s1) hpd
    unfold tNot tB tCB tCons
    refine lcw_seq (fun R r => ⟨_, rfl, r⟩) hp1 (by rw [List.length_map]; omega) (out := fun i => (ps[i]?).map fun _ => V.bl true) (fun i x Hi S Y hx si _ hY => ?_) (fun D H2 hD s2 hD2 => ?_)
    · rw [List.getElem?_map] at hx
      cases hxi : ps[i]? with
      | none => rw [hxi] at hx; cases hx
      | some a =>
      rw [hxi] at hx
      cases hx
      obtain ⟨qq, hq, hpt⟩ := paired_at hpd1 hxi
      obtain ⟨dx, tp, us, ha, _, _⟩ := hpt.same si
      refine ⟨rfl, _, rfl, .ref a, .ref T.C, _, _, true, rfl, .own _, .base (.ins ha T.cl T.pA T.cN T.cT T.pM), T.kC, ?_⟩
      exact hY _ (by show (ps[i]?).map _ = _; rw [hxi]; rfl) _ (Same.refl _)
    · rw [List.length_map, out_map] at hD2
      refine ⟨D, ps.map fun _ => true, rfl, SqL.of (by rw [hD2, List.map_map]; rfl), ?_⟩
      rw [all_tt]
      refine ⟨true, rfl, iteF ?_⟩
      have hp2 := hp1.same s2
      have hpd2 := paired_mono (fun _ _ z => PtAt.same z s2) hpd1
      refine ⟨_, rfl, p, _, rfl, hp2, _, _, rfl, rfl, true, ?_, iteT ?_⟩
      · rw [List.length_map, hpl]
        have : 0 < bk.length := List.length_pos_iff.mpr hne
        show V.bl (decide ((0 : Int) < (bk.length : Int))) = V.bl true
        rw [decide_eq_true (by omega)]
      show tLc (iSeq K (tVar 0)) (gName 1) tYes (tFld K (tVar 1) "name") [1] _ H2 _
      refine lcw_seq (fun R r => ⟨_, rfl, r⟩) hp2 (by rw [List.length_map]; omega) (out := fun i => (bk[i]?).map fun q => V.str q.1) (fun i x Hi S Y hx si _ hY => ?_) (fun D3 H3 hD3 s3 hD4 => ?_)
      · rw [List.getElem?_map] at hx
        cases hxi : ps[i]? with
        | none => rw [hxi] at hx; cases hx
        | some a =>
        rw [hxi] at hx
        cases hx
        obtain ⟨qq, hq, hpt⟩ := paired_at hpd2 hxi
        obtain ⟨dx, tp, us, ha, _, _⟩ := hpt.same si
        refine ⟨rfl, _, rfl, a, T.C, dx, _, .str qq.1, rfl, ha, T.cl, T.noN, part_name, ?_⟩
        exact hY _ (by show (bk[i]?).map _ = _; rw [hq]; rfl) _ (Same.refl _)
      · rw [List.length_map, hpl, out_map] at hD4
        refine ⟨D3, bk.map (·.1), rfl, SqL.of (by rw [hD4, List.map_map]; rfl), by rw [List.length_map]; omega, fun S hS => ?_⟩
        have hul := uniq_of_nodup hnd
        refine ⟨S, uniq (bk.map (·.1)), rfl, upd_same, by rw [hul, List.length_map]; omega, ?_⟩
        rw [hul, List.length_map, List.length_map, hpl]
        refine ⟨rfl, ?_⟩
        rw [decide_eq_true rfl]
        exact q _ (((s1.trans s2).trans s3).trans (Same.new hS))
end
end Pn

namespace Pn
open PySem L2 TL
section
variable {P : Program} {w : World} {K : PySem.W.Frag} {mg : Str → Option Value} {base : Heap}
/-! ### the attributes of rows -/
def Attr (R : TRows K mg) (H : Hp) (a : Addr) (r : RowD) (f : Str) (v : V) : Prop := ∃ dx fs, H a = some (.ins (clsOf R r) dx fs) ∧ Cls K (clsOf R r) ∧ NoAttr K (clsOf R r) f ∧ fs.lookup f = some v
theorem at_counter (T : TRows K mg) {H : Hp} {a : Addr} {r : RowD} {c : Str} (h : RowAt T H a r) (e : cntOf r = some c) : Attr T H a r "counter" (.str c) := by
  obtain ⟨dx, ha⟩ := h
  cases r with
  | note _ _ => cases e; exact ⟨dx, _, ha, T.note.cl, T.note.noC, by rw [lookup_putF, if_neg (by decide +kernel), lookup_putF, if_pos rfl]⟩
  | skip _ _ => cases e; exact ⟨dx, _, ha, T.skip.cl, T.skip.noC, by rw [lookup_putF, if_neg (by decide +kernel), lookup_putF, if_pos rfl]⟩
  | set _ _ => cases e; exact ⟨dx, _, ha, T.set.cl, T.set.noC, by rw [lookup_putF, if_neg (by decide +kernel), lookup_putF, if_pos rfl]⟩
  | keep _ => cases e; exact ⟨dx, _, ha, T.keep.cl, T.keep.noF, by rw [lookup_putF, if_pos rfl]⟩
  | back _ => cases e; exact ⟨dx, _, ha, T.back.cl, T.back.noF, by rw [lookup_putF, if_pos rfl]⟩
  | ref _ => cases e
  | put _ => cases e
  | opn _ => cases e
theorem at_part (T : TRows K mg) {H : Hp} {a : Addr} {z : Str} (h : RowAt T H a (.put z)) : Attr T H a (.put z) "part" (.str z) := by
  obtain ⟨dx, ha⟩ := h
  exact ⟨dx, _, ha, T.put.cl, T.put.noF, by rw [lookup_putF, if_pos rfl]⟩
theorem at_name (T : TRows K mg) {H : Hp} {a : Addr} {z : Str} (h : RowAt T H a (.opn z)) : Attr T H a (.opn z) "name" (.str z) := by
  obtain ⟨dx, ha⟩ := h
  exact ⟨dx, _, ha, T.open_.cl, T.open_.noF, by rw [lookup_putF, if_pos rfl]⟩
theorem at_reflab (T : TRows K mg) {H : Hp} {a : Addr} {z : Str} (h : RowAt T H a (.ref z)) : Attr T H a (.ref z) "label" (.str z) := by
  obtain ⟨dx, ha⟩ := h
  exact ⟨dx, _, ha, T.ref.cl, T.ref.noF, by rw [lookup_putF, if_pos rfl]⟩
theorem at_notelab (T : TRows K mg) {H : Hp} {a : Addr} {c z : Str} (h : RowAt T H a (.note c z)) : Attr T H a (.note c z) "label" (.str z) := by
  obtain ⟨dx, ha⟩ := h
  exact ⟨dx, _, ha, T.note.cl, T.note.noL, by rw [lookup_putF, if_pos rfl]⟩
theorem at_word (T : TRows K mg) {H : Hp} {a : Addr} {r : RowD} (h : RowAt T H a r) : Attr T H a r "word" (.str (rowWord r)) := row_word T h
theorem word_cnt (r : RowD) : inV (.str (rowWord r)) cwV = (cntOf r).isSome := by
  have e : cwV = (["note", "skip", "set", "keep", "back"] : List Str).map V.str := rfl
  rw [e, inV_strs]
  cases r with
  | note _ _ => exact (by decide +kernel : decide (("note" : Str) ∈ (["note", "skip", "set", "keep", "back"] : List Str)) = true)
  | skip _ _ => exact (by decide +kernel : decide (("skip" : Str) ∈ (["note", "skip", "set", "keep", "back"] : List Str)) = true)
  | set _ _ => exact (by decide +kernel : decide (("set" : Str) ∈ (["note", "skip", "set", "keep", "back"] : List Str)) = true)
  | keep _ => exact (by decide +kernel : decide (("keep" : Str) ∈ (["note", "skip", "set", "keep", "back"] : List Str)) = true)
  | back _ => exact (by decide +kernel : decide (("back" : Str) ∈ (["note", "skip", "set", "keep", "back"] : List Str)) = true)
  | ref _ => exact (by decide +kernel : decide (("ref" : Str) ∈ (["note", "skip", "set", "keep", "back"] : List Str)) = false)
  | put _ => exact (by decide +kernel : decide (("put" : Str) ∈ (["note", "skip", "set", "keep", "back"] : List Str)) = false)
  | opn _ => exact (by decide +kernel : decide (("open" : Str) ∈ (["note", "skip", "set", "keep", "back"] : List Str)) = false)
/-- a row as it stands, looked up in a list of rows -/
theorem rows_at {R : TRows K mg} {H : Hp} {us : List Addr} {rs : List RowD} (h : RowsIn R H us rs) {i : Nat} {x : V} (hx : (us.map V.ref)[i]? = some x) : ∃ u r, us[i]? = some u ∧ rs[i]? = some r ∧ x = .ref u ∧ RowAt R H u r := by
  rw [List.getElem?_map] at hx
  cases hu : us[i]? with
  | none => rw [hu] at hx; cases hx
  | some u =>
    rw [hu] at hx
    cases hx
    obtain ⟨r, hr, hrow⟩ := paired_at h hu
    exact ⟨u, r, rfl, hr, rfl, hrow⟩
/-! ### names_put -/
def putOf : RowD → Option Str
  | .put z => some z
  | _ => none
theorem puts_eq (rs : List RowD) : putsOf rs = rs.filterMap putOf := rfl
theorem put_word {r : RowD} : decide (V.str (rowWord r) = V.str "put") = (putOf r).isSome := by
  cases r <;> first | exact (by decide +kernel : decide (V.str "note" = V.str "put") = false) | exact (by decide +kernel : decide (V.str "skip" = V.str "put") = false) | exact (by decide +kernel : decide (V.str "set" = V.str "put") = false) | exact (by decide +kernel : decide (V.str "keep" = V.str "put") = false) | exact (by decide +kernel : decide (V.str "back" = V.str "put") = false) | exact (by decide +kernel : decide (V.str "ref" = V.str "put") = false) | exact (by decide +kernel : decide (V.str "put" = V.str "put") = true) | exact (by decide +kernel : decide (V.str "open" = V.str "put") = false)
def spNPut {R : TRows K mg} (T : TPart R) : Sp := fun vs H Q _ => ∃ (a : Addr) (q : PartD), vs = [.ref a] ∧ PtAt T H a q.1 q.2 ∧ q.2.length ≤ 100 ∧ ∀ (D : Addr) (H' : Hp), H D = none → Same H H' → H' D = some (.lst ((putsOf q.2).map V.str)) → Q (.ref D) H'
theorem scNPut : FnScope ["part", "row"] ["part"] (defScope sNPut) := ⟨rfl, rfl, rfl, by decide +kernel, rfl, by decide +kernel, by decide +kernel⟩
theorem ok_nPut {R : TRows K mg} {T : TPart R} (B : TBks T) : FnOk P w K mg base CX0 1 B.nPut.f B.nPut.fd ["part"] (spNPut T) := by
  refine B.nPut.F.ok scNPut (fun vs H Q E h => ?_) (fun cdv A outer s H vs Q E hr h => ?_)
  · obtain ⟨a, q, rfl, _⟩ := h
    rfl
  · obtain ⟨a, qq, rfl, ⟨dx, tp, us, ha, htp, hus⟩, hl, q⟩ := h
    refine ⟨_, pss_one (ps_ret (pe_lc (own := [("row", 1)]) (g := gName 1) (by rfl) scNPut.nd (pi_tup (pe_fld (pv 0) rfl))
      (blkOk_by (N := ["part", "row"]) (sc := defScope sNPut) (by decide +kernel)) (fun _ _ _ _ _ => pg_name (i := 1) scNPut.nd rfl (Or.inl rfl))
      (fun _ _ _ _ _ => pts_one (pt_cmpR op_eq (show PE _ _ (tFld K (tVar 1) "word") from pe_fld (pv 1) rfl) pe_str (nomark _))) (fun _ _ _ _ _ => (show PE _ _ (tFld K (tVar 1) "part") from pe_fld (pv 1) rfl)))), ?_⟩
    have hul : us.length = qq.2.length := paired_len hus
    refine lcw_tup (fun R r => ⟨_, rfl, a, T.C, dx, _, .ref tp, rfl, ha, T.cl, T.noR, part_rows, r⟩) htp (by rw [List.length_map]; omega) (out := fun i => (qq.2[i]?).bind fun r => (putOf r).map V.str) (fun i x Hi S Y hx si hS hY => ?_) (fun D H2 hD s2 hD2 => q D H2 hD s2 ?_)
    · obtain ⟨u, r, hu, hr2, rfl, hrow⟩ := rows_at hus hx
      obtain ⟨dw, fw, w1, w2, w3, w4⟩ := at_word R (hrow.same si)
      refine ⟨rfl, _, rfl, u, _, dw, fw, _, rfl, w1, w2, w3, w4, rfl, _, rfl, ?_⟩
      have hb : (qq.2[i]?).bind (fun r => (putOf r).map V.str) = (putOf r).map V.str := by rw [hr2]; rfl
      rw [put_word]
      cases hp : putOf r with
      | none =>
        refine iteF ?_
        exact hS (by rw [hp] at hb; exact hb) _ (Same.refl _)
      | some z =>
        refine iteT ?_
        obtain rfl : r = .put z := by
          cases r with
          | put y => cases hp; rfl
          | _ => cases hp
        obtain ⟨dp, fp, p1, p2, p3, p4⟩ := at_part R (hrow.same si)
        exact ⟨_, rfl, u, _, dp, fp, _, rfl, p1, p2, p3, p4, hY _ (by rw [hp] at hb; exact hb) _ (Same.refl _)⟩
    · rw [hD2, List.length_map, hul, out_filter, puts_eq, List.map_filterMap]
/-! ### puts_are_earlier -/
def spPEarly {R : TRows K mg} (T : TPart R) : Sp := fun vs H Q _ => ∃ (pu : V) (bk : List PartD), vs = [pu] ∧ PtsArg T H pu bk ∧ Earlier bk ∧ bk.length ≤ 50 ∧ (∀ p ∈ bk, p.2.length ≤ 100) ∧ ∀ H', Same H H' → Q (.bl true) H'
theorem scPEarly : FnScope ["parts", "earlier", "part", "name"] ["parts"] (defScope sPEarly) := ⟨rfl, rfl, rfl, by decide +kernel, rfl, by decide +kernel, by decide +kernel⟩
theorem puts_len (rs : List RowD) : (putsOf rs).length ≤ rs.length := List.length_filterMap_le _ _
theorem pts_at {R : TRows K mg} {T : TPart R} {H : Hp} {ps : List Addr} {bk : List PartD} (h : Paired (fun a (q : PartD) => PtAt T H a q.1 q.2) ps bk) {i : Nat} {x : V} (hx : (ps.map V.ref)[i]? = some x) : ∃ a q, ps[i]? = some a ∧ bk[i]? = some q ∧ x = .ref a ∧ PtAt T H a q.1 q.2 := by
  rw [List.getElem?_map] at hx
  cases hu : ps[i]? with
  | none => rw [hu] at hx; cases hx
  | some u =>
    rw [hu] at hx
    cases hx
    obtain ⟨r, hr, hrow⟩ := paired_at h hu
    exact ⟨u, r, rfl, hr, rfl, hrow⟩
theorem ok_pEarly {R : TRows K mg} {T : TPart R} (B : TBks T) : FnOk P w K mg base CX0 2 B.pEarly.f B.pEarly.fd ["parts"] (spPEarly T) := by
  refine B.pEarly.F.ok scPEarly (fun vs H Q E h => ?_) (fun cdv A outer s H vs Q E hr h => ?_)
  · obtain ⟨pu, bk, rfl, _⟩ := h
    rfl
  · obtain ⟨pu, bk, rfl, ⟨p, ps, rfl, hp, hpd⟩, he, hlen, hrl, q⟩ := h
    refine ⟨_, pss_cons (ps_set (i := 1) scPEarly.nd rfl (Or.inr rfl) (pe_lst pa_nil))
      (pss_cons (ps_for PassesOwn.never rfl (pi_seq (pv 0)) (pg_name (i := 2) scPEarly.nd rfl (Or.inl rfl))
        (pss_cons (ps_if (pt_not (pt_val (pe_callB (cr_all rfl) (by rfl) R.N.mAll (by decide +kernel) (pa_cons (pe_lc (own := [("name", 3)]) (g := gName 3) (tt := tYes) (by rfl) scPEarly.nd (pi_list (pe_call (ok_nPut B) hr rfl B.nPut.m B.nPut.F.kp B.nPut.b .nil pass0 (pa_cons (pv 2) pa_nil)))
            (blkOk_by (N := ["parts", "earlier", "part", "name"]) (sc := defScope sPEarly) (by decide +kernel)) (fun _ _ _ _ _ => pg_name (i := 3) scPEarly.nd rfl (Or.inl rfl)) (fun _ _ _ _ _ => pts_nil)
            (fun _ _ _ _ _ => pe_cmpR (show OpR _ (compareOp .In) (rIn K false) from op_in_seq) (pv 3) (pv 1) rfl)) pa_nil)))) (pss_one (ps_ret pe_bl)) pss_nil)
        (pss_one (ps_expr (pe_bm PySem.F.plainAttrs_list PySem.F.slot_list_append PySem.F.type_list_append mt_append (pv 1) (pa_cons (pe_fld (pv 2) rfl) pa_nil))))))
      (pss_one (ps_ret pe_bl))), ?_⟩
    have hpl : ps.length = bk.length := paired_len hpd
    have big : (1001 : Nat) ≤ sizeLine := by decide
    refine ⟨Nat.zero_le _, fun F hF => ?_⟩
    have s1 := Same.new (o := .lst []) hF
    have hF1 : upd H F (.lst []) F = some (.lst []) := upd_same
    generalize upd H F (.lst []) = H1 at s1 hF1 ⊢
    have hFn : H F = none := hF
    refine forw_seq (fun R r => ⟨_, rfl, r⟩) hp (fun i σ Hi => ∃ x2 x3, σ = [some (.ref p), some (.ref F), x2, x3] ∧ Same H Hi ∧ Hi F = some (.lst (((bk.take i).map (·.1)).map V.str))) ⟨_, _, rfl, s1, hF1⟩ (fun i σ Hi hP => by obtain ⟨_, _, _, s, _⟩ := hP; exact s) (fun i x σ Hi hx hP => ?_) (fun σ Hi hP => ?_)
    · obtain ⟨x2, x3, rfl, s3, hFi⟩ := hP
      obtain ⟨a, qq, ha, hq, rfl, hpt⟩ := pts_at hpd hx
      have hqm := List.mem_of_getElem? hq
      have hi : i < bk.length := (List.getElem?_eq_some_iff.mp hq).1
      have hpt3 := hpt.same s3
      refine ⟨_, rfl, a, qq, rfl, hpt3, hrl qq hqm, fun D H4 hD s4 hD4 => ?_⟩
      have hpu : (putsOf qq.2).length ≤ 100 := Nat.le_trans (puts_len _) (hrl qq hqm)
      have hF4 := s4 _ _ hFi
      refine ⟨D, rfl, ⟨_, SqL.of hD4⟩, fun D2 hD2 => lc_list (xs := (putsOf qq.2).map V.str) (fun j Hj => Same H4 Hj ∧ Hj D2 = some (.lst ((List.range j).filterMap fun j => ((putsOf qq.2)[j]?).map fun _ => V.bl true))) ⟨Same.new hD2, upd_same⟩ (fun j Hj _ hP => SqL.of (hP.1 _ _ hD4))
        (lc_keep (by rw [List.length_map]; omega) (fun j y Hj S Y hy sj _ hY => ?_) hD2) (fun Hj hP => ?_)⟩
      · rw [List.getElem?_map] at hy
        cases hz : (putsOf qq.2)[j]? with
        | none => rw [hz] at hy; cases hy
        | some z =>
        rw [hz] at hy
        cases hy
        have hin := he i qq hq z (mem_puts.mp (List.mem_of_getElem? hz))
        refine ⟨rfl, _, rfl, _, rfl, F, _, rfl, .inl (SqL.of (sj _ _ hF4)), rfl, flat_strs, ?_⟩
        have e : inV (.str z) (((bk.take i).map (·.1)).map V.str) = true := by rw [inV_strs]; exact decide_eq_true hin
        show Y (.bl (inV (.str z) (((bk.take i).map (·.1)).map V.str))) Hj
        rw [e]
        exact hY _ (by show ((putsOf qq.2)[j]?).map _ = _; rw [hz]; rfl) _ (Same.refl _)
      · obtain ⟨s5, hD5⟩ := hP
        rw [List.length_map, out_map] at hD5
        refine ⟨D2, (putsOf qq.2).map fun _ => true, rfl, SqL.of (by rw [hD5, List.map_map]; rfl), ?_⟩
        rw [all_tt]
        refine ⟨true, rfl, iteF ?_⟩
        obtain ⟨dx, tp, us, hat, _, _⟩ := hpt3.same (s4.trans s5)
        have hF5 := s5 _ _ hF4
        refine ⟨_, rfl, .inl ⟨rfl, _, SqL.of hF5⟩, _, rfl, a, T.C, dx, _, .str qq.1, rfl, hat, T.cl, T.noN, part_name, F, _, _, rfl, rfl, hF5, ?_, ?_⟩
        · rw [List.length_map, List.length_map, List.length_take]
          omega
        · refine ⟨_, _, rfl, Same.updn ((s3.trans s4).trans s5) hFn, ?_⟩
          rw [upd_same, List.take_add_one, hq, List.map_append, List.map_append]
          rfl
    · obtain ⟨_, _, rfl, s3, _⟩ := hP
      exact q _ s3
/-! ### refs_are_known -/
def spRefsK (R : TRows K mg) : Sp := fun vs H Q _ => ∃ (p : Addr) (us : List Addr) (rs : List RowD), vs = [.ref p] ∧ Sq K H p (us.map V.ref) ∧ RowsIn R H us rs ∧ rs.length ≤ 4000 ∧ (∀ l, RowD.ref l ∈ rs → ∃ c, RowD.note c l ∈ rs) ∧ ∀ H', Same H H' → Q (.bl true) H'
theorem scRefsK : FnScope ["rows", "labels", "row"] ["rows"] (defScope sRefsK) := ⟨rfl, rfl, rfl, by decide +kernel, rfl, by decide +kernel, by decide +kernel⟩
theorem note_word {r : RowD} : decide (V.str (rowWord r) = V.str "note") = (labOf r).isSome := by
  cases r with
  | note _ _ => exact (by decide +kernel : decide (V.str "note" = V.str "note") = true)
  | skip _ _ => exact (by decide +kernel : decide (V.str "skip" = V.str "note") = false)
  | set _ _ => exact (by decide +kernel : decide (V.str "set" = V.str "note") = false)
  | keep _ => exact (by decide +kernel : decide (V.str "keep" = V.str "note") = false)
  | back _ => exact (by decide +kernel : decide (V.str "back" = V.str "note") = false)
  | ref _ => exact (by decide +kernel : decide (V.str "ref" = V.str "note") = false)
  | put _ => exact (by decide +kernel : decide (V.str "put" = V.str "note") = false)
  | opn _ => exact (by decide +kernel : decide (V.str "open" = V.str "note") = false)
theorem ref_word {r : RowD} : decide (V.str (rowWord r) = V.str "ref") = (refOf r).isSome := by
  cases r with
  | note _ _ => exact (by decide +kernel : decide (V.str "note" = V.str "ref") = false)
  | skip _ _ => exact (by decide +kernel : decide (V.str "skip" = V.str "ref") = false)
  | set _ _ => exact (by decide +kernel : decide (V.str "set" = V.str "ref") = false)
  | keep _ => exact (by decide +kernel : decide (V.str "keep" = V.str "ref") = false)
  | back _ => exact (by decide +kernel : decide (V.str "back" = V.str "ref") = false)
  | ref _ => exact (by decide +kernel : decide (V.str "ref" = V.str "ref") = true)
  | put _ => exact (by decide +kernel : decide (V.str "put" = V.str "ref") = false)
  | opn _ => exact (by decide +kernel : decide (V.str "open" = V.str "ref") = false)
theorem ok_refsK {R : TRows K mg} {T : TPart R} (B : TBks T) : FnOk P w K mg base CX0 1 B.refsK.f B.refsK.fd ["rows"] (spRefsK R) := by
  refine B.refsK.F.ok scRefsK (fun vs H Q E h => ?_) (fun cdv A outer s H vs Q E hr h => ?_)
  · obtain ⟨p, us, rs, rfl, _⟩ := h
    rfl
  · obtain ⟨p, us, rs, rfl, hp, hus, hlen, hrf, q⟩ := h
    refine ⟨_, pss_cons (ps_set (i := 1) scRefsK.nd rfl (Or.inr rfl) (pe_lc (own := [("row", 2)]) (g := gName 2) (by rfl) scRefsK.nd (pi_seq (pv 0))
      (blkOk_by (N := ["rows", "labels", "row"]) (sc := defScope sRefsK) (by decide +kernel)) (fun _ _ _ _ _ => pg_name (i := 2) scRefsK.nd rfl (Or.inl rfl))
      (fun _ _ _ _ _ => pts_one (pt_cmpR op_eq (show PE _ _ (tFld K (tVar 2) "word") from pe_fld (pv 2) rfl) pe_str (nomark _))) (fun _ _ _ _ _ => (show PE _ _ (tFld K (tVar 2) "label") from pe_fld (pv 2) rfl))))
      (pss_one (ps_ret (pe_callB (cr_all rfl) (by rfl) R.N.mAll (by decide +kernel) (pa_cons (pe_lc (own := [("row", 2)]) (g := gName 2) (by rfl) scRefsK.nd (pi_seq (pv 0))
      (blkOk_by (N := ["rows", "labels", "row"]) (sc := defScope sRefsK) (by decide +kernel)) (fun _ _ _ _ _ => pg_name (i := 2) scRefsK.nd rfl (Or.inl rfl))
      (fun _ _ _ _ _ => pts_one (pt_cmpR op_eq (show PE _ _ (tFld K (tVar 2) "word") from pe_fld (pv 2) rfl) pe_str (nomark _))) (fun _ _ _ _ _ => pe_cmpR (show OpR _ (compareOp .In) (rIn K false) from op_in_seq) (show PE _ _ (tFld K (tVar 2) "label") from pe_fld (pv 2) rfl) (pv 1) rfl)) pa_nil)))), ?_⟩
    have hul : us.length = rs.length := paired_len hus
    unfold tSeq tAsg
    refine lcw_seq (fun R r => ⟨_, rfl, r⟩) hp (by rw [List.length_map]; omega) (out := fun i => (rs[i]?).bind fun r => (labOf r).map V.str) (fun i x Hi S Y hx si hS hY => ?_) (fun D H2 hD s2 hD2 => ?_)
    · obtain ⟨u, r, hu, hr2, rfl, hrow⟩ := rows_at hus hx
      obtain ⟨dw, fw, w1, w2, w3, w4⟩ := at_word R (hrow.same si)
      refine ⟨rfl, _, rfl, u, _, dw, fw, _, rfl, w1, w2, w3, w4, rfl, _, rfl, ?_⟩
      have hb : (rs[i]?).bind (fun r => (labOf r).map V.str) = (labOf r).map V.str := by rw [hr2]; rfl
      rw [note_word]
      cases hp2 : labOf r with
      | none =>
        refine iteF ?_
        exact hS (by rw [hp2] at hb; exact hb) _ (Same.refl _)
      | some z =>
        refine iteT ?_
        obtain ⟨c, rfl⟩ : ∃ c, r = .note c z := by
          cases r with
          | note c y => cases hp2; exact ⟨c, rfl⟩
          | _ => cases hp2
        obtain ⟨dp, fp, p1, p2, p3, p4⟩ := at_notelab R (hrow.same si)
        exact ⟨_, rfl, u, _, dp, fp, _, rfl, p1, p2, p3, p4, hY _ (by rw [hp2] at hb; exact hb) _ (Same.refl _)⟩
    · rw [List.length_map, hul, out_filter] at hD2
      have hD3 : H2 D = some (.lst ((rs.filterMap labOf).map V.str)) := by rw [hD2, List.map_filterMap]
      have hus2 := hus.same s2
      unfold gName tRet tCB tCons
      dsimp only
      refine lcw_seq (fun R r => ⟨_, rfl, r⟩) (hp.same s2) (by rw [List.length_map]; omega) (out := fun i => (rs[i]?).bind fun r => (refOf r).map fun _ => V.bl true) (fun i x Hi S Y hx si hS hY => ?_) (fun D4 H4 hD4 s4 hD5 => ?_)
      · obtain ⟨u, r, hu, hr2, rfl, hrow⟩ := rows_at hus2 hx
        obtain ⟨dw, fw, w1, w2, w3, w4⟩ := at_word R (hrow.same si)
        refine ⟨rfl, _, rfl, u, _, dw, fw, _, rfl, w1, w2, w3, w4, rfl, _, rfl, ?_⟩
        have hb : (rs[i]?).bind (fun r => (refOf r).map fun _ => V.bl true) = (refOf r).map fun _ => V.bl true := by rw [hr2]; rfl
        rw [ref_word]
        cases hp2 : refOf r with
        | none =>
          refine iteF ?_
          exact hS (by rw [hp2] at hb; exact hb) _ (Same.refl _)
        | some z =>
          refine iteT ?_
          obtain rfl : r = .ref z := by
            cases r with
            | ref y => cases hp2; rfl
            | _ => cases hp2
          obtain ⟨dp, fp, p1, p2, p3, p4⟩ := at_reflab R (hrow.same si)
          refine ⟨_, rfl, u, _, dp, fp, _, rfl, p1, p2, p3, p4, _, rfl, D, _, rfl, .inl (SqL.of (si _ _ hD3)), rfl, flat_strs, ?_⟩
          obtain ⟨c, hc⟩ := hrf z (List.mem_of_getElem? hr2)
          have e : inV (.str z) ((rs.filterMap labOf).map V.str) = true := by
            rw [inV_strs]
            exact decide_eq_true (List.mem_filterMap.mpr ⟨_, hc, rfl⟩)
          show Y (.bl (inV (.str z) ((rs.filterMap labOf).map V.str))) Hi
          rw [e]
          exact hY _ (by rw [hp2] at hb; exact hb) _ (Same.refl _)
      · rw [List.length_map, hul, out_filter] at hD5
        refine ⟨D4, (rs.filterMap refOf).map fun _ => true, rfl, SqL.of (by rw [hD5, List.map_map, List.map_filterMap]; rfl), ?_⟩
        rw [all_tt]
        exact q _ (s2.trans s4)
/-! ### counters_are_known -/
def spCKnown {R : TRows K mg} (T : TPart R) : Sp := fun vs H Q _ => ∃ (cu pu : V) (cs : List (Str × Str)) (bk : List PartD), vs = [cu, pu] ∧ CsArg K H cu cs ∧ PtsArg T H pu bk ∧ cs.length ≤ 100 ∧ bk.length ≤ 50 ∧ (∀ p ∈ bk, p.2.length ≤ 100) ∧ (∀ p ∈ bk, ∀ r ∈ p.2, ∀ c, cntOf r = some c → c ∈ cs.map (·.1)) ∧ ∀ H', Same H H' → Q (.bl true) H'
theorem scCKnown : FnScope ["counters", "parts", "names", "rows", "name", "upper", "part", "row"] ["counters", "parts"] (defScope sCKnown) := ⟨rfl, rfl, rfl, by decide +kernel, rfl, by decide +kernel, by decide +kernel⟩
theorem ok_cKnown {R : TRows K mg} {T : TPart R} (B : TBks T) : FnOk P w K mg base CX0 1 B.cKnown.f B.cKnown.fd ["counters", "parts"] (spCKnown T) := by
  refine B.cKnown.F.ok scCKnown (fun vs H Q E h => ?_) (fun cdv A outer s H vs Q E hr h => ?_)
  · obtain ⟨cu, pu, cs, bk, rfl, _⟩ := h
    rfl
  · obtain ⟨cu, pu, cs, bk, rfl, ⟨cp, ts, rfl, hcp, hcd⟩, ⟨p, ps, rfl, hp, hpd⟩, hcl, hbl, hrl, hcn, q⟩ := h
    refine ⟨_, pss_cons (ps_set (i := 2) scCKnown.nd rfl (Or.inr rfl) (pe_lc (own := [("name", 4), ("upper", 5)]) (g := gTup K 2 (gCons (gName 4) (gCons (gName 5) gNil))) (tt := tYes) (by rfl) scCKnown.nd (pi_seq (pv 0))
        (blkOk_by (N := ["counters", "parts", "names", "rows", "name", "upper", "part", "row"]) (sc := defScope sCKnown) (by decide +kernel)) (fun _ _ _ _ _ => pg_tup (by rfl) (pgs_cons (pg_name (i := 4) scCKnown.nd rfl (Or.inl rfl)) (pgs_cons (pg_name (i := 5) scCKnown.nd rfl (Or.inl rfl)) pgs_nil))) (fun _ _ _ _ _ => pts_nil) (fun _ _ _ _ _ => pv 4)))
      (pss_cons (ps_setLc2 (i := 3) (own := [("part", 6), ("row", 7)]) (vs1 := [7]) (g := gName 6) (g1 := gName 7) (tt := tYes) (by rfl) scCKnown.nd rfl rfl (sw_true rfl rfl rfl (by decide +kernel)) (pi_seq (pv 1))
        (blkOk_by (N := ["counters", "parts", "names", "rows", "name", "upper", "part", "row"]) (sc := defScope sCKnown) (by decide +kernel)) (by decide) (fun _ _ _ _ _ => pg_name (i := 6) scCKnown.nd rfl (Or.inl rfl)) (fun _ _ _ _ _ => pts_nil)
        (fun _ _ _ _ _ => (show PI _ _ _ (iTup K (tFld K (tVar 6) "rows")) from pi_tup (pe_fld (pv 6) rfl))) (fun _ _ _ _ _ => pg_name (i := 7) scCKnown.nd rfl (Or.inl rfl))
        (fun _ _ _ _ _ => pts_one (pt_cmpR (show OpR _ (compareOp .In) (rIn K false) from op_in_seq) (show PE _ _ (tFld K (tVar 7) "word") from pe_fld (pv 7) rfl) (pe_glob (v := .ref B.cw) (by rfl) B.mCW rfl) rfl)) (fun _ _ _ _ _ => pv 7))
      (pss_one (ps_ret (pe_callB (cr_all rfl) (by rfl) R.N.mAll (by decide +kernel) (pa_cons (pe_lc (own := [("row", 7)]) (g := gName 7) (tt := tYes) (by rfl) scCKnown.nd (pi_list (pv 3))
        (blkOk_by (N := ["counters", "parts", "names", "rows", "name", "upper", "part", "row"]) (sc := defScope sCKnown) (by decide +kernel)) (fun _ _ _ _ _ => pg_name (i := 7) scCKnown.nd rfl (Or.inl rfl)) (fun _ _ _ _ _ => pts_nil)
        (fun _ _ _ _ _ => pe_cmpR (show OpR _ (compareOp .In) (rIn K false) from op_in_seq) (show PE _ _ (tFld K (tVar 7) "counter") from pe_fld (pv 7) rfl) (pv 2) rfl)) pa_nil))))), ?_⟩
    have hpl : ps.length = bk.length := paired_len hpd
    have htl : ts.length = cs.length := paired_len hcd
    unfold tSeq tAsg
    refine lcw_seq (fun R r => ⟨_, rfl, r⟩) hcp (by rw [List.length_map]; omega) (out := fun i => (cs[i]?).map fun c => V.str c.1) (fun i x Hi S Y hx si hS hY => ?_) (fun D H2 hD s2 hD2 => ?_)
    · rw [List.getElem?_map] at hx
      cases hxi : ts[i]? with
      | none => rw [hxi] at hx; cases hx
      | some t =>
      rw [hxi] at hx
      cases hx
      obtain ⟨c, hc, ht⟩ := paired_at hcd hxi
      refine ⟨t, _, rfl, Same.sqt si ht, rfl, _, _, rfl, _, _, rfl, rfl, rfl, _, rfl, ?_⟩
      exact hY _ (by show (cs[i]?).map _ = _; rw [hc]; rfl) _ (Same.refl _)
    rw [List.length_map, htl, out_map] at hD2
    have hN : H2 D = some (.lst ((cs.map (·.1)).map V.str)) := by rw [hD2, List.map_map]; rfl
    have hpd2 := paired_mono (fun _ _ z => PtAt.same z s2) hpd
    have hp2 := hp.same s2
    clear hD2
    unfold gName
    dsimp only
    -- the rows that count
    have second : ∀ (σ : L2.St) (Q' : VK), σ = [some (.ref cp), some (.ref p), some (.ref D), none, none, none, none, none] → (∀ (L : Addr) (H3 : Hp) (acc : List (Addr × RowD)), Same H2 H3 → H3 L = some (.lst (acc.map fun x => V.ref x.1)) → acc.length ≤ 5000 → (∀ x ∈ acc, RowAt R H3 x.1 x.2 ∧ ∃ c, cntOf x.2 = some c ∧ c ∈ cs.map (·.1)) → Q' (.ref L) H3) →
        tLc2 (iSeq K (tVar 1)) (gName 6) tYes (iTup K (tFld K (tVar 6) "rows")) (gName 7) (tTest (tOp (rIn K false) (tFld K (tVar 7) "word") (tC (.ref B.cw)))) (tVar 7) [6, 7] [7] σ H2 Q' := by
      intro σ Q' hσ hQ
      subst hσ
      have body : ∀ L, H2 L = none → ∀ {J : It} {G : Hp → Prop}, Walk J (ps.map V.ref).length G (YAt (ps.map V.ref)) → (∀ Hi, Same H2 Hi → G Hi) → _ := fun L hL {J G} wk hG =>
        lc2_walk (K := K) (xs := ps.map V.ref) (D := L) (H := H2) (Q := Q') (vs := [6, 7]) (vs1 := [7]) (k := 6) (k1 := 7) (te1 := tFld K (tVar 6) "rows") (tt1 := tTest (tOp (rIn K false) (tFld K (tVar 7) "word") (tC (.ref B.cw)))) (te := tVar 7)
          (σ := [some (.ref cp), some (.ref p), some (.ref D), none, none, none, none, none]) wk rfl
          (fun i j Hi => Same H2 Hi ∧ ∃ acc : List (Addr × RowD), Hi L = some (.lst (acc.map fun x => V.ref x.1)) ∧ acc.length ≤ 100 * i + j ∧ (∀ x ∈ acc, RowAt R Hi x.1 x.2 ∧ ∃ c, cntOf x.2 = some c ∧ c ∈ cs.map (·.1)))
          ⟨Same.new hL, [], upd_same, Nat.le_refl _, fun x h => by cases h⟩ (fun i Hi hP => hG Hi hP.1) (fun _ => rfl)
          (fun i x Hi hx hP => ?inn) (fun Hi hP => ?fin)
      case inn =>
        obtain ⟨a, qq, ha, hq, rfl, hpt⟩ := pts_at hpd2 hx
        obtain ⟨si, _⟩ := hP
        obtain ⟨dx, tp, us, hat, htp, hus⟩ := hpt
        have hqm := List.mem_of_getElem? hq
        have hul : us.length = qq.2.length := paired_len hus
        refine ⟨tp, us.map V.ref, fun R' r => ⟨_, rfl, a, T.C, dx, _, .ref tp, rfl, si _ _ hat, T.cl, T.noR, part_rows, r⟩, fun j Hj hP => Same.sqt hP.1 htp, fun Hj hP => ?_, fun j y Hj hy hP => ⟨rfl, ?_⟩⟩
        · obtain ⟨sj, acc, h1, h2, h3⟩ := hP
          refine ⟨sj, acc, h1, ?_, h3⟩
          rw [List.length_map] at h2
          have := hrl qq hqm
          omega
        · obtain ⟨sj, acc, h1, h2, h3⟩ := hP
          obtain ⟨u, r, hu, hr2, rfl, hrow⟩ := rows_at hus hy
          have hrow2 := hrow.same sj
          obtain ⟨dw, fw, w1, w2, w3, w4⟩ := at_word R hrow2
          have hj : j < us.length := (List.getElem?_eq_some_iff.mp hu).1
          have hi : i < ps.length := (List.getElem?_eq_some_iff.mp ha).1
          refine ⟨_, rfl, u, _, dw, fw, _, rfl, w1, w2, w3, w4, B.cw, cwV, rfl, .inr (B.hCW _), rfl, rfl, ?_⟩
          refine ⟨_, rfl, ?_⟩
          show if inV (.str (rowWord r)) cwV = true then _ else _
          rw [word_cnt]
          cases hc : cntOf r with
          | none =>
            refine iteF ?_
            exact ⟨sj, acc, h1, by omega, h3⟩
          | some c =>
            refine iteT ⟨_, rfl, _, h1, ?_, Same.updn sj hL, acc ++ [(u, r)], ?_, ?_, ?_⟩
            · rw [List.length_map]
              have big : (6001 : Nat) ≤ sizeLine := by decide
              have h5 : acc.length ≤ 100 * 50 + 100 := by
                have := hrl qq hqm
                omega
              omega
            · rw [upd_same, List.map_append]
              rfl
            · rw [List.length_append]
              show acc.length + 1 ≤ _
              omega
            · intro x hx2
              have up : ∀ {u' : Addr} {r' : RowD}, RowAt R Hj u' r' → RowAt R (upd Hj L (.lst (acc.map (fun x => V.ref x.1) ++ [.ref u]))) u' r' := fun hh => by
                obtain ⟨dy, e⟩ := hh
                obtain ⟨gs, eg⟩ := insRow_ins R dy _
                exact ⟨dy, by rw [upd_ne (fun z => by rw [z, h1, eg] at e; cases e)]; exact e⟩
              rcases List.mem_append.mp hx2 with hx2 | hx2
              · exact ⟨up (h3 x hx2).1, (h3 x hx2).2⟩
              · rw [List.mem_singleton.mp hx2]
                exact ⟨up hrow2, c, hc, hcn qq hqm r (List.mem_of_getElem? hr2) c hc⟩
      case fin =>
        obtain ⟨si, acc, h1, h2, h3⟩ := hP
        rw [List.length_map] at h2
        exact hQ L Hi acc si h1 (by omega) h3
      exact hp2.elim (fun h => .inl ⟨_, rfl, p, rfl, ⟨_, h⟩, fun L hL => body L hL walk_list (fun Hi s => s.seq h)⟩) (fun h => .inr ⟨_, rfl, p, rfl, ⟨_, h⟩, fun L hL => body L hL walk_tup (fun Hi s => Same.sqt s h)⟩)
    refine second _ _ rfl (fun L H3 acc s3 hL3 hlen hall => ?_)
    unfold tRet tCB tCons
    refine lcw_list (fun R r => ⟨_, rfl, r⟩) (SqL.of hL3) (by rw [List.length_map]; omega) (out := fun i => (acc[i]?).map fun _ => V.bl true) (fun i x Hi S Y hx si hS hY => ?_) (fun D4 H4 hD4 s4 hD5 => ?_)
    · rw [List.getElem?_map] at hx
      cases hxi : acc[i]? with
      | none => rw [hxi] at hx; cases hx
      | some xr =>
      rw [hxi] at hx
      cases hx
      obtain ⟨hrow, c, hc, hcm⟩ := hall xr (List.mem_of_getElem? hxi)
      obtain ⟨dp, fp, p1, p2, p3, p4⟩ := at_counter R (hrow.same si) hc
      refine ⟨rfl, _, rfl, xr.1, _, dp, fp, _, rfl, p1, p2, p3, p4, _, rfl, D, _, rfl, .inl (SqL.of (si _ _ (s3 _ _ hN))), rfl, flat_strs, ?_⟩
      have e : inV (.str c) ((cs.map (·.1)).map V.str) = true := by rw [inV_strs]; exact decide_eq_true hcm
      show Y (.bl (inV (.str c) ((cs.map (·.1)).map V.str))) Hi
      rw [e]
      exact hY _ (by show (acc[i]?).map _ = _; rw [hxi]; rfl) _ (Same.refl _)
    · rw [List.length_map, out_map] at hD5
      refine ⟨D4, acc.map fun _ => true, rfl, SqL.of (by rw [hD5, List.map_map]; rfl), ?_⟩
      rw [all_tt]
      exact q _ ((s2.trans s3).trans s4)
end
end Pn

namespace Pn
open PySem L2 TL
section
variable {P : Program} {w : World} {K : PySem.W.Frag} {mg : Str → Option Value} {base : Heap}
/-! ### the last part -/
theorem last_at {ps : List Addr} {bk : List PartD} {F : Addr → PartD → Prop} (h : Paired F ps bk) (ne : bk ≠ []) : ∃ (a : Addr) (q : PartD) (ps' : List Addr) (bk' : List PartD), ps = ps' ++ [a] ∧ bk = bk' ++ [q] ∧ F a q ∧ lastName bk = q.1 := by
  have hl : ps.length = bk.length := paired_len h
  obtain ⟨bk', q, rfl⟩ : ∃ bi q, bk = bi ++ [q] := ⟨_, _, (List.dropLast_concat_getLast ne).symm⟩
  obtain ⟨ps', a, rfl⟩ : ∃ pi a, ps = pi ++ [a] := ⟨_, _, (List.dropLast_concat_getLast (by intro z; rw [z] at hl; simp at hl)).symm⟩
  have hli : ps'.length = bk'.length := by simpa using hl
  obtain ⟨q2, hq, hF⟩ := paired_at h (show (ps' ++ [a])[ps'.length]? = some a by simp)
  rw [hli] at hq
  obtain rfl : q = q2 := by simpa using hq
  exact ⟨a, q, ps', bk', rfl, rfl, hF, by unfold lastName; simp⟩
theorem seq_last {H : Hp} {p : Addr} {ps' : List Addr} {a : Addr} (h : Sq K H p ((ps' ++ [a]).map V.ref)) {Q : VK} (q : Q (.ref a) H) : rIx K (.ref p) (.int (-1)) H Q := by
  have e : atI ((ps' ++ [a]).map V.ref) (-1) = some (.ref a) := by rw [List.map_append]; exact atI_last _ _
  rcases h with h | h
  · exact .inl ⟨p, _, _, _, rfl, rfl, h, e, q⟩
  · exact .inr (.inl ⟨p, _, _, _, rfl, rfl, h, e, q⟩)
/-! ### names_reached -/
def spNReach {R : TRows K mg} (T : TPart R) : Sp := fun vs H Q _ => ∃ (pu : V) (bk : List PartD), vs = [pu] ∧ PtsArg T H pu bk ∧ bk ≠ [] ∧ bk.length ≤ 50 ∧ (∀ p ∈ bk, p.2.length ≤ 100) ∧ ∀ (F : Addr) (H' : Hp), H F = none → Same H H' → H' F = some (.lst ((reached bk).map V.str)) → Q (.ref F) H'
theorem scNReach : FnScope ["parts", "names", "part"] ["parts"] (defScope sNReach) := ⟨rfl, rfl, rfl, by decide +kernel, rfl, by decide +kernel, by decide +kernel⟩
theorem reach_len {l : List PartD} {ns : List Str} (h : ∀ p ∈ l, p.2.length ≤ 100) : (reach l ns).length ≤ ns.length + 100 * l.length := by
  induction l with
  | nil => exact Nat.le_refl _
  | cons p l ih =>
    show (reachStep p (reach l ns)).length ≤ _
    have q := ih fun x hx => h x (List.mem_cons_of_mem _ hx)
    have q2 := puts_len p.2
    have q3 := h p List.mem_cons_self
    unfold reachStep
    rw [List.length_cons]
    split
    · rw [List.length_append]; omega
    · omega
theorem ok_nReach {R : TRows K mg} {T : TPart R} (B : TBks T) : FnOk P w K mg base CX0 2 B.nReach.f B.nReach.fd ["parts"] (spNReach T) := by
  refine B.nReach.F.ok scNReach (fun vs H Q E h => ?_) (fun cdv A outer s H vs Q E hr h => ?_)
  · obtain ⟨pu, bk, rfl, _⟩ := h
    rfl
  · obtain ⟨pu, bk, rfl, ⟨p, ps, rfl, hp, hpd⟩, ne, hlen, hrl, q⟩ := h
    refine ⟨_, pss_cons (ps_set (i := 1) scNReach.nd rfl (Or.inl rfl) (pe_lst (pa_cons (pe_fld (pe_ix ix_seq (pv 0) (pe_un un_neg pe_int) (fun _ _ => rfl)) rfl) pa_nil)))
      (pss_cons (ps_for PassesOwn.never rfl (RT.pi_revA (by rfl) B.mRev (pv 0)) (pg_name (i := 2) scNReach.nd rfl (Or.inl rfl))
        (pss_one (ps_if (pt_cmpR op_in_seq (pe_fld (pv 2) rfl) (pv 1) rfl)
          (pss_one (ps_expr (pe_bm PySem.F.plainAttrs_list PySem.F.slot_list_extend PySem.F.type_list_extend mt_extend (pv 1) (pa_cons (pe_call (ok_nPut B) hr rfl B.nPut.m B.nPut.F.kp B.nPut.b .nil pass0 (pa_cons (pv 2) pa_nil)) pa_nil)))) pss_nil)))
      (pss_one (ps_ret (pv 1)))), ?_⟩
    obtain ⟨a, ql, ps', bk', e1, e2, hla, hln⟩ := last_at hpd ne
    have hpl : ps.length = bk.length := paired_len hpd
    have big : (10001 : Nat) ≤ sizeLine := by decide
    obtain ⟨dx, tp, us, hat, _, _⟩ := id hla
    have hp0 := hp
    rw [e1] at hp0
    refine ⟨_, rfl, _, rfl, seq_last hp0 ⟨a, T.C, dx, _, .str ql.1, rfl, hat, T.cl, T.noN, part_name, (by show 1 ≤ sizeLine; decide), fun F hF => ?_⟩⟩
    have s1 := Same.new (o := .lst [.str ql.1]) hF
    have hF1 : upd H F (.lst [.str ql.1]) F = some (.lst ([lastName bk].map V.str)) := by rw [upd_same, hln]; rfl
    have hFn := hF
    generalize upd H F (.lst [.str ql.1]) = H1 at s1 hF1 ⊢
    have start : reach (bk.drop (bk.length - 0)) [lastName bk] = [lastName bk] := by rw [Nat.sub_zero, List.drop_length]; rfl
    refine ⟨_, rfl, p, _, rfl, (hp.elim (fun h => .inl ⟨s1.seq h, RT.for_Itv (xs := ps.map V.ref) (fun i σ Hi => ∃ x2, σ = [some (.ref p), some (.ref F), x2] ∧ Same H Hi ∧ Hi F = some (.lst ((reach (bk.drop (bk.length - i)) [lastName bk]).map V.str))) ⟨_, rfl, s1, by rw [start]; exact hF1⟩ (fun i σ Hi hP => ?keep) (fun i x σ Hi hi hx hP => ?turn) (fun σ Hi hP => ?done)⟩)
      (fun h => .inr ⟨Same.sqt s1 h, RT.for_ItvT (xs := ps.map V.ref) (fun i σ Hi => ∃ x2, σ = [some (.ref p), some (.ref F), x2] ∧ Same H Hi ∧ Hi F = some (.lst ((reach (bk.drop (bk.length - i)) [lastName bk]).map V.str))) ⟨_, rfl, s1, by rw [start]; exact hF1⟩ (fun i σ Hi hP => ?keep2) (fun i x σ Hi hi hx hP => ?turn2) (fun σ Hi hP => ?done2)⟩))⟩
    case keep =>
      obtain ⟨_, _, s3, hFi⟩ := hP
      exact s3.seq h
    case keep2 =>
      obtain ⟨_, _, s3, hFi⟩ := hP
      exact Same.sqt s3 h
    case done | done2 =>
      obtain ⟨_, rfl, s3, hFi⟩ := hP
      rw [List.length_map, hpl, Nat.sub_self, List.drop_zero] at hFi
      exact ⟨_, rfl, q F _ hFn s3 hFi⟩
    case turn | turn2 =>
      obtain ⟨x2, rfl, s3, hFi⟩ := hP
      rw [List.length_map] at hi hx
      obtain ⟨a2, qq, ha2, hq, rfl, hpt⟩ := pts_at hpd hx
      have hqm := List.mem_of_getElem? hq
      have hdrop : bk.drop (bk.length - (i + 1)) = qq :: bk.drop (bk.length - i) := by
        have e4 : ps.length - 1 - i = bk.length - (i + 1) := by omega
        rw [e4] at hq
        have lt : bk.length - (i + 1) < bk.length := by omega
        rw [List.drop_eq_getElem_cons lt]
        have e5 : bk[bk.length - (i + 1)] = qq := by
          rw [List.getElem?_eq_getElem lt] at hq
          exact Option.some.inj hq
        rw [e5]
        congr 2
        omega
      have hstep : reach (bk.drop (bk.length - (i + 1))) [lastName bk] = reachStep qq (reach (bk.drop (bk.length - i)) [lastName bk]) := by rw [hdrop]; rfl
      obtain ⟨dx2, tp2, us2, hat2, _, _⟩ := hpt.same s3
      refine ⟨_, rfl, a2, T.C, dx2, _, .str qq.1, rfl, hat2, T.cl, T.noN, part_name, _, rfl, F, _, rfl, .inl (SqL.of hFi), rfl, flat_strs, _, rfl, ?_⟩
      show if inV (.str qq.1) ((reach (bk.drop (bk.length - i)) [lastName bk]).map V.str) = true then _ else _
      rw [inV_strs]
      have hlr := reach_len (l := bk.drop (bk.length - i)) (ns := [lastName bk]) (fun p hp => hrl p (List.mem_of_mem_drop hp))
      have hll : (bk.drop (bk.length - i)).length ≤ 50 := by rw [List.length_drop]; omega
      by_cases hin : qq.1 ∈ reach (bk.drop (bk.length - i)) [lastName bk]
      · refine iteTD (decide_eq_true hin) ?_
        refine ⟨_, rfl, .inl ⟨rfl, _, SqL.of hFi⟩, _, rfl, a2, qq, rfl, hpt.same s3, hrl qq hqm, fun D H4 hD s4 hD4 => ⟨F, D, _, _, rfl, rfl, s4 _ _ hFi, hD4, ?_, ?_⟩⟩
        · rw [List.length_map, List.length_map]
          have h1 := puts_len qq.2
          have h2 := hrl qq hqm
          rw [List.length_singleton] at hlr
          omega
        · refine ⟨_, rfl, Same.updn (s3.trans s4) hFn, ?_⟩
          rw [upd_same, hstep]
          unfold reachStep
          rw [if_pos hin, List.map_append]
      · refine iteFD (decide_eq_false hin) ?_
        refine ⟨_, rfl, s3, ?_⟩
        rw [hstep]
        unfold reachStep
        rw [if_neg hin]
        exact hFi
end
end Pn

namespace Pn
open PySem L2 TL
section
variable {P : Program} {w : World} {K : PySem.W.Frag} {mg : Str → Option Value} {base : Heap}
/-! ### unroll -/
def spUnr1 {R : TRows K mg} (T : TPart R) : Sp := fun vs H Q _ => ∃ (a kp : Addr) (q : PartD) (kvs : List (Key × V)) (kn : List PartD), vs = [.ref a, .ref kp] ∧ PtAt T H a q.1 q.2 ∧ H kp = some (.dK kvs) ∧ q.2.length ≤ 100 ∧ (unrollIn kn q.2).length ≤ 4000 ∧
  (∀ z, RowD.put z ∈ q.2 → ∃ (rs : List RowD) (f : Addr) (us : List Addr), kn.lookup z = some rs ∧ valV kvs (.inr z) = some (.ref f) ∧ H f = some (.lst (us.map V.ref)) ∧ RowsIn R H us rs) ∧
  ∀ (F : Addr) (H' : Hp) (us : List Addr), H F = none → Same H H' → H' F = some (.lst (us.map V.ref)) → RowsIn R H' us (unrollIn kn q.2) → Q (.ref F) H'
theorem scUnr1 : FnScope ["part", "flat", "rows", "row"] ["part", "flat"] (defScope sUnr1) := ⟨rfl, rfl, rfl, by decide +kernel, rfl, by decide +kernel, by decide +kernel⟩
theorem unroll_take {kn : List PartD} {rs : List RowD} {j : Nat} {r : RowD} (h : rs[j]? = some r) : unrollIn kn (rs.take (j + 1)) = unrollIn kn (rs.take j) ++ expand kn r := by
  unfold unrollIn
  rw [List.take_add_one, h, List.flatMap_append]
  show _ ++ List.flatMap _ [r] = _
  rw [List.flatMap_singleton]
theorem unroll_le {kn : List PartD} {rs : List RowD} {j : Nat} : (unrollIn kn (rs.take j)).length ≤ (unrollIn kn rs).length := by
  have e : unrollIn kn rs = unrollIn kn (rs.take j) ++ unrollIn kn (rs.drop j) := by
    unfold unrollIn
    rw [← List.flatMap_append, List.take_append_drop]
  rw [e, List.length_append]
  omega
theorem ok_unr1 {R : TRows K mg} {T : TPart R} (B : TBks T) : FnOk P w K mg base CX0 1 B.unroll.f B.unroll.fd ["part", "flat"] (spUnr1 T) := by
  refine B.unroll.F.ok scUnr1 (fun vs H Q E h => ?_) (fun cdv A outer s H vs Q E hr h => ?_)
  · obtain ⟨a, kp, q, kvs, kn, rfl, _⟩ := h
    rfl
  · obtain ⟨a, kp, qq, kvs, kn, rfl, ⟨dx, tp, us, ha, htp, hus⟩, hK, hl, hul, hkn, q⟩ := h
    refine ⟨_, pss_cons (ps_set (i := 2) scUnr1.nd rfl (Or.inl rfl) (pe_lst pa_nil))
      (pss_cons (ps_for PassesOwn.never rfl (pi_tup (pe_fld (pv 0) rfl)) (pg_name (i := 3) scUnr1.nd rfl (Or.inl rfl))
        (pss_one (ps_if (pt_cmpR op_eq (pe_fld (pv 3) rfl) pe_str (nomark _))
          (pss_one (ps_expr (pe_bm PySem.F.plainAttrs_list PySem.F.slot_list_extend PySem.F.type_list_extend mt_extend (pv 2) (pa_cons (pe_dget (roomU hr) (pv 1) (pe_fld (pv 3) rfl) (fun _ _ => rfl)) pa_nil))))
          (pss_one (ps_expr (pe_bm PySem.F.plainAttrs_list PySem.F.slot_list_append PySem.F.type_list_append mt_append (pv 2) (pa_cons (pv 3) pa_nil)))))))
      (pss_one (ps_ret (pv 2)))), ?_⟩
    refine ⟨Nat.zero_le _, fun F hF => ?_⟩
    have s1 := Same.new (o := .lst []) hF
    have hF1 : upd H F (.lst []) F = some (.lst (([] : List Addr).map V.ref)) := upd_same
    generalize upd H F (.lst []) = H1 at s1 hF1 ⊢
    have huq : us.length = qq.2.length := paired_len hus
    have big : (10001 : Nat) ≤ sizeLine := by decide
    unfold gName tSeq
    dsimp only
    refine forw_tup (fun R r => ⟨_, rfl, a, T.C, dx, _, .ref tp, rfl, s1 _ _ ha, T.cl, T.noR, part_rows, r⟩) (Same.sqt s1 htp) (fun j σ Hj => ∃ x3 fs, σ = [some (.ref a), some (.ref kp), some (.ref F), x3] ∧ Same H Hj ∧ Hj F = some (.lst ((fs : List Addr).map V.ref)) ∧ RowsIn R H fs (unrollIn kn (qq.2.take j))) ⟨_, [], rfl, s1, hF1, .nil⟩ (fun j σ Hj hP => by obtain ⟨_, _, _, s, _⟩ := hP; exact Same.sqt s htp) (fun j x σ Hj hx hP => ?_) (fun σ Hj hP => ?_)
    · obtain ⟨x3, fs, rfl, sj, hFj, hfs⟩ := hP
      obtain ⟨u, r, hu, hr2, rfl, hrow⟩ := rows_at hus hx
      obtain ⟨dw, fw, w1, w2, w3, w4⟩ := at_word R (hrow.same sj)
      have hfl : fs.length = _ := paired_len hfs
      have hle := unroll_le (kn := kn) (rs := qq.2) (j := j)
      have hle2 := unroll_le (kn := kn) (rs := qq.2) (j := j + 1)
      rw [unroll_take hr2, List.length_append] at hle2
      refine ⟨_, rfl, u, _, dw, fw, _, rfl, w1, w2, w3, w4, rfl, _, rfl, ?_⟩
      rw [put_word]
      cases hp : putOf r with
      | none =>
        refine iteF ?_
        have he : expand kn r = [r] := by
          cases r with
          | put y => cases hp
          | _ => rfl
        refine ⟨_, rfl, .inl ⟨rfl, _, SqL.of hFj⟩, _, rfl, F, _, _, rfl, rfl, hFj, ?_, ?_⟩
        · rw [List.length_map]; omega
        · refine ⟨_, fs ++ [u], rfl, Same.updn sj hF, by rw [upd_same, List.map_append]; rfl, ?_⟩
          rw [unroll_take hr2, he]
          exact paired_snoc hrow hfs
      | some z =>
        refine iteT ?_
        obtain rfl : r = .put z := by
          cases r with
          | put y => cases hp; rfl
          | _ => cases hp
        obtain ⟨dp, fp, p1, p2, p3, p4⟩ := at_part R (hrow.same sj)
        obtain ⟨rs, f, gs, hlk, hv, hf, hgs⟩ := hkn z (List.mem_of_getElem? hr2)
        have he : expand kn (.put z) = rs := by show (kn.lookup z).getD [] = rs; rw [hlk]; rfl
        rw [he] at hle2
        have hgl : gs.length = rs.length := paired_len hgs
        refine ⟨_, rfl, .inl ⟨rfl, _, SqL.of hFj⟩, _, rfl, _, rfl, u, _, dp, fp, _, rfl, p1, p2, p3, p4, kp, _, rfl, (by have g := DGet.k (k := Sum.inr z) (sj _ _ hK); rw [hv] at g; exact g), ?_⟩
        refine ⟨F, f, _, _, rfl, rfl, hFj, sj _ _ hf, ?_, ?_⟩
        · rw [List.length_map, List.length_map]; omega
        · refine ⟨_, fs ++ gs, rfl, Same.updn sj hF, by rw [upd_same, List.map_append], ?_⟩
          rw [unroll_take hr2, he]
          exact paired_app hfs hgs
    · obtain ⟨x3, fs, rfl, sj, hFj, hfs⟩ := hP
      rw [List.length_map, huq, List.take_length] at hfs
      exact ⟨_, rfl, q F Hj fs hF sj hFj (hfs.same sj)⟩
/-! ### unrolled_text -/
def spUText {R : TRows K mg} (T : TPart R) : Sp := fun vs H Q _ => ∃ (pu : V) (bk : List PartD), vs = [pu] ∧ PtsArg T H pu bk ∧ bk ≠ [] ∧ (bk.map (·.1)).Nodup ∧ bk.length ≤ 50 ∧ (∀ p ∈ bk, p.2.length ≤ 100) ∧ Earlier bk ∧ (∀ z rs, (z, rs) ∈ knowns bk → rs.length ≤ 4000) ∧
  ∀ (t : Addr) (H' : Hp) (us : List Addr), Same H H' → SqT K H' t (us.map V.ref) → RowsIn R H' us (unrolled bk) → Q (.ref t) H'
theorem scUText : FnScope ["parts", "names", "flat", "part"] ["parts"] (defScope sUText) := ⟨rfl, rfl, rfl, by decide +kernel, rfl, by decide +kernel, by decide +kernel⟩
theorem rowsin_dk {R : TRows K mg} {H : Hp} {k : Addr} {kvs kv2 : List (Key × V)} (hK : H k = some (.dK kvs)) {us : List Addr} {rs : List RowD} (h : RowsIn R H us rs) : RowsIn R (upd H k (.dK kv2)) us rs :=
  paired_mono (fun a r e => by
    obtain ⟨dy, e⟩ := e
    obtain ⟨gs, eg⟩ := insRow_ins R dy r
    exact ⟨dy, by rw [upd_ne (fun z => by rw [z, hK, eg] at e; cases e)]; exact e⟩) h
theorem last_reached {bk : List PartD} : lastName bk ∈ reached bk := reach_sub _ (List.mem_singleton.mpr rfl)
theorem ok_uText {R : TRows K mg} {T : TPart R} (B : TBks T) : FnOk P w K mg base CX0 3 B.uText.f B.uText.fd ["parts"] (spUText T) := by
  refine B.uText.F.ok scUText (fun vs H Q E h => ?_) (fun cdv A outer s H vs Q E hr h => ?_)
  · obtain ⟨pu, bk, rfl, _⟩ := h
    rfl
  · obtain ⟨pu, bk, rfl, harg, ne, hnd, hlen, hrl, hea, hsm, q⟩ := h
    obtain ⟨p, ps, rfl, hp, hpd⟩ := id harg
    refine ⟨_, pss_cons (ps_set (i := 1) scUText.nd rfl (Or.inl rfl) (pe_call (ok_nReach B) hr rfl B.nReach.m B.nReach.F.kp B.nReach.b .nil pass0 (pa_cons (pv 0) pa_nil)))
      (pss_cons (ps_set (i := 2) scUText.nd rfl (Or.inl rfl) pe_dnewK)
      (pss_cons (ps_for PassesOwn.never rfl (pi_seq (pv 0)) (pg_name (i := 3) scUText.nd rfl (Or.inl rfl))
        (pss_one (ps_if (pt_cmpR op_in_seq (pe_fld (pv 3) rfl) (pv 1) rfl)
          (pss_one (ps_dput (roomU hr) (pv 2) (pe_fld (pv 3) rfl) (pe_call (ok_unr1 B) (hr.mono (by decide)) rfl B.unroll.m B.unroll.F.kp B.unroll.b .nil pass0 (pa_cons (pv 3) (pa_cons (pv 2) pa_nil))) (by rfl))) pss_nil)))
      (pss_one (ps_ret (pe_callTy call_tuple_of (by rfl) T.mTup (by decide +kernel) (pa_cons (pe_dget (roomU hr) (pv 2) (pe_fld (pe_ix ix_seq (pv 0) (pe_un un_neg pe_int) (fun _ _ => rfl)) rfl) (fun _ _ => rfl)) pa_nil)))))), ?_⟩
    refine ⟨_, rfl, .ref p, bk, rfl, harg, ne, hlen, hrl, fun N H1 hN s1 hN1 => ?_⟩
    unfold gName
    dsimp only
    refine fun kp hkp => ?_
    have s2 := s1.trans (Same.new (o := .dK []) hkp)
    have hN2 := Same.new (o := .dK []) hkp _ _ hN1
    have hK0 : upd H1 kp (.dK []) kp = some (.dK []) := upd_same
    have hkH : H kp = none := s1.free hkp
    generalize upd H1 kp (.dK []) = H2 at s2 hN2 hK0 ⊢
    have hpl : ps.length = bk.length := paired_len hpd
    have big : (10001 : Nat) ≤ sizeLine := by decide
    have nN : N ≠ kp := fun z => by rw [z, hK0] at hN2; cases hN2
    unfold tSeq
    dsimp only
    refine forw_seq (fun R r => ⟨_, rfl, r⟩) hp (fun i σ Hi => ∃ x3 kvs, σ = [some (.ref p), some (.ref N), some (.ref kp), x3] ∧ Same H Hi ∧ Hi N = some (.lst ((reached bk).map V.str)) ∧ Hi kp = some (.dK kvs) ∧ kvs.length ≤ i ∧
        ∀ z rs, (knowns (bk.take i)).lookup z = some rs → z ∈ reached bk → ∃ (f : Addr) (us : List Addr), valV kvs (.inr z) = some (.ref f) ∧ Hi f = some (.lst (us.map V.ref)) ∧ RowsIn R Hi us rs)
      ⟨_, [], rfl, s2, hN2, hK0, Nat.le_refl _, fun z rs h => by cases h⟩ (fun i σ Hi hP => by obtain ⟨_, _, _, s, _⟩ := hP; exact s) (fun i x σ Hi hx hP => ?_) (fun σ Hi hP => ?_)
    · obtain ⟨x3, kvs, rfl, si, hNi, hKi, hkl, hkn⟩ := hP
      obtain ⟨a, qq, ha, hq, rfl, hpt⟩ := pts_at hpd hx
      have hqm := List.mem_of_getElem? hq
      have hi : i < bk.length := (List.getElem?_eq_some_iff.mp hq).1
      obtain ⟨dx, tp, us, hat, _, _⟩ := hpt.same si
      have hkt : knowns (bk.take (i + 1)) = (qq.1, unrollIn (knowns (bk.take i)) qq.2) :: knowns (bk.take i) := by
        rw [List.take_add_one, hq]
        exact knowns_snoc _ _
      refine ⟨_, rfl, a, T.C, dx, _, .str qq.1, rfl, hat, T.cl, T.noN, part_name, _, rfl, N, _, rfl, .inl (SqL.of hNi), rfl, flat_strs, _, rfl, ?_⟩
      show if inV (.str qq.1) ((reached bk).map V.str) = true then _ else _
      rw [inV_strs]
      by_cases hin : qq.1 ∈ reached bk
      · refine iteTD (decide_eq_true hin) ?_
        refine ⟨_, rfl, _, rfl, a, kp, qq, kvs, knowns (bk.take i), rfl, hpt.same si, hKi, hrl qq hqm, hsm _ _ (knowns_mono _ (knowns_in hq)), fun z hz => ?_, fun F H4 gs hF4 s4 hF5 hgs => ?_⟩
        · have hzm := hea i qq hq z hz
          have hzk : z ∈ (knowns (bk.take i)).map (·.1) := by rw [knowns_len]; exact List.mem_reverse.mpr hzm
          obtain ⟨rs, hlk, _⟩ := lookup_of_mem hzk
          have hzr : z ∈ reached bk := reach_closed (no_later hnd hea) qq hqm hin z hz
          obtain ⟨f, us, h1, h2, h3⟩ := hkn z rs hlk hzr
          exact ⟨rs, f, us, hlk, h1, h2, h3⟩
        · have nF : F ≠ kp := fun z => by rw [z, hKi] at hF4; cases hF4
          have hK4 := s4 _ _ hKi
          refine ⟨_, rfl, _, rfl, a, T.C, dx, _, .str qq.1, rfl, s4 _ _ hat, T.cl, T.noN, part_name, kp, _, rfl, DPut.k (k := Sum.inr qq.1) hK4 (by omega), ?_⟩
          refine ⟨_, putK kvs (.inr qq.1) (.ref F), rfl, Same.updn (si.trans s4) hkH, ?_, upd_same, ?_, ?_⟩
          · rw [upd_ne nN]
            exact s4 _ _ hNi
          · have := putK_len kvs (Sum.inr qq.1 : Key) (V.ref F)
            omega
          · intro z rs hz hzr
            rw [hkt, List.lookup_cons] at hz
            rw [valV_put]
            by_cases e : z = qq.1
            · subst e
              rw [beq_self_eq_true] at hz
              have hz2 := Option.some.inj hz
              subst hz2
              rw [if_pos rfl]
              exact ⟨F, gs, rfl, by rw [upd_ne nF]; exact hF5, rowsin_dk hK4 hgs⟩
            · rw [show (z == qq.1) = false from by simpa using e] at hz
              rw [if_neg (fun q => e (by injection q))]
              obtain ⟨f, us2, h1, h2, h3⟩ := hkn z rs hz hzr
              exact ⟨f, us2, h1, by rw [upd_ne (fun x => by rw [x, hKi] at h2; cases h2)]; exact s4 _ _ h2, rowsin_dk hK4 (h3.same s4)⟩
      · refine iteFD (decide_eq_false hin) ?_
        refine ⟨_, kvs, rfl, si, hNi, hKi, by omega, fun z rs hz hzr => ?_⟩
        rw [hkt, List.lookup_cons] at hz
        rw [show (z == qq.1) = false from by simpa using fun e : z = qq.1 => hin (e ▸ hzr)] at hz
        exact hkn z rs hz hzr
    · obtain ⟨x3, kvs, rfl, si, hNi, hKi, hkl, hkn⟩ := hP
      rw [List.length_map, hpl, List.take_length] at hkn
      obtain ⟨a, ql, ps', bk', e1, e2, hla, hln⟩ := last_at hpd ne
      have hp0 := hp.same si
      rw [e1] at hp0
      obtain ⟨dx, tp, us0, hat, _, _⟩ := hla.same si
      have hk2 : knowns bk = (ql.1, unrollIn (knowns bk') ql.2) :: knowns bk' := by rw [e2]; exact knowns_snoc _ _
      have hu : unrolled bk = unrollIn (knowns bk') ql.2 := by
        unfold unrolled
        rw [hk2]
        rfl
      obtain ⟨f, us, h1, h2, h3⟩ := hkn ql.1 (unrollIn (knowns bk') ql.2) (by rw [hk2]; simp) (by rw [← hln]; exact last_reached)
      refine ⟨_, rfl, _, rfl, _, rfl, seq_last hp0 ⟨a, T.C, dx, _, .str ql.1, rfl, hat, T.cl, T.noN, part_name, kp, _, rfl, (by have g := DGet.k (k := Sum.inr ql.1) hKi; rw [h1] at g; exact g), ?_⟩⟩
      refine ⟨f, us.map V.ref, rfl, .inl ⟨SqL.of h2, fun l hl2 => ?_⟩⟩
      have s9 := Same.new (o := .tup (us.map V.ref)) hl2
      exact q l _ us (si.trans s9) (SqT.of upd_same) (by rw [hu]; exact h3.same s9)
end
end Pn

namespace Pn
open PySem L2
/-! ### tuple(list), of which it is known that it keeps no own attributes, and dict(..) of such a tuple of pairs -/
def TupX (H : Hp) (a : Addr) (xs : List V) : Prop := ∃ o : Obj, o.dict = none ∧ H a = some (.frz o (.tup xs))
theorem TupX.same {H H' : Hp} {a : Addr} {xs : List V} (h : TupX H a xs) (s : Same H H') : TupX H' a xs := by
  obtain ⟨o, d, e⟩ := h
  exact ⟨o, d, s _ _ e⟩
theorem TupX.sqt {K : PySem.W.Frag} {H : Hp} {a : Addr} {xs : List V} (h : TupX H a xs) : SqT K H a xs := by
  obtain ⟨o, _, e⟩ := h
  exact .inl (.inr ⟨o, e⟩)
def rTupX (K : PySem.W.Frag) : List V → Hp → VK → Prop := fun xs H Q => ∃ (p : Addr) (ys : List V), xs = [.ref p] ∧ SqL K H p ys ∧ ∀ (l : Addr) (H' : Hp), H l = none → Same H H' → Mo H H' → (∀ b, b ≠ l → H' b = H b) → TupX H' l ys → Q (.ref l) H'
theorem cr_tupX {X : Cx} : CallR X (.type "tuple") (rTupX X.K) := by
  rintro pins s σ H xs us Q I r ⟨p, ys, rfl, hq, q⟩
  obtain ⟨u, rfl, rx⟩ := vals1 r
  cases rx
  obtain ⟨its, rv, pl, hz⟩ := I.list hq
  have hlen := rv.length
  refine call_tuple_list pl.isList (fun h' kp => ?_) (by simp only [List.size_toArray] <;> omega)
  have I1 : Inv X pins σ H { s with heap := h' } := I.kept (t' := s.toks) kp
  have fr := I1.hok.fresh (Nat.le_refl _)
  let o : Obj := { cls := .type "tuple", data := .seq its.toArray }
  have I2 : Inv X pins σ (upd H h'.objs.size (.frz o (.tup ys))) { s with heap := h'.push o } :=
    I1.laid (t' := s.toks) (fun b ob e => Heap.get?_push_of_some _ e) (Nat.le_refl _) ⟨Heap.get?_push_size _ rfl, hz, its, rv, PyProof.Rows.IsTup.new _ _⟩
  exact ⟨.ref h'.objs.size, _, I2, rfl, q _ _ fr (Same.new fr) Mo.upd (fun b nb => upd_ne nb) ⟨o, rfl, upd_same⟩⟩
/-- .. or of such a tuple: the very same -/
def rTupX2 (K : PySem.W.Frag) : List V → Hp → VK → Prop := fun xs H Q => ∃ (p : Addr) (ys : List V), xs = [.ref p] ∧ (SqL K H p ys ∨ TupX H p ys) ∧ ∀ (l : Addr) (H' : Hp), Same H H' → TupX H' l ys → Q (.ref l) H'
theorem cr_tupX2 {X : Cx} : CallR X (.type "tuple") (rTupX2 X.K) := by
  rintro pins s σ H xs us Q I r ⟨p, ys, rfl, hq | hq, q⟩
  · exact cr_tupX pins s σ H _ us Q I r ⟨p, ys, rfl, hq, fun l H' _ s' _ _ h => q l H' s' h⟩
  · exact call_tuple_of pins s σ H _ us Q I r ⟨p, ys, rfl, .inr ⟨hq.sqt, q p H (Same.refl _) hq⟩⟩
theorem vps_of {X : Cx} {pins : List (Addr × Obj)} {σ : L2.St} {H : Hp} {s : Shared} (I : Inv X pins σ H s) {ps : List Addr} {kvs : List (Key × V)} (h : Paired (fun p kv => SqT X.K H p [kV kv.1, kv.2]) ps kvs) :
    ∃ (prs : List (Key × Value)) (vps : List (Value × Value)), KV kvs prs ∧ prs.length = ps.length ∧ vps.length = ps.length ∧
      ∀ (j : Nat) (k v : Value), vps[j]? = some (k, v) → ∃ (b : Addr) (kk : Key), ps[j]? = some b ∧ s.heap.IsTuple b #[k, v] ∧ prs[j]? = some (kk, v) ∧ keyIs kk k = true := by
  induction h with
  | nil => exact ⟨[], [], .nil, rfl, rfl, fun j k v e => by simp at e⟩
  | cons a b ih =>
    rename_i p kv l m
    obtain ⟨prs, vps, h1, h2, h3, h4⟩ := ih
    obtain ⟨its, rv, ht, _⟩ := I.tuple a
    obtain ⟨u, y, rfl, ru, ry⟩ := vals2 rv
    refine ⟨(kv.1, y) :: prs, (u, y) :: vps, .cons ⟨rfl, ry⟩ h1, by simp [h2], by simp [h3], fun j k v e => ?_⟩
    cases j with
    | zero =>
      obtain ⟨rfl, rfl⟩ : u = k ∧ y = v := by simpa using e
      exact ⟨p, kv.1, rfl, ht, rfl, kV_is (P := X.prog) (w := X.w) ru⟩
    | succ j =>
      obtain ⟨c, kk, g1, g2, g3, g4⟩ := h4 j k v (by simpa using e)
      exact ⟨c, kk, by simpa using g1, g2, by simpa using g3, g4⟩
def rDictX (K : PySem.W.Frag) : List V → Hp → VK → Prop := fun xs H Q => ∃ (a : Addr) (ps : List Addr) (kvs : List (Key × V)), xs = [.ref a] ∧ TupX H a (ps.map V.ref) ∧ Paired (fun p kv => SqT K H p [kV kv.1, kv.2]) ps kvs ∧
  ∀ p, H p = none → Q (.ref p) (upd H p (.dK (mergeK [] kvs)))
theorem cr_dictX {X : Cx} (hc : X.calm = true) : CallR X (.type "dict") (rDictX X.K) := by
  rintro pins s σ H xs us Q I r ⟨a, ps, kvs, rfl, ⟨o, hod, ha⟩, hp, q⟩
  obtain ⟨u, rfl, rx⟩ := vals1 r
  cases rx
  obtain ⟨ho, hz, its, rv, o2, ho2, hcl, n, hdat⟩ := I.hok a _ ha
  obtain rfl : o = o2 := Option.some.inj (ho.symm.trans ho2)
  have ei := refs_at rv
  subst ei
  rw [List.length_map] at hz
  obtain ⟨prs, vps, rel, hl, hv, hat⟩ := vps_of I hp
  refine PySem.call_dict_pairs (knd := mixKind X.prog X.w) (kvs := prs) (PairArg.tuple a (ps.map Value.ref).toArray (fun j => (ps[j]?).getD 0) vps) (I.ok.hd hc) ⟨⟨o, n, ho, hcl, hod, hdat⟩, by simp [hv], fun j k v e => ?_⟩ ⟨by rw [hl, hv], fun i key v e => ?_⟩ (by rw [hv]; exact hz) fun h' tk hd' k => ?_
  · obtain ⟨b, kk, g1, g2, _⟩ := hat j k v e
    exact ⟨by simp [g1], .inl (by show s.heap.IsTuple ((ps[j]?).getD 0) _; rw [g1]; exact g2)⟩
  · obtain ⟨b, kk, _, _, g3, g4⟩ := hat i key v e
    exact ⟨kk, g3, g4⟩
  · have hm : (s.heap.objs.size == sysModules) = false := beq_eq_false_iff_ne.mpr (Nat.ne_of_gt I.big)
    have hln : (mergeK [] kvs).length ≤ sizeLine := by
      have h1 := length_mergeK kvs []
      have h2 := rel.length
      rw [List.length_nil] at h1
      omega
    exact ⟨.ref s.heap.objs.size, _, I.laid (t' := tk) (fun b ob e => k b ob (by simp) e) (Nat.le_refl _) (show ObjOk X.prog X.w _ _ _ (.dK (mergeK [] kvs)) from ⟨hln, hm, merged [] prs, KV.merge rel .nil, hd'⟩), rfl, q _ (I.hok.fresh (Nat.le_refl _))⟩
/-! ### what such a dict holds -/
end Pn

namespace Pn
open PySem L2 TL
abbrev sBInit : Stmt := inClass (top 59) 0
abbrev sBNames : Stmt := inClass (top 59) 2
abbrev sBTops : Stmt := inClass (top 59) 3
abbrev sBUnr : Stmt := inClass (top 59) 4
abbrev sBChain : Stmt := inClass (top 59) 7
/-! ### chains -/
inductive Climb (cs : List (Str × Str)) : Str → List Str → Prop
  | top {z : Str} : (z, ("" : Str)) ∈ cs → Climb cs z [z]
  | up {z u : Str} {l : List Str} : (z, u) ∈ cs → u ≠ "" → Climb cs u l → Climb cs z (z :: l)
theorem Climb.head {cs : List (Str × Str)} {z : Str} {l : List Str} (h : Climb cs z l) : ∃ r, l = z :: r := by
  cases h with
  | top _ => exact ⟨[], rfl⟩
  | up _ _ _ => exact ⟨_, rfl⟩
def opens (rs : List RowD) : List Str := rs.filterMap fun r => match r with | .opn z => some z | _ => none
def opnOf : RowD → Option Str
  | .opn z => some z
  | _ => none
theorem opens_eq (rs : List RowD) : opens rs = rs.filterMap opnOf := rfl
theorem opn_word {r : RowD} : decide (V.str (rowWord r) = V.str "open") = (opnOf r).isSome := by
  cases r <;> first | exact (by decide +kernel : decide (V.str "note" = V.str "open") = false) | exact (by decide +kernel : decide (V.str "skip" = V.str "open") = false) | exact (by decide +kernel : decide (V.str "set" = V.str "open") = false) | exact (by decide +kernel : decide (V.str "keep" = V.str "open") = false) | exact (by decide +kernel : decide (V.str "back" = V.str "open") = false) | exact (by decide +kernel : decide (V.str "ref" = V.str "open") = false) | exact (by decide +kernel : decide (V.str "put" = V.str "open") = false) | exact (by decide +kernel : decide (V.str "open" = V.str "open") = true)
section
variable {P : Program} {w : World} {K : PySem.W.Frag} {mg : Str → Option Value} {base : Heap}
def rTupS (K : PySem.W.Frag) : List V → Hp → VK → Prop := fun xs H Q => ∃ (p : Addr) (ys : List V), xs = [.ref p] ∧ Sq K H p ys ∧ ∀ (t : Addr) (H' : Hp), Same H H' → SqT K H' t ys → Q (.ref t) H'
theorem cr_tupS {X : Cx} : CallR X (.type "tuple") (rTupS X.K) := by
  intro pins s σ H xs us Q I r h
  obtain ⟨p, ys, rfl, hp, q⟩ := h
  exact call_tuple_of pins s σ H _ us Q I r ⟨p, ys, rfl, hp.elim (fun h => .inl ⟨h, fun l hl => q l _ (Same.new hl) (SqT.of upd_same)⟩) (fun h => .inr ⟨h, q p H (Same.refl _) h⟩)⟩
structure TPr (K : PySem.W.Frag) (C : Addr) (nm qual : Str) (st : Stmt) : Type where
  p : Addr
  g : Addr
  fd : FuncData
  F : Fun K nm qual st g fd
  b : Binds K fd ["self"] []
  P : PropOf K C nm p g
structure TBk {K : PySem.W.Frag} {mg : Str → Option Value} {R : TRows K mg} (T : TPart R) : Type extends TBks T where
  mSort : mg "sorted" = none
  mDict : mg "dict" = none
  C : Addr
  mC : mg "Book" = some (.ref C)
  fI : Addr
  fdI : FuncData
  FI : Fun K "__init__" "Book.__init__" sBInit fI fdI
  bI : Binds K fdI ["self", "counters", "parts"] []
  M : Mk K C fI
  cl : Cls K C
  noC : NoAttr K C "counters"
  noP : NoAttr K C "parts"
  noF : NoAttr K C "flat"
  names : TPr K C "names" "Book.names" sBNames
  tops : TPr K C "tops" "Book.tops" sBTops
  unr : TPr K C "unrolled" "Book.unrolled" sBUnr
  chain : TMeth K C "chain" "Book.chain" sBChain ["self", "name"]
def insBook (C dx : Addr) (c p f : V) : HO := .ins C dx (putF "flat" f (putF "parts" p (putF "counters" c [])))
theorem book_c {c p f : V} : (putF "flat" f (putF "parts" p (putF "counters" c ([] : List (Str × V))))).lookup ("counters" : Str) = some c := by
  rw [lookup_putF, if_neg (by decide +kernel), lookup_putF, if_neg (by decide +kernel), lookup_putF, if_pos rfl]
theorem book_f {c p f : V} : (putF "flat" f (putF "parts" p (putF "counters" c ([] : List (Str × V))))).lookup ("flat" : Str) = some f := by
  rw [lookup_putF, if_pos rfl]
def CsIn (K : PySem.W.Frag) (H : Hp) (ts : List Addr) (cs : List (Str × Str)) : Prop := Paired (fun t (c : Str × Str) => SqT K H t [.str c.1, .str c.2]) ts cs
theorem CsIn.same {H H' : Hp} {ts : List Addr} {cs : List (Str × Str)} (h : CsIn K H ts cs) (s : Same H H') : CsIn K H' ts cs := paired_mono (fun _ _ z => Same.sqt s z) h
def PtsIn {R : TRows K mg} (T : TPart R) (H : Hp) (ps : List Addr) (bk : List PartD) : Prop := Paired (fun a (q : PartD) => PtAt T H a q.1 q.2) ps bk
theorem PtsIn.same {R : TRows K mg} {T : TPart R} {H H' : Hp} {ps : List Addr} {bk : List PartD} (h : PtsIn T H ps bk) (s : Same H H') : PtsIn T H' ps bk := paired_mono (fun _ _ z => PtAt.same z s) h
def BookAt {R : TRows K mg} {T : TPart R} (B : TBk T) (H : Hp) (a : Addr) (cs : List (Str × Str)) (bk : List PartD) : Prop :=
  ∃ dx ct pt ft ts ps us, H a = some (insBook B.C dx (.ref ct) (.ref pt) (.ref ft)) ∧ (TupX H ct (ts.map V.ref) ∧ CsIn K H ts cs) ∧ (SqT K H pt (ps.map V.ref) ∧ PtsIn T H ps bk) ∧ SqT K H ft (us.map V.ref) ∧ RowsIn R H us (unrolled bk)
theorem BookAt.same {R : TRows K mg} {T : TPart R} {B : TBk T} {H H' : Hp} {a : Addr} {cs : List (Str × Str)} {bk : List PartD} (h : BookAt B H a cs bk) (s : Same H H') : BookAt B H' a cs bk := by
  obtain ⟨dx, ct, pt, ft, ts, ps, us, h1, ⟨h2, h3⟩, ⟨h4, h5⟩, h6, h7⟩ := h
  exact ⟨dx, ct, pt, ft, ts, ps, us, s _ _ h1, ⟨h2.same s, h3.same s⟩, ⟨Same.sqt s h4, h5.same s⟩, Same.sqt s h6, h7.same s⟩
/-! ### Book(counters, parts) -/
theorem rows_ne {R : TRows K mg} {H : Hp} {us : List Addr} {rs : List RowD} {x C dx : Addr} (h : RowsIn R H us rs) (hx : H x = some (.ins C dx [])) : ∀ u ∈ us, u ≠ x := by
  intro u hu e
  obtain ⟨i, hi⟩ := List.getElem?_of_mem hu
  obtain ⟨r, _, hr⟩ := paired_at h hi
  obtain ⟨dw, fw, w1, _, _, w4⟩ := at_word R hr
  rw [e, hx] at w1
  cases w1
  cases w4
theorem rows_upd {R : TRows K mg} {H : Hp} {us : List Addr} {rs : List RowD} {x : Addr} {o : HO} (h : RowsIn R H us rs) (n : ∀ u ∈ us, u ≠ x) : RowsIn R (upd H x o) us rs := by
  induction h with
  | nil => exact .nil
  | cons a b ih =>
    refine .cons ?_ (ih fun u hu => n u (List.mem_cons_of_mem _ hu))
    obtain ⟨dy, e⟩ := a
    exact ⟨dy, by rw [upd_ne (n _ List.mem_cons_self)]; exact e⟩
theorem tupx_ins {H : Hp} {x C dx a : Addr} {fs : List (Str × V)} {o : HO} {xs : List V} (hx : H x = some (.ins C dx fs)) (h : TupX H a xs) : TupX (upd H x o) a xs := by
  obtain ⟨u, d, e⟩ := h
  exact ⟨u, d, by rw [upd_ne (fun z => by rw [z, hx] at e; cases e)]; exact e⟩
def spBInit {R : TRows K mg} {T : TPart R} (B : TBk T) : Sp := fun vs H Q _ => ∃ (x dx cp : Addr) (pu : V) (ts : List Addr) (cs : List (Str × Str)) (bk : List PartD) (Hb : Hp), vs = [.ref x, .ref cp, pu] ∧ H x = some (.ins B.C dx []) ∧ Hb x = none ∧ Same Hb H ∧
  (SqL K Hb cp (ts.map V.ref) ∨ TupX Hb cp (ts.map V.ref)) ∧ CsIn K Hb ts cs ∧ PtsArg T Hb pu bk ∧ BookV cs bk ∧ ∀ H', Same Hb H' → BookAt B H' x cs bk → Q .non H'
theorem scBInit : FnScope ["self", "counters", "parts", "flat"] ["self", "counters", "parts"] (defScope sBInit) := ⟨rfl, rfl, rfl, by decide +kernel, rfl, by decide +kernel, by decide +kernel⟩
theorem unrolled_small {cs : List (Str × Str)} {bk : List PartD} (ok : BookV cs bk) : (unrolled bk).length ≤ 4000 := by
  unfold unrolled
  cases h : (knowns bk).head? with
  | none => exact Nat.zero_le _
  | some x =>
    cases hk : knowns bk with
    | nil => rw [hk] at h; cases h
    | cons y l =>
      rw [hk] at h
      obtain rfl : y = x := Option.some.inj h
      exact ok.small y.1 y.2 (by rw [hk]; exact List.mem_cons_self)
theorem ok_bInit {R : TRows K mg} {T : TPart R} (B : TBk T) : FnOk P w K mg base CX0 4 B.fI B.fdI ["self", "counters", "parts"] (spBInit B) := by
  refine B.FI.ok scBInit (fun vs H Q E h => ?_) (fun cdv A outer s H vs Q E hr h => ?_)
  · obtain ⟨x, dx, cp, pu, ts, cs, bk, Hb, rfl, _⟩ := h
    rfl
  · obtain ⟨x, dx, cp, pu, ts, cs, bk, Hb, rfl, hx, hxb, sb, hcp, hcd, hP, ok, q⟩ := h
    refine ⟨_, pss_cons (ps_if (pt_not (pt_val (pe_call (ok_areC B.toTBks) (hr.mono (by decide)) rfl B.areC.m B.areC.F.kp B.areC.b .nil pass0 (pa_cons (pv 1) pa_nil)))) pss_never pss_nil)
      (pss_cons (ps_if (pt_not (pt_val (pe_call (ok_areP B.toTBks) (hr.mono (by decide)) rfl B.areP.m B.areP.F.kp B.areP.b .nil pass0 (pa_cons (pv 2) pa_nil)))) pss_never pss_nil)
      (pss_cons (ps_if (pt_not (pt_val (pe_call (ok_cKnown B.toTBks) (hr.mono (by decide)) rfl B.cKnown.m B.cKnown.F.kp B.cKnown.b .nil pass0 (pa_cons (pv 1) (pa_cons (pv 2) pa_nil))))) pss_never pss_nil)
      (pss_cons (ps_if (pt_not (pt_val (pe_call (ok_pEarly B.toTBks) (hr.mono (by decide)) rfl B.pEarly.m B.pEarly.F.kp B.pEarly.b .nil pass0 (pa_cons (pv 2) pa_nil)))) pss_never pss_nil)
      (pss_cons (ps_set (i := 3) scBInit.nd rfl (Or.inl rfl) (pe_call (ok_uText B.toTBks) hr rfl B.uText.m B.uText.F.kp B.uText.b .nil pass0 (pa_cons (pv 2) pa_nil)))
      (pss_cons (ps_if (pt_not (pt_val (pe_call (ok_refsK B.toTBks) (hr.mono (by decide)) rfl B.refsK.m B.refsK.F.kp B.refsK.b .nil pass0 (pa_cons (pv 3) pa_nil)))) pss_never pss_nil)
      (pss_cons (ps_fld (pv 0) (pe_callTy cr_tupX2 (by rfl) T.mTup (by decide +kernel) (pa_cons (pv 1) pa_nil)) rfl)
      (pss_cons (ps_fld (pv 0) (pe_callTy cr_tupS (by rfl) T.mTup (by decide +kernel) (pa_cons (pv 2) pa_nil)) rfl)
      (pss_one (ps_fld (pv 0) (pv 3) rfl))))))))), ?_⟩
    have hC : CsArg K Hb (.ref cp) cs := ⟨cp, ts, rfl, hcp.imp id TupX.sqt, hcd⟩
    have hrl : ∀ p ∈ bk, p.2.length ≤ 100 := fun p hp => (ok.rows p hp).2.1
    refine ⟨_, rfl, .ref cp, cs, rfl, hC.same sb, ok.c, fun H1 s1 => ⟨true, rfl, iteF ?_⟩⟩
    have b1 := sb.trans s1
    refine ⟨_, rfl, pu, bk, rfl, hP.same b1, ok.b0, ok.nd, ok.len, fun H2 s2 => ⟨true, rfl, iteF ?_⟩⟩
    have b2 := b1.trans s2
    refine ⟨_, rfl, _, rfl, .ref cp, pu, cs, bk, rfl, hC.same b2, hP.same b2, ok.c.len, ok.len, hrl, ok.cnt, fun H3 s3 => ⟨true, rfl, iteF ?_⟩⟩
    have b3 := b2.trans s3
    refine ⟨_, rfl, pu, bk, rfl, hP.same b3, ok.puts, ok.len, hrl, fun H4 s4 => ⟨true, rfl, iteF ?_⟩⟩
    have b4 := b3.trans s4
    refine ⟨_, rfl, pu, bk, rfl, hP.same b4, ok.b0, ok.nd, ok.len, hrl, ok.puts, ok.small, fun ft H5 us s5 hft hus => ?_⟩
    have b5 := b4.trans s5
    unfold gName
    dsimp only
    refine ⟨_, rfl, ft, us, unrolled bk, rfl, .inr hft, hus, unrolled_small ok, ok.refs, fun H6 s6 => ⟨true, rfl, iteF ?_⟩⟩
    have b6 := b5.trans s6
    have hx6 : H6 x = some (.ins B.C dx []) := s6 _ _ (s5 _ _ (s4 _ _ (s3 _ _ (s2 _ _ (s1 _ _ hx)))))
    have hft6 := Same.sqt s6 hft
    have hus6 := hus.same s6
    have hne := rows_ne hus6 hx6
    refine ⟨_, rfl, cp, ts.map V.ref, rfl, hcp.imp b6.seq (fun h => h.same b6), fun ct H7 s7 hX => ?_⟩
    have b7 := b6.trans s7
    have hx7 := s7 _ _ hx6
    refine ⟨_, rfl, x, B.C, dx, [], rfl, hx7, B.cl, B.noC, (by show 0 < 1000; decide), ?_⟩
    have b8 : Same Hb (upd H7 x (.ins B.C dx (putF "counters" (.ref ct) []))) := Same.updn b7 hxb
    have hX8 := tupx_ins (o := .ins B.C dx (putF "counters" (.ref ct) [])) hx7 hX
    have hft8 := sqt_ins (o := .ins B.C dx (putF "counters" (.ref ct) [])) hx7 (Same.sqt s7 hft6)
    have hus8 := rows_upd (o := .ins B.C dx (putF "counters" (.ref ct) [])) (hus6.same s7) hne
    have hx8 : upd H7 x (.ins B.C dx (putF "counters" (.ref ct) [])) x = some (.ins B.C dx (putF "counters" (.ref ct) [])) := upd_same
    generalize upd H7 x (.ins B.C dx (putF "counters" (.ref ct) [])) = H8 at b8 hX8 hft8 hus8 hx8 ⊢
    obtain ⟨p, ps, rfl, hp, hpd⟩ := hP
    refine ⟨_, rfl, p, ps.map V.ref, rfl, hp.same b8, fun pt H9 s9 hpt => ?_⟩
    have hx9 := s9 _ _ hx8
    refine ⟨_, rfl, x, B.C, dx, _, rfl, hx9, B.cl, B.noP, (by show 1 < 1000; decide), ?_⟩
    have b10 : Same Hb (upd H9 x (.ins B.C dx (putF "parts" (.ref pt) (putF "counters" (.ref ct) [])))) := Same.updn (b8.trans s9) hxb
    have hX10 := tupx_ins (o := .ins B.C dx (putF "parts" (.ref pt) (putF "counters" (.ref ct) []))) hx9 (hX8.same s9)
    have hft10 := sqt_ins (o := .ins B.C dx (putF "parts" (.ref pt) (putF "counters" (.ref ct) []))) hx9 (Same.sqt s9 hft8)
    have hpt10 := sqt_ins (o := .ins B.C dx (putF "parts" (.ref pt) (putF "counters" (.ref ct) []))) hx9 hpt
    have hus10 := rows_upd (o := .ins B.C dx (putF "parts" (.ref pt) (putF "counters" (.ref ct) []))) (hus8.same s9) hne
    have hx10 : upd H9 x (.ins B.C dx (putF "parts" (.ref pt) (putF "counters" (.ref ct) []))) x = some (.ins B.C dx (putF "parts" (.ref pt) (putF "counters" (.ref ct) []))) := upd_same
    generalize upd H9 x (.ins B.C dx (putF "parts" (.ref pt) (putF "counters" (.ref ct) []))) = H10 at b10 hX10 hft10 hpt10 hus10 hx10 ⊢
    refine ⟨_, rfl, _, rfl, x, B.C, dx, _, rfl, hx10, B.cl, B.noF, (by show 2 < 1000; decide), ?_⟩
    have b11 : Same Hb (upd H10 x (insBook B.C dx (.ref ct) (.ref pt) (.ref ft))) := Same.updn b10 hxb
    exact q _ b11 ⟨dx, ct, pt, ft, ts, ps, us, upd_same, ⟨tupx_ins hx10 hX10, hcd.same b11⟩, ⟨sqt_ins hx10 hpt10, PtsIn.same hpd b11⟩, sqt_ins hx10 hft10, rows_upd hus10 hne⟩
end
end Pn

namespace Pn
open PySem L2 TL
section
variable {P : Program} {w : World} {K : PySem.W.Frag} {mg : Str → Option Value} {base : Heap}
/-! ### names, tops, unrolled -/
theorem scBNames : FnScope ["self", "row"] ["self"] (defScope sBNames) := ⟨rfl, rfl, rfl, by decide +kernel, rfl, by decide +kernel, by decide +kernel⟩
def spBNames {R : TRows K mg} {T : TPart R} (B : TBk T) : Sp := fun vs H Q _ => ∃ (a : Addr) (cs : List (Str × Str)) (bk : List PartD), vs = [.ref a] ∧ BookAt B H a cs bk ∧ (unrolled bk).length < 4000 ∧ (uniq (opens (unrolled bk))).length < 64 ∧
  ∀ (t : Addr) (H' : Hp) (ys : List Str), Same H H' → SqT K H' t (ys.map V.str) → ys.Perm (uniq (opens (unrolled bk))) → PyProof.Rows.sortedS ys = true → Q (.ref t) H'
theorem ok_bNames {R : TRows K mg} {T : TPart R} (B : TBk T) : FnOk P w K mg base CX0 1 B.names.g B.names.fd ["self"] (spBNames B) := by
  refine B.names.F.ok scBNames (fun vs H Q E h => ?_) (fun cdv A outer s H vs Q E hr h => ?_)
  · obtain ⟨a, cs, bk, rfl, _⟩ := h
    rfl
  · obtain ⟨a, cs, bk, rfl, ⟨dx, ct, pt, ft, ts, ps, us, ha, _, _, hft, hus⟩, hl, hn, q⟩ := h
    refine ⟨_, pss_one (ps_ret (pe_callTy cr_tupS (by rfl) T.mTup (by decide +kernel) (pa_cons (pe_callB (cr_sortX rfl) (by rfl) B.mSort (by decide +kernel) (pa_cons (pe_callTy (cr_setX rfl) (by rfl) B.mSet (by decide +kernel) (pa_cons
      (pe_lc (own := [("row", 1)]) (g := gName 1) (by rfl) scBNames.nd (pi_tup (pe_fld (pv 0) rfl))
      (blkOk_by (N := ["self", "row"]) (sc := defScope sBNames) (by decide +kernel)) (fun _ _ _ _ _ => pg_name (i := 1) scBNames.nd rfl (Or.inl rfl))
      (fun _ _ _ _ _ => pts_one (pt_cmpR op_eq (show PE _ _ (tFld K (tVar 1) "word") from pe_fld (pv 1) rfl) pe_str (nomark _))) (fun _ _ _ _ _ => (show PE _ _ (tFld K (tVar 1) "name") from pe_fld (pv 1) rfl))) pa_nil)) pa_nil)) pa_nil))), ?_⟩
    have hul : us.length = (unrolled bk).length := paired_len hus
    unfold tRet tCB tCons
    refine lcw_tup (fun R r => ⟨_, rfl, a, B.C, dx, _, .ref ft, rfl, ha, B.cl, B.noF, book_f, r⟩) hft (by rw [List.length_map]; omega) (out := fun i => ((unrolled bk)[i]?).bind fun r => (opnOf r).map V.str) (fun i x Hi S Y hx si hS hY => ?_) (fun D H2 hD s2 hD2 => ?_)
    · obtain ⟨u, r, hu, hr2, rfl, hrow⟩ := rows_at hus hx
      obtain ⟨dw, fw, w1, w2, w3, w4⟩ := at_word R (hrow.same si)
      refine ⟨rfl, _, rfl, u, _, dw, fw, _, rfl, w1, w2, w3, w4, rfl, _, rfl, ?_⟩
      have hb : ((unrolled bk)[i]?).bind (fun r => (opnOf r).map V.str) = (opnOf r).map V.str := by rw [hr2]; rfl
      rw [opn_word]
      cases hp : opnOf r with
      | none =>
        refine iteF ?_
        exact hS (by rw [hp] at hb; exact hb) _ (Same.refl _)
      | some z =>
        refine iteT ?_
        obtain rfl : r = .opn z := by
          cases r with
          | opn y => cases hp; rfl
          | _ => cases hp
        obtain ⟨dp, fp, p1, p2, p3, p4⟩ := at_name R (hrow.same si)
        exact ⟨_, rfl, u, _, dp, fp, _, rfl, p1, p2, p3, p4, hY _ (by rw [hp] at hb; exact hb) _ (Same.refl _)⟩
    · have hD3 : H2 D = some (.lst ((opens (unrolled bk)).map V.str)) := by rw [hD2, List.length_map, hul, out_filter, opens_eq, List.map_filterMap]
      have hol : (opens (unrolled bk)).length ≤ (unrolled bk).length := List.length_filterMap_le _ _
      refine ⟨D, opens (unrolled bk), rfl, SqL.of hD3, by omega, fun S hS => ?_⟩
      refine ⟨S, uniq (opens (unrolled bk)), rfl, upd_same, hn, fun ys p hp hs hpn => ?_⟩
      refine ⟨p, ys.map V.str, rfl, .inl (SqL.of upd_same), fun t H' s' ht => q t H' ys ?_ ht hp hs⟩
      exact (s2.trans (Same.new hS)).trans ((Same.new hpn).trans s')
end
end Pn

namespace Pn
open PySem L2 TL
section
variable {P : Program} {w : World} {K : PySem.W.Frag} {mg : Str → Option Value} {base : Heap}
end
end Pn

namespace Pn
open PySem L2 TL
abbrev sMadeBook : Stmt := top 75
/-! ### drawn books are good books -/
theorem knowns_small {bk : List PartD} (h : PutsOk bk) : ∀ i, i ≤ bk.length → ∀ z rs, (z, rs) ∈ knowns (bk.take i) → rs.length ≤ 7 ^ i := by
  intro i
  induction i with
  | zero => intro _ z rs hm; cases hm
  | succ i ih =>
    intro hi z rs hm
    have lt : i < bk.length := hi
    have hp : bk[i]? = some bk[i] := List.getElem?_eq_getElem lt
    have hkt : knowns (bk.take (i + 1)) = (bk[i].1, unrollIn (knowns (bk.take i)) bk[i].2) :: knowns (bk.take i) := by
      rw [List.take_add_one, hp]
      exact knowns_snoc _ _
    rw [hkt] at hm
    have ih2 := ih (by omega)
    have p6 : 7 ^ i ≤ 7 ^ (i + 1) := Nat.pow_le_pow_right (by decide) (by omega)
    have p1 : 1 ≤ 7 ^ i := Nat.one_le_pow _ _ (by decide)
    rcases List.mem_cons.mp hm with e | hm
    · injection e with e1 e2
      subst e2
      obtain ⟨h6, hput⟩ := h i _ hp
      have key : ∀ l : List RowD, (∀ y, RowD.put y ∈ l → y ∈ (bk.take i).map (·.1)) → (unrollIn (knowns (bk.take i)) l).length ≤ l.length * 7 ^ i := by
        intro l
        induction l with
        | nil => intro _; exact Nat.zero_le _
        | cons r l ihl =>
          intro hl
          have q := ihl fun y hy => hl y (List.mem_cons_of_mem _ hy)
          have e : unrollIn (knowns (bk.take i)) (r :: l) = expand (knowns (bk.take i)) r ++ unrollIn (knowns (bk.take i)) l := rfl
          rw [e, List.length_append, List.length_cons, Nat.add_mul, Nat.one_mul]
          have he : (expand (knowns (bk.take i)) r).length ≤ 7 ^ i := by
            cases r with
            | put y =>
              have hy := hl y List.mem_cons_self
              have hyk : y ∈ (knowns (bk.take i)).map (·.1) := by rw [knowns_len]; exact List.mem_reverse.mpr hy
              obtain ⟨rs2, h1, h2⟩ := lookup_of_mem hyk
              show ((List.lookup y (knowns (bk.take i))).getD []).length ≤ _
              rw [h1]
              exact ih2 y rs2 h2
            | _ => exact p1
          omega
      have q := key bk[i].2 hput
      have q2 : bk[i].2.length * 7 ^ i ≤ 7 * 7 ^ i := Nat.mul_le_mul_right _ h6
      rw [Nat.pow_succ]
      omega
    · exact Nat.le_trans (ih2 z rs hm) p6
theorem nodup_take {l : List Str} {n : Nat} (h : l.Nodup) : (l.take n).Nodup := (List.take_sublist n l).nodup h
theorem row_cnt {d : Pool} {cs : List (Str × Str)} {parts : List Str} {r : RowD} {c : Str} (h : rowFine d cs parts r) (e : cntOf r = some c) : c ∈ cs.map (·.1) := by
  cases r with
  | note _ _ => cases e; exact h.1
  | skip _ _ => cases e; exact h.1
  | set _ _ => cases e; exact h.1
  | keep _ => cases e; exact h
  | back _ => cases e; exact h
  | ref _ => cases e
  | put _ => cases e
  | opn _ => cases e
theorem nmX_ok : nameS "x" = true := by decide +kernel
theorem bookV {d : Pool} {cs : List (Str × Str)} {bk : List PartD} (h : BookOk d cs bk) : BookV cs bk := by
  have fl := pool_fine d h.hd
  have hcs : ∀ x ∈ cs.map (·.1), nameS x = true := fun x hx => by
    rw [h.cn] at hx
    exact fl.names x (by simp [List.mem_of_mem_take hx])
  have hbk : ∀ x ∈ bk.map (·.1), nameS x = true := fun x hx => by
    rw [h.bn] at hx
    exact fl.names x (by simp [List.mem_of_mem_take hx])
  have c3 := h.c3
  have b3 := h.b3
  exact {
    c := ⟨fun c hc => hcs _ (List.mem_map.mpr ⟨c, hc, rfl⟩), by rw [h.cn]; exact nodup_take fl.cn, h.ct, by omega⟩
    b0 := h.b0
    nd := by rw [h.bn]; exact nodup_take fl.pn
    len := by omega
    rows := fun p hp => by
      obtain ⟨i, hi⟩ := List.getElem?_of_mem hp
      have h6 := (h.puts i p hi).1
      refine ⟨Nat.le_trans (name_ok (hbk _ (List.mem_map.mpr ⟨p, hp, rfl⟩))).2 (by decide), by omega, fun r hr => ?_⟩
      rcases h.rows p hp r hr with f | ⟨l, rfl, _, hn⟩ | rfl
      · exact fine_valid fl hcs hbk f
      · exact hn
      · exact nmX_ok
    cnt := fun p hp r hr c e => by
      rcases h.rows p hp r hr with f | ⟨l, rfl, _, _⟩ | rfl
      · exact row_cnt f e
      · cases e
      · cases e
    puts := puts_earlier h.puts
    small := fun z rs hm => by
      have q := knowns_small h.puts bk.length (Nat.le_refl _) z rs (by rw [List.take_length]; exact hm)
      have : 7 ^ bk.length ≤ 7 ^ 3 := Nat.pow_le_pow_right (by decide) b3
      have e : (7 : Nat) ^ 3 = 343 := by decide
      omega
    refs := fun l hl => by
      have q := unrolled_all (G := RowIn d cs bk) h.rows _ hl
      rcases q with f | ⟨l2, e, hm, _⟩ | e
      · exact absurd f id
      · cases e
        obtain ⟨c, hc, _⟩ := labels_of hm
        exact ⟨c, hc⟩
      · cases e }
end Pn

namespace Pn
open PySem L2 TL
section
variable {P : Program} {w : World} {K : PySem.W.Frag} {mg : Str → Option Value} {base : Heap}
def PtOf {R : TRows K mg} (T : TPart R) (H : Hp) (x : Addr) (n : Str) (us : List Addr) : Prop := ∃ dx tp, H x = some (insPart T.C dx (.str n) (.ref tp)) ∧ SqT K H tp (us.map V.ref)
theorem PtOf.same {R : TRows K mg} {T : TPart R} {H H' : Hp} {a : Addr} {n : Str} {us : List Addr} (h : PtOf T H a n us) (s : Same H H') : PtOf T H' a n us := by
  obtain ⟨dx, tp, h1, h2⟩ := h
  exact ⟨dx, tp, s _ _ h1, Same.sqt s h2⟩
theorem PtOf.at {R : TRows K mg} {T : TPart R} {H : Hp} {a : Addr} {n : Str} {us : List Addr} {rs : List RowD} (h : PtOf T H a n us) (g : RowsIn R H us rs) : PtAt T H a n rs := by
  obtain ⟨dx, tp, h1, h2⟩ := h
  exact ⟨dx, tp, us, h1, h2, g⟩
theorem rows_flags {R : TRows K mg} {H : Hp} : ∀ {us : List Addr} {rs : List RowD}, RowsIn R H us rs → Paired (RowFlag R H) (us.map V.ref) (us.map fun _ => true)
  | _, _, .nil => .nil
  | _, _, .cons a b => .cons (.inl ⟨rfl, _, _, rfl, a⟩) (rows_flags b)
theorem all_true {α : Type} (l : List α) : (l.map fun _ => true).all id = true := by
  induction l with
  | nil => rfl
  | cons _ _ ih => exact ih
theorem part_made {R : TRows K mg} (T : TPart R) {H : Hp} {p : Addr} {us : List Addr} {rs : List RowD} {n : Str} (hp : SqL K H p (us.map V.ref) ∨ SqT K H p (us.map V.ref)) (hus : RowsIn R H us rs) (hn : nameS n = true) (hl : us.length ≤ 1000)
    {RR : Addr → Hp → Prop} (k : ∀ x H', Same H H' → PtOf T H' x n us → RR x H') :
    ∀ x dx, H x = none → H dx = none → dx ≠ x → spPartInit R T.C T.IP.C [.ref x, .str n, .ref p] (upd (upd H dx (.own x)) x (.ins T.C dx [])) (fun v H2 => v = .non ∧ RR x H2) E0 := fun x dx hx hdx ne => by
  have s1 : Same H (upd (upd H dx (.own x)) x (.ins T.C dx [])) := ins_same2 hx hdx
  have hnl : n.length ≤ 4 := (name_ok hn).2
  refine ⟨x, dx, .str n, .ref p, .str n, some (us.map V.ref, us.map fun _ => true), rfl, upd_same, .str n, (show n.length ≤ 900 by omega), ⟨p, rfl, hp.elim (fun h => .inl (s1.seq h)) (fun h => .inr (Same.sqt s1 h)), rows_flags (hus.same s1), by rw [List.length_map]; exact hl⟩,
    fun z => absurd hn (by rw [show nameS n = false from z]; decide), fun _ z => absurd (all_true us) (by rw [show (us.map fun _ => true).all id = false from z]; decide), fun _ _ xs bs e tp H' kp m htp hi => ⟨rfl, k x H' (kpi_same2 hx hdx kp) ⟨dx, tp, hi, ?_⟩⟩⟩
  have e := Option.some.inj e
  injection e with e1 e2
  rw [e1]
  exact htp
end
end Pn

namespace Pn
open PySem L2 TL
section
variable {P : Program} {w : World} {K : PySem.W.Frag} {mg : Str → Option Value} {base : Heap}
theorem sqt_lst {H : Hp} {D a : Addr} {xs ys zs : List V} (hD : H D = some (.lst xs)) (h : SqT K H a zs) : SqT K (upd H D (.lst ys)) a zs := by
  rcases h with (s | ⟨u, s⟩) | s
  · exact .inl (.inl (by rw [upd_ne (fun z => by rw [z, hD] at s; cases s)]; exact s))
  · exact .inl (.inr ⟨u, by rw [upd_ne (fun z => by rw [z, hD] at s; cases s)]; exact s⟩)
  · exact .inr s
theorem rowsin_lst {R : TRows K mg} {H : Hp} {D : Addr} {xs ys : List V} (hD : H D = some (.lst xs)) {us : List Addr} {rs : List RowD} (h : RowsIn R H us rs) : RowsIn R (upd H D (.lst ys)) us rs :=
  paired_mono (fun a r e => by
    obtain ⟨dy, e⟩ := e
    obtain ⟨gs, eg⟩ := insRow_ins R dy r
    exact ⟨dy, by rw [upd_ne (fun z => by rw [z, hD, eg] at e; cases e)]; exact e⟩) h
theorem ptat_lst {R : TRows K mg} {T : TPart R} {H : Hp} {D : Addr} {xs ys : List V} (hD : H D = some (.lst xs)) {a : Addr} {n : Str} {rs : List RowD} (h : PtAt T H a n rs) : PtAt T (upd H D (.lst ys)) a n rs := by
  obtain ⟨dx, tp, us, h1, h2, h3⟩ := h
  exact ⟨dx, tp, us, by rw [upd_ne (fun z => by rw [z, hD] at h1; cases h1)]; exact h1, sqt_lst hD h2, rowsin_lst hD h3⟩
theorem book_made {R : TRows K mg} {T : TPart R} (B : TBk T) {H : Hp} {cp : Addr} {ts : List Addr} {cs : List (Str × Str)} {pu : V} {bk : List PartD} (hcp : SqL K H cp (ts.map V.ref) ∨ TupX H cp (ts.map V.ref)) (hcd : CsIn K H ts cs) (hP : PtsArg T H pu bk) (ok : BookV cs bk) {RR : Addr → Hp → Prop}
    (k : ∀ x H', Same H H' → BookAt B H' x cs bk → RR x H') : ∀ x dx, H x = none → H dx = none → dx ≠ x → spBInit B [.ref x, .ref cp, pu] (upd (upd H dx (.own x)) x (.ins B.C dx [])) (fun v H2 => v = .non ∧ RR x H2) E0 := fun x dx hx hdx ne =>
  ⟨x, dx, cp, pu, ts, cs, bk, H, rfl, upd_same, hx, ins_same2 hx hdx, hcp, hcd, hP, ok, fun H' s h => ⟨rfl, k x H' s h⟩⟩
theorem csIn_of {H : Hp} {ts : List Addr} {cs : List (Str × Str)} (h : Paired (fun t (p : Str × Str) => H t = some (.tup [.str p.1, .str p.2])) ts cs) : CsIn K H ts cs := paired_mono (fun _ _ e => SqT.of e) h
/-! ### _law_made_book -/
def spMadeBook {R : TRows K mg} {T : TPart R} (B : TBk T) : Sp := fun vs H Q _ => ∃ (t c pl : Addr) (cs : List (Str × Str)) (bk : List PartD), vs = [.ref t] ∧ SqT K H t [.ref c, .ref pl] ∧ CsAt H c cs ∧ PartsAt H pl bk ∧ BookV cs bk ∧ (∀ p ∈ bk, nameS p.1 = true) ∧
  ∀ (x : Addr) (H' : Hp), Same H H' → BookAt B H' x cs bk → Q (.ref x) H'
theorem scMadeBook : FnScope ["_law_book_here", "_law_name", "_law_rows", "_law_row_here"] ["_law_book_here"] (defScope sMadeBook) := ⟨rfl, rfl, rfl, by decide +kernel, rfl, by decide +kernel, by decide +kernel⟩
theorem ok_madeBook {R : TRows K mg} {T : TPart R} (B : TBk T) (M : At K mg "_law_made_row" sMadeRow ["_law_row_here"]) {f : Addr} {fd : FuncData} (F : Fun K "_law_made_book" "_law_made_book" sMadeBook f fd) : FnOk P w K mg base CX0 8 f fd ["_law_book_here"] (spMadeBook B) := by
  refine F.ok scMadeBook (fun vs H Q E h => ?_) (fun cdv A outer s H vs Q E hr h => ?_)
  · obtain ⟨t, c, pl, cs, bk, rfl, _⟩ := h
    rfl
  · obtain ⟨t, c, pl, cs, bk, rfl, ht, ⟨ts, hc, hcd⟩, ⟨qs, hpl, hpd⟩, ok, hnm, q⟩ := h
    refine ⟨_, pss_one (ps_ret (pe_make B.M (ok_bInit B) (hr.mono (by decide)) rfl B.mC B.bI .nil pass0 (pa_cons (pe_ix ix_tup (pv 0) pe_int (fun _ _ => rfl)) (pa_cons
      (pe_lc (own := [("_law_name", 1), ("_law_rows", 2)]) (g := gTup K 2 (gCons (gName 1) (gCons (gName 2) gNil))) (tt := tYes) (by rfl) scMadeBook.nd (pi_list (pe_ix ix_tup (pv 0) pe_int (fun _ _ => rfl)))
        (blkOk_by (N := ["_law_book_here", "_law_name", "_law_rows", "_law_row_here"]) (sc := defScope sMadeBook) (by decide +kernel)) (fun _ _ _ _ _ => pg_tup (by rfl) (pgs_cons (pg_name (i := 1) scMadeBook.nd rfl (Or.inl rfl)) (pgs_cons (pg_name (i := 2) scMadeBook.nd rfl (Or.inl rfl)) pgs_nil))) (fun _ _ _ _ _ => pts_nil)
        (fun _ _ _ _ _ => pe_make T.M (okPartInit T) (hr.mono (by decide)) rfl T.mC T.bI .nil passN0 (pa_cons (pv 1) (pa_cons
          (pe_lc (own := [("_law_row_here", 3)]) (g := gName 3) (tt := tYes) (by rfl) scMadeBook.nd (show PI _ _ _ (iList K (tVar 2)) from pi_list (pv 2))
            (blkOk_by (N := ["_law_book_here", "_law_name", "_law_rows", "_law_row_here"]) (by kernel_rfl)) (fun _ _ _ _ _ => pg_name (i := 3) scMadeBook.nd rfl (Or.inl rfl)) (fun _ _ _ _ _ => pts_nil)
            (fun _ _ _ _ _ => pe_call (ok_made R M.F) (hr.mono (by decide)) rfl M.m M.F.kp M.b .nil pass0 (pa_cons (pv 3) pa_nil))) pa_nil)))) pa_nil)))), ?_⟩
    have hcl := ok.c.len
    have hbl := ok.len
    have big : (1001 : Nat) ≤ sizeLine := by decide
    have hql : qs.length = bk.length := paired_len hpd
    refine ⟨_, rfl, t, _, _, .ref c, rfl, rfl, ht, rfl, _, rfl, t, _, _, .ref pl, rfl, rfl, ht, rfl, pl, rfl, ⟨_, SqL.of hpl⟩, fun D hD => lc_list (xs := qs.map V.ref) (fun i Hi => ∃ as : List Addr, Same H Hi ∧ Hi D = some (.lst (as.map V.ref)) ∧ PtsIn T Hi as (bk.take i)) ⟨[], Same.new hD, upd_same, .nil⟩ (fun i Hi _ hP => by obtain ⟨_, s, _⟩ := hP; exact SqL.of (s _ _ hpl)) (fun i z Hi hz hP => ?turn) (fun Hi hP => ?fin)⟩
    case turn =>
      obtain ⟨as, si, hDi, has⟩ := hP
      rw [List.getElem?_map] at hz
      cases hxi : qs[i]? with
      | none => rw [hxi] at hz; cases hz
      | some u =>
      rw [hxi] at hz
      cases hz
      obtain ⟨p, hp, ra, hu, us, hra, hus⟩ := paired_at hpd hxi
      have hpm := List.mem_of_getElem? hp
      obtain ⟨hp1, hp2, hp3⟩ := ok.rows p hpm
      have hul : us.length = p.2.length := paired_len hus
      refine ⟨u, _, rfl, SqT.of (si _ _ hu), rfl, _, _, rfl, _, _, rfl, rfl, rfl, _, rfl, _, rfl, ra, rfl, ⟨_, SqL.of (si _ _ hra)⟩, fun D2 hD2 => lc_list (xs := us.map V.ref) (fun j Hj => ∃ fs : List Addr, Same Hi Hj ∧ Hj D2 = some (.lst (fs.map V.ref)) ∧ RowsIn R Hj fs (p.2.take j)) ⟨[], Same.new hD2, upd_same, .nil⟩ (fun j Hj _ hP => by obtain ⟨_, s, _⟩ := hP; exact SqL.of (s _ _ (si _ _ hra))) (fun j z Hj hz hP => ?turn2) (fun Hj hP => ?fin2)⟩
      case turn2 =>
        obtain ⟨fs, sj, hDj, hfs⟩ := hP
        rw [List.getElem?_map] at hz
        cases hxj : us[j]? with
        | none => rw [hxj] at hz; cases hz
        | some v =>
        rw [hxj] at hz
        cases hz
        obtain ⟨r, hr2, hv⟩ := paired_at hus hxj
        have hrm := List.mem_of_getElem? hr2
        have hfl : fs.length = (p.2.take j).length := paired_len hfs
        rw [List.length_take] at hfl
        refine ⟨rfl, _, rfl, v, r, rfl, SqT.of (sj _ _ (si _ _ hv)), hp3 r hrm, fun y Hy sy hy => ⟨_, sy _ _ hDj, ?_, fs ++ [y], Same.updn (sj.trans sy) hD2, by rw [upd_same, List.map_append]; rfl, ?_⟩⟩
        · rw [List.length_map]
          omega
        · rw [List.take_add_one, hr2]
          exact rowsin_lst (sy _ _ hDj) (paired_snoc hy (hfs.same sy))
      case fin2 =>
        obtain ⟨fs, sj, hDj, hfs⟩ := hP
        rw [List.length_map, hul, List.take_length] at hfs
        have hfl : fs.length = p.2.length := paired_len hfs
        have hal : as.length = (bk.take i).length := paired_len has
        rw [List.length_take] at hal
        refine part_made T (.inl (SqL.of hDj)) hfs (hnm p hpm) (by omega) fun x H' s' h => ⟨_, s' _ _ (sj _ _ hDi), ?_, as ++ [x], Same.updn (si.trans (sj.trans s')) hD, by rw [upd_same, List.map_append]; rfl, ?_⟩
        · rw [List.length_map]
          omega
        · rw [List.take_add_one, hp]
          have hD' := s' _ _ (sj _ _ hDi)
          have old : PtsIn T (upd H' D (.lst (as.map V.ref ++ [V.ref x]))) as (bk.take i) := paired_mono (R := fun a (q : PartD) => PtAt T H' a q.1 q.2) (fun _ _ z => ptat_lst hD' z) (has.same (sj.trans s'))
          have new : PtAt T (upd H' D (.lst (as.map V.ref ++ [V.ref x]))) x p.1 p.2 := ptat_lst hD' (h.at (hfs.same s'))
          exact paired_snoc (R := fun a (q : PartD) => PtAt T (upd H' D (.lst (as.map V.ref ++ [V.ref x]))) a q.1 q.2) new old
    case fin =>
      obtain ⟨as, si, hDi, has⟩ := hP
      rw [List.length_map, hql, List.take_length] at has
      exact book_made B (.inl (SqL.of (si _ _ hc))) ((csIn_of hcd).same si) ⟨D, as, rfl, .inl (SqL.of hDi), has⟩ ok fun x H' s' h => q x H' (si.trans s') h
end
end Pn

namespace Pn
open PySem PySem.Spec PyProof.Rows L2 TL
/-! ### numbers: what a row does with the numbers and boxes of all counters -/
abbrev Trm := Str × Int
def TermAt (K : PySem.W.Frag) (H : Hp) (a : Addr) (t : Trm) : Prop := SqT K H a [.str t.1, .int t.2]
def StepAt (K : PySem.W.Frag) (H : Hp) (a : Addr) (s : Trm × Trm) : Prop := ∃ b c, SqT K H a [.ref b, .ref c] ∧ TermAt K H b s.1 ∧ TermAt K H c s.2
theorem StepAt.same {K : PySem.W.Frag} {H H' : Hp} {a : Addr} {s : Trm × Trm} (h : StepAt K H a s) (m : Same H H') : StepAt K H' a s := by
  obtain ⟨b, c, h1, h2, h3⟩ := h
  exact ⟨b, c, Same.sqt m h1, Same.sqt m h2, Same.sqt m h3⟩
section
variable {P : Program} {w : World} {K : PySem.W.Frag} {mg : Str → Option Value} {base : Heap}
variable {R : TRows K mg} {T : TPart R} {B : TBk T}
/-- the numbers and boxes of all counters -/
def StAt (K : PySem.W.Frag) (H : Hp) (sp : Addr) (zs : List Str) (st : List (Int × Int)) : Prop := ∃ kvs : List (Key × V), H sp = some (.dK kvs) ∧ Paired (fun (kv : Key × V) (z : Str × (Int × Int)) => ∃ t : Addr, kv = (.inr z.1, .ref t) ∧ SqT K H t [.int z.2.1, .int z.2.2]) kvs (zs.zip st)
theorem StAt.same {H H' : Hp} {sp : Addr} {zs : List Str} {st : List (Int × Int)} (h : StAt K H sp zs st) (s : Same H H') : StAt K H' sp zs st := by
  obtain ⟨kvs, a, b⟩ := h
  exact ⟨kvs, s _ _ a, paired_mono (fun _ _ ⟨t, e, z⟩ => ⟨t, e, Same.sqt s z⟩) b⟩
end
end Pn

namespace Pn
open PySem PySem.Spec PyProof.Rows L2 TL
section
variable {K : PySem.W.Frag} {tl : TE} {g : TG} {tt : TT} {te : TE} {vs : List Nat} {σ : L2.St} {H : Hp} {Q : VK} {p : Addr} {xs : List V}
/-- [e for n, x in enumerate(xs) if ..] -/
theorem lcw_enum {ta : TA} (h0 : ∀ R : List V → Hp → Prop, R [.ref p] H → ta σ H R) (hp : SqL K H p xs) (hl : xs.length ≤ 10000) {out : Nat → Option V}
    (turn : ∀ (i : Nat) (x : V) (t : Addr) (Hi : Hp) (S : Hp → Prop) (Y : VK), xs[i]? = some x → Same H Hi → Hi t = some (.tup [.int (i : Int), x]) → (out i = none → ∀ H', Same Hi H' → S H') → (∀ v, out i = some v → ∀ H', Same Hi H' → Y v H') →
      g (.ref t) (wipe σ vs) Hi fun σ2 H2 => wipe σ2 vs = wipe σ vs ∧ tt σ2 H2 fun b H3 => if b = true then te σ2 H3 Y else S H3)
    (fin : ∀ (D : Addr) (H' : Hp), H D = none → Same H H' → H' D = some (.lst ((List.range xs.length).filterMap out)) → Q (.ref D) H') : tLc (iEnum K ta) g tt te vs σ H Q := by
  refine h0 _ ⟨p, xs, rfl, hp, fun D hD => ?_⟩
  refine ⟨fun i m Hi => m = xs.length - i ∧ i ≤ xs.length ∧ Same H Hi ∧ Hi D = some (.lst ((List.range i).filterMap out)), ⟨_, rfl, Nat.zero_le _, Same.new hD, upd_same⟩, ?_⟩
  rintro i m Hi ⟨rfl, hi, s, hd⟩
  by_cases lt : i < xs.length
  · have hx : xs[i]? = some xs[i] := List.getElem?_eq_getElem lt
    refine .inr ⟨⟨xs, _, s.seq hp, hx⟩, fun H' => Same H H' ∧ H' D = some (.lst ((List.range (i + 1)).filterMap out)), fun H' z => ⟨xs.length - (i + 1), by omega, rfl, lt, z.1, z.2⟩, fun v H' y => ?_⟩
    obtain ⟨t, x, rfl, ht, rfl, hx2⟩ := y
    have e := hx2 xs (s.seq hp)
    have st := Same.new (o := .tup [.int (i : Int), x]) ht
    refine turn i x t _ _ _ e (s.trans st) upd_same (fun h0 H3 s3 => ⟨(s.trans st).trans s3, ?_⟩) (fun v hv H3 s3 => ⟨_, s3 _ _ (st _ _ hd), ?_, ?_, ?_⟩)
    · rw [range_out, h0, List.append_nil]
      exact s3 _ _ (st _ _ hd)
    · have h1 : ((List.range i).filterMap out).length ≤ (List.range i).length := List.length_filterMap_le _ _
      rw [List.length_range] at h1
      have h2 : (10001 : Nat) ≤ sizeLine := by decide
      omega
    · exact fun a o e => by
        rw [upd_ne (ne_of_none e hD)]
        exact s3 _ _ (st _ _ (s _ _ e))
    · rw [upd_same, range_out, hv]
  · obtain rfl : i = xs.length := by omega
    exact .inl ⟨⟨xs, s.seq hp, Nat.le_refl _⟩, fin D Hi hD s hd⟩
end
/-! ### which note a reference means -/
section
variable {P : Program} {w : World} {K : PySem.W.Frag} {mg : Str → Option Value} {base : Heap} {R : TRows K mg} {T : TPart R} {B : TBk T}
end
end Pn

namespace Pn
open PySem PySem.Spec PyProof.Rows L2
/-! ### comprehensions that make objects; what stands although lists change -/
def SameN (H H' : Hp) : Prop := ∀ a o, H a = some o → (∀ xs, o ≠ HO.lst xs) → H' a = some o
theorem SameN.of {H H' : Hp} (s : Same H H') : SameN H H' := fun a o e _ => s a o e
theorem SameN.trans {H H1 H2 : Hp} (s : SameN H H1) (t : SameN H1 H2) : SameN H H2 := fun a o e n => t a o (s a o e n) n
theorem SameN.upd {H : Hp} {D : Addr} {xs : List V} {o : HO} (h : H D = some (.lst xs)) : SameN H (upd H D o) := fun a u e n => by
  rw [upd_ne (fun z => by rw [z, h] at e; cases e; exact n _ rfl)]
  exact e
theorem lcw_objs {K : PySem.W.Frag} {tl : TE} {g : TG} {tt : TT} {te : TE} {vs : List Nat} {σ : L2.St} {H : Hp} {Q : VK} {p : Addr} {xs : List V} {α : Type} {R : Hp → Addr → α → Prop} {cs : List α} (hR : ∀ {H H' : Hp} {t : Addr} {c : α}, SameN H H' → R H t c → R H' t c)
    (h0 : ∀ R : VK, R (.ref p) H → tl σ H R) (hp : SqL K H p xs) (hl : xs.length ≤ 1000) (hc : xs.length = cs.length)
    (turn : ∀ (i : Nat) (x : V) (c : α) (Hi : Hp) (S : Hp → Prop) (Y : VK), xs[i]? = some x → cs[i]? = some c → Same H Hi → (∀ t H', Same Hi H' → R H' t c → Y (.ref t) H') → g x (wipe σ vs) Hi fun σ2 H2 => wipe σ2 vs = wipe σ vs ∧ tt σ2 H2 fun b H3 => if b = true then te σ2 H3 Y else S H3)
    (fin : ∀ (D : Addr) (H' : Hp) (ts : List Addr), H D = none → Same H H' → H' D = some (.lst (ts.map V.ref)) → Paired (R H') ts cs → Q (.ref D) H') : tLc (iList K tl) g tt te vs σ H Q := by
  refine h0 _ ⟨p, rfl, ⟨_, hp⟩, fun D hD => lc_list (xs := xs) (fun i Hi => Same H Hi ∧ ∃ ts : List Addr, Hi D = some (.lst (ts.map V.ref)) ∧ ts.length ≤ i ∧ Paired (R Hi) ts (cs.take i)) ⟨Same.new hD, [], upd_same, Nat.le_refl _, .nil⟩ (fun _ _ _ hP => hP.1.seq hp) (fun i x Hi hx hP => ?_) (fun Hi hP => ?_)⟩
  · obtain ⟨s, ts, hd, hn, pd⟩ := hP
    have hi : i < xs.length := (List.getElem?_eq_some_iff.mp hx).1
    have hi2 : i < cs.length := by omega
    have hc2 : cs[i]? = some cs[i] := List.getElem?_eq_getElem hi2
    refine turn i x _ Hi _ _ hx hc2 s fun t H' s' r => ⟨_, s' _ _ hd, small1000 (by rw [List.length_map]; omega), (fun a o e => ?_), ts ++ [t], by rw [upd_same, List.map_append]; rfl, by rw [List.length_append]; exact Nat.add_le_add_right hn 1, ?_⟩
    · rw [upd_ne (ne_of_none e hD)]
      exact s' _ _ (s _ _ e)
    · have n2 : SameN H' (upd H' D (.lst (ts.map V.ref ++ [V.ref t]))) := SameN.upd (s' _ _ hd)
      rw [List.take_add_one, hc2]
      exact paired_snoc (hR n2 r) (paired_mono (fun _ _ z => hR ((SameN.of s').trans n2) z) pd)
  · obtain ⟨s, ts, hd, _, pd⟩ := hP
    rw [hc, List.take_length] at pd
    exact fin D Hi ts hD s hd pd
end Pn

namespace Pn
open PySem L2 TL
abbrev sIsPairF : Stmt := top 8
abbrev sAreFill : Stmt := top 61
abbrev sIsFilled : Stmt := top 62
/-! ### which values can stand in a filling -/
def fillB : RowD → Bool
  | .skip _ _ => true
  | .set _ _ => true
  | _ => false
def pairD : PyData → Bool
  | .tuple [_, _] => true
  | _ => false
def tupT : PyData → Bool
  | .tuple _ => true
  | _ => false
theorem kit_tupT : ∀ d : PyData, kitB (tyD d) "tuple" = some (tupT d)
  | .none => (by decide +kernel : kitB "NoneType" "tuple" = some false)
  | .bool _ => (by decide +kernel : kitB "bool" "tuple" = some false)
  | .int _ => (by decide +kernel : kitB "int" "tuple" = some false)
  | .str _ => (by decide +kernel : kitB "str" "tuple" = some false)
  | .list _ => (by decide +kernel : kitB "list" "tuple" = some false)
  | .tuple _ => (by decide +kernel : kitB "tuple" "tuple" = some true)
  | .dict _ => (by decide +kernel : kitB "dict" "tuple" = some false)
theorem dpAll_len {K : PySem.W.Frag} {H : Hp} : ∀ {vs : List V} {ds : List PyData}, DpAll K H vs ds → vs.length = ds.length
  | _, _, .nil => rfl
  | _, _, .cons _ b => congrArg Nat.succ (dpAll_len b)
theorem pair_len (ds : List PyData) : pairD (.tuple ds) = decide ((ds.length : Int) = 2) := by
  match ds with
  | [] => rfl
  | [_] => rfl
  | [_, _] => rfl
  | _ :: _ :: _ :: l =>
    show false = _
    refine (decide_eq_false fun z => ?_).symm
    simp only [List.length_cons] at z
    omega
section
variable {P : Program} {w : World} {K : PySem.W.Frag} {mg : Str → Option Value} {base : Heap}
/-- a row that can stand in a filling, another row, or data -/
def FillFlag (R : TRows K mg) (H : Hp) (x : V) (b : Bool) : Prop := (∃ a r, x = .ref a ∧ RowAt R H a r ∧ b = fillB r) ∨ (b = false ∧ ∃ d, Dp K H x d)
theorem FillFlag.same {R : TRows K mg} {H H' : Hp} {x : V} {b : Bool} (h : FillFlag R H x b) (s : Same H H') : FillFlag R H' x b := by
  rcases h with ⟨a, r, ex, h, e⟩ | ⟨e, d, h⟩
  · exact .inl ⟨a, r, ex, h.same s, e⟩
  · exact .inr ⟨e, d, dp_same s d x h⟩
structure TFil {K : PySem.W.Frag} {mg : Str → Option Value} (R : TRows K mg) : Type where
  kF : ∀ r, PySem.W.kitAny K (.ref (clsOf R r)) [.ref R.skip.C, .ref R.set.C] = some (fillB r)
  kD : ∀ d : PyData, PySem.W.kitAny K (.type (tyD d)) [.ref R.skip.C, .ref R.set.C] = some false
  kS : ∀ r, PySem.W.kitAny K (.ref (clsOf R r)) [.type "list", .type "tuple"] = some false
  cA : ∀ r, PySem.W.findIn K (.ref (clsOf R r)) "__class__" = some (some (.builtin "object.__class__"))
  cN : PySem.W.specialIn K (.builtin "object.__class__") "__get__" = some (some (.builtin "getset_descriptor.__get__"))
  cT : PySem.W.takesIn K (.builtin "object.__class__") = some true
  cM : ∀ r, PySem.W.mroIn K (clsOf R r) (.type "object") = some true
  mList : mg "list" = none
  mTup : mg "tuple" = none
  isSeq : At K mg "is_sequence" sIsSeq ["value"]
  isPair : At K mg "is_pair" sIsPairF ["value"]
  areF : At K mg "are_fillable" sAreFill ["rows"]
  isF : At K mg "is_filled" sIsFilled ["value"]
theorem row_ty {R : TRows K mg} (T : TFil R) {H : Hp} {a : Addr} {r : RowD} (h : RowAt R H a r) : TyX K H (.ref a) (.ref (clsOf R r)) := by
  obtain ⟨dy, h⟩ := h
  obtain ⟨gs, eg⟩ := insRow_ins R dy r
  rw [eg] at h
  exact .base (.ins h (cls_of R r) (T.cA r) T.cN T.cT (T.cM r))
theorem fill_kit {R : TRows K mg} (T : TFil R) {H : Hp} {x : V} {b : Bool} (h : FillFlag R H x b) : ∃ t, TyX K H x t ∧ PySem.W.kitAny K t [.ref R.skip.C, .ref R.set.C] = some b := by
  rcases h with ⟨a, r, rfl, h, rfl⟩ | ⟨rfl, d, h⟩
  · exact ⟨_, row_ty T h, T.kF r⟩
  · exact ⟨_, dp_ty h, T.kD d⟩
/-- what stands as rows: no sequence, or one of so many things -/
def FRows (R : TRows K mg) (H : Hp) (u : V) : Option (List V × List Bool) → Prop
  | none => (∃ d, Dp K H u d ∧ seqD d = false) ∨ ∃ a r, u = .ref a ∧ RowAt R H a r
  | some (xs, bs) => ∃ p, u = .ref p ∧ (SqL K H p xs ∨ SqT K H p xs) ∧ Paired (FillFlag R H) xs bs ∧ xs.length ≤ 1000
theorem FRows.same {R : TRows K mg} {H H' : Hp} {u : V} {o : Option (List V × List Bool)} (h : FRows R H u o) (s : Same H H') : FRows R H' u o := by
  cases o with
  | none =>
    rcases h with ⟨d, h, e⟩ | ⟨a, r, e, h⟩
    · exact .inl ⟨d, dp_same s d u h, e⟩
    · exact .inr ⟨a, r, e, h.same s⟩
  | some o =>
    obtain ⟨p, e, h, hp, hl⟩ := h
    exact ⟨p, e, h.elim (fun h => .inl (s.seq h)) (fun h => .inr (Same.sqt s h)), paired_mono (fun _ _ z => z.same s) hp, hl⟩
def argF : Option (List V × List Bool) → Bool
  | none => false
  | some (_, bs) => bs.all id
def spAreFill (R : TRows K mg) : Sp := fun vs H Q _ => ∃ (u : V) (o : Option (List V × List Bool)), vs = [u] ∧ FRows R H u o ∧ ∀ H', Same H H' → Q (.bl (argF o)) H'
theorem scAreFill : FnScope ["rows", "row"] ["rows"] (defScope sAreFill) := ⟨rfl, rfl, rfl, by decide +kernel, rfl, by decide +kernel, by decide +kernel⟩
theorem ok_areFill {R : TRows K mg} (T : TFil R) : FnOk P w K mg base CX0 2 T.areF.f T.areF.fd ["rows"] (spAreFill R) := by
  refine T.areF.F.ok scAreFill (fun vs H Q E h => ?_) (fun cdv A outer s H vs Q E hr h => ?_)
  · obtain ⟨u, o, rfl, _⟩ := h
    rfl
  · obtain ⟨u, o, rfl, ha, q⟩ := h
    refine ⟨_, pss_one (ps_ret (pe_and (pe_call (ok_isSeq T.isSeq.F R.N.mIsi T.mList T.mTup) (hr.mono (by decide)) rfl T.isSeq.m T.isSeq.F.kp T.isSeq.b .nil pass0 (pa_cons (pv 0) pa_nil))
      (pe_one (pe_callB (cr_all rfl) (by rfl) R.N.mAll (by decide +kernel) (pa_cons (pe_lc (own := [("row", 1)]) (g := gName 1) (tt := tYes) (by rfl) scAreFill.nd (pi_seq (pv 0))
            (blkOk_by (N := ["rows", "row"]) (sc := defScope sAreFill) (by decide +kernel)) (fun _ _ _ _ _ => pg_name (i := 1) scAreFill.nd rfl (Or.inl rfl)) (fun _ _ _ _ _ => pts_nil)
            (fun _ _ _ _ _ => pe_callB (show CallR _ (.builtin "isinstance") (rIsiT K) from call_isiT) (by rfl) R.N.mIsi (by decide +kernel) (pa_cons (pv 1) (pa_cons (pe_tup (pa_cons (pe_glob (v := .ref R.skip.C) (by rfl) R.skip.m rfl) (pa_cons (pe_glob (v := .ref R.set.C) (by rfl) R.set.m rfl) pa_nil))) pa_nil)))) pa_nil))))), ?_⟩
    cases o with
    | none =>
      have key : ∃ t, PySem.W.kitAny K t [.type "list", .type "tuple"] = some false ∧ TyX K H u t ∧ ∀ H', Same H H' → TyX K H' u t := by
        rcases ha with ⟨d, hd, hs⟩ | ⟨a, r, rfl, h⟩
        · exact ⟨_, by rw [kit_seq, hs], dp_ty hd, fun H' s' => dp_ty (dp_same s' d u hd)⟩
        · exact ⟨_, T.kS r, row_ty T h, fun H' s' => row_ty T (h.same s')⟩
      obtain ⟨t, k1, k2, k3⟩ := key
      refine ⟨_, rfl, u, t, false, rfl, k2, k1, k3, fun H1 s1 m1 => ⟨false, rfl, ?_⟩⟩
      exact q _ s1
    | some o =>
      obtain ⟨xs, bs⟩ := o
      obtain ⟨p, rfl, hp, hpd, hxl⟩ := ha
      have htk : ∃ t, PySem.W.kitAny K t [.type "list", .type "tuple"] = some true ∧ TyX K H (.ref p) t ∧ ∀ H', Same H H' → TyX K H' (.ref p) t := by
        rcases hp with hp | hp
        · exact ⟨_, kit_two (by decide +kernel : kitB "list" "list" = some true) (by decide +kernel : kitB "list" "tuple" = some false), sql_ty hp, fun H' s' => sql_ty (s'.seq hp)⟩
        · exact ⟨_, kit_two (by decide +kernel : kitB "tuple" "list" = some false) (by decide +kernel : kitB "tuple" "tuple" = some true), sqt_ty hp, fun H' s' => sqt_ty (Same.sqt s' hp)⟩
      obtain ⟨t, hk, ht1, ht2⟩ := htk
      refine ⟨_, rfl, _, t, true, rfl, ht1, hk, ht2, fun H2 hs2 hm2 => ⟨true, rfl, ?_⟩⟩
      have hp2 : SqL K H2 p xs ∨ SqT K H2 p xs := hp.elim (fun h => .inl (hs2.seq h)) (fun h => .inr (Same.sqt hs2 h))
      have hpd2 := paired_mono (fun _ _ z => z.same hs2) hpd
      have hbl : xs.length = bs.length := paired_len hpd
      refine iteT ?_
      dsimp only [tCB, tCons, tNil]
      have two : 2 ≤ sizeLine := by decide
      refine lcw_seq (K := K) (tl := tVar 0) (p := p) (xs := xs) (out := fun i => (bs[i]?).map V.bl) ?h0 hp2 (Nat.le_trans hxl (by decide)) ?tn ?fn
      case h0 => exact fun R z => ⟨_, rfl, z⟩
      case tn =>
        intro m x Hi S Y hx sI h0 h1
        obtain ⟨b, hb, hfl⟩ := paired_at hpd2 hx
        have hfi := hfl.same sI
        refine ⟨rfl, _, rfl, two, fun t ht => ?_⟩
        obtain ⟨ty, hty, hkt⟩ := fill_kit T (hfi.same (Same.new (o := .tup [.ref R.skip.C, .ref R.set.C]) ht))
        exact ⟨x, t, _, ty, _, b, rfl, upd_same, .cons (.own _) (.cons (.own _) .nil), hty, hkt, h1 (.bl b) (by show Option.map V.bl bs[m]? = _; rw [hb]; rfl) _ (Same.new ht)⟩
      case fn =>
        intro D H3 hD s3 h3
        have eo : (List.range xs.length).filterMap (fun i => (bs[i]?).map V.bl) = bs.map V.bl := by
          rw [hbl]
          exact out_map (l := bs) (f := V.bl)
        rw [eo] at h3
        exact ⟨D, bs, rfl, SqL.of h3, q _ (hs2.trans s3)⟩
/-- a pair of a name and rows, or none -/
def FillE (R : TRows K mg) (H : Hp) (v : V) (b : Bool) : Prop := (b = false ∧ ∃ d, Dp K H v d ∧ pairD d = false) ∨
  ∃ (t : Addr) (y u : V) (e : PyData) (o : Option (List V × List Bool)), v = .ref t ∧ SqT K H t [y, u] ∧ Dp K H y e ∧ dlen e ∧ (nameD e = false ∧ b = false ∨ nameD e = true ∧ FRows R H u o ∧ b = argF o)
theorem FillE.same {R : TRows K mg} {H H' : Hp} {v : V} {b : Bool} (h : FillE R H v b) (s : Same H H') : FillE R H' v b := by
  rcases h with ⟨e, d, h, hp⟩ | ⟨t, y, u, e, o, ev, ht, hy, hl, h⟩
  · exact .inl ⟨e, d, dp_same s d v h, hp⟩
  · exact .inr ⟨t, y, u, e, o, ev, Same.sqt s ht, dp_same s e y hy, hl, h.imp id fun ⟨a, b, c⟩ => ⟨a, b.same s, c⟩⟩
def spIsPairF (K : PySem.W.Frag) : Sp := fun vs H Q _ => ∃ (v : V) (b : Bool), vs = [v] ∧ ((∃ d, Dp K H v d ∧ pairD d = b) ∨ (b = true ∧ ∃ t y u, v = .ref t ∧ SqT K H t [y, u])) ∧ Q (.bl b) H
theorem scIsPairF : FnScope ["value"] ["value"] (defScope sIsPairF) := ⟨rfl, rfl, rfl, by decide +kernel, rfl, by decide +kernel, by decide +kernel⟩
theorem ok_isPairF {R : TRows K mg} (T : TFil R) : FnOk P w K mg base CX0 1 T.isPair.f T.isPair.fd ["value"] (spIsPairF K) := by
  refine T.isPair.F.ok scIsPairF (fun vs H Q E h => ?_) (fun cdv A outer s H vs Q E hr h => ?_)
  · obtain ⟨v, b, rfl, _⟩ := h
    rfl
  · obtain ⟨v, b, rfl, hd, q⟩ := h
    refine ⟨_, pss_one (ps_ret (pe_and (pe_callB call_isi (by rfl) R.N.mIsi (by decide +kernel) (pa_cons (pv 0) (pa_cons (pe_bltn (v := .ty "tuple") (by rfl) T.mTup (by decide +kernel) rfl) pa_nil)))
      (pe_one (pe_cmpR op_eq (pe_callB call_len_seq (by rfl) R.N.mLen PySem.boot_len (pa_cons (pv 0) pa_nil)) pe_int (nomark _))))), ?_⟩
    have eqi : ∀ n : Int, decide (V.int n = V.int 2) = decide (n = 2) := fun n => decide_eq_decide.mpr ⟨fun z => V.int.inj z, fun z => congrArg V.int z⟩
    rcases hd with ⟨d, hd, rfl⟩ | ⟨rfl, t, y, u, rfl, ht⟩
    · refine ⟨_, rfl, v, .ty "tuple", _, _, tupT d, rfl, .ty _, dp_ty hd, kit_ty (kit_tupT d), _, rfl, ?_⟩
      cases d with
      | none => exact q
      | str z => exact q
      | list ds => exact q
      | dict ds => exact q
      | int i => exact q
      | bool i => exact q
      | tuple ds =>
        refine iteT ?_
        cases hd with
        | tup s a =>
          refine ⟨_, rfl, _, _, rfl, .inr s, rfl, ?_⟩
          rw [pair_len, ← dpAll_len a] at q
          show Q (V.bl (decide (V.int _ = V.int 2))) H
          rw [eqi]
          exact q
    · refine ⟨_, rfl, _, .ty "tuple", _, _, true, rfl, .ty _, sqt_ty ht, kit_ty (by decide +kernel : kitB "tuple" "tuple" = some true), _, rfl, iteT ?_⟩
      refine ⟨_, rfl, _, _, rfl, .inr ht, rfl, ?_⟩
      exact q
def spIsFilled (R : TRows K mg) : Sp := fun vs H Q _ => ∃ (v : V) (b : Bool), vs = [v] ∧ FillE R H v b ∧ ∀ H', Same H H' → Q (.bl b) H'
theorem scIsFilled : FnScope ["value"] ["value"] (defScope sIsFilled) := ⟨rfl, rfl, rfl, by decide +kernel, rfl, by decide +kernel, by decide +kernel⟩
theorem ok_isFilled {R : TRows K mg} (T : TFil R) : FnOk P w K mg base CX0 3 T.isF.f T.isF.fd ["value"] (spIsFilled R) := by
  refine T.isF.F.ok scIsFilled (fun vs H Q E h => ?_) (fun cdv A outer s H vs Q E hr h => ?_)
  · obtain ⟨v, b, rfl, _⟩ := h
    rfl
  · obtain ⟨v, b, rfl, hv, q⟩ := h
    refine ⟨_, pss_one (ps_ret (pe_and (pe_call (ok_isPairF T) (hr.mono (by decide)) rfl T.isPair.m T.isPair.F.kp T.isPair.b .nil pass0 (pa_cons (pv 0) pa_nil))
      (pe_and (pe_call R.N.okName (hr.mono (by decide)) rfl R.N.isName.m R.N.isName.F.kp R.N.isName.b .nil pass0 (pa_cons (pe_ix ix_tup (pv 0) pe_int (fun _ _ => rfl)) pa_nil))
      (pe_one (pe_call (ok_areFill T) (hr.mono (by decide)) rfl T.areF.m T.areF.F.kp T.areF.b .nil pass0 (pa_cons (pe_ix ix_tup (pv 0) pe_int (fun _ _ => rfl)) pa_nil)))))), ?_⟩
    rcases hv with ⟨rfl, d, hd, hp⟩ | ⟨t, y, u, e, o, rfl, ht, hy, hl, h⟩
    · refine ⟨_, rfl, v, false, rfl, .inl ⟨d, hd, hp⟩, false, rfl, ?_⟩
      exact q _ (Same.refl _)
    · refine ⟨_, rfl, _, true, rfl, .inr ⟨rfl, t, y, u, rfl, ht⟩, true, rfl, iteT ?_⟩
      refine ⟨_, rfl, t, _, _, y, rfl, rfl, ht, atI_nat (j := 0) rfl, y, e, rfl, hy, hl, fun H1 s1 m1 => ⟨nameD e, rfl, ?_⟩⟩
      rcases h with ⟨hn, rfl⟩ | ⟨hn, hr2, rfl⟩
      · rw [hn]
        exact q _ s1
      · rw [hn]
        refine iteT ?_
        exact ⟨_, rfl, t, _, _, u, rfl, rfl, Same.sqt s1 ht, atI_nat (j := 1) rfl, u, o, rfl, hr2.same s1, fun H2 s2 => q _ (s1.trans s2)⟩
end
end Pn

namespace Pn
open PySem PySem.Spec PyProof.Rows L2 TL
abbrev sFInit : Stmt := inClass (top 64) 0
abbrev sIFInit : Stmt := inClass (top 15) 0
/-! ### Filling.__init__: what is made, what is refused -/
def rLenSq (K : PySem.W.Frag) : List V → Hp → VK → Prop := fun xs H Q => ∃ (p : Addr) (ys : List V), xs = [.ref p] ∧ (SqL K H p ys ∨ SqT K H p ys) ∧ Q (.int ys.length) H
theorem call_len_sq {X : Cx} : CallR X (.builtin "len") (rLenSq X.K) := call_len_seq
def rTupO (K : PySem.W.Frag) : List V → Hp → VK → Prop := fun xs H Q => ∃ (p : Addr) (ys : List V), xs = [.ref p] ∧ ((SqL K H p ys ∧ ∀ l, H l = none → Q (.ref l) (upd H l (.tup ys))) ∨ (SqT K H p ys ∧ Q (.ref p) H))
theorem call_tupO {X : Cx} : CallR X (.type "tuple") (rTupO X.K) := call_tuple_of
/-- the empty tuple that stands in the written part, and keeps no own attributes -/
def TupB (K : PySem.W.Frag) (a : Addr) : Prop := ∃ (o : Obj) (n : Nat), K.lookup a = some o ∧ o.cls = .type "tuple" ∧ o.dict = none ∧ o.data = .seq #[] n
theorem TupB.sqt {K : PySem.W.Frag} {H : Hp} {a : Addr} (h : TupB K a) : SqT K H a [] := by
  obtain ⟨o, n, hk, hc, _, hd⟩ := h
  exact .inr ⟨o, #[], n, hk, hc, hd, Nat.zero_le _, .nil⟩
/-- a tuple to make a dict of -/
def TupY (K : PySem.W.Frag) (H : Hp) (a : Addr) (xs : List V) : Prop := TupX H a xs ∨ (TupB K a ∧ xs = [])
theorem TupY.sqt {K : PySem.W.Frag} {H : Hp} {a : Addr} {xs : List V} (h : TupY K H a xs) : SqT K H a xs := by
  rcases h with h | ⟨h, rfl⟩
  · exact h.sqt
  · exact h.sqt
theorem TupY.same {K : PySem.W.Frag} {H H' : Hp} {a : Addr} {xs : List V} (h : TupY K H a xs) (s : Same H H') : TupY K H' a xs := h.imp (fun z => z.same s) id
theorem cr_dictB {X : Cx} (hc : X.calm = true) : CallR X (.type "dict") (fun xs H Q => ∃ a : Addr, xs = [.ref a] ∧ TupB X.K a ∧ ∀ p, H p = none → Q (.ref p) (upd H p (.dK []))) := by
  rintro pins s σ H xs us Q I r ⟨a, rfl, ⟨o, n, hk, hcl, hod, hdat⟩, q⟩
  obtain ⟨u, rfl, rx⟩ := vals1 r
  cases rx
  have ho := I.kIn a o hk
  refine PySem.call_dict_pairs (knd := mixKind X.prog X.w) (kvs := []) (PairArg.tuple a #[] (fun _ => 0) []) (I.ok.hd hc) ⟨⟨o, n, ho, hcl, hod, hdat⟩, rfl, fun j k v e => nomatch e⟩ ⟨rfl, fun i key v e => nomatch e⟩ (Nat.zero_le _) fun h' tk hd' k => ?_
  have hm : (s.heap.objs.size == sysModules) = false := beq_eq_false_iff_ne.mpr (Nat.ne_of_gt I.big)
  exact ⟨.ref s.heap.objs.size, _, I.laid (t' := tk) (fun b ob e => k b ob (by simp) e) (Nat.le_refl _) (show ObjOk X.prog X.w _ _ _ (.dK []) from ⟨Nat.zero_le _, hm, merged [] [], .nil, hd'⟩), rfl, q _ (I.hok.fresh (Nat.le_refl _))⟩
def rDictX2 (K : PySem.W.Frag) : List V → Hp → VK → Prop := fun xs H Q => ∃ (a : Addr) (ps : List Addr) (kvs : List (Key × V)), xs = [.ref a] ∧ (SqL K H a (ps.map V.ref) ∨ TupY K H a (ps.map V.ref)) ∧ Paired (fun p kv => SqT K H p [kV kv.1, kv.2]) ps kvs ∧
  ∀ p, H p = none → Q (.ref p) (upd H p (.dK (mergeK [] kvs)))
theorem cr_dictX2 {X : Cx} (hc : X.calm = true) : CallR X (.type "dict") (rDictX2 X.K) := by
  rintro pins s σ H xs us Q I r ⟨a, ps, kvs, rfl, hq | hq | ⟨hq, hz⟩, hp, q⟩
  · exact call_dictP hc pins s σ H _ us Q I r ⟨a, ps, kvs, rfl, hq, hp, q⟩
  · exact cr_dictX hc pins s σ H _ us Q I r ⟨a, ps, kvs, rfl, hq, hp, q⟩
  · have pz : ps = [] := List.map_eq_nil_iff.mp hz
    subst pz
    cases hp
    exact cr_dictB hc pins s σ H _ us Q I r ⟨a, rfl, hq, q⟩
theorem roomV {k : Nat} {A : Around} (r : Room k A) : A.units + 1 < PySem.cLine := by have := r.un; omega
/-- raised, from a heap on -/
def RaiseF (C : Addr) (H : Hp) (E : XK) (wd : V) : Prop := ∀ (e : Addr) (H' : Hp), Same H H' → H' e = some (.xd [("word", wd)]) → E (.ref C) (some e) H'
theorem if_made {C : Addr} {H H1 : Hp} {E : XK} {wd : V} (s : Same H H1) (h : RaiseF C H E wd) {a : Addr} (ha : H1 a = none) (dx : Addr) (h1 : (upd H1 a (exo a C none)) dx = none) (h2 : dx ≠ a) :
    E (.ref C) (some dx) (upd (del (upd (upd (upd H1 a (exo a C none)) dx (exd dx [("word", wd)])) a (exo a C (some dx))) a) dx (.xd [("word", wd)])) :=
  h dx _ (s.trans (same_made ha (by rw [upd_ne h2] at h1; exact h1))) upd_same
/-- a name, where its rows stand, the rows -/
abbrev FilD := Str × Addr × List RowD
section
variable {P : Program} {w : World} {K : PySem.W.Frag} {mg : Str → Option Value} {base : Heap}
theorem scIFInit : FnScope ["self", "word"] ["self", "word"] (defScope sIFInit) := ⟨rfl, rfl, rfl, by decide +kernel, rfl, by decide +kernel, by decide +kernel⟩
theorem okIFInit (T : TExc K mg "InvalidFilling" "InvalidFilling.__init__" "word" sIFInit) : FnOk P w K mg base CX0 1 T.fI T.fd ["self", "word"] (spXInit K "word") := by
  refine T.F.ok scIFInit (fun vs H Q E h => ?_) (fun cdv A outer s H vs Q E hr h => ?_)
  · obtain ⟨a, C, v, rfl, _⟩ := h
    rfl
  · obtain ⟨a, C, v, rfl, ha, O, no, q⟩ := h
    refine ⟨_, pss_one (ps_ost (pv 0) (pv 1)), ?_⟩
    exact ⟨_, rfl, _, rfl, a, C, rfl, O, no, .inl ⟨ha, fun dx h1 h2 => q dx h1 h2⟩⟩
structure TFill {K : PySem.W.Frag} {mg : Str → Option Value} (R : TRows K mg) : Type extends TFil R where
  mSet : mg "set" = none
  mSorted : mg "sorted" = none
  mDict : mg "dict" = none
  IF : TExc K mg "InvalidFilling" "InvalidFilling.__init__" "word" sIFInit
  C : Addr
  mC : mg "Filling" = some (.ref C)
  fI : Addr
  fdI : FuncData
  dP : Addr
  hP : ∀ H, SqT K H dP []
  FI : FunD K "__init__" "Filling.__init__" (defArgs sFInit) (defBody sFInit) (defScope sFInit) [.ref dP] [] fI fdI
  bI : Binds K fdI ["self", "parts"] []
  M : Mk K C fI
  cl : Cls K C
  noF : NoAttr K C "filled"
/-- rows as they stand: a list or a tuple of rows that can stand in a filling -/
def FRowsAt (R : TRows K mg) (H : Hp) (q : Addr) (us : List Addr) (rs : List RowD) : Prop := (SqL K H q (us.map V.ref) ∨ SqT K H q (us.map V.ref)) ∧ Paired (fun u r => RowAt R H u r) us rs ∧ (∀ r ∈ rs, fillB r = true) ∧ rs.length ≤ 1000
theorem FRowsAt.same {R : TRows K mg} {H H' : Hp} {q : Addr} {us : List Addr} {rs : List RowD} (h : FRowsAt R H q us rs) (s : Same H H') : FRowsAt R H' q us rs := by
  obtain ⟨a, b, c⟩ := h
  exact ⟨a.elim (fun h => .inl (s.seq h)) (fun h => .inr (Same.sqt s h)), paired_mono (fun _ _ z => z.same s) b, c⟩
/-- a good pair -/
def FPair (R : TRows K mg) (H : Hp) (t : Addr) (c : FilD) : Prop := SqT K H t [.str c.1, .ref c.2.1] ∧ nameS c.1 = true ∧ ∃ us, FRowsAt R H c.2.1 us c.2.2
theorem FPair.same {R : TRows K mg} {H H' : Hp} {t : Addr} {c : FilD} (h : FPair R H t c) (s : Same H H') : FPair R H' t c := by
  obtain ⟨a, b, us, d⟩ := h
  exact ⟨Same.sqt s a, b, us, d.same s⟩
theorem flags_all {R : TRows K mg} {H : Hp} : ∀ {us : List Addr} {rs : List RowD}, Paired (fun u r => RowAt R H u r) us rs → (∀ r ∈ rs, fillB r = true) → Paired (FillFlag R H) (us.map V.ref) (rs.map fun _ => true)
  | _, _, .nil, _ => .nil
  | _, _, .cons a b, h => .cons (.inl ⟨_, _, rfl, a, (h _ List.mem_cons_self).symm⟩) (flags_all b fun r hr => h r (List.mem_cons_of_mem _ hr))
theorem FPair.fillE {R : TRows K mg} {H : Hp} {t : Addr} {c : FilD} (h : FPair R H t c) : FillE R H (.ref t) true := by
  obtain ⟨a, b, us, d, e, f, g⟩ := h
  refine .inr ⟨t, .str c.1, .ref c.2.1, .str c.1, some (us.map V.ref, c.2.2.map fun _ => true), rfl, a, .str _, ?_, .inr ⟨b, ⟨c.2.1, rfl, d, flags_all e f, by rw [List.length_map, paired_len e]; exact g⟩, ?_⟩⟩
  · show c.1.length ≤ 900
    exact Nat.le_trans (name_ok b).2 (by decide)
  · show true = (c.2.2.map fun _ => true).all id
    symm
    rw [List.all_eq_true]
    intro x hx
    obtain ⟨_, _, rfl⟩ := List.mem_map.mp hx
    rfl
/-- what is no sequence -/
def NoSq (K : PySem.W.Frag) (H : Hp) (v : V) : Prop := ∃ t, TyX K H v t ∧ PySem.W.kitAny K t [.type "list", .type "tuple"] = some false ∧ ∀ H', Same H H' → TyX K H' v t
/-- what a filling keeps -/
def FilAt (R : TRows K mg) (H : Hp) (tp : Addr) (cs : List FilD) : Prop := ∃ (ps : List Addr) (ys : List Str), SqT K H tp (ps.map V.ref) ∧ ys.Perm (uniq ((cs.filter fun c => decide (c.2.2 ≠ [])).map (·.1))) ∧ sortedS ys = true ∧
  Paired (fun p y => ∃ (c : FilD) (q : Addr) (us : List Addr), c ∈ cs ∧ c.1 = y ∧ SqT K H p [.str y, .ref q] ∧ SqT K H q (us.map V.ref) ∧ Paired (fun u r => RowAt R H u r) us c.2.2 ∧ ∀ r ∈ c.2.2, fillB r = true) ps ys
def insFil (C dx : Addr) (u : V) : HO := .ins C dx (putF "filled" u [])
def spFInit (R : TRows K mg) (C CF : Addr) : Sp := fun vs H Q E => ∃ (x dx : Addr) (v : V), vs = [.ref x, v] ∧ H x = some (.ins C dx []) ∧
  ((NoSq K H v ∧ RaiseF CF H E (.str "parts")) ∨
   (∃ (p : Addr) (xs : List V) (bs : List Bool), v = .ref p ∧ (SqL K H p xs ∨ SqT K H p xs) ∧ Paired (FillE R H) xs bs ∧ xs.length ≤ 1000 ∧ bs.all id = false ∧ RaiseF CF H E (.str "parts")) ∨
   (∃ (p : Addr) (ts : List Addr) (cs : List FilD), v = .ref p ∧ (SqL K H p (ts.map V.ref) ∨ SqT K H p (ts.map V.ref)) ∧ Paired (FPair R H) ts cs ∧ cs.length ≤ 60 ∧ ¬ (cs.map (·.1)).Nodup ∧ RaiseF CF H E (.str "name")) ∨
   (∃ (p : Addr) (ts : List Addr) (cs : List FilD), v = .ref p ∧ (SqL K H p (ts.map V.ref) ∨ TupY K H p (ts.map V.ref)) ∧ Paired (FPair R H) ts cs ∧ cs.length ≤ 60 ∧ (cs.map (·.1)).Nodup ∧
     ∀ (tp : Addr) (H' : Hp), KpI x H H' → FilAt R H' tp cs → H' x = some (insFil C dx (.ref tp)) → Q .non H'))
/-! ### names, each once -/
theorem sub_len {α : Type} [DecidableEq α] : ∀ {l m : List α}, l.Nodup → (∀ z ∈ l, z ∈ m) → l.length ≤ m.length
  | [], _, _, _ => Nat.zero_le _
  | a :: l, m, nd, h => by
    rw [List.nodup_cons] at nd
    have ha := h a List.mem_cons_self
    have q := sub_len (l := l) (m := m.erase a) nd.2 fun z hz => (List.mem_erase_of_ne (fun e => nd.1 (by rw [← e]; exact hz))).mpr (h z (List.mem_cons_of_mem _ hz))
    rw [List.length_erase_of_mem ha] at q
    have p := List.length_pos_of_mem ha
    rw [List.length_cons]
    omega
theorem uniq_all {l : List Str} (h : l.Nodup) : (uniq l).length = l.length := Nat.le_antisymm (uniq_len l) (sub_len h fun z hz => (uniq_has l z).mpr hz)
theorem uniq_less : ∀ {l : List Str}, ¬ l.Nodup → (uniq l).length < l.length
  | [], h => absurd List.nodup_nil h
  | a :: l, h => by
    rw [List.nodup_cons] at h
    by_cases ha : a ∈ l
    · refine Nat.lt_of_le_of_lt (sub_len (m := l) (uniq_nodup _) fun z hz => ?_) (Nat.lt_succ_self _)
      rcases List.mem_cons.mp ((uniq_has _ z).mp hz) with rfl | q
      · exact ha
      · exact q
    · have hl : ¬ l.Nodup := fun z => h ⟨ha, z⟩
      have ih := uniq_less hl
      have q := sub_len (m := a :: uniq l) (uniq_nodup (a :: l)) fun z hz => by
        rcases List.mem_cons.mp ((uniq_has _ z).mp hz) with rfl | q
        · exact List.mem_cons_self
        · exact List.mem_cons_of_mem _ ((uniq_has l z).mpr q)
      rw [List.length_cons] at q ⊢
      omega
theorem merge_outF {f : FilD → V} : ∀ {cs : List FilD} {kv : List (Key × V)} {z : Str}, z ∉ cs.map (·.1) → valV (mergeK kv (cs.map fun c => (Sum.inr c.1, f c))) (.inr z) = valV kv (.inr z)
  | [], kv, z, _ => rfl
  | c :: cs, kv, z, h => by
    have h1 : z ≠ c.1 := fun e => h (by rw [e]; exact List.mem_cons_self)
    have h2 : z ∉ cs.map (·.1) := fun e => h (List.mem_cons_of_mem _ e)
    show valV (mergeK (putK kv (.inr c.1) (f c)) (cs.map fun c => (Sum.inr c.1, f c))) (.inr z) = _
    rw [merge_outF h2, valV_put, if_neg (fun e => h1 (by injection e))]
theorem merge_inF {f : FilD → V} : ∀ {cs : List FilD} {kv : List (Key × V)} {c : FilD}, (cs.map (·.1)).Nodup → c ∈ cs → valV (mergeK kv (cs.map fun c => (Sum.inr c.1, f c))) (.inr c.1) = some (f c)
  | [], kv, c, _, h => by cases h
  | d :: cs, kv, c, nd, h => by
    rw [List.map_cons, List.nodup_cons] at nd
    show valV (mergeK (putK kv (.inr d.1) (f d)) (cs.map fun c => (Sum.inr c.1, f c))) (.inr c.1) = _
    rcases List.mem_cons.mp h with rfl | h
    · rw [merge_outF nd.1, valV_put, if_pos rfl]
    · exact merge_inF nd.2 h
/-- one if whose body is only a raise, told by a flag -/
theorem stepEither {tt : TT} {A C : TS} {D : Ends} {σ : L2.St} {H : Hp} (b : Bool) (G : Hp → Prop) (h1 : ∀ Q : Bool → Hp → Prop, (∀ H', G H' → Q b H') → tt σ H Q) (hT : b = true → ∀ H', G H' → A { D with nx := C D } σ H') (hF : b = false → ∀ H', G H' → C D σ H') : tSeq (tIfS tt A tNext) C D σ H := h1 _ fun H' g => by
  cases b with
  | true =>
    rw [if_pos rfl]
    exact hT rfl H' g
  | false =>
    rw [if_neg Bool.false_ne_true]
    exact hF rfl H' g
theorem pairs_flags {R : TRows K mg} {H : Hp} : ∀ {ts : List Addr} {cs : List FilD}, Paired (FPair R H) ts cs → Paired (FillE R H) (ts.map V.ref) (cs.map fun _ => true)
  | _, _, .nil => .nil
  | _, _, .cons a b => .cons a.fillE (pairs_flags b)
theorem fil_true {α : Type} (l : List α) : (l.map fun _ => true).all id = true := by
  rw [List.all_eq_true]
  intro x hx
  obtain ⟨_, _, rfl⟩ := List.mem_map.mp hx
  rfl
theorem kind_seq {K : PySem.W.Frag} {H : Hp} {p : Addr} {xs : List V} (hp : SqL K H p xs ∨ SqT K H p xs) : ∃ t, PySem.W.kitAny K t [.type "list", .type "tuple"] = some true ∧ TyX K H (.ref p) t ∧ ∀ H', Same H H' → TyX K H' (.ref p) t := by
  rcases hp with hp | hp
  · exact ⟨_, kit_two (by decide +kernel : kitB "list" "list" = some true) (by decide +kernel : kitB "list" "tuple" = some false), sql_ty hp, fun H' s' => sql_ty (s'.seq hp)⟩
  · exact ⟨_, kit_two (by decide +kernel : kitB "tuple" "list" = some false) (by decide +kernel : kitB "tuple" "tuple" = some true), sqt_ty hp, fun H' s' => sqt_ty (Same.sqt s' hp)⟩
theorem sqt_sameN {K : PySem.W.Frag} {H H' : Hp} {a : Addr} {xs : List V} (s : SameN H H') (h : SqT K H a xs) : SqT K H' a xs := by
  rcases h with (e | ⟨o, e⟩) | e
  · exact .inl (.inl (s _ _ e fun _ z => nomatch z))
  · exact .inl (.inr ⟨o, s _ _ e fun _ z => nomatch z⟩)
  · exact .inr e
theorem RowAt.sameN {R : TRows K mg} {H H' : Hp} {a : Addr} {r : RowD} (s : SameN H H') (h : RowAt R H a r) : RowAt R H' a r := by
  obtain ⟨dx, e⟩ := h
  obtain ⟨gs, eg⟩ := insRow_ins R dx r
  exact ⟨dx, s _ _ e fun _ z => by rw [eg] at z; cases z⟩
theorem filter_out : ∀ cs : List FilD, cs.filterMap (fun c => if c.2.2 = [] then none else some (V.str c.1)) = ((cs.filter fun c => decide (c.2.2 ≠ [])).map (·.1)).map V.str
  | [] => rfl
  | c :: cs => by
    by_cases h : c.2.2 = []
    · rw [List.filterMap_cons, List.filter_cons]
      simp only [h, if_true, ne_eq, not_true, decide_false, Bool.false_eq_true, if_false]
      exact filter_out cs
    · rw [List.filterMap_cons, List.filter_cons]
      simp only [h, if_false, ne_eq, not_false_iff, decide_true, if_true, List.map_cons]
      rw [filter_out cs]
theorem pairs_kv {R : TRows K mg} {H : Hp} : ∀ {ts : List Addr} {cs : List FilD}, Paired (FPair R H) ts cs → Paired (fun p (kv : Key × V) => SqT K H p [kV kv.1, kv.2]) ts (cs.map fun c => (Sum.inr c.1, V.ref c.2.1))
  | _, _, .nil => .nil
  | _, _, .cons a b => .cons a.1 (pairs_kv b)
/-- what stands as one pair of a filling -/
def FOne (R : TRows K mg) (cs : List FilD) (H : Hp) (p : Addr) (y : Str) : Prop := ∃ (c : FilD) (q : Addr) (us : List Addr), c ∈ cs ∧ c.1 = y ∧ SqT K H p [.str y, .ref q] ∧ SqT K H q (us.map V.ref) ∧ Paired (fun u r => RowAt R H u r) us c.2.2 ∧ ∀ r ∈ c.2.2, fillB r = true
theorem FOne.sameN {R : TRows K mg} {cs : List FilD} {H H' : Hp} {p : Addr} {y : Str} (s : SameN H H') (h : FOne R cs H p y) : FOne R cs H' p y := by
  obtain ⟨c, q, us, h1, h2, h3, h4, h5, h6⟩ := h
  exact ⟨c, q, us, h1, h2, sqt_sameN s h3, sqt_sameN s h4, paired_mono (fun _ _ z => RowAt.sameN s z) h5, h6⟩
theorem FOne.ins {R : TRows K mg} {cs : List FilD} {H : Hp} {p x C dx : Addr} {y : Str} {o : HO} (hx : H x = some (.ins C dx [])) (h : FOne R cs H p y) : FOne R cs (upd H x o) p y := by
  obtain ⟨c, q, us, h1, h2, h3, h4, h5, h6⟩ := h
  refine ⟨c, q, us, h1, h2, sqt_ins hx h3, sqt_ins hx h4, paired_mono (fun u r z => ?_) h5, h6⟩
  obtain ⟨dy, fs, e, _, _, hl⟩ := row_word R z
  have ne : u ≠ x := fun w => by
    rw [w, hx] at e
    cases e
    cases hl
  obtain ⟨d2, e2⟩ := z
  exact ⟨d2, by rw [upd_ne ne]; exact e2⟩
theorem scFInit : FnScope ["self", "parts", "names", "given", "pair", "name", "rows"] ["self", "parts"] (defScope sFInit) := ⟨rfl, rfl, rfl, by decide +kernel, rfl, by decide +kernel, by decide +kernel⟩
theorem okFInit {R : TRows K mg} (T : TFill R) : FnOk P w K mg base (L2.CX P w) 5 T.fI T.fdI ["self", "parts"] (spFInit R T.C T.IF.C) := by
  refine T.FI.ok scFInit (fun vs H Q E h => ?_) (fun cdv A outer s H vs Q E hr h => ?_)
  · obtain ⟨x, dx, v, rfl, _⟩ := h
    rfl
  · obtain ⟨x, dx, v, rfl, hx, h⟩ := h
    refine ⟨_, (pss_cons (ps_if (PW.pt (pw_or (pt_not (pt_val (pe_call (ok_isSeq T.isSeq.F R.N.mIsi T.mList T.mTup) (hr.mono (by decide)) rfl T.isSeq.m T.isSeq.F.kp T.isSeq.b .nil pass0 (pa_cons (pv 1) pa_nil)))) (pw_or1 (pt_not (pt_val (pe_callB (cr_all rfl) (by rfl) R.N.mAll (by decide +kernel) (pa_cons (pe_lc (own := [("pair", 4)]) (g := gName 4) (tt := tYes) (by rfl) scFInit.nd (pi_seq (pv 1))
 (blkOk_by (N := ["self", "parts", "names", "given", "pair", "name", "rows"]) (sc := defScope sFInit) (by decide +kernel)) (fun _ _ _ _ _ => (pg_name (i := 4) scFInit.nd rfl (Or.inl rfl))) (fun _ _ _ _ _ => pts_nil) (fun _ _ _ _ _ => (pe_call (ok_isFilled T.toTFil) (hr.mono (by decide)) rfl T.isF.m T.isF.F.kp T.isF.b .nil pass0 (pa_cons (pv 4) pa_nil)))) pa_nil))))))) (pss_one (ps_raise rfl (takes_of rfl rfl rfl rfl) (pmk_oex T.IF.O T.IF.iC T.IF.tI (okIFInit T.IF) (hr.mono (by decide)) T.IF.b .nil pass0 rfl T.IF.m (pa_cons pe_str pa_nil)))) pss_nil)
(pss_cons (ps_if (pt_cmpR op_lt (pe_callB cr_lenX (by rfl) R.N.mLen PySem.boot_len (pa_cons (pe_callTy (cr_setX rfl) (by rfl) T.mSet (by decide +kernel) (pa_cons (pe_lc (own := [("name", 5), ("rows", 6)]) (g := gTup K 2 (gCons (gName 5) (gCons (gName 6) gNil))) (tt := tYes) (by rfl) scFInit.nd (pi_seq (pv 1))
 (blkOk_by (N := ["self", "parts", "names", "given", "pair", "name", "rows"]) (sc := defScope sFInit) (by decide +kernel)) (fun _ _ _ _ _ => (pg_tup (by rfl) (pgs_cons (pg_name (i := 5) scFInit.nd rfl (Or.inl rfl)) (pgs_cons (pg_name (i := 6) scFInit.nd rfl (Or.inl rfl)) pgs_nil)))) (fun _ _ _ _ _ => pts_nil) (fun _ _ _ _ _ => (pv 5))) pa_nil)) pa_nil)) (pe_callB (show CallR _ (.builtin "len") (rLenSq K) from call_len_sq) (by rfl) R.N.mLen PySem.boot_len (pa_cons (pv 1) pa_nil)) (nomark _)) (pss_one (ps_raise rfl (takes_of rfl rfl rfl rfl) (pmk_oex T.IF.O T.IF.iC T.IF.tI (okIFInit T.IF) (hr.mono (by decide)) T.IF.b .nil pass0 rfl T.IF.m (pa_cons pe_str pa_nil)))) pss_nil)
(pss_cons (ps_set (i := 2) scFInit.nd rfl (Or.inl rfl) (pe_callB (cr_sortX rfl) (by rfl) T.mSorted (by decide +kernel) (pa_cons (pe_callTy (cr_setX rfl) (by rfl) T.mSet (by decide +kernel) (pa_cons (pe_lc (own := [("name", 5), ("rows", 6)]) (g := gTup K 2 (gCons (gName 5) (gCons (gName 6) gNil))) (by rfl) scFInit.nd (pi_seq (pv 1))
 (blkOk_by (N := ["self", "parts", "names", "given", "pair", "name", "rows"]) (sc := defScope sFInit) (by decide +kernel)) (fun _ _ _ _ _ => (pg_tup (by rfl) (pgs_cons (pg_name (i := 5) scFInit.nd rfl (Or.inl rfl)) (pgs_cons (pg_name (i := 6) scFInit.nd rfl (Or.inl rfl)) pgs_nil)))) (fun _ _ _ _ _ => pts_one (pt_cmpR op_gt (pe_callB (show CallR _ (.builtin "len") (rLenSq K) from call_len_sq) (by rfl) R.N.mLen PySem.boot_len (pa_cons (pv 6) pa_nil)) pe_int (nomark _))) (fun _ _ _ _ _ => (pv 5))) pa_nil)) pa_nil)))
(pss_cons (ps_set (i := 3) scFInit.nd rfl (Or.inr rfl) (pe_callTy (cr_dictX2 rfl) (by rfl) T.mDict (by decide +kernel) (pa_cons (pv 1) pa_nil)))
(pss_one (ps_fld (pv 0) (pe_callTy (show CallR _ (.type "tuple") (rTupO K) from call_tupO) (by rfl) T.mTup (by decide +kernel) (pa_cons (pe_lc (own := [("name", 5)]) (g := gName 5) (tt := tYes) (by rfl) scFInit.nd (pi_list (pv 2))
 (blkOk_by (N := ["self", "parts", "names", "given", "pair", "name", "rows"]) (sc := defScope sFInit) (by decide +kernel)) (fun _ _ _ _ _ => (pg_name (i := 5) scFInit.nd rfl (Or.inl rfl))) (fun _ _ _ _ _ => pts_nil) (fun _ _ _ _ _ => (pe_tup (pa_cons (pv 5) (pa_cons (pe_callTy (show CallR _ (.type "tuple") (rTupO K) from call_tupO) (by rfl) T.mTup (by decide +kernel) (pa_cons (pe_dget (roomV hr) (pv 3) (pv 5) (fun _ _ => rfl)) pa_nil)) pa_nil))))) pa_nil)) rfl)))))), ?_⟩
    rcases h with ⟨⟨t, ty, hk, keep⟩, hz⟩ | h
    · refine stepEither true (fun H' => Same H H') (fun Q' hQ => ?_) (fun _ H1 s1 => ?_) (fun z => nomatch z)
      · exact ⟨_, rfl, v, t, false, rfl, ty, hk, keep, fun H1 s1 m1 => ⟨false, rfl, hQ _ s1⟩⟩
      · exact ⟨(by show 1 ≤ 1000; decide), fun a ha => ⟨a, T.IF.C, _, rfl, upd_same, T.IF.O, T.IF.noF, fun dx g1 g2 => ⟨rfl, dx, _, upd_same, by rw [upd_ne g2, upd_same], by rw [upd_ne g2] at g1; exact g1, if_made s1 hz ha dx g1 g2⟩⟩⟩
    have first : ∀ (p : Addr) (xs : List V) (bs : List Bool), v = .ref p → (SqL K H p xs ∨ SqT K H p xs) → Paired (FillE R H) xs bs → xs.length ≤ 1000 → ∀ Q' : Bool → Hp → Prop, (∀ H', Same H H' → Q' (!bs.all id) H') →
        (tOr (tNot (tB (tCall (spIsSeq K) [] E0 (tCons (tVar 1) tNil)))) (tNot (tB (tCB (rAll K) (tCons (tLc (iSeq K (tVar 1)) (gName 4) tYes (tCall (spIsFilled R) [] E0 (tCons (tVar 4) tNil)) [4]) tNil))))) (L2.start ["self", "parts", "names", "given", "pair", "name", "rows"] [.ref x, v]) H Q' := by
      intro p xs bs hv hp hpd hxl Q' hQ
      subst hv
      obtain ⟨t, hk, ht1, ht2⟩ := kind_seq hp
      refine ⟨_, rfl, _, t, true, rfl, ht1, hk, ht2, fun H1 s1 m1 => ⟨true, rfl, iteF ?_⟩⟩
      dsimp only [tNot, tB, tCB, tCons, tNil]
      have hp1 : SqL K H1 p xs ∨ SqT K H1 p xs := hp.elim (fun h => .inl (s1.seq h)) (fun h => .inr (Same.sqt s1 h))
      have hpd1 := paired_mono (fun _ _ z => z.same s1) hpd
      have hbl : xs.length = bs.length := paired_len hpd
      refine lcw_seq (K := K) (tl := tVar 1) (p := p) (xs := xs) (out := fun i => (bs[i]?).map V.bl) ?h0 hp1 (Nat.le_trans hxl (by decide)) ?tn ?fn
      case h0 => exact fun R z => ⟨_, rfl, z⟩
      case tn =>
        intro m y Hi S Y hy sI h0 h1
        obtain ⟨b, hb, hfl⟩ := paired_at hpd1 hy
        exact ⟨rfl, _, rfl, y, b, rfl, hfl.same sI, fun H' s' => h1 (.bl b) (by show Option.map V.bl bs[m]? = _; rw [hb]; rfl) H' s'⟩
      case fn =>
        intro D H3 hD s3 h3
        have eo : (List.range xs.length).filterMap (fun i => (bs[i]?).map V.bl) = bs.map V.bl := by
          rw [hbl]
          exact out_map (l := bs) (f := V.bl)
        rw [eo] at h3
        exact ⟨D, bs, rfl, SqL.of h3, bs.all id, rfl, hQ _ (s1.trans s3)⟩
    rcases h with ⟨p, xs, bs, rfl, hp, hpd, hxl, hall, hz⟩ | h
    · refine stepEither true (fun H' => Same H H') (fun Q' hQ => first p xs bs rfl hp hpd hxl Q' (fun H' s => by rw [hall]; exact hQ _ s)) (fun _ H1 s1 => ?_) (fun z => nomatch z)
      exact ⟨(by show 1 ≤ 1000; decide), fun a ha => ⟨a, T.IF.C, _, rfl, upd_same, T.IF.O, T.IF.noF, fun dx g1 g2 => ⟨rfl, dx, _, upd_same, by rw [upd_ne g2, upd_same], by rw [upd_ne g2] at g1; exact g1, if_made s1 hz ha dx g1 g2⟩⟩⟩
    have both : ∃ (p : Addr) (ts : List Addr) (cs : List FilD), v = .ref p ∧ (SqL K H p (ts.map V.ref) ∨ SqT K H p (ts.map V.ref)) ∧ Paired (FPair R H) ts cs ∧ cs.length ≤ 60 ∧ ((¬ (cs.map (·.1)).Nodup ∧ RaiseF T.IF.C H E (.str "name")) ∨
        ((cs.map (·.1)).Nodup ∧ (SqL K H p (ts.map V.ref) ∨ TupY K H p (ts.map V.ref)) ∧ ∀ (tp : Addr) (H' : Hp), KpI x H H' → FilAt R H' tp cs → H' x = some (insFil T.C dx (.ref tp)) → Q .non H')) := by
      rcases h with ⟨p, ts, cs, e, hp, pd, hl, nd, hz⟩ | ⟨p, ts, cs, e, hp, pd, hl, nd, q⟩
      · exact ⟨p, ts, cs, e, hp, pd, hl, .inl ⟨nd, hz⟩⟩
      · exact ⟨p, ts, cs, e, hp.imp id TupY.sqt, pd, hl, .inr ⟨nd, hp, q⟩⟩
    clear h
    obtain ⟨p, ts, cs, rfl, hp, pd, hcl, h⟩ := both
    have htl : ts.length = cs.length := paired_len pd
    have h60 : (ts.map V.ref).length ≤ 1000 := by rw [List.length_map]; omega
    refine stepEither false (fun H' => Same H H') (fun Q' hQ => first p (ts.map V.ref) (cs.map fun _ => true) rfl hp (pairs_flags pd) h60 Q' (fun H' s => by rw [fil_true]; exact hQ _ s)) (fun z => nomatch z) (fun _ H1 s1 => ?_)
    clear first
    have hp1 : SqL K H1 p (ts.map V.ref) ∨ SqT K H1 p (ts.map V.ref) := hp.elim (fun h => .inl (s1.seq h)) (fun h => .inr (Same.sqt s1 h))
    have pd1 := paired_mono (fun _ _ z => z.same s1) pd
    refine stepEither (!decide (cs.map (·.1)).Nodup) (fun H' => Same H1 H') (fun Q' hQ => ?t2) (fun e H2 s2 => ?bad) (fun e H2 s2 => ?rest2)
    case t2 =>
      dsimp only [tTest, tOp, tCB, tCons, tNil]
      refine lcw_seq (K := K) (tl := tVar 1) (p := p) (xs := ts.map V.ref) (out := fun i => (cs[i]?).map fun c => V.str c.1) ?h0 hp1 (Nat.le_trans h60 (by decide)) ?tn ?fn
      case h0 => exact fun R z => ⟨_, rfl, z⟩
      case tn =>
        intro m y Hi S Y hy sI h0 h1
        rw [List.getElem?_map] at hy
        obtain ⟨t, ht, rfl⟩ := Option.map_eq_some_iff.mp hy
        obtain ⟨c, hc, hP⟩ := paired_at pd1 ht
        exact ⟨t, _, rfl, Same.sqt sI hP.1, rfl, _, _, rfl, _, _, rfl, rfl, rfl, _, rfl, h1 (.str c.1) (by show Option.map (fun c : FilD => V.str c.1) cs[m]? = _; rw [hc]; rfl) Hi (Same.refl _)⟩
      case fn =>
        intro D H3 hD s3 h3
        have eo : (List.range (ts.map V.ref).length).filterMap (fun i => (cs[i]?).map fun c => V.str c.1) = (cs.map (·.1)).map V.str := by
          rw [List.length_map, htl, List.map_map]
          exact out_map (l := cs) (f := fun c => V.str c.1)
        rw [eo] at h3
        refine ⟨D, cs.map (·.1), rfl, SqL.of h3, by rw [List.length_map]; omega, fun a ha => ?_⟩
        have sa := s3.trans (Same.new (o := SetX P w a (uniq (cs.map (·.1)))) ha)
        refine ⟨a, uniq (cs.map (·.1)), rfl, upd_same, Nat.le_trans (uniq_len _) (by rw [List.length_map]; omega), ?_⟩
        refine ⟨_, rfl, p, ts.map V.ref, rfl, hp1.elim (fun h => .inl (sa.seq h)) (fun h => .inr (Same.sqt sa h)), ?_⟩
        refine ⟨_, _, rfl, rfl, _, rfl, ?_⟩
        rw [show decide (((uniq (cs.map (·.1))).length : Int) < ((ts.map V.ref).length : Int)) = !decide (cs.map (·.1)).Nodup from ?_]
        · exact hQ _ sa
        · by_cases nd : (cs.map (·.1)).Nodup
          · have e := uniq_all nd
            rw [List.length_map] at e
            rw [decide_eq_true nd]
            refine decide_eq_false ?_
            rw [List.length_map, htl, e]
            omega
          · have e := uniq_less nd
            rw [List.length_map] at e
            rw [decide_eq_false nd]
            refine decide_eq_true ?_
            rw [List.length_map, htl]
            omega
    case bad =>
      have nd : ¬ (cs.map (·.1)).Nodup := by simpa using e
      rcases h with ⟨_, hz⟩ | ⟨y, _⟩
      · exact ⟨(by show 1 ≤ 1000; decide), fun a ha => ⟨a, T.IF.C, _, rfl, upd_same, T.IF.O, T.IF.noF, fun dx g1 g2 => ⟨rfl, dx, _, upd_same, by rw [upd_ne g2, upd_same], by rw [upd_ne g2] at g1; exact g1, if_made (s1.trans s2) hz ha dx g1 g2⟩⟩⟩
      · exact absurd y nd
    case rest2 =>
    have nd : (cs.map (·.1)).Nodup := by simpa using e
    obtain ⟨hpx, q⟩ : (SqL K H p (ts.map V.ref) ∨ TupY K H p (ts.map V.ref)) ∧ ∀ (tp : Addr) (H' : Hp), KpI x H H' → FilAt R H' tp cs → H' x = some (insFil T.C dx (.ref tp)) → Q .non H' := by
      rcases h with ⟨z, _⟩ | ⟨_, a, b⟩
      · exact absurd nd z
      · exact ⟨a, b⟩
    clear h
    have s02 := s1.trans s2
    have hp2 : SqL K H2 p (ts.map V.ref) ∨ SqT K H2 p (ts.map V.ref) := hp1.elim (fun h => .inl (s2.seq h)) (fun h => .inr (Same.sqt s2 h))
    have pd2 := paired_mono (fun _ _ z => z.same s2) pd1
    refine stepSet (fun v H' => ∃ (g : Addr) (ys : List Str), v = .ref g ∧ Same H2 H' ∧ H' g = some (.lst (ys.map V.str)) ∧ ys.Perm (uniq ((cs.filter fun c => decide (c.2.2 ≠ [])).map (·.1))) ∧ sortedS ys = true) (fun Q' hQ => ?t3) (fun v H3 hC => ?rest3)
    case t3 =>
      dsimp only [tCB, tCons, tNil]
      refine lcw_seq (K := K) (tl := tVar 1) (p := p) (xs := ts.map V.ref) (out := fun i => (cs[i]?).bind fun c => if c.2.2 = [] then none else some (V.str c.1)) ?h0 hp2 (Nat.le_trans h60 (by decide)) ?tn ?fn
      case h0 => exact fun R z => ⟨_, rfl, z⟩
      case tn =>
        intro m y Hi S Y hy sI h0 h1
        rw [List.getElem?_map] at hy
        obtain ⟨t, ht, rfl⟩ := Option.map_eq_some_iff.mp hy
        obtain ⟨c, hc, hP⟩ := paired_at pd2 ht
        obtain ⟨g1, _, us, g2, g3, _⟩ := hP.same sI
        have lu := paired_len g3
        have oc : (fun i => (cs[i]?).bind fun c : FilD => if c.2.2 = [] then none else some (V.str c.1)) m = if c.2.2 = [] then none else some (V.str c.1) := by
          show (cs[m]?).bind _ = _
          rw [hc]
          rfl
        refine ⟨t, _, rfl, g1, rfl, _, _, rfl, _, _, rfl, rfl, rfl, ?_⟩
        refine ⟨_, rfl, c.2.1, us.map V.ref, rfl, g2, ?_⟩
        refine ⟨_, _, rfl, rfl, _, rfl, ?_⟩
        by_cases hz : c.2.2 = []
        · rw [if_pos hz] at oc
          rw [if_neg (by rw [List.length_map, lu, hz]; decide)]
          exact h0 oc _ (Same.refl _)
        · rw [if_neg hz] at oc
          have pos := List.length_pos_iff.mpr hz
          rw [if_pos (by rw [List.length_map, lu]; exact decide_eq_true (by omega))]
          exact ⟨_, rfl, h1 _ oc _ (Same.refl _)⟩
      case fn =>
        intro D H3 hD s3 h3
        have eo : (List.range (ts.map V.ref).length).filterMap (fun i => (cs[i]?).bind fun c => if c.2.2 = [] then none else some (V.str c.1)) = ((cs.filter fun c => decide (c.2.2 ≠ [])).map (·.1)).map V.str := by
          rw [List.length_map, htl, ← filter_out]
          exact out_filter
        rw [eo] at h3
        have few : ((cs.filter fun c => decide (c.2.2 ≠ [])).map (·.1)).length ≤ 60 := by
          rw [List.length_map]
          exact Nat.le_trans (List.length_filter_le _ _) hcl
        refine ⟨D, _, rfl, SqL.of h3, by omega, fun a ha => ?_⟩
        have sa := s3.trans (Same.new (o := SetX P w a (uniq ((cs.filter fun c => decide (c.2.2 ≠ [])).map (·.1)))) ha)
        refine ⟨a, _, rfl, upd_same, Nat.lt_of_le_of_lt (Nat.le_trans (uniq_len _) few) (by decide), fun ys g perm sorted hg => ?_⟩
        exact hQ _ _ ⟨g, ys, rfl, sa.trans (Same.new hg), upd_same, perm, sorted⟩
    case rest3 =>
    obtain ⟨g, ys, rfl, s3, hg, perm, sorted⟩ := hC
    have s03 := s02.trans s3
    have pd3 := paired_mono (fun _ _ z => z.same s3) pd2
    refine stepSet (fun v H' => ∃ (g2 : Addr), v = .ref g2 ∧ Same H3 H' ∧ H' g2 = some (.dK (mergeK [] (cs.map fun c => (Sum.inr c.1, V.ref c.2.1))))) (fun Q' hQ => ?t4) (fun v H4 hC => ?rest4)
    case t4 => exact ⟨_, rfl, p, ts, _, rfl, hpx.imp (fun h => s03.seq h) (fun h => h.same s03), pairs_kv pd3, fun g hg => hQ _ _ ⟨g, rfl, Same.new hg, upd_same⟩⟩
    case rest4 =>
    obtain ⟨g2, rfl, s4, hg2⟩ := hC
    have s04 := s03.trans s4
    have pd4 := paired_mono (fun _ _ z => z.same s4) pd3
    have hg4 := s4 _ _ hg
    have two : 2 ≤ sizeLine := by decide
    have yl : ys.length ≤ 60 := by
      rw [perm.length_eq]
      refine Nat.le_trans (uniq_len _) ?_
      rw [List.length_map]
      exact Nat.le_trans (List.length_filter_le _ _) hcl
    dsimp only [sFld, tCB, tCons, tNil]
    refine lcw_objs (K := K) (tl := tVar 2) (p := g) (xs := ys.map V.str) (cs := ys) (R := fun H t y => FOne R cs H t y) (fun s z => z.sameN s) ?h0 (SqL.of hg4) (by rw [List.length_map]; omega) (by rw [List.length_map]) ?tn ?fn
    case h0 => exact fun R z => ⟨_, rfl, z⟩
    case tn =>
      intro m yv y Hi S Y hy hys sI k
      rw [List.getElem?_map, hys] at hy
      cases hy
      have hm : y ∈ uniq ((cs.filter fun c => decide (c.2.2 ≠ [])).map (·.1)) := perm.mem_iff.mp (List.mem_of_getElem? hys)
      obtain ⟨c, hcm, rfl⟩ := List.mem_map.mp ((uniq_has _ y).mp hm)
      have hc := (List.mem_filter.mp hcm).1
      obtain ⟨t, hP⟩ := Paired.right pd4 c hc
      obtain ⟨g1, _, us, h2, h3, h4, _⟩ := hP.same sI
      have hd : DGet Hi g2 (.str c.1) (some (.ref c.2.1)) := by
        have z := DGet.k (k := (Sum.inr c.1 : Key)) (sI _ _ hg2)
        rw [merge_inF (f := fun c => V.ref c.2.1) nd hc] at z
        exact z
      refine ⟨rfl, _, rfl, _, rfl, _, rfl, g2, .ref c.2.1, rfl, hd, c.2.1, us.map V.ref, rfl, ?_⟩
      rcases h2 with h2 | h2
      · refine .inl ⟨h2, fun l hl => ⟨two, fun t ht => ?_⟩⟩
        have a1 := Same.new (o := .tup (us.map V.ref)) hl
        have a2 := Same.new (o := .tup [.str c.1, .ref l]) ht
        exact k t _ (a1.trans a2) ⟨c, l, us, hc, rfl, SqT.of upd_same, SqT.of (a2 _ _ upd_same), paired_mono (fun _ _ z => z.same (a1.trans a2)) h3, h4⟩
      · refine .inr ⟨h2, ⟨two, fun t ht => ?_⟩⟩
        have a2 := Same.new (o := .tup [.str c.1, .ref c.2.1]) ht
        exact k t _ a2 ⟨c, c.2.1, us, hc, rfl, SqT.of upd_same, Same.sqt a2 h2, paired_mono (fun _ _ z => z.same a2) h3, h4⟩
    case fn =>
      intro D H5 ps hD s5 h5 pp
      refine ⟨D, ps.map V.ref, rfl, .inl ⟨SqL.of h5, fun tp htp => ?_⟩⟩
      have s6 := Same.new (o := .tup (ps.map V.ref)) htp
      have s06 := (s04.trans s5).trans s6
      have hx6 := s06 _ _ hx
      have pp6 := paired_mono (fun _ _ z => FOne.sameN (SameN.of s6) z) pp
      have ht6 : SqT K (upd H5 tp (.tup (ps.map V.ref))) tp (ps.map V.ref) := SqT.of upd_same
      generalize upd H5 tp (.tup (ps.map V.ref)) = H6 at s6 s06 hx6 pp6 ht6 ⊢
      refine ⟨_, rfl, x, T.C, dx, [], rfl, hx6, T.cl, T.noF, (by show 0 < 1000; decide), ?_⟩
      refine q tp _ (fun b o e n => by rw [upd_ne n]; exact s06 _ _ e) ⟨ps, ys, sqt_ins hx6 ht6, perm, sorted, paired_mono (fun _ _ z => FOne.ins hx6 z) pp6⟩ upd_same
end
end Pn

namespace Pn
open PySem PySem.Spec PyProof.Rows L2 TL
abbrev sFText : Stmt := top 63
abbrev sFNames : Stmt := inClass (top 64) 1
abbrev sFRows : Stmt := inClass (top 64) 2
abbrev sFStr : Stmt := inClass (top 64) 3
/-! ### a filling told: its names, its rows, its text -/
abbrev FD := Str × List RowD
def fText (d : FD) : Str := Str.empty ++ d.1 ++ (": " : Str) ++ Txt.join ", " (d.2.map rowText)
def filText (ds : List FD) : Str := if ds = [] then "-" else Txt.join "; " (ds.map fText)
section
variable {P : Program} {w : World} {K : PySem.W.Frag} {mg : Str → Option Value} {base : Heap}
/-- one name with its rows -/
def FItem (R : TRows K mg) (H : Hp) (p : Addr) (d : FD) : Prop := ∃ (q : Addr) (us : List Addr), SqT K H p [.str d.1, .ref q] ∧ SqT K H q (us.map V.ref) ∧ Paired (fun u r => RowAt R H u r) us d.2
theorem FItem.same {R : TRows K mg} {H H' : Hp} {p : Addr} {d : FD} (h : FItem R H p d) (s : Same H H') : FItem R H' p d := by
  obtain ⟨q, us, h1, h2, h3⟩ := h
  exact ⟨q, us, Same.sqt s h1, Same.sqt s h2, paired_mono (fun _ _ z => z.same s) h3⟩
/-- a filling -/
def FilI {R : TRows K mg} (T : TFill R) (H : Hp) (a : Addr) (ds : List FD) : Prop := ∃ (dx tp : Addr) (ps : List Addr), H a = some (insFil T.C dx (.ref tp)) ∧ SqT K H tp (ps.map V.ref) ∧ Paired (FItem R H) ps ds
theorem FilI.same {R : TRows K mg} {T : TFill R} {H H' : Hp} {a : Addr} {ds : List FD} (h : FilI T H a ds) (s : Same H H') : FilI T H' a ds := by
  obtain ⟨dx, tp, ps, h1, h2, h3⟩ := h
  exact ⟨dx, tp, ps, s _ _ h1, Same.sqt s h2, paired_mono (fun _ _ z => z.same s) h3⟩
/-- of so few names and rows that it can be told -/
def filOk (ds : List FD) : Prop := ds.length ≤ 60 ∧ ∀ d ∈ ds, nameS d.1 = true ∧ d.2.length ≤ 100 ∧ ∀ r ∈ d.2, rowValid r
theorem fil_fld {u : V} : (putF "filled" u ([] : List (Str × V))).lookup ("filled" : Str) = some u := by
  rw [lookup_putF, if_pos rfl]
structure TFilM {R : TRows K mg} (T : TFill R) : Type where
  S : TStrs R
  ftext : At K mg "filled_text" sFText ["name", "rows"]
  names : TPr K T.C "names" "Filling.names" sFNames
  rowsFor : TMeth K T.C "rows_for" "Filling.rows_for" sFRows ["self", "name"]
  str : TMeth K T.C "__str__" "Filling.__str__" sFStr ["self"]
theorem rows_len {rs : List RowD} (h : ∀ r ∈ rs, rowValid r) : ((rs.map rowText).map (·.length)).sum ≤ 63 * rs.length := by
  induction rs with
  | nil => exact Nat.le_refl _
  | cons r rs ih =>
    have h1 := (sm_row (h r List.mem_cons_self)).1
    have h2 := ih fun x hx => h x (List.mem_cons_of_mem _ hx)
    simp only [List.map_cons, List.sum_cons, List.length_cons] at h2 ⊢
    omega
def spFText (R : TRows K mg) : Sp := fun vs H Q _ => ∃ (z : Str) (q : Addr) (us : List Addr) (rs : List RowD), vs = [.str z, .ref q] ∧ SqT K H q (us.map V.ref) ∧ Paired (fun u r => RowAt R H u r) us rs ∧ nameS z = true ∧ rs.length ≤ 100 ∧ (∀ r ∈ rs, rowValid r) ∧ ∀ H', Same H H' → Q (.str (fText (z, rs))) H'
theorem scFText : FnScope ["name", "rows", "texts", "row"] ["name", "rows"] (defScope sFText) := ⟨rfl, rfl, rfl, by decide +kernel, rfl, by decide +kernel, by decide +kernel⟩
theorem ok_ftext {R : TRows K mg} {T : TFill R} (S : TFilM T) : FnOk P w K mg base CX0 4 S.ftext.f S.ftext.fd ["name", "rows"] (spFText R) := by
  refine S.ftext.F.ok scFText (fun vs H Q E h => ?_) (fun cdv A outer s H vs Q E hr h => ?_)
  · obtain ⟨z, q, us, rs, rfl, _⟩ := h
    rfl
  · obtain ⟨z, qa, us, rs, rfl, hq, hus, hz, hl, hv, q⟩ := h
    refine ⟨_, (pss_cons (ps_set (i := 2) scFText.nd rfl (Or.inl rfl) (pe_join pe_str (pe_lc (own := [("row", 3)]) (g := gName 3) (tt := tYes) (by rfl) scFText.nd (pi_tup (pv 1))
 (blkOk_by (N := ["name", "rows", "texts", "row"]) (sc := defScope sFText) (by decide +kernel)) (fun _ _ _ _ _ => (pg_name (i := 3) scFText.nd rfl (Or.inl rfl))) (fun _ _ _ _ _ => pts_nil) (fun _ _ _ _ _ => (pe_callTy (show CallR _ (.type "str") (rStrRow R) from call_strRowK (K := K) (mg := mg) rfl rfl R S.S hr) (by rfl) R.N.mStr (by decide +kernel) (pa_cons (pv 3) pa_nil))))))
(pss_one (ps_ret (pe_joined (.cons (pe_fmt (pv 0)) (.cons pe_str (.cons (pe_fmt (pv 2)) .nil))))))), ?_⟩
    have hul := paired_len hus
    refine stepSet (fun v H' => Same H H' ∧ v = .str (Txt.join ", " (rs.map rowText))) (fun Q' hQ => ?t1) (fun v H1 hC => ?r1)
    case t1 =>
      refine ⟨⟨_, rfl⟩, ?_⟩
      refine lcw_tup (K := K) (tl := tVar 1) (p := qa) (xs := us.map V.ref) (out := fun i => (rs[i]?).map fun r => V.str (rowText r)) ?h0 hq (by rw [List.length_map, hul]; omega) ?tn ?fn
      case h0 => exact fun R z => ⟨_, rfl, z⟩
      case tn =>
        intro m y Hi S' Y hy sI h0 h1
        rw [List.getElem?_map] at hy
        obtain ⟨u, hu, rfl⟩ := Option.map_eq_some_iff.mp hy
        obtain ⟨r, hr2, hrow⟩ := paired_at hus hu
        exact ⟨rfl, _, rfl, u, r, rfl, hrow.same sI, valid_small (hv r (List.mem_of_getElem? hr2)), h1 _ (by show Option.map (fun r => V.str (rowText r)) rs[m]? = _; rw [hr2]; rfl) Hi (Same.refl _)⟩
      case fn =>
        intro D H' hD sD hDl
        have eo : (List.range (us.map V.ref).length).filterMap (fun i => (rs[i]?).map fun r => V.str (rowText r)) = (rs.map rowText).map V.str := by
          rw [List.length_map, hul, List.map_map]
          exact out_map (l := rs) (f := fun r => V.str (rowText r))
        rw [eo] at hDl
        have h63 := rows_len hv
        refine ⟨", ", D, rs.map rowText, rfl, rfl, .inl (SqL.of hDl), ?_, hQ _ _ ⟨sD, rfl⟩⟩
        rw [List.length_map, show (", " : Str).length = 2 by decide +kernel]
        omega
    case r1 =>
    obtain ⟨s1, rfl⟩ := hC
    try dsimp only [List.set]
    have h63 := rows_len hv
    have jl : (Txt.join ", " (rs.map rowText)).length ≤ 7000 := by
      have e : Txt.join ", " (rs.map rowText) = Str.join ", " (rs.map rowText) := join_eq _ _
      have := StrLaws.join_length_le ", " (rs.map rowText)
      rw [e]
      rw [List.length_map, show (", " : Str).length = 2 by decide +kernel] at this
      omega
    have zl := (name_ok hz).2
    refine ⟨_, rfl, .inl ⟨z, rfl, Nat.le_trans zl (by decide), z, rfl, ?l1, ": ", rfl, ?l2, _, rfl, .inl ⟨_, rfl, Nat.le_trans jl (by decide), _, rfl, ?l3, ?_⟩⟩⟩
    case l1 =>
      rw [strLen_append]
      exact Nat.le_trans (Nat.add_le_add_left zl _) (by decide +kernel)
    case l2 =>
      rw [strLen_append, strLen_append]
      exact Nat.le_trans (Nat.add_le_add_right (Nat.add_le_add_left zl _) _) (by decide +kernel)
    case l3 =>
      rw [strLen_append, strLen_append, strLen_append]
      exact Nat.le_trans (Nat.add_le_add (Nat.add_le_add_right (Nat.add_le_add_left zl _) _) jl) (by decide +kernel)
    exact q _ s1
end
end Pn

namespace Pn
open PySem PySem.Spec PyProof.Rows L2 TL
section
variable {P : Program} {w : World} {K : PySem.W.Frag} {mg : Str → Option Value} {base : Heap}
def spFNames {R : TRows K mg} (T : TFill R) : Sp := fun vs H Q _ => ∃ (a : Addr) (ds : List FD), vs = [.ref a] ∧ FilI T H a ds ∧ ds.length ≤ 60 ∧ ∀ tp H', Same H H' → SqT K H' tp (ds.map fun d => V.str d.1) → Q (.ref tp) H'
theorem scFNames : FnScope ["self", "name", "rows"] ["self"] (defScope sFNames) := ⟨rfl, rfl, rfl, by decide +kernel, rfl, by decide +kernel, by decide +kernel⟩
theorem ok_fNames {R : TRows K mg} {T : TFill R} (S : TFilM T) : FnOk P w K mg base CX0 2 S.names.g S.names.fd ["self"] (spFNames T) := by
  refine S.names.F.ok scFNames (fun vs H Q E h => ?_) (fun cdv A outer s H vs Q E hr h => ?_)
  · obtain ⟨a, ds, rfl, _⟩ := h
    rfl
  · obtain ⟨a, ds, rfl, ⟨dx, tp, ps, ha, htp, hps⟩, hl, q⟩ := h
    refine ⟨_, (pss_one (ps_ret (pe_callTy (show CallR _ (.type "tuple") (rTupO K) from call_tupO) (by rfl) T.mTup (by decide +kernel) (pa_cons (pe_lc (own := [("name", 1), ("rows", 2)]) (g := gTup K 2 (gCons (gName 1) (gCons (gName 2) gNil))) (tt := tYes) (by rfl) scFNames.nd (pi_tup (pe_fld (pv 0) rfl))
 (blkOk_by (N := ["self", "name", "rows"]) (sc := defScope sFNames) (by decide +kernel)) (fun _ _ _ _ _ => (pg_tup (by rfl) (pgs_cons (pg_name (i := 1) scFNames.nd rfl (Or.inl rfl)) (pgs_cons (pg_name (i := 2) scFNames.nd rfl (Or.inl rfl)) pgs_nil)))) (fun _ _ _ _ _ => pts_nil) (fun _ _ _ _ _ => (pv 1))) pa_nil)))), ?_⟩
    have hpl := paired_len hps
    dsimp only [tRet, tCB, tCons, tNil]
    refine lcw_tup (K := K) (tl := tFld K (tVar 0) "filled") (p := tp) (xs := ps.map V.ref) (out := fun i => (ds[i]?).map fun d => V.str d.1) ?h0 htp (by rw [List.length_map]; omega) ?tn ?fn
    case h0 => exact fun R' z => ⟨_, rfl, a, T.C, dx, _, .ref tp, rfl, ha, T.cl, T.noF, fil_fld, z⟩
    case tn =>
      intro m y Hi S' Y hy sI h0 h1
      rw [List.getElem?_map] at hy
      obtain ⟨p, hp, rfl⟩ := Option.map_eq_some_iff.mp hy
      obtain ⟨d, hd, q', us, g1, _⟩ := paired_at hps hp
      exact ⟨p, _, rfl, Same.sqt sI g1, rfl, _, _, rfl, _, _, rfl, rfl, rfl, _, rfl, h1 (.str d.1) (by show Option.map (fun d : FD => V.str d.1) ds[m]? = _; rw [hd]; rfl) Hi (Same.refl _)⟩
    case fn =>
      intro D H' hD sD hDl
      have eo : (List.range (ps.map V.ref).length).filterMap (fun i => (ds[i]?).map fun d => V.str d.1) = ds.map fun d => V.str d.1 := by
        rw [List.length_map, hpl]
        exact out_map (l := ds) (f := fun d => V.str d.1)
      rw [eo] at hDl
      exact ⟨D, _, rfl, .inl ⟨SqL.of hDl, fun l hl2 => q l _ (Same.trans sD (Same.new hl2)) (SqT.of upd_same)⟩⟩
def spFStr {R : TRows K mg} (T : TFill R) : Sp := fun vs H Q _ => ∃ (a : Addr) (ds : List FD), vs = [.ref a] ∧ FilI T H a ds ∧ filOk ds ∧ ∀ H', Same H H' → Q (.str (filText ds)) H'
theorem scFStr : FnScope ["self", "name", "rows"] ["self"] (defScope sFStr) := ⟨rfl, rfl, rfl, by decide +kernel, rfl, by decide +kernel, by decide +kernel⟩
theorem fText_len {d : FD} (hz : nameS d.1 = true) (hl : d.2.length ≤ 100) (hv : ∀ r ∈ d.2, rowValid r) : (fText d).length ≤ 7100 := by
  have h63 := rows_len hv
  have zl := (name_ok hz).2
  have e : Txt.join ", " (d.2.map rowText) = Str.join ", " (d.2.map rowText) := join_eq _ _
  have j := StrLaws.join_length_le ", " (d.2.map rowText)
  rw [List.length_map, show (", " : Str).length = 2 by decide +kernel] at j
  unfold fText
  rw [strLen_append, strLen_append, strLen_append, e, show Str.empty.length = 0 by decide +kernel, show (": " : Str).length = 2 by decide +kernel]
  omega
theorem fil_sum : ∀ {ds : List FD}, (∀ d ∈ ds, nameS d.1 = true ∧ d.2.length ≤ 100 ∧ ∀ r ∈ d.2, rowValid r) → ((ds.map fText).map (·.length)).sum ≤ 7100 * ds.length
  | [], _ => Nat.le_refl _
  | d :: ds, h => by
    obtain ⟨a, b, c⟩ := h d List.mem_cons_self
    have h1 := fText_len a b c
    have h2 := fil_sum fun x hx => h x (List.mem_cons_of_mem _ hx)
    simp only [List.map_cons, List.sum_cons, List.length_cons] at h2 ⊢
    omega
theorem ok_fStr {R : TRows K mg} {T : TFill R} (S : TFilM T) : FnOk P w K mg base CX0 5 S.str.f S.str.fd ["self"] (spFStr T) := by
  refine S.str.F.ok scFStr (fun vs H Q E h => ?_) (fun cdv A outer s H vs Q E hr h => ?_)
  · obtain ⟨a, ds, rfl, _⟩ := h
    rfl
  · obtain ⟨a, ds, rfl, ⟨dx, tp, ps, ha, htp, hps⟩, ⟨hl, hok⟩, q⟩ := h
    refine ⟨_, (pss_cons (ps_if (pt_cmpR op_eq (pe_callB (show CallR _ (.builtin "len") (rLenSq K) from call_len_sq) (by rfl) R.N.mLen PySem.boot_len (pa_cons (pe_fld (pv 0) rfl) pa_nil)) pe_int (nomark _)) (pss_one (ps_ret pe_str)) pss_nil)
(pss_one (ps_ret (pe_join pe_str (pe_lc (own := [("name", 1), ("rows", 2)]) (g := gTup K 2 (gCons (gName 1) (gCons (gName 2) gNil))) (tt := tYes) (by rfl) scFStr.nd (pi_tup (pe_fld (pv 0) rfl))
 (blkOk_by (N := ["self", "name", "rows"]) (sc := defScope sFStr) (by decide +kernel)) (fun _ _ _ _ _ => (pg_tup (by rfl) (pgs_cons (pg_name (i := 1) scFStr.nd rfl (Or.inl rfl)) (pgs_cons (pg_name (i := 2) scFStr.nd rfl (Or.inl rfl)) pgs_nil)))) (fun _ _ _ _ _ => pts_nil) (fun _ _ _ _ _ => (pe_call (ok_ftext S) (hr.mono (by decide)) rfl S.ftext.m S.ftext.F.kp S.ftext.b .nil pass0 (pa_cons (pv 1) (pa_cons (pv 2) pa_nil))))))))), ?_⟩
    have hpl := paired_len hps
    refine ⟨_, rfl, a, T.C, dx, _, .ref tp, rfl, ha, T.cl, T.noF, fil_fld, tp, _, rfl, .inr htp, rfl, _, rfl, ?_⟩
    have el : decide (V.int ((ps.map V.ref).length : Nat) = V.int 0) = decide (ds = []) := by
      rw [List.length_map, hpl]
      cases ds with
      | nil => simp
      | cons d ds =>
        refine (decide_eq_false fun z => ?_).trans (decide_eq_false (by simp)).symm
        have e := V.int.inj z
        simp only [List.length_cons] at e
        omega
    rw [el]
    by_cases hz : ds = []
    · refine iteTD (decide_eq_true hz) ?_
      have e : filText ds = "-" := if_pos hz
      rw [e] at q
      exact q H (Same.refl _)
    · refine iteFD (decide_eq_false hz) ?_
      have e : filText ds = Txt.join "; " (ds.map fText) := if_neg hz
      rw [e] at q
      refine ⟨⟨_, rfl⟩, ?_⟩
      refine lcw_tup (K := K) (tl := tFld K (tVar 0) "filled") (p := tp) (xs := ps.map V.ref) (out := fun i => (ds[i]?).map fun d => V.str (fText d)) ?h0 htp (by rw [List.length_map]; omega) ?tn ?fn
      case h0 => exact fun R' z => ⟨_, rfl, a, T.C, dx, _, .ref tp, rfl, ha, T.cl, T.noF, fil_fld, z⟩
      case tn =>
        intro m y Hi S' Y hy sI h0 h1
        rw [List.getElem?_map] at hy
        obtain ⟨p, hp, rfl⟩ := Option.map_eq_some_iff.mp hy
        obtain ⟨d, hd, q', us, g1, g2, g3⟩ := paired_at hps hp
        obtain ⟨o1, o2, o3⟩ := hok d (List.mem_of_getElem? hd)
        exact ⟨p, _, rfl, Same.sqt sI g1, rfl, _, _, rfl, _, _, rfl, rfl, rfl, _, rfl, _, rfl, d.1, q', us, d.2, rfl, Same.sqt sI g2, paired_mono (fun _ _ z => z.same sI) g3, o1, o2, o3, fun H' s' => h1 _ (by show Option.map (fun d : FD => V.str (fText d)) ds[m]? = _; rw [hd]; rfl) H' s'⟩
      case fn =>
        intro D H' hD sD hDl
        have eo : (List.range (ps.map V.ref).length).filterMap (fun i => (ds[i]?).map fun d => V.str (fText d)) = (ds.map fText).map V.str := by
          rw [List.length_map, hpl, List.map_map]
          exact out_map (l := ds) (f := fun d => V.str (fText d))
        rw [eo] at hDl
        have fs := fil_sum hok
        refine ⟨"; ", D, ds.map fText, rfl, rfl, .inl (SqL.of hDl), ?_, q _ sD⟩
        rw [List.length_map, show ("; " : Str).length = 2 by decide +kernel]
        omega
end
end Pn

namespace Pn
open PySem PySem.Spec PyProof.Rows L2 TL
abbrev sFEq : Stmt := inClass (top 64) 4
section
variable {P : Program} {w : World} {K : PySem.W.Frag} {mg : Str → Option Value} {base : Heap}
/-! ### two fillings compared -/
structure TFilE {R : TRows K mg} {T : TFill R} (S : TFilM T) : Type where
  eq : TMeth K T.C "__eq__" "Filling.__eq__" sFEq ["self", "other"]
  cA : PySem.W.findIn K (.ref T.C) "__class__" = some (some (.builtin "object.__class__"))
  cM : PySem.W.mroIn K T.C (.type "object") = some true
  kC : PySem.W.kitOne K (.ref T.C) (.ref T.C) = some true
  kD : ∀ d : PyData, PySem.W.kitOne K (.type (tyD d)) (.ref T.C) = some false
def rStrFil {R : TRows K mg} (T : TFill R) : List V → Hp → VK → Prop := fun xs H Q => ∃ (a : Addr) (ds : List FD), xs = [.ref a] ∧ FilI T H a ds ∧ filOk ds ∧ ∀ H', Same H H' → Q (.str (filText ds)) H'
theorem call_strFil {X : Cx} {R : TRows X.K X.mg} {T : TFill R} (S : TFilM T) (hr : Room 7 X.A) : CallR X (.type "str") (rStrFil T) := by
  intro pins s σ H xs us Q I rv h
  obtain ⟨a, ds, rfl, hp, hok, q⟩ := h
  obtain ⟨dx, tp, ps, ha, h2⟩ := id hp
  exact call_strIns (ok_fStr S) S.str.hf hr S.str.b pass0 pins s σ H _ us Q I rv ⟨a, _, dx, _, rfl, ha, S.str.hs, a, ds, rfl, hp, hok, fun H' s' => ⟨_, rfl, q H' s'⟩⟩
theorem call_strFilK {X : Cx} {K : PySem.W.Frag} {mg : Str → Option Value} (hK : X.K = K) (hm : X.mg = mg) {R : TRows K mg} {T : TFill R} (S : TFilM T) (hr : Room 7 X.A) : CallR X (.type "str") (rStrFil T) := by
  subst hK
  subst hm
  exact call_strFil S hr
def spFEq {R : TRows K mg} (T : TFill R) : Sp := fun vs H Q _ => ∃ (a : Addr) (y : V) (ds : List FD), vs = [.ref a, y] ∧ FilI T H a ds ∧ filOk ds ∧ ((∃ d, Dp K H y d ∧ Q (.bl false) H) ∨ ∃ (b : Addr) (es : List FD), y = .ref b ∧ FilI T H b es ∧ filOk es ∧ ∀ H', Same H H' → Q (.bl (decide (filText ds = filText es))) H')
theorem scFEq : FnScope ["self", "other"] ["self", "other"] (defScope sFEq) := ⟨rfl, rfl, rfl, by decide +kernel, rfl, by decide +kernel, by decide +kernel⟩
theorem ok_fEq {R : TRows K mg} {T : TFill R} {S : TFilM T} (Z : TFilE S) : FnOk P w K mg base CX0 8 Z.eq.f Z.eq.fd ["self", "other"] (spFEq T) := by
  refine Z.eq.F.ok scFEq (fun vs H Q E h => ?_) (fun cdv A outer s H vs Q E hr h => ?_)
  · obtain ⟨a, y, ds, rfl, _⟩ := h
    rfl
  · obtain ⟨a, y, ds, rfl, ha, hok, q⟩ := h
    refine ⟨_, pss_one (ps_ret (pe_and (pe_callB call_isi (by rfl) R.N.mIsi (by decide +kernel) (pa_cons (pv 1) (pa_cons (pe_glob (v := .ref T.C) (by rfl) T.mC rfl) pa_nil)))
      (pe_one (pe_cmpR op_eq (pe_callTy (call_strFilK (K := K) (mg := mg) rfl rfl S hr) (by rfl) R.N.mStr (by decide +kernel) (pa_cons (pv 0) pa_nil)) (pe_callTy (call_strFilK (K := K) (mg := mg) rfl rfl S hr) (by rfl) R.N.mStr (by decide +kernel) (pa_cons (pv 1) pa_nil)) (nomark _))))), ?_⟩
    rcases q with ⟨d, hd, q⟩ | ⟨b, es, rfl, hb, hokb, q⟩
    · refine ⟨_, rfl, y, .ref T.C, _, _, false, rfl, .own _, dp_ty hd, Z.kD d, _, rfl, iteF ?_⟩
      exact q
    · obtain ⟨dy, tq, ps2, hb2, _⟩ := id hb
      refine ⟨_, rfl, .ref b, .ref T.C, _, _, true, rfl, .own _, .base (.ins hb2 T.cl Z.cA T.cN T.cT Z.cM), Z.kC, _, rfl, iteT ?_⟩
      refine ⟨_, rfl, a, ds, rfl, ha, hok, fun H1 s1 => ⟨_, rfl, b, es, rfl, hb.same s1, hokb, fun H2 s2 => ⟨rfl, ?_⟩⟩⟩
      have e : decide (V.str (filText ds) = V.str (filText es)) = decide (filText ds = filText es) := by
        by_cases h : filText ds = filText es
        · rw [h, decide_eq_true rfl, decide_eq_true rfl]
        · rw [decide_eq_false h, decide_eq_false (fun z => h (V.str.inj z))]
      rw [e]
      exact q H2 (s1.trans s2)
end
end Pn

namespace Pn
open PySem PySem.W PyProof.Rows
/-! ### a text == an own instance: the text declines, the instance is asked -/
theorem meets_str_eq_ref {z : Str} {t : Tok} {a : Addr} : Meets (Builtin.«str.__eq__» ⟨[.str z t, .ref a], []⟩) (fun _ R s => (∃ o : Obj, s.heap.get? a = some o ∧ ∀ y u, o.data ≠ .prim (.str y u)) ∧ R (.ok (.ret .notImplemented)) s) := by
  refine Meets.of_wp fun prog w A R s hS => ?_
  obtain ⟨⟨o, ho, hd⟩, q⟩ := hS
  have as : ∀ {Q : Option PySem.Str → Shared → Prop} {E : Value → Shared → Prop}, Q none s → wpAny (model prog w) A.in1 (asStr? (.ref a)) Q E s := fun {Q E} h => by
    simp only [asStr?]
    refine wpAny_bind (wpAny_load ho ?_)
    split
    · rename_i y u e
      exact absurd e (hd y u)
    · exact wpAny_pure h
  unfold Builtin.«str.__eq__» Builtin.Str.strCompare
  refine wpAny_bind (wpAny_of_eq (show Builtin.Str.strSlot "__eq__" 1 ⟨[.str z t, .ref a], []⟩ = pure (.str z t, z, [.ref a]) from rfl) ?_)
  show wpAny _ _ (asStr? (.ref a) >>= _) _ _ _
  refine wpAny_bind (as ?_)
  repeat (first
    | exact ⟨_, rfl, q⟩
    | wp_step)
theorem cmp_str_ins {prog : Program} {w : World} {A : Around} {E : Value → Shared → Prop} {s : Shared} {K : Frag} {x C L f : Addr} {h₀ : Heap} {m : Str → Option Value} {ox : Obj} {od : Option Obj} {z : Str} {t : Tok} {Q : Value → Shared → Prop}
    (hu : A.units < PySem.cLine) (F : Fr h₀ L s.heap m) (X₀ : K.In h₀) (I : InstAt s.heap x ox C od) (hd : ∀ y u, ox.data ≠ .prim (.str y u)) (hn : subIn K (.ref C) (.type "str") = some false)
    (hs : findIn K (.ref C) (cmpInfo .Eq).2.2 = some (some (.ref f))) (hf : isFn K (.ref f) = true)
    (h : wpAny (model prog w) A (call (.ref f) [.ref x, .str z t]) (PySem.W.CmpBack Q) E s) : wpAny (model prog w) A (richCompare .Eq (.str z t) (.ref x)) Q E s := by
  have X := X₀.keeps F.keep
  have two : wpAny (model prog w) A (tryCompare (.ref x) (cmpInfo .Eq).2.2 (.str z t)) (fun r s' => ∃ v, r = some v ∧ Q v s') E s := by
    unfold tryCompare
    refine wpAny_bind (ifBound_K X I hs hf (wpAny_mono h (fun v s' hv => ?_) fun _ _ e => e))
    cases v <;> first | exact hv.elim | exact wpAny_pure ⟨_, rfl, hv⟩
  unfold richCompare
  simp only [(typeIs_str s z t).oneThing_none]
  refine wpAny_holding (wpAny_bind (wpAny_cRoomFor hu ?_))
  refine wpAny_bind (wpAny_typeOf (typeIs_str s z t) (wpAny_bind (I.type.here ?_)))
  rw [if_pos (by rfl)]
  refine wpAny_bind ((looks_subIn X hn).here ?_)
  simp only [Bool.false_eq_true, if_false, Bool.not_false, if_true]
  have ho : s.heap.get? x = some ox := I.1
  refine wpAny_bind (m := tryCompare (.str z t) _ (.ref x)) (wpAny_tryCompare_declines (typeIs_str s z t) PySem.F.slot_str_eq (call_meets PySem.F.slot_str_eq (typeIs_str s z t) PySem.F.entry_str_eq (PySem.F.args_str_eq_2 _ _) meets_str_eq_ref ⟨⟨ox, ho, hd⟩, rfl, ?_⟩))
  refine wpAny_bind (wpAny_mono two (fun r s' z => ?_) fun _ _ e => e)
  obtain ⟨v, rfl, hq⟩ := z
  exact wpAny_pure hq
end Pn

namespace Pn
open PySem L2
section
variable {X : Cx} {CX : CXT} {k : Nat} {f : Addr} {fd : FuncData} {ps : List Str} {sp : Sp} {E : XK}
/-- a text == data, or an own instance whose class has an __eq__ of its own -/
def rEqSO (K : PySem.W.Frag) (f : Addr) (sp : Sp) (E : XK) : R2 := fun x y H Q => rEqD K x y H Q ∨ ∃ (z : Str) (a C dx : Addr) (fs : List (Str × V)), x = .str z ∧ y = .ref a ∧ H a = some (.ins C dx fs) ∧ PySem.W.findIn K (.ref C) "__eq__" = some (some (.ref f)) ∧ PySem.W.subIn K (.ref C) (.type "str") = some false ∧ sp [y, x] H Q E
theorem op_eqSO (F : FnOk X.prog X.w X.K X.mg X.base CX k f fd ps sp) (hf : PySem.W.isFn X.K (.ref f) = true) (hu : X.A.units + 64 < PySem.cLine) (hr : Room k X.A) (hb : Binds X.K fd ps []) (hx : Passes CX X E) : OpR X (compareOp .Eq) (rEqSO X.K f sp E) := by
  intro pins s σ H x y v u Q I rx ry h
  rcases h with h | ⟨z, a, C, dx, fs, rfl, rfl, ha, hs, hn, q⟩
  · exact op_eqD hu pins s σ H x y v u Q I rx ry h
  obtain ⟨t, rfl⟩ := rx
  cases ry
  obtain ⟨mA, O, _⟩ := ins_get I.hok ha
  obtain ⟨od, J, _⟩ := O.look
  obtain ⟨m, hF⟩ := I.fr
  show wpAny (model X.prog X.w) X.A (richCompare .Eq (.str z t) (.ref a)) (EP X pins σ Q) X.xe s
  refine cmp_str_ins hr.units0 hF I.ok.mod.kin J (fun _ _ e => by cases e) hn hs hf ?_
  refine wpAny_mono (run_fnA F hr I.env0 hb hx I (.cons (show RelV (.ref a) (Value.ref a) from rfl) (.cons (show RelV (.str z) (Value.str z t) from ⟨t, rfl⟩) .nil)) q) (fun w s' z => ?_) fun _ _ x => x
  obtain ⟨z', H', I', rz, qz⟩ := z
  exact SlX.cmpback rz ⟨z', H', I', rz, qz⟩
end
end Pn

namespace Pn
open PySem PySem.Spec PyProof.Rows L2 TL
section
variable {P : Program} {w : World} {K : PySem.W.Frag} {mg : Str → Option Value} {base : Heap}
theorem roomW {k : Nat} {A : Around} (r : Room k A) : A.units + 64 < PySem.cLine := by have := r.un; omega
/-! ### the rows for a name -/
def spFRows {R : TRows K mg} (T : TFill R) : Sp := fun vs H Q _ => ∃ (a : Addr) (y : V) (ds : List FD), vs = [.ref a, y] ∧ FilI T H a ds ∧ filOk ds ∧
  ((∃ z : Str, y = .str z ∧ PyData.strOk z = true ∧ (∀ d ∈ ds, d.1 = z → ∀ q us, SqT K H q (us.map V.ref) → Paired (fun u r => RowAt R H u r) us d.2 → Q (.ref q) H) ∧ ((∀ d ∈ ds, d.1 ≠ z) → ∀ p, H p = none → Q (.ref p) (upd H p (.tup [])))) ∨
   (∃ e : PyData, Dp K H y e ∧ SeqAt.shaped e = true ∧ (∀ s, e ≠ .str s) ∧ ∀ p, H p = none → Q (.ref p) (upd H p (.tup []))) ∨
   (∃ (b : Addr) (es : List FD), y = .ref b ∧ FilI T H b es ∧ filOk es ∧ PySem.W.subIn K (.ref T.C) (.type "str") = some false ∧ ∀ p, H p = none → Q (.ref p) (upd H p (.tup []))))
theorem scFRows : FnScope ["self", "name", "one", "rows"] ["self", "name"] (defScope sFRows) := ⟨rfl, rfl, rfl, by decide +kernel, rfl, by decide +kernel, by decide +kernel⟩
theorem eqv_ss (a z : Str) : PyData.eqv (.str a) (.str z) = decide (a = z) := by
  have e : PyData.eqv (.str a) (.str z) = (a == z) := by simp [PyData.eqv]
  rw [e]
  by_cases h : a = z
  · rw [h, decide_eq_true rfl]
    exact beq_self_eq_true z
  · rw [decide_eq_false h]
    exact beq_eq_false_iff_ne.mpr h
theorem eqv_sn {a : Str} {e : PyData} (h : ∀ s, e ≠ .str s) : PyData.eqv (.str a) e = false := by
  cases e with
  | str s => exact absurd rfl (h s)
  | none => simp [PyData.eqv]
  | bool b => simp [PyData.eqv]
  | int i => simp [PyData.eqv]
  | list l => simp [PyData.eqv]
  | tuple l => simp [PyData.eqv]
  | dict l => simp [PyData.eqv]
theorem ok_fRows {R : TRows K mg} {T : TFill R} {S : TFilM T} (Z : TFilE S) : FnOk P w K mg base CX0 10 S.rowsFor.f S.rowsFor.fd ["self", "name"] (spFRows T) := by
  refine S.rowsFor.F.ok scFRows (fun vs H Q E h => ?_) (fun cdv A outer s H vs Q E hr h => ?_)
  · obtain ⟨a, y, ds, rfl, _⟩ := h
    rfl
  · obtain ⟨a, y, ds, rfl, hF, hok, q⟩ := h
    refine ⟨_, (pss_cons (ps_for PassesOwn.never rfl (pi_tup (pe_fld (pv 0) rfl)) (pg_tup (by rfl) (pgs_cons (pg_name (i := 2) scFRows.nd rfl (Or.inl rfl)) (pgs_cons (pg_name (i := 3) scFRows.nd rfl (Or.inl rfl)) pgs_nil)))
(pss_one (ps_if (pt_cmpR (op_eqSO (ok_fEq Z) Z.eq.hf (roomW hr) (hr.mono (by decide)) Z.eq.b pass0) (pv 2) (pv 1) (nomark _)) (pss_one (ps_ret (pv 3))) pss_nil)))
(pss_one (ps_ret (pe_tup pa_nil)))), ?_⟩
    obtain ⟨dx, tp, ps, ha, htp, hps⟩ := id hF
    have hpl := paired_len hps
    refine ⟨_, rfl, a, T.C, dx, _, .ref tp, rfl, ha, T.cl, T.noF, fil_fld, tp, rfl, ⟨_, htp⟩, for_tup (xs := ps.map V.ref) (fun i σ Hx => (∃ y2 y3, σ = [some (.ref a), some y, y2, y3]) ∧ Hx = H ∧ ∀ z, y = .str z → ∀ j d, j < i → ds[j]? = some d → d.1 ≠ z) ⟨⟨_, _, rfl⟩, rfl, fun _ _ j d h => absurd h (Nat.not_lt_zero _)⟩ (fun i σ Hx _ hP => by obtain ⟨_, rfl, _⟩ := hP; exact htp) (fun i v σ Hx hv hP => ?turn) (fun σ Hx hP => ?fin)⟩
    case fin =>
      obtain ⟨⟨y2, y3, rfl⟩, rfl, no⟩ := hP
      rw [List.length_map, hpl] at no
      refine ⟨Nat.zero_le _, fun p hp => ?_⟩
      rcases q with ⟨z, rfl, _, _, q⟩ | ⟨e, _, _, _, q⟩ | ⟨b, es, _, _, _, _, q⟩
      · exact q (fun d hd => by
          obtain ⟨j, hj⟩ := List.mem_iff_getElem?.mp hd
          exact no z rfl j d (List.getElem?_eq_some_iff.mp hj).1 hj) p hp
      · exact q p hp
      · exact q p hp
    case turn =>
      obtain ⟨⟨y2, y3, rfl⟩, rfl, no⟩ := hP
      rw [List.getElem?_map] at hv
      obtain ⟨p, hp, rfl⟩ := Option.map_eq_some_iff.mp hv
      obtain ⟨d, hd, q', us, g1, g2, g3⟩ := paired_at hps hp
      obtain ⟨o1, _, _⟩ := hok.2 d (List.mem_of_getElem? hd)
      have sh1 : SeqAt.shaped (.str d.1) = true := str_shaped (name_ok o1).1
      refine ⟨p, _, rfl, g1, rfl, _, _, rfl, _, _, rfl, rfl, ?_⟩
      try dsimp only [List.set]
      have go : ∀ z, y = .str z → d.1 ≠ z → ∀ j d', j < i + 1 → ds[j]? = some d' → d'.1 ≠ z := fun z e ne j d' hj hd' => by
        rcases Nat.lt_or_ge j i with h | h
        · exact no z e j d' h hd'
        · obtain rfl : j = i := by omega
          rw [hd] at hd'
          cases hd'
          exact ne
      rcases q with ⟨z, rfl, zok, q, _⟩ | ⟨e, he, hsh, hne, q⟩ | ⟨b, es, rfl, hb, hbo, hsub, q⟩
      · refine ⟨_, rfl, _, rfl, .inl ⟨.str d.1, .str z, .str _, .str _, sh1, str_shaped zok, _, rfl, ?_⟩⟩
        rw [eqv_ss]
        by_cases h : d.1 = z
        · refine iteTD (decide_eq_true h) ?_
          exact ⟨_, rfl, q d (List.mem_of_getElem? hd) h q' us g2 g3⟩
        · refine iteFD (decide_eq_false h) ?_
          exact ⟨⟨_, _, rfl⟩, rfl, fun z' e => by cases e; exact go z rfl h⟩
      · refine ⟨_, rfl, _, rfl, .inl ⟨.str d.1, e, .str _, he, sh1, hsh, _, rfl, ?_⟩⟩
        rw [eqv_sn hne]
        refine iteF ?_
        exact ⟨⟨_, _, rfl⟩, rfl, fun z' ez => by subst ez; cases he; exact absurd rfl (hne z')⟩
      · obtain ⟨dy, tq, ps2, hb2, _⟩ := id hb
        refine ⟨_, rfl, _, rfl, .inr ⟨d.1, b, T.C, dy, _, rfl, rfl, hb2, Z.eq.hs, hsub, b, .str d.1, es, rfl, hb, hbo, .inl ⟨.str d.1, .str _, _, rfl, ?_⟩⟩⟩
        refine iteF ?_
        exact ⟨⟨_, _, rfl⟩, rfl, fun z' ez => by cases ez⟩
end
end Pn

namespace Pn
open PySem PySem.Spec PyProof.Rows L2 TL
section
variable {K : PySem.W.Frag} {mg : Str → Option Value}
/-! ### from what Filling.__init__ leaves to a filling with what it tells -/
theorem fil_items {R : TRows K mg} {cs : List FilD} {H : Hp} : ∀ {ps : List Addr} {ys : List Str}, Paired (fun p y => ∃ (c : FilD) (q : Addr) (us : List Addr), c ∈ cs ∧ c.1 = y ∧ SqT K H p [.str y, .ref q] ∧ SqT K H q (us.map V.ref) ∧ Paired (fun u r => RowAt R H u r) us c.2.2 ∧ ∀ r ∈ c.2.2, fillB r = true) ps ys →
    ∃ ds : List FD, Paired (FItem R H) ps ds ∧ ds.map (·.1) = ys ∧ ∀ d ∈ ds, ∃ c ∈ cs, c.1 = d.1 ∧ c.2.2 = d.2
  | _, _, .nil => ⟨[], .nil, rfl, fun _ z => nomatch z⟩
  | _, _, .cons ⟨c, q, us, hc, e, h1, h2, h3, _⟩ b => by
    obtain ⟨ds, g1, g2, g3⟩ := fil_items b
    refine ⟨(c.1, c.2.2) :: ds, .cons ⟨q, us, by rw [e]; exact h1, h2, h3⟩ g1, by rw [List.map_cons, g2, ← e], fun d hd => ?_⟩
    rcases List.mem_cons.mp hd with rfl | hd
    · exact ⟨c, hc, rfl, rfl⟩
    · exact g3 d hd
/-- a made filling -/
theorem filI_of {R : TRows K mg} (T : TFill R) {cs : List FilD} {H : Hp} {x dx tp : Addr} (hx : H x = some (insFil T.C dx (.ref tp))) (h : FilAt R H tp cs) (nd : (cs.map (·.1)).Nodup) :
    ∃ ds : List FD, FilI T H x ds ∧ (ds.map (·.1)).Perm (uniq ((cs.filter fun c => decide (c.2.2 ≠ [])).map (·.1))) ∧ sortedS (ds.map (·.1)) = true ∧ ∀ d ∈ ds, ∃ c ∈ cs, c.1 = d.1 ∧ c.2.2 = d.2 := by
  obtain ⟨ps, ys, h1, h2, h3, h4⟩ := h
  obtain ⟨ds, g1, g2, g3⟩ := fil_items h4
  exact ⟨ds, ⟨dx, tp, ps, hx, h1, g1⟩, by rw [g2]; exact h2, by rw [g2]; exact h3, g3⟩
end
end Pn

namespace Pn
open PySem PySem.Spec PyProof.Rows L2 TL
/-! ### fillings: one list for one dict of names and rows -/
section
variable {P : Program} {w : World} {K : PySem.W.Frag} {mg : Str → Option Value} {base : Heap}
/-- the names with rows, in their order, with their rows -/
def Canon (cs es : List FD) : Prop := (es.map (·.1)).Perm ((cs.filter fun c => decide (c.2 ≠ [])).map (·.1)) ∧ sortedS (es.map (·.1)) = true ∧ ∀ d ∈ es, d ∈ cs
theorem fd_one {cs : List FD} (nd : (cs.map (·.1)).Nodup) {c c' : FD} (h : c ∈ cs) (h' : c' ∈ cs) (e : c.1 = c'.1) : c = c' := by
  induction cs with
  | nil => cases h
  | cons x cs ih =>
    rw [List.map_cons, List.nodup_cons] at nd
    rcases List.mem_cons.mp h with rfl | h1
    · rcases List.mem_cons.mp h' with rfl | h2
      · rfl
      · exact absurd (e ▸ List.mem_map_of_mem (f := (·.1)) h2) nd.1
    · rcases List.mem_cons.mp h' with rfl | h2
      · exact absurd (e.symm ▸ List.mem_map_of_mem (f := (·.1)) h1) nd.1
      · exact ih nd.2 h1 h2
/-- a made filling -/
theorem made_fil {R : TRows K mg} (T : TFill R) {cs : List FilD} {ds : List FD} {H : Hp} {x dx tp : Addr} (hx : H x = some (insFil T.C dx (.ref tp))) (h : FilAt R H tp cs) (hd : (cs.map fun c => ((c.1, c.2.2) : FD)) = ds) (nd : (ds.map (·.1)).Nodup) : ∃ es : List FD, FilI T H x es ∧ Canon ds es := by
  subst hd
  have en : (cs.map fun c => ((c.1, c.2.2) : FD)).map (·.1) = cs.map (·.1) := by rw [List.map_map]; rfl
  rw [en] at nd
  obtain ⟨es, h1, h2, h3, h4⟩ := filI_of T hx h nd
  have ef : ((cs.map fun c => ((c.1, c.2.2) : FD)).filter fun c => decide (c.2 ≠ [])).map (·.1) = (cs.filter fun c => decide (c.2.2 ≠ [])).map (·.1) := by
    rw [List.filter_map, List.map_map]
    rfl
  have n2 : ((cs.filter fun c => decide (c.2.2 ≠ [])).map (·.1)).Nodup := nd.sublist (List.Sublist.map _ List.filter_sublist)
  refine ⟨es, h1, ?_, h3, fun d hd => ?_⟩
  · rw [ef]
    exact h2.trans ((List.perm_ext_iff_of_nodup (uniq_nodup _) n2).mpr fun q => uniq_has _ q)
  · obtain ⟨c, hc, e1, e2⟩ := h4 d hd
    exact List.mem_map.mpr ⟨c, hc, by rw [e1, e2]⟩
def DRows (G : Hp) (kv : Key × V) (d : FD) : Prop := ∃ (l : Addr) (ts : List Addr), kv = (Sum.inr d.1, V.ref l) ∧ G l = some (.lst (ts.map V.ref)) ∧ Paired (fun t r => G t = some (.tup (rowTup r))) ts d.2
theorem DRows.same {G G' : Hp} {kv : Key × V} {d : FD} (h : DRows G kv d) (s : Same G G') : DRows G' kv d := by
  obtain ⟨l, ts, a, b, c⟩ := h
  exact ⟨l, ts, a, s _ _ b, paired_mono (fun _ _ z => s _ _ z) c⟩
def DictAt (H : Hp) (p : Addr) (ds : List FD) : Prop := ∃ kvs, H p = some (.dK kvs) ∧ Paired (DRows (hid H p)) kvs ds
theorem hid_up {A B : Hp} (s : Same A B) (p : Addr) : Same (hid A p) (hid B p) := fun _ _ e => hid_get (s _ _ (hid_sub _ _ e)) (hid_ne e)
theorem DictAt.same {H H' : Hp} {p : Addr} {ds : List FD} (h : DictAt H p ds) (s : Same H H') : DictAt H' p ds := by
  obtain ⟨kvs, a, b⟩ := h
  exact ⟨kvs, s _ _ a, paired_mono (fun _ _ z => z.same (hid_up s p)) b⟩
theorem val_at {G : Hp} : ∀ {kvs : List (Key × V)} {ds : List FD}, Paired (DRows G) kvs ds → (ds.map (·.1)).Nodup → ∀ d ∈ ds, ∃ (l : Addr) (ts : List Addr), valV kvs (.inr d.1) = some (.ref l) ∧ G l = some (.lst (ts.map V.ref)) ∧ Paired (fun t r => G t = some (.tup (rowTup r))) ts d.2
  | _, _, .nil, _, _, h => nomatch h
  | _, _, @Paired.cons _ _ _ kv d0 kvs ds a b, nd, d, h => by
    rw [List.map_cons, List.nodup_cons] at nd
    obtain ⟨l, ts, rfl, h1, h2⟩ := a
    rcases List.mem_cons.mp h with rfl | h
    · exact ⟨l, ts, valV_pos rfl, h1, h2⟩
    · obtain ⟨l', ts', g1, g2, g3⟩ := val_at b nd.2 d h
      refine ⟨l', ts', ?_, g2, g3⟩
      rw [valV_neg fun z => ?_]
      · exact g1
      · have z2 : d0.1 = d.1 := by injection z
        exact nd.1 (by rw [z2]; exact List.mem_map_of_mem (f := (·.1)) h)
/-- what a name finds in the dict, while it is locked or not -/
theorem dict_get {H Hi : Hp} {p : Addr} {kvs : List (Key × V)} {ds : List FD} (hk : Rd Hi p (.dK kvs)) (h : Paired (DRows (hid H p)) kvs ds) (s : Same (hid H p) Hi) (nd : (ds.map (·.1)).Nodup) {d : FD} (hd : d ∈ ds) :
    ∃ (l : Addr) (ts : List Addr), DGet Hi p (.str d.1) (some (.ref l)) ∧ Hi l = some (.lst (ts.map V.ref)) ∧ Paired (fun t r => Hi t = some (.tup (rowTup r))) ts d.2 := by
  obtain ⟨l, ts, a, b, c⟩ := val_at h nd d hd
  exact ⟨l, ts, .inl ⟨kvs, .inr d.1, hk, rfl, a.symm⟩, s _ _ b, paired_mono (fun _ _ z => s _ _ z) c⟩
def HandR (R : TRows K mg) (A G : Hp) (t : Addr) (d : FD) : Prop := ∃ (hl : Addr) (us : List Addr), A hl = none ∧ G t = some (.tup [.str d.1, .ref hl]) ∧ G hl = some (.lst (us.map V.ref)) ∧ Paired (fun u r => RowAt R G u r) us d.2
theorem HandR.same {R : TRows K mg} {A G G' : Hp} {t : Addr} {d : FD} (h : HandR R A G t d) (s : Same G G') : HandR R A G' t d := by
  obtain ⟨hl, us, n, a, b, c⟩ := h
  exact ⟨hl, us, n, s _ _ a, s _ _ b, paired_mono (fun _ _ z => z.same s) c⟩
/-- Filling(p) of good pairs -/
theorem make_go {R : TRows K mg} (T : TFill R) {CF : Addr} {H : Hp} {Q : Addr → Hp → Prop} {E : XK} {p : Addr} {ts : List Addr} {cs : List FilD} {ds : List FD} (hp : SqL K H p (ts.map V.ref) ∨ TupY K H p (ts.map V.ref)) (pd : Paired (FPair R H) ts cs) (hd : (cs.map fun c => ((c.1, c.2.2) : FD)) = ds)
    (nd : (ds.map (·.1)).Nodup) (hl : ds.length ≤ 60) (q : ∀ (x : Addr) (es : List FD) (H2 : Hp), Same H H2 → FilI T H2 x es → Canon ds es → Q x H2) :
    ∀ x dx, H x = none → H dx = none → dx ≠ x → spFInit R T.C CF (.ref x :: ([V.ref p] ++ [])) (upd (upd H dx (.own x)) x (.ins T.C dx [])) (fun v H2 => v = .non ∧ Q x H2) E := by
  intro x dx hx hdx ne
  have s1 : Same H (upd (upd H dx (.own x)) x (.ins T.C dx [])) := ins_same2 hx hdx
  have en : cs.map (·.1) = ds.map (·.1) := by rw [← hd, List.map_map]; rfl
  refine ⟨x, dx, .ref p, rfl, upd_same, .inr (.inr (.inr ⟨p, ts, cs, rfl, hp.imp (fun h => s1.seq h) (fun h => h.same s1), paired_mono (fun _ _ z => z.same s1) pd, by rw [← List.length_map (f := fun c => ((c.1, c.2.2) : FD)), hd]; exact hl, by rw [en]; exact nd, fun tp H2 kp hf hi => ⟨rfl, ?_⟩⟩))⟩
  obtain ⟨es, h1, h2⟩ := made_fil T hi hf hd nd
  exact q x es H2 (kpi_same2 hx hdx kp) h1 h2
theorem FItem.sameN {R : TRows K mg} {H H' : Hp} {p : Addr} {d : FD} (s : SameN H H') (h : FItem R H p d) : FItem R H' p d := by
  obtain ⟨q, us, h1, h2, h3⟩ := h
  exact ⟨q, us, sqt_sameN s h1, sqt_sameN s h2, paired_mono (fun _ _ z => RowAt.sameN s z) h3⟩
theorem FilI.sameN {R : TRows K mg} {T : TFill R} {H H' : Hp} {a : Addr} {ds : List FD} (s : SameN H H') (h : FilI T H a ds) : FilI T H' a ds := by
  obtain ⟨dx, tp, ps, h1, h2, h3⟩ := h
  exact ⟨dx, tp, ps, s _ _ h1 (fun _ z => by unfold insFil at z; cases z), sqt_sameN s h2, paired_mono (fun _ _ z => z.sameN s) h3⟩
end
end Pn

namespace Pn
open PySem PySem.Spec PyProof.Rows L2 TL
/-! ### from a dict of names and rows to a filling -/
def RowsF (ds : List FD) : Prop := ds.length ≤ 60 ∧ ∀ d ∈ ds, nameS d.1 = true ∧ d.2.length ≤ 100 ∧ ∀ r ∈ d.2, fillB r = true ∧ rowValid r
theorem handF_pairs {mg : Str → Option Value} {K : PySem.W.Frag} {R : TRows K mg} {A G : Hp} : ∀ {ts : List Addr} {ds : List FD}, Paired (HandR R A G) ts ds → (∀ d ∈ ds, nameS d.1 = true ∧ d.2.length ≤ 100 ∧ ∀ r ∈ d.2, fillB r = true ∧ rowValid r) → ∃ cs : List FilD, Paired (FPair R G) ts cs ∧ (cs.map fun c => ((c.1, c.2.2) : FD)) = ds
  | _, _, .nil, _ => ⟨[], .nil, rfl⟩
  | _, _, @Paired.cons _ _ _ t d ts ds ⟨hl, us, _, a, b, c⟩ h, ok => by
    obtain ⟨cs, h1, h2⟩ := handF_pairs h fun x hx => ok x (List.mem_cons_of_mem _ hx)
    obtain ⟨o1, o2, o3⟩ := ok d List.mem_cons_self
    exact ⟨(d.1, hl, d.2) :: cs, .cons ⟨SqT.of a, o1, us, .inl (SqL.of b), c, fun r hr => (o3 r hr).1, by show d.2.length ≤ 1000; omega⟩ h1, by rw [List.map_cons, h2]⟩
theorem passX1 {P : Program} {w : World} {X : Cx} : Passes (L2.CX P w) X E0 := fun _ _ _ _ _ _ _ ⟨_, _, _, _, _, _, _, _, _, _, _, _, h⟩ => h.elim
end Pn

namespace Pn
open PySem PySem.Spec PyProof.Rows L2
/-! ### sets of tuples whose items are keys of any kind (texts): searched, added to -/
/-- what the table's words ask of an item -/
structure ItemOk {P : Program} {w : World} {K : Type} [DecidableEq K] (kk : KeyKind P w K) : Prop where
  cls : ∀ (n : Nat) (k : K) (v : Value), kk.is k v = true → ofAClassStatement n v = pure false
  val : ∀ (n : Nat) (k : K) (v : Value), kk.is k v = true → ∃ b, hashByValue n v = pure b
theorem str_itemOk (P : Program) (w : World) : ItemOk (PySem.strKind P w) where
  cls := fun n k v h => by
    obtain ⟨t, rfl⟩ := Value.isStrOf_shape h
    cases n <;> rfl
  val := fun n k v h => by
    obtain ⟨t, rfl⟩ := Value.isStrOf_shape h
    exact ⟨false, by cases n <;> rfl⟩
section
variable {P : Program} {w : World} {K : Type} [DecidableEq K] {kk : KeyKind P w K} {A : Around} {E : Value → Shared → Prop} {s : Shared}
theorem items_are {ks : List K} {vs : List Value} (h : ItemsAre kk ks vs) : ∀ v ∈ vs, ∃ k, kk.is k v = true := by
  induction h with
  | nil => exact fun v z => nomatch z
  | cons h1 _ ih => exact fun v z => (List.mem_cons.mp z).elim (fun e => ⟨_, e ▸ h1⟩) (ih v)
theorem noClass_tup (O : ItemOk kk) {ks : List K} {b : Addr} {Q : Bool → Shared → Prop} (hk : IsTupleKey kk s.heap ks b) (q : Q false s) : wpAny (model P w) A (ofAClassStatement 8 (.ref b)) Q E s := by
  have ty := hk.typeIs
  obtain ⟨o, items, n, ho, _, hd, hi⟩ := hk
  unfold ofAClassStatement
  refine wpAny_bind (wpAny_typeOf ty ?_)
  dsimp only
  have et : (("tuple" : String) == "tuple") = true := by decide
  simp only [et, if_true, Bool.not_true, Bool.false_eq_true, if_false]
  try refine wpAny_bind (wpAny_pure ?_)
  try simp only [Bool.not_true, Bool.false_eq_true, if_false]
  show wpAny _ _ (seqItems? (.ref b) >>= _) _ _ s
  refine wpAny_bind (wpAny_seqItems ho hd ?_)
  refine wpAny_bind ?_
  show wpAny _ _ (forIn items _ _) _ _ s
  rw [← Array.forIn_toList]
  refine wpAny_forIn_list _ (fun rest r s' => r.1 = none ∧ s' = s ∧ ∀ v ∈ rest, ∃ k, kk.is k v = true) _ (fun v rest r s' => ?_) (fun r s' => ?_) _ _ ⟨rfl, rfl, items_are hi⟩
  · rintro ⟨hr, rfl, all⟩
    obtain ⟨k, hv⟩ := all v List.mem_cons_self
    rw [O.cls _ k v hv]
    refine wpAny_bind (wpAny_pure ?_)
    simp only [Bool.false_eq_true, if_false]
    exact wpAny_pure ⟨rfl, rfl, fun u z => all u (List.mem_cons_of_mem _ z)⟩
  · obtain ⟨r1, r2⟩ := r
    rintro ⟨hr, rfl, _⟩
    have hr : r1 = none := hr
    subst hr
    exact wpAny_pure q
theorem byVal_tup (O : ItemOk kk) {ks : List K} {b : Addr} {Q : Bool → Shared → Prop} (hk : IsTupleKey kk s.heap ks b) (q : ∀ z, Q z s) : wpAny (model P w) A (hashByValue 8 (.ref b)) Q E s := by
  have ty := hk.typeIs
  obtain ⟨o, items, n, ho, _, hd, hi⟩ := hk
  unfold hashByValue
  refine wpAny_bind (wpAny_specialOf ty F.slot_tuple_hash.lookup ?_)
  show wpAny _ _ (seqItems? (.ref b) >>= _) _ _ s
  refine wpAny_bind (wpAny_seqItems ho hd ?_)
  refine wpAny_bind ?_
  show wpAny _ _ (forIn items _ _) _ _ s
  rw [← Array.forIn_toList]
  refine wpAny_forIn_list _ (fun rest r s' => s' = s ∧ ∀ v ∈ rest, ∃ k, kk.is k v = true) _ (fun v rest r s' => ?_) (fun r s' => ?_) _ _ ⟨rfl, items_are hi⟩
  · rintro ⟨rfl, all⟩
    obtain ⟨k, hv⟩ := all v List.mem_cons_self
    obtain ⟨z, ez⟩ := O.val 7 k v hv
    rw [ez]
    refine wpAny_bind (wpAny_pure ?_)
    cases z with
    | true =>
      simp only [Bool.not_true, Bool.false_eq_true, if_false]
      exact wpAny_pure ⟨rfl, fun u y => all u (List.mem_cons_of_mem _ y)⟩
    | false =>
      simp only [Bool.not_false, if_true]
      exact wpAny_pure (wpAny_pure (q _))
  · obtain ⟨r1, r2⟩ := r
    rintro ⟨rfl, _⟩
    cases r1 with
    | none => exact wpAny_pure (q _)
    | some z => exact wpAny_pure (q _)
end
end Pn
namespace Pn
open PySem PySem.Spec PyProof.Rows L2
section
variable {P : Program} {w : World} {K : Type} [DecidableEq K] {kk : KeyKind P w K} {A : Around} {E : Value → Shared → Prop} {s : Shared}
/-- a search among such tuples shows nothing of the table -/
theorem unseen_tup (O : ItemOk kk) {ks : List K} {b : Addr} {Q : Bool → Shared → Prop} (hk : IsTupleKey kk s.heap ks b) {ys : List Value} (hy : ∀ y ∈ ys, ∃ k' c, y = Value.ref c ∧ IsTupleKey kk s.heap k' c) (q : Q false s) :
    wpAny (model P w) A (searchCouldBeSeen (.ref b) ys) Q E s := by
  unfold searchCouldBeSeen
  refine wpAny_bind ?_
  refine wpAny_forIn_list _ (fun rest r s' => r.1 = none ∧ s' = s ∧ ∀ y ∈ rest, ∃ k' c, y = Value.ref c ∧ IsTupleKey kk s.heap k' c) _ (fun v rest r s' => ?_) (fun r s' => ?_) _ _ ⟨rfl, rfl, hy⟩
  · rintro ⟨hr, rfl, all⟩
    obtain ⟨k', c, rfl, hc⟩ := all v List.mem_cons_self
    have more : ∀ y ∈ rest, ∃ k' c, y = Value.ref c ∧ IsTupleKey kk s'.heap k' c := fun u z => all u (List.mem_cons_of_mem _ z)
    dsimp only
    refine (Classical.em ((b == c || (carriedByValue (.ref b) && carriedByValue (.ref c))) = true)).elim (fun hv => wp_if_pos hv (wpAny_pure ⟨rfl, rfl, more⟩)) fun hv => wp_if_neg hv ?_
    refine wpAny_bind (wpAny_eqIsQuiet_tuple hk ?_)
    simp only [Bool.not_true, Bool.false_eq_true, if_false]
    refine wpAny_bind (wpAny_eqIsQuiet_tuple hc ?_)
    simp only [Bool.not_true, Bool.false_eq_true, if_false]
    refine wpAny_bind (noClass_tup O hk ?_)
    simp only [Bool.false_eq_true, if_false]
    refine wpAny_bind (noClass_tup O hc ?_)
    simp only [Bool.false_eq_true, if_false]
    exact wpAny_pure ⟨rfl, rfl, more⟩
  · obtain ⟨r1, r2⟩ := r
    rintro ⟨hr, rfl, _⟩
    have hr : r1 = none := hr
    subst hr
    exact wpAny_pure q
/-- the entries of a set: hash and tuple -/
def entK (kk : KeyKind P w K) (L : List (Addr × List K)) : List (Int × Value) := L.map fun p => (tupleKeyHash kk p.2, Value.ref p.1)
def hsK (kk : KeyKind P w K) (L : List (Addr × List K)) : List Int := L.map fun p => tupleKeyHash kk p.2
theorem entK_len {L : List (Addr × List K)} {es : Array (Int × Value)} (h : es.toList = entK kk L) : es.size = L.length := by
  have e := congrArg List.length h
  rw [Array.length_toList] at e
  exact e.trans (List.length_map _)
theorem entK_get {L : List (Addr × List K)} {es : Array (Int × Value)} (h : es.toList = entK kk L) {i : Nat} {p : Addr × List K} (hp : L[i]? = some p) : es[i]? = some (tupleKeyHash kk p.2, Value.ref p.1) := by
  have e : es.toList[i]? = some (tupleKeyHash kk p.2, Value.ref p.1) := by
    rw [h]
    show (L.map _)[i]? = _
    rw [List.getElem?_map, hp]
    rfl
  rw [← e, Array.getElem?_toList]
/-- the set at a holds the tuples L, each key once -/
structure TpSet (kk : KeyKind P w K) (h : Heap) (a : Addr) (L : List (Addr × List K)) (es : Array (Int × Value)) (ep : Nat) (t : SetTable) : Prop where
  ob : ∃ o, h.get? a = some o ∧ o.ExactSet ∧ o.data = .set es ep t
  en : es.toList = entK kk L
  tab : TabOk t (hsK kk L)
  nd : (L.map (·.2)).Nodup
  led : w.params.followText "set-order" = true ∨ t.led = true
  room : L.length * 5 < t.mask * 3
  few : L.length < 64
/-- .. and its tuples stand -/
def TupsIn (kk : KeyKind P w K) (h : Heap) (L : List (Addr × List K)) : Prop := ∀ p ∈ L, IsTupleKey kk h p.2 p.1
variable {a : Addr} {L : List (Addr × List K)} {es : Array (Int × Value)} {ep : Nat} {t : SetTable}
theorem TpSet.psz {h : Heap} (R : TpSet kk h a L es ep t) : t.place.size = L.length := R.tab.sz.trans (List.length_map _)
theorem TpSet.fits {h : Heap} (R : TpSet kk h a L es ep t) : t.fits es.size = true := by
  have h1 := R.psz
  have h2 := entK_len R.en
  have h3 := R.room
  unfold SetTable.fits SetTable.fill
  rw [R.tab.dm, Bool.and_eq_true, beq_iff_eq, decide_eq_true_eq]
  show t.place.size = es.size ∧ t.place.size + 0 ≤ t.mask
  omega
theorem noGap {h : Heap} (R : TpSet kk h a L es ep t) : ¬ t.gaveWay = true := by
  unfold SetTable.gaveWay
  rw [mask_odd R.tab.mok]
  decide
/-- the probe that stands at the c-th step of the way of a hash -/
def stepP (t : SetTable) (h : Int) (c : Nat) : SetTable.Probe := nth t.mask (runAt t.mask (SetTable.bits h % (t.mask + 1)) (SetTable.bits h)) c
theorem stepP_fresh (t : SetTable) (h : Int) (c : Nat) : (stepP t h c).dummy = none := by
  have go : ∀ (n : Nat) (p : SetTable.Probe), p.dummy = none → (nth t.mask p n).dummy = none := fun n => by
    induction n with
    | zero => exact fun p z => z
    | succ n ih =>
      intro p z
      refine ih (adv t.mask p) ?_
      unfold adv
      split <;> exact z
  exact go c _ rfl
theorem stepP_on (t : SetTable) (h : Int) (c q : Nat) : nth t.mask (stepP t h c) q = stepP t h (c + q) := (nth_add t.mask c _ q).symm
theorem stepP_j (t : SetTable) (h : Int) (c q : Nat) : (nth t.mask (stepP t h c) q).j = way t.mask h (c + q) := congrArg SetTable.Probe.j (stepP_on t h c q)
end
end Pn

namespace Pn
open PySem PySem.Spec PyProof.Rows L2
section
variable {P : Program} {w : World} {K : Type} [DecidableEq K] {kk : KeyKind P w K} {A : Around} {E : Value → Shared → Prop} {s : Shared} {a : Addr} {L : List (Addr × List K)} {es : Array (Int × Value)} {ep : Nat} {t : SetTable}
/-- what waits for the key k on the way from step c on: each entry of k stands there, ahead of step Z -/
def Ahead (t : SetTable) (h : Int) (L : List (Addr × List K)) (k : List K) (Z c : Nat) : Prop := ∀ (i : Nat) p, L[i]? = some p → p.2 = k → ∃ c', c ≤ c' ∧ c' < Z ∧ t.place.toList[i]? = some (way t.mask h c')
theorem find_tup (O : ItemOk kk) (R : TpSet kk s.heap a L es ep t) (T : TupsIn kk s.heap L) {x : Addr} {k : List K} (hx : IsTupleKey kk s.heap k x) (hu : A.units < PySem.cLine) {Z : Nat} {h : Int} (eh : h = tupleKeyHash kk k)
    (hZ : way t.mask h Z ∉ t.place.toList) (hb : ∀ c, c < Z → way t.mask h c ∈ t.place.toList) (hZf : Z < 10 * SetTable.turns t.mask) {Q : SetFound → Shared → Prop}
    (yes : k ∈ L.map (·.2) → Q (.there none) s) (no : k ∉ L.map (·.2) → Q (.free (way t.mask h Z) false) s) :
    ∀ (f c : Nat) (stand : Option SetTable.Probe), stand.getD (t.probeStart h) = stepP t h c → c ≤ Z → Z < c + f → Ahead t h L k Z c → wpAny (model P w) A (setSearchFrom a (.ref x) h true f stand) Q E s := by
  intro f
  induction f with
  | zero => exact fun c stand _ h1 h2 _ => absurd h2 (by omega)
  | succ f ih =>
    intro c stand hst hc hf ahead
    obtain ⟨o, ho, hex, hd⟩ := R.ob
    rw [setSearchFrom_succ]
    refine wpAny_bind (wpAny_setState_of ho hd R.fits ?_)
    dsimp only
    refine wp_if_neg (noGap R) ?_
    try refine wpAny_bind (wpAny_pure ?_)
    have hashes : ∀ (i : Nat) p, L[i]? = some p → (es[i]?.map (·.1)).getD 0 = tupleKeyHash kk p.2 := fun i p hp => by
      rw [entK_get R.en hp]
      rfl
    have told := go_spec t R.tab.ris R.tab.dm (fun i => (es[i]?.map (·.1)).getD 0) h (10 * SetTable.turns t.mask) (Z - c) (stepP t h c) (stepP_fresh t h c) (by omega)
      (fun q hq => by rw [stepP_j]; exact hb (c + q) (by omega)) (by rw [stepP_j, Nat.add_sub_cancel' hc]; exact hZ)
    have probe_ : t.probe (fun i => (es[i]?.map (·.1)).getD 0) h (stand.getD (t.probeStart h)) = SetTable.probe.go t (fun i => (es[i]?.map (·.1)).getD 0) h (10 * SetTable.turns t.mask) (stepP t h c) := by
      rw [hst]
      rfl
    rw [probe_]
    rcases told with ⟨q, i, hq, hi, hh, first_, e⟩ | ⟨none_, e⟩
    · -- an entry of this hash
      rw [e]
      dsimp only
      rw [stepP_j] at hi
      have il : i < L.length := by
        have h1 := (List.getElem?_eq_some_iff.mp hi).1
        rw [Array.length_toList, R.psz] at h1
        exact h1
      obtain ⟨p, hp⟩ : ∃ p, L[i]? = some p := ⟨_, List.getElem?_eq_getElem il⟩
      have pm := List.mem_of_getElem? hp
      rw [stepP_j, stepP_on]
      have rest : wpAny (model P w) A (searchRest a (.ref x) h true f es t (way t.mask h (c + q)) i (stepP t h (c + (q + 1)))) Q E s := by
        unfold searchRest
        rw [entK_get R.en hp]
        dsimp only
        refine wpAny_bind (wpAny_holding (wpAny_eqBool_tuple hu (T p pm) hx ?_))
        refine wpAny_bind (wpAny_setState_of ho hd R.fits ?_)
        dsimp only
        by_cases same : p.2 = k
        · exact wp_if_pos (by simp [same]) (wpAny_pure (yes (List.mem_map.mpr ⟨p, pm, same⟩)))
        · refine wp_if_neg (by simp [same]) ?_
          try refine wpAny_bind (wpAny_pure ?_)
          rw [sameMem]
          dsimp only
          have live : t.slot (way t.mask h (c + q)) = .live i := slot_live R.tab.ris hi
          simp only [if_true, live, entK_get R.en hp]
          refine wpAny_bind (wpAny_isSame_ref_self (wpAny_bind (wpAny_pure ?_)))
          simp only [if_true]
          refine wp_if_neg (by simp [same]) (ih (c + (q + 1)) _ rfl (by omega) (by omega) fun i0 p0 h0 k0 => ?_)
          obtain ⟨c', a1, a2, a3⟩ := ahead i0 p0 h0 k0
          refine ⟨c', ?_, a2, a3⟩
          have eh0 : (es[i0]?.map (·.1)).getD 0 = h := by rw [hashes i0 p0 h0, k0, eh]
          rcases Nat.lt_trichotomy c' (c + q) with y | y | y
          · exact absurd eh0 (first_ (c' - c) i0 (by omega) (by rw [stepP_j, Nat.add_sub_cancel' a1]; exact a3))
          · subst y
            have l0 := slot_live R.tab.ris a3
            rw [live] at l0
            injection l0 with l0
            subst l0
            rw [hp] at h0
            cases h0
            exact absurd k0 same
          · omega
      by_cases hl : t.led = true
      · refine wp_if_neg (by simp [hl]) ?_
        try refine wpAny_bind (wpAny_pure ?_)
        exact rest
      · refine wp_if_pos (by simp [hl]) (wpAny_bind (unseen_tup O hx (fun y hy => ?_) ?_))
        · obtain ⟨e0, he0, ey⟩ := List.mem_map.mp hy
          have he1 : e0 ∈ es ∧ e0.1 = h := by simpa using he0
          have he2 : e0 ∈ es.toList := by simpa using he1.1
          rw [R.en] at he2
          obtain ⟨p2, hp2, e2⟩ := List.mem_map.mp he2
          exact ⟨p2.2, p2.1, by rw [← ey, ← e2], T p2 hp2⟩
        · refine wp_if_neg (by decide) ?_
          try refine wpAny_bind (wpAny_pure ?_)
          exact rest
    · -- the empty slot
      rw [e, stepP_j, Nat.add_sub_cancel' hc]
      dsimp only
      refine wpAny_pure (no fun hm => ?_)
      obtain ⟨p0, m0, k0⟩ := List.mem_map.mp hm
      obtain ⟨i0, l0, e0⟩ := List.getElem_of_mem m0
      have h0 : L[i0]? = some p0 := by rw [List.getElem?_eq_getElem l0, e0]
      obtain ⟨c', a1, a2, a3⟩ := ahead i0 p0 h0 k0
      exact none_ (c' - c) i0 (by omega) (by rw [stepP_j, Nat.add_sub_cancel' a1]; exact a3) (by rw [hashes i0 p0 h0, k0, eh])
/-- the search, as adding asks for it -/
theorem seek_tup (O : ItemOk kk) (R : TpSet kk s.heap a L es ep t) (T : TupsIn kk s.heap L) {x : Addr} {k : List K} (hx : IsTupleKey kk s.heap k x) (hu : A.units < PySem.cLine) {Q : SetFound → Shared → Prop}
    (yes : k ∈ L.map (·.2) → Q (.there none) s)
    (no : ∀ Z, k ∉ L.map (·.2) → way t.mask (tupleKeyHash kk k) Z ∉ t.place.toList → (∀ c, c < Z → way t.mask (tupleKeyHash kk k) c ∈ t.place.toList) → Q (.free (way t.mask (tupleKeyHash kk k) Z) false) s) :
    wpAny (model P w) A (setSearch a (.ref x) (tupleKeyHash kk k) true) Q E s := by
  have room := R.room
  obtain ⟨Z, hf, hZ, hb⟩ := R.tab.first (by show (L.map _).length ≤ _; rw [List.length_map]; omega) (tupleKeyHash kk k)
  have turns : 10 * SetTable.turns t.mask ≤ 1420 := by
    unfold SetTable.turns
    rcases R.tab.mok with e | e | e <;> omega
  unfold setSearch
  refine find_tup O R T hx hu rfl hZ hb hf yes (fun n => no Z n hZ hb) 100000 0 none rfl (Nat.zero_le _) (by omega) fun i p hp hk => ?_
  have hi : (hsK kk L)[i]? = some (tupleKeyHash kk k) := by
    show (L.map _)[i]? = _
    rw [List.getElem?_map, hp, ← hk]
    rfl
  have il : i < t.place.toList.length := by
    rw [Array.length_toList, R.psz]
    exact (List.getElem?_eq_some_iff.mp hp).1
  have hj := List.getElem?_eq_getElem il
  obtain ⟨c, hc, e⟩ := R.tab.before hZ hi hj
  exact ⟨c, Nat.zero_le _, hc, by rw [hj, e]⟩
end
end Pn

namespace Pn
open PySem PySem.Spec PyProof.Rows L2
section
variable {P : Program} {w : World} {K : Type} [DecidableEq K] {kk : KeyKind P w K} {A : Around} {E : Value → Shared → Prop} {s : Shared} {a : Addr} {L : List (Addr × List K)} {es : Array (Int × Value)} {ep : Nat} {t : SetTable}
theorem keyStays {h h' : Heap} {k : List K} {b : Addr} (x : IsTupleKey kk h k b) (q : ∀ c o, h.get? c = some o → h'.get? c = some o) : IsTupleKey kk h' k b := by
  obtain ⟨o, items, n, ho, r⟩ := x
  exact ⟨o, items, n, q b o ho, r⟩
theorem keyBeside {h h' : Heap} {k : List K} {b : Addr} {o : Obj} (x : IsTupleKey kk h k b) (ho : h.get? a = some o) (hd : o.data = .set es ep t) (q : Heap.SameBut a h h') : IsTupleKey kk h' k b := by
  obtain ⟨o', items, n, ho', hc, hd', hi⟩ := x
  refine ⟨o', items, n, (q.2 b fun e => ?_).trans ho', hc, hd', hi⟩
  subst e
  rw [ho] at ho'
  cases ho'
  rw [hd] at hd'
  cases hd'
theorem entK_put (L : List (Addr × List K)) (p : Nat) (x : Addr × List K) : entK kk (L.take p ++ x :: L.drop p) = (entK kk L).take p ++ (tupleKeyHash kk x.2, Value.ref x.1) :: (entK kk L).drop p := by
  unfold entK
  rw [List.map_append, List.map_cons, List.map_take, List.map_drop]
theorem hsK_put (L : List (Addr × List K)) (p : Nat) (x : Addr × List K) : hsK kk (L.take p ++ x :: L.drop p) = (hsK kk L).take p ++ tupleKeyHash kk x.2 :: (hsK kk L).drop p := by
  unfold hsK
  rw [List.map_append, List.map_cons, List.map_take, List.map_drop]
theorem pick_all {α : Type} (L : List α) : (List.range L.length).filterMap (fun i => L[i]?) = L := by
  have h : ∀ n, n ≤ L.length → (List.range n).filterMap (fun i => L[i]?) = L.take n := fun n => by
    induction n with
    | zero => exact fun _ => rfl
    | succ n ih =>
      intro hn
      rw [List.range_succ, List.filterMap_append, ih (Nat.le_of_lt hn), List.take_succ, List.getElem?_eq_getElem hn, List.filterMap_cons_some (List.getElem?_eq_getElem hn)]
      rfl
  rw [h _ (Nat.le_refl _), List.take_length]
/-- the entries in another order -/
theorem entK_order {order : Array Nat} (he : es.toList = entK kk L) (hp : order.toList.Perm (List.range L.length)) :
    ∃ L2, (order.filterMap (es[·]?)).toList = entK kk L2 ∧ L2.Perm L ∧ hsK kk L2 = order.toList.map fun i => (es.map (·.1)).getD i 0 := by
  have go : ∀ l : List Nat, (∀ i ∈ l, i < L.length) → l.filterMap (fun i => es[i]?) = entK kk (l.filterMap fun i => L[i]?) ∧ hsK kk (l.filterMap fun i => L[i]?) = l.map fun i => (es.map (·.1)).getD i 0 := fun l => by
    induction l with
    | nil => exact fun _ => ⟨rfl, rfl⟩
    | cons i l ih =>
      intro hl
      have hi := hl i List.mem_cons_self
      obtain ⟨e1, e2⟩ := ih fun j hj => hl j (List.mem_cons_of_mem _ hj)
      have g := List.getElem?_eq_getElem hi
      have ge := entK_get he g
      rw [List.filterMap_cons_some g, List.filterMap_cons_some ge]
      refine ⟨?_, ?_⟩
      · rw [e1]
        rfl
      · rw [List.map_cons, ← e2]
        show tupleKeyHash kk (L[i]).2 :: _ = _
        have e5 : (es.map (·.1))[i]? = some (tupleKeyHash kk (L[i]).2) := by
          rw [Array.getElem?_map, ge]
          rfl
        have e4 : (es.map (·.1)).getD i 0 = tupleKeyHash kk (L[i]).2 := by simp [Array.getD_eq_getD_getElem?, e5]
        rw [e4]
        rfl
  obtain ⟨e1, e2⟩ := go order.toList fun i hi => List.mem_range.mp (hp.mem_iff.mp hi)
  refine ⟨_, by first | (rw [Array.toList_filterMap]; exact e1) | simpa using e1, ?_, e2⟩
  have h := hp.filterMap fun i => L[i]?
  rw [pick_all] at h
  exact h
/-- the table laid anew, larger -/
theorem relay_tup {o : Obj} (ho : s.heap.get? a = some o) (hex : o.ExactSet) (hd : o.data = .set es ep t) (en : es.toList = entK kk L) (tab : TabOk t (hsK kk L)) (nd : (L.map (·.2)).Nodup) (led : w.params.followText "set-order" = true ∨ t.led = true) (few : L.length < 64) (fill : L.length ≤ t.mask)
    {wanted M : Nat} (hw : SetTable.sizeAbove wanted - 1 = M) (hM : MaskOk M) (hw2 : SetTable.sizeAbove wanted ≤ 128) (room : L.length * 5 < M * 3) {Q : Unit → Shared → Prop}
    (q : ∀ h' L' es' ep' t', Heap.SameBut a s.heap h' → TpSet kk h' a L' es' ep' t' → L'.Perm L → Q () { s with heap := h' }) : wpAny (model P w) A (setRelay a wanted) Q E s := by
  have sz := entK_len en
  have psz : t.place.size = L.length := tab.sz.trans (List.length_map _)
  have fits : t.fits es.size = true := by
    unfold SetTable.fits SetTable.fill
    rw [tab.dm, Bool.and_eq_true, beq_iff_eq, decide_eq_true_eq]
    show t.place.size = es.size ∧ t.place.size + 0 ≤ t.mask
    omega
  have m3 : M = 7 ∨ M = 31 ∨ M = 127 := hM
  obtain ⟨t', order, e, hp, T, em, el, _, ed⟩ := relaid_ok t (hs := es.map (·.1)) (wanted := wanted) hw hM (by rw [Array.size_map, sz]; omega)
  rw [Array.size_map, sz] at hp
  obtain ⟨L2, r1, r2, r3⟩ := entK_order en hp
  rw [← r3] at T
  have sz2 : (order.filterMap (es[·]?)).size = es.size := by rw [entK_len r1, r2.length_eq, sz]
  rw [setRelay_eq]
  refine wpAny_bind (wpAny_setState_of ho hd fits ?_)
  dsimp only
  refine wp_if_neg (by rw [sizeLine_eq]; omega) ?_
  try refine wpAny_bind (wpAny_pure ?_)
  rw [e]
  dsimp only
  refine wpAny_bind ?_
  refine wp_if_neg (by rw [sz2]; simp) ?_
  try refine wpAny_bind (wpAny_pure ?_)
  refine wpAny_pure ?_
  dsimp only
  refine wpAny_storeSet_of ho hd ?_ (by rw [sz2, sz, sizeLine_eq]; omega)
  refine q _ L2 (order.filterMap (es[·]?)) (ep + 1) t' (Heap.SameBut.update ..) ⟨⟨_, store_at ho hd, ⟨hex.1, hex.2.1, hex.2.2⟩, rfl⟩, r1, T, (r2.map (·.2)).nodup_iff.mpr nd, by rw [el]; exact led, by rw [r2.length_eq, em]; exact room, by rw [r2.length_eq]; exact few⟩ r2
theorem mask_cases {m n : Nat} (hm : MaskOk m) (r : n * 5 < m * 3) (f : (n + 1) * 5 ≥ m * 3) (few : n < 63) : (m = 7 ∧ n = 4) ∨ (m = 31 ∧ n = 18) := by
  rcases hm with e | e | e <;> subst e <;> omega
/-- adding -/
theorem add_tup (O : ItemOk kk) (R : TpSet kk s.heap a L es ep t) (T : TupsIn kk s.heap L) {x : Addr} {k : List K} (hx : IsTupleKey kk s.heap k x) (hu : A.units < PySem.cLine) (few : L.length + 1 < 64) {Q : Bool → Shared → Prop}
    (q : ∀ b h' L' es' ep' t', Heap.SameBut a s.heap h' → TpSet kk h' a L' es' ep' t' → (∀ (k' : List K) (c : Addr), IsTupleKey kk s.heap k' c → IsTupleKey kk h' k' c) → (k ∈ L.map (·.2) → L' = L) → (k ∉ L.map (·.2) → L'.Perm ((x, k) :: L)) → Q b { s with heap := h' }) :
    wpAny (model P w) A (setAddHashed a (.ref x) (tupleKeyHash kk k)) Q E s := by
  obtain ⟨o, ho, hex, hd⟩ := R.ob
  have sz := entK_len R.en
  have room := R.room
  unfold setAddHashed
  refine wpAny_holding ?_
  rw [show (100000 : Nat) = 99999 + 1 from rfl, setAddHashedIn_succ]
  refine wpAny_bind (wpAny_setState_of ho hd R.fits ?_)
  dsimp only
  refine wp_if_neg (by simp [byScan, Value.scannable]) ?_
  try refine wpAny_bind (wpAny_pure ?_)
  refine wpAny_bind (seek_tup O R T hx hu (fun hm => wpAny_pure (q false s.heap L es ep t (Heap.SameBut.refl a s.heap) R (fun _ _ z => z) (fun _ => rfl) fun z => absurd hm z)) fun Z hm hZ hb => ?_)
  dsimp only
  refine wpAny_bind (wpAny_setState_of ho hd R.fits ?_)
  dsimp only
  obtain ⟨q1, q2, q3, q4, q5, _, _, _, q9⟩ := R.tab.put hZ hb
  generalize hpt : t.put (way t.mask (tupleKeyHash kk k) Z) = pt at q1 q3 q4 q5 q9 ⊢
  obtain ⟨t1, p1⟩ := pt
  dsimp only at q1 q3 q4 q5 q9 ⊢
  subst q1
  generalize hpp : SetTable.below t.place (way t.mask (tupleKeyHash kk k) Z) = p at q2 q3 ⊢
  have pm := put_perm L p (x, k)
  have hlen : (L.take p ++ (x, k) :: L.drop p).length = L.length + 1 := pm.length_eq
  rw [← hsK_put L p (x, k)] at q3
  have en1 : (SetTable.insertAt es p (tupleKeyHash kk k, Value.ref x)).toList = entK kk (L.take p ++ (x, k) :: L.drop p) := by
    rw [SetTable.toList_insertAt, entK_put, R.en]
  have nd1 : ((L.take p ++ (x, k) :: L.drop p).map (·.2)).Nodup := (pm.map (·.2)).nodup_iff.mpr (by rw [List.map_cons]; exact List.nodup_cons.mpr ⟨hm, R.nd⟩)
  have hes : (SetTable.insertAt es p (tupleKeyHash kk k, Value.ref x)).size = L.length + 1 := (entK_len en1).trans hlen
  generalize SetTable.insertAt es p (tupleKeyHash kk k, Value.ref x) = es1 at en1 hes ⊢
  generalize L.take p ++ (x, k) :: L.drop p = L1 at pm hlen q3 nd1 en1
  -- what is left, with whatever the table says of its values
  have rest : ∀ t2 : SetTable, TabOk t2 (hsK kk L1) → t2.mask = t.mask → t2.led = t.led → t2.fill = (hsK kk L).length + 1 →
      wpAny (model P w) A (do
        storeSet a es1 t2
        if !false && t2.tooFull then setRelay a (SetTable.grown (es.size + 1))
        return true : Sem Bool) Q E s := by
    intro t2 tab2 em el ef
    refine wpAny_bind (wpAny_storeSet_of ho hd ?_ (by rw [hes, sizeLine_eq]; omega))
    have sb : Heap.SameBut a s.heap (s.heap.update a (Obj.putSet es1 t2)) := Heap.SameBut.update ..
    have ho1 := store_at (es' := es1) (t' := t2) ho hd
    generalize s.heap.update a (Obj.putSet es1 t2) = h1 at sb ho1 ⊢
    have keys1 : ∀ (k' : List K) (c : Addr), IsTupleKey kk s.heap k' c → IsTupleKey kk h1 k' c := fun k' c z => keyBeside z ho hd sb
    have led2 : w.params.followText "set-order" = true ∨ t2.led = true := by rw [el]; exact R.led
    have ef2 : t2.fill = L.length + 1 := ef.trans (congrArg (· + 1) (List.length_map _))
    by_cases hf : t2.tooFull = true
    · have full : (L.length + 1) * 5 ≥ t.mask * 3 := by
        have h := hf
        unfold SetTable.tooFull at h
        rw [decide_eq_true_eq, ef2, em] at h
        exact h
      have two := mask_cases R.tab.mok room full (by omega)
      have go : ∀ M, SetTable.sizeAbove (SetTable.grown (L.length + 1)) - 1 = M → MaskOk M → SetTable.sizeAbove (SetTable.grown (L.length + 1)) ≤ 128 → (L.length + 1) * 5 < M * 3 →
          wpAny (model P w) A (setRelay a (SetTable.grown (L.length + 1))) (fun _ s' => wpAny (model P w) A (pure true) Q E s') E { s with heap := h1 } := fun M h1' h2' h3' h4' =>
        relay_tup (kk := kk) (s := { s with heap := h1 }) ho1 ⟨hex.1, hex.2.1, hex.2.2⟩ rfl en1 tab2 nd1 led2 (by rw [hlen]; exact few) (by rw [hlen, em]; rcases two with ⟨e, e2⟩ | ⟨e, e2⟩ <;> omega) h1' h2' h3' (by rw [hlen]; exact h4')
          fun h2 L2 es2 ep2 t3 sb2 R2 pm2 => wpAny_pure (q true h2 L2 es2 ep2 t3 (sb.trans sb2) R2 (fun k' c z => keyBeside (keys1 k' c z) ho1 rfl sb2) (fun z => absurd z hm) fun _ => pm2.trans pm)
      rw [sz]
      first
        | (refine wpAny_bind ?_; refine wp_if_pos (by simp [hf]) ?_)
        | (refine wp_if_pos (by simp [hf]) ?_; refine wpAny_bind ?_)
      rcases two with ⟨_, e2⟩ | ⟨_, e2⟩
      · exact go 31 (by rw [e2, size_20]) (.inr (.inl rfl)) (by rw [e2, size_20]; decide) (by omega)
      · exact go 127 (by rw [e2, size_76]) (.inr (.inr rfl)) (by rw [e2, size_76]; decide) (by omega)
    · first
        | refine wp_if_neg (by simp [hf]) ?_
        | (refine wpAny_bind ?_; refine wp_if_neg (by simp [hf]) ?_; refine wpAny_pure ?_)
      refine wpAny_pure (q true h1 L1 es1 (ep + 1) t2 sb ⟨⟨_, ho1, ⟨hex.1, hex.2.1, hex.2.2⟩, rfl⟩, en1, tab2, nd1, led2, ?_, by rw [hlen]; exact few⟩ keys1 (fun z => absurd z hm) fun _ => pm)
      have h := hf
      unfold SetTable.tooFull at h
      rw [decide_eq_true_eq, ef2] at h
      rw [hlen]
      omega
  have either : ∀ z : Bool, wpAny (model P w) A (do
        storeSet a es1 (if z then t1 else { t1 with plain := false })
        if !false && (if z then t1 else { t1 with plain := false }).tooFull then setRelay a (SetTable.grown (es.size + 1))
        return true : Sem Bool) Q E s := fun z => by
    cases z with
    | true => exact rest t1 q3 q4 q5 q9
    | false => exact rest { t1 with plain := false } ⟨q3.ris, q3.dm, q3.sz, q3.mok, q3.bd, q3.reach⟩ q4 q5 q9
  by_cases hpl : t1.plain = true
  · first
      | (refine wpAny_bind ?_; refine wp_if_pos hpl ?_; exact byVal_tup O hx either)
      | exact wp_if_pos hpl (wpAny_bind (byVal_tup O hx either))
  · first
      | (refine wpAny_bind ?_; refine wp_if_neg hpl ?_; exact wpAny_pure (either true))
      | exact wp_if_neg hpl (wpAny_bind (wpAny_pure (either true)))
      | exact wp_if_neg hpl (either true)
end
end Pn

namespace Pn
open PySem PySem.Spec PyProof.Rows L2
/-- what the first i of the tuples leave in a set -/
structure Gained {K : Type} (ks : List (Addr × List K)) (i : Nat) (L : List (Addr × List K)) : Prop where
  of : ∀ p ∈ L, p ∈ ks.take i
  all : ∀ p ∈ ks.take i, p.2 ∈ L.map (·.2)
  len : L.length ≤ i
theorem gained_nil {K : Type} (ks : List (Addr × List K)) : Gained ks 0 [] := ⟨(fun _ z => nomatch z), (fun p z => by simp at z), Nat.le_refl _⟩
theorem gained_next {K : Type} {ks L L' : List (Addr × List K)} {i : Nat} {x : Addr × List K} (g : Gained ks i L) (hx : ks[i]? = some x) (c1 : x.2 ∈ L.map (·.2) → L' = L) (c2 : x.2 ∉ L.map (·.2) → L'.Perm (x :: L)) : Gained ks (i + 1) L' := by
  have e : ks.take (i + 1) = ks.take i ++ [x] := by
    rw [List.take_add_one, hx]
    rfl
  rcases Classical.em (x.2 ∈ L.map (·.2)) with m | m
  · rw [c1 m]
    refine ⟨fun p hp => by rw [e]; exact List.mem_append_left _ (g.of p hp), fun p hp => ?_, Nat.le_succ_of_le g.len⟩
    rw [e] at hp
    rcases List.mem_append.mp hp with z | z
    · exact g.all p z
    · rw [List.mem_singleton.mp z]
      exact m
  · have pm := c2 m
    refine ⟨fun p hp => ?_, fun p hp => (pm.map (·.2)).mem_iff.mpr ?_, by rw [pm.length_eq]; exact Nat.succ_le_succ g.len⟩
    · rw [e]
      rcases List.mem_cons.mp (pm.mem_iff.mp hp) with z | z
      · exact List.mem_append_right _ (List.mem_singleton.mpr z)
      · exact List.mem_append_left _ (g.of p z)
    · rw [e] at hp
      rw [List.map_cons]
      rcases List.mem_append.mp hp with z | z
      · exact List.mem_cons_of_mem _ (g.all p z)
      · rw [List.mem_singleton.mp z]
        exact List.mem_cons_self
/-- a set of tuples, whatever its table -/
def TupSet {P : Program} {w : World} {K : Type} [DecidableEq K] (kk : KeyKind P w K) (h : Heap) (a : Addr) (L : List (Addr × List K)) : Prop := ∃ es ep t, TpSet kk h a L es ep t
section
variable {P : Program} {w : World} {K : Type} [DecidableEq K] {kk : KeyKind P w K} {A : Around} {E : Value → Shared → Prop} {s : Shared}
theorem TupSet.keep {h h' : Heap} {a : Addr} {L : List (Addr × List K)} (R : TupSet kk h a L) (q : ∀ o, h.get? a = some o → h'.get? a = some o) : TupSet kk h' a L := by
  obtain ⟨es, ep, t, R⟩ := R
  obtain ⟨o, ho, r⟩ := R.ob
  exact ⟨es, ep, t, ⟨o, q o ho, r⟩, R.en, R.tab, R.nd, R.led, R.room, R.few⟩
/-- the new set, empty -/
abbrev bareT (w : World) : Obj := { cls := .type "set", dict := none, data := .set #[] 0 (.fresh 0 0 (!w.params.followText "set-order")) }
theorem tupset_new {h : Heap} {a : Addr} (ho : h.get? a = some (bareT w)) : TupSet kk h a [] :=
  ⟨#[], 0, _, ⟨_, ho, ⟨rfl, rfl, rfl⟩, rfl⟩, rfl, ⟨List.Pairwise.nil, rfl, rfl, .inl rfl, (fun x hx => nomatch hx), (fun i h j hi => by simp [hsK] at hi)⟩, List.nodup_nil, (by
    show _ ∨ (!w.params.followText "set-order") = true
    cases w.params.followText "set-order" <;> simp), (by show 0 * 5 < 7 * 3; decide), (by show 0 < 64; decide)⟩
/-- few different keys -/
def LowT (ks : List (Addr × List K)) : Prop := ∃ B : List (List K), B.length < 63 ∧ ∀ p ∈ ks, p.2 ∈ B
theorem nodup_few {α : Type} [DecidableEq α] : ∀ {l B : List α}, l.Nodup → (∀ x ∈ l, x ∈ B) → l.length ≤ B.length
  | [], _, _, _ => Nat.zero_le _
  | x :: l, B, nd, h => by
    obtain ⟨n1, n2⟩ := List.nodup_cons.mp nd
    have hx := h x List.mem_cons_self
    have q := nodup_few (l := l) (B := B.erase x) n2 fun y hy => (List.mem_erase_of_ne (fun e => n1 (by rw [← e]; exact hy))).mpr (h y (List.mem_cons_of_mem _ hy))
    rw [List.length_erase_of_mem hx] at q
    have hp := List.length_pos_of_mem hx
    rw [List.length_cons]
    omega
theorem few_low {ks L : List (Addr × List K)} (nd : (L.map (·.2)).Nodup) (low : LowT ks) (h : ∀ q ∈ L, q ∈ ks) : L.length + 1 < 64 := by
  obtain ⟨B, hB, hk⟩ := low
  have q := nodup_few (B := B) nd fun y hy => by
    obtain ⟨p, hp, rfl⟩ := List.mem_map.mp hy
    exact hk p (h p hp)
  rw [List.length_map] at q
  omega
theorem loop_tups (O : ItemOk kk) {I : Addr} {fp wr : List Addr} {G : Array GenState → Array GenState → Prop} {n : Nat} {Pv : Nat → Value → Prop} {St : Nat → Shared → Prop} {R : Result → Shared → Prop} (W : WalksS P w A.in1 I fp wr G n Pv St)
    (S : Addr) (out : S ∉ fp) (ks : List (Addr × List K)) (hn : n = ks.length) (low : LowT ks) (hv : ∀ i v, Pv i v → ∃ p, ks[i]? = some p ∧ v = .ref p.1) (free : ∀ p ∈ ks, p.1 ∉ wr) (hu : A.in1.units < PySem.cLine) :
    ∀ (k i : Nat) (s : Shared), n - i = k → i ≤ n → St i s → TupsIn kk s.heap ks → (∃ L, TupSet kk s.heap S L ∧ Gained ks i L) →
      (∀ s' L, Moved (S :: wr) G s s' → TupSet kk s'.heap S L → Gained ks n L → R (.ok (.ret .none)) s') → codeAny (model P w) A (.builtin "set.update.loop" ⟨[.ref S, .ref I], []⟩) R s := by
  have outW : S ∉ wr := fun h => out (W.sub _ h)
  have more : ∀ b ∈ wr, b ∈ S :: wr := fun b h => List.mem_cons_of_mem _ h
  have keys : ∀ {s s' : Shared}, Moved wr G s s' → TupsIn kk s.heap ks → TupsIn kk s'.heap ks := fun mv T p hp => by
    obtain ⟨o, items, m, ho, r⟩ := T p hp
    exact ⟨o, items, m, mv.heap p.1 o (free p hp) ho, r⟩
  intro k
  induction k with
  | zero =>
    intro i s e1 e2 st T X fin
    obtain rfl : i = n := by omega
    obtain ⟨L, X, g⟩ := X
    refine codeAny_builtin PyProof.Rows.F.entry_set_update_loop ?_
    rw [Around.under_plainId PyProof.Rows.F.plain_set_update_loop _]
    show wpAny _ A.in1 (pyNext (.ref I) >>= _) _ _ s
    exact wpAny_bind (W.done s _ _ st fun s' mv => wpAny_pure (fin s' L (mv.mono more) (X.keep fun o e => mv.heap S o outW e) g))
  | succ k ih =>
    intro i s e1 e2 st T X fin
    obtain ⟨L, X, g⟩ := X
    have lt : i < n := by omega
    refine codeAny_builtin PyProof.Rows.F.entry_set_update_loop ?_
    rw [Around.under_plainId PyProof.Rows.F.plain_set_update_loop _]
    show wpAny _ A.in1 (pyNext (.ref I) >>= _) _ _ s
    refine wpAny_bind (W.item i s _ _ lt st fun v s1 pv st1 mv => ?_)
    obtain ⟨p, hp, rfl⟩ := hv i v pv
    have T1 := keys mv T
    obtain ⟨es, ep, t, X1⟩ := X.keep (h' := s1.heap) fun o e => mv.heap S o outW e
    have hx := T1 p (List.mem_of_getElem? hp)
    show wpAny _ A.in1 (holding [Value.ref p.1] (setAdd S (.ref p.1)) >>= _) _ _ s1
    refine wpAny_bind (wpAny_holding ?_)
    unfold setAdd
    refine wpAny_holding (wpAny_bind (wpAny_pyHash_tuple hu hx ?_))
    refine add_tup (s := { s1 with toks := s1.toks + (p.2.length + 1) }) O X1 (fun q hq => T1 q (List.mem_of_mem_take (g.of q hq))) hx hu (few_low X1.nd low fun q hq => List.mem_of_mem_take (g.of q hq)) fun b h' L' es' ep' t' sb X2 kept c1 c2 => ?_
    refine wpAny_pure ⟨plainId_quiet PyProof.Rows.F.plain_set_update_loop _, ih (i + 1) _ (by omega) lt (W.frame (i + 1) s1 h' (s1.toks + (p.2.length + 1)) st1 (Nat.le_add_right _ _) fun c hc o e => ?_) (fun q hq => kept _ _ (T1 q hq)) ⟨L', ⟨es', ep', t', X2⟩, gained_next g hp c1 c2⟩
      fun s2 L2 mv2 X3 g3 => fin s2 L2 (Moved.trans W.gtrans ((mv.mono more).then_heap (Nat.le_add_right _ _) fun c o hc e => ?_) mv2) X3 g3⟩
    · exact (sb.2 c fun z => out (z ▸ hc)).trans e
    · exact (sb.2 c fun z => hc (z ▸ List.mem_cons_self)).trans e
set_option maxHeartbeats 3200000 in
/-- set(xs), xs a list of tuples -/
theorem set_of_tups (O : ItemOk kk) {l : Addr} {items : Array Value} {ks : List (Addr × List K)} {Q : Value → Shared → Prop} (calm : A.handled = none) (hl : s.heap.IsList l items) (hx : items.toList = ks.map fun p => Value.ref p.1) (T : TupsIn kk s.heap ks) (low : LowT ks) (hu : A.units + 3 < PySem.cLine)
    (h : ∀ (h' : Heap) (tk : Nat) L, TupSet kk h' s.heap.objs.size L → Gained ks ks.length L → (∀ b o, s.heap.get? b = some o → h'.get? b = some o) → Q (.ref s.heap.objs.size) { s with heap := h', toks := tk }) : wpAny (model P w) A (call (.type "set") [.ref l]) Q E s := by
  have sz : items.size = ks.length := by
    have q := congrArg List.length hx
    rw [Array.length_toList, List.length_map] at q
    exact q
  obtain ⟨mc, mt, mro⟩ := PySem.F.called_set.mro
  have made := PySem.F.called_set.made
  have sub := PySem.F.called_set.sub
  have notT := PySem.F.called_set.notType
  have can := PySem.F.called_set.canCreate
  have chk := PySem.F.typeCall_set_1 (.ref l)
  refine wpAny_call (codeAny_of_tree (show wpAny _ _ (callAny (.type "set") _) _ _ _ from wpAny_pure ⟨Code.quiet_builtin _ (by decide +kernel), codeAny_builtin PySem.F.entry_type_call ?_⟩))
  rw [Around.under_plain (weight_type_call_type "set" [.ref l] []) rfl]
  repeat (any_goals (first | assumption | wp_step))
  let S := s.heap.objs.size
  let H1 := s.heap.push (bareT w)
  refine codeAny_mono (L2.code_set_led1 (.ref l) (E := E) (Q₁ := fun v s1 => v = .ref S ∧ s1 = { s with heap := H1 }) ⟨rfl, rfl⟩) fun r s1 hr => ?_
  match r, hr with
  | .error e, hr => exact hr
  | .ok .next, hr => exact hr.elim
  | .ok .brk, hr => exact hr.elim
  | .ok .cont, hr => exact hr.elim
  | .ok (.ret v), ⟨e1, e2⟩ =>
    subst e1
    subst e2
    have there : H1.get? S = some (bareT w) := Heap.get?_push_size _ rfl
    have ty : Shared.TypeIs { s with heap := H1 } (.ref S) "set" := ⟨_, there, rfl⟩
    have look := PySem.F.called_set.init.lookup
    have bnd := PySem.F.called_set.init.bind (.ref S)
    repeat (any_goals (first | assumption | wp_step))
    refine codeAny_mono (codeAny_call_builtin (R := wants (fun v s2 => v = .none ∧ ∃ h' tk L, s2 = { s with heap := h', toks := tk } ∧ TupSet kk h' S L ∧ Gained ks ks.length L ∧ ∀ b o, s.heap.get? b = some o → h'.get? b = some o) E)
      PySem.F.called_set.init.plain PySem.F.entry_set_init (check_set_init_1 ty ?_)) fun r2 s2 hr2 => ?_
    · obtain ⟨⟨kc, kd, kt, ks2⟩, ol, c1, nl, c2⟩ := hl
      simp only at c1 c2
      subst c1
      subst c2
      have ol1 : H1.get? l = some { cls := .type "list", dict := kd, data := .seq items nl, slots := ks2 } := Heap.get?_push_of_some _ ol
      have l1 : H1.IsList l items := ⟨_, ol1, rfl, nl, rfl⟩
      have f1 := PySem.F.sub_list_set
      have f2 := PySem.F.sub_list_frozenset
      have f3 : (Value.type "list" == Value.type "dict") = false := by decide
      unfold Builtin.«set.__init__» noKeywords Builtin.Frozenset.updateFrom
      generalize hp : pyIter = PI
      wp_walk
      subst hp
      refine wpAny_pyIter_list l1 (wpAny_bind (wpAny_runValue ?_))
      have lS : l < S := Heap.lt_size ol
      have zz : H1.objs.size = S + 1 := size_push' _ _
      have calm3 : A.in1.in1.in1.handled = none := by simp [calm]
      have nI : l ≠ H1.objs.size := by rw [zz]; exact Nat.ne_of_lt (Nat.lt_succ_of_lt lS)
      have outS : S ∉ [H1.objs.size, l] := by
        rw [zz]
        intro z
        rcases List.mem_cons.mp z with z | z
        · exact absurd z (Nat.ne_of_lt (Nat.lt_succ_self _))
        · exact absurd (List.mem_singleton.mp z) (Nat.ne_of_gt lS)
      refine loop_tups O (Walks.list calm3 _ l nI items).toS S outS ks sz low (fun i v pv => ?_) (fun p hp z => ?_) hu (items.size - 0) 0 _ (by omega) (Nat.zero_le _) ⟨⟨_, Heap.get?_push_size _ rfl, rfl, rfl⟩, l1.push _⟩ (fun p hp => keyStays (T p hp) fun b o e => Heap.get?_push_of_some _ (Heap.get?_push_of_some _ e))
        ⟨[], tupset_new (Heap.get?_push_of_some _ there), gained_nil ks⟩ (fun s' L mv X g => ?_)
      · have pv' : items.toList[i]? = some v := by rw [Array.getElem?_toList]; exact pv
        rw [hx, List.getElem?_map] at pv'
        obtain ⟨p, hp, e⟩ := Option.map_eq_some_iff.mp pv'
        exact ⟨p, hp, e.symm⟩
      · obtain ⟨o, _, _, ho, _⟩ := T p hp
        have lb := Heap.lt_size ho
        have e2 := List.mem_singleton.mp z
        rw [zz] at e2
        exact absurd e2 (Nat.ne_of_lt (Nat.lt_succ_of_lt lb))
      · obtain ⟨h', g', d', tk', os'⟩ := s'
        obtain rfl : g' = s.gens := mv.gens
        obtain rfl : d' = s.drawn := mv.drawn
        obtain rfl : os' = s.os := mv.os
        show wpAny _ _ _ _ _ _
        refine wpAny_pure ?_
        show wpAny _ _ (ret Value.none) _ _ _
        rw [sz] at g
        refine wpAny_pure ⟨rfl, h', tk', L, rfl, X, g, fun b o e => ?_⟩
        have lb : b < S := Heap.lt_size e
        refine mv.heap b o (fun z => ?_) (Heap.get?_push_of_some _ (Heap.get?_push_of_some _ e))
        rcases List.mem_cons.mp z with z | z
        · exact absurd z (Nat.ne_of_lt lb)
        · have e2 := List.mem_singleton.mp z
          rw [zz] at e2
          exact absurd e2 (Nat.ne_of_lt (Nat.lt_succ_of_lt lb))
    · match r2, hr2 with
      | .error e, hr2 => exact hr2
      | .ok .next, hr2 => exact hr2.elim
      | .ok .brk, hr2 => exact hr2.elim
      | .ok .cont, hr2 => exact hr2.elim
      | .ok (.ret v), ⟨e1, h', tk, L, e2, X, g, old⟩ =>
        subst e1
        subst e2
        repeat (any_goals (first | assumption | wp_step))
        exact h _ _ L X g old
end
end Pn

namespace Pn
open PySem PySem.Spec PyProof.Rows L2
/-! ### sets of tuples of texts as rules: set(xs), sorted(s) -/
def keyI (k : List Str) : List (Int ⊕ List Nat) := k.map fun z => Sum.inr z.cps.toList
/-- the order of tuples of texts -/
def ltT (a b : List Str) : Bool := lexLt itemOrd (keyI a) (keyI b)
theorem str_ext {x y : Str} (h : x.cps.toList = y.cps.toList) : x = y := by
  obtain ⟨a⟩ := x
  obtain ⟨b⟩ := y
  have e : a = b := Array.toList_inj.mp h
  rw [e]
theorem keyI_inj : ∀ {a b : List Str}, keyI a = keyI b → a = b
  | [], [], _ => rfl
  | [], _ :: _, h => nomatch h
  | _ :: _, [], h => nomatch h
  | x :: a, y :: b, h => by
    injection h with h1 h2
    injection h1 with h1
    rw [str_ext h1, keyI_inj (a := a) (b := b) h2]
theorem ltT_irrefl (a : List Str) : ltT a a = false := lex_irrefl _
theorem ltT_trans {a b c : List Str} (h1 : ltT a b = true) (h2 : ltT b c = true) : ltT a c = true := lex_trans _ _ _ h1 h2
theorem ltT_total {a b : List Str} (h1 : ltT a b = false) (h2 : ltT b a = false) : a = b := keyI_inj (lex_total _ _ h1 h2)
section
variable {P : Program} {w : World}
theorem strItems : ∀ {k : List Str} {us : List Value}, Vals (k.map V.str) us → ItemsAre (PySem.strKind P w) k us
  | [], _, .nil => .nil
  | z :: k, _, .cons r t => by
    obtain ⟨tk, rfl⟩ := r
    exact .cons (show Value.isStrOf z (.str z tk) = true by simp [Value.isStrOf]) (strItems t)
theorem tupItems_str {sh : Nat → Bool} (hsh : ∀ i, sh i = true) {k : List Str} {us : List Value} (h : ItemsAre (PySem.strKind P w) k us) : ∀ i, tupItems sh i us = some (keyI k) := by
  induction h with
  | nil => exact fun _ => rfl
  | @cons z v k us h1 _ ih =>
    intro i
    obtain ⟨t, rfl⟩ := Value.isStrOf_shape h1
    show (if sh i = true then (tupItems sh (i + 1) us).map (Sum.inr z.cps.toList :: ·) else none) = _
    rw [if_pos (hsh i), ih (i + 1)]
    rfl
abbrev allStr : Nat → Bool := fun _ => true
theorem key_of_tup {h : Heap} {k : List Str} {a : Addr} (x : IsTupleKey (PySem.strKind P w) h k a) : PyProof.Rows.G.tupKeyC h allStr (.ref a) = some (keyI k) := by
  obtain ⟨o, items, n, ho, hc, hd, hi⟩ := x
  unfold PyProof.Rows.G.tupKeyC
  have e1 : PyProof.Rows.G.isTupObj h (.ref a) = true := by simp [PyProof.Rows.G.isTupObj, ho, hc]
  rw [if_pos e1]
  simp only [tupKey, ho, hd]
  exact tupItems_str (fun _ => rfl) hi 0
theorem tupsOf_keys {h : Heap} : ∀ {L : List (Addr × List Str)}, (∀ p ∈ L, IsTupleKey (PySem.strKind P w) h p.2 p.1 ∧ p.2 ≠ []) → ∃ fs, TupsOf h allStr (L.map fun p => Value.ref p.1) fs
  | [], _ => ⟨[], .nil⟩
  | p :: L, H => by
    obtain ⟨fs, r⟩ := tupsOf_keys fun q hq => H q (List.mem_cons_of_mem _ hq)
    obtain ⟨⟨o, items, n, ho, hc, hd, hi⟩, ne⟩ := H p List.mem_cons_self
    obtain ⟨f, hf, t, ef⟩ : ∃ f, items[0]? = some f ∧ ∃ t x, f = .str x t := by
      cases hp : p.2 with
      | nil => exact absurd hp ne
      | cons z k =>
        rw [hp] at hi
        cases hl : items.toList with
        | nil => rw [hl] at hi; cases hi
        | cons v us =>
          rw [hl] at hi
          cases hi with
          | cons h1 _ =>
            obtain ⟨t, e⟩ := Value.isStrOf_shape h1
            exact ⟨v, by rw [← Array.getElem?_toList, hl]; rfl, t, z, e⟩
    obtain ⟨x, ef⟩ := ef
    exact ⟨f :: fs, .cons ⟨p.1, o, items, n, rfl, ho, hc, hd, hf, (fun z => nomatch z), fun _ => ⟨x, t, ef⟩⟩ r⟩
variable {A : Around} {E : Value → Shared → Prop} {s : Shared}
/-- sorted(s), s a set of tuples of texts -/
theorem sorted_set_tups {a : Addr} {L : List (Addr × List Str)} {Q : Value → Shared → Prop} (R : TupSet (PySem.strKind P w) s.heap a L) (T : ∀ p ∈ L, IsTupleKey (PySem.strKind P w) s.heap p.2 p.1 ∧ p.2 ≠ []) (calm : A.handled = none)
    (q : ∀ s' p (out : Array Value) (c : Nat) (L' : List (Addr × List Str)), (∀ b o, s.heap.get? b = some o → s'.heap.get? b = some o) → s'.gens = s.gens → s'.os = s.os → s.heap.objs.size ≤ p →
      s'.heap.get? p = some (seqObj "list" out c) → out.toList = L'.map (fun q => Value.ref q.1) → L'.Perm L → (L'.map (·.2)).Pairwise (fun x y => ltT x y = true) → Q (.ref p) s') :
    wpAny (model P w) A (call (.builtin "sorted") [.ref a]) Q E s := by
  obtain ⟨es, ep, t, R⟩ := R
  obtain ⟨o, ho, hex, hd⟩ := R.ob
  have sz := entK_len R.en
  have few := R.few
  refine Calls.call_function_entry kind_sorted plain_sorted entry_sorted (args_sorted1 _) ?_
  unfold Builtin.«sorted»
  refine wpAny_bind (m := checkCount "sorted" 1 1 _) (wpAny_pure ?_)
  refine wpAny_bind (collect_set (A := A.in1) calm ⟨o, ho, hex.1, hd⟩ R.fits (by unfold scanBound; omega) R.tab.ris R.led fun s1 vs k1 hz g1 o1 pm => ?_)
  have hes : es.toList.map (·.2) = L.map fun q => Value.ref q.1 := by
    rw [R.en]
    show (L.map _).map _ = _
    rw [List.map_map]
    rfl
  rw [hes] at pm
  obtain ⟨L1, p1, e1⟩ := perm_lift (fun q : Addr × List Str => Value.ref q.1) pm L rfl
  have vl : vs.length = L.length := by rw [pm.length_eq, List.length_map]
  refine wpAny_bind (wpAny_newList ?_ (by rw [vl, sizeLine_eq]; omega))
  have hoL : (s1.heap.push (seqObj "list" vs.toArray 0)).get? s1.heap.objs.size = some (seqObj "list" vs.toArray 0) := Heap.get?_push_size _ rfl
  have T1 : ∀ p ∈ L1, IsTupleKey (PySem.strKind P w) (s1.heap.push (seqObj "list" vs.toArray 0)) p.2 p.1 ∧ p.2 ≠ [] := fun p hp => by
    obtain ⟨x, y⟩ := T p (p1.mem_iff.mp hp)
    exact ⟨keyStays x fun b u e => Heap.get?_push_of_some _ (k1 b u e), y⟩
  obtain ⟨fs, hfs⟩ := tupsOf_keys T1
  rw [e1] at hfs
  have nd1 : (L1.map (·.2)).Nodup := (p1.map (·.2)).nodup_iff.mpr R.nd
  refine wpAny_bind (wpAny_holding (wpAny_call_entry slot_list_sort ⟨_, hoL, rfl⟩ entry_list_sort (PyProof.Rows.G.list_sort_tups (s := { s1 with heap := s1.heap.push (seqObj "list" vs.toArray 0) }) hoL hfs (fun v hv => ?_) (by rw [vl, sizeLine_eq]; omega) fun st hp hs _ => ⟨_, rfl, ?_⟩) (args_list_sort _)))
  · rw [← e1] at hv
    obtain ⟨p, hp, rfl⟩ := List.mem_map.mp hv
    exact ⟨_, key_of_tup (T1 p hp).1⟩
  · have hp2 : (arrOf st).toList.Perm (vs.zip vs) := by
      have z := Array.perm_iff_toList_perm.mp hp
      rw [pairsOf_toList] at z
      exact z
    have ez : vs.zip vs = L1.map fun q => (Value.ref q.1, Value.ref q.1) := by
      rw [← e1, List.zip_map']
    rw [ez] at hp2
    obtain ⟨L2, p2, e2⟩ := perm_lift (fun q : Addr × List Str => (Value.ref q.1, Value.ref q.1)) hp2 L1 rfl
    obtain ⟨c, hc⟩ := sortedHeap_at (vs := vs) (out := (arrOf st).map (·.2)) hoL
    have hout : ((arrOf st).map (·.2)).toList = L2.map fun q => Value.ref q.1 := by
      rw [Array.toList_map, ← e2, List.map_map]
      rfl
    have nd2 : (L2.map (·.2)).Nodup := (p2.map (·.2)).nodup_iff.mpr nd1
    refine wpAny_pure ⟨_, rfl, q _ s1.heap.objs.size _ c L2 (fun b u e => ?_) g1 o1 hz hc hout (p2.trans p1) ?_⟩
    · have z := k1 b u e
      have lt := Heap.lt_size z
      show (sortedHeap (s1.heap.push (seqObj "list" vs.toArray 0)) s1.heap.objs.size vs ((arrOf st).map (·.2))).get? b = some u
      rw [sortedHeap_old (Nat.ne_of_lt lt) (by rw [size_push']; exact Nat.lt_succ_of_lt lt)]
      exact Heap.get?_push_of_some _ z
    · rw [List.pairwise_iff_getElem]
      intro i j hi hj hij
      rw [List.length_map] at hi hj
      have kk : ∀ i (h : i < L2.length), KK (PyProof.Rows.G.tupKindC (s1.heap.push (seqObj "list" vs.toArray 0)) allStr) (arrOf st) i = keyI (L2[i]).2 := fun i h => by
        have g : (arrOf st)[i]? = some (Value.ref (L2[i]).1, Value.ref (L2[i]).1) := by
          rw [← Array.getElem?_toList, ← e2, List.getElem?_map, List.getElem?_eq_getElem h]
          rfl
        unfold KK
        rw [g]
        show ((PyProof.Rows.G.tupKeyC _ allStr (Value.ref (L2[i]).1)).getD []) = _
        rw [key_of_tup (T1 _ (p2.mem_iff.mp (List.getElem_mem h))).1]
        rfl
      have psz : (pairsOf vs).size = L2.length := by rw [pairsOf_size, ← e1, List.length_map, p2.length_eq]
      have z := hs i j (Nat.le_of_lt hij) (by rw [psz]; exact hj)
      rw [kk i hi, kk j hj] at z
      have z : ltT (L2[j]).2 (L2[i]).2 = false := z
      rw [List.getElem_map, List.getElem_map]
      cases y : ltT (L2[i]).2 (L2[j]).2 with
      | true => rfl
      | false =>
        have e := ltT_total y z
        have ne := List.pairwise_iff_getElem.mp nd2 i j (by rw [List.length_map]; exact hi) (by rw [List.length_map]; exact hj) hij
        rw [List.getElem_map, List.getElem_map] at ne
        exact absurd e ne
end
end Pn

namespace Pn
open PySem PySem.Spec PyProof.Rows L2
def SetTp (P : Program) (w : World) (a : Addr) (L : List (Addr × List Str)) : HO := .ext fun h => TupSet (PySem.strKind P w) h a L
theorem setTp_new {P : Program} {w : World} {H : Hp} {h : Heap} {a : Addr} {L : List (Addr × List Str)} (R : TupSet (PySem.strKind P w) h a L) : ObjOk P w H h a (SetTp P w a L) := by
  have ⟨es, ep, t, R2⟩ := R
  obtain ⟨o, ho, _⟩ := R2.ob
  exact ⟨R, ⟨o, ho⟩, fun h1 h2 p k => TupSet.keep p k⟩
theorem refVals : ∀ {ks : List (Addr × List Str)} {us : List Value}, Vals (ks.map fun p => V.ref p.1) us → us = ks.map fun p => Value.ref p.1
  | [], _, .nil => rfl
  | p :: ks, _, .cons r t => by
    cases r
    rw [refVals t]
    rfl
theorem valRefs : ∀ (ks : List (Addr × List Str)), Vals (ks.map fun p => V.ref p.1) (ks.map fun p => Value.ref p.1)
  | [] => .nil
  | p :: ks => .cons rfl (valRefs ks)
section
variable {X : Cx}
theorem inv_key {pins : List (Addr × Obj)} {σ : L2.St} {H : Hp} {s : Shared} {b : Addr} {k : List Str} (I : Inv X pins σ H s) (h : SqT X.K H b (k.map V.str)) : IsTupleKey (PySem.strKind X.prog X.w) s.heap k b := by
  obtain ⟨its, r, ⟨o, ho, hc, n, hd⟩, _⟩ := I.tuple h
  exact ⟨o, its.toArray, n, ho, hc, hd, by simpa using strItems r⟩
/-- set(xs), xs a list of tuples of texts -/
def rSetTp (K : PySem.W.Frag) (P : Program) (w : World) : List V → Hp → VK → Prop := fun xs H Q => ∃ (l : Addr) (ks : List (Addr × List Str)), xs = [.ref l] ∧ SqL K H l (ks.map fun p => V.ref p.1) ∧ (∀ p ∈ ks, SqT K H p.1 (p.2.map V.str)) ∧ LowT ks ∧
  ∀ a L, H a = none → (∀ p ∈ L, p ∈ ks) → (∀ p ∈ ks, p.2 ∈ L.map (·.2)) → Q (.ref a) (upd H a (SetTp P w a L))
theorem cr_setTp (hc : X.calm = true) (hu : X.A.units + 64 < PySem.cLine) : CallR X (.type "set") (rSetTp X.K X.prog X.w) := by
  intro pins s σ H xs us Q I r h
  obtain ⟨l, ks, rfl, hl, hk, hf, q⟩ := h
  rw [Vals.ref1 r]
  obtain ⟨its, rv, pl, hz⟩ := I.list hl
  refine set_of_tups (str_itemOk X.prog X.w) (ks := ks) (I.ok.hd hc) pl.isList (by simpa using refVals rv) (fun p hp => inv_key I (hk p hp)) hf (by omega) fun h' tk L R g k => ?_
  exact ⟨.ref s.heap.objs.size, upd H s.heap.objs.size (SetTp X.prog X.w s.heap.objs.size L), I.laid (t' := tk) k (Nat.le_refl _) (setTp_new R), rfl, q _ L (I.hok.fresh (Nat.le_refl _)) (fun p hp => List.mem_of_mem_take (g.of p hp)) fun p hp => g.all p (by rw [List.take_length]; exact hp)⟩
/-- sorted(s), s such a set -/
def rSortTp (K : PySem.W.Frag) (P : Program) (w : World) : List V → Hp → VK → Prop := fun vs H Q => ∃ (a : Addr) (L : List (Addr × List Str)), vs = [.ref a] ∧ H a = some (SetTp P w a L) ∧ (∀ p ∈ L, SqT K H p.1 (p.2.map V.str) ∧ p.2 ≠ []) ∧
  ∀ (L' : List (Addr × List Str)) (p : Addr), L'.Perm L → (L'.map (·.2)).Pairwise (fun x y => ltT x y = true) → H p = none → Q (.ref p) (upd H p (.lst (L'.map fun q => V.ref q.1)))
theorem cr_sortTp (hc : X.calm = true) : CallR X (.builtin "sorted") (rSortTp X.K X.prog X.w) := by
  intro pins s σ H vs us Q I r h
  obtain ⟨a, L, rfl, ha, hk, q⟩ := h
  have R : TupSet (PySem.strKind X.prog X.w) s.heap a L := (I.hok a _ ha).1
  have few : L.length < 64 := by
    obtain ⟨_, _, _, R⟩ := R
    exact R.few
  rw [Vals.ref1 r]
  refine sorted_set_tups R (fun p hp => ⟨inv_key I (hk p hp).1, (hk p hp).2⟩) (I.ok.hd hc) fun s' p out c L' k g o hp hg hout pm pw => ?_
  have hlen : (L'.map fun q => V.ref q.1).length ≤ sizeLine := by rw [List.length_map, pm.length_eq, sizeLine_eq]; omega
  have hn : H p = none := I.hok.fresh hp
  have hv : Vals (L'.map fun q => V.ref q.1) out.toList := by rw [hout]; exact valRefs L'
  have J : Inv X pins σ (upd H p (.lst (L'.map fun q => V.ref q.1))) { s with heap := s'.heap, gens := s'.gens, drawn := s'.drawn, toks := s'.toks } :=
    I.call (ch := []) (Un.laid k hp hn) (I.hok.laid k hp ⟨hlen, out.toList, c, hv, hg⟩) (by rw [g]; exact I.bare) (fun _ z => nomatch z)
  have e : s' = { s with heap := s'.heap, gens := s'.gens, drawn := s'.drawn, toks := s'.toks } := by
    obtain ⟨_, _, _, _, _⟩ := s'
    obtain ⟨_, _, _, _, _⟩ := s
    cases o
    rfl
  rw [e]
  exact ⟨.ref p, _, J, rfl, q L' p pm pw hn⟩
end
end Pn

namespace Pn
open PySem PySem.Spec PyProof.Rows L2 TL
abbrev sIsTri : Stmt := top 19
abbrev sNeedT : Stmt := top 20
abbrev sRights : Stmt := top 21
abbrev sLInit : Stmt := inClass (top 23) 0
/-! ### triples, rights, Leaves.__init__ of triples -/
abbrev Tri : Type := Str × Str × Str
def tl3 (t : Tri) : List Str := [t.1, t.2.1, t.2.2]
theorem tl3_inj {a b : Tri} (h : tl3 a = tl3 b) : a = b := by
  obtain ⟨a1, a2, a3⟩ := a
  obtain ⟨b1, b2, b3⟩ := b
  injection h with h1 h
  injection h with h2 h
  injection h with h3 h
  have h1 : a1 = b1 := h1
  have h2 : a2 = b2 := h2
  have h3 : a3 = b3 := h3
  rw [h1, h2, h3]
def triB (t : Tri) : Bool := nameS t.1 && (nameS t.2.1 && (decide (t.2.2 = "on") || decide (t.2.2 = "any")))
theorem triB_len {t : Tri} (h : triB t = true) : t.1.length ≤ 900 ∧ t.2.1.length ≤ 900 := by
  unfold triB at h
  rw [Bool.and_eq_true, Bool.and_eq_true] at h
  exact ⟨Nat.le_trans (name_ok h.1).2 (by decide), Nat.le_trans (name_ok h.2.1).2 (by decide)⟩
/-- triples as they stand -/
abbrev TriAt (K : PySem.W.Frag) (H : Hp) (a : Addr) (t : Tri) : Prop := SqT K H a [.str t.1, .str t.2.1, .str t.2.2]
abbrev TrisIn (K : PySem.W.Frag) (H : Hp) (as : List Addr) (ts : List Tri) : Prop := Paired (TriAt K H) as ts
theorem TrisIn.same {K : PySem.W.Frag} {H H' : Hp} {as : List Addr} {ts : List Tri} (h : TrisIn K H as ts) (s : Same H H') : TrisIn K H' as ts := paired_mono (fun _ _ z => Same.sqt s z) h
def going (t : Tri) : Tri := (t.1, t.2.1, "on")
/-- few different triples -/
def FewT (ts : List Tri) : Prop := ts.length ≤ 100 ∧ ∃ B : List (List Str), B.length < 63 ∧ ∀ t ∈ ts, tl3 t ∈ B ∧ tl3 (going t) ∈ B
theorem FewT.of {ts : List Tri} (h : 2 * ts.length < 62) : FewT ts := ⟨by omega, ts.map tl3 ++ (ts.map going).map tl3, by rw [List.length_append, List.length_map, List.length_map, List.length_map]; omega, fun t ht => ⟨List.mem_append_left _ (List.mem_map_of_mem ht), List.mem_append_right _ (List.mem_map_of_mem (List.mem_map_of_mem ht))⟩⟩
theorem FewT.sub {ts us : List Tri} (h : FewT ts) (s : ∀ t ∈ us, t ∈ ts) (hl : us.length ≤ 100) : FewT us := by
  obtain ⟨_, B, hB, hk⟩ := h
  exact ⟨hl, B, hB, fun t ht => hk t (s t ht)⟩
/-! rights: the triples ascending, each once -/
def insT (x : Tri) : List Tri → List Tri
  | [] => [x]
  | y :: l => if ltT (tl3 x) (tl3 y) = true then x :: y :: l else if x = y then y :: l else y :: insT x l
def sortT : List Tri → List Tri
  | [] => []
  | x :: l => insT x (sortT l)
def UpT (l : List Tri) : Prop := l.Pairwise fun x y => ltT (tl3 x) (tl3 y) = true
theorem mem_insT {x z : Tri} : ∀ {l : List Tri}, z ∈ insT x l ↔ z = x ∨ z ∈ l
  | [] => by simp [insT]
  | y :: l => by
    unfold insT
    split
    · simp
    · split
      · rename_i h
        rw [h]
        simp
      · rw [List.mem_cons, mem_insT, List.mem_cons]
        constructor
        · rintro (h | h | h)
          · exact .inr (.inl h)
          · exact .inl h
          · exact .inr (.inr h)
        · rintro (h | h | h)
          · exact .inr (.inl h)
          · exact .inl h
          · exact .inr (.inr h)
theorem mem_sortT {z : Tri} : ∀ {l : List Tri}, z ∈ sortT l ↔ z ∈ l
  | [] => Iff.rfl
  | x :: l => by
    show z ∈ insT x (sortT l) ↔ _
    rw [mem_insT, mem_sortT, List.mem_cons]
theorem up_insT {x : Tri} : ∀ {l : List Tri}, UpT l → UpT (insT x l)
  | [], _ => List.pairwise_singleton _ _
  | y :: l, h => by
    have h' := List.pairwise_cons.mp h
    unfold insT
    split
    · rename_i lt
      exact List.pairwise_cons.mpr ⟨fun z hz => by
        rcases List.mem_cons.mp hz with rfl | hz
        · exact lt
        · exact ltT_trans lt (h'.1 z hz), h⟩
    · rename_i nlt
      split
      · exact h
      · rename_i ne
        refine List.pairwise_cons.mpr ⟨fun z hz => ?_, up_insT h'.2⟩
        rcases mem_insT.mp hz with rfl | hz
        · cases e : ltT (tl3 y) (tl3 z) with
          | true => rfl
          | false => exact absurd (tl3_inj (ltT_total (by simpa using nlt) e)) ne
        · exact h'.1 z hz
theorem up_sortT : ∀ l : List Tri, UpT (sortT l)
  | [] => .nil
  | x :: l => up_insT (up_sortT l)
theorem up_nodup {l : List Tri} (h : UpT l) : l.Nodup := List.Pairwise.imp (fun {a b} h e => by rw [e, ltT_irrefl] at h; cases h) h
/-- two ascending lists of the same triples are one -/
theorem up_uniq : ∀ {l m : List Tri}, UpT l → UpT m → (∀ z, z ∈ l ↔ z ∈ m) → l = m
  | [], [], _, _, _ => rfl
  | [], y :: m, _, _, h => absurd ((h y).mpr List.mem_cons_self) (by simp)
  | x :: l, [], _, _, h => absurd ((h x).mp List.mem_cons_self) (by simp)
  | x :: l, y :: m, hl, hm, h => by
    obtain ⟨l1, l2⟩ := List.pairwise_cons.mp hl
    obtain ⟨m1, m2⟩ := List.pairwise_cons.mp hm
    have e : x = y := by
      rcases List.mem_cons.mp ((h x).mp List.mem_cons_self) with e | hx
      · exact e
      · rcases List.mem_cons.mp ((h y).mpr List.mem_cons_self) with e | hy
        · exact e.symm
        · have z := ltT_trans (l1 y hy) (m1 x hx)
          rw [ltT_irrefl] at z
          cases z
    subst e
    have nl : ∀ z, z ∈ l → ¬ z = x := fun z hz e => by have q := l1 z hz; rw [e, ltT_irrefl] at q; cases q
    have nm : ∀ z, z ∈ m → ¬ z = x := fun z hz e => by have q := m1 z hz; rw [e, ltT_irrefl] at q; cases q
    rw [up_uniq l2 m2 fun z => ⟨fun hz => ((List.mem_cons.mp ((h z).mp (List.mem_cons_of_mem _ hz))).resolve_left (nl z hz)), fun hz => ((List.mem_cons.mp ((h z).mpr (List.mem_cons_of_mem _ hz))).resolve_left (nm z hz))⟩]
def rightsM (ts : List Tri) : List Tri := sortT (ts ++ ts.map going)
section
variable {K : PySem.W.Frag} {tl : TE} {g : TG} {tt : TT} {te : TE} {vs : List Nat} {σ : L2.St} {H : Hp} {Q : VK} {p : Addr} {xs : List V}
theorem lcw_objsTL {α : Type} {R : Hp → Addr → α → Prop} {cs : List α} (hR : ∀ {H H' : Hp} {t : Addr} {c : α}, SameN H H' → R H t c → R H' t c)
    (h0 : ∀ R : VK, R (.ref p) H → tl σ H R) (hp : SqT K H p xs) (hl : xs.length ≤ 1000) (hc : xs.length = cs.length)
    (turn : ∀ (i : Nat) (x : V) (c : α) (Hi : Hp) (S : Hp → Prop) (Y : VK), xs[i]? = some x → cs[i]? = some c → Same H Hi → (∀ t H', Same Hi H' → R H' t c → Y (.ref t) H') → g x (wipe σ vs) Hi fun σ2 H2 => wipe σ2 vs = wipe σ vs ∧ tt σ2 H2 fun b H3 => if b = true then te σ2 H3 Y else S H3)
    (fin : ∀ (D : Addr) (H' : Hp) (ts : List Addr), H D = none → Same H H' → H' D = some (.lst (ts.map V.ref)) → Paired (R H') ts cs → Q (.ref D) H') : tLc (iTup K tl) g tt te vs σ H Q := by
  refine h0 _ ⟨p, rfl, ⟨_, hp⟩, fun D hD => lc_tup (xs := xs) (fun i Hi => Same H Hi ∧ ∃ ts : List Addr, Hi D = some (.lst (ts.map V.ref)) ∧ ts.length ≤ i ∧ Paired (R Hi) ts (cs.take i)) ⟨Same.new hD, [], upd_same, Nat.le_refl _, .nil⟩ (fun _ _ _ hP => Same.sqt hP.1 hp) (fun i x Hi hx hP => ?_) (fun Hi hP => ?_)⟩
  · obtain ⟨s, ts, hd, hn, pd⟩ := hP
    have hi : i < xs.length := (List.getElem?_eq_some_iff.mp hx).1
    have hi2 : i < cs.length := by omega
    have hc2 : cs[i]? = some cs[i] := List.getElem?_eq_getElem hi2
    refine turn i x _ Hi _ _ hx hc2 s fun t H' s' r => ⟨_, s' _ _ hd, small1000 (by rw [List.length_map]; omega), (fun a o e => ?_), ts ++ [t], by rw [upd_same, List.map_append]; rfl, by rw [List.length_append]; exact Nat.add_le_add_right hn 1, ?_⟩
    · rw [upd_ne (ne_of_none e hD)]
      exact s' _ _ (s _ _ e)
    · have n2 : SameN H' (upd H' D (.lst (ts.map V.ref ++ [V.ref t]))) := SameN.upd (s' _ _ hd)
      rw [List.take_add_one, hc2]
      exact paired_snoc (hR n2 r) (paired_mono (fun _ _ z => hR ((SameN.of s').trans n2) z) pd)
  · obtain ⟨s, ts, hd, _, pd⟩ := hP
    rw [hc, List.take_length] at pd
    exact fin D Hi ts hD s hd pd
/-- objects made in a comprehension over a list or a tuple -/
theorem lcw_objsS {α : Type} {R : Hp → Addr → α → Prop} {cs : List α} (hR : ∀ {H H' : Hp} {t : Addr} {c : α}, SameN H H' → R H t c → R H' t c)
    (h0 : ∀ R : VK, R (.ref p) H → tl σ H R) (hp : SqL K H p xs ∨ SqT K H p xs) (hl : xs.length ≤ 1000) (hc : xs.length = cs.length)
    (turn : ∀ (i : Nat) (x : V) (c : α) (Hi : Hp) (S : Hp → Prop) (Y : VK), xs[i]? = some x → cs[i]? = some c → Same H Hi → (∀ t H', Same Hi H' → R H' t c → Y (.ref t) H') → g x (wipe σ vs) Hi fun σ2 H2 => wipe σ2 vs = wipe σ vs ∧ tt σ2 H2 fun b H3 => if b = true then te σ2 H3 Y else S H3)
    (fin : ∀ (D : Addr) (H' : Hp) (ts : List Addr), H D = none → Same H H' → H' D = some (.lst (ts.map V.ref)) → Paired (R H') ts cs → Q (.ref D) H') : tLc (iSeq K tl) g tt te vs σ H Q :=
  hp.elim (fun h => .inl (lcw_objs (R := R) (cs := cs) (fun s r => hR s r) h0 h hl hc turn fin)) fun h => .inr (lcw_objsTL (R := R) (cs := cs) (fun s r => hR s r) h0 h hl hc turn fin)
end
section
variable {P : Program} {w : World} {K : PySem.W.Frag} {mg : Str → Option Value} {base : Heap} {R : TRows K mg}
theorem roomLv {k : Nat} {A : Around} (r : Room k A) : A.units + 64 < PySem.cLine := by have := r.un; omega
theorem pi_enumS {X : Cx} {e : Expr} {p pos tpos : Pos} {elts : List Expr} {kk : Nat} {i1 i2 : TI} (h1 : PI X (.Tuple elts kk tpos) (.Call (.Name "enumerate" p) [e] [] pos) i1) (h2 : PI X (.Tuple elts kk tpos) (.Call (.Name "enumerate" p) [e] [] pos) i2) :
    PI X (.Tuple elts kk tpos) (.Call (.Name "enumerate" p) [e] [] pos) (fun σ H R => i1 σ H R ∨ i2 σ H R) :=
  ⟨fun pins s σ H R I h => h.elim (fun a => h1.run pins s σ H R I a) fun a => h2.run pins s σ H R I a⟩
/-- what Leaves(..) wants -/
structure TLv {K : PySem.W.Frag} {mg : Str → Option Value} {R : TRows K mg} (F : TFill R) : Type where
  mEn : mg "enumerate" = none
  lw : Addr
  mLW : mg "LEAVE_WORDS" = some (.ref lw)
  hLW : ∀ H, SqT K H lw [.str "on", .str "any"]
  isTri : At K mg "is_triple" sIsTri ["value"]
  needT : At K mg "need_triples" sNeedT ["items"]
  rights : At K mg "rights_of" sRights ["triples"]
  C : Addr
  mC : mg "Leaves" = some (.ref C)
  fI : Addr
  fdI : FuncData
  dP : Addr
  hP : ∀ H, SqT K H dP []
  FI : FunD K "__init__" "Leaves.__init__" (defArgs sLInit) (defBody sLInit) (defScope sLInit) [.ref dP] [] fI fdI
  bI : Binds K fdI ["self", "items"] []
  M : Mk K C fI
  cl : Cls K C
  noR : NoAttr K C "rights"
variable {F : TFill R}
def spIsTri (K : PySem.W.Frag) : Sp := fun vs H Q _ => ∃ (a : Addr) (t : Tri), vs = [.ref a] ∧ TriAt K H a t ∧ t.1.length ≤ 900 ∧ t.2.1.length ≤ 900 ∧ ∀ H', Same H H' → Q (.bl (triB t)) H'
theorem scIsTri : FnScope ["value"] ["value"] (defScope sIsTri) := ⟨rfl, rfl, rfl, by decide +kernel, rfl, by decide +kernel, by decide +kernel⟩
theorem ok_isTri (Y : TLv F) : FnOk P w K mg base CX0 2 Y.isTri.f Y.isTri.fd ["value"] (spIsTri K) := by
  refine Y.isTri.F.ok scIsTri (fun vs H Q E h => ?_) (fun cdv A outer s H vs Q E hr h => ?_)
  · obtain ⟨a, t, rfl, _⟩ := h
    rfl
  · obtain ⟨a, t, rfl, hT, l1, l2, q⟩ := h
    refine ⟨_, (pss_cons (ps_if (PW.pt (pw_or (pt_not (pt_val (pe_callB call_isi (by rfl) R.N.mIsi (by decide +kernel) (pa_cons (pv 0) (pa_cons (pe_bltn (v := .ty "tuple") (by rfl) F.mTup (by decide +kernel) rfl) pa_nil))))) (pw_or1 (pt_cmpR op_ne (pe_callB call_len_seq (by rfl) R.N.mLen PySem.boot_len (pa_cons (pv 0) pa_nil)) pe_int (nomark _))))) (pss_one (ps_ret pe_bl)) pss_nil)
(pss_one (ps_ret (pe_and (pe_call R.N.okName (hr.mono (by decide)) rfl R.N.isName.m R.N.isName.F.kp R.N.isName.b .nil pass0 (pa_cons (pe_ix ix_tup (pv 0) pe_int (fun _ _ => rfl)) pa_nil)) (pe_and (pe_call R.N.okName (hr.mono (by decide)) rfl R.N.isName.m R.N.isName.F.kp R.N.isName.b .nil pass0 (pa_cons (pe_ix ix_tup (pv 0) pe_int (fun _ _ => rfl)) pa_nil)) (pe_one (pe_cmpR op_in_seq (pe_ix ix_tup (pv 0) pe_int (fun _ _ => rfl)) (pe_glob (v := .ref Y.lw) (by rfl) Y.mLW rfl) rfl))))))), ?_⟩
    refine ⟨_, rfl, _, .ty "tuple", _, _, true, rfl, .ty _, sqt_ty hT, kit_ty (by decide +kernel : kitB "tuple" "tuple" = some true), _, rfl, iteF ?_⟩
    refine ⟨_, rfl, _, _, rfl, .inr hT, rfl, _, rfl, iteFD rfl ?_⟩
    refine ⟨_, rfl, a, _, 0, _, rfl, rfl, hT, rfl, .str t.1, .str t.1, rfl, .str _, l1, fun H1 s1 _ => ?_⟩
    have q' : Q (.bl (nameS t.1 && (nameS t.2.1 && (decide (t.2.2 = "on") || decide (t.2.2 = "any"))))) H1 := q _ s1
    refine ⟨_, rfl, ?_⟩
    cases n1 : nameS t.1 with
    | false =>
      rw [n1] at q'
      exact iteFB (show nameD (.str t.1) = false from n1) q'
    | true =>
    rw [n1, Bool.true_and] at q'
    refine iteTB (show nameD (.str t.1) = true from n1) ?_
    refine ⟨_, rfl, a, _, 1, _, rfl, rfl, Same.sqt s1 hT, rfl, .str t.2.1, .str t.2.1, rfl, .str _, l2, fun H2 s2 _ => ⟨_, rfl, ?_⟩⟩
    have q2 : Q (.bl (nameS t.2.1 && (decide (t.2.2 = "on") || decide (t.2.2 = "any")))) H2 := by
      have z := q H2 (s1.trans s2)
      unfold triB at z
      rw [n1, Bool.true_and] at z
      exact z
    cases n2 : nameS t.2.1 with
    | false =>
      rw [n2] at q2
      exact iteFB (show nameD (.str t.2.1) = false from n2) q2
    | true =>
    rw [n2, Bool.true_and] at q2
    refine iteTB (show nameD (.str t.2.1) = true from n2) ?_
    refine ⟨_, rfl, a, _, 2, _, rfl, rfl, Same.sqt (s1.trans s2) hT, rfl, Y.lw, _, rfl, .inr (Y.hLW _), rfl, rfl, ?_⟩
    have e : inV (.str t.2.2) [.str "on", .str "any"] = (decide (t.2.2 = "on") || decide (t.2.2 = "any")) := by
      have e1 : ∀ x : Str, (x == t.2.2) = decide (t.2.2 = x) := fun x => by
        by_cases h : t.2.2 = x
        · rw [decide_eq_true h, beq_iff_eq]; exact h.symm
        · rw [decide_eq_false h, beq_eq_false_iff_ne]; exact fun z => h z.symm
      show (("on" : Str) == t.2.2 || (("any" : Str) == t.2.2 || false)) = _
      rw [Bool.or_false, e1, e1]
    show Q (.bl (inV (.str t.2.2) [.str "on", .str "any"])) H2
    rw [e]
    exact q2
/-- triples in a list or a tuple -/
def TriSeq (K : PySem.W.Frag) (H : Hp) (v : V) (ts : List Tri) : Prop := ∃ (p : Addr) (as : List Addr), v = .ref p ∧ (SqL K H p (as.map V.ref) ∨ SqT K H p (as.map V.ref)) ∧ TrisIn K H as ts
theorem TriSeq.same {H H' : Hp} {v : V} {ts : List Tri} (h : TriSeq K H v ts) (s : Same H H') : TriSeq K H' v ts := by
  obtain ⟨p, as, e, hp, hT⟩ := h
  exact ⟨p, as, e, hp.imp s.seq (Same.sqt s), hT.same s⟩
def spNeedT (K : PySem.W.Frag) : Sp := fun vs H Q _ => ∃ (v : V) (ts : List Tri), vs = [v] ∧ TriSeq K H v ts ∧ (∀ t ∈ ts, triB t = true) ∧ ∀ H', Same H H' → Q .non H'
theorem scNeedT : FnScope ["items", "at", "triple"] ["items"] (defScope sNeedT) := ⟨rfl, rfl, rfl, by decide +kernel, rfl, by decide +kernel, by decide +kernel⟩
theorem ok_needT (Y : TLv F) : FnOk P w K mg base CX0 3 Y.needT.f Y.needT.fd ["items"] (spNeedT K) := by
  refine Y.needT.F.ok scNeedT (fun vs H Q E h => ?_) (fun cdv A outer s H vs Q E hr h => ?_)
  · obtain ⟨v, ts, rfl, _⟩ := h
    rfl
  · obtain ⟨v, ts, rfl, hS, hok, q⟩ := h
    refine ⟨_, (pss_cons (ps_if (pt_not (pt_val (pe_call (ok_isSeq F.isSeq.F R.N.mIsi F.mList F.mTup) (hr.mono (by decide)) rfl F.isSeq.m F.isSeq.F.kp F.isSeq.b .nil pass0 (pa_cons (pv 0) pa_nil)))) pss_never pss_nil)
(pss_one (ps_for PassesOwn.never rfl (pi_enumS (pi_enum (by rfl) Y.mEn (pa_cons (pv 0) pa_nil)) (pi_enumT (by rfl) Y.mEn (pa_cons (pv 0) pa_nil))) (pg_tup (by rfl) (pgs_cons (pg_name (i := 1) scNeedT.nd rfl (Or.inl rfl)) (pgs_cons (pg_name (i := 2) scNeedT.nd rfl (Or.inl rfl)) pgs_nil)))
(pss_one (ps_if (pt_not (pt_val (pe_call (ok_isTri Y) (hr.mono (by decide)) rfl Y.isTri.m Y.isTri.F.kp Y.isTri.b .nil pass0 (pa_cons (pv 2) pa_nil)))) pss_never pss_nil))))), ?_⟩
    obtain ⟨p, as, rfl, hp, hT⟩ := hS
    obtain ⟨ty, hk, hty, hty2⟩ := kind_seq hp
    refine ⟨_, rfl, .ref p, ty, true, rfl, hty, hk, hty2, fun H1 s1 _ => ⟨_, rfl, iteF ?_⟩⟩
    rcases hp with hp | hp
    · refine .inl ?_
      refine ⟨_, rfl, p, _, rfl, s1.seq hp, for_it (n := (as.map V.ref).length) walk_enum (fun i σ Hi => ∃ x1 x2, σ = [some (.ref p), x1, x2] ∧ Same H Hi) ⟨none, none, rfl, s1⟩ (fun i σ Hi _ hP => by obtain ⟨_, _, _, s⟩ := hP; exact s.seq hp) (fun i x σ Hi Hi' hi hP hY => ?_) (fun σ Hi hP => ?_)⟩
      · obtain ⟨x1, x2, rfl, si⟩ := hP
        obtain ⟨T', xx, yy, rfl, hT', rfl, e1, e2⟩ := hY
        obtain rfl : V.int (i : Nat) = xx := Option.some.inj e1
        have e2 : (as.map V.ref)[i]? = some yy := e2
        rw [List.getElem?_map] at e2
        obtain ⟨a, ha, rfl⟩ := Option.map_eq_some_iff.mp e2
        obtain ⟨t, ht, hat⟩ := paired_at hT ha
        have ht2 := hok t (List.mem_of_getElem? ht)
        refine ⟨T', _, rfl, SqT.of upd_same, rfl, _, _, rfl, _, _, rfl, rfl, ?_⟩
        have s2 := si.trans (Same.new (o := .tup [.int (i : Nat), .ref a]) hT')
        refine ⟨_, rfl, a, t, rfl, Same.sqt s2 hat, (triB_len ht2).1, (triB_len ht2).2, fun H2 s3 => ⟨_, rfl, ?_⟩⟩
        rw [ht2]
        exact iteF ⟨_, _, rfl, s2.trans s3⟩
      · obtain ⟨x1, x2, rfl, si⟩ := hP
        exact q _ si
    · refine .inr ?_
      refine ⟨_, rfl, p, _, rfl, Same.sqt s1 hp, for_it (n := (as.map V.ref).length) walk_enumT (fun i σ Hi => ∃ x1 x2, σ = [some (.ref p), x1, x2] ∧ Same H Hi) ⟨none, none, rfl, s1⟩ (fun i σ Hi _ hP => by obtain ⟨_, _, _, s⟩ := hP; exact Same.sqt s hp) (fun i x σ Hi Hi' hi hP hY => ?_) (fun σ Hi hP => ?_)⟩
      · obtain ⟨x1, x2, rfl, si⟩ := hP
        obtain ⟨T', xx, yy, rfl, hT', rfl, e1, e2⟩ := hY
        obtain rfl : V.int (i : Nat) = xx := Option.some.inj e1
        have e2 : (as.map V.ref)[i]? = some yy := e2
        rw [List.getElem?_map] at e2
        obtain ⟨a, ha, rfl⟩ := Option.map_eq_some_iff.mp e2
        obtain ⟨t, ht, hat⟩ := paired_at hT ha
        have ht2 := hok t (List.mem_of_getElem? ht)
        refine ⟨T', _, rfl, SqT.of upd_same, rfl, _, _, rfl, _, _, rfl, rfl, ?_⟩
        have s2 := si.trans (Same.new (o := .tup [.int (i : Nat), .ref a]) hT')
        refine ⟨_, rfl, a, t, rfl, Same.sqt s2 hat, (triB_len ht2).1, (triB_len ht2).2, fun H2 s3 => ⟨_, rfl, ?_⟩⟩
        rw [ht2]
        exact iteF ⟨_, _, rfl, s2.trans s3⟩
      · obtain ⟨x1, x2, rfl, si⟩ := hP
        exact q _ si
def keysT : List Addr → List Tri → List (Addr × List Str)
  | a :: as, t :: ts => (a, tl3 t) :: keysT as ts
  | _, _ => []
theorem keysT_refs {H : Hp} : ∀ {as : List Addr} {ts : List Tri}, TrisIn K H as ts → (keysT as ts).map (fun p => V.ref p.1) = as.map V.ref
  | _, _, .nil => rfl
  | _, _, .cons _ r => congrArg (_ :: ·) (keysT_refs r)
theorem keysT_at {H : Hp} : ∀ {as : List Addr} {ts : List Tri}, TrisIn K H as ts → ∀ p ∈ keysT as ts, ∃ t ∈ ts, p.2 = tl3 t ∧ TriAt K H p.1 t
  | _, _, .nil, p, hp => nomatch hp
  | _, _, .cons a r, p, hp => by
    rcases List.mem_cons.mp hp with rfl | hp
    · exact ⟨_, List.mem_cons_self, rfl, a⟩
    · obtain ⟨t, h1, h2⟩ := keysT_at r p hp
      exact ⟨t, List.mem_cons_of_mem _ h1, h2⟩
theorem keysT_has {H : Hp} : ∀ {as : List Addr} {ts : List Tri}, TrisIn K H as ts → ∀ t ∈ ts, ∃ p ∈ keysT as ts, p.2 = tl3 t
  | _, _, .nil, t, ht => nomatch ht
  | _, _, .cons a r, t, ht => by
    rcases List.mem_cons.mp ht with rfl | ht
    · exact ⟨_, List.mem_cons_self, rfl⟩
    · obtain ⟨p, h1, h2⟩ := keysT_has r t ht
      exact ⟨p, List.mem_cons_of_mem _ h1, h2⟩
theorem mem_rights {ts : List Tri} {z : Tri} : z ∈ rightsM ts ↔ z ∈ ts ∨ ∃ t ∈ ts, going t = z := by
  unfold rightsM
  rw [mem_sortT, List.mem_append, List.mem_map]
/-- tuples that are the keys of the rights, ascending -/
theorem rights_of_keys {H : Hp} {ts : List Tri} : ∀ {L : List (Addr × List Str)}, (∀ p ∈ L, ∃ t, (t ∈ ts ∨ t ∈ ts.map going) ∧ p.2 = tl3 t ∧ TriAt K H p.1 t) → (L.map (·.2)).Pairwise (fun x y => ltT x y = true) →
    ∃ rs : List Tri, TrisIn K H (L.map (·.1)) rs ∧ UpT rs ∧ (∀ z ∈ rs, z ∈ ts ∨ z ∈ ts.map going) ∧ L.map (·.2) = rs.map tl3
  | [], _, _ => ⟨[], .nil, .nil, (fun _ z => nomatch z), rfl⟩
  | p :: L, h, up => by
    obtain ⟨u1, u2⟩ := List.pairwise_cons.mp up
    obtain ⟨rs, r1, r2, r3, r4⟩ := rights_of_keys (fun q hq => h q (List.mem_cons_of_mem _ hq)) u2
    obtain ⟨t, t1, t2, t3⟩ := h p List.mem_cons_self
    refine ⟨t :: rs, .cons t3 r1, List.pairwise_cons.mpr ⟨fun z hz => ?_, r2⟩, fun z hz => ?_, by rw [List.map_cons, List.map_cons, r4, t2]⟩
    · rw [← t2]
      exact u1 _ (by rw [r4]; exact List.mem_map_of_mem hz)
    · rcases List.mem_cons.mp hz with rfl | hz
      · exact t1
      · exact r3 z hz
theorem keysT_low {H : Hp} {as gs : List Addr} {ts : List Tri} (h : FewT ts) (ha : TrisIn K H as ts) (hg : TrisIn K H gs (ts.map going)) : LowT (keysT as ts ++ keysT gs (ts.map going)) := by
  obtain ⟨_, B, hB, hk⟩ := h
  refine ⟨B, hB, fun p hp => ?_⟩
  rcases List.mem_append.mp hp with hp | hp
  · obtain ⟨t, h1, h2, _⟩ := keysT_at ha p hp
    rw [h2]
    exact (hk t h1).1
  · obtain ⟨t, h1, h2, _⟩ := keysT_at hg p hp
    obtain ⟨u, hu, rfl⟩ := List.mem_map.mp h1
    rw [h2]
    exact (hk u hu).2
def spRights (K : PySem.W.Frag) : Sp := fun vs H Q _ => ∃ (v : V) (ts : List Tri), vs = [v] ∧ TriSeq K H v ts ∧ FewT ts ∧ ∀ (p : Addr) (bs : List Addr) (H' : Hp), Same H H' → SqT K H' p (bs.map V.ref) → TrisIn K H' bs (rightsM ts) → Q (.ref p) H'
theorem scRights : FnScope ["triples", "going", "name", "counter", "word"] ["triples"] (defScope sRights) := ⟨rfl, rfl, rfl, by decide +kernel, rfl, by decide +kernel, by decide +kernel⟩
theorem ok_rights (Y : TLv F) : FnOk P w K mg base CX0 1 Y.rights.f Y.rights.fd ["triples"] (spRights K) := by
  refine Y.rights.F.ok scRights (fun vs H Q E h => ?_) (fun cdv A outer s H vs Q E hr h => ?_)
  · obtain ⟨v, ts, rfl, _⟩ := h
    rfl
  · obtain ⟨v, ts, rfl, hS, hf, q⟩ := h
    refine ⟨_, (pss_cons (ps_setLc (i := 1) (own := [("name", 2), ("counter", 3), ("word", 4)]) (g := gTup K 3 (gCons (gName 2) (gCons (gName 3) (gCons (gName 4) gNil)))) (tt := tYes) (by rfl) scRights.nd rfl rfl (sw_true rfl rfl rfl (by decide +kernel)) (pi_seq (pv 0))
 (blkOk_by (N := ["triples", "going", "name", "counter", "word"]) (sc := defScope sRights) (by decide +kernel)) (fun _ _ _ _ _ => (pg_tup (by rfl) (pgs_cons (pg_name (i := 2) scRights.nd rfl (Or.inl rfl)) (pgs_cons (pg_name (i := 3) scRights.nd rfl (Or.inl rfl)) (pgs_cons (pg_name (i := 4) scRights.nd rfl (Or.inl rfl)) pgs_nil))))) (fun _ _ _ _ _ => pts_nil) (fun _ _ _ _ _ => (pe_tup (pa_cons (pv 2) (pa_cons (pv 3) (pa_cons pe_str pa_nil))))))
(pss_one (ps_ret (pe_callTy (show CallR _ (.type "tuple") (rTupO K) from call_tupO) (by rfl) F.mTup (by decide +kernel) (pa_cons (pe_callB (show CallR _ (.builtin "sorted") (rSortTp K P w) from cr_sortTp rfl) (by rfl) F.mSorted (by decide +kernel) (pa_cons (pe_callTy (show CallR _ (.type "set") (rSetTp K P w) from cr_setTp rfl (roomLv hr)) (by rfl) F.mSet (by decide +kernel) (pa_cons (pe_lst (StX.pa_star (pv 0) (StX.pa_star (pv 1) pa_nil))) pa_nil)) pa_nil)) pa_nil))))), ?_⟩
    obtain ⟨p, as, rfl, hp, hT⟩ := hS
    have hl := paired_len hT
    have h100 := hf.1
    refine stepSet (fun v H' => ∃ (D : Addr) (gs : List Addr), v = .ref D ∧ Same H H' ∧ H' D = some (.lst (gs.map V.ref)) ∧ TrisIn K H' gs (ts.map going)) (fun Q' hQ => ?c1) (fun v H1 hC => ?r1)
    case c1 =>
      refine lcw_objsS (K := K) (tl := tVar 0) (p := p) (xs := as.map V.ref) (cs := ts.map going) (R := fun H t c => TriAt K H t c) (fun s z => sqt_sameN s z) (fun R' z => ⟨_, rfl, z⟩) hp (by rw [List.length_map, hl]; omega) (by rw [List.length_map, List.length_map, hl]) ?tn ?fn
      case tn =>
        intro i x c Hi S Y hx hc sI k
        rw [List.getElem?_map] at hx hc
        obtain ⟨a, ha, rfl⟩ := Option.map_eq_some_iff.mp hx
        obtain ⟨t, ht, rfl⟩ := Option.map_eq_some_iff.mp hc
        obtain ⟨t', ht', hat⟩ := paired_at hT ha
        rw [ht] at ht'
        cases ht'
        refine ⟨a, _, rfl, Same.sqt sI hat, rfl, _, _, rfl, _, _, rfl, _, _, rfl, rfl, rfl, ?_⟩
        refine ⟨_, rfl, _, rfl, (by show 3 ≤ sizeLine; decide), fun b hb => ?_⟩
        exact k b _ (Same.new hb) (SqT.of upd_same)
      case fn =>
        intro D H' gs hD sD hDl pd
        exact hQ _ _ ⟨D, gs, rfl, sD, hDl, pd⟩
    case r1 =>
    obtain ⟨D, gs, rfl, s1, hD, hG⟩ := hC
    have hp1 := hp.imp s1.seq (Same.sqt s1)
    have hT1 := hT.same s1
    have hgl := paired_len hG
    rw [List.length_map] at hgl
    try dsimp only [List.set]
    refine ⟨_, rfl, p, _, rfl, hp1.symm, _, rfl, D, _, rfl, .inr (SqL.of hD), ?_⟩
    refine ⟨by rw [List.append_nil, List.length_append, List.length_map, List.length_map, hl, hgl]; exact Nat.le_trans (show ts.length + ts.length ≤ 200 by omega) (by decide), fun l hln => ?_⟩
    rw [List.append_nil]
    have s2 := s1.trans (Same.new (o := .lst (as.map V.ref ++ gs.map V.ref)) hln)
    have hT2 := hT1.same (Same.new (o := .lst (as.map V.ref ++ gs.map V.ref)) hln)
    have hG2 := hG.same (Same.new (o := .lst (as.map V.ref ++ gs.map V.ref)) hln)
    have hl2 : upd H1 l (.lst (as.map V.ref ++ gs.map V.ref)) l = some (.lst (as.map V.ref ++ gs.map V.ref)) := upd_same
    generalize upd H1 l (.lst (as.map V.ref ++ gs.map V.ref)) = H2 at s2 hT2 hG2 hl2 ⊢
    have kat : ∀ p ∈ keysT as ts ++ keysT gs (ts.map going), ∃ t, (t ∈ ts ∨ t ∈ ts.map going) ∧ p.2 = tl3 t ∧ TriAt K H2 p.1 t := fun p hp => by
      rcases List.mem_append.mp hp with hp | hp
      · obtain ⟨t, h1, h2, h3⟩ := keysT_at hT2 p hp
        exact ⟨t, .inl h1, h2, h3⟩
      · obtain ⟨t, h1, h2, h3⟩ := keysT_at hG2 p hp
        exact ⟨t, .inr h1, h2, h3⟩
    have sq3 : ∀ {H : Hp} {p : Addr × List Str} {t : Tri}, p.2 = tl3 t → TriAt K H p.1 t → SqT K H p.1 (p.2.map V.str) := fun e h => by rw [e]; exact h
    refine ⟨l, keysT as ts ++ keysT gs (ts.map going), rfl, SqL.of (by rw [hl2, List.map_append, keysT_refs hT2, keysT_refs hG2]), fun p hp => ?_, keysT_low hf hT2 hG2, fun a L ha hL1 hL2 => ?_⟩
    · obtain ⟨t, _, h2, h3⟩ := kat p hp
      exact sq3 h2 h3
    have s3 := s2.trans (Same.new (o := SetTp P w a L) ha)
    have kat2 : ∀ p ∈ L, ∃ t, (t ∈ ts ∨ t ∈ ts.map going) ∧ p.2 = tl3 t ∧ TriAt K (upd H2 a (SetTp P w a L)) p.1 t := fun p hp => by
      obtain ⟨t, h1, h2, h3⟩ := kat p (hL1 p hp)
      exact ⟨t, h1, h2, Same.sqt (Same.new ha) h3⟩
    refine ⟨a, L, rfl, upd_same, fun p hp => ?_, fun L' p perm up hpn => ?_⟩
    · obtain ⟨t, _, h2, h3⟩ := kat2 p hp
      exact ⟨sq3 h2 h3, by rw [h2]; exact fun z => nomatch z⟩
    have s4 := s3.trans (Same.new (o := .lst (L'.map fun q => V.ref q.1)) hpn)
    have e4 : (L'.map fun q => V.ref q.1) = (L'.map (·.1)).map V.ref := by rw [List.map_map]; rfl
    rw [e4] at s4 ⊢
    have hp4 : upd (upd H2 a (SetTp P w a L)) p (.lst ((L'.map (·.1)).map V.ref)) p = some (.lst ((L'.map (·.1)).map V.ref)) := upd_same
    obtain ⟨rs, r1, r2, r3, r4⟩ := rights_of_keys (K := K) (H := upd H2 a (SetTp P w a L)) (ts := ts) (L := L') (fun q hq => kat2 q (perm.mem_iff.mp hq)) up
    have r5 : rs = rightsM ts := by
      refine up_uniq r2 (up_sortT _) fun z => ⟨fun hz => ?_, fun hz => ?_⟩
      · exact mem_rights.mpr ((r3 z hz).imp id List.mem_map.mp)
      · have hz2 : z ∈ ts ∨ z ∈ ts.map going := (mem_rights.mp hz).imp id List.mem_map.mpr
        have hk : ∃ p ∈ keysT as ts ++ keysT gs (ts.map going), p.2 = tl3 z := by
          rcases hz2 with hz2 | hz2
          · obtain ⟨p, h1, h2⟩ := keysT_has hT2 z hz2
            exact ⟨p, List.mem_append_left _ h1, h2⟩
          · obtain ⟨p, h1, h2⟩ := keysT_has hG2 z hz2
            exact ⟨p, List.mem_append_right _ h1, h2⟩
        obtain ⟨p, h1, h2⟩ := hk
        have h3 := hL2 p h1
        rw [h2, ← (perm.map (·.2)).mem_iff, r4] at h3
        obtain ⟨t, h4, h5⟩ := List.mem_map.mp h3
        rw [← tl3_inj h5]
        exact h4
    rw [r5] at r1
    refine ⟨p, _, rfl, .inl ⟨SqL.of hp4, fun b hb => ?_⟩⟩
    exact q b _ _ (s4.trans (Same.new hb)) (SqT.of upd_same) ((r1.same (Same.new hpn)).same (Same.new hb))
def insLv (C dx : Addr) (u : V) : HO := .ins C dx (putF "rights" u [])
/-- leaves with these rights -/
def LvAt (Y : TLv F) (H : Hp) (x : Addr) (rs : List Tri) : Prop := ∃ (dx p : Addr) (as : List Addr), H x = some (insLv Y.C dx (.ref p)) ∧ SqT K H p (as.map V.ref) ∧ TrisIn K H as rs ∧ UpT rs ∧ (∀ t ∈ rs, triB t = true) ∧ rs.length ≤ 1000
theorem LvAt.same {Y : TLv F} {H H' : Hp} {x : Addr} {rs : List Tri} (h : LvAt Y H x rs) (s : Same H H') : LvAt Y H' x rs := by
  obtain ⟨dx, p, as, h1, h2, h3, h4⟩ := h
  exact ⟨dx, p, as, s _ _ h1, Same.sqt s h2, h3.same s, h4⟩
theorem rights_ok {ts : List Tri} (h : ∀ t ∈ ts, triB t = true) : ∀ t ∈ rightsM ts, triB t = true := fun t ht => by
  rcases mem_rights.mp ht with ht | ⟨u, hu, rfl⟩
  · exact h t ht
  · have z := h u hu
    unfold triB at z ⊢
    rw [Bool.and_eq_true, Bool.and_eq_true] at z ⊢
    exact ⟨z.1, z.2.1, rfl⟩
theorem insT_len (x : Tri) : ∀ l : List Tri, (insT x l).length ≤ l.length + 1
  | [] => Nat.le_refl _
  | y :: l => by
    unfold insT
    split
    · exact Nat.le_refl _
    · split
      · exact Nat.le_succ _
      · exact Nat.succ_le_succ (insT_len x l)
theorem sortT_len : ∀ l : List Tri, (sortT l).length ≤ l.length
  | [] => Nat.le_refl _
  | x :: l => Nat.le_trans (insT_len x (sortT l)) (Nat.succ_le_succ (sortT_len l))
theorem rights_len (ts : List Tri) : (rightsM ts).length ≤ 2 * ts.length := by
  have := sortT_len (ts ++ ts.map going)
  rw [List.length_append, List.length_map] at this
  unfold rightsM
  omega
def spLInit (Y : TLv F) : Sp := fun vs H Q _ => ∃ (x dx : Addr) (v : V) (ts : List Tri), vs = [.ref x, v] ∧ H x = some (.ins Y.C dx []) ∧ TriSeq K (hid H x) v ts ∧ (∀ t ∈ ts, triB t = true) ∧ FewT ts ∧ ∀ H', KpI x H H' → LvAt Y H' x (rightsM ts) → Q .non H'
theorem scLInit : FnScope ["self", "items"] ["self", "items"] (defScope sLInit) := ⟨rfl, rfl, rfl, by decide +kernel, rfl, by decide +kernel, by decide +kernel⟩
theorem ok_lInit (Y : TLv F) : FnOk P w K mg base CX0 4 Y.fI Y.fdI ["self", "items"] (spLInit Y) := by
  refine Y.FI.ok scLInit (fun vs H Q E h => ?_) (fun cdv A outer s H vs Q E hr h => ?_)
  · obtain ⟨x, dx, v, ts, rfl, _⟩ := h
    rfl
  · obtain ⟨x, dx, v, ts, rfl, hx, hS, hok, hf, q⟩ := h
    refine ⟨_, (pss_cons (ps_expr (pe_call (ok_needT Y) (hr.mono (by decide)) rfl Y.needT.m Y.needT.F.kp Y.needT.b .nil pass0 (pa_cons (pv 1) pa_nil)))
(pss_one (ps_fld (pv 0) (pe_call (ok_rights Y) (hr.mono (by decide)) rfl Y.rights.m Y.rights.F.kp Y.rights.b .nil pass0 (pa_cons (pv 1) pa_nil)) rfl))), ?_⟩
    have hS1 : TriSeq K H v ts := hS.same hid_sub
    refine ⟨_, rfl, v, ts, rfl, hS1, hok, fun H1 s1 => ?_⟩
    refine ⟨_, rfl, v, ts, rfl, hS1.same s1, hf, fun p bs H2 s2 hp hB => ?_⟩
    have hx2 := s2 _ _ (s1 _ _ hx)
    refine ⟨_, rfl, x, Y.C, dx, _, rfl, hx2, Y.cl, Y.noR, (by show 0 < 1000; decide), ?_⟩
    refine q _ (fun b o e n => by rw [upd_ne n]; exact s2 _ _ (s1 _ _ e)) ⟨dx, p, bs, upd_same, sqt_ins hx2 hp, paired_mono (fun _ _ z => sqt_ins hx2 z) hB, up_sortT _, rights_ok hok, ?_⟩
    have := rights_len ts
    have := hf.1
    omega
end
end Pn

namespace Pn
open PySem PySem.Spec PyProof.Rows L2 TL
abbrev sLEq : Stmt := inClass (top 23) 11
/-! ### leaves compared and put together -/
def triD (t : Tri) : PyData := .tuple [.str t.1, .str t.2.1, .str t.2.2]
theorem tri_strOk {t : Tri} (h : triB t = true) : PyData.strOk t.1 = true ∧ PyData.strOk t.2.1 = true ∧ PyData.strOk t.2.2 = true := by
  unfold triB at h
  rw [Bool.and_eq_true, Bool.and_eq_true, Bool.or_eq_true] at h
  obtain ⟨h1, h2, h3⟩ := h
  refine ⟨(name_ok h1).1, (name_ok h2).1, ?_⟩
  rcases h3 with h3 | h3
  · rw [of_decide_eq_true h3]; decide +kernel
  · rw [of_decide_eq_true h3]; decide +kernel
def triS (t : Tri) : Prop := PyData.strOk t.1 = true ∧ PyData.strOk t.2.1 = true ∧ PyData.strOk t.2.2 = true
theorem tri_lay {t : Tri} (h : triS t) : PyData.canLay0 (triD t) = true ∧ PyData.depth (triD t) ≤ 1 := by
  obtain ⟨a, b, c⟩ := h
  constructor
  · unfold triD
    simp only [PyData.canLay0, PyData.canLayAll0, a, b, c, Bool.and_self]
  · unfold triD
    simp [PyData.depth, PyData.depthAll]
theorem tris_lay : ∀ {l : List Tri}, (∀ t ∈ l, triS t) → PyData.canLayAll0 (l.map triD) = true ∧ PyData.depthAll (l.map triD) ≤ 1
  | [], _ => ⟨by simp only [List.map_nil, PyData.canLayAll0], by simp [PyData.depthAll]⟩
  | t :: l, h => by
    obtain ⟨a, b⟩ := tri_lay (h t List.mem_cons_self)
    obtain ⟨c, d⟩ := tris_lay fun z hz => h z (List.mem_cons_of_mem _ hz)
    refine ⟨by simp only [List.map_cons, PyData.canLayAll0, a, c, Bool.and_self], ?_⟩
    simp only [List.map_cons, PyData.depthAll]
    omega
theorem tri_shaped {t : Tri} (h : triS t) : SeqAt.shaped (triD t) = true := by
  obtain ⟨a, b⟩ := tri_lay h
  unfold SeqAt.shaped
  rw [a, Bool.true_and]
  exact decide_eq_true (by omega)
theorem tris_shaped {l : List Tri} (h : ∀ t ∈ l, triS t) : SeqAt.shaped (.tuple (l.map triD)) = true := by
  obtain ⟨a, b⟩ := tris_lay h
  unfold SeqAt.shaped
  simp only [PyData.canLay0, PyData.depth, a, Bool.true_and]
  exact decide_eq_true (by omega)
theorem tri_eqv (a b : Tri) : PyData.eqv (triD a) (triD b) = decide (a = b) := by
  have e : ∀ x y : Str, PyData.eqv (.str x) (.str y) = decide (x = y) := fun x y => by
    by_cases h : x = y <;> simp [PyData.eqv, h]
  unfold triD
  simp only [PyData.eqv, PyData.eqvAll]
  obtain ⟨a1, a2, a3⟩ := a
  obtain ⟨b1, b2, b3⟩ := b
  by_cases h1 : a1 = b1 <;> by_cases h2 : a2 = b2 <;> by_cases h3 : a3 = b3 <;> simp [h1, h2, h3]
theorem tris_eqv : ∀ l m : List Tri, PyData.eqvAll (l.map triD) (m.map triD) = decide (l = m)
  | [], [] => by simp [PyData.eqvAll]
  | [], _ :: _ => by simp [PyData.eqvAll]
  | _ :: _, [] => by simp [PyData.eqvAll]
  | a :: l, b :: m => by
    simp only [List.map_cons, PyData.eqvAll, tri_eqv, tris_eqv l m]
    by_cases h1 : a = b <;> by_cases h2 : l = m <;> simp [h1, h2]
theorem tris_any (l : List Tri) (t : Tri) : ((l.map triD).any fun z => PyData.eqv z (triD t)) = decide (t ∈ l) := by
  induction l with
  | nil => simp
  | cons a l ih =>
    rw [List.map_cons, List.any_cons, ih, tri_eqv]
    by_cases h : a = t
    · simp [h]
    · have h' : ¬ t = a := fun z => h z.symm
      by_cases h2 : t ∈ l <;> simp [h, h', h2]
section
variable {P : Program} {w : World} {K : PySem.W.Frag} {mg : Str → Option Value} {base : Heap} {R : TRows K mg} {F : TFill R}
theorem tri_dp {H : Hp} {a : Addr} {t : Tri} (h : TriAt K H a t) : Dp K H (.ref a) (triD t) := .tup h (.cons (.str _) (.cons (.str _) (.cons (.str _) .nil)))
theorem tris_dp {H : Hp} : ∀ {as : List Addr} {ts : List Tri}, TrisIn K H as ts → DpAll K H (as.map V.ref) (ts.map triD)
  | _, _, .nil => .nil
  | _, _, .cons a r => .cons (tri_dp a) (tris_dp r)
def rInTri (K : PySem.W.Frag) : R2 := fun x y H Q => ∃ (a p : Addr) (t : Tri) (as : List Addr) (rs : List Tri), x = .ref a ∧ TriAt K H a t ∧ y = .ref p ∧ SqT K H p (as.map V.ref) ∧ TrisIn K H as rs ∧ triS t ∧ (∀ t ∈ rs, triS t) ∧ Q (.bl (decide (t ∈ rs))) H
theorem op_inTri {X : Cx} (hu : X.A.units + 65 < PySem.cLine) : OpR X (compareOp .In) (rInTri X.K) := by
  intro pins s σ H x y v u Q I rx ry h
  obtain ⟨a, p, t, as, rs, rfl, ha, rfl, hp, hr, ht, hrs, q⟩ := h
  obtain ⟨as1, r1⟩ := Dp.reads I (triD t) (.ref a) v (tri_dp ha) rx
  obtain ⟨bs1, r2⟩ := Dp.reads I (.tuple (rs.map triD)) (.ref p) u (.tup hp (tris_dp hr)) ry
  have se := tris_shaped hrs
  have sd := tri_shaped ht
  have z := SeqAt.depth_of_shaped sd
  rw [← tris_any] at q
  exact SeqAt.in_tuple_reads r2 r1 (SeqAt.canLay_of_shaped se) (SeqAt.canLay_of_shaped sd) (by have := Nat.min_le_right (PyData.depthAll (rs.map triD)) (triD t).depth; omega) ⟨.bl _, H, I, rfl, q⟩
theorem roomTr {k : Nat} {A : Around} (r : Room k A) : A.units + 65 < PySem.cLine := by have := r.un; omega
theorem lv_r {u : V} : (putF "rights" u ([] : List (Str × V))).lookup ("rights" : Str) = some u := by rw [lookup_putF, if_pos rfl]
/-- what leaves are compared by -/
structure TLvE (Y : TLv F) : Type where
  cA : PySem.W.findIn K (.ref Y.C) "__class__" = some (some (.builtin "object.__class__"))
  cM : PySem.W.mroIn K Y.C (.type "object") = some true
  kC : PySem.W.kitOne K (.ref Y.C) (.ref Y.C) = some true
  eq : TMeth K Y.C "__eq__" "Leaves.__eq__" sLEq ["self", "other"]
variable {Y : TLv F}
theorem lv_ty (Z : TLvE Y) {H : Hp} {x : Addr} {rs : List Tri} (h : LvAt Y H x rs) : TyX K H (.ref x) (.ref Y.C) := by
  obtain ⟨dx, p, as, h1, _⟩ := h
  exact .base (.ins h1 Y.cl Z.cA F.cN F.cT Z.cM)
def spLEq (Y : TLv F) : Sp := fun vs H Q _ => ∃ (x y : Addr) (rs qs : List Tri), vs = [.ref x, .ref y] ∧ LvAt Y H x rs ∧ LvAt Y H y qs ∧ Q (.bl (decide (rs = qs))) H
theorem scLEq : FnScope ["self", "other"] ["self", "other"] (defScope sLEq) := ⟨rfl, rfl, rfl, by decide +kernel, rfl, by decide +kernel, by decide +kernel⟩
theorem ok_lEq (Z : TLvE Y) : FnOk P w K mg base CX0 2 Z.eq.f Z.eq.fd ["self", "other"] (spLEq Y) := by
  refine Z.eq.F.ok scLEq (fun vs H Q E h => ?_) (fun cdv A outer s H vs Q E hr h => ?_)
  · obtain ⟨x, y, rs, qs, rfl, _⟩ := h
    rfl
  · obtain ⟨x, y, rs, qs, rfl, hx, hy, q⟩ := h
    refine ⟨_, (pss_one (ps_ret (pe_and (pe_callB call_isi (by rfl) R.N.mIsi (by decide +kernel) (pa_cons (pv 1) (pa_cons (pe_glob (v := .ref Y.C) (by rfl) Y.mC rfl) pa_nil))) (pe_one (pe_cmpR (op_eqD (roomLv hr)) (pe_fld (pv 0) rfl) (pe_fld (pv 1) rfl) (nomark _)))))), ?_⟩
    refine ⟨_, rfl, .ref y, .ref Y.C, _, _, true, rfl, .own _, lv_ty Z hy, Z.kC, _, rfl, iteT ?_⟩
    obtain ⟨dx, p, as, h1, h2, h3, _, h5, _⟩ := hx
    obtain ⟨dy, p', bs, g1, g2, g3, _, g5, _⟩ := hy
    refine ⟨_, rfl, x, Y.C, dx, _, .ref p, rfl, h1, Y.cl, Y.noR, lv_r, _, rfl, y, Y.C, dy, _, .ref p', rfl, g1, Y.cl, Y.noR, lv_r, ?_⟩
    refine ⟨.tuple (rs.map triD), .tuple (qs.map triD), .tup h2 (tris_dp h3), .tup g2 (tris_dp g3), tris_shaped fun t ht => tri_strOk (h5 t ht), tris_shaped fun t ht => tri_strOk (g5 t ht), ?_⟩
    have e : PyData.eqv (.tuple (rs.map triD)) (.tuple (qs.map triD)) = decide (rs = qs) := by
      rw [← tris_eqv]
      simp only [PyData.eqv]
    rw [e]
    exact q
end
end Pn

namespace Pn
open PySem PySem.Spec PyProof.Rows L2 TL
abbrev sLets : Stmt := inClass (top 23) 3
abbrev sNeedL : Stmt := top 22
abbrev sLOr : Stmt := inClass (top 23) 5
abbrev sLAnd : Stmt := inClass (top 23) 6
/-! ### leaves made, put together; a row let in -/
section
variable {P : Program} {w : World} {K : PySem.W.Frag} {mg : Str → Option Value} {base : Heap} {R : TRows K mg} {F : TFill R} {Y : TLv F}
structure TLvJ (Z : TLvE Y) : Type where
  needL : At K mg "need_leaves" sNeedL ["value"]
  or : TMeth K Y.C "__or__" "Leaves.__or__" sLOr ["self", "other"]
  and : TMeth K Y.C "__and__" "Leaves.__and__" sLAnd ["self", "other"]
variable {Z : TLvE Y}
def spNeedL (Y : TLv F) : Sp := fun vs H Q _ => ∃ (x : Addr) (rs : List Tri), vs = [.ref x] ∧ LvAt Y H x rs ∧ Q .non H
theorem scNeedL : FnScope ["value"] ["value"] (defScope sNeedL) := ⟨rfl, rfl, rfl, by decide +kernel, rfl, by decide +kernel, by decide +kernel⟩
theorem ok_needL (J : TLvJ Z) : FnOk P w K mg base CX0 1 J.needL.f J.needL.fd ["value"] (spNeedL Y) := by
  refine J.needL.F.ok scNeedL (fun vs H Q E h => ?_) (fun cdv A outer s H vs Q E hr h => ?_)
  · obtain ⟨x, rs, rfl, _⟩ := h
    rfl
  · obtain ⟨x, rs, rfl, hL, q⟩ := h
    refine ⟨_, (pss_one (ps_if (pt_not (pt_val (pe_callB call_isi (by rfl) R.N.mIsi (by decide +kernel) (pa_cons (pv 0) (pa_cons (pe_glob (v := .ref Y.C) (by rfl) Y.mC rfl) pa_nil))))) pss_never pss_nil)), ?_⟩
    exact ⟨_, rfl, .ref x, .ref Y.C, _, _, true, rfl, .own _, lv_ty Z hL, Z.kC, _, rfl, iteF q⟩
theorem lv_made (Y : TLv F) {H : Hp} {v : V} {ts : List Tri} (hS : TriSeq K H v ts) (hok : ∀ t ∈ ts, triB t = true) (hf : FewT ts) {RR : Addr → Hp → Prop} (k : ∀ x H', Same H H' → LvAt Y H' x (rightsM ts) → RR x H') :
    ∀ x dx, H x = none → H dx = none → dx ≠ x → spLInit Y [.ref x, v] (upd (upd H dx (.own x)) x (.ins Y.C dx [])) (fun u H2 => u = .non ∧ RR x H2) E0 := fun x dx hx hdx ne => by
  have s1 : Same H (upd (upd H dx (.own x)) x (.ins Y.C dx [])) := ins_same2 hx hdx
  refine ⟨x, dx, v, ts, rfl, upd_same, hS.same fun b o e => hid_get (s1 _ _ e) (ne_of_none e hx), hok, hf, fun H' kp hL => ⟨rfl, k x H' (kpi_same2 hx hdx kp) hL⟩⟩
theorem tris_kept {H : Hp} (p : Tri → Bool) : ∀ {as : List Addr} {rs : List Tri}, TrisIn K H as rs → ∃ bs : List Addr, TrisIn K H bs (rs.filter p) ∧ bs.map V.ref = (as.zip rs).filterMap fun z => if p z.2 = true then some (V.ref z.1) else none
  | _, _, .nil => ⟨[], .nil, rfl⟩
  | a :: as, t :: rs, .cons h r => by
    obtain ⟨bs, h1, h2⟩ := tris_kept p r
    by_cases hp : p t = true
    · refine ⟨a :: bs, ?_, ?_⟩
      · rw [List.filter_cons_of_pos hp]
        exact .cons h h1
      · rw [List.zip_cons_cons, List.filterMap_cons, if_pos hp, List.map_cons, h2]
    · refine ⟨bs, ?_, ?_⟩
      · rw [List.filter_cons_of_neg hp]
        exact h1
      · rw [List.zip_cons_cons, List.filterMap_cons, if_neg hp]
        exact h2
def spLOr (Y : TLv F) : Sp := fun vs H Q _ => ∃ (x y : Addr) (rs qs : List Tri), vs = [.ref x, .ref y] ∧ LvAt Y H x rs ∧ LvAt Y H y qs ∧ FewT (rs ++ qs) ∧ ∀ (z : Addr) (H' : Hp), Same H H' → LvAt Y H' z (rightsM (rs ++ qs)) → Q (.ref z) H'
theorem scLOr : FnScope ["self", "other"] ["self", "other"] (defScope sLOr) := ⟨rfl, rfl, rfl, by decide +kernel, rfl, by decide +kernel, by decide +kernel⟩
theorem ok_lOr (J : TLvJ Z) : FnOk P w K mg base CX0 6 J.or.f J.or.fd ["self", "other"] (spLOr Y) := by
  refine J.or.F.ok scLOr (fun vs H Q E h => ?_) (fun cdv A outer s H vs Q E hr h => ?_)
  · obtain ⟨x, y, rs, qs, rfl, _⟩ := h
    rfl
  · obtain ⟨x, y, rs, qs, rfl, hx, hy, hf, q⟩ := h
    refine ⟨_, (pss_cons (ps_expr (pe_call (ok_needL J) (hr.mono (by decide)) rfl J.needL.m J.needL.F.kp J.needL.b .nil pass0 (pa_cons (pv 1) pa_nil)))
(pss_one (ps_ret (pe_make Y.M (ok_lInit Y) (hr.mono (by decide)) rfl Y.mC Y.bI .nil pass0 (pa_cons (pe_lst (StX.pa_star (pe_fld (pv 0) rfl) (StX.pa_star (pe_fld (pv 1) rfl) pa_nil))) pa_nil))))), ?_⟩
    refine ⟨_, rfl, y, qs, rfl, hy, ?_⟩
    obtain ⟨dx, p, as, h1, h2, h3, _, h5, _⟩ := hx
    obtain ⟨dy, p', bs, g1, g2, g3, _, g5, _⟩ := hy
    have l1 := paired_len h3
    have l2 := paired_len g3
    have h100 := hf.1
    rw [List.length_append] at h100
    refine ⟨_, rfl, x, Y.C, dx, _, .ref p, rfl, h1, Y.cl, Y.noR, lv_r, p, _, rfl, .inl h2, _, rfl, y, Y.C, dy, _, .ref p', rfl, g1, Y.cl, Y.noR, lv_r, p', _, rfl, .inl g2, ?_⟩
    refine ⟨by rw [List.append_nil, List.length_append, List.length_map, List.length_map, l1, l2]; exact Nat.le_trans h100 (by decide), fun l hln => ?_⟩
    rw [List.append_nil]
    have s1 := Same.new (o := .lst (as.map V.ref ++ bs.map V.ref)) hln
    refine lv_made Y (ts := rs ++ qs) ⟨l, as ++ bs, rfl, .inl (SqL.of (by rw [upd_same, List.map_append])), paired_app (h3.same s1) (g3.same s1)⟩ (fun t ht => ?_) (hf) fun z H' s' hz => q z H' (s1.trans s') hz
    rcases List.mem_append.mp ht with ht | ht
    · exact h5 t ht
    · exact g5 t ht
def spLAnd (Y : TLv F) : Sp := fun vs H Q _ => ∃ (x y : Addr) (rs qs : List Tri), vs = [.ref x, .ref y] ∧ LvAt Y H x rs ∧ LvAt Y H y qs ∧ FewT rs ∧ ∀ (z : Addr) (H' : Hp), Same H H' → LvAt Y H' z (rightsM (rs.filter fun t => decide (t ∈ qs))) → Q (.ref z) H'
theorem scLAnd : FnScope ["self", "other", "one"] ["self", "other"] (defScope sLAnd) := ⟨rfl, rfl, rfl, by decide +kernel, rfl, by decide +kernel, by decide +kernel⟩
theorem ok_lAnd (J : TLvJ Z) : FnOk P w K mg base CX0 6 J.and.f J.and.fd ["self", "other"] (spLAnd Y) := by
  refine J.and.F.ok scLAnd (fun vs H Q E h => ?_) (fun cdv A outer s H vs Q E hr h => ?_)
  · obtain ⟨x, y, rs, qs, rfl, _⟩ := h
    rfl
  · obtain ⟨x, y, rs, qs, rfl, hx, hy, hf, q⟩ := h
    refine ⟨_, (pss_cons (ps_expr (pe_call (ok_needL J) (hr.mono (by decide)) rfl J.needL.m J.needL.F.kp J.needL.b .nil pass0 (pa_cons (pv 1) pa_nil)))
(pss_one (ps_ret (pe_make Y.M (ok_lInit Y) (hr.mono (by decide)) rfl Y.mC Y.bI .nil pass0 (pa_cons (pe_lc (own := [("one", 2)]) (g := gName 2) (by rfl) scLAnd.nd (pi_tup (pe_fld (pv 0) rfl))
 (blkOk_by (N := ["self", "other", "one"]) (sc := defScope sLAnd) (by decide +kernel)) (fun _ _ _ _ _ => (pg_name (i := 2) scLAnd.nd rfl (Or.inl rfl))) (fun _ _ _ _ _ => pts_one (pt_cmpR (show OpR _ (compareOp .In) (rInTri K) from op_inTri (roomTr hr)) (pv 2) (show PE _ _ (tFld K (tVar 1) "rights") from pe_fld (pv 1) rfl) rfl)) (fun _ _ _ _ _ => (pv 2))) pa_nil))))), ?_⟩
    refine ⟨_, rfl, y, qs, rfl, hy, ?_⟩
    obtain ⟨dx, p, as, h1, h2, h3, _, h5, h6⟩ := hx
    obtain ⟨dy, p', bs, g1, g2, g3, _, g5, _⟩ := hy
    have l1 := paired_len h3
    have lz : (as.zip rs).length = as.length := by rw [List.length_zip, l1, Nat.min_self]
    unfold tRet tMake tCons
    dsimp only
    refine lcw_tup (K := K) (tl := tFld K (tVar 0) "rights") (p := p) (xs := as.map V.ref) (fun R r => ⟨_, rfl, x, Y.C, dx, _, .ref p, rfl, h1, Y.cl, Y.noR, lv_r, r⟩) h2 (by rw [List.length_map, l1]; omega) (out := fun i => ((as.zip rs)[i]?).bind fun z => if decide (z.2 ∈ qs) = true then some (V.ref z.1) else none) (fun i v Hi S YY hv si hS hY => ?_) (fun D H2 hD s2 hD2 => ?_)
    · rw [List.getElem?_map] at hv
      obtain ⟨a, ha, rfl⟩ := Option.map_eq_some_iff.mp hv
      obtain ⟨t, ht, hat⟩ := paired_at h3 ha
      have hz : (as.zip rs)[i]? = some (a, t) := List.getElem?_zip_eq_some.mpr ⟨ha, ht⟩
      have hb : ((as.zip rs)[i]?).bind (fun z => if decide (z.2 ∈ qs) = true then some (V.ref z.1) else none) = if decide (t ∈ qs) = true then some (V.ref a) else none := by rw [hz]; rfl
      refine ⟨rfl, _, rfl, _, rfl, y, Y.C, dy, _, .ref p', rfl, si _ _ g1, Y.cl, Y.noR, lv_r, a, p', t, bs, qs, rfl, Same.sqt si hat, rfl, Same.sqt si g2, g3.same si, tri_strOk (h5 t (List.mem_of_getElem? ht)), fun t ht => tri_strOk (g5 t ht), _, rfl, ?_⟩
      by_cases hm : t ∈ qs
      · refine iteTD (decide_eq_true hm) ⟨_, rfl, hY _ (hb.trans (if_pos (decide_eq_true hm))) _ (Same.refl _)⟩
      · refine iteFD (decide_eq_false hm) (hS (hb.trans (if_neg (by simp [hm]))) _ (Same.refl _))
    · obtain ⟨cs, c1, c2⟩ := tris_kept (fun t => decide (t ∈ qs)) h3
      have hD3 : H2 D = some (.lst (cs.map V.ref)) := by rw [hD2, List.length_map, ← lz, out_filter, c2]
      refine lv_made Y (ts := rs.filter fun t => decide (t ∈ qs)) ⟨D, cs, rfl, .inl (SqL.of hD3), TrisIn.same c1 s2⟩ (fun t ht => h5 t (List.mem_filter.mp ht).1) ?_ fun z H' s' hz => q z H' (s2.trans s') hz
      exact hf.sub (fun t ht => (List.mem_filter.mp ht).1) (Nat.le_trans (List.length_filter_le _ _) hf.1)
structure TLvL (Y : TLv F) : Type where
  lets : TMeth K Y.C "lets" "Leaves.lets" sLets ["self", "name", "row"]
/-- the word that a row needs -/
def needW : RowD → Str
  | .set _ _ => "any"
  | _ => "on"
def spLets (Y : TLv F) : Sp := fun vs H Q _ => ∃ (x a : Addr) (z c : Str) (r : RowD) (rs : List Tri), vs = [.ref x, .str z, .ref a] ∧ LvAt Y H x rs ∧ RowAt R H a r ∧ cntOf r = some c ∧ PyData.strOk z = true ∧ PyData.strOk c = true ∧ ∀ H', Same H H' → Q (.bl (decide ((z, c, needW r) ∈ rs))) H'
theorem scLets : FnScope ["self", "name", "row", "word"] ["self", "name", "row"] (defScope sLets) := ⟨rfl, rfl, rfl, by decide +kernel, rfl, by decide +kernel, by decide +kernel⟩
theorem ok_lets (W : TLvL Y) : FnOk P w K mg base CX0 1 W.lets.f W.lets.fd ["self", "name", "row"] (spLets Y) := by
  refine W.lets.F.ok scLets (fun vs H Q E h => ?_) (fun cdv A outer s H vs Q E hr h => ?_)
  · obtain ⟨x, a, z, c, r, rs, rfl, _⟩ := h
    rfl
  · obtain ⟨x, a, z, c, r, rs, rfl, hx, ha, hc, oz, oc, q⟩ := h
    refine ⟨_, (pss_cons (ps_set (i := 3) scLets.nd rfl (Or.inl rfl) (pe_ifExp (pt_cmpR op_eq (pe_fld (pv 2) rfl) pe_str (nomark _)) pe_str pe_str))
(pss_one (ps_ret (pe_cmpR (show OpR _ (compareOp .In) (rInTri K) from op_inTri (roomTr hr)) (pe_tup (pa_cons (pv 1) (pa_cons (pe_fld (pv 2) rfl) (pa_cons (pv 3) pa_nil)))) (pe_fld (pv 0) rfl) rfl)))), ?_⟩
    obtain ⟨d1, f1, w1, w2, w3, w4⟩ := at_word R ha
    obtain ⟨d2, f2, k1, k2, k3, k4⟩ := at_counter R ha hc
    refine ⟨_, rfl, a, _, d1, f1, _, rfl, w1, w2, w3, w4, rfl, _, rfl, ?_⟩
    have ew : decide (V.str (rowWord r) = V.str "set") = decide (needW r = "any") := by
      cases r with
      | set _ _ => exact (by decide +kernel : decide (V.str "set" = V.str "set") = decide (("any" : Str) = "any"))
      | skip _ _ => exact (by decide +kernel : decide (V.str "skip" = V.str "set") = decide (("on" : Str) = "any"))
      | note _ _ => exact (by decide +kernel : decide (V.str "note" = V.str "set") = decide (("on" : Str) = "any"))
      | keep _ => exact (by decide +kernel : decide (V.str "keep" = V.str "set") = decide (("on" : Str) = "any"))
      | back _ => exact (by decide +kernel : decide (V.str "back" = V.str "set") = decide (("on" : Str) = "any"))
      | ref _ => cases hc
      | put _ => cases hc
      | opn _ => cases hc
    have ow : PyData.strOk (needW r) = true := by cases r <;> first | exact (by decide +kernel : PyData.strOk "on" = true) | exact (by decide +kernel : PyData.strOk "any" = true)
    obtain ⟨dx, p, as, h1, h2, h3, _, h5, _⟩ := hx
    have two : needW r = "any" ∨ needW r = "on" := by cases r <;> first | exact .inl rfl | exact .inr rfl
    rcases two with hw | hw
    · refine iteTD (by rw [ew]; exact decide_eq_true hw) ?_
      refine ⟨_, rfl, _, rfl, a, _, d2, f2, _, rfl, k1, k2, k3, k4, _, rfl, (by show 3 ≤ sizeLine; decide), fun t ht => ?_⟩
      have s1 := Same.new (o := .tup [.str z, .str c, .str "any"]) ht
      refine ⟨_, rfl, x, Y.C, dx, _, .ref p, rfl, s1 _ _ h1, Y.cl, Y.noR, lv_r, t, p, (z, c, "any"), as, rs, rfl, SqT.of upd_same, rfl, Same.sqt s1 h2, h3.same s1, ⟨oz, oc, (by decide +kernel : PyData.strOk "any" = true)⟩, fun t ht => tri_strOk (h5 t ht), ?_⟩
      have q' := q _ s1
      rw [hw] at q'
      exact q'
    · refine iteFD (by rw [ew, hw]; decide +kernel) ?_
      refine ⟨_, rfl, _, rfl, a, _, d2, f2, _, rfl, k1, k2, k3, k4, _, rfl, (by show 3 ≤ sizeLine; decide), fun t ht => ?_⟩
      have s1 := Same.new (o := .tup [.str z, .str c, .str "on"]) ht
      refine ⟨_, rfl, x, Y.C, dx, _, .ref p, rfl, s1 _ _ h1, Y.cl, Y.noR, lv_r, t, p, (z, c, "on"), as, rs, rfl, SqT.of upd_same, rfl, Same.sqt s1 h2, h3.same s1, ⟨oz, oc, (by decide +kernel : PyData.strOk "on" = true)⟩, fun t ht => tri_strOk (h5 t ht), ?_⟩
      have q' := q _ s1
      rw [hw] at q'
      exact q'
end
end Pn

namespace Pn
open PySem PySem.Spec PyProof.Rows L2 TL
abbrev sAllow : Stmt := inClass (top 23) 4
/-! ### whether leaves allow a filling -/
def cntS (r : RowD) : Str := (cntOf r).getD ""
def flatF (ds : List FD) : List (Str × RowD) := ds.flatMap fun d => d.2.map fun r => (d.1, r)
def knownM (cs : List (Str × Str)) (bk : List PartD) (z : Str × RowD) : Bool := decide (z.1 ∈ opens (unrolled bk)) && decide (cntS z.2 ∈ cs.map (·.1))
def letsM (rs : List Tri) (z : Str × RowD) : Bool := decide ((z.1, cntS z.2, needW z.2) ∈ rs)
def allowM (cs : List (Str × Str)) (bk : List PartD) (rs : List Tri) (ds : List FD) : Bool := (flatF ds).all (knownM cs bk) && (flatF ds).all (letsM rs)
section
variable {K : PySem.W.Frag} {tl : TE} {g : TG} {tt : TT} {te : TE} {vs : List Nat} {σ : L2.St} {H : Hp} {Q : VK} {p : Addr} {xs : List V}
/-- [e for x in xs for y in .. if ..], what is walked within told by what it must be -/
theorem lc2_walkP {J : It} {n : Nat} {G : Hp → Prop} (wk : Walk J n G (YAt xs)) (hn : n = xs.length) {k k1 : Nat} {te1 : TE} {tt1 : TT} {vs1 : List Nat} {D : Addr} (Pv : Nat → Hp → Prop) (P0 : Pv 0 (upd H D (.lst []))) (keep : ∀ i Hi, Pv i Hi → G Hi)
    (hw : ∀ x, wipe ((wipe σ vs).set k (some x)) vs = wipe σ vs)
    (inner : ∀ (i : Nat) (x : V) (Hi : Hp), xs[i]? = some x → Pv i Hi → ∀ R : VK, (∀ (a : Addr) (ys : List V) (Pj : Nat → Hp → Prop), Pj 0 Hi → (∀ j Hj, Pj j Hj → SqT K Hj a ys) → (∀ Hj, Pj ys.length Hj → Pv (i + 1) Hj) → (
      ∀ (j : Nat) (y : V) (Hj : Hp), ys[j]? = some y → Pj j Hj → wipe ((wipe ((wipe σ vs).set k (some x)) vs1).set k1 (some y)) vs1 = wipe ((wipe σ vs).set k (some x)) vs1 ∧
        tt1 ((wipe ((wipe σ vs).set k (some x)) vs1).set k1 (some y)) Hj fun b H6 => if b = true then te ((wipe ((wipe σ vs).set k (some x)) vs1).set k1 (some y)) H6 fun z H7 => ∃ acc, H7 D = some (.lst acc) ∧ acc.length < sizeLine ∧ Pj (j + 1) (upd H7 D (.lst (acc ++ [z]))) else Pj (j + 1) H6) → R (.ref a) Hi) → te1 ((wipe σ vs).set k (some x)) Hi R)
    (fin : ∀ Hi, Pv n Hi → Q (.ref D) Hi) :
    ∃ W : Nat → Nat → Hp → Prop, (∃ m, W 0 m (upd H D (.lst []))) ∧ ∀ i m H, W i m H →
      (J.stop i H ∧ Q (.ref D) H) ∨ (J.go i H ∧ ∃ Nx : Hp → Prop, (∀ H', Nx H' → ∃ m', m' < m ∧ W (i + 1) m' H') ∧ ∀ x H', J.yld i H x H' → gName k x (wipe σ vs) H' fun σ2 H2 => wipe σ2 vs = wipe σ vs ∧ tYes σ2 H2 fun b H3 =>
        if b = true then iTup K te1 σ2 H3 fun J1 H4 => ∃ W1 : Nat → Nat → Hp → Prop, (∃ m, W1 0 m H4) ∧ ∀ j k H, W1 j k H →
          (J1.stop j H ∧ Nx H) ∨ (J1.go j H ∧ ∃ Nx1 : Hp → Prop, (∀ H', Nx1 H' → ∃ k', k' < k ∧ W1 (j + 1) k' H') ∧ ∀ x H', J1.yld j H x H' → gName k1 x (wipe σ2 vs1) H' fun σ3 H5 => wipe σ3 vs1 = wipe σ2 vs1 ∧ tt1 σ3 H5 fun b H6 =>
            if b = true then te σ3 H6 fun y H7 => ∃ acc, H7 D = some (.lst acc) ∧ acc.length < sizeLine ∧ Nx1 (upd H7 D (.lst (acc ++ [y]))) else Nx1 H6)
        else Nx H3) := by
  refine ⟨fun i m Hi => m = n - i ∧ i ≤ n ∧ Pv i Hi, ⟨n, by simp, Nat.zero_le _, P0⟩, ?_⟩
  rintro i m Hi ⟨rfl, hi, pv⟩
  by_cases lt : i < n
  · refine .inr ⟨wk.goes i Hi lt (keep i Hi pv), Pv (i + 1), fun H' p' => ⟨n - (i + 1), by omega, rfl, lt, p'⟩, fun x H' y => ?_⟩
    obtain ⟨rfl, hx⟩ := wk.yields i Hi x H' lt (keep i Hi pv) y
    refine ⟨hw x, ?_⟩
    unfold tYes
    refine iteT ?_
    unfold iTup
    refine inner i x _ hx pv _ fun a ys Pj p0 h2 h3 h4 => ⟨a, rfl, ⟨ys, h2 0 _ p0⟩, fun j m Hj => m = ys.length - j ∧ j ≤ ys.length ∧ Pj j Hj, ⟨ys.length, by simp, Nat.zero_le _, p0⟩, ?_⟩
    rintro j m Hj ⟨rfl, hj, pj⟩
    have wt : Walk (Itt K a) ys.length (fun H => SqT K H a ys) (YAt ys) := walk_tup
    by_cases lj : j < ys.length
    · refine .inr ⟨wt.goes j Hj lj (h2 j Hj pj), Pj (j + 1), fun H' p' => ⟨ys.length - (j + 1), by omega, rfl, lj, p'⟩, fun y H' yy => ?_⟩
      obtain ⟨rfl, hy⟩ := wt.yields j Hj y H' lj (h2 j Hj pj) yy
      exact h4 j y _ hy pj
    · obtain rfl : j = ys.length := by omega
      exact .inl ⟨wt.stops Hj (h2 _ Hj pj), h3 Hj pj⟩
  · obtain rfl : i = n := by omega
    exact .inl ⟨wk.stops Hi (keep _ Hi pv), fin Hi pv⟩
end
section
variable {P : Program} {w : World} {K : PySem.W.Frag} {mg : Str → Option Value} {base : Heap} {R : TRows K mg} {T : TPart R} {B : TBk T} {F : TFill R} {Y : TLv F} {FM : TFilM F}
/-- a pair of a name and a row, as it stands -/
def PairOk (R : TRows K mg) (H : Hp) (z : Addr × Str × Addr × RowD) : Prop := SqT K H z.1 [.str z.2.1, .ref z.2.2.1] ∧ RowAt R H z.2.2.1 z.2.2.2
theorem PairOk.same {H H' : Hp} {z : Addr × Str × Addr × RowD} (h : PairOk R H z) (s : Same H H') : PairOk R H' z := ⟨Same.sqt s h.1, h.2.same s⟩
theorem PairOk.lst {H : Hp} {L : Addr} {xs : List V} {o : List V} {z : Addr × Str × Addr × RowD} (hL : H L = some (.lst xs)) (h : PairOk R H z) : PairOk R (upd H L (.lst o)) z := by
  refine ⟨sqt_lst hL h.1, ?_⟩
  obtain ⟨dy, e⟩ := h.2
  obtain ⟨gs, eg⟩ := insRow_ins R dy z.2.2.2
  exact ⟨dy, by rw [upd_ne (fun z => by rw [z, hL, eg] at e; cases e)]; exact e⟩
def partF (ds : List FD) (i j : Nat) : List (Str × RowD) := flatF (ds.take i) ++ ((ds[i]?).map fun d => (d.2.take j).map fun r => (d.1, r)).getD []
theorem partF_zero (ds : List FD) (i : Nat) : partF ds i 0 = flatF (ds.take i) := by
  unfold partF
  cases ds[i]? <;> simp
theorem partF_next {ds : List FD} {i j : Nat} {d : FD} {r : RowD} (h : ds[i]? = some d) (hr : d.2[j]? = some r) : partF ds i (j + 1) = partF ds i j ++ [(d.1, r)] := by
  unfold partF
  rw [h]
  show flatF (ds.take i) ++ (d.2.take (j + 1)).map (fun r => (d.1, r)) = flatF (ds.take i) ++ (d.2.take j).map (fun r => (d.1, r)) ++ _
  rw [List.take_add_one, hr, List.map_append, List.append_assoc]
  rfl
theorem partF_full {ds : List FD} {i : Nat} {d : FD} (h : ds[i]? = some d) : partF ds i d.2.length = flatF (ds.take (i + 1)) := by
  unfold partF
  rw [h]
  show flatF (ds.take i) ++ (d.2.take d.2.length).map (fun r => (d.1, r)) = _
  rw [List.take_length, List.take_add_one, h]
  unfold flatF
  rw [List.flatMap_append]
  simp
theorem nd_one {ds : List FD} (h : (ds.map (·.1)).Nodup) {a b : FD} (ha : a ∈ ds) (hb : b ∈ ds) (e : a.1 = b.1) : a = b := by
  obtain ⟨i, hi, rfl⟩ := List.getElem_of_mem ha
  obtain ⟨j, hj, rfl⟩ := List.getElem_of_mem hb
  have hi' : i < (ds.map (·.1)).length := by rw [List.length_map]; exact hi
  have hj' : j < (ds.map (·.1)).length := by rw [List.length_map]; exact hj
  have e2 : (ds.map (·.1))[i] = (ds.map (·.1))[j] := by rw [List.getElem_map, List.getElem_map]; exact e
  have e3 : i = j := (List.getElem_inj h).mp e2
  subst e3
  rfl
theorem flat_in {ds : List FD} {z : Str × RowD} (h : z ∈ flatF ds) : ∃ d ∈ ds, z.1 = d.1 ∧ z.2 ∈ d.2 := by
  obtain ⟨d, hd, hz⟩ := List.mem_flatMap.mp h
  obtain ⟨r, hr, rfl⟩ := List.mem_map.mp hz
  exact ⟨d, hd, rfl, hr⟩
theorem fill_cntS {r : RowD} (h : fillB r = true) (v : rowValid r) : cntOf r = some (cntS r) ∧ nameS (cntS r) = true := by
  cases r with
  | skip c n => exact ⟨rfl, v.1⟩
  | set c n => exact ⟨rfl, v.1⟩
  | _ => cases h
structure TLvA (Y : TLv F) : Type where
  allow : TMeth K Y.C "allow" "Leaves.allow" sAllow ["self", "book", "filling"]
def spAllow (B : TBk T) (Y : TLv F) : Sp := fun vs H Q _ => ∃ (x b f : Addr) (rs : List Tri) (cs : List (Str × Str)) (bk : List PartD) (ds : List FD), vs = [.ref x, .ref b, .ref f] ∧ LvAt Y H x rs ∧ BookAt B H b cs bk ∧ FilI F H f ds ∧
  filOk ds ∧ (ds.map (·.1)).Nodup ∧ (∀ d ∈ ds, ∀ r ∈ d.2, fillB r = true) ∧ cs.length ≤ 100 ∧ (∀ c ∈ cs, PyData.strOk c.1 = true) ∧ (unrolled bk).length < 4000 ∧ (uniq (opens (unrolled bk))).length < 64 ∧ ∀ H', Same H H' → Q (.bl (allowM cs bk rs ds)) H'
theorem scAllow : FnScope ["self", "book", "filling", "names", "counters", "pairs", "known", "counter", "upper", "name", "row"] ["self", "book", "filling"] (defScope sAllow) := ⟨rfl, rfl, rfl, by decide +kernel, rfl, by decide +kernel, by decide +kernel⟩
theorem ok_allow (W : TLvL Y) (FE : TFilE FM) (YA : TLvA Y) : FnOk P w K mg base CX0 12 YA.allow.f YA.allow.fd ["self", "book", "filling"] (spAllow B Y) := by
  refine YA.allow.F.ok scAllow (fun vs H Q E h => ?_) (fun cdv A outer s H vs Q E hr h => ?_)
  · obtain ⟨x, b, f, rs, cs, bk, ds, rfl, _⟩ := h
    rfl
  · obtain ⟨x, b, f, rs, cs, bk, ds, rfl, hx, hb, hf, fok, nd, hfb, hcl, hco, hun, hop, q⟩ := h
    refine ⟨_, (pss_cons (ps_set (i := 3) scAllow.nd rfl (Or.inr rfl) (pe_prop (pv 1) B.cl B.names.P (ok_bNames B) (hr.mono (by decide)) B.names.b .nil pass0 rfl))
(pss_cons (ps_set (i := 4) scAllow.nd rfl (Or.inr rfl) (pe_lc (own := [("counter", 7), ("upper", 8)]) (g := gTup K 2 (gCons (gName 7) (gCons (gName 8) gNil))) (tt := tYes) (by rfl) scAllow.nd (pi_tup (pe_fld (pv 1) rfl))
 (blkOk_by (N := ["self", "book", "filling", "names", "counters", "pairs", "known", "counter", "upper", "name", "row"]) (sc := defScope sAllow) (by decide +kernel)) (fun _ _ _ _ _ => pg_tup (by rfl) (pgs_cons (pg_name (i := 7) scAllow.nd rfl (Or.inl rfl)) (pgs_cons (pg_name (i := 8) scAllow.nd rfl (Or.inl rfl)) pgs_nil))) (fun _ _ _ _ _ => pts_nil) (fun _ _ _ _ _ => pv 7)))
(pss_cons (ps_setLc2 (i := 5) (own := [("name", 9), ("row", 10)]) (vs1 := [10]) (g := gName 9) (g1 := gName 10) (tt := tYes) (tt1 := tYes) (by rfl) scAllow.nd rfl rfl (sw_true rfl rfl rfl (by decide +kernel)) (pi_tup (pe_prop (pv 2) F.cl FM.names.P (ok_fNames FM) (hr.mono (by decide)) FM.names.b .nil pass0 rfl))
 (blkOk_by (N := ["self", "book", "filling", "names", "counters", "pairs", "known", "counter", "upper", "name", "row"]) (sc := defScope sAllow) (by decide +kernel)) (by decide) (fun _ _ _ _ _ => pg_name (i := 9) scAllow.nd rfl (Or.inl rfl)) (fun _ _ _ _ _ => pts_nil)
 (fun _ _ _ _ _ => (show PI _ _ _ (iTup K (tMeth F.C "rows_for" (spFRows F) [] E0 (tVar 2) (tCons (tVar 9) tNil))) from pi_tup (pe_meth (pv 2) F.cl ⟨FM.rowsFor.hs, FM.rowsFor.hf, FM.rowsFor.F.kp⟩ (ok_fRows FE) (hr.mono (by decide)) FM.rowsFor.b .nil pass0 (pa_cons (pv 9) pa_nil)))) (fun _ _ _ _ _ => pg_name (i := 10) scAllow.nd rfl (Or.inl rfl))
 (fun _ _ _ _ _ => pts_nil) (fun _ _ _ _ _ => pe_tup (pa_cons (pv 9) (pa_cons (pv 10) pa_nil))))
(pss_cons (ps_set (i := 6) scAllow.nd rfl (Or.inl rfl) (pe_callB (cr_all rfl) (by rfl) R.N.mAll (by decide +kernel) (pa_cons (pe_lc (own := [("name", 9), ("row", 10)]) (g := gTup K 2 (gCons (gName 9) (gCons (gName 10) gNil))) (tt := tYes) (by rfl) scAllow.nd (pi_list (pv 5))
 (blkOk_by (N := ["self", "book", "filling", "names", "counters", "pairs", "known", "counter", "upper", "name", "row"]) (sc := defScope sAllow) (by decide +kernel)) (fun _ _ _ _ _ => pg_tup (by rfl) (pgs_cons (pg_name (i := 9) scAllow.nd rfl (Or.inl rfl)) (pgs_cons (pg_name (i := 10) scAllow.nd rfl (Or.inl rfl)) pgs_nil))) (fun _ _ _ _ _ => pts_nil)
 (fun _ _ _ _ _ => pe_and (pe_cmpR (show OpR _ (compareOp .In) (rIn K false) from op_in_seq) (pv 9) (pv 3) rfl) (pe_one (pe_cmpR (show OpR _ (compareOp .In) (rIn K false) from op_in_seq) (show PE _ _ (tFld K (tVar 10) "counter") from pe_fld (pv 10) rfl) (pv 4) rfl)))) pa_nil)))
(pss_one (ps_ret (pe_and (pv 6) (pe_one (pe_callB (cr_all rfl) (by rfl) R.N.mAll (by decide +kernel) (pa_cons (pe_lc (own := [("name", 9), ("row", 10)]) (g := gTup K 2 (gCons (gName 9) (gCons (gName 10) gNil))) (tt := tYes) (by rfl) scAllow.nd (pi_list (pv 5))
 (blkOk_by (N := ["self", "book", "filling", "names", "counters", "pairs", "known", "counter", "upper", "name", "row"]) (sc := defScope sAllow) (by decide +kernel)) (fun _ _ _ _ _ => pg_tup (by rfl) (pgs_cons (pg_name (i := 9) scAllow.nd rfl (Or.inl rfl)) (pgs_cons (pg_name (i := 10) scAllow.nd rfl (Or.inl rfl)) pgs_nil))) (fun _ _ _ _ _ => pts_nil)
 (fun _ _ _ _ _ => pe_meth (pv 0) Y.cl ⟨W.lets.hs, W.lets.hf, W.lets.F.kp⟩ (ok_lets W) (hr.mono (by decide)) W.lets.b .nil pass0 (pa_cons (pv 9) (pa_cons (pv 10) pa_nil)))) pa_nil)))))))))), ?_⟩
    obtain ⟨dxb, ct, pt, ft, ts, ps, us, hba, ⟨hct, hts⟩, _⟩ := id hb
    have htl := paired_len hts
    -- the names of the book
    refine stepSet (fun v H' => ∃ (tn : Addr) (ys : List Str), v = .ref tn ∧ Same H H' ∧ SqT K H' tn (ys.map V.str) ∧ ys.Perm (uniq (opens (unrolled bk)))) (fun Q' hQ => ?c1) (fun v H1 hC => ?r1)
    case c1 => exact ⟨_, rfl, b, dxb, _, rfl, hba, b, cs, bk, rfl, hb, hun, hop, fun t H' ys s' ht pm _ => hQ _ _ ⟨t, ys, rfl, s', ht, pm⟩⟩
    case r1 =>
    obtain ⟨tn, ys, rfl, s1, htn, pm⟩ := hC
    try dsimp only [List.set]
    -- the counters
    refine stepSet (fun v H' => ∃ D : Addr, v = .ref D ∧ Same H1 H' ∧ H' D = some (.lst ((cs.map (·.1)).map V.str))) (fun Q' hQ => ?c2) (fun v H2 hC => ?r2)
    case c2 =>
      refine lcw_tup (K := K) (tl := tFld K (tVar 1) "counters") (p := ct) (xs := ts.map V.ref) (fun R r => ⟨_, rfl, b, B.C, dxb, _, .ref ct, rfl, s1 _ _ hba, B.cl, B.noC, book_c, r⟩) (Same.sqt s1 hct.sqt) (by rw [List.length_map]; omega) (out := fun i => (cs[i]?).map fun c => V.str c.1) (fun i v Hi S YY hv si hS hY => ?_) (fun D H2 hD s2 hD2 => ?_)
      · rw [List.getElem?_map] at hv
        obtain ⟨t, ht, rfl⟩ := Option.map_eq_some_iff.mp hv
        obtain ⟨c, hc, htc⟩ := paired_at hts ht
        refine ⟨t, _, rfl, Same.sqt (s1.trans si) htc, rfl, _, _, rfl, _, _, rfl, rfl, rfl, _, rfl, ?_⟩
        exact hY _ (by show (cs[i]?).map _ = _; rw [hc]; rfl) _ (Same.refl _)
      · rw [List.length_map, htl, out_map] at hD2
        exact hQ _ _ ⟨D, rfl, s2, by rw [hD2, List.map_map]; rfl⟩
    case r2 =>
    obtain ⟨D, rfl, s2, hD⟩ := hC
    try dsimp only [List.set]
    have s02 := s1.trans s2
    have second : ∀ (σ : L2.St) (Q' : VK), σ = [some (.ref x), some (.ref b), some (.ref f), some (.ref tn), some (.ref D), none, none, none, none, none, none] →
        (∀ (L : Addr) (H3 : Hp) (acc : List (Addr × Str × Addr × RowD)), Same H2 H3 → H3 L = some (.lst (acc.map fun z => V.ref z.1)) → acc.length ≤ 6000 → (∀ z ∈ acc, PairOk R H3 z) → acc.map (fun z => (z.2.1, z.2.2.2)) = flatF ds → Q' (.ref L) H3) →
        tLc2 (iTup K (tProp F.C (spFNames F) [] E0 (tVar 2))) (gName 9) tYes (iTup K (tMeth F.C "rows_for" (spFRows F) [] E0 (tVar 2) (tCons (tVar 9) tNil))) (gName 10) tYes (tTup (tCons (tVar 9) (tCons (tVar 10) tNil))) [9, 10] [10] σ H2 Q' := by
      intro σ Q' hσ hQ
      subst hσ
      have hf2 := hf.same s02
      obtain ⟨dxf, tpf, psf, hfa, htpf, hpsf⟩ := id hf2
      refine ⟨_, rfl, f, dxf, _, rfl, hfa, f, ds, rfl, hf2, fok.1, fun tp H3 s3 htp => ⟨tp, rfl, ⟨_, htp⟩, fun L hL => ?_⟩⟩
      refine lc2_walkP (K := K) (xs := ds.map fun d => V.str d.1) (D := L) (H := H3) (Q := Q') (vs := [9, 10]) (vs1 := [10]) (k := 9) (k1 := 10) (te1 := tMeth F.C "rows_for" (spFRows F) [] E0 (tVar 2) (tCons (tVar 9) tNil)) (tt1 := tYes) (te := tTup (tCons (tVar 9) (tCons (tVar 10) tNil)))
        (σ := [some (.ref x), some (.ref b), some (.ref f), some (.ref tn), some (.ref D), none, none, none, none, none, none]) walk_tup rfl
        (fun i Hi => Same H3 Hi ∧ ∃ acc : List (Addr × Str × Addr × RowD), Hi L = some (.lst (acc.map fun z => V.ref z.1)) ∧ acc.length ≤ 100 * i ∧ (∀ z ∈ acc, PairOk R Hi z) ∧ acc.map (fun z => (z.2.1, z.2.2.2)) = flatF (ds.take i))
        ⟨Same.new hL, [], upd_same, Nat.le_refl _, (fun z h => nomatch h), rfl⟩ (fun i Hi hP => Same.sqt hP.1 htp) (fun _ => rfl) (fun i v Hi hv hP RR hR => ?inn) (fun Hi hP => ?fin)
      case inn =>
        obtain ⟨si, acc0, e0, e1, e2, e3⟩ := hP
        rw [List.getElem?_map] at hv
        obtain ⟨d, hd, rfl⟩ := Option.map_eq_some_iff.mp hv
        have hdm := List.mem_of_getElem? hd
        obtain ⟨nm, dl, _⟩ := fok.2 d hdm
        have s3i := s3.trans si
        refine ⟨_, rfl, f, dxf, _, rfl, s3i _ _ hfa, (by rw [lookup_putF, if_neg (by decide +kernel)]; rfl), _, rfl, f, .str d.1, ds, rfl, hf2.same s3i, fok, .inl ⟨d.1, rfl, (name_ok nm).1, fun d' hd' e q' us' hq' hus' => ?_, fun z => absurd rfl (z d hdm)⟩⟩
        obtain rfl := nd_one nd hd' hdm e
        have ul := paired_len hus'
        refine hR q' (us'.map V.ref) (fun j Hj => SameN Hi Hj ∧ Same H3 Hj ∧ ∃ acc : List (Addr × Str × Addr × RowD), Hj L = some (.lst (acc.map fun z => V.ref z.1)) ∧ acc.length ≤ 100 * i + j ∧ (∀ z ∈ acc, PairOk R Hj z) ∧ acc.map (fun z => (z.2.1, z.2.2.2)) = partF ds i j)
          ⟨SameN.of (Same.refl _), si, acc0, e0, Nat.le_add_right _ _ |> Nat.le_trans e1, e2, by rw [partF_zero]; exact e3⟩ (fun j Hj hP => sqt_sameN hP.1 hq') (fun Hj hP => ?_) (fun j y Hj hy hP => ⟨rfl, ?_⟩)
        · obtain ⟨_, sj, acc, a0, a1, a2, a3⟩ := hP
          rw [List.length_map, ul] at a1 a3
          refine ⟨sj, acc, a0, by omega, a2, by rw [a3]; exact partF_full hd⟩
        · obtain ⟨sn, sj, acc, a0, a1, a2, a3⟩ := hP
          rw [List.getElem?_map] at hy
          obtain ⟨u, hu, rfl⟩ := Option.map_eq_some_iff.mp hy
          obtain ⟨r, hr2, hrow⟩ := paired_at hus' hu
          have hj : j < us'.length := (List.getElem?_eq_some_iff.mp hu).1
          unfold tYes
          refine iteT ?_
          refine ⟨_, rfl, _, rfl, (by show 2 ≤ sizeLine; decide), fun t ht => ?_⟩
          have hLt := Same.new (o := .tup [.str d'.1, .ref u]) ht _ _ a0
          have big : (100001 : Nat) ≤ sizeLine := by decide
          have hi : i < ds.length := (List.getElem?_eq_some_iff.mp hd).1
          have dl60 := fok.1
          refine ⟨_, hLt, by rw [List.length_map]; omega, ?_⟩
          have n2 : SameN (upd Hj t (.tup [.str d'.1, .ref u])) (upd (upd Hj t (.tup [.str d'.1, .ref u])) L (.lst (acc.map (fun z => V.ref z.1) ++ [.ref t]))) := SameN.upd hLt
          refine ⟨(sn.trans (SameN.of (Same.new ht))).trans n2, Same.updn (sj.trans (Same.new ht)) hL, acc ++ [(t, d'.1, u, r)], by rw [upd_same, List.map_append]; rfl, by rw [List.length_append]; exact Nat.succ_le_succ a1, fun z hz => ?_, ?_⟩
          · rcases List.mem_append.mp hz with hz | hz
            · exact ((a2 z hz).same (Same.new ht)).lst hLt
            · rw [List.mem_singleton.mp hz]
              refine PairOk.lst hLt ⟨SqT.of upd_same, ?_⟩
              exact (RowAt.sameN sn hrow).same (Same.new ht)
          · rw [List.map_append, a3, partF_next hd hr2]
            rfl
      case fin =>
        obtain ⟨si, acc, a0, a1, a2, a3⟩ := hP
        have dl60 := fok.1
        rw [List.length_map] at a1 a3
        rw [List.take_length] at a3
        exact hQ L Hi acc (s3.trans si) a0 (by omega) a2 a3
    unfold tSeq tAsg
    refine second _ _ rfl (fun L H3 acc s3 hL hlen hpo hfl => ?_)
    have zf : ∀ z ∈ acc, ∃ d ∈ ds, z.2.1 = d.1 ∧ z.2.2.2 ∈ d.2 := fun z hz => flat_in (z := (z.2.1, z.2.2.2)) (by rw [← hfl]; exact List.mem_map_of_mem (f := fun z : Addr × Str × Addr × RowD => (z.2.1, z.2.2.2)) hz)
    have zc : ∀ z ∈ acc, cntOf z.2.2.2 = some (cntS z.2.2.2) ∧ nameS (cntS z.2.2.2) = true := fun z hz => by
      obtain ⟨d, hd, _, hr⟩ := zf z hz
      exact fill_cntS (hfb d hd _ hr) ((fok.2 d hd).2.2 _ hr)
    unfold tCB tCons
    unfold gName
    dsimp only
    refine lcw_list (K := K) (tl := tVar 5) (p := L) (xs := acc.map fun z => V.ref z.1) (fun R r => ⟨_, rfl, r⟩) (SqL.of hL) (by rw [List.length_map]; omega) (out := fun i => (acc[i]?).map fun z => V.bl (knownM cs bk (z.2.1, z.2.2.2))) (fun i v Hi S YY hv si hS hY => ?_) (fun D4 H4 hD4 s4 hD5 => ?_)
    · clear second
      rw [List.getElem?_map] at hv
      obtain ⟨z, hz, rfl⟩ := Option.map_eq_some_iff.mp hv
      have hzm := List.mem_of_getElem? hz
      obtain ⟨p1, p2⟩ := hpo z hzm
      obtain ⟨c1, c2⟩ := zc z hzm
      have hY' := hY (.bl (knownM cs bk (z.2.1, z.2.2.2))) (by show (acc[i]?).map _ = _; rw [hz]; rfl)
      refine ⟨z.1, _, rfl, Same.sqt si p1, rfl, _, _, rfl, _, _, rfl, rfl, rfl, ?_⟩
      unfold tYes
      refine iteT ?_
      have e1 : inV (.str z.2.1) (ys.map V.str) = decide (z.2.1 ∈ opens (unrolled bk)) := by
        rw [inV_strs]
        exact decide_eq_decide.mpr ((pm.mem_iff).trans (uniq_has _ _))
      refine ⟨_, rfl, _, rfl, tn, _, rfl, .inr (Same.sqt ((s2.trans s3).trans si) htn), rfl, flat_strs, inV (.str z.2.1) (ys.map V.str), rfl, ?_⟩
      rw [e1]
      by_cases h1 : z.2.1 ∈ opens (unrolled bk)
      · refine iteTD (decide_eq_true h1) ?_
        obtain ⟨d2, f2, k1, k2, k3, k4⟩ := at_counter R (p2.same si) c1
        refine ⟨_, rfl, z.2.2.1, _, d2, f2, _, rfl, k1, k2, k3, k4, _, rfl, D, _, rfl, .inl (SqL.of (si _ _ (s3 _ _ hD))), rfl, flat_strs, ?_⟩
        have e2 : inV (.str (cntS z.2.2.2)) ((cs.map (·.1)).map V.str) = knownM cs bk (z.2.1, z.2.2.2) := by
          rw [inV_strs]
          show _ = (decide (z.2.1 ∈ opens (unrolled bk)) && decide (cntS z.2.2.2 ∈ cs.map (·.1)))
          rw [decide_eq_true h1, Bool.true_and]
        show YY (.bl (inV (.str (cntS z.2.2.2)) ((cs.map (·.1)).map V.str))) Hi
        rw [e2]
        exact hY' _ (Same.refl _)
      · refine iteFD (decide_eq_false h1) ?_
        have e2 : knownM cs bk (z.2.1, z.2.2.2) = false := by
          show (decide (z.2.1 ∈ opens (unrolled bk)) && decide (cntS z.2.2.2 ∈ cs.map (·.1))) = false
          rw [decide_eq_false h1, Bool.false_and]
        rw [e2] at hY'
        exact hY' _ (Same.refl _)
    rw [List.length_map, out_map] at hD5
    have all_ : ∀ g : Str × RowD → Bool, ((acc.map fun z => g (z.2.1, z.2.2.2)).all id) = (flatF ds).all g := fun g => by
      rw [← hfl, List.all_map, List.all_map]
      rfl
    refine ⟨D4, acc.map fun z => knownM cs bk (z.2.1, z.2.2.2), rfl, SqL.of (by rw [hD5, List.map_map]; rfl), ?_⟩
    rw [all_ (knownM cs bk)]
    refine ⟨_, rfl, (flatF ds).all (knownM cs bk), rfl, ?_⟩
    have s04 := (s02.trans s3).trans s4
    cases hk : (flatF ds).all (knownM cs bk) with
    | false =>
      refine iteFB rfl ?_
      have q' := q _ s04
      unfold allowM at q'
      rw [hk, Bool.false_and] at q'
      exact q'
    | true =>
      refine iteTB rfl ?_
      have hx4 := hx.same s04
      obtain ⟨dx, p, as, h1, _⟩ := id hx4
      refine lcw_list (K := K) (tl := tVar 5) (p := L) (xs := acc.map fun z => V.ref z.1) (fun R r => ⟨_, rfl, r⟩) (SqL.of (s4 _ _ hL)) (by rw [List.length_map]; omega) (out := fun i => (acc[i]?).map fun z => V.bl (letsM rs (z.2.1, z.2.2.2))) (fun i v Hi S YY hv si hS hY => ?_) (fun D5 H5 hD5 s5 hD6 => ?_)
      · rw [List.getElem?_map] at hv
        obtain ⟨z, hz, rfl⟩ := Option.map_eq_some_iff.mp hv
        have hzm := List.mem_of_getElem? hz
        obtain ⟨p1, p2⟩ := hpo z hzm
        obtain ⟨c1, c2⟩ := zc z hzm
        obtain ⟨d, hd, en, _⟩ := zf z hzm
        have hY' := hY (.bl (letsM rs (z.2.1, z.2.2.2))) (by show (acc[i]?).map _ = _; rw [hz]; rfl)
        have s4i := s4.trans si
        refine ⟨z.1, _, rfl, Same.sqt s4i p1, rfl, _, _, rfl, _, _, rfl, rfl, rfl, ?_⟩
        unfold tYes
        refine iteT ?_
        refine ⟨_, rfl, x, dx, _, rfl, si _ _ h1, (by rw [lookup_putF, if_neg (by decide +kernel)]; rfl), _, rfl, _, rfl, x, z.2.2.1, z.2.1, cntS z.2.2.2, z.2.2.2, rs, rfl, hx4.same si, p2.same s4i, c1, ?_, (name_ok c2).1, fun H' s' => hY' _ s'⟩
        rw [en]
        exact (name_ok (fok.2 d hd).1).1
      · rw [List.length_map, out_map] at hD6
        refine ⟨D5, acc.map fun z => letsM rs (z.2.1, z.2.2.2), rfl, SqL.of (by rw [hD6, List.map_map]; rfl), ?_⟩
        rw [all_ (letsM rs)]
        have q' := q _ (s04.trans s5)
        unfold allowM at q'
        rw [hk, Bool.true_and] at q'
        exact q'
end
end Pn

namespace Pn
open PySem PySem.Spec PyProof.Rows L2 TL
/-! ### a dict with tuple keys, compared with {} -/
section
variable {prog : Program} {w : World} {A : Around} {s : Shared} {E : Value → Shared → Prop}
theorem samePairs_none {nm : String} {a b : Addr} {oa ob : Obj} {es : Array DictEntry} {ep ep' : Nat} {Q : Bool → Shared → Prop} (ha : (a == sysModules) = false) (hb : (b == sysModules) = false)
    (hoa : s.heap.get? a = some oa) (hda : oa.data = .dict es ep) (hob : s.heap.get? b = some ob) (hdb : ob.data = .dict #[] ep') (h : Q (es.size == 0) s) :
    wpAny (model prog w) A (Builtin.Dict.samePairs nm a b) Q E s := by
  unfold Builtin.Dict.samePairs Builtin.Dict.showsAll
  rw [if_neg (show ¬ (a == sysModules) = true by rw [ha]; exact Bool.false_ne_true), if_neg (show ¬ (b == sysModules) = true by rw [hb]; exact Bool.false_ne_true)]
  refine wpAny_bind (wpAny_pure (wpAny_bind (wpAny_pure ?_)))
  refine wpAny_bind (wpAny_dictEntries hoa hda ?_)
  dsimp only
  refine wpAny_bind (wpAny_dictEntries hob hdb ?_)
  by_cases hsz : es.size = 0
  case neg =>
    rw [if_pos (by simpa using hsz)]
    have hbf : (es.size == 0) = false := by simpa using hsz
    rw [hbf] at h
    exact wpAny_bind (wpAny_rule (wpAny_pure h))
  case pos =>
    have hbt : (es.size == 0) = true := by simpa using hsz
    rw [hbt] at h
    rw [if_neg (by rw [hsz]; simp)]
    refine wpAny_bind (wpAny_dictEpoch hoa hda ?_)
    refine wpAny_bind ?_
    rw [Std.Legacy.Range.forIn_eq_forIn_range']
    simp only [Std.Legacy.Range.size, Nat.sub_zero, Nat.add_sub_cancel, Nat.div_one]
    refine wpAny_forIn_list _ (fun rest q s' => s' = s ∧ q = (none, ()) ∧ rest = []) _ ?_ ?_ _ _ ⟨rfl, rfl, by rw [hsz]; rfl⟩
    · rintro x rest q s' ⟨_, _, e⟩
      exact nomatch e
    · rintro q s' ⟨rfl, rfl, _⟩
      exact wpAny_pure h
end
section
variable {X : Cx}
def rNeT0 : R2 := fun x y H Q => ∃ a b kvs, x = .ref a ∧ y = .ref b ∧ H a = some (.dT kvs) ∧ H b = some (.dT []) ∧ Q (.bl (!kvs.isEmpty)) H
theorem op_neT0 (hu : X.A.units < cLine) : OpR X (compareOp .NotEq) rNeT0 := by
  intro pins s σ H x y v u Q I rx ry h
  obtain ⟨a, b, kvs, rfl, rfl, ea, eb, q⟩ := h
  obtain rfl : v = Value.ref a := rx
  obtain rfl : u = Value.ref b := ry
  obtain ⟨_, ha, xs, pr, oa, es, ep, hoa, xa, hda, he, _⟩ := (show ObjOk X.prog X.w H s.heap a (.dT kvs) from I.hok a _ ea)
  obtain ⟨_, hb, ys, ps, ob, fs, ep', hob, xb, hdb, he', _⟩ := (show ObjOk X.prog X.w H s.heap b (.dT []) from I.hok b _ eb)
  have hf : fs = #[] := by
    cases ps
    exact Array.toList_eq_nil_iff.mp (by simpa using he')
  subst hf
  have hl : es.size = kvs.length := by
    have h1 : es.size = xs.length := by rw [← Array.length_toList, he, List.length_map]
    rw [h1, Paired.length pr]
  have ta : s.TypeIs (.ref a) "dict" := ⟨oa, hoa, xa.1⟩
  have tb : s.TypeIs (.ref b) "dict" := ⟨ob, hob, xb.1⟩
  refine wpAny_richCompare_same_room (op := .NotEq) ta tb PySem.F.slot_dict_ne (wpAny_call_entry PySem.F.slot_dict_ne ta PySem.F.entry_dict_ne ?_ (PySem.F.args_dict_ne_2 _ _)) hu
  show wpAny _ _ (Builtin.Dict.dictSlotArgs "__ne__" ⟨[.ref a, .ref b], []⟩ >>= _) _ _ s
  refine wpAny_bind ?_
  unfold Builtin.Dict.dictSlotArgs
  refine wpAny_bind (wpAny_notOrdered_dict ta ?_)
  show wpAny _ _ (pure (Value.ref a, Value.ref b)) _ _ s
  refine wpAny_pure ?_
  refine wpAny_bind (wpAny_isInstance (T := "dict") tb PySem.F.sub_dict_dict ?_)
  simp only [Bool.not_true, Bool.false_eq_true, if_false]
  refine wpAny_bind (wpAny_pure (wpAny_bind (wpAny_pure ?_)))
  refine wpAny_bind (samePairs_none ha hb hoa hda hob hdb ?_)
  refine wpAny_pure ⟨_, rfl, ?_, ?_⟩
  · exact fun x => nomatch x
  · refine fin_bl I q ?_
    rw [hl]
    cases kvs <;> rfl
end
end Pn

namespace Pn
open PySem PySem.Spec PyProof.Rows L2 TL
/-! ### comprehensions over a dict, which stays as it is -/
theorem upd_frz {H : Hp} {p : Addr} {o : HO} : Same (hid H p) (upd H p o) := fun a u e => by
  rw [upd_ne (hid_ne e)]
  exact hid_sub _ _ e
theorem unlock_same {H Hi : Hp} {p : Addr} {od : Obj} {u : HO} (hp : H p = some u) (s : Same (upd H p (.frz od u)) Hi) : Same H (upd Hi p u) := fun a o e => by
  by_cases h : a = p
  · subst h
    rw [hp] at e
    cases e
    exact upd_same
  · rw [upd_ne h]
    exact s _ _ (by rw [upd_ne h]; exact e)
section
variable {K : PySem.W.Frag} {tl : TE} {g : TG} {tt : TT} {te : TE} {vs : List Nat} {σ : L2.St} {H : Hp} {Q : VK} {p : Addr} {kvs : List (Key × V)}
end
end Pn

namespace Pn
open PySem PySem.Spec PyProof.Rows L2 TL
/-! ### walks over a dict whose keys are tuples -/
theorem sqt_frzT {K : PySem.W.Frag} {H : Hp} {p a : Addr} {od : Obj} {kvs : List (List Key × V)} {o : HO} {xs : List V} (hx : H p = some (.frz od (.dT kvs))) (h : SqT K H a xs) : SqT K (upd H p o) a xs := by
  rcases h with (s | ⟨u, s⟩) | s
  · exact .inl (.inl (by rw [upd_ne (fun z => by rw [z, hx] at s; cases s)]; exact s))
  · exact .inl (.inr ⟨u, by rw [upd_ne (fun z => by rw [z, hx] at s; cases s)]; exact s⟩)
  · exact .inr s
section
variable {K : PySem.W.Frag} {tl : TE} {g : TG} {tt : TT} {te : TE} {vs : List Nat} {σ : L2.St} {H : Hp} {Q : VK} {p : Addr} {kvs : List (List Key × V)}
/-- [e for k in d if ..] -/
theorem lcw_keysT {α : Type} {R : Hp → V → α → Prop} {sel : Nat → Option α} (hR : ∀ {H H' : Hp} {t : V} {c : α}, SameN H H' → R H t c → R H' t c)
    (hF : ∀ {H : Hp} {t : V} {c : α} {od : Obj} {o : HO}, H p = some (.frz od (.dT kvs)) → R H t c → R (upd H p o) t c)
    (h0 : ∀ (H : Hp) (R : VK), R (.ref p) H → tl σ H R) (hp : H p = some (.dT kvs)) (hl : kvs.length ≤ 900)
    (turn : ∀ (Hf : Hp) (od : Obj), Same (hid H p) Hf → Hf p = some (.frz od (.dT kvs)) → ∀ (i : Nat) (k : List Key) (v : V) (q : Addr) (Hi : Hp) (S : Hp → Prop) (Y : VK), kvs[i]? = some (k, v) → Hi q = some (.tup (k.map kV)) → Same Hf Hi →
      (sel i = none → ∀ H', Same Hi H' → S H') → (∀ c, sel i = some c → ∀ t H', Same Hi H' → R H' t c → Y t H') → g (.ref q) (wipe σ vs) Hi fun σ2 H2 => wipe σ2 vs = wipe σ vs ∧ tt σ2 H2 fun b H3 => if b = true then te σ2 H3 Y else S H3)
    (fin : ∀ (D : Addr) (H' : Hp) (ts : List V), H D = none → Same H H' → H' D = some (.lst ts) → Paired (R H') ts ((List.range kvs.length).filterMap sel) → Q (.ref D) H') : tLockE (tLc (iKeys tl) g tt te vs) σ H Q := by
  refine ⟨p, _, hp, trivial, fun od => ?_⟩
  have eH : (upd H p (.frz od (.dT kvs))) p = some (.frz od (.dT kvs)) := upd_same
  refine h0 _ _ ⟨p, od, rfl, .inr ⟨kvs, eH, fun D hD => ?_⟩⟩
  have nD : D ≠ p := fun z => by rw [z, eH] at hD; cases hD
  have hD0 : H D = none := by rw [upd_ne nD] at hD; exact hD
  refine ⟨fun i m Hi => m = kvs.length - i ∧ i ≤ kvs.length ∧ Same (upd H p (.frz od (.dT kvs))) Hi ∧ ∃ ts : List V, Hi D = some (.lst ts) ∧ ts.length ≤ i ∧ Paired (R Hi) ts ((List.range i).filterMap sel), ⟨_, rfl, Nat.zero_le _, Same.new hD, [], upd_same, Nat.le_refl _, .nil⟩, ?_⟩
  rintro i m Hi ⟨rfl, hi, s, ts, hd, hn, pd⟩
  by_cases lt : i < kvs.length
  · refine .inr ⟨⟨s _ _ eH, lt⟩, fun H' => Same (upd H p (.frz od (.dT kvs))) H' ∧ ∃ ts : List V, H' D = some (.lst ts) ∧ ts.length ≤ i + 1 ∧ Paired (R H') ts ((List.range (i + 1)).filterMap sel), fun H' z => ⟨kvs.length - (i + 1), by omega, rfl, lt, z.1, z.2⟩, fun x H' y => ?_⟩
    obtain ⟨rfl, k, v, q, hk, rfl, hq⟩ := y
    refine turn _ od upd_frz eH i k v q _ _ _ hk hq s (fun e H' s' => ⟨s.trans s', ts, s' _ _ hd, Nat.le_succ_of_le hn, ?_⟩) fun c e t H' s' r => ⟨_, s' _ _ hd, small1000 (by omega), (fun a o e => ?_), ts ++ [t], upd_same, by rw [List.length_append]; exact Nat.add_le_add_right hn 1, ?_⟩
    · rw [List.range_succ, List.filterMap_append]
      simp only [List.filterMap_cons, e, List.filterMap_nil, List.append_nil]
      exact paired_mono (fun _ _ z => hR (SameN.of s') z) pd
    · rw [upd_ne (ne_of_none e hD)]
      exact s' _ _ (s _ _ e)
    · have n2 : SameN H' (upd H' D (.lst (ts ++ [t]))) := SameN.upd (s' _ _ hd)
      rw [List.range_succ, List.filterMap_append]
      simp only [List.filterMap_cons, e, List.filterMap_nil]
      exact paired_snoc (hR n2 r) (paired_mono (fun _ _ z => hR ((SameN.of s').trans n2) z) pd)
  · obtain rfl : i = kvs.length := by omega
    exact .inl ⟨⟨s _ _ eH, Nat.le_refl _⟩, s _ _ eH, fin D _ ts hD0 (unlock_same hp s) (by rw [upd_ne nD]; exact hd) (paired_mono (fun _ _ z => hF (s _ _ eH) z) pd)⟩
end
/-! ### tables: words by pairs -/
abbrev KP : Type := Str × Str
def keyT (k : KP) : List Key := [.inr k.1, .inr k.2]
theorem keyT_inj {a b : KP} (h : keyT a = keyT b) : a = b := by
  obtain ⟨a1, a2⟩ := a
  obtain ⟨b1, b2⟩ := b
  injection h with h1 h
  injection h with h2 _
  injection h1 with h1
  injection h2 with h2
  have h1 : a1 = b1 := h1
  have h2 : a2 = b2 := h2
  rw [h1, h2]
def entT2 (e : KP × Str) : List Key × V := (keyT e.1, .str e.2)
abbrev Tab : Type := List (KP × Str)
def TabAt (H : Hp) (a : Addr) (T : Tab) : Prop := H a = some (.dT (T.map entT2))
theorem tab_val (k : KP) : ∀ T : Tab, valV (T.map entT2) (keyT k) = ((T.find? fun e => decide (e.1 = k)).map fun e => V.str e.2)
  | [] => rfl
  | e :: T => by
    rw [List.map_cons]
    by_cases h : e.1 = k
    · rw [valV_pos (show (entT2 e).1 = keyT k by show keyT e.1 = _; rw [h]), List.find?_cons_of_pos (by simpa using h)]
      rfl
    · rw [valV_neg (fun z => h (keyT_inj z)), tab_val k T, List.find?_cons_of_neg (by simpa using h)]
def putT (T : Tab) (k : KP) (w : Str) : Tab := if (T.any fun e => decide (e.1 = k)) = true then T.map (fun e => if e.1 = k then (e.1, w) else e) else T ++ [(k, w)]
theorem putT_map (T : Tab) (k : KP) (w : Str) : (putT T k w).map entT2 = putK (T.map entT2) (keyT k) (.str w) := by
  have e1 : ((T.map entT2).any fun kv => decide (kv.1 = keyT k)) = T.any fun e => decide (e.1 = k) := by
    rw [List.any_map]
    congr 1
    funext e
    show decide (keyT e.1 = keyT k) = _
    by_cases h : e.1 = k
    · rw [h, decide_eq_true rfl, decide_eq_true rfl]
    · rw [decide_eq_false h, decide_eq_false fun z => h (keyT_inj z)]
  unfold putT putK
  rw [e1]
  by_cases a : (T.any fun e => decide (e.1 = k)) = true
  · rw [if_pos a, if_pos a, List.map_map, List.map_map]
    congr 1
    funext e
    show entT2 (if e.1 = k then (e.1, w) else e) = if keyT e.1 = keyT k then (keyT e.1, V.str w) else entT2 e
    by_cases h : e.1 = k
    · rw [if_pos h, if_pos (by rw [h])]
      rfl
    · rw [if_neg h, if_neg fun z => h (keyT_inj z)]
  · rw [if_neg a, if_neg a, List.map_append]
    rfl
theorem putT_keys {T : Tab} {k : KP} {w : Str} {G : KP → Prop} (h : ∀ e ∈ T, G e.1) (hk : G k) : ∀ e ∈ putT T k w, G e.1 := by
  intro e he
  unfold putT at he
  split at he
  · obtain ⟨x, hx, rfl⟩ := List.mem_map.mp he
    split
    · exact h x hx
    · exact h x hx
  · rcases List.mem_append.mp he with he | he
    · exact h e he
    · rw [List.mem_singleton.mp he]
      exact hk
end Pn

namespace Pn
open PySem PySem.Spec PyProof.Rows L2 TL
theorem stepPar {i j : Nat} {ta : TA} {B : TS} {D : Ends} {σ : L2.St} {H : Hp} (C : V → V → Hp → Prop) (h1 : ∀ Q' : List V → Hp → Prop, (∀ v w H', C v w H' → Q' [v, w] H') → ta σ H Q') (h2 : ∀ v w H', C v w H' → B D ((σ.set i (some v)).set j (some w)) H') : tSeq (tPar i j ta) B D σ H := h1 _ fun v w H' c => ⟨v, w, rfl, h2 v w H' c⟩
theorem stepEndB {tt : TT} {A : TS} {D : Ends} {σ : L2.St} {H : Hp} (G : Hp → Prop) (h1 : ∀ Q : Bool → Hp → Prop, (∀ H', G H' → Q false H') → tt σ H Q) (h2 : ∀ H', G H' → D.nx σ H') : tIfS tt A tNext D σ H := h1 _ fun H' g => by
  rw [if_neg Bool.false_ne_true]
  exact h2 H' g
theorem rNe_same {v : V} {H : Hp} {Q : VK} (hs : scal v v = true) (q : Q (.bl false) H) : rNe v v H Q := ⟨hs, by rw [decide_eq_true rfl]; exact q⟩
theorem stepIfS2 {tt : TT} {A B : TS} {D : Ends} {σ : L2.St} {H : Hp} (G : L2.St → Hp → Prop) (h1 : ∀ nx : L2.St → Hp → Prop, (∀ σ' H', G σ' H' → nx σ' H') → tt σ H fun b H' => if b = true then A { D with nx := nx } σ H' else nx σ H') (h2 : ∀ σ' H', G σ' H' → B D σ' H') : tSeq (tIfS tt A tNext) B D σ H := h1 (B D) h2
end Pn

namespace Pn
open PySem PySem.Spec PyProof.Rows L2 TL
/-! ### first items; the same triples compared -/
section
variable {K : PySem.W.Frag}
end
end Pn

namespace Pn
open PySem PySem.Spec PyProof.Rows L2
/-! ### is not, of two truth values -/
end Pn

namespace Pn
open PySem PySem.Spec PyProof.Rows L2 TL
abbrev sOpens : Stmt := top 76
/-! ### the open places of a book's text -/
/-- each text once, where it stands first -/
def firstsS (ss : List Str) : List Str := (List.range ss.length).filterMap fun i => (ss[i]?).bind fun z => if z ∈ ss.take i then none else some z
theorem firsts_mem (ss : List Str) (z : Str) : z ∈ firstsS ss ↔ z ∈ ss := by
  have key : ∀ n, n ≤ ss.length → ∀ z, z ∈ (List.range n).filterMap (fun i => (ss[i]?).bind fun z => if z ∈ ss.take i then none else some z) ↔ z ∈ ss.take n := by
    intro n
    induction n with
    | zero => intro _ z; simp
    | succ n ih =>
      intro hn z
      have hx : ss[n]? = some ss[n] := List.getElem?_eq_getElem hn
      rw [List.range_succ, List.filterMap_append, List.mem_append, ih (Nat.le_of_succ_le hn) z, List.take_add_one, hx, List.mem_append]
      simp only [List.filterMap_cons, hx, Option.bind_some, List.filterMap_nil]
      by_cases h : ss[n] ∈ ss.take n
      · rw [if_pos h]
        simp only [List.not_mem_nil, or_false, Option.toList_some, List.mem_singleton]
        exact ⟨.inl, fun q => q.elim id fun e => by rw [e]; exact h⟩
      · rw [if_neg h]
        simp only [Option.toList_some]
  have := key ss.length (Nat.le_refl _) z
  rw [List.take_length] at this
  exact this
theorem firsts_len (ss : List Str) : (firstsS ss).length ≤ ss.length := by
  have := List.length_filterMap_le (fun i => (ss[i]?).bind fun z => if z ∈ ss.take i then none else some z) (List.range ss.length)
  rw [List.length_range] at this
  exact this
section
variable {P : Program} {w : World} {K : PySem.W.Frag} {mg : Str → Option Value} {base : Heap}
structure TOpn (K : PySem.W.Frag) (mg : Str → Option Value) : Type extends TBook K mg where
  mSorted : mg "sorted" = none
  mStr : mg "str" = none
  mEn : mg "enumerate" = none
  opens : At K mg "_law_opens" sOpens ["_law_book_here"]
def spOpens (K : PySem.W.Frag) : Sp := fun vs H Q _ => ∃ (t c pl : Addr) (bk : List PartD), vs = [.ref t] ∧ SqT K H t [.ref c, .ref pl] ∧ PartsAt H pl bk ∧ PutsOk bk ∧ bk ≠ [] ∧ bk.length ≤ 4 ∧
  ∀ (D : Addr) (ys : List Str) (H' : Hp), Same H H' → H D = none → H' D = some (.lst (ys.map V.str)) → (∀ z, z ∈ ys ↔ z ∈ opens (unrolled bk)) → ys.length ≤ 2401 → Q (.ref D) H'
theorem scOpens : FnScope ["_law_book_here", "_law_some", "_law_row_here", "_law_at", "_law_name"] ["_law_book_here"] (defScope sOpens) := ⟨rfl, rfl, rfl, by decide +kernel, rfl, by decide +kernel, by decide +kernel⟩
theorem ok_opens (T : TOpn K mg) : FnOk P w K mg base CX0 3 T.opens.f T.opens.fd ["_law_book_here"] (spOpens K) := by
  refine T.opens.F.ok scOpens (fun vs H Q E h => ?_) (fun cdv A outer s H vs Q E hr h => ?_)
  · obtain ⟨t, c, pl, bk, rfl, _⟩ := h
    rfl
  · obtain ⟨t, c, pl, bk, rfl, ht, hP, hPO, hne, hlen, q⟩ := h
    refine ⟨_, (pss_cons (ps_set (i := 1) scOpens.nd rfl (Or.inr rfl) (pe_callB (show CallR _ (.builtin "sorted") (rSortedSL K) from cr_sortedSL) (by rfl) T.mSorted (by decide +kernel) (pa_cons (pe_lc (own := [("_law_row_here", 2)]) (g := gName 2) (by rfl) scOpens.nd (pi_list (pe_call (ok_unrolled T.unr.F) (hr.mono (by decide)) rfl T.unr.m T.unr.F.kp T.unr.b .nil pass0 (pa_cons (pe_ix ix_tup (pv 0) pe_int (fun _ _ => rfl)) pa_nil)))
 (blkOk_by (N := ["_law_book_here", "_law_some", "_law_row_here", "_law_at", "_law_name"]) (sc := defScope sOpens) (by decide +kernel)) (fun _ _ _ _ _ => (pg_name (i := 2) scOpens.nd rfl (Or.inl rfl))) (fun _ _ _ _ _ => pts_one (pt_cmpR op_eq (pe_ix (show IxR _ (rIxT K) from ix_tup) (pv 2) pe_int (fun _ _ => rfl)) pe_str (nomark _))) (fun _ _ _ _ _ => (pe_callTy (show CallR _ (.type "str") rStrF from call_strF) (by rfl) T.mStr (by decide +kernel) (pa_cons (pe_ix (show IxR _ (rIxT K) from ix_tup) (pv 2) pe_int (fun _ _ => rfl)) pa_nil)))) pa_nil)))
(pss_one (ps_ret (pe_lc (own := [("_law_at", 3), ("_law_name", 4)]) (g := gTup K 2 (gCons (gName 3) (gCons (gName 4) gNil))) (by rfl) scOpens.nd (pi_enum (by rfl) T.mEn (pa_cons (pv 1) pa_nil))
 (blkOk_by (N := ["_law_book_here", "_law_some", "_law_row_here", "_law_at", "_law_name"]) (sc := defScope sOpens) (by decide +kernel)) (fun _ _ _ _ _ => (pg_tup (by rfl) (pgs_cons (pg_name (i := 3) scOpens.nd rfl (Or.inl rfl)) (pgs_cons (pg_name (i := 4) scOpens.nd rfl (Or.inl rfl)) pgs_nil)))) (fun _ _ _ _ _ => pts_one (pt_cmpR (show OpR _ (compareOp .NotIn) (rIn K true) from op_notIn_seq) (pv 4) (pe_slice (show SlR _ (rSlL K) from sl_list) (pv 1) po_none (po_some (pv 3))) rfl)) (fun _ _ _ _ _ => (pv 4)))))), ?_⟩
    refine stepSet (fun v H' => ∃ (S : Addr) (ss : List Str), v = .ref S ∧ Same H H' ∧ H' S = some (.lst (ss.map V.str)) ∧ ss.Perm (opens (unrolled bk)) ∧ ss.length ≤ 2401) (fun Q' hQ => ?c1) (fun v H1 hC => ?r1)
    case c1 =>
      refine ⟨_, rfl, t, _, _, .ref pl, rfl, rfl, ht, rfl, pl, bk, rfl, hP, hPO, hne, hlen, fun F HF sF hFn hFl hle => ?_⟩
      obtain ⟨fs, hF, hfs⟩ := hFl
      have hfl := paired_len hfs
      refine ⟨F, rfl, ⟨_, SqL.of hF⟩, fun D hD => lc_list (K := K) (a := F) (xs := fs.map V.ref) (fun j Hj => Same HF Hj ∧ Hj D = some (.lst ((opens ((unrolled bk).take j)).map V.str))) ⟨Same.new hD, upd_same⟩ (fun j Hj _ hP => SqL.of (hP.1 _ _ hF)) (fun j x Hj hj hP => ?lturn) (fun Hj hP => ?lend)⟩
      case lturn =>
        obtain ⟨sj, hDj⟩ := hP
        rw [List.getElem?_map] at hj
        obtain ⟨u2, hxj, rfl⟩ := Option.map_eq_some_iff.mp hj
        obtain ⟨r4, hr4, hu4⟩ := paired_at hfs hxj
        have hut := sj _ _ hu4
        have hj3 : j < fs.length := (List.getElem?_eq_some_iff.mp hxj).1
        have hsz : ((opens ((unrolled bk).take j)).map V.str).length < sizeLine := by
          rw [List.length_map]
          have h1 : (opens ((unrolled bk).take j)).length ≤ j := Nat.le_trans (List.length_filterMap_le _ _) (by rw [List.length_take]; omega)
          have : (4000 : Nat) ≤ sizeLine := by decide
          omega
        have hstep : opens ((unrolled bk).take (j + 1)) = opens ((unrolled bk).take j) ++ opens [r4] := by
          unfold opens
          rw [List.take_add_one, hr4, List.filterMap_append]
          rfl
        by_cases ho : ∃ z, r4 = .opn z
        · obtain ⟨z, rfl⟩ := ho
          refine ⟨rfl, _, rfl, u2, _, _, _, rfl, rfl, SqT.of hut, atI_nat (j := 0) rfl, rfl, _, rfl, iteTD (by show decide (V.str "open" = V.str "open") = true; exact decide_eq_true rfl) ?_⟩
          refine ⟨_, rfl, u2, _, _, _, rfl, rfl, SqT.of hut, atI_nat (j := 1) rfl, .inl ⟨z, rfl, _, hDj, hsz, Same.updn sj hD, ?_⟩⟩
          rw [upd_same, hstep, List.map_append]
          rfl
        · refine ⟨rfl, _, rfl, u2, _, _, _, rfl, rfl, SqT.of hut, atI_nat (j := 0) (tup_head r4), rfl, _, rfl, iteFD ?_ ⟨sj, ?_⟩⟩
          · cases r4 with
            | note _ _ => exact (by decide +kernel : decide (V.str "note" = V.str "open") = false)
            | skip _ _ => exact (by decide +kernel : decide (V.str "skip" = V.str "open") = false)
            | set _ _ => exact (by decide +kernel : decide (V.str "set" = V.str "open") = false)
            | keep _ => exact (by decide +kernel : decide (V.str "keep" = V.str "open") = false)
            | back _ => exact (by decide +kernel : decide (V.str "back" = V.str "open") = false)
            | ref _ => exact (by decide +kernel : decide (V.str "ref" = V.str "open") = false)
            | put _ => exact (by decide +kernel : decide (V.str "put" = V.str "open") = false)
            | opn z => exact absurd ⟨z, rfl⟩ ho
          · have e : opens [r4] = [] := by
              cases r4 with
              | opn z => exact absurd ⟨z, rfl⟩ ho
              | _ => rfl
            rw [hstep, e, List.append_nil]
            exact hDj
      case lend =>
        obtain ⟨sG, hDG⟩ := hP
        rw [List.length_map, hfl, List.take_length] at hDG
        have hol : (opens (unrolled bk)).length ≤ 2401 := Nat.le_trans (List.length_filterMap_le _ _) hle
        refine ⟨D, _, rfl, SqL.of hDG, fun ys p pm _ hp => ?_⟩
        exact hQ _ _ ⟨p, ys, rfl, (sF.trans sG).trans (Same.new hp), upd_same, pm, by rw [pm.length_eq]; exact hol⟩
    case r1 =>
    obtain ⟨S, ss, rfl, s1, hS, pm, hsl⟩ := hC
    try dsimp only [List.set]
    refine lcw_enum (K := K) (p := S) (xs := ss.map V.str) (out := fun i : Nat => (ss[i]?).bind fun z => if z ∈ ss.take i then none else some (V.str z)) (fun R z => ⟨_, rfl, z⟩) (SqL.of hS) (by rw [List.length_map]; omega) (fun i x u Hi SS Y hx sI hu h0 h1 => ?tn) (fun D H' hD sD hDl => ?fn)
    case tn =>
      rw [List.getElem?_map] at hx
      obtain ⟨z, hz, rfl⟩ := Option.map_eq_some_iff.mp hx
      refine ⟨u, _, rfl, SqT.of hu, rfl, _, _, rfl, _, _, rfl, rfl, rfl, _, rfl, _, rfl, _, rfl, (i : Int), rfl, S, _, rfl, SqL.of (sI _ _ hS), fun p hp => ?_⟩
      have hi : i < ss.length := (List.getElem?_eq_some_iff.mp hz).1
      have ho : ((ss[i]?).bind fun z => if z ∈ ss.take i then none else some (V.str z)) = if z ∈ ss.take i then none else some (V.str z) := by rw [hz]; rfl
      refine ⟨p, (ss.take i).map V.str, rfl, .inl (SqL.of (by rw [upd_same, cut_to _ (by rw [List.length_map]; omega), List.map_take])), rfl, List.all_eq_true.mpr (fun v hv => by obtain ⟨y, _, rfl⟩ := List.mem_map.mp hv; rfl), ?_⟩
      by_cases hm : z ∈ ss.take i
      · refine ⟨_, rfl, iteFD (by show (!inV (.str z) _) = false; rw [inV_strs, decide_eq_true hm]; rfl) ?_⟩
        exact h0 (ho.trans (if_pos hm)) _ (Same.new hp)
      · refine ⟨_, rfl, iteTD (by show (!inV (.str z) _) = true; rw [inV_strs, decide_eq_false hm]; rfl) ?_⟩
        exact ⟨_, rfl, h1 _ (ho.trans (if_neg hm)) _ (Same.new hp)⟩
    case fn =>
      have e : (List.range (ss.map V.str).length).filterMap (fun i : Nat => (ss[i]?).bind fun z => if z ∈ ss.take i then none else some (V.str z)) = (firstsS ss).map V.str := by
        unfold firstsS
        rw [List.length_map, List.map_filterMap]
        congr 1
        funext i
        cases ss[i]? with
        | none => rfl
        | some z =>
          show (if z ∈ ss.take i then none else some (V.str z)) = Option.map V.str (if z ∈ ss.take i then none else some z)
          split <;> rfl
      rw [e] at hDl
      refine q D (firstsS ss) H' (s1.trans sD) (s1.free hD) hDl (fun z => ?_) (Nat.le_trans (firsts_len ss) hsl)
      rw [firsts_mem]
      exact pm.mem_iff
end
end Pn

namespace Pn
open PySem PySem.Spec PyProof.Rows L2 TL
abbrev sBare : Stmt := top 81
/-! ### a drawn book that has an open place in its text -/
def withOpen (p : PartD) (k : Nat) : PartD := (p.1, p.2.take k ++ [RowD.opn "x"] ++ p.2.drop k)
theorem with_open {d : Pool} {cs : List (Str × Str)} {bi : List PartD} {p : PartD} {k : Nat} (ok : BookOk d cs (bi ++ [p])) (h6 : p.2.length ≤ 6) : BookOk d cs (bi ++ [withOpen p k]) ∧ ("x" : Str) ∈ opens (unrolled (bi ++ [withOpen p k])) := by
  have hn : (bi ++ [withOpen p k]).map (·.1) = (bi ++ [p]).map (·.1) := by rw [List.map_append, List.map_append]; rfl
  have hlen : (bi ++ [withOpen p k]).length = (bi ++ [p]).length := by simp
  have hmem : ∀ r ∈ (withOpen p k).2, r ∈ p.2 ∨ r = .opn "x" := fun r hr => by
    rcases List.mem_append.mp hr with hr | hr
    · rcases List.mem_append.mp hr with hr | hr
      · exact .inl (List.mem_of_mem_take hr)
      · exact .inr (List.mem_singleton.mp hr)
    · exact .inl (List.mem_of_mem_drop hr)
  have elbl : labelsOf (unrolled (bi ++ [withOpen p k])) = labelsOf (unrolled (bi ++ [p])) := by
    rw [unrolled_snoc, unrolled_snoc]
    have e : p.2 = p.2.take k ++ p.2.drop k := (List.take_append_drop k p.2).symm
    unfold labelsOf unrollIn
    show List.filterMap labelOf (List.flatMap (expand (knowns bi)) (p.2.take k ++ [RowD.opn "x"] ++ p.2.drop k)) = _
    conv => rhs; rw [e]
    rw [List.flatMap_append, List.flatMap_append, List.flatMap_append, List.filterMap_append, List.filterMap_append, List.filterMap_append]
    have e1 : List.filterMap labelOf (List.flatMap (expand (knowns bi)) [RowD.opn "x"]) = [] := by
      rw [List.flatMap_singleton]
      rfl
    rw [e1, List.append_nil]
  have pbi : PutsOk bi := fun j q e => by
    have hj := (List.getElem?_eq_some_iff.mp e).1
    have := ok.puts j q (by rw [List.getElem?_append_left hj]; exact e)
    rw [List.take_append_of_le_length (by omega)] at this
    exact this
  have pp := ok.puts bi.length p (by simp)
  rw [List.take_left' rfl] at pp
  have h7 : (withOpen p k).2.length ≤ 7 := by
    show (p.2.take k ++ [RowD.opn "x"] ++ p.2.drop k).length ≤ 7
    rw [List.length_append, List.length_append, List.length_take, List.length_drop]
    show min k p.2.length + 1 + (p.2.length - k) ≤ 7
    omega
  refine ⟨⟨ok.hd, ok.c0, ok.c3, ok.cn, ok.ct, by simp, by rw [hlen]; exact ok.b3, by rw [hn, hlen]; exact ok.bn, pbi.snoc h7 (fun z hz => ?_), fun q hq r hr => ?_⟩, ?_⟩
  · rcases hmem _ hz with h | h
    · exact pp.2 z h
    · cases h
  · have up : ∀ r, RowIn d cs (bi ++ [p]) r → RowIn d cs (bi ++ [withOpen p k]) r := fun r h => by
      rcases h with h | ⟨l, e, hl, hn2⟩ | h
      · exact .inl (by rw [hn]; exact h)
      · exact .inr (.inl ⟨l, e, by rw [elbl]; exact hl, hn2⟩)
      · exact .inr (.inr h)
    rcases List.mem_append.mp hq with hq | hq
    · exact up r (ok.rows q (List.mem_append_left _ hq) r hr)
    · rw [List.mem_singleton.mp hq] at hr
      rcases hmem r hr with h | h
      · exact up r (ok.rows p (by simp) r h)
      · exact .inr (.inr h)
  · rw [unrolled_snoc]
    refine List.mem_filterMap.mpr ⟨.opn "x", List.mem_flatMap.mpr ⟨.opn "x", ?_, List.mem_singleton.mpr rfl⟩, rfl⟩
    show RowD.opn "x" ∈ p.2.take k ++ [RowD.opn "x"] ++ p.2.drop k
    simp
theorem opens_ok {d : Pool} {cs : List (Str × Str)} {bk : List PartD} (h : BookOk d cs bk) : ∀ z ∈ opens (unrolled bk), nameS z = true := fun z hz => by
  have fl := pool_fine d h.hd
  obtain ⟨r, hr, e⟩ := List.mem_filterMap.mp hz
  have q := unrolled_all (G := RowIn d cs bk) h.rows r hr
  cases r with
  | opn y =>
    cases e
    rcases q with f | ⟨l2, e, _⟩ | e
    · exact fl.names z (by have f : z ∈ d.x := f; simp [f])
    · cases e
    · cases e
      exact nmX_ok
  | _ => cases e
section
variable {P : Program} {w : World} {K : PySem.W.Frag} {mg : Str → Option Value} {base : Heap}
structure TBare (K : PySem.W.Frag) (mg : Str → Option Value) : Type extends TOpn K mg where
  bare : At K mg "_law_bare" sBare ["_law_deal_here", "_law_most"]
def spBare : Sp := fun vs H Q _ => ∃ (b g : Addr) (m : Int), vs = [.ref b, .int m] ∧ DealAt H b g ∧
  ∀ (t c pl : Addr) (d : Pool) (cs : List (Str × Str)) (bk : List PartD) (H' : Hp), BookOk d cs bk → opens (unrolled bk) ≠ [] → Kd b g H H' → DealAt H' b g → hh H' b g t = some (.tup [.ref c, .ref pl]) → CsAt (hh H' b g) c cs → PartsAt (hh H' b g) pl bk → Q (.ref t) H'
theorem scBare : FnScope ["_law_deal_here", "_law_most", "_law_book_here", "_law_name", "_law_rows", "_law_spot"] ["_law_deal_here", "_law_most"] (defScope sBare) := ⟨rfl, rfl, rfl, by decide +kernel, rfl, by decide +kernel, by decide +kernel⟩
theorem ok_bare (T : TBare K mg) : FnOk P w K mg base CX0 6 T.bare.f T.bare.fd ["_law_deal_here", "_law_most"] spBare := by
  refine T.bare.F.ok scBare (fun vs H Q E h => ?_) (fun cdv A outer s H vs Q E hr h => ?_)
  · obtain ⟨b, g, m, rfl, _⟩ := h
    rfl
  · obtain ⟨b, g, m, rfl, hB, q⟩ := h
    refine ⟨_, (pss_cons (ps_set (i := 2) scBare.nd rfl (Or.inl rfl) (pe_call (ok_book T.toTBook) (hr.mono (by decide)) rfl T.book.m T.book.F.kp T.book.b .nil pass0 (pa_cons (pv 0) (pa_cons (pv 1) pa_nil))))
(pss_cons (ps_if (pt_cmpR (op_neD hr.units) (pe_call (ok_opens T.toTOpn) (hr.mono (by decide)) rfl T.opens.m T.opens.F.kp T.opens.b .nil pass0 (pa_cons (pv 2) pa_nil)) (pe_lst pa_nil) (nomark _)) (pss_one (ps_ret (pv 2))) pss_nil)
(pss_cons (ps_asg (pe_ix ix_list (pe_ix ix_tup (pv 2) pe_int (fun _ _ => rfl)) (pe_un un_neg pe_int) (fun _ _ => rfl)) (pg_tup (by rfl) (pgs_cons (pg_name (i := 3) scBare.nd rfl (Or.inl rfl)) (pgs_cons (pg_name (i := 4) scBare.nd rfl (Or.inl rfl)) pgs_nil))))
(pss_cons (ps_set (i := 5) scBare.nd rfl (Or.inl rfl) (pe_call T.okChoose (hr.mono (by decide)) rfl T.choose.m T.choose.F.kp T.choose.b .nil pass0 (pa_cons (pv 0) (pa_cons (pe_op op_add (pe_callB call_len_seq (by rfl) T.mL PySem.boot_len (pa_cons (pv 4) pa_nil)) pe_int) pa_nil))))
(pss_one (ps_ret (pe_tup (pa_cons (pe_ix ix_tup (pv 2) pe_int (fun _ _ => rfl)) (pa_cons (pe_op op_cat (pe_slice sl_list (pe_ix ix_tup (pv 2) pe_int (fun _ _ => rfl)) po_none (po_some (pe_un un_neg pe_int))) (pe_lst (pa_cons (pe_tup (pa_cons (pv 3) (pa_cons (pe_op op_cat (pe_op op_cat (pe_slice sl_list (pv 4) po_none (po_some (pv 5))) (pe_lst (pa_cons (pe_tup (pa_cons pe_str (pa_cons pe_str pa_nil))) pa_nil))) (pe_slice sl_list (pv 4) (po_some (pv 5)) po_none)) pa_nil))) pa_nil))) pa_nil))))))))), ?_⟩
    have zero : 0 ≤ sizeLine := by decide
    have two : 2 ≤ sizeLine := by decide
    have one : 1 ≤ sizeLine := by decide
    have hbig : (2000 : Nat) ≤ sizeLine := by decide
    refine ⟨_, rfl, _, rfl, b, g, m, rfl, hB, fun t c pl d cs bk H1 ok h6 k1 hB1 ht hC hP => ?_⟩
    try dsimp only [List.set]
    have hPp : PartsAt H1 pl bk := by
      obtain ⟨ts, e1, e2⟩ := hP
      exact ⟨ts, hh_sub _ _ e1, paired_mono (fun _ _ e => e.same hh_sub) e2⟩
    refine ⟨_, rfl, t, c, pl, bk, rfl, SqT.of (hh_sub _ _ ht), hPp, ok.puts, ok.b0, by have := ok.b3; omega, fun D ys H2 s2 hD hDl hm hyl => ⟨zero, fun e he => ?_⟩⟩
    have s3 := s2.trans (Same.new (o := .lst []) he)
    refine ⟨.list (ys.map PyData.str), .list [], .lst (SqL.of (Same.new he _ _ hDl)) (dp_strL ys), .lst (SqL.of upd_same) .nil, strL_sh (fun x hx => (name_ok (opens_ok ok x ((hm x).mp hx))).1), by decide +kernel, _, rfl, ?_⟩
    rw [strsL_nil]
    have k3 := k1.trans (Kd.same s3)
    have hB3 := hB1.same s3
    have ht3 := hh_same s3 _ _ ht
    have hC3 := hC.mono (hh_same s3)
    have hP3 : PartsAt (hh (upd H2 e (.lst [])) b g) pl bk := by
      obtain ⟨ts, e1, e2⟩ := hP
      exact ⟨ts, hh_same s3 _ _ e1, paired_mono (fun _ _ e => e.same (hh_same s3)) e2⟩
    clear hDl hD he s2 hC hP hPp ht hB1 k1
    generalize upd H2 e (.lst []) = H3 at s3 k3 hB3 ht3 hC3 hP3 ⊢
    cases hys : ys with
    | cons y0 yr =>
      refine iteTB rfl ?_
      refine ⟨_, rfl, q t c pl d cs bk H3 ok (fun z => ?_) k3 hB3 ht3 hC3 hP3⟩
      have : y0 ∈ opens (unrolled bk) := (hm y0).mp (by rw [hys]; exact List.mem_cons_self)
      rw [z] at this
      cases this
    | nil =>
      refine iteFB rfl ?_
      obtain ⟨bi, p, rfl⟩ : ∃ bi p, bk = bi ++ [p] := ⟨_, _, (List.dropLast_concat_getLast ok.b0).symm⟩
      obtain ⟨ts, hp0, hb0⟩ := hP3
      have htl := paired_len hb0
      obtain ⟨tsi, tl, rfl⟩ : ∃ tsi t, ts = tsi ++ [t] := ⟨_, _, (List.dropLast_concat_getLast (by intro z; rw [z] at htl; simp at htl)).symm⟩
      have hli : tsi.length = bi.length := by simpa using htl
      obtain ⟨p2, hpp2, ra, htt, us, hra, hus⟩ := paired_at hb0 (show (tsi ++ [tl])[tsi.length]? = some tl by simp)
      have hpp : p = p2 := by
        rw [hli] at hpp2
        simpa using hpp2
      subst hpp
      have hul : us.length = p.2.length := paired_len hus
      have hp6 : p.2.length ≤ 6 := h6 p (by simp)
      have hlast : atI ((tsi ++ [tl]).map V.ref) (-1) = some (.ref tl) := by rw [List.map_append]; exact atI_last _ _
      have g3 : ∀ {a o}, hh H3 b g a = some o → H3 a = some o := fun h => hh_sub _ _ h
      refine ⟨_, rfl, t, _, _, .ref pl, rfl, rfl, SqT.of (g3 ht3), rfl, _, rfl, pl, _, _, .ref tl, rfl, rfl, SqL.of (g3 hp0), hlast, tl, _, rfl, SqT.of (g3 htt), rfl, _, _, rfl, _, _, rfl, rfl, ?_⟩
      try dsimp only [List.set]
      refine ⟨_, rfl, _, rfl, ra, _, rfl, .inl (SqL.of (g3 hra)), _, _, rfl, rfl, b, g, _, rfl, hB3, by omega, by rw [List.length_map]; omega, fun sp H7 sp0 sp1 hB7 k7 _ => ?_⟩
      obtain ⟨k, rfl⟩ : ∃ k : Nat, sp = (k : Int) := ⟨sp.toNat, by omega⟩
      have hk : k ≤ us.length := by rw [List.length_map] at sp1; omega
      have S7 := Kd.hh k7
      have g7 : ∀ {a o}, hh H3 b g a = some o → H7 a = some o := fun h => hh_sub _ _ (S7 _ _ h)
      try dsimp only [List.set]
      refine ⟨_, rfl, t, _, _, .ref c, rfl, rfl, SqT.of (g7 ht3), rfl, ?_⟩
      refine ⟨_, rfl, t, _, _, .ref pl, rfl, rfl, SqT.of (g7 ht3), rfl, _, rfl, _, rfl, pl, _, rfl, SqL.of (g7 hp0), fun p3 hp3 => ?_⟩
      have e3 : cutV ((tsi ++ [tl]).map V.ref) none (some (-1)) = tsi.map V.ref := by
        rw [cut_last, List.map_append]
        simp
      rw [e3]
      have s1 := Same.new (o := .lst (tsi.map V.ref)) hp3
      have B1 := hB7.new (o := .lst (tsi.map V.ref)) hp3
      have f3 : upd H7 p3 (.lst (tsi.map V.ref)) p3 = some (.lst (tsi.map V.ref)) := upd_same
      generalize upd H7 p3 (.lst (tsi.map V.ref)) = A1 at s1 B1 f3 ⊢
      refine ⟨_, rfl, _, rfl, _, rfl, _, rfl, ra, _, rfl, SqL.of (s1 _ _ (g7 hra)), fun p1 hp1 => ?_⟩
      rw [cut_to _ (by rw [List.length_map]; exact hk)]
      refine ⟨two, fun t5 ht5 => ⟨one, fun L5 hL5 => ⟨p1, L5, _, [.ref t5], rfl, rfl, Same.new hL5 _ _ (Same.new ht5 _ _ upd_same), upd_same, ?_, fun c1 hc1 => ?_⟩⟩⟩
      · rw [List.length_take, List.length_map]
        show min k us.length + 1 ≤ sizeLine
        omega
      have s2 : Same A1 (upd (upd (upd (upd A1 p1 (.lst ((us.map V.ref).take k))) t5 (.tup [.str "open", .str "x"])) L5 (.lst [.ref t5])) c1 (.lst ((us.map V.ref).take k ++ [.ref t5]))) := (((Same.new hp1).trans (Same.new ht5)).trans (Same.new hL5)).trans (Same.new hc1)
      have f5 : (upd (upd (upd (upd A1 p1 (.lst ((us.map V.ref).take k))) t5 (.tup [.str "open", .str "x"])) L5 (.lst [.ref t5])) c1 (.lst ((us.map V.ref).take k ++ [.ref t5]))) t5 = some (.tup [.str "open", .str "x"]) := Same.new hc1 _ _ (Same.new hL5 _ _ upd_same)
      have fc : (upd (upd (upd (upd A1 p1 (.lst ((us.map V.ref).take k))) t5 (.tup [.str "open", .str "x"])) L5 (.lst [.ref t5])) c1 (.lst ((us.map V.ref).take k ++ [.ref t5]))) c1 = some (.lst ((us.map V.ref).take k ++ [.ref t5])) := upd_same
      have n5 := (B1.new (o := (.lst ((us.map V.ref).take k))) hp1).nb ht5
      have B2 : DealAt (upd (upd (upd (upd A1 p1 (.lst ((us.map V.ref).take k))) t5 (.tup [.str "open", .str "x"])) L5 (.lst [.ref t5])) c1 (.lst ((us.map V.ref).take k ++ [.ref t5]))) b g := (((B1.new hp1).new ht5).new hL5).new hc1
      generalize upd (upd (upd (upd A1 p1 (.lst ((us.map V.ref).take k))) t5 (.tup [.str "open", .str "x"])) L5 (.lst [.ref t5])) c1 (.lst ((us.map V.ref).take k ++ [.ref t5])) = A2 at s2 f5 fc B2 ⊢
      refine ⟨_, rfl, _, rfl, _, rfl, ra, _, rfl, SqL.of (s2 _ _ (s1 _ _ (g7 hra))), fun p2 hp2 => ?_⟩
      rw [cut_from _ (by rw [List.length_map]; exact hk)]
      refine ⟨c1, p2, _, _, rfl, rfl, Same.new hp2 _ _ fc, upd_same, ?_, fun rl hrl => ?_⟩
      · rw [List.length_append, List.length_take, List.length_drop, List.length_map]
        show min k us.length + 1 + (us.length - k) ≤ sizeLine
        omega
      have s3' : Same A2 (upd (upd A2 p2 (.lst ((us.map V.ref).drop k))) rl (.lst (((us.map V.ref).take k ++ [.ref t5]) ++ (us.map V.ref).drop k))) := (Same.new hp2).trans (Same.new hrl)
      have frl : (upd (upd A2 p2 (.lst ((us.map V.ref).drop k))) rl (.lst (((us.map V.ref).take k ++ [.ref t5]) ++ (us.map V.ref).drop k))) rl = some (.lst (((us.map V.ref).take k ++ [.ref t5]) ++ (us.map V.ref).drop k)) := upd_same
      have nrl := (B2.new (o := (.lst ((us.map V.ref).drop k))) hp2).nb hrl
      have B3 : DealAt (upd (upd A2 p2 (.lst ((us.map V.ref).drop k))) rl (.lst (((us.map V.ref).take k ++ [.ref t5]) ++ (us.map V.ref).drop k))) b g := (B2.new hp2).new hrl
      generalize upd (upd A2 p2 (.lst ((us.map V.ref).drop k))) rl (.lst (((us.map V.ref).take k ++ [.ref t5]) ++ (us.map V.ref).drop k)) = A3 at s3' frl B3 ⊢
      refine ⟨two, fun t6 ht6 => ⟨one, fun L6 hL6 => ⟨p3, L6, _, [.ref t6], rfl, rfl, Same.new hL6 _ _ (Same.new ht6 _ _ (s3' _ _ (s2 _ _ f3))), upd_same, ?_, fun P6 hP6 => ?_⟩⟩⟩
      · rw [List.length_map]
        show tsi.length + 1 ≤ sizeLine
        have : (bi ++ [p]).length ≤ 3 := ok.b3
        simp at this
        omega
      have s4 : Same A3 (upd (upd (upd A3 t6 (.tup [.str p.1, .ref rl])) L6 (.lst [.ref t6])) P6 (.lst (tsi.map V.ref ++ [.ref t6]))) := ((Same.new ht6).trans (Same.new hL6)).trans (Same.new hP6)
      have f6 : (upd (upd (upd A3 t6 (.tup [.str p.1, .ref rl])) L6 (.lst [.ref t6])) P6 (.lst (tsi.map V.ref ++ [.ref t6]))) t6 = some (.tup [.str p.1, .ref rl]) := Same.new hP6 _ _ (Same.new hL6 _ _ upd_same)
      have fP : (upd (upd (upd A3 t6 (.tup [.str p.1, .ref rl])) L6 (.lst [.ref t6])) P6 (.lst (tsi.map V.ref ++ [.ref t6]))) P6 = some (.lst (tsi.map V.ref ++ [.ref t6])) := upd_same
      have n6 := B3.nb ht6
      have nP := ((B3.new (o := (.tup [.str p.1, .ref rl])) ht6).new (o := (.lst [.ref t6])) hL6).nb hP6
      have B4 : DealAt (upd (upd (upd A3 t6 (.tup [.str p.1, .ref rl])) L6 (.lst [.ref t6])) P6 (.lst (tsi.map V.ref ++ [.ref t6]))) b g := ((B3.new ht6).new hL6).new hP6
      generalize upd (upd (upd A3 t6 (.tup [.str p.1, .ref rl])) L6 (.lst [.ref t6])) P6 (.lst (tsi.map V.ref ++ [.ref t6])) = A4 at s4 f6 fP B4 ⊢
      refine ⟨two, fun tz htz => ?_⟩
      have s5 := s4.trans (Same.new (o := .tup [.ref c, .ref P6]) htz)
      have s25 := (s2.trans s3').trans s5
      have sAll := s1.trans s25
      have SAll := S7.trans (hh_same sAll)
      have okO := with_open (k := k) ok hp6
      refine q tz c P6 d cs (bi ++ [withOpen p k]) _ okO.1 (fun z => by rw [z] at okO; cases okO.2) ((k3.trans k7).trans (Kd.same sAll)) (B4.new htz) (hhn_get upd_same (B4.nb htz)) (hC3.mono SAll) ⟨tsi ++ [t6], hhn_get (by rw [List.map_append]; exact Same.new htz _ _ fP) nP, ?_⟩
      have hbi : Paired (PartAt (hh (upd A4 tz (.tup [.ref c, .ref P6])) b g)) tsi bi := by
        have := paired_mono (fun _ _ e => e.same SAll) hb0
        exact paired_init hli this
      refine paired_snoc ⟨rl, hhn_get (Same.new htz _ _ f6) n6, us.take k ++ [t5] ++ us.drop k, hhn_get ?_ nrl, ?_⟩ hbi
      · rw [s5 _ _ frl, List.map_append, List.map_append, List.map_take, List.map_drop]
        rfl
      · have hus2 := hus.same SAll
        have t5s : hh (upd A4 tz (.tup [.ref c, .ref P6])) b g t5 = some (.tup (rowTup (.opn "x"))) := hhn_get ((s3'.trans s5) _ _ f5) n5
        exact paired_app (paired_app (paired_take k hus2) (.cons t5s .nil)) (paired_drop k hus2)
end
end Pn

namespace Pn
open PySem PySem.Spec PyProof.Rows L2 TL
abbrev sLeaves : Stmt := top 77
/-! ### drawn leaves: words by pairs of an open place and a counter -/
theorem parts_same {A B : Hp} {pl : Addr} {bk : List PartD} (s : Same A B) (h : PartsAt A pl bk) : PartsAt B pl bk := by
  obtain ⟨ts, e1, e2⟩ := h
  exact ⟨ts, s _ _ e1, paired_mono (fun _ _ e => e.same s) e2⟩
theorem Kd.put {b g p : Addr} {H H1 : Hp} {o : HO} (h : Kd b g H H1) (hp : H p = none) : Kd b g H (upd H1 p o) := h.updn hp
/-- what drawn leaves hold -/
structure TabOk (cs : List (Str × Str)) (bk : List PartD) (n : Nat) (T : Tab) : Prop where
  len : T.length ≤ n
  nd : (T.map (·.1)).Nodup
  keys : ∀ e ∈ T, e.1.1 ∈ opens (unrolled bk) ∧ e.1.2 ∈ cs.map (·.1)
  words : ∀ e ∈ T, e.2 = "on" ∨ e.2 = "any"
theorem putT_len (T : Tab) (k : KP) (w : Str) : (putT T k w).length ≤ T.length + 1 := by
  unfold putT
  split
  · rw [List.length_map]; omega
  · rw [List.length_append]; exact Nat.le_refl _
theorem putT_nd {T : Tab} (h : (T.map (·.1)).Nodup) (k : KP) (w : Str) : ((putT T k w).map (·.1)).Nodup := by
  unfold putT
  by_cases a : (T.any fun e => decide (e.1 = k)) = true
  · rw [if_pos a]
    have ek : (T.map (fun e => if e.1 = k then (e.1, w) else e)).map (·.1) = T.map (·.1) := by
      rw [List.map_map]
      congr 1
      funext e
      show (if e.1 = k then (e.1, w) else e).1 = e.1
      split <;> rfl
    rw [ek]
    exact h
  · rw [if_neg a, List.map_append, List.nodup_append]
    refine ⟨h, by simp, fun x hx y hy => ?_⟩
    obtain ⟨e, he, rfl⟩ := List.mem_map.mp hx
    rw [List.mem_singleton.mp hy]
    intro z
    exact a (List.any_eq_true.mpr ⟨e, he, decide_eq_true z⟩)
theorem putT_words {T : Tab} {k : KP} {w : Str} {G : Str → Prop} (h : ∀ e ∈ T, G e.2) (hw : G w) : ∀ e ∈ putT T k w, G e.2 := by
  intro e he
  unfold putT at he
  split at he
  · obtain ⟨x, hx, rfl⟩ := List.mem_map.mp he
    split
    · exact hw
    · exact h x hx
  · rcases List.mem_append.mp he with he | he
    · exact h e he
    · rw [List.mem_singleton.mp he]
      exact hw
theorem TabOk.put {cs : List (Str × Str)} {bk : List PartD} {n : Nat} {T : Tab} (h : TabOk cs bk n T) {k : KP} {w : Str} (hk : k.1 ∈ opens (unrolled bk) ∧ k.2 ∈ cs.map (·.1)) (hw : w = "on" ∨ w = "any") : TabOk cs bk (n + 1) (putT T k w) :=
  ⟨Nat.le_trans (putT_len _ _ _) (Nat.succ_le_succ h.len), putT_nd h.nd _ _, putT_keys (G := fun k => k.1 ∈ opens (unrolled bk) ∧ k.2 ∈ cs.map (·.1)) h.keys hk, putT_words (G := fun w => w = "on" ∨ w = "any") h.words hw⟩
section
variable {P : Program} {w : World} {K : PySem.W.Frag} {mg : Str → Option Value} {base : Heap}
structure TLeav (K : PySem.W.Frag) (mg : Str → Option Value) : Type extends TBare K mg where
  leaves : At K mg "_law_leaves" sLeaves ["_law_deal_here", "_law_book_here", "_law_most"]
def spLeaves : Sp := fun vs H Q _ => ∃ (b g t c pl : Addr) (d : Pool) (cs : List (Str × Str)) (bk : List PartD) (m : Nat), vs = [.ref b, .ref t, .int (m : Int)] ∧ DealAt H b g ∧ hh H b g t = some (.tup [.ref c, .ref pl]) ∧ CsAt (hh H b g) c cs ∧ PartsAt (hh H b g) pl bk ∧ BookOk d cs bk ∧ opens (unrolled bk) ≠ [] ∧ m ≤ 30 ∧
  ∀ (D : Addr) (T : Tab) (H' : Hp), Kd b g H H' → DealAt H' b g → hh H' b g D = some (.dT (T.map entT2)) → TabOk cs bk m T → Q (.ref D) H'
theorem scLeaves : FnScope ["_law_deal_here", "_law_book_here", "_law_most", "_law_found", "_law_turn", "_law_pair"] ["_law_deal_here", "_law_book_here", "_law_most"] (defScope sLeaves) := ⟨rfl, rfl, rfl, by decide +kernel, rfl, by decide +kernel, by decide +kernel⟩
theorem ok_leaves (T : TLeav K mg) : FnOk P w K mg base CX0 6 T.leaves.f T.leaves.fd ["_law_deal_here", "_law_book_here", "_law_most"] spLeaves := by
  refine T.leaves.F.ok scLeaves (fun vs H Q E h => ?_) (fun cdv A outer s H vs Q E hr h => ?_)
  · obtain ⟨b, g, t, c, pl, d, cs, bk, m, rfl, _⟩ := h
    rfl
  · obtain ⟨b, g, t, c, pl, d, cs, bk, m, rfl, hB, ht, hC, hP, ok, hne, hm30, q⟩ := h
    refine ⟨_, (pss_cons (ps_set (i := 3) scLeaves.nd rfl (Or.inl rfl) pe_dnewT)
(pss_cons (ps_for PassesOwn.never rfl (pi_range1 (by rfl) T.mR (pa_cons (pe_ifExp (pt_cmpR (op_neD hr.units) (pe_call (ok_opens T.toTOpn) (hr.mono (by decide)) rfl T.opens.m T.opens.F.kp T.opens.b .nil pass0 (pa_cons (pv 1) pa_nil)) (pe_lst pa_nil) (nomark _)) (pe_call T.okChoose (hr.mono (by decide)) rfl T.choose.m T.choose.F.kp T.choose.b .nil pass0 (pa_cons (pv 0) (pa_cons (pe_op op_add (pv 2) pe_int) pa_nil))) pe_int) pa_nil)) (pg_name (i := 4) scLeaves.nd rfl (Or.inl rfl))
(pss_cons (ps_set (i := 5) scLeaves.nd rfl (Or.inl rfl) (pe_tup (pa_cons (pe_call T.okOne (hr.mono (by decide)) rfl T.one.m T.one.F.kp T.one.b .nil pass0 (pa_cons (pv 0) (pa_cons (pe_call (ok_opens T.toTOpn) (hr.mono (by decide)) rfl T.opens.m T.opens.F.kp T.opens.b .nil pass0 (pa_cons (pv 1) pa_nil)) pa_nil))) (pa_cons (pe_ix ix_tup (pe_call T.okOne (hr.mono (by decide)) rfl T.one.m T.one.F.kp T.one.b .nil pass0 (pa_cons (pv 0) (pa_cons (pe_ix ix_tup (pv 1) pe_int (fun _ _ => rfl)) pa_nil))) pe_int (fun _ _ => rfl)) pa_nil))))
(pss_one (ps_dput (roomDl hr) (pv 3) (pv 5) (pe_call T.okOne (hr.mono (by decide)) rfl T.one.m T.one.F.kp T.one.b .nil pass0 (pa_cons (pv 0) (pa_cons (pe_lst (pa_cons pe_str (pa_cons pe_str (pa_cons pe_str (pa_cons pe_str pa_nil))))) pa_nil))) (by rfl)))))
(pss_one (ps_ret (pv 3))))), ?_⟩
    intro D hD
    try dsimp only [List.set]
    have zero : 0 ≤ sizeLine := by decide
    have two : 2 ≤ sizeLine := by decide
    have four : 4 ≤ sizeLine := by decide
    have big : (1000 : Nat) ≤ sizeLine := by decide
    have nD := hB.nb hD
    have ht1 := zz_new (b := b) (g := g) (o := .dT []) hD _ _ ht
    have hC1 := hC.mono (zz_new (o := .dT []) hD)
    have hP1 := parts_same (zz_new (o := .dT []) hD) hP
    have hB1 := hB.new (o := .dT []) hD
    have k1 := (Kd.refl b g H).new (o := .dT []) hD
    have eD : upd H D (.dT []) D = some (.dT (([] : Tab).map entT2)) := upd_same
    generalize upd H D (.dT []) = H1 at ht1 hC1 hP1 hB1 k1 eD ⊢
    have b4 : bk.length ≤ 4 := by have := ok.b3; omega
    have zs : ∀ {A : Hp}, Same (zz A b g D) A := zz_sub
    refine ⟨_, rfl, t, c, pl, bk, rfl, SqT.of (zs _ _ ht1), parts_same zs hP1, ok.puts, ok.b0, b4, fun O ys H2 s2 hO hOl hm hyl => ⟨zero, fun e he => ?_⟩⟩
    refine ⟨.list (ys.map PyData.str), .list [], .lst (SqL.of (Same.new he _ _ hOl)) (dp_strL ys), .lst (SqL.of upd_same) .nil, strL_sh (fun x hx => (name_ok (opens_ok ok x ((hm x).mp hx))).1), by decide +kernel, _, rfl, ?_⟩
    rw [strsL_nil]
    have yne : ys.isEmpty = false := by
      cases hy : ys with
      | cons _ _ => rfl
      | nil =>
        exfalso
        apply hne
        rw [List.eq_nil_iff_forall_not_mem]
        intro z hz
        have := (hm z).mpr hz
        rw [hy] at this
        cases this
    rw [yne]
    refine iteTB rfl ?_
    have s3 := s2.trans (Same.new (o := .lst []) he)
    have hB3 := hB1.same s3
    have k3 := k1.trans (Kd.same s3)
    have ht3 := zz_same (b := b) (g := g) (p := D) s3 _ _ ht1
    have hC3 := hC1.mono (zz_same (b := b) (g := g) (p := D) s3)
    have hP3 := parts_same (zz_same (b := b) (g := g) (p := D) s3) hP1
    have eD3 := s3 _ _ eD
    generalize upd H2 e (.lst []) = H3 at s3 hB3 k3 ht3 hC3 hP3 eD3 ⊢
    clear hOl hO he s2 s3 hB1 k1 ht1 hC1 hP1 eD
    refine ⟨_, rfl, _, rfl, _, _, rfl, rfl, b, g, _, rfl, hB3, by omega, by omega, fun r H4 r0 r1 hB4 k4 _ => ?_⟩
    refine ⟨_, rfl, by omega, by omega, for_range (lo := 0) (fun i σ Hi => ∃ x4 x5 T', σ = [some (.ref b), some (.ref t), some (.int (m : Int)), some (.ref D), x4, x5] ∧ Kd b g H Hi ∧ DealAt Hi b g ∧ Hi D = some (.dT (T'.map entT2)) ∧ TabOk cs bk i T' ∧ zz Hi b g D t = some (.tup [.ref c, .ref pl]) ∧ CsAt (zz Hi b g D) c cs ∧ PartsAt (zz Hi b g D) pl bk)
      ⟨_, _, [], rfl, k3.trans k4, hB4, k4 _ _ eD3 nD, ⟨Nat.zero_le _, .nil, (fun e he => absurd he List.not_mem_nil), (fun e he => absurd he List.not_mem_nil)⟩, zz_kp k4 _ _ ht3, hC3.mono (zz_kp k4), parts_same (zz_kp k4) hP3⟩ (fun i σ Hi hi hP => ?turn) (fun σ Hi hP => ?fin)⟩
    case fin =>
      obtain ⟨x4, x5, T', rfl, kI, hBI, eI, okT, _⟩ := hP
      exact ⟨_, rfl, q D T' Hi kI hBI (hhn_get eI nD) ⟨by have := okT.len; omega, okT.nd, okT.keys, okT.words⟩⟩
    case turn =>
      obtain ⟨x4, x5, T', rfl, kI, hBI, eI, okT, htI, hCI, hPI⟩ := hP
      try dsimp only [List.set]
      refine ⟨_, rfl, _, rfl, t, c, pl, bk, rfl, SqT.of (zs _ _ htI), parts_same zs hPI, ok.puts, ok.b0, b4, fun O ys2 Ha sa hO hOl hm2 hyl2 => ?_⟩
      have hBa := hBI.same sa
      have y2 : 0 < ys2.length := by
        rw [List.length_pos_iff]
        intro z
        apply hne
        rw [List.eq_nil_iff_forall_not_mem]
        intro x hx
        have := (hm2 x).mpr hx
        rw [z] at this
        cases this
      refine ⟨b, g, O, _, rfl, hBa, SqL.of hOl, hBI.nb hO, by rw [List.length_map]; exact y2, by rw [List.length_map]; omega, fun v Hb hv hBb kb _ => ?_⟩
      obtain ⟨z, hz, rfl⟩ := List.mem_map.mp hv
      have zAB : Same (zz Hi b g D) (zz Hb b g D) := (zz_same sa).trans (zz_kp kb)
      obtain ⟨cts, hcl, hcp⟩ := hCI.mono zAB
      have lct := paired_len hcp
      have c0 := ok.c0
      have c3 := ok.c3
      refine ⟨_, rfl, _, rfl, t, _, _, .ref c, rfl, rfl, SqT.of (zs _ _ (zAB _ _ htI)), rfl, b, g, c, cts.map V.ref, rfl, hBb, SqL.of (zs _ _ hcl), hh_nb (zz_hid _ _ hcl), by rw [List.length_map]; omega, by rw [List.length_map]; omega, fun v Hc hv hBc kc _ => ?_⟩
      obtain ⟨tc, htm, rfl⟩ := List.mem_map.mp hv
      obtain ⟨ic, hic⟩ := List.getElem?_of_mem htm
      obtain ⟨pr, hpr, htt⟩ := paired_at hcp hic
      have zAC := zAB.trans (zz_kp kc)
      refine ⟨tc, _, _, _, rfl, rfl, SqT.of (zs _ _ (zz_kp kc _ _ htt)), rfl, two, fun kp hkp => ?_⟩
      try dsimp only [List.set]
      have nkp := hBc.nb hkp
      have hBk := hBc.new (o := .tup [.str z, .str pr.1]) hkp
      refine ⟨_, rfl, four, fun lw hlw => ⟨b, g, lw, _, rfl, hBk.new hlw, SqL.of upd_same, hBk.nb hlw, by show 0 < 4; decide, by show 4 < 1000000; decide, fun v Hd hv hBd kd _ => ?_⟩⟩
      have hw : ∃ u : Str, v = .str u ∧ (u = "on" ∨ u = "any") := by
        simp only [List.mem_cons, List.not_mem_nil, or_false] at hv
        rcases hv with rfl | rfl | rfl | rfl
        · exact ⟨_, rfl, .inl rfl⟩
        · exact ⟨_, rfl, .inl rfl⟩
        · exact ⟨_, rfl, .inl rfl⟩
        · exact ⟨_, rfl, .inr rfl⟩
      obtain ⟨u, rfl, hu⟩ := hw
      have kAll : Kd b g Hi Hd := (((((Kd.same sa).trans kb).trans kc).new hkp).new hlw).trans kd
      have eDd := kAll _ _ eI nD
      have ekp := kd kp _ (Same.new hlw _ _ upd_same) nkp
      have small : (T'.map entT2).length < sizeLine := by
        rw [List.length_map]
        have := okT.len
        omega
      refine ⟨_, rfl, _, rfl, D, _, rfl, DPut.t (k := keyT (z, pr.1)) eDd ekp small, ?_⟩
      have zAll : Same (zz Hi b g D) (zz (upd Hd D (.dT (putK (T'.map entT2) (keyT (z, pr.1)) (.str u)))) b g D) := (zz_kp kAll).trans zz_put
      refine ⟨_, _, putT T' (z, pr.1) u, rfl, (kI.trans kAll).updn hD, hBd.upd nD.1 nD.2, by rw [upd_same, putT_map], okT.put ⟨(hm2 z).mp hz, List.mem_map.mpr ⟨pr, List.mem_of_getElem? hpr, rfl⟩⟩ hu, zAll _ _ htI, hCI.mono zAll, parts_same zAll hPI⟩
end
end Pn

namespace Pn
open PySem PySem.Spec PyProof.Rows L2 TL
abbrev sLof : Stmt := top 78
/-! ### drawn leaves made -/
def triE (e : KP × Str) : Tri := (e.1.1, e.1.2, e.2)
section
variable {P : Program} {w : World} {K : PySem.W.Frag} {mg : Str → Option Value} {base : Heap} {R : TRows K mg} {F : TFill R}
def spLof (Y : TLv F) : Sp := fun vs H Q _ => ∃ (a : Addr) (T : Tab), vs = [.ref a] ∧ TabAt H a T ∧ (T.map (·.1)).Nodup ∧ T.length ≤ 30 ∧ (∀ e ∈ T, triB (triE e) = true) ∧ ∀ (x : Addr) (H' : Hp), Same H H' → LvAt Y H' x (rightsM (T.map triE)) → Q (.ref x) H'
theorem scLof : FnScope ["_law_leaves_here", "_law_name", "_law_counter"] ["_law_leaves_here"] (defScope sLof) := ⟨rfl, rfl, rfl, by decide +kernel, rfl, by decide +kernel, by decide +kernel⟩
theorem ok_lof (Y : TLv F) (L : At K mg "_law_leaves_of" sLof ["_law_leaves_here"]) : FnOk P w K mg base CX0 7 L.f L.fd ["_law_leaves_here"] (spLof Y) := by
  refine L.F.ok scLof (fun vs H Q E h => ?_) (fun cdv A outer s H vs Q E hr h => ?_)
  · obtain ⟨a, T, rfl, _⟩ := h
    rfl
  · obtain ⟨a, T, rfl, hT, nd, hl, hB, q⟩ := h
    refine ⟨_, (pss_one (ps_ret (pe_make Y.M (ok_lInit Y) (hr.mono (by decide)) rfl Y.mC Y.bI .nil pass0 (pa_cons (pe_lock (pe_lc (own := [("_law_name", 1), ("_law_counter", 2)]) (g := gTup K 2 (gCons (gName 1) (gCons (gName 2) gNil))) (tt := tYes) (by rfl) scLof.nd (pi_keys (pv 0))
 (blkOk_by (N := ["_law_leaves_here", "_law_name", "_law_counter"]) (sc := defScope sLof) (by decide +kernel)) (fun _ _ _ _ _ => (pg_tup (by rfl) (pgs_cons (pg_name (i := 1) scLof.nd rfl (Or.inl rfl)) (pgs_cons (pg_name (i := 2) scLof.nd rfl (Or.inl rfl)) pgs_nil)))) (fun _ _ _ _ _ => pts_nil) (fun _ _ _ _ _ => (pe_tup (pa_cons (pv 1) (pa_cons (pv 2) (pa_cons (pe_dget (roomDl hr) (pv 0) (pe_tup (pa_cons (pv 1) (pa_cons (pv 2) pa_nil))) (fun _ _ => rfl)) pa_nil))))))) pa_nil)))), ?_⟩
    have two : 2 ≤ sizeLine := by decide
    have three : 3 ≤ sizeLine := by decide
    have rep : ∀ (e : KP × Str), e ∈ T → valV (T.map entT2) (keyT e.1) = some (.str e.2) := fun e he => by
      rw [tab_val]
      have hf : T.find? (fun x => decide (x.1 = e.1)) = some e := by
        clear hT hl hB q
        induction T with
        | nil => cases he
        | cons x l ih =>
          rw [List.map_cons, List.nodup_cons] at nd
          rcases List.mem_cons.mp he with rfl | he
          · rw [List.find?_cons_of_pos (by simp)]
          · have ne : ¬ x.1 = e.1 := fun z => nd.1 (by rw [z]; exact List.mem_map.mpr ⟨e, he, rfl⟩)
            rw [List.find?_cons_of_neg (by simpa using ne)]
            exact ih nd.2 he
      rw [hf]
      rfl
    refine lcw_keysT (p := a) (tl := tVar 0) (kvs := T.map entT2) (R := fun H v (t : Tri) => ∃ p, v = .ref p ∧ TriAt K H p t) (sel := fun i => (T[i]?).map triE) (fun s h => by obtain ⟨p, e, h⟩ := h; exact ⟨p, e, sqt_sameN s h⟩) (fun hx h => by obtain ⟨p, e, h⟩ := h; exact ⟨p, e, sqt_frzT hx h⟩) (fun H R z => ⟨_, rfl, z⟩) hT (by rw [List.length_map]; omega) (fun Hf od sf ef i k v qk Hi S Yy hkv hq sI h0 h1 => ?tn) (fun D H2 ts hD s2 hDl pd => ?fn)
    case tn =>
      rw [List.getElem?_map] at hkv
      obtain ⟨e, he, ek⟩ := Option.map_eq_some_iff.mp hkv
      cases ek
      have em := List.mem_of_getElem? he
      refine ⟨qk, [.str e.1.1, .str e.1.2], rfl, SqT.of hq, rfl, _, _, rfl, _, _, rfl, rfl, rfl, ?_⟩
      unfold tYes
      refine iteT ?_
      refine ⟨_, rfl, _, rfl, _, rfl, _, rfl, _, rfl, two, fun kp hkp => ?_⟩
      refine ⟨a, .str e.2, rfl, .inr ⟨_, keyT e.1, kp, .inr ⟨od, Same.new hkp _ _ (sI _ _ ef)⟩, rfl, upd_same, (rep e em).symm⟩, three, fun tp htp => ?_⟩
      exact h1 (triE e) (by show (T[i]?).map _ = _; rw [he]; rfl) _ _ ((Same.new hkp).trans (Same.new htp)) ⟨tp, rfl, SqT.of upd_same⟩
    case fn =>
      rw [List.length_map, out_map] at pd
      have key : ∀ {us : List V} {cs : List Tri}, Paired (fun v t => ∃ p, v = V.ref p ∧ TriAt K H2 p t) us cs → ∃ as : List Addr, us = as.map V.ref ∧ TrisIn K H2 as cs := fun h => by
        induction h with
        | nil => exact ⟨[], rfl, .nil⟩
        | cons h _ ih =>
          obtain ⟨p, rfl, ht⟩ := h
          obtain ⟨as, rfl, hr⟩ := ih
          exact ⟨p :: as, rfl, .cons ht hr⟩
      obtain ⟨as, rfl, hts⟩ := key pd
      refine lv_made Y (ts := T.map triE) ⟨D, as, rfl, .inl (SqL.of hDl), hts⟩ (fun t ht => by obtain ⟨e, he, rfl⟩ := List.mem_map.mp ht; exact hB e he) (FewT.of (by rw [List.length_map]; omega)) fun x H' s' hL => ?_
      exact q x H' (s2.trans s') hL
end
end Pn

namespace Pn
open PySem PySem.Spec PyProof.Rows L2 TL
theorem cut_toF (xs : List V) (i : Nat) : cutV xs none (some (i : Int)) = xs.take i := by
  unfold cutV
  rw [HT.sIx_none, HT.sIx_nat, List.drop_zero, Nat.sub_zero]
  rcases Nat.le_total i xs.length with h | h
  · rw [Nat.min_eq_left h]
  · rw [Nat.min_eq_right h, List.take_of_length_le (Nat.le_refl _), List.take_of_length_le h]
theorem slTo_go {K : PySem.W.Frag} {H : Hp} {a : Addr} {xs : List V} {m : Nat} {Q : VK} (h : SqT K H a xs) (q : ∀ (b : Addr) (H' : Hp), Same H H' → SqT K H' b (xs.take m) → Q (.ref b) H') : rSlA K (.ref a) none (some (m : Int)) H Q := by
  refine ⟨a, xs, rfl, h, fun hw => q a H (Same.refl _) ?_, fun _ p hp => q p _ (Same.new hp) ?_⟩
  · have e := hw.2
    rw [HT.sIx_nat] at e
    rw [List.take_of_length_le (by omega)]
    exact h
  · rw [← cut_toF]
    exact SqT.of upd_same
end Pn

namespace Pn
open PySem PySem.Spec PyProof.Rows L2 TL
/-! ### the heap but for a deal and one list more -/
def hhL (H : Hp) (d g L : Addr) : Hp := hid (hh H d g) L
theorem hhL_ne {H : Hp} {d g L a : Addr} {o : HO} (h : hhL H d g L a = some o) : a ≠ L ∧ a ≠ d ∧ a ≠ g ∧ H a = some o := by
  have n := hid_ne h
  obtain ⟨n1, n2, e⟩ := hh_ne (hid_sub _ _ h)
  exact ⟨n, n1, n2, e⟩
theorem hhL_get {H : Hp} {d g L a : Addr} {o : HO} (h : H a = some o) (n : a ≠ L) (n1 : a ≠ d) (n2 : a ≠ g) : hhL H d g L a = some o := hid_get (hh_get h n1 n2) n
theorem hhL_hh {H : Hp} {d g L : Addr} : Same (hhL H d g L) (hh H d g) := fun _ _ e => hid_sub _ _ e
theorem hhL_same {A B : Hp} {d g L : Addr} (s : Same (hh A d g) (hh B d g)) : Same (hhL A d g L) (hhL B d g L) := fun a o e => by
  have n := hid_ne e
  exact hid_get (s _ _ (hid_sub _ _ e)) n
theorem hhL_put {H : Hp} {d g L : Addr} {o : HO} : Same (hhL H d g L) (hhL (upd H L o) d g L) := fun _ _ e => by
  obtain ⟨n, n1, n2, e⟩ := hhL_ne e
  exact hhL_get (by rw [upd_ne n]; exact e) n n1 n2
theorem hhL_first {H : Hp} {d g L : Addr} {o : HO} (h : H L = none) : Same (hh H d g) (hhL (upd H L o) d g L) := fun _ _ e => by
  obtain ⟨n1, n2, e⟩ := hh_ne e
  have n := ne_of_none e h
  exact hhL_get (by rw [upd_ne n]; exact e) n n1 n2
section
variable {P : Program} {w : World} {K : PySem.W.Frag} {mg : Str → Option Value} {base : Heap}
/-! ### drawn counters -/
def TupsAt (H : Hp) (ts : List Addr) (cs : List (Str × Str)) : Prop := Paired (fun t (p : Str × Str) => H t = some (.tup [.str p.1, .str p.2])) ts cs
theorem TupsAt.same {A B : Hp} {ts : List Addr} {cs : List (Str × Str)} (s : Same A B) (h : TupsAt A ts cs) : TupsAt B ts cs := paired_mono (fun _ _ e => s _ _ e) h
end
end Pn

namespace Pn
open PySem PySem.Spec PyProof.Rows L2 TL
abbrev sLPairs : Stmt := inClass (top 23) 1
abbrev sLStr : Stmt := inClass (top 23) 10
/-! ### the pairs of leaves, their text -/
def freeM (rs : List Tri) : List (Str × Str) := rs.filterMap fun t => if t.2.2 = ("any" : Str) then some (t.1, t.2.1) else none
def pairB (rs : List Tri) (t : Tri) : Bool := decide (t.2.2 = ("any" : Str)) || !decide ((t.1, t.2.1) ∈ freeM rs)
def pairsM (rs : List Tri) : List Tri := rs.filter (pairB rs)
def prD (t : Str × Str) : PyData := .tuple [.str t.1, .str t.2]
theorem pr_lay {t : Str × Str} (h : PyData.strOk t.1 = true ∧ PyData.strOk t.2 = true) : PyData.canLay0 (prD t) = true ∧ PyData.depth (prD t) ≤ 1 := by
  obtain ⟨a, b⟩ := h
  constructor
  · unfold prD
    simp only [PyData.canLay0, PyData.canLayAll0, a, b, Bool.and_self]
  · unfold prD
    simp [PyData.depth, PyData.depthAll]
theorem prs_lay : ∀ {l : List (Str × Str)}, (∀ t ∈ l, PyData.strOk t.1 = true ∧ PyData.strOk t.2 = true) → PyData.canLayAll0 (l.map prD) = true ∧ PyData.depthAll (l.map prD) ≤ 1
  | [], _ => ⟨by simp only [List.map_nil, PyData.canLayAll0], by simp [PyData.depthAll]⟩
  | t :: l, h => by
    obtain ⟨a, b⟩ := pr_lay (h t List.mem_cons_self)
    obtain ⟨c, d⟩ := prs_lay fun z hz => h z (List.mem_cons_of_mem _ hz)
    refine ⟨by simp only [List.map_cons, PyData.canLayAll0, a, c, Bool.and_self], ?_⟩
    simp only [List.map_cons, PyData.depthAll]
    omega
theorem pr_eqv (a b : Str × Str) : PyData.eqv (prD a) (prD b) = decide (a = b) := by
  have e : ∀ x y : Str, PyData.eqv (.str x) (.str y) = decide (x = y) := fun x y => by
    by_cases h : x = y <;> simp [PyData.eqv, h]
  unfold prD
  simp only [PyData.eqv, PyData.eqvAll]
  obtain ⟨a1, a2⟩ := a
  obtain ⟨b1, b2⟩ := b
  by_cases h1 : a1 = b1 <;> by_cases h2 : a2 = b2 <;> simp [h1, h2]
theorem prs_any (l : List (Str × Str)) (t : Str × Str) : ((l.map prD).any fun z => PyData.eqv z (prD t)) = decide (t ∈ l) := by
  induction l with
  | nil => simp
  | cons a l ih =>
    rw [List.map_cons, List.any_cons, ih, pr_eqv]
    by_cases h : a = t
    · simp [h]
    · have h' : ¬ t = a := fun z => h z.symm
      by_cases h2 : t ∈ l <;> simp [h, h', h2]
section
variable {P : Program} {w : World} {K : PySem.W.Frag} {mg : Str → Option Value} {base : Heap} {R : TRows K mg} {F : TFill R} {Y : TLv F}
abbrev PrAt (K : PySem.W.Frag) (H : Hp) (a : Addr) (t : Str × Str) : Prop := SqT K H a [.str t.1, .str t.2]
theorem prs_dp {H : Hp} : ∀ {as : List Addr} {ts : List (Str × Str)}, Paired (PrAt K H) as ts → DpAll K H (as.map V.ref) (ts.map prD)
  | _, _, .nil => .nil
  | _, _, .cons a r => .cons (.tup a (.cons (.str _) (.cons (.str _) .nil))) (prs_dp r)
def rNotPr (K : PySem.W.Frag) : R2 := fun x y H Q => ∃ (a p : Addr) (t : Str × Str) (as : List Addr) (rs : List (Str × Str)), x = .ref a ∧ PrAt K H a t ∧ y = .ref p ∧ SqL K H p (as.map V.ref) ∧ Paired (PrAt K H) as rs ∧
  (PyData.strOk t.1 = true ∧ PyData.strOk t.2 = true) ∧ (∀ t ∈ rs, PyData.strOk t.1 = true ∧ PyData.strOk t.2 = true) ∧ Q (.bl (!decide (t ∈ rs))) H
theorem op_notPr {X : Cx} (hu : X.A.units + 65 < PySem.cLine) : OpR X (compareOp .NotIn) (rNotPr X.K) := by
  intro pins s σ H x y v u Q I rx ry h
  obtain ⟨a, p, t, as, rs, rfl, ha, rfl, hp, hr, ht, hrs, q⟩ := h
  obtain ⟨as1, r1⟩ := Dp.reads I (prD t) (.ref a) v (.tup ha (.cons (.str _) (.cons (.str _) .nil))) rx
  obtain ⟨bs1, r2⟩ := Dp.reads I (.list (rs.map prD)) (.ref p) u (.lst hp (prs_dp hr)) ry
  have se := prs_lay hrs
  have sd := pr_lay ht
  rw [← prs_any] at q
  exact SeqAt.notIn_list_reads r2 r1 se.1 sd.1 (by have := Nat.min_le_right (PyData.depthAll (rs.map prD)) (prD t).depth; omega) ⟨.bl _, H, I, rfl, q⟩
/-- objects made in a comprehension over a tuple, some turns left out -/
theorem lcw_objsF {α : Type} {tl : TE} {g : TG} {tt : TT} {te : TE} {vs : List Nat} {σ : L2.St} {H : Hp} {Q : VK} {p : Addr} {xs : List V} {R : Hp → Addr → α → Prop} {sel : Nat → Option α} (hR : ∀ {H H' : Hp} {t : Addr} {c : α}, SameN H H' → R H t c → R H' t c)
    (h0 : ∀ R : VK, R (.ref p) H → tl σ H R) (hp : SqT K H p xs) (hl : xs.length ≤ 1000)
    (turn : ∀ (i : Nat) (x : V) (Hi : Hp) (S : Hp → Prop) (Y : VK), xs[i]? = some x → Same H Hi → (sel i = none → ∀ H', Same Hi H' → S H') → (∀ c, sel i = some c → ∀ t H', Same Hi H' → R H' t c → Y (.ref t) H') → g x (wipe σ vs) Hi fun σ2 H2 => wipe σ2 vs = wipe σ vs ∧ tt σ2 H2 fun b H3 => if b = true then te σ2 H3 Y else S H3)
    (fin : ∀ (D : Addr) (H' : Hp) (ts : List Addr), H D = none → Same H H' → H' D = some (.lst (ts.map V.ref)) → Paired (R H') ts ((List.range xs.length).filterMap sel) → Q (.ref D) H') : tLc (iTup K tl) g tt te vs σ H Q := by
  refine h0 _ ⟨p, rfl, ⟨_, hp⟩, fun D hD => lc_tup (xs := xs) (fun i Hi => Same H Hi ∧ ∃ ts : List Addr, Hi D = some (.lst (ts.map V.ref)) ∧ ts.length ≤ i ∧ Paired (R Hi) ts ((List.range i).filterMap sel)) ⟨Same.new hD, [], upd_same, Nat.le_refl _, .nil⟩ (fun _ _ _ hP => Same.sqt hP.1 hp) (fun i x Hi hx hP => ?_) (fun Hi hP => ?_)⟩
  · obtain ⟨s, ts, hd, hn, pd⟩ := hP
    have hi : i < xs.length := (List.getElem?_eq_some_iff.mp hx).1
    refine turn i x Hi _ _ hx s (fun e H' s' => ⟨s.trans s', ts, s' _ _ hd, Nat.le_succ_of_le hn, ?_⟩) fun c e t H' s' r => ⟨_, s' _ _ hd, small1000 (by rw [List.length_map]; omega), (fun a o e => ?_), ts ++ [t], by rw [upd_same, List.map_append]; rfl, by rw [List.length_append]; exact Nat.add_le_add_right hn 1, ?_⟩
    · rw [List.range_succ, List.filterMap_append]
      simp only [List.filterMap_cons, e, List.filterMap_nil, List.append_nil]
      exact paired_mono (fun _ _ z => hR (SameN.of s') z) pd
    · rw [upd_ne (ne_of_none e hD)]
      exact s' _ _ (s _ _ e)
    · have n2 : SameN H' (upd H' D (.lst (ts.map V.ref ++ [V.ref t]))) := SameN.upd (s' _ _ hd)
      rw [List.range_succ, List.filterMap_append]
      simp only [List.filterMap_cons, e, List.filterMap_nil]
      exact paired_snoc (hR n2 r) (paired_mono (fun _ _ z => hR ((SameN.of s').trans n2) z) pd)
  · obtain ⟨s, ts, hd, _, pd⟩ := hP
    exact fin D Hi ts hD s hd pd
/-- what the pairs and the text of leaves want -/
structure TLvP (Y : TLv F) : Type where
  pairs : TPr K Y.C "pairs" "Leaves.pairs" sLPairs
  str : TMeth K Y.C "__str__" "Leaves.__str__" sLStr ["self"]
def spLPairs (Y : TLv F) : Sp := fun vs H Q _ => ∃ (x : Addr) (rs : List Tri), vs = [.ref x] ∧ LvAt Y H x rs ∧ ∀ (p : Addr) (as : List Addr) (H' : Hp), Same H H' → SqT K H' p (as.map V.ref) → TrisIn K H' as (pairsM rs) → Q (.ref p) H'
theorem scLPairs : FnScope ["self", "free", "name", "counter", "word", "one"] ["self"] (defScope sLPairs) := ⟨rfl, rfl, rfl, by decide +kernel, rfl, by decide +kernel, by decide +kernel⟩
theorem pr_sameN {H H' : Hp} {t : Addr} {c : Str × Str} (s : SameN H H') (h : PrAt K H t c) : PrAt K H' t c := sqt_sameN s h
theorem ok_lPairs (Z : TLvP Y) : FnOk P w K mg base CX0 1 Z.pairs.g Z.pairs.fd ["self"] (spLPairs Y) := by
  refine Z.pairs.F.ok scLPairs (fun vs H Q E h => ?_) (fun cdv A outer s H vs Q E hr h => ?_)
  · obtain ⟨x, rs, rfl, _⟩ := h
    rfl
  · obtain ⟨x, rs, rfl, hL, q⟩ := h
    refine ⟨_, (pss_cons (ps_set (i := 1) scLPairs.nd rfl (Or.inr rfl) (pe_lc (own := [("name", 2), ("counter", 3), ("word", 4)]) (g := gTup K 3 (gCons (gName 2) (gCons (gName 3) (gCons (gName 4) gNil)))) (by rfl) scLPairs.nd (pi_tup (pe_fld (pv 0) rfl))
 (blkOk_by (N := ["self", "free", "name", "counter", "word", "one"]) (sc := defScope sLPairs) (by decide +kernel)) (fun _ _ _ _ _ => (pg_tup (by rfl) (pgs_cons (pg_name (i := 2) scLPairs.nd rfl (Or.inl rfl)) (pgs_cons (pg_name (i := 3) scLPairs.nd rfl (Or.inl rfl)) (pgs_cons (pg_name (i := 4) scLPairs.nd rfl (Or.inl rfl)) pgs_nil))))) (fun _ _ _ _ _ => pts_one (pt_cmpR op_eq (pv 4) pe_str (nomark _))) (fun _ _ _ _ _ => (pe_tup (pa_cons (pv 2) (pa_cons (pv 3) pa_nil))))))
(pss_one (ps_ret (pe_callTy (show CallR _ (.type "tuple") (rTupO K) from call_tupO) (by rfl) F.mTup (by decide +kernel) (pa_cons (pe_lc (own := [("one", 5)]) (g := gName 5) (by rfl) scLPairs.nd (pi_tup (pe_fld (pv 0) rfl))
 (blkOk_by (N := ["self", "free", "name", "counter", "word", "one"]) (sc := defScope sLPairs) (by decide +kernel)) (fun _ _ _ _ _ => (pg_name (i := 5) scLPairs.nd rfl (Or.inl rfl))) (fun _ _ _ _ _ => pts_one (PW.pt (pw_or (pt_cmpR op_eq (pe_ix (show IxR _ (rIxT K) from ix_tup) (pv 5) pe_int (fun _ _ => rfl)) pe_str (nomark _)) (pw_or1 (pt_cmpR (show OpR _ (compareOp .NotIn) (rNotPr K) from op_notPr (roomTr hr)) (pe_slice (show SlR _ (rSlA K) from sl_tupA) (pv 5) po_none (po_some pe_int)) (pv 1) rfl))))) (fun _ _ _ _ _ => (pv 5))) pa_nil))))), ?_⟩
    obtain ⟨dx, p, as, h1, h2, h3, _, h5, h6⟩ := hL
    have l1 := paired_len h3
    have lz : (as.zip rs).length = as.length := by rw [List.length_zip, l1, Nat.min_self]
    have hlen : (as.map V.ref).length = rs.length := by rw [List.length_map, l1]
    unfold tSeq tAsg
    refine lcw_objsF (K := K) (R := PrAt K) (sel := fun i => (rs[i]?).bind fun t => if t.2.2 = ("any" : Str) then some (t.1, t.2.1) else none) (tl := tFld K (tVar 0) "rights") (p := p) (xs := as.map V.ref) (fun s h => pr_sameN s h) (fun R r => ⟨_, rfl, x, Y.C, dx, _, .ref p, rfl, h1, Y.cl, Y.noR, lv_r, r⟩) h2 (by rw [hlen]; exact h6) (fun i v Hi S YY hv si hS hY => ?t1) (fun D H2 ts hD s2 hD2 hfr => ?_)
    case t1 =>
      rw [List.getElem?_map] at hv
      obtain ⟨a, ha, rfl⟩ := Option.map_eq_some_iff.mp hv
      obtain ⟨t, ht, hat⟩ := paired_at h3 ha
      have hb : (rs[i]?).bind (fun t : Tri => if t.2.2 = ("any" : Str) then some (t.1, t.2.1) else none) = if t.2.2 = ("any" : Str) then some (t.1, t.2.1) else none := by rw [ht]; rfl
      refine ⟨a, _, rfl, Same.sqt si hat, rfl, _, _, rfl, _, _, rfl, _, _, rfl, rfl, rfl, ?_⟩
      refine ⟨_, rfl, rfl, _, rfl, ?_⟩
      by_cases hw : t.2.2 = ("any" : Str)
      · refine iteTD (decide_eq_true (congrArg V.str hw)) ?_
        refine ⟨_, rfl, _, rfl, (by show 2 ≤ sizeLine; decide), fun u hu => ?_⟩
        exact hY _ (hb.trans (if_pos hw)) u _ (Same.new hu) (SqT.of upd_same)
      · refine iteFD (decide_eq_false fun z => hw (V.str.inj z)) (hS (hb.trans (if_neg hw)) _ (Same.refl _))
    have hfr2 : Paired (PrAt K H2) ts (freeM rs) := by
      have e : (List.range (as.map V.ref).length).filterMap (fun i => (rs[i]?).bind fun t : Tri => if t.2.2 = ("any" : Str) then some (t.1, t.2.1) else none) = freeM rs := by
        rw [hlen, out_filter]
        rfl
      rw [e] at hfr
      exact hfr
    unfold gName
    dsimp only
    unfold tRet tCB tCons
    dsimp only
    have hok : ∀ t ∈ rs, triS t := fun t ht => tri_strOk (h5 t ht)
    have hfo : ∀ c ∈ freeM rs, PyData.strOk c.1 = true ∧ PyData.strOk c.2 = true := fun c hc => by
      obtain ⟨t, ht, e⟩ := List.mem_filterMap.mp hc
      by_cases hw : t.2.2 = ("any" : Str)
      · rw [if_pos hw] at e
        cases e
        exact ⟨(hok t ht).1, (hok t ht).2.1⟩
      · rw [if_neg hw] at e
        cases e
    refine lcw_tup (K := K) (tl := tFld K (tVar 0) "rights") (p := p) (xs := as.map V.ref) (fun R r => ⟨_, rfl, x, Y.C, dx, _, .ref p, rfl, s2 _ _ h1, Y.cl, Y.noR, lv_r, r⟩) (Same.sqt s2 h2) (by rw [hlen]; omega) (out := fun i => ((as.zip rs)[i]?).bind fun z => if pairB rs z.2 = true then some (V.ref z.1) else none) (fun i v Hi S YY hv si hS hY => ?_) (fun D2 H3 hD2 s3 hD3 => ?_)
    · rw [List.getElem?_map] at hv
      obtain ⟨a, ha, rfl⟩ := Option.map_eq_some_iff.mp hv
      obtain ⟨t, ht, hat⟩ := paired_at h3 ha
      have hz : (as.zip rs)[i]? = some (a, t) := List.getElem?_zip_eq_some.mpr ⟨ha, ht⟩
      have hb : ((as.zip rs)[i]?).bind (fun z => if pairB rs z.2 = true then some (V.ref z.1) else none) = if pairB rs t = true then some (V.ref a) else none := by rw [hz]; rfl
      have hat2 := Same.sqt (s2.trans si) hat
      refine ⟨rfl, ?_⟩
      refine ⟨_, rfl, a, _, 2, _, rfl, rfl, hat2, rfl, rfl, _, rfl, ?_⟩
      by_cases hw : t.2.2 = ("any" : Str)
      · have hp : pairB rs t = true := by unfold pairB; rw [decide_eq_true hw]; rfl
        refine iteTD (decide_eq_true (congrArg V.str hw)) (iteT ?_)
        exact ⟨_, rfl, hY _ (hb.trans (if_pos hp)) _ (Same.refl _)⟩
      · have hp : pairB rs t = !decide ((t.1, t.2.1) ∈ freeM rs) := by unfold pairB; rw [decide_eq_false hw, Bool.false_or]
        refine iteFD (decide_eq_false fun z => hw (V.str.inj z)) ?_
        refine ⟨_, rfl, _, rfl, slTo_go (m := 2) hat2 fun b H4 s4 hb4 => ?_⟩
        have hD4 : H4 D = some (.lst (ts.map V.ref)) := s4 _ _ (si _ _ hD2)
        refine ⟨_, rfl, b, D, (t.1, t.2.1), ts, freeM rs, rfl, hb4, rfl, SqL.of hD4, paired_mono (fun _ _ z => Same.sqt (si.trans s4) z) hfr2, ⟨(hok t (List.mem_of_getElem? ht)).1, (hok t (List.mem_of_getElem? ht)).2.1⟩, hfo, _, rfl, ?_⟩
        rw [← hp]
        cases hpp : pairB rs t with
        | true => exact iteT ⟨_, rfl, hY _ (hb.trans (if_pos hpp)) _ s4⟩
        | false => exact iteF (hS (hb.trans (if_neg (by simp [hpp]))) _ s4)
    · obtain ⟨cs, c1, c2⟩ := tris_kept (pairB rs) h3
      have hD4 : H3 D2 = some (.lst (cs.map V.ref)) := by rw [hD3, List.length_map, ← lz, out_filter, c2]
      refine ⟨D2, _, rfl, .inl ⟨SqL.of hD4, fun l hl => ?_⟩⟩
      have s4 := Same.new (o := .tup (cs.map V.ref)) hl
      exact q l cs _ ((s2.trans s3).trans s4) (SqT.of upd_same) (TrisIn.same c1 ((s2.trans s3).trans s4))
end
end Pn

namespace Pn
open PySem PySem.W PyProof.Rows
/-! ### an operator of an own class, both sides of this class; in place by the same method -/
section
variable {M : Model} {prog : Program} {w : World} {A : Around} {E : Value → Shared → Prop} {s : Shared} {K : Frag} {x C L f : Addr} {h₀ : Heap} {m : Str → Option Value} {ox : Obj} {od : Option Obj} {nm : String}
end
end Pn
namespace Pn
open PySem L2
section
variable {X : Cx} {CX : CXT} {k : Nat} {f C : Addr} {fd : FuncData} {ps : List Str} {sp : Sp} {E : XK}
def rBinIns (K : PySem.W.Frag) (nm : Str) (f : Addr) (sp : Sp) (E : XK) : R2 := fun x y H Q => ∃ (a b C dx dy : Addr) (fs gs : List (Str × V)), x = .ref a ∧ y = .ref b ∧ H a = some (.ins C dx fs) ∧ H b = some (.ins C dy gs) ∧
  PySem.W.selfFirst K C = true ∧ PySem.W.findIn K (.ref C) nm = some (some (.ref f)) ∧ sp [x, y] H Q E
/-- a op b of two instances of an own class with this operator -/
theorem op_binIns {op : Operator} (F : FnOk X.prog X.w X.K X.mg X.base CX k f fd ps sp) (hf : PySem.W.isFn X.K (.ref f) = true) (hr : Room k X.A) (hb : Binds X.K fd ps []) (hx : Passes CX X E) : OpR X (binaryOp op) (rBinIns X.K (PySem.dunder op.info.2) f sp E) := by
  intro pins s σ H x y v u Q I rx ry h
  obtain ⟨a, b, C, dx, dy, fs, gs, rfl, rfl, ha, hb2, hc, hs, q⟩ := h
  cases rx
  cases ry
  obtain ⟨mA, O, _⟩ := ins_get I.hok ha
  obtain ⟨od, J, _⟩ := O.look
  obtain ⟨mB, O2, _⟩ := ins_get I.hok hb2
  obtain ⟨od2, J2, _⟩ := O2.look
  obtain ⟨m, hF⟩ := I.fr
  refine PySem.W.binop_K hF I.ok.mod.kin J J2.type hc hs hf ?_
  refine wpAny_mono (run_fnA F hr I.env0 hb hx I (.cons (show RelV (.ref a) (Value.ref a) from rfl) (.cons (show RelV (.ref b) (Value.ref b) from rfl) .nil)) q) (fun w s' z => ?_) fun _ _ x => x
  obtain ⟨z', H', I', rz, qz⟩ := z
  exact SlX.cmpback rz ⟨z', H', I', rz, qz⟩
end
end Pn

namespace Pn
open PySem PySem.Spec PyProof.Rows L2 TL
/-! ### |, &, != of leaves, str(leaves) as rules -/
section
variable {K : PySem.W.Frag} {mg : Str → Option Value} {R : TRows K mg} {F : TFill R}
structure TLvR {Y : TLv F} (Z : TLvE Y) : Type where
  sf : PySem.W.selfFirst K Y.C = true
  nC : PySem.W.notFirst K Y.C (.ref Y.C) = true
  ne : PySem.W.findIn K (.ref Y.C) "__ne__" = some (some (.builtin "object.__ne__"))
def rOrLv (Y : TLv F) : R2 := fun x y H Q => ∃ (a b : Addr) (rs qs : List Tri), x = .ref a ∧ y = .ref b ∧ LvAt Y H a rs ∧ LvAt Y H b qs ∧ FewT (rs ++ qs) ∧ ∀ (z : Addr) (H' : Hp), Same H H' → LvAt Y H' z (rightsM (rs ++ qs)) → Q (.ref z) H'
def rAndLv (Y : TLv F) : R2 := fun x y H Q => ∃ (a b : Addr) (rs qs : List Tri), x = .ref a ∧ y = .ref b ∧ LvAt Y H a rs ∧ LvAt Y H b qs ∧ FewT rs ∧ ∀ (z : Addr) (H' : Hp), Same H H' → LvAt Y H' z (rightsM (rs.filter fun t => decide (t ∈ qs))) → Q (.ref z) H'
def rNeLv (Y : TLv F) : R2 := fun x y H Q => ∃ (a b : Addr) (rs qs : List Tri), x = .ref a ∧ y = .ref b ∧ LvAt Y H a rs ∧ LvAt Y H b qs ∧ Q (.bl (!decide (rs = qs))) H
theorem op_orLv {X : Cx} (hK : X.K = K) (hm : X.mg = mg) {Y : TLv F} {Z : TLvE Y} (J : TLvJ Z) (RR : TLvR Z) (hr : Room 6 X.A) : OpR X (binaryOp .BitOr) (rOrLv Y) := by
  subst hK
  subst hm
  intro pins s σ H x y v u Q I rx ry h
  obtain ⟨a, b, rs, qs, rfl, rfl, ha, hb, hl, q⟩ := h
  obtain ⟨dx, _, _, hx, _⟩ := id ha
  obtain ⟨dy, _, _, hy, _⟩ := id hb
  exact op_binIns (ok_lOr J) J.or.hf hr J.or.b pass0 pins s σ H _ _ v u Q I rx ry ⟨a, b, _, dx, dy, _, _, rfl, rfl, hx, hy, RR.sf, J.or.hs, a, b, rs, qs, rfl, ha, hb, hl, q⟩
theorem op_andLv {X : Cx} (hK : X.K = K) (hm : X.mg = mg) {Y : TLv F} {Z : TLvE Y} (J : TLvJ Z) (RR : TLvR Z) (hr : Room 6 X.A) : OpR X (binaryOp .BitAnd) (rAndLv Y) := by
  subst hK
  subst hm
  intro pins s σ H x y v u Q I rx ry h
  obtain ⟨a, b, rs, qs, rfl, rfl, ha, hb, hl, q⟩ := h
  obtain ⟨dx, _, _, hx, _⟩ := id ha
  obtain ⟨dy, _, _, hy, _⟩ := id hb
  exact op_binIns (ok_lAnd J) J.and.hf hr J.and.b pass0 pins s σ H _ _ v u Q I rx ry ⟨a, b, _, dx, dy, _, _, rfl, rfl, hx, hy, RR.sf, J.and.hs, a, b, rs, qs, rfl, ha, hb, hl, q⟩
theorem op_neLv {X : Cx} (hK : X.K = K) (hm : X.mg = mg) {Y : TLv F} {Z : TLvE Y} (RR : TLvR Z) (hr : Room 3 X.A) : OpR X (compareOp .NotEq) (rNeLv Y) := by
  subst hK
  subst hm
  intro pins s σ H x y v u Q I rx ry h
  obtain ⟨a, b, rs, qs, rfl, rfl, ha, hb, q⟩ := h
  obtain ⟨dx, _, _, hx, _⟩ := id ha
  obtain ⟨dy, _, _, hy, _⟩ := id hb
  exact op_neIns (ok_lEq Z) Z.eq.hf hr Z.eq.b pass0 pins s σ H _ _ v u Q I rx ry ⟨a, _, dx, _, rfl, hx, Z.eq.hs, RR.ne, Z.cM, .inr ⟨b, _, dy, _, rfl, hy, RR.nC⟩, a, b, rs, qs, rfl, ha, hb, _, rfl, q⟩
end
end Pn

namespace Pn
open PySem L2
/-! ### <= and >= of own instances whose class has these of its own -/
section
variable {X : Cx} {CX : CXT} {k : Nat} {f C : Addr} {fd : FuncData} {ps : List Str} {sp : Sp} {E : XK}
def rCmpIns (K : PySem.W.Frag) (nm : Str) (f : Addr) (sp : Sp) (E : XK) : R2 := fun x y H Q => ∃ (a b C D dx dy : Addr) (fs gs : List (Str × V)), x = .ref a ∧ y = .ref b ∧ H a = some (.ins C dx fs) ∧ H b = some (.ins D dy gs) ∧ PySem.W.findIn K (.ref C) nm = some (some (.ref f)) ∧ PySem.W.notFirst K C (.ref D) = true ∧ sp [x, y] H Q E
theorem cmp_own {op : CmpOp} (F : FnOk X.prog X.w X.K X.mg X.base CX k f fd ps sp) (hf : PySem.W.isFn X.K (.ref f) = true) (hr : Room k X.A) (hb : Binds X.K fd ps []) (hx : Passes CX X E) : OpR X (richCompare op) (rCmpIns X.K (cmpInfo op).2.1 f sp E) := by
  intro pins s σ H x y v u Q I rx ry h
  obtain ⟨a, b, C, D, dx, dy, fs, gs, rfl, rfl, ha, hb2, hs, hn, q⟩ := h
  cases rx
  cases ry
  obtain ⟨mA, O, _⟩ := ins_get I.hok ha
  obtain ⟨od, J, _⟩ := O.look
  obtain ⟨mB, O2, _⟩ := ins_get I.hok hb2
  obtain ⟨od2, J2, _⟩ := O2.look
  obtain ⟨m, hF⟩ := I.fr
  refine PySem.W.cmp_K (op := op) (tb := .ref D) hr.units0 hF I.ok.mod.kin J J2.type hn hs hf ?_
  refine wpAny_mono (run_fnA F hr I.env0 hb hx I (.cons (show RelV (.ref a) (Value.ref a) from rfl) (.cons (show RelV (.ref b) (Value.ref b) from rfl) .nil)) q) (fun w s' z => ?_) fun _ _ x => x
  obtain ⟨z', H', I', rz, qz⟩ := z
  exact SlX.cmpback rz ⟨z', H', I', rz, qz⟩
theorem op_leIns (F : FnOk X.prog X.w X.K X.mg X.base CX k f fd ps sp) (hf : PySem.W.isFn X.K (.ref f) = true) (hr : Room k X.A) (hb : Binds X.K fd ps []) (hx : Passes CX X E) : OpR X (compareOp .LtE) (rCmpIns X.K "__le__" f sp E) :=
  fun pins s σ H x y v u Q I rx ry h => cmp_own (op := .LtE) F hf hr hb hx pins s σ H x y v u Q I rx ry h
theorem op_geIns (F : FnOk X.prog X.w X.K X.mg X.base CX k f fd ps sp) (hf : PySem.W.isFn X.K (.ref f) = true) (hr : Room k X.A) (hb : Binds X.K fd ps []) (hx : Passes CX X E) : OpR X (compareOp .GtE) (rCmpIns X.K "__ge__" f sp E) :=
  fun pins s σ H x y v u Q I rx ry h => cmp_own (op := .GtE) F hf hr hb hx pins s σ H x y v u Q I rx ry h
end
end Pn

namespace Pn
open PySem PySem.Spec PyProof.Rows L2 TL
abbrev sLLe : Stmt := inClass (top 23) 7
abbrev sLGe : Stmt := inClass (top 23) 8
/-! ### leaves within others; in place -/
section
variable {P : Program} {w : World} {K : PySem.W.Frag} {mg : Str → Option Value} {base : Heap} {R : TRows K mg} {F : TFill R} {Y : TLv F} {Z : TLvE Y}
structure TLvC (J : TLvJ Z) : Type where
  le : TMeth K Y.C "__le__" "Leaves.__le__" sLLe ["self", "other"]
  ge : TMeth K Y.C "__ge__" "Leaves.__ge__" sLGe ["self", "other"]
  hq : mroQ K Y.C = true
  h1 : PySem.W.findIn K (.ref Y.C) "__ior__" = some none
  h2 : PySem.W.findIn K (.type "object") "__ior__" = some none
  h3 : PySem.W.findIn K (.ref Y.C) "__iand__" = some none
  h4 : PySem.W.findIn K (.type "object") "__iand__" = some none
variable {J : TLvJ Z}
/-- all of rs is in qs -/
def inB (rs qs : List Tri) : Bool := rs.all fun t => decide (t ∈ qs)
theorem inB_iff {rs qs : List Tri} : inB rs qs = true ↔ ∀ t ∈ rs, t ∈ qs := by
  unfold inB
  rw [List.all_eq_true]
  exact ⟨fun h t ht => of_decide_eq_true (h t ht), fun h t ht => decide_eq_true (h t ht)⟩
def spLLe (Y : TLv F) : Sp := fun vs H Q _ => ∃ (x y : Addr) (rs qs : List Tri), vs = [.ref x, .ref y] ∧ LvAt Y H x rs ∧ LvAt Y H y qs ∧ ∀ H', Same H H' → Q (.bl (inB rs qs)) H'
def spLGe (Y : TLv F) : Sp := fun vs H Q _ => ∃ (x y : Addr) (rs qs : List Tri), vs = [.ref x, .ref y] ∧ LvAt Y H x rs ∧ LvAt Y H y qs ∧ ∀ H', Same H H' → Q (.bl (inB qs rs)) H'
theorem scLLe : FnScope ["self", "other", "one"] ["self", "other"] (defScope sLLe) := ⟨rfl, rfl, rfl, by decide +kernel, rfl, by decide +kernel, by decide +kernel⟩
theorem scLGe : FnScope ["self", "other", "one"] ["self", "other"] (defScope sLGe) := ⟨rfl, rfl, rfl, by decide +kernel, rfl, by decide +kernel, by decide +kernel⟩
theorem ok_lLe (C : TLvC J) : FnOk P w K mg base CX0 3 C.le.f C.le.fd ["self", "other"] (spLLe Y) := by
  refine C.le.F.ok scLLe (fun vs H Q E h => ?_) (fun cdv A outer s H vs Q E hr h => ?_)
  · obtain ⟨x, y, rs, qs, rfl, _⟩ := h
    rfl
  · obtain ⟨x, y, rs, qs, rfl, hx, hy, q⟩ := h
    refine ⟨_, (pss_cons (ps_expr (pe_call (ok_needL J) (hr.mono (by decide)) rfl J.needL.m J.needL.F.kp J.needL.b .nil pass0 (pa_cons (pv 1) pa_nil)))
(pss_one (ps_ret (pe_callB (cr_all rfl) (by rfl) R.N.mAll (by decide +kernel) (pa_cons (pe_lc (own := [("one", 2)]) (g := gName 2) (tt := tYes) (by rfl) scLLe.nd (pi_tup (pe_fld (pv 0) rfl))
 (blkOk_by (N := ["self", "other", "one"]) (sc := defScope sLLe) (by decide +kernel)) (fun _ _ _ _ _ => (pg_name (i := 2) scLLe.nd rfl (Or.inl rfl))) (fun _ _ _ _ _ => pts_nil) (fun _ _ _ _ _ => (pe_cmpR (show OpR _ (compareOp .In) (rInTri K) from op_inTri (roomTr hr)) (pv 2) (show PE _ _ (tFld K (tVar 1) "rights") from pe_fld (pv 1) rfl) rfl))) pa_nil))))), ?_⟩
    refine ⟨_, rfl, y, qs, rfl, hy, ?_⟩
    obtain ⟨dx, p, as, h1, h2, h3, _, h5, h6⟩ := hx
    obtain ⟨dy, p', bs, g1, g2, g3, _, g5, _⟩ := hy
    have l1 := paired_len h3
    unfold tRet tCB tCons
    dsimp only
    refine lcw_tup (K := K) (tl := tFld K (tVar 0) "rights") (p := p) (xs := as.map V.ref) (fun R r => ⟨_, rfl, x, Y.C, dx, _, .ref p, rfl, h1, Y.cl, Y.noR, lv_r, r⟩) h2 (by rw [List.length_map, l1]; omega) (out := fun i => (rs[i]?).map fun t => V.bl (decide (t ∈ qs))) (fun i v Hi S YY hv si hS hY => ?_) (fun D H2 hD s2 hD2 => ?_)
    · rw [List.getElem?_map] at hv
      obtain ⟨a, ha, rfl⟩ := Option.map_eq_some_iff.mp hv
      obtain ⟨t, ht, hat⟩ := paired_at h3 ha
      refine ⟨rfl, ?_⟩
      unfold tYes
      refine iteT ?_
      refine ⟨_, rfl, _, rfl, y, Y.C, dy, _, .ref p', rfl, si _ _ g1, Y.cl, Y.noR, lv_r, a, p', t, bs, qs, rfl, Same.sqt si hat, rfl, Same.sqt si g2, g3.same si, tri_strOk (h5 t (List.mem_of_getElem? ht)), (fun t ht => tri_strOk (g5 t ht)), ?_⟩
      exact hY _ (by show (rs[i]?).map _ = _; rw [ht]; rfl) _ (Same.refl _)
    · rw [List.length_map, l1, out_map] at hD2
      refine ⟨D, rs.map fun t => decide (t ∈ qs), rfl, SqL.of (by rw [hD2, List.map_map]; rfl), ?_⟩
      have e : (rs.map fun t => decide (t ∈ qs)).all id = inB rs qs := by
        unfold inB
        rw [List.all_map]
        rfl
      rw [e]
      exact q _ s2
theorem ok_lGe (C : TLvC J) : FnOk P w K mg base CX0 3 C.ge.f C.ge.fd ["self", "other"] (spLGe Y) := by
  refine C.ge.F.ok scLGe (fun vs H Q E h => ?_) (fun cdv A outer s H vs Q E hr h => ?_)
  · obtain ⟨x, y, rs, qs, rfl, _⟩ := h
    rfl
  · obtain ⟨y, x, qs, rs, rfl, hy, hx, q⟩ := h
    refine ⟨_, (pss_cons (ps_expr (pe_call (ok_needL J) (hr.mono (by decide)) rfl J.needL.m J.needL.F.kp J.needL.b .nil pass0 (pa_cons (pv 1) pa_nil)))
(pss_one (ps_ret (pe_callB (cr_all rfl) (by rfl) R.N.mAll (by decide +kernel) (pa_cons (pe_lc (own := [("one", 2)]) (g := gName 2) (tt := tYes) (by rfl) scLGe.nd (pi_tup (pe_fld (pv 1) rfl))
 (blkOk_by (N := ["self", "other", "one"]) (sc := defScope sLGe) (by decide +kernel)) (fun _ _ _ _ _ => (pg_name (i := 2) scLGe.nd rfl (Or.inl rfl))) (fun _ _ _ _ _ => pts_nil) (fun _ _ _ _ _ => (pe_cmpR (show OpR _ (compareOp .In) (rInTri K) from op_inTri (roomTr hr)) (pv 2) (show PE _ _ (tFld K (tVar 0) "rights") from pe_fld (pv 0) rfl) rfl))) pa_nil))))), ?_⟩
    refine ⟨_, rfl, x, rs, rfl, hx, ?_⟩
    obtain ⟨dx, p, as, h1, h2, h3, _, h5, h6⟩ := hx
    obtain ⟨dy, p', bs, g1, g2, g3, _, g5, _⟩ := hy
    have l1 := paired_len h3
    unfold tRet tCB tCons
    dsimp only
    refine lcw_tup (K := K) (tl := tFld K (tVar 1) "rights") (p := p) (xs := as.map V.ref) (fun R r => ⟨_, rfl, x, Y.C, dx, _, .ref p, rfl, h1, Y.cl, Y.noR, lv_r, r⟩) h2 (by rw [List.length_map, l1]; omega) (out := fun i => (rs[i]?).map fun t => V.bl (decide (t ∈ qs))) (fun i v Hi S YY hv si hS hY => ?_) (fun D H2 hD s2 hD2 => ?_)
    · rw [List.getElem?_map] at hv
      obtain ⟨a, ha, rfl⟩ := Option.map_eq_some_iff.mp hv
      obtain ⟨t, ht, hat⟩ := paired_at h3 ha
      refine ⟨rfl, ?_⟩
      unfold tYes
      refine iteT ?_
      refine ⟨_, rfl, _, rfl, y, Y.C, dy, _, .ref p', rfl, si _ _ g1, Y.cl, Y.noR, lv_r, a, p', t, bs, qs, rfl, Same.sqt si hat, rfl, Same.sqt si g2, g3.same si, tri_strOk (h5 t (List.mem_of_getElem? ht)), (fun t ht => tri_strOk (g5 t ht)), ?_⟩
      exact hY _ (by show (rs[i]?).map _ = _; rw [ht]; rfl) _ (Same.refl _)
    · rw [List.length_map, l1, out_map] at hD2
      refine ⟨D, rs.map fun t => decide (t ∈ qs), rfl, SqL.of (by rw [hD2, List.map_map]; rfl), ?_⟩
      have e : (rs.map fun t => decide (t ∈ qs)).all id = inB rs qs := by
        unfold inB
        rw [List.all_map]
        rfl
      rw [e]
      exact q _ s2
def rLeLv (Y : TLv F) : R2 := fun x y H Q => ∃ (a b : Addr) (rs qs : List Tri), x = .ref a ∧ y = .ref b ∧ LvAt Y H a rs ∧ LvAt Y H b qs ∧ ∀ H', Same H H' → Q (.bl (inB rs qs)) H'
def rGeLv (Y : TLv F) : R2 := fun x y H Q => ∃ (a b : Addr) (rs qs : List Tri), x = .ref a ∧ y = .ref b ∧ LvAt Y H a rs ∧ LvAt Y H b qs ∧ ∀ H', Same H H' → Q (.bl (inB qs rs)) H'
theorem op_leLv {X : Cx} (hK : X.K = K) (hm : X.mg = mg) (RR : TLvR Z) (C : TLvC J) (hr : Room 3 X.A) : OpR X (compareOp .LtE) (rLeLv Y) := by
  subst hK
  subst hm
  intro pins s σ H x y v u Q I rx ry h
  obtain ⟨a, b, rs, qs, rfl, rfl, ha, hb, q⟩ := h
  obtain ⟨dx, _, _, hx, _⟩ := id ha
  obtain ⟨dy, _, _, hy, _⟩ := id hb
  exact op_leIns (ok_lLe C) C.le.hf hr C.le.b pass0 pins s σ H _ _ v u Q I rx ry ⟨a, b, _, _, dx, dy, _, _, rfl, rfl, hx, hy, C.le.hs, RR.nC, a, b, rs, qs, rfl, ha, hb, q⟩
theorem op_geLv {X : Cx} (hK : X.K = K) (hm : X.mg = mg) (RR : TLvR Z) (C : TLvC J) (hr : Room 3 X.A) : OpR X (compareOp .GtE) (rGeLv Y) := by
  subst hK
  subst hm
  intro pins s σ H x y v u Q I rx ry h
  obtain ⟨a, b, rs, qs, rfl, rfl, ha, hb, q⟩ := h
  obtain ⟨dx, _, _, hx, _⟩ := id ha
  obtain ⟨dy, _, _, hy, _⟩ := id hb
  exact op_geIns (ok_lGe C) C.ge.hf hr C.ge.b pass0 pins s σ H _ _ v u Q I rx ry ⟨a, b, _, _, dx, dy, _, _, rfl, rfl, hx, hy, C.ge.hs, RR.nC, a, b, rs, qs, rfl, ha, hb, q⟩
end
end Pn

namespace Pn
open PySem PySem.Spec PyProof.Rows L2 TL
abbrev sItems : Stmt := top 82
/-! ### drawn triples, their table -/
def poolN : List Str := ["x", "y", "zzzz", "on", "c"]
def poolC : List Str := ["c", "f", "any", "x", "abcd"]
def goodK (k : KP) : Prop := k.1 ∈ poolN ∧ k.2 ∈ poolC
def keyOf (t : Tri) : KP := (t.1, t.2.1)
def goodW (t : Tri) : Prop := t.2.2 = "on" ∨ t.2.2 = "any"
def goodT (t : Tri) : Prop := goodK (keyOf t) ∧ goodW t
def triK (k : KP) (w : Str) : Tri := (k.1, k.2, w)
theorem triK_of (t : Tri) : triK (keyOf t) t.2.2 = t := rfl
theorem triK_inj {k j : KP} {v w : Str} (h : triK k v = triK j w) : k = j ∧ v = w := by
  obtain ⟨k1, k2⟩ := k
  obtain ⟨j1, j2⟩ := j
  injection h with h1 h
  injection h with h2 h3
  have h1 : k1 = j1 := h1
  have h2 : k2 = j2 := h2
  exact ⟨by rw [h1, h2], h3⟩
/-- the word of a pair -/
def wordM (ts : List Tri) (k : KP) : Str := if triK k "any" ∈ ts then "any" else if triK k "on" ∈ ts then "on" else ""
theorem wds : ("any" : Str) ≠ "" ∧ ("on" : Str) ≠ "" ∧ ("any" : Str) ≠ "on" := by decide +kernel
theorem word_cases (ts : List Tri) (k : KP) : wordM ts k = "any" ∨ wordM ts k = "on" ∨ wordM ts k = "" := by
  unfold wordM
  by_cases h : triK k "any" ∈ ts
  · exact .inl (if_pos h)
  · rw [if_neg h]
    by_cases h2 : triK k "on" ∈ ts
    · exact .inr (.inl (if_pos h2))
    · exact .inr (.inr (if_neg h2))
theorem word_any {ts : List Tri} {k : KP} : wordM ts k = "any" ↔ triK k "any" ∈ ts := by
  unfold wordM
  by_cases h : triK k "any" ∈ ts
  · rw [if_pos h]
    exact ⟨fun _ => h, fun _ => rfl⟩
  · rw [if_neg h]
    refine ⟨fun z => ?_, fun z => absurd z h⟩
    by_cases h2 : triK k "on" ∈ ts
    · rw [if_pos h2] at z
      exact absurd z.symm wds.2.2
    · rw [if_neg h2] at z
      exact absurd z.symm wds.1
theorem word_some {ts : List Tri} {k : KP} : wordM ts k ≠ "" ↔ triK k "any" ∈ ts ∨ triK k "on" ∈ ts := by
  unfold wordM
  by_cases h : triK k "any" ∈ ts
  · rw [if_pos h]
    exact ⟨fun _ => .inl h, fun _ => wds.1⟩
  · rw [if_neg h]
    by_cases h2 : triK k "on" ∈ ts
    · rw [if_pos h2]
      exact ⟨fun _ => .inr h2, fun _ => wds.2.1⟩
    · rw [if_neg h2]
      exact ⟨fun z => absurd rfl z, fun z => absurd z (by rintro (z | z); exact h z; exact h2 z)⟩
structure TDealP (K : PySem.W.Frag) (mg : Str → Option Value) : Type where
  mI : mg "int" = none
  mA : mg "abs" = none
  mL : mg "len" = none
  mR : mg "range" = none
  deal : At K mg "_law_deal" sDeal ["_law_script", "_law_base"]
  draw : At K mg "_law_draw" sDraw ["_law_deal_here", "_law_many"]
  pick : At K mg "_law_pick" sPick ["_law_deal_here", "_law_some"]
structure TItm (K : PySem.W.Frag) (mg : Str → Option Value) : Type extends TDealP K mg where
  items : At K mg "_law_items" sItems ["_law_deal_here", "_law_many"]
section
variable {P : Program} {w : World} {K : PySem.W.Frag} {mg : Str → Option Value} {base : Heap}
theorem TDealP.okDraw (T : TDealP K mg) : FnOk P w K mg base CX0 1 T.draw.f T.draw.fd ["_law_deal_here", "_law_many"] spDraw := ok_draw T.draw.F T.mI T.mL
theorem TDealP.okPick (T : TDealP K mg) : FnOk P w K mg base CX0 2 T.pick.f T.pick.fd ["_law_deal_here", "_law_some"] (spPick K) := ok_pick T.pick.F T.mL T.draw T.mI
theorem DealAt.ndL {H : Hp} {d g p : Addr} (h : DealAt H d g) {ss : List Str} (e : H p = some (.lst (ss.map V.str))) (h0 : 0 < ss.length) : p ≠ d ∧ p ≠ g := by
  obtain ⟨_, xs, n, m, t, e1, e2, _⟩ := h
  refine ⟨fun z => ?_, fun z => ?_⟩
  · rw [z, e1] at e
    cases e
  · rw [z, e2] at e
    cases ss with
    | nil => simp at h0
    | cons a l => cases xs <;> cases e
def spItems (K : PySem.W.Frag) : Sp := fun vs H Q _ => ∃ (d g : Addr) (m : Nat), vs = [.ref d, .int (m : Int)] ∧ DealAt H d g ∧ m ≤ 30 ∧
  ∀ (l : Addr) (as : List Addr) (ts : List Tri) (H' : Hp), DealAt H' d g → Same (hh H d g) (hh H' d g) → Mo H H' → hh H' d g l = some (.lst (as.map V.ref)) → TrisIn K (hh H' d g) as ts → ts.length ≤ m → (∀ t ∈ ts, goodT t) → Q (.ref l) H'
theorem scItems : FnScope ["_law_deal_here", "_law_many", "_law_found", "_law_turn", "_law_names", "_law_counters_here"] ["_law_deal_here", "_law_many"] (defScope sItems) := ⟨rfl, rfl, rfl, by decide +kernel, rfl, by decide +kernel, by decide +kernel⟩
theorem TItm.okItems (T : TItm K mg) : FnOk P w K mg base CX0 3 T.items.f T.items.fd ["_law_deal_here", "_law_many"] (spItems K) := by
  refine T.items.F.ok scItems (fun vs H Q E h => ?_) (fun cdv A outer s H vs Q E hr h => ?_)
  · obtain ⟨d, g, m, rfl, _⟩ := h
    rfl
  · obtain ⟨d, g, m, rfl, hD, hm, q⟩ := h
    refine ⟨_, (pss_cons (ps_par (i := 4) (j := 5) (by rfl) scItems.nd rfl rfl (by decide) rfl rfl (pa_cons (pe_lst (pa_cons pe_str (pa_cons pe_str (pa_cons pe_str (pa_cons pe_str (pa_cons pe_str pa_nil)))))) (pa_cons (pe_lst (pa_cons pe_str (pa_cons pe_str (pa_cons pe_str (pa_cons pe_str (pa_cons pe_str pa_nil)))))) pa_nil)) (by rfl))
(pss_cons (ps_set (i := 2) scItems.nd rfl (Or.inl rfl) (pe_lst pa_nil))
(pss_cons (ps_for PassesOwn.never rfl (pi_range1 (by rfl) T.mR (pa_cons (pe_call T.okDraw (hr.mono (by decide)) rfl T.draw.m T.draw.F.kp T.draw.b .nil pass0 (pa_cons (pv 0) (pa_cons (pe_op op_add (pv 1) pe_int) pa_nil))) pa_nil)) (pg_name (i := 3) scItems.nd rfl (Or.inl rfl))
(pss_one (ps_expr (pe_bm PySem.F.plainAttrs_list PySem.F.slot_list_append PySem.F.type_list_append mt_append (pv 2) (pa_cons (pe_tup (pa_cons (pe_call T.okPick (hr.mono (by decide)) rfl T.pick.m T.pick.F.kp T.pick.b .nil pass0 (pa_cons (pv 0) (pa_cons (pv 4) pa_nil))) (pa_cons (pe_call T.okPick (hr.mono (by decide)) rfl T.pick.m T.pick.F.kp T.pick.b .nil pass0 (pa_cons (pv 0) (pa_cons (pv 5) pa_nil))) (pa_cons (pe_call T.okPick (hr.mono (by decide)) rfl T.pick.m T.pick.F.kp T.pick.b .nil pass0 (pa_cons (pv 0) (pa_cons (pe_lst (pa_cons pe_str (pa_cons pe_str (pa_cons pe_str pa_nil)))) pa_nil))) pa_nil)))) pa_nil)))))
(pss_one (ps_ret (pv 2)))))), ?_⟩
    have five : 5 ≤ sizeLine := by decide
    have three : 3 ≤ sizeLine := by decide
    have big : (1000 : Nat) ≤ sizeLine := by decide
    refine stepPar (fun v v2 H' => ∃ A B, v = .ref A ∧ v2 = .ref B ∧ DealAt H' d g ∧ Same (hh H d g) (hh H' d g) ∧ Mo H H' ∧ H' A = some (.lst (poolN.map V.str)) ∧ H' B = some (.lst (poolC.map V.str))) (fun Q' hQ => ?p1) (fun v v2 H1 hC => ?p2)
    case p1 =>
      refine ⟨five, fun A hA => ⟨five, fun B hB => hQ _ _ _ ⟨A, B, rfl, rfl, (hD.new hA).new hB, (hh_new hA).trans (hh_new hB), Mo.upd.trans Mo.upd, Same.new hB _ _ upd_same, upd_same⟩⟩⟩
    case p2 =>
    obtain ⟨A, B, rfl, rfl, hD1, s1, m1, eA, eB⟩ := hC
    try dsimp only [List.set]
    refine ⟨Nat.zero_le _, fun L hL => ?_⟩
    have nL := hD1.nd hL
    have nAL := ne_of_none eA hL
    have nBL := ne_of_none eB hL
    have nA := hD1.ndL eA (by decide)
    have nB := hD1.ndL eB (by decide)
    have hD3 := hD1.new (o := .lst []) hL
    have s3 : Same (hh H d g) (hhL (upd H1 L (.lst [])) d g L) := s1.trans (hhL_first hL)
    have e3 : upd H1 L (.lst []) L = some (.lst []) := upd_same
    have m3 : Mo H (upd H1 L (.lst [])) := m1.trans Mo.upd
    have eA3 : hhL (upd H1 L (.lst [])) d g L A = some (.lst (poolN.map V.str)) := hhL_get (Same.new hL _ _ eA) nAL nA.1 nA.2
    have eB3 : hhL (upd H1 L (.lst [])) d g L B = some (.lst (poolC.map V.str)) := hhL_get (Same.new hL _ _ eB) nBL nB.1 nB.2
    generalize upd H1 L (.lst []) = H3 at hD3 s3 e3 m3 eA3 eB3 ⊢
    try dsimp only [List.set]
    refine ⟨_, rfl, _, rfl, _, _, rfl, rfl, d, g, (m : Int) + 1, rfl, hD3, by omega, by omega, fun r H4 r0 r1 hD4 s4 m4 => ?_⟩
    obtain ⟨n, rfl⟩ : ∃ n : Nat, r = (n : Int) := ⟨r.toNat, by omega⟩
    have hn : n ≤ m := by omega
    have e4 : H4 L = some (.lst []) := hh_sub _ _ (s4 _ _ (hh_get e3 nL.1 nL.2))
    refine ⟨(n : Int), rfl, by omega, by omega, for_range (lo := 0) (n := (n : Int).toNat) (fun i σ Hx => ∃ (y3 : Option V) (as : List Addr) (ts : List Tri), σ = [some (.ref d), some (.int (m : Int)), some (.ref L), y3, some (.ref A), some (.ref B)] ∧ DealAt Hx d g ∧ Mo H Hx ∧ Same (hhL H3 d g L) (hhL Hx d g L) ∧ Hx L = some (.lst (as.map V.ref)) ∧ TrisIn K (hhL Hx d g L) as ts ∧ ts.length = i ∧ ∀ t ∈ ts, goodT t)
      ⟨_, [], [], rfl, hD4, m3.trans m4, hhL_same s4, e4, .nil, rfl, (fun t ht => nomatch ht)⟩ (fun i σ Hx hi hP => ?turn) (fun σ Hx hP => ?fin)⟩
    case fin =>
      obtain ⟨y3, as, ts, rfl, hDx, mx, sx, eL, hT, hl, hg⟩ := hP
      exact ⟨_, rfl, q L as ts Hx hDx ((s3.trans sx).trans hhL_hh) mx (hh_get eL nL.1 nL.2) (hT.same hhL_hh) (by omega) hg⟩
    case turn =>
      obtain ⟨y3, as, ts, rfl, hDx, mx, sx, eL, hT, hl, hg⟩ := hP
      have hal := paired_len hT
      try dsimp only [List.set]
      have eAx := hhL_hh _ _ (sx _ _ eA3)
      refine ⟨_, rfl, .inl ⟨rfl, _, SqL.of eL⟩, ?_⟩
      refine ⟨_, rfl, _, rfl, d, g, A, _, rfl, hDx, SqL.of eAx, by decide, by decide, fun v1 Ha hv1 hDa sa ma => ?_⟩
      have sxa := sx.trans (hhL_same sa)
      have eBa := hhL_hh _ _ (sxa _ _ eB3)
      refine ⟨_, rfl, _, rfl, d, g, B, _, rfl, hDa, SqL.of eBa, by decide, by decide, fun v2 Hb hv2 hDb sb mb => ?_⟩
      refine ⟨_, rfl, three, fun W hW => ?_⟩
      have hDw := hDb.new (o := .lst [.str "on", .str "on", .str "any"]) hW
      refine ⟨d, g, W, [.str "on", .str "on", .str "any"], rfl, hDw, SqL.of (hh_at hDb hW), by decide, by decide, fun v3 Hc hv3 hDc sc mc => ?_⟩
      obtain ⟨z1, hz1, rfl⟩ := List.mem_map.mp hv1
      obtain ⟨z2, hz2, rfl⟩ := List.mem_map.mp hv2
      obtain ⟨z3, hz3, rfl⟩ : ∃ z : Str, (z = "on" ∨ z = "any") ∧ v3 = .str z := by
        simp only [List.mem_cons, List.not_mem_nil, or_false] at hv3
        rcases hv3 with rfl | rfl | rfl
        · exact ⟨_, .inl rfl, rfl⟩
        · exact ⟨_, .inl rfl, rfl⟩
        · exact ⟨_, .inr rfl, rfl⟩
      refine ⟨three, fun t ht => ?_⟩
      have sab : Same (hh Hx d g) (hh Hc d g) := ((sa.trans sb).trans (hh_new hW)).trans sc
      have eLc : Hc L = some (.lst (as.map V.ref)) := hh_sub _ _ (sab _ _ (hh_get eL nL.1 nL.2))
      have ntL : t ≠ L := fun e => by rw [e, eLc] at ht; cases ht
      refine ⟨L, _, _, rfl, rfl, by rw [upd_ne ntL.symm]; exact eLc, by rw [List.length_map]; omega, ?_⟩
      have s5 : Same (hhL Hx d g L) (hhL (upd (upd Hc t (.tup [.str z1, .str z2, .str z3])) L (.lst (as.map V.ref ++ [V.ref t]))) d g L) := ((hhL_same sab).trans (hhL_same (hh_new ht))).trans hhL_put
      refine ⟨_, as ++ [t], ts ++ [(z1, z2, z3)], rfl, (hDc.new ht).upd nL.1 nL.2, ((((mx.trans ma).trans mb).trans Mo.upd).trans mc).trans (Mo.upd.trans Mo.upd), sx.trans s5, by rw [upd_same, List.map_append]; rfl, ?_, by rw [List.length_append, hl]; rfl, fun u hu => ?_⟩
      · refine paired_snoc ?_ (hT.same s5)
        exact SqT.of (hhL_get (by rw [upd_ne ntL]; exact upd_same) ntL (hDc.nd ht).1 (hDc.nd ht).2)
      · rcases List.mem_append.mp hu with hu | hu
        · exact hg u hu
        · rw [List.mem_singleton.mp hu]
          exact ⟨⟨hz1, hz2⟩, hz3⟩
end
end Pn

namespace Pn
open PySem PySem.Spec PyProof.Rows L2 TL
/-! ### the triples of a table, ascending -/
def poolK : List KP := poolN.flatMap fun n => poolC.map fun c => (n, c)
theorem mem_poolK {k : KP} : k ∈ poolK ↔ goodK k := by
  unfold poolK goodK
  rw [List.mem_flatMap]
  constructor
  · rintro ⟨n, hn, h⟩
    obtain ⟨c, hc, rfl⟩ := List.mem_map.mp h
    exact ⟨hn, hc⟩
  · rintro ⟨h1, h2⟩
    exact ⟨k.1, h1, List.mem_map.mpr ⟨k.2, h2, rfl⟩⟩
def w2 : List Str := ["on", "any"]
section
variable {P : Program} {w : World} {K : PySem.W.Frag} {mg : Str → Option Value} {base : Heap}
end
end Pn

namespace Pn
open PySem PySem.Spec PyProof.Rows L2 TL
/-! ### tables put together, compared -/
def rankW (w : Str) : Nat := if w = "any" then 2 else if w = "on" then 1 else 0
def minW (f g : KP → Str) (k : KP) : Str := if f k = "" ∨ g k = "" then "" else if f k = "any" ∧ g k = "any" then "any" else "on"
def W3 (f : KP → Str) : Prop := ∀ k, f k = "any" ∨ f k = "on" ∨ f k = ""
section
variable {P : Program} {w : World} {K : PySem.W.Frag} {mg : Str → Option Value} {base : Heap}
end
end Pn

namespace Pn
open PySem PySem.Spec PyProof.Rows L2 TL
/-! ### what leaves hold, told by the word of each pair -/
structure RRep (rs : List Tri) (f : KP → Str) : Prop where
  up : UpT rs
  w3 : W3 f
  any : ∀ k, triK k "any" ∈ rs ↔ f k = "any"
  on : ∀ k, triK k "on" ∈ rs ↔ f k ≠ ""
  ok : ∀ t ∈ rs, goodT t
theorem word_W3 (ts : List Tri) : W3 (wordM ts) := fun k => word_cases ts k
def poolT : List Tri := poolK.flatMap fun k => [triK k "on", triK k "any"]
theorem mem_poolT {t : Tri} (h : goodT t) : t ∈ poolT := by
  unfold poolT
  rw [List.mem_flatMap]
  refine ⟨keyOf t, mem_poolK.mpr h.1, ?_⟩
  rcases h.2 with z | z
  · exact List.mem_cons.mpr (.inl (by rw [← z]; rfl))
  · exact List.mem_cons.mpr (.inr (List.mem_singleton.mpr (by rw [← z]; rfl)))
theorem few_pool {ts : List Tri} (h : ∀ t ∈ ts, goodT t) (hl : ts.length ≤ 100) : FewT ts := by
  refine ⟨hl, poolT.map tl3, by decide +kernel, fun t ht => ⟨List.mem_map_of_mem (mem_poolT (h t ht)), List.mem_map_of_mem (mem_poolT ⟨(h t ht).1, .inl rfl⟩)⟩⟩
theorem RRep.len {rs : List Tri} {f : KP → Str} (h : RRep rs f) : rs.length ≤ 50 := by
  have q := nodup_few (B := poolT) (up_nodup h.up) fun t ht => mem_poolT (h.ok t ht)
  have e : poolT.length = 50 := by decide +kernel
  omega
theorem RRep.few {rs : List Tri} {f : KP → Str} (h : RRep rs f) : FewT rs := few_pool h.ok (by have := h.len; omega)
theorem rights_good {ts : List Tri} (h : ∀ t ∈ ts, goodT t) : ∀ t ∈ rightsM ts, goodT t := fun t ht => by
  rcases mem_rights.mp ht with ht | ⟨u, hu, rfl⟩
  · exact h t ht
  · exact ⟨(h u hu).1, .inl rfl⟩
theorem mem_any {ts : List Tri} {k : KP} : triK k "any" ∈ rightsM ts ↔ triK k "any" ∈ ts := by
  rw [mem_rights]
  refine ⟨fun z => z.elim id fun ⟨t, _, e⟩ => ?_, .inl⟩
  have e : triK (keyOf t) "on" = triK k "any" := e
  exact absurd (triK_inj e).2.symm wds.2.2
theorem mem_on {ts : List Tri} {k : KP} (h : ∀ t ∈ ts, goodT t) : triK k "on" ∈ rightsM ts ↔ triK k "any" ∈ ts ∨ triK k "on" ∈ ts := by
  rw [mem_rights]
  constructor
  · rintro (z | ⟨t, ht, e⟩)
    · exact .inr z
    · have e : triK (keyOf t) "on" = triK k "on" := e
      have ek := (triK_inj e).1
      rcases (h t ht).2 with w | w
      · exact .inr (by rw [← ek, ← w, triK_of]; exact ht)
      · exact .inl (by rw [← ek, ← w, triK_of]; exact ht)
  · rintro (z | z)
    · exact .inr ⟨_, z, rfl⟩
    · exact .inl z
theorem rrep_rights {ts : List Tri} (h : ∀ t ∈ ts, goodT t) : RRep (rightsM ts) (wordM ts) :=
  ⟨up_sortT _, word_W3 ts, fun k => mem_any.trans word_any.symm, fun k => (mem_on h).trans word_some.symm, rights_good h⟩
def maxW (f g : KP → Str) (k : KP) : Str := if f k = "any" ∨ g k = "any" then "any" else if f k = "" ∧ g k = "" then "" else "on"
theorem maxW_any {f g : KP → Str} {k : KP} : maxW f g k = "any" ↔ f k = "any" ∨ g k = "any" := by
  unfold maxW
  by_cases h : f k = "any" ∨ g k = "any"
  · rw [if_pos h]; exact ⟨fun _ => h, fun _ => rfl⟩
  · rw [if_neg h]
    refine ⟨fun z => ?_, fun z => absurd z h⟩
    by_cases h2 : f k = "" ∧ g k = ""
    · rw [if_pos h2] at z; exact absurd z.symm wds.1
    · rw [if_neg h2] at z; exact absurd z.symm wds.2.2
theorem maxW_ne {f g : KP → Str} {k : KP} : maxW f g k ≠ "" ↔ f k ≠ "" ∨ g k ≠ "" := by
  unfold maxW
  by_cases h : f k = "any" ∨ g k = "any"
  · rw [if_pos h]
    refine ⟨fun _ => ?_, fun _ => wds.1⟩
    rcases h with h | h
    · exact .inl (by rw [h]; exact wds.1)
    · exact .inr (by rw [h]; exact wds.1)
  · rw [if_neg h]
    by_cases h2 : f k = "" ∧ g k = ""
    · rw [if_pos h2]
      exact ⟨fun z => absurd rfl z, fun z => by rcases z with z | z; exact absurd h2.1 z; exact absurd h2.2 z⟩
    · rw [if_neg h2]
      refine ⟨fun _ => ?_, fun _ => wds.2.1⟩
      by_cases h3 : f k = ""
      · exact .inr fun z => h2 ⟨h3, z⟩
      · exact .inl h3
theorem maxW_W3 (f g : KP → Str) : W3 (maxW f g) := fun k => by
  unfold maxW
  split
  · exact .inl rfl
  · split
    · exact .inr (.inr rfl)
    · exact .inr (.inl rfl)
theorem minW_any {f g : KP → Str} {k : KP} : minW f g k = "any" ↔ f k = "any" ∧ g k = "any" := by
  unfold minW
  by_cases h : f k = "" ∨ g k = ""
  · rw [if_pos h]
    refine ⟨fun z => absurd z.symm wds.1, fun z => ?_⟩
    rcases h with h | h
    · exact absurd (z.1.symm.trans h) wds.1
    · exact absurd (z.2.symm.trans h) wds.1
  · rw [if_neg h]
    by_cases h2 : f k = "any" ∧ g k = "any"
    · rw [if_pos h2]; exact ⟨fun _ => h2, fun _ => rfl⟩
    · rw [if_neg h2]; exact ⟨fun z => absurd z.symm wds.2.2, fun z => absurd z h2⟩
theorem minW_some {f g : KP → Str} {k : KP} : minW f g k ≠ "" ↔ f k ≠ "" ∧ g k ≠ "" := by
  unfold minW
  by_cases h : f k = "" ∨ g k = ""
  · rw [if_pos h]
    refine ⟨fun z => absurd rfl z, fun z => ?_⟩
    rcases h with h | h
    · exact absurd h z.1
    · exact absurd h z.2
  · rw [if_neg h]
    refine ⟨fun _ => ⟨fun z => h (.inl z), fun z => h (.inr z)⟩, fun _ => ?_⟩
    split
    · exact wds.1
    · exact wds.2.1
theorem minW_W3 (f g : KP → Str) : W3 (minW f g) := fun k => by
  unfold minW
  split
  · exact .inr (.inr rfl)
  · split
    · exact .inl rfl
    · exact .inr (.inl rfl)
theorem w3_eq {f g : KP → Str} (hf : W3 f) (hg : W3 g) (h1 : ∀ k, f k = "any" ↔ g k = "any") (h2 : ∀ k, f k ≠ "" ↔ g k ≠ "") : f = g := funext fun k => by
  rcases hf k with z | z | z
  · rw [z, (h1 k).mp z]
  · have n1 : g k ≠ "any" := fun y => wds.2.2 (((h1 k).mpr y).symm.trans z)
    have n2 := (h2 k).mp (by rw [z]; exact wds.2.1)
    rcases hg k with y | y | y
    · exact absurd y n1
    · rw [z, y]
    · exact absurd y n2
  · by_cases y : g k = ""
    · rw [z, y]
    · exact absurd z ((h2 k).mpr y)
theorem maxW_comm (f g : KP → Str) : maxW f g = maxW g f := w3_eq (maxW_W3 _ _) (maxW_W3 _ _) (fun k => by rw [maxW_any, maxW_any, or_comm]) fun k => by rw [maxW_ne, maxW_ne, or_comm]
theorem minW_comm (f g : KP → Str) : minW f g = minW g f := w3_eq (minW_W3 _ _) (minW_W3 _ _) (fun k => by rw [minW_any, minW_any, and_comm]) fun k => by rw [minW_some, minW_some, and_comm]
theorem RRep.or {rs qs : List Tri} {f g : KP → Str} (h : RRep rs f) (h2 : RRep qs g) : RRep (rightsM (rs ++ qs)) (maxW f g) := by
  have ok : ∀ t ∈ rs ++ qs, goodT t := fun t ht => (List.mem_append.mp ht).elim (h.ok t) (h2.ok t)
  refine ⟨up_sortT _, maxW_W3 _ _, fun k => ?_, fun k => ?_, rights_good ok⟩
  · rw [mem_any, List.mem_append, maxW_any, h.any, h2.any]
  · rw [mem_on ok, List.mem_append, List.mem_append, maxW_ne, h.any, h2.any, h.on, h2.on]
    have e : ∀ {v : Str}, v = "any" → v ≠ "" := fun e => by rw [e]; exact wds.1
    constructor
    · rintro ((a | a) | (a | a))
      · exact .inl (e a)
      · exact .inr (e a)
      · exact .inl a
      · exact .inr a
    · rintro (a | a)
      · exact .inr (.inl a)
      · exact .inr (.inr a)
theorem RRep.and {rs qs : List Tri} {f g : KP → Str} (h : RRep rs f) (h2 : RRep qs g) : RRep (rightsM (rs.filter fun t => decide (t ∈ qs))) (minW f g) := by
  have ok : ∀ t ∈ rs.filter fun t => decide (t ∈ qs), goodT t := fun t ht => h.ok t (List.mem_filter.mp ht).1
  have mf : ∀ t, t ∈ rs.filter (fun t => decide (t ∈ qs)) ↔ t ∈ rs ∧ t ∈ qs := fun t => by rw [List.mem_filter, decide_eq_true_iff]
  refine ⟨up_sortT _, minW_W3 _ _, fun k => ?_, fun k => ?_, rights_good ok⟩
  · rw [mem_any, mf, minW_any, h.any, h2.any]
  · rw [mem_on ok, mf, mf, minW_some, h.any, h2.any, h.on, h2.on]
    have e : ∀ {v : Str}, v = "any" → v ≠ "" := fun e => by rw [e]; exact wds.1
    constructor
    · rintro (⟨a, b⟩ | a)
      · exact ⟨e a, e b⟩
      · exact a
    · exact .inr
theorem RRep.mem {rs : List Tri} {f : KP → Str} (h : RRep rs f) (k : KP) (v : Str) : triK k v ∈ rs ↔ (v = "any" ∧ f k = "any") ∨ (v = "on" ∧ f k ≠ "") := by
  constructor
  · intro z
    rcases (h.ok _ z).2 with w | w
    · have w : v = "on" := w
      subst w
      exact .inr ⟨rfl, (h.on k).mp z⟩
    · have w : v = "any" := w
      subst w
      exact .inl ⟨rfl, (h.any k).mp z⟩
  · rintro (⟨rfl, z⟩ | ⟨rfl, z⟩)
    · exact (h.any k).mpr z
    · exact (h.on k).mpr z
theorem RRep.uniq {rs qs : List Tri} {f : KP → Str} (h : RRep rs f) (h2 : RRep qs f) : rs = qs := up_uniq h.up h2.up fun z => by rw [← triK_of z, h.mem, h2.mem]
theorem free_mem {rs : List Tri} {k : KP} : k ∈ freeM rs ↔ triK k "any" ∈ rs := by
  unfold freeM
  rw [List.mem_filterMap]
  constructor
  · rintro ⟨t, ht, e⟩
    by_cases hw : t.2.2 = ("any" : Str)
    · rw [if_pos hw] at e
      cases e
      rw [← hw]
      exact ht
    · rw [if_neg hw] at e
      cases e
  · exact fun z => ⟨_, z, if_pos rfl⟩
theorem RRep.pairs {rs : List Tri} {f : KP → Str} (h : RRep rs f) (k : KP) (v : Str) : triK k v ∈ pairsM rs ↔ f k = v ∧ v ≠ "" := by
  unfold pairsM
  rw [List.mem_filter, h.mem]
  have pb : pairB rs (triK k v) = true ↔ v = "any" ∨ f k ≠ "any" := by
    unfold pairB
    rw [Bool.or_eq_true, Bool.not_eq_true', decide_eq_true_iff, decide_eq_false_iff_not]
    exact or_congr Iff.rfl (not_congr (free_mem.trans (h.any k)))
  rw [pb]
  constructor
  · rintro ⟨⟨rfl, a⟩ | ⟨rfl, a⟩, b⟩
    · exact ⟨a, wds.1⟩
    · refine ⟨?_, wds.2.1⟩
      rcases h.w3 k with z | z | z
      · exact absurd z (b.resolve_left fun y => wds.2.2 y.symm)
      · exact z
      · exact absurd z a
  · rintro ⟨rfl, a⟩
    rcases h.w3 k with z | z | z
    · exact ⟨.inl ⟨z, z⟩, .inl z⟩
    · exact ⟨.inr ⟨z, a⟩, .inr fun y => wds.2.2 (y.symm.trans z)⟩
    · exact absurd z a
theorem rank3 : rankW "any" = 2 ∧ rankW "on" = 1 ∧ rankW "" = 0 := by decide +kernel
theorem RRep.inB {rs qs : List Tri} {f g : KP → Str} (h : RRep rs f) (h2 : RRep qs g) : inB rs qs = true ↔ ∀ k, rankW (f k) ≤ rankW (g k) := by
  obtain ⟨r2, r1, r0⟩ := rank3
  rw [inB_iff]
  constructor
  · intro z k
    rcases h.w3 k with a | a | a
    · have := (h2.any k).mp (z _ ((h.any k).mpr a))
      rw [a, this]
      exact Nat.le_refl _
    · have := (h2.on k).mp (z _ ((h.on k).mpr (by rw [a]; exact wds.2.1)))
      rcases h2.w3 k with b | b | b
      · rw [a, b, r1, r2]; decide
      · rw [a, b]; exact Nat.le_refl _
      · exact absurd b this
    · rw [a, r0]; exact Nat.zero_le _
  · intro z t ht
    rw [← triK_of t] at ht ⊢
    rcases (h.mem _ _).mp ht with ⟨a, b⟩ | ⟨a, b⟩
    · have q := z (keyOf t)
      rw [b, r2] at q
      rw [h2.mem]
      refine .inl ⟨a, ?_⟩
      rcases h2.w3 (keyOf t) with c | c | c
      · exact c
      · rw [c, r1] at q; omega
      · rw [c, r0] at q; omega
    · have q := z (keyOf t)
      rw [h2.mem]
      refine .inr ⟨a, fun c => ?_⟩
      rw [c, r0] at q
      rcases h.w3 (keyOf t) with d | d | d
      · rw [d, r2] at q; omega
      · rw [d, r1] at q; omega
      · exact b d
section
variable {P : Program} {w : World} {K : PySem.W.Frag} {mg : Str → Option Value} {base : Heap}
end
end Pn

namespace Pn
open PySem PySem.Spec PyProof.Rows L2 TL
/-! ### repr of a truth value -/
end Pn

namespace Pn
open PySem PySem.Spec PyProof.Rows L2 TL
/-! ### drawn fillings: rows by names, in a dict; a row more -/
theorem DRows.name {G : Hp} {kv : Key × V} {d : FD} (h : DRows G kv d) : kv.1 = Sum.inr d.1 := by
  obtain ⟨l, ts, rfl, _⟩ := h
  rfl
def addF (ds : List FD) (z : Str) (r : RowD) : List FD := if (ds.any fun d => decide (d.1 = z)) = true then ds.map (fun d => if d.1 = z then (d.1, d.2 ++ [r]) else d) else ds ++ [(z, [r])]
theorem drows_any {G : Hp} {z : Str} : ∀ {kvs : List (Key × V)} {ds : List FD}, Paired (DRows G) kvs ds → (kvs.any fun kv => decide (kv.1 = (Sum.inr z : Key))) = ds.any fun d => decide (d.1 = z)
  | _, _, .nil => rfl
  | _, _, @Paired.cons _ _ _ kv d kvs ds a b => by
    rw [List.any_cons, List.any_cons, drows_any b, a.name]
    congr 1
    exact decide_eq_decide.mpr ⟨fun e => by injection e, fun e => by rw [e]⟩
/-- what a name finds: the rows of the first entry of that name -/
theorem drows_get {G : Hp} {z : Str} : ∀ {kvs : List (Key × V)} {ds : List FD}, Paired (DRows G) kvs ds → (valV kvs (.inr z) = none ∧ ∀ d ∈ ds, d.1 ≠ z) ∨ ∃ d ∈ ds, d.1 = z ∧ ∃ (l : Addr) (ts : List Addr), valV kvs (.inr z) = some (.ref l) ∧ G l = some (.lst (ts.map V.ref)) ∧ Paired (fun t r => G t = some (.tup (rowTup r))) ts d.2
  | _, _, .nil => .inl ⟨rfl, fun _ h => nomatch h⟩
  | _, _, @Paired.cons _ _ _ kv d kvs ds a b => by
    obtain ⟨l, ts, rfl, h1, h2⟩ := a
    by_cases e : d.1 = z
    · refine .inr ⟨d, List.mem_cons_self, e, l, ts, valV_pos (by rw [e]), h1, h2⟩
    · have ne : ¬ ((Sum.inr d.1, V.ref l) : Key × V).1 = Sum.inr z := fun q => e (by injection q)
      rcases drows_get b with ⟨q1, q2⟩ | ⟨d2, hd, e2, l2, ts2, q1, q2, q3⟩
      · exact .inl ⟨by rw [valV_neg ne]; exact q1, fun x hx => (List.mem_cons.mp hx).elim (fun q => by rw [q]; exact e) (q2 x)⟩
      · exact .inr ⟨d2, List.mem_cons_of_mem _ hd, e2, l2, ts2, by rw [valV_neg ne]; exact q1, q2, q3⟩
theorem drows_map {G : Hp} {z : Str} {r : RowD} {rs : List RowD} {l : Addr} {ts : List Addr} (hl : G l = some (.lst (ts.map V.ref))) (ht : Paired (fun t r => G t = some (.tup (rowTup r))) ts (rs ++ [r])) : ∀ {kvs : List (Key × V)} {ds : List FD}, Paired (DRows G) kvs ds → (∀ d ∈ ds, d.1 = z → d.2 = rs) →
    Paired (DRows G) (kvs.map fun kv => if kv.1 = (Sum.inr z : Key) then (kv.1, V.ref l) else kv) (ds.map fun d => if d.1 = z then (d.1, d.2 ++ [r]) else d)
  | _, _, .nil, _ => .nil
  | _, _, @Paired.cons _ _ _ kv d kvs ds a b, h => by
    rw [List.map_cons, List.map_cons]
    refine .cons ?_ (drows_map hl ht b fun x hx => h x (List.mem_cons_of_mem _ hx))
    have en := a.name
    by_cases e : d.1 = z
    · rw [if_pos (by rw [en, e]), if_pos e]
      exact ⟨l, ts, by rw [en], hl, by rw [h d List.mem_cons_self e]; exact ht⟩
    · rw [if_neg (fun q => e (by rw [en] at q; injection q)), if_neg e]
      exact a
theorem fd_uniq {ds : List FD} (nd : (ds.map (·.1)).Nodup) {a b : FD} (ha : a ∈ ds) (hb : b ∈ ds) (e : a.1 = b.1) : a = b := fd_one nd ha hb e
/-- a row put behind those of its name: a new list each time -/
theorem drows_add {G : Hp} {z : Str} {r : RowD} {rs : List RowD} {l : Addr} {ts : List Addr} {kvs : List (Key × V)} {ds : List FD} (h : Paired (DRows G) kvs ds) (nd : (ds.map (·.1)).Nodup) (hl : G l = some (.lst (ts.map V.ref))) (ht : Paired (fun t r => G t = some (.tup (rowTup r))) ts (rs ++ [r]))
    (hr : (rs = [] ∧ ∀ d ∈ ds, d.1 ≠ z) ∨ ∃ d ∈ ds, d.1 = z ∧ d.2 = rs) : Paired (DRows G) (putK kvs (Sum.inr z) (.ref l)) (addF ds z r) := by
  unfold putK addF
  rw [drows_any h]
  rcases hr with ⟨rfl, hn⟩ | ⟨d, hd, e, rfl⟩
  · have e0 : ¬ (ds.any fun d => decide (d.1 = z)) = true := fun q => by
      obtain ⟨x, hx, ex⟩ := List.any_eq_true.mp q
      exact hn x hx (of_decide_eq_true ex)
    rw [if_neg e0, if_neg e0]
    exact paired_snoc ⟨l, ts, rfl, hl, ht⟩ h
  · have e0 : (ds.any fun d => decide (d.1 = z)) = true := List.any_eq_true.mpr ⟨d, hd, decide_eq_true e⟩
    rw [if_pos e0, if_pos e0]
    exact drows_map hl ht h fun x hx ex => by rw [fd_uniq nd hx hd (by rw [ex, e])]
theorem addF_nd {ds : List FD} {z : Str} {r : RowD} (nd : (ds.map (·.1)).Nodup) : ((addF ds z r).map (·.1)).Nodup := by
  unfold addF
  by_cases a : (ds.any fun d => decide (d.1 = z)) = true
  · rw [if_pos a]
    have ek : (ds.map (fun d : FD => if d.1 = z then (d.1, d.2 ++ [r]) else d)).map (·.1) = ds.map (·.1) := by
      rw [List.map_map]
      congr 1
      funext d
      show (if d.1 = z then (d.1, d.2 ++ [r]) else d).1 = d.1
      split <;> rfl
    rw [ek]
    exact nd
  · rw [if_neg a, List.map_append, List.nodup_append]
    refine ⟨nd, by simp, fun x hx y hy => ?_⟩
    obtain ⟨d, hd, rfl⟩ := List.mem_map.mp hx
    rw [List.mem_singleton.mp hy]
    intro q
    exact a (List.any_eq_true.mpr ⟨d, hd, decide_eq_true q⟩)
theorem addF_len (ds : List FD) (z : Str) (r : RowD) : (addF ds z r).length ≤ ds.length + 1 := by
  unfold addF
  split
  · rw [List.length_map]; omega
  · rw [List.length_append]; exact Nat.le_refl _
theorem addF_mem {ds : List FD} {z : Str} {r : RowD} {x : FD} (h : x ∈ addF ds z r) : (x ∈ ds) ∨ (∃ d ∈ ds, d.1 = z ∧ x = (z, d.2 ++ [r])) ∨ x = (z, [r]) := by
  unfold addF at h
  split at h
  · obtain ⟨d, hd, rfl⟩ := List.mem_map.mp h
    by_cases e : d.1 = z
    · rw [if_pos e]
      exact .inr (.inl ⟨d, hd, e, by rw [e]⟩)
    · rw [if_neg e]
      exact .inl hd
  · rcases List.mem_append.mp h with h | h
    · exact .inl h
    · exact .inr (.inr (List.mem_singleton.mp h))
theorem flat_mem {ds : List FD} {x : Str × RowD} : x ∈ flatF ds ↔ ∃ d ∈ ds, d.1 = x.1 ∧ x.2 ∈ d.2 := by
  constructor
  · intro h
    obtain ⟨d, hd, h⟩ := List.mem_flatMap.mp h
    obtain ⟨r, hr, rfl⟩ := List.mem_map.mp h
    exact ⟨d, hd, rfl, hr⟩
  · rintro ⟨d, hd, e, hr⟩
    exact List.mem_flatMap.mpr ⟨d, hd, List.mem_map.mpr ⟨x.2, hr, by rw [e]⟩⟩
theorem flat_add {ds : List FD} {z : Str} {r : RowD} {x : Str × RowD} : x ∈ flatF (addF ds z r) → x ∈ flatF ds ∨ x = (z, r) := fun h => by
  obtain ⟨d, hd, e, hr⟩ := flat_mem.mp h
  rcases addF_mem hd with hd | ⟨d2, hd2, e2, rfl⟩ | rfl
  · exact .inl (flat_mem.mpr ⟨d, hd, e, hr⟩)
  · rcases List.mem_append.mp hr with hr | hr
    · exact .inl (flat_mem.mpr ⟨d2, hd2, e2.trans e, hr⟩)
    · refine .inr (Prod.ext e.symm (List.mem_singleton.mp hr))
  · exact .inr (Prod.ext e.symm (List.mem_singleton.mp hr))
/-- a filling as it is drawn: at most so many names, so many rows each, which can stand in a filling, of counters that there are -/
structure FilG (cn : List Str) (n : Nat) (ds : List FD) : Prop where
  nd : (ds.map (·.1)).Nodup
  len : ds.length ≤ n
  ne : ∀ d ∈ ds, d.2 ≠ []
  few : ∀ d ∈ ds, d.2.length ≤ n
  names : ∀ d ∈ ds, nameS d.1 = true
  rows : ∀ d ∈ ds, ∀ r ∈ d.2, fillB r = true ∧ rowValid r ∧ cntS r ∈ cn
theorem FilG.nil (cn : List Str) (n : Nat) : FilG cn n [] := ⟨.nil, Nat.zero_le _, (fun _ h => nomatch h), (fun _ h => nomatch h), (fun _ h => nomatch h), (fun _ h => nomatch h)⟩
theorem FilG.up {cn : List Str} {n m : Nat} {ds : List FD} (h : FilG cn n ds) (e : n ≤ m) : FilG cn m ds := ⟨h.nd, Nat.le_trans h.len e, h.ne, fun d hd => Nat.le_trans (h.few d hd) e, h.names, h.rows⟩
theorem FilG.add {cn : List Str} {n : Nat} {ds : List FD} (h : FilG cn n ds) {z : Str} {r : RowD} (hz : nameS z = true) (hr : fillB r = true ∧ rowValid r ∧ cntS r ∈ cn) : FilG cn (n + 1) (addF ds z r) := by
  refine ⟨addF_nd h.nd, Nat.le_trans (addF_len _ _ _) (Nat.succ_le_succ h.len), fun x hx => ?_, fun x hx => ?_, fun x hx => ?_, fun x hx => ?_⟩
  · rcases addF_mem hx with hd | ⟨d, hd, e, rfl⟩ | rfl
    · exact h.ne x hd
    · simp
    · simp
  · rcases addF_mem hx with hd | ⟨d, hd, e, rfl⟩ | rfl
    · exact Nat.le_succ_of_le (h.few x hd)
    · show (d.2 ++ [r]).length ≤ _
      rw [List.length_append]
      exact Nat.succ_le_succ (h.few d hd)
    · exact Nat.succ_le_succ (Nat.zero_le _)
  · rcases addF_mem hx with hd | ⟨d, hd, e, rfl⟩ | rfl
    · exact h.names x hd
    · exact hz
    · exact hz
  · rcases addF_mem hx with hd | ⟨d, hd, e, rfl⟩ | rfl
    · exact h.rows x hd
    · intro r2 h2
      rcases List.mem_append.mp h2 with h2 | h2
      · exact h.rows d hd r2 h2
      · rw [List.mem_singleton.mp h2]; exact hr
    · intro r2 h2
      rw [List.mem_singleton.mp h2]; exact hr
theorem FilG.rowsF {cn : List Str} {n : Nat} {ds : List FD} (h : FilG cn n ds) (hn : n ≤ 60) : RowsF ds := ⟨Nat.le_trans h.len hn, fun d hd => ⟨h.names d hd, Nat.le_trans (h.few d hd) (by omega), fun r hr => ⟨(h.rows d hd r hr).1, (h.rows d hd r hr).2.1⟩⟩⟩
/-! ### whether it is allowed -/
def wordT (T : Tab) (k : KP) : Str := ((T.find? fun e => decide (e.1 = k)).map (·.2)).getD ""
theorem wordT_mem {T : Tab} (nd : (T.map (·.1)).Nodup) {e : KP × Str} (h : e ∈ T) : wordT T e.1 = e.2 := by
  unfold wordT
  have hf : T.find? (fun x => decide (x.1 = e.1)) = some e := by
    induction T with
    | nil => cases h
    | cons x l ih =>
      rw [List.map_cons, List.nodup_cons] at nd
      rcases List.mem_cons.mp h with rfl | h
      · rw [List.find?_cons_of_pos (by simp)]
      · have ne : ¬ x.1 = e.1 := fun z => nd.1 (by rw [z]; exact List.mem_map.mpr ⟨e, h, rfl⟩)
        rw [List.find?_cons_of_neg (by simpa using ne)]
        exact ih nd.2 h
  rw [hf]
  rfl
def letsT (T : Tab) (x : Str × RowD) : Bool := decide (wordT T (x.1, cntS x.2) ∈ (if needW x.2 = ("any" : Str) then [("any" : Str)] else ["on", "any"]))
theorem three_ne : ("on" : Str) ≠ "any" ∧ ("any" : Str) ≠ "" ∧ ("on" : Str) ≠ "" := by decide +kernel
/-- the law's own look -/
def lookB (ops : List Str) (T : Tab) (x : Str × RowD) : Bool := decide (x.1 ∈ ops) && letsT T x
def lookT (ops : List Str) (T : Tab) (ds : List FD) : Bool := (flatF ds).all (lookB ops T)
theorem look_nil (ops : List Str) (T : Tab) : lookT ops T [] = true := rfl
theorem look_add {ops : List Str} {T : Tab} {ds : List FD} {z : Str} {r : RowD} (h : lookT ops T ds = true) (hr : lookB ops T (z, r) = true) : lookT ops T (addF ds z r) = true := by
  refine List.all_eq_true.mpr fun x hx => ?_
  rcases flat_add hx with hx | rfl
  · exact List.all_eq_true.mp h x hx
  · exact hr
end Pn

namespace Pn
open PySem PySem.Spec PyProof.Rows L2 TL
abbrev sFilling : Stmt := top 79
section
variable {P : Program} {w : World} {K : PySem.W.Frag} {mg : Str → Option Value} {base : Heap}
/-- the entries of drawn leaves as tuples -/
theorem isKeys_mem {H : Hp} : ∀ {T : Tab} {bs : List Addr} {v : V}, IsKeys H (T.map entT2) bs → v ∈ bs.map V.ref → ∃ e ∈ T, ∃ p, v = .ref p ∧ H p = some (.tup [.str e.1.1, .str e.1.2])
  | [], [], _, _, h => by cases h
  | [], _ :: _, _, h, _ => by cases h
  | e :: T, b :: bs, v, .cons h1 h2, h => by
    rcases List.mem_cons.mp h with rfl | h
    · exact ⟨e, List.mem_cons_self, b, rfl, h1⟩
    · obtain ⟨e2, he, p, e3, e4⟩ := isKeys_mem h2 h
      exact ⟨e2, List.mem_cons_of_mem _ he, p, e3, e4⟩
theorem roomN {k : Nat} {A : Around} (r : Room k A) : A.units < PySem.cLine := by have := r.un; omega
theorem stepRng {te : TE} {g : TG} {tb B : TS} {D : Ends} {σ : L2.St} {H : Hp} (C : V → Hp → Prop) (h1 : ∀ Q' : VK, (∀ v H', C v H' → Q' v H') → te σ H Q') (h2 : ∀ v H', C v H' → tSeq (tFor (iRng1 (tCons (tC v) tNil)) g tb) B D σ H') : tSeq (tFor (iRng1 (tCons te tNil)) g tb) B D σ H := h1 _ h2
theorem gName_is {v : V} {i : Nat} {σ : L2.St} {H : Hp} {k : L2.St → Hp → Prop} (h : k (σ.set i (some v)) H) : gName i v σ H k := h
theorem tab_at {T : Tab} (nd : (T.map (·.1)).Nodup) {e : KP × Str} (he : e ∈ T) : valV (T.map entT2) (keyT e.1) = some (.str e.2) := by
  rw [tab_val]
  have hf : T.find? (fun x => decide (x.1 = e.1)) = some e := by
    induction T with
    | nil => cases he
    | cons x l ih =>
      rw [List.map_cons, List.nodup_cons] at nd
      rcases List.mem_cons.mp he with rfl | he
      · rw [List.find?_cons_of_pos (by simp)]
      · have ne : ¬ x.1 = e.1 := fun z => nd.1 (by rw [z]; exact List.mem_map.mpr ⟨e, he, rfl⟩)
        rw [List.find?_cons_of_neg (by simpa using ne)]
        exact ih nd.2 he
  rw [hf]
  rfl
structure TFilD (K : PySem.W.Frag) (mg : Str → Option Value) : Type extends TLeav K mg where
  mList : mg "list" = none
  filling : At K mg "_law_filling" sFilling ["_law_deal_here", "_law_leaves_here", "_law_most", "_law_top"]
def spFilling : Sp := fun vs H Q _ => ∃ (b g a : Addr) (T : Tab) (cs : List (Str × Str)) (bk : List PartD) (n m tp : Nat), vs = [.ref b, .ref a, .int (m : Int), .int (tp : Int)] ∧ DealAt H b g ∧ hh H b g a = some (.dT (T.map entT2)) ∧ TabOk cs bk n T ∧ (∀ z ∈ opens (unrolled bk), nameS z = true) ∧ (∀ c ∈ cs.map (·.1), nameS c = true) ∧ n ≤ 30 ∧ m ≤ 20 ∧ 1 ≤ tp ∧ tp ≤ 100 ∧
  ∀ (D : Addr) (ds : List FD) (H' : Hp), Kd b g H H' → DealAt H' b g → DictAt (hh H' b g) D ds → FilG (cs.map (·.1)) m ds → lookT (opens (unrolled bk)) T ds = true → Q (.ref D) H'
theorem scFilling : FnScope ["_law_deal_here", "_law_leaves_here", "_law_most", "_law_top", "_law_found", "_law_turn", "_law_name", "_law_counter", "_law_row_here"] ["_law_deal_here", "_law_leaves_here", "_law_most", "_law_top"] (defScope sFilling) := ⟨rfl, rfl, rfl, by decide +kernel, rfl, by decide +kernel, by decide +kernel⟩
theorem ok_filling (T : TFilD K mg) : FnOk P w K mg base CX0 6 T.filling.f T.filling.fd ["_law_deal_here", "_law_leaves_here", "_law_most", "_law_top"] spFilling := by
  refine T.filling.F.ok scFilling (fun vs H Q E h => ?_) (fun cdv A outer s H vs Q E hr h => ?_)
  · obtain ⟨b, g, a, T, cs, bk, n, m, tp, rfl, _⟩ := h
    rfl
  · obtain ⟨b, g, a, Tb, cs, bk, n, m, tp, rfl, hB, ha, okT, opN, csN, hn30, hm20, htp1, htp, q⟩ := h
    refine ⟨_, (pss_cons (ps_set (i := 4) scFilling.nd rfl (Or.inl rfl) pe_dnewK)
(pss_cons (ps_for PassesOwn.never rfl (pi_range1 (by rfl) T.mR (pa_cons (pe_ifExp (pt_cmpR (op_neT0 (roomN hr)) (pv 1) pe_dnewT (nomark _)) (pe_call T.okChoose (hr.mono (by decide)) rfl T.choose.m T.choose.F.kp T.choose.b .nil pass0 (pa_cons (pv 0) (pa_cons (pe_op op_add (pv 2) pe_int) pa_nil))) pe_int) pa_nil)) (pg_name (i := 5) scFilling.nd rfl (Or.inl rfl))
(pss_cons (ps_asg (pe_call T.okOne (hr.mono (by decide)) rfl T.one.m T.one.F.kp T.one.b .nil pass0 (pa_cons (pv 0) (pa_cons (pe_callTy (call_list_dT rfl) (by rfl) T.mList (by decide +kernel) (pa_cons (pv 1) pa_nil)) pa_nil))) (pg_tup (by rfl) (pgs_cons (pg_name (i := 6) scFilling.nd rfl (Or.inl rfl)) (pgs_cons (pg_name (i := 7) scFilling.nd rfl (Or.inl rfl)) pgs_nil))))
(pss_cons (ps_set (i := 8) scFilling.nd rfl (Or.inl rfl) (pe_tup (pa_cons pe_str (pa_cons (pv 7) (pa_cons (pe_op op_add pe_int (pe_call T.okChoose (hr.mono (by decide)) rfl T.choose.m T.choose.F.kp T.choose.b .nil pass0 (pa_cons (pv 0) (pa_cons (pv 3) pa_nil)))) pa_nil)))))
(pss_cons (ps_if (PW.pt (pw_and (pt_cmpR op_eq (pe_dget (roomDl hr) (pv 1) (pe_tup (pa_cons (pv 6) (pa_cons (pv 7) pa_nil))) (fun _ _ => rfl)) pe_str (nomark _)) (pw_and1 (pt_cmpR op_eq (pe_call T.okChoose (hr.mono (by decide)) rfl T.choose.m T.choose.F.kp T.choose.b .nil pass0 (pa_cons (pv 0) (pa_cons pe_int pa_nil))) pe_int (nomark _))))) (pss_one (ps_set (i := 8) scFilling.nd rfl (Or.inl rfl) (pe_tup (pa_cons pe_str (pa_cons (pv 7) (pa_cons (pe_call T.okChoose (hr.mono (by decide)) rfl T.choose.m T.choose.F.kp T.choose.b .nil pass0 (pa_cons (pv 0) (pa_cons (pe_op op_add (pv 3) pe_int) pa_nil))) pa_nil)))))) pss_nil)
(pss_one (ps_dput (roomDl hr) (pv 4) (pv 6) (pe_op op_cat (pe_dget2 (roomDl hr) (pv 4) (pv 6) (pe_lst pa_nil) (by constructor <;> rfl)) (pe_lst (pa_cons (pv 8) pa_nil))) (by rfl)))))))
(pss_one (ps_ret (pv 4))))), ?_⟩
    intro D hD
    try dsimp only [List.set]
    have zero : 0 ≤ sizeLine := by decide
    have one : 1 ≤ sizeLine := by decide
    have two : 2 ≤ sizeLine := by decide
    have three : 3 ≤ sizeLine := by decide
    have big : (1000 : Nat) ≤ sizeLine := by decide
    have nD := hB.nb hD
    have ha1 := zz_new (b := b) (g := g) (o := .dK []) hD _ _ ha
    have hB1 := hB.new (o := .dK []) hD
    have k1 := (Kd.refl b g H).new (o := .dK []) hD
    have eD : upd H D (.dK []) D = some (.dK []) := upd_same
    generalize upd H D (.dK []) = H1 at ha1 hB1 k1 eD ⊢
    have zs : ∀ {A : Hp}, Same (zz A b g D) A := zz_sub
    refine gName_is (stepRng (fun v H' => ∃ r : Nat, v = .int (r : Int) ∧ r ≤ m ∧ (0 < r → Tb ≠ []) ∧ DealAt H' b g ∧ Kd b g H1 H') (fun Q' hQ => ?c1) (fun v H4 hC => ?r1))
    case c1 =>
      refine ⟨_, rfl, fun e he => ⟨a, e, _, rfl, rfl, Same.new he _ _ (zs _ _ ha1), upd_same, _, rfl, ?_⟩⟩
      by_cases hT : Tb = []
      · refine iteFB (by rw [hT]; rfl) ?_
        exact hQ _ _ ⟨0, rfl, Nat.zero_le _, fun z => absurd z (Nat.lt_irrefl _), hB1.new he, (Kd.refl b g H1).new he⟩
      · refine iteTB (by cases Tb with | nil => exact absurd rfl hT | cons => rfl) ?_
        refine ⟨_, rfl, _, rfl, _, _, rfl, rfl, b, g, _, rfl, hB1.new he, by omega, by omega, fun r H4 r0 r1 hB4 k4 _ => ?_⟩
        obtain ⟨k, rfl⟩ : ∃ k : Nat, r = (k : Int) := ⟨r.toNat, by omega⟩
        exact hQ _ _ ⟨k, rfl, by omega, fun _ => hT, hB4, ((Kd.refl b g H1).new he).trans k4⟩
    case r1 =>
    obtain ⟨r, rfl, hrm, hrT, hB4, k4⟩ := hC
    have ha4 := zz_kp k4 _ _ ha1
    have eD4 := k4 _ _ eD nD
    have k14 := k1.trans k4
    clear ha1 hB1 k1 eD k4
    refine ⟨_, rfl, by omega, by omega, for_range (lo := 0) (fun i σ Hi => ∃ x5 x6 x7 x8 kvs ds, σ = [some (.ref b), some (.ref a), some (.int (m : Int)), some (.int (tp : Int)), some (.ref D), x5, x6, x7, x8] ∧ Kd b g H Hi ∧ DealAt Hi b g ∧ Hi D = some (.dK kvs) ∧ Paired (DRows (zz Hi b g D)) kvs ds ∧ FilG (cs.map (·.1)) i ds ∧ lookT (opens (unrolled bk)) Tb ds = true ∧ zz Hi b g D a = some (.dT (Tb.map entT2)))
      ⟨_, _, _, _, [], [], rfl, k14, hB4, eD4, .nil, FilG.nil _ _, look_nil _ _, ha4⟩ (fun i σ Hi hi hP => ?turn) (fun σ Hi hP => ?fin)⟩
    case fin =>
      obtain ⟨x5, x6, x7, x8, kvs, ds, rfl, kI, hBI, eI, hK, hF, hA, _⟩ := hP
      exact ⟨_, rfl, q D ds Hi kI hBI ⟨kvs, hhn_get eI nD, hK⟩ (hF.up (by omega)) hA⟩
    case turn =>
      obtain ⟨x5, x6, x7, x8, kvs, ds, rfl, kI, hBI, eI, hK, hF, hA, haI⟩ := hP
      have hT : Tb ≠ [] := hrT (by omega)
      have hi20 : i ≤ 20 := by omega
      try dsimp only [List.set]
      refine ⟨_, rfl, _, rfl, a, _, rfl, .inl (zs _ _ haI), fun p bs hp hk => ?_⟩
      have lbs : bs.length = Tb.length := by rw [← paired_len hk, List.length_map]
      have T0 : 0 < Tb.length := by
        cases Tb with
        | nil => exact absurd rfl hT
        | cons => exact Nat.succ_pos _
      have hT30 := okT.len
      refine ⟨b, g, p, _, rfl, hBI.new hp, SqL.of upd_same, hBI.nb hp, by rw [List.length_map, lbs]; exact T0, by rw [List.length_map, lbs]; omega, fun v Hb hv hBb kb _ => ?_⟩
      obtain ⟨e, he, t, rfl, ht⟩ := isKeys_mem hk hv
      have nt : Nb b g t := by
        obtain ⟨_, _, _, _, _, q1, q2, _⟩ := hBI
        exact ⟨(fun z => by rw [z, q1] at ht; cases ht), (fun z => by rw [z, q2] at ht; cases ht)⟩
      have ht2 := kb t _ (Same.new hp _ _ ht) nt
      have kB : Kd b g Hi Hb := ((Kd.refl b g Hi).new hp).trans kb
      have ek := okT.keys e he
      have ec := csN _ ek.2
      obtain ⟨w1, w2, w3⟩ := three_ne
      refine ⟨t, _, rfl, SqT.of ht2, rfl, _, _, rfl, _, _, rfl, rfl, ?_⟩
      try dsimp only [List.set]
      refine stepSet (fun v H' => ∃ (tr : Addr) (k : Nat), v = .ref tr ∧ 1 ≤ k ∧ k ≤ tp ∧ DealAt H' b g ∧ Kd b g Hb H' ∧ zz H' b g D tr = some (.tup (rowTup (.skip e.1.2 k)))) (fun Q' hQ => ?d1) (fun v Hc hC => ?r2)
      case d1 =>
        refine ⟨_, rfl, _, rfl, _, rfl, b, g, _, rfl, hBb, by omega, by omega, fun r2 H5 r20 r21 hB5 k5 _ => ⟨_, _, rfl, rfl, three, fun tr htr => ?_⟩⟩
        obtain ⟨k, rfl⟩ : ∃ k : Nat, r2 = (k : Int) := ⟨r2.toNat, by omega⟩
        have eD5 := (kB.trans k5) _ _ eI nD
        have e1 : (1 + (k : Int)) = ((k + 1 : Nat) : Int) := by omega
        dsimp only
        rw [e1]
        exact hQ _ _ ⟨tr, k + 1, rfl, by omega, by omega, hB5.new htr, k5.new htr, zz_get upd_same (hB5.nb htr) (fun z => by rw [z, eD5] at htr; cases htr)⟩
      case r2 =>
      obtain ⟨tr0, k0, rfl, hk0, hk1, hBc, kc, htr0⟩ := hC
      try dsimp only [List.set]
      refine stepIfS2 (fun σ' H' => ∃ (tr : Addr) (r : RowD), σ' = [some (.ref b), some (.ref a), some (.int (m : Int)), some (.int (tp : Int)), some (.ref D), some (.int (0 + (i : Int))), some (.str e.1.1), some (.str e.1.2), some (.ref tr)] ∧ DealAt H' b g ∧ Kd b g Hb H' ∧ zz H' b g D tr = some (.tup (rowTup r)) ∧ fillB r = true ∧ rowValid r ∧ cntS r = e.1.2 ∧ letsT Tb (e.1.1, r) = true) (fun nx hN => ?d2) (fun σ2 Hx hG => ?r3)
      case d2 =>
        have haC := zz_kp (kB.trans kc) _ _ haI
        have rep : valV (Tb.map entT2) (keyT e.1) = some (.str e.2) := tab_at okT.nd he
        refine ⟨_, rfl, _, rfl, _, rfl, two, fun kp hkp => ⟨a, .str e.2, rfl, .inr ⟨_, keyT e.1, kp, .inl (Same.new hkp _ _ (zs _ _ haC)), rfl, upd_same, rep.symm⟩, rfl, _, rfl, ?_⟩⟩
        have hBk := hBc.new (o := .tup [.str e.1.1, .str e.1.2]) hkp
        have kk := kc.new (o := .tup [.str e.1.1, .str e.1.2]) hkp
        have skip : ∀ (H' : Hp), DealAt H' b g → Kd b g Hb H' → zz H' b g D tr0 = some (.tup (rowTup (.skip e.1.2 k0))) → nx [some (.ref b), some (.ref a), some (.int (m : Int)), some (.int (tp : Int)), some (.ref D), some (.int (0 + (i : Int))), some (.str e.1.1), some (.str e.1.2), some (.ref tr0)] H' := fun H' h1 h2 h3 => by
          refine hN _ _ ⟨tr0, .skip e.1.2 k0, rfl, h1, h2, h3, rfl, ⟨ec, hk0, by omega⟩, rfl, ?_⟩
          unfold letsT
          refine decide_eq_true ?_
          have : needW (.skip e.1.2 k0) = "on" := rfl
          rw [this, if_neg w1]
          show wordT Tb (e.1.1, e.1.2) ∈ _
          rw [wordT_mem okT.nd he]
          rcases okT.words e he with q | q <;> rw [q] <;> simp
        have z0 := zz_same (b := b) (g := g) (p := D) (Same.new (o := .tup [.str e.1.1, .str e.1.2]) hkp) _ _ htr0
        by_cases hw : e.2 = "any"
        · refine iteTD (decide_eq_true (congrArg V.str hw)) ?_
          refine ⟨_, rfl, b, g, _, rfl, hBk, by omega, by omega, fun r2 H5 r20 r21 hB5 k5 _ => ⟨rfl, _, rfl, ?_⟩⟩
          by_cases h0 : r2 = 0
          · refine iteTD (decide_eq_true (congrArg V.int h0)) ?_
            refine ⟨_, rfl, _, rfl, _, rfl, _, _, rfl, rfl, b, g, _, rfl, hB5, by omega, by omega, fun r3 H6 r30 r31 hB6 k6 _ => ⟨three, fun tr htr => ?_⟩⟩
            obtain ⟨k, rfl⟩ : ∃ k : Nat, r3 = (k : Int) := ⟨r3.toNat, by omega⟩
            have eD6 := (((kB.trans kk).trans k5).trans k6) _ _ eI nD
            refine hN _ _ ⟨tr, .set e.1.2 k, rfl, hB6.new htr, ((kk.trans k5).trans k6).new htr, zz_get upd_same (hB6.nb htr) (fun z => by rw [z, eD6] at htr; cases htr), rfl, ⟨ec, by omega⟩, rfl, ?_⟩
            unfold letsT
            refine decide_eq_true ?_
            rw [show needW (.set e.1.2 k) = "any" from rfl, if_pos rfl]
            show wordT Tb (e.1.1, e.1.2) ∈ _
            rw [wordT_mem okT.nd he, hw]
            simp
          · refine iteFD (decide_eq_false fun z => h0 (V.int.inj z)) ?_
            exact skip H5 hB5 (kk.trans k5) (zz_kp k5 _ _ z0)
        · refine iteFD (decide_eq_false fun z => hw (V.str.inj z)) ?_
          refine iteF ?_
          exact skip _ hBk kk z0
      case r3 =>
      obtain ⟨tr, r, rfl, hBx, kx, htr, fr, vr, cr, lr⟩ := hG
      try dsimp only [List.set]
      have kX : Kd b g Hi Hx := kB.trans kx
      have eX := kX _ _ eI nD
      have hKx := paired_mono (fun _ _ z => DRows.same z (zz_kp kX)) hK
      have haX := zz_kp kX _ _ haI
      have lkv : kvs.length = ds.length := paired_len hK
      refine ⟨_, rfl, D, rfl, .inl ⟨_, .inl eX⟩, _, rfl, zero, fun e0 he0 => ⟨valV kvs (.inr e.1.1), .inl ⟨_, _, .inl (Same.new he0 _ _ eX), rfl, rfl⟩, ?_⟩⟩
      obtain ⟨l, ts, rs, hv2, hl, hts, hlen, hrs⟩ : ∃ (l : Addr) (ts : List Addr) (rs : List RowD), (valV kvs (.inr e.1.1)).getD (.ref e0) = .ref l ∧ (upd Hx e0 (.lst [])) l = some (.lst (ts.map V.ref)) ∧ Paired (fun t r => zz Hx b g D t = some (.tup (rowTup r))) ts rs ∧ rs.length ≤ i ∧ ((rs = [] ∧ ∀ d ∈ ds, d.1 ≠ e.1.1) ∨ ∃ d ∈ ds, d.1 = e.1.1 ∧ d.2 = rs) := by
        rcases drows_get (z := e.1.1) hKx with ⟨q1, q2⟩ | ⟨d, hd, e1, l, ts, q1, q2, q3⟩
        · exact ⟨e0, [], [], by rw [q1]; rfl, upd_same, .nil, Nat.zero_le _, .inl ⟨rfl, q2⟩⟩
        · exact ⟨l, ts, d.2, by rw [q1]; rfl, Same.new he0 _ _ (zs _ _ q2), q3, hF.few d hd, .inr ⟨d, hd, e1, rfl⟩⟩
      rw [hv2]
      have ltr := paired_len hts
      refine ⟨_, rfl, one, fun L5 hL5 => ⟨l, L5, _, [.ref tr], rfl, rfl, Same.new hL5 _ _ hl, upd_same, ?_, fun rl hrl => ?_⟩⟩
      · rw [List.length_map, ltr]
        show rs.length + 1 ≤ sizeLine
        omega
      have s4 : Same Hx (upd (upd (upd Hx e0 (.lst [])) L5 (.lst [.ref tr])) rl (.lst (ts.map V.ref ++ [.ref tr]))) := ((Same.new he0).trans (Same.new hL5)).trans (Same.new hrl)
      have frl : (upd (upd (upd Hx e0 (.lst [])) L5 (.lst [.ref tr])) rl (.lst (ts.map V.ref ++ [.ref tr]))) rl = some (.lst (ts.map V.ref ++ [.ref tr])) := upd_same
      have nrl := ((hBx.new (o := .lst []) he0).new (o := .lst [.ref tr]) hL5).nb hrl
      have B4 : DealAt (upd (upd (upd Hx e0 (.lst [])) L5 (.lst [.ref tr])) rl (.lst (ts.map V.ref ++ [.ref tr]))) b g := ((hBx.new he0).new hL5).new hrl
      have drl : rl ≠ D := fun z => by
        have q := Same.new (o := .lst [.ref tr]) hL5 _ _ (Same.new (o := .lst []) he0 _ _ eX)
        rw [z, q] at hrl
        cases hrl
      generalize upd (upd (upd Hx e0 (.lst [])) L5 (.lst [.ref tr])) rl (.lst (ts.map V.ref ++ [.ref tr])) = A4 at s4 frl B4 ⊢
      have zA := zz_same (b := b) (g := g) (p := D) s4
      have eA := s4 _ _ eX
      have hzz : zz A4 b g D rl = some (.lst ((ts ++ [tr]).map V.ref)) := by
        rw [zz_get frl nrl drl, List.map_append]
        rfl
      have hadd := drows_add (r := r) (paired_mono (fun _ _ z => DRows.same z zA) hKx) hF.nd hzz (paired_app (paired_mono (fun _ _ z => zA _ _ z) hts) (.cons (zA _ _ htr) .nil)) hrs
      have dl := hF.len
      refine ⟨_, rfl, _, rfl, D, _, rfl, DPut.k (k := .inr e.1.1) eA (by rw [lkv]; omega), ?_⟩
      have kA : Kd b g Hi A4 := kX.trans (Kd.same s4)
      refine ⟨_, _, _, _, putK kvs (.inr e.1.1) (.ref rl), addF ds e.1.1 r, rfl, (kI.trans kA).updn hD, B4.upd nD.1 nD.2, upd_same, paired_mono (fun _ _ z => DRows.same z zz_put) hadd, hF.add (opN _ ek.1) ⟨fr, vr, by rw [cr]; exact ek.2⟩, look_add hA (by unfold lookB; rw [decide_eq_true ek.1, lr]; rfl), zz_put _ _ (zA _ _ haX)⟩
end
end Pn

namespace Pn
open PySem PySem.Spec PyProof.Rows L2 TL
abbrev sFillOfD : Stmt := top 80
theorem iter_frz {H : Hp} {p : Addr} {o : HO} : Same (hid H p) (upd H p o) := fun a u e => by
  rw [upd_ne (hid_ne e)]
  exact hid_sub _ _ e
theorem iter_unlock {H Hi : Hp} {p : Addr} {od : Obj} {u : HO} (hp : H p = some u) (s : Same (upd H p (.frz od u)) Hi) : Same H (upd Hi p u) := fun a o e => by
  by_cases h : a = p
  · subst h
    rw [hp] at e
    cases e
    exact upd_same
  · rw [upd_ne h]
    exact s _ _ (by rw [upd_ne h]; exact e)
section
variable {K : PySem.W.Frag} {tl : TE} {g : TG} {tt : TT} {te : TE} {vs : List Nat} {σ : L2.St} {H : Hp} {Q : VK} {p : Addr} {kvs : List (Key × V)}
/-- [object of it for k in d] within an expression -/
theorem lcw_keysO {α : Type} {R : Hp → Addr → α → Prop} {cs : List α} (hR : ∀ {H H' : Hp} {t : Addr} {c : α}, Same H H' → R H t c → R H' t c)
    (h0 : ∀ (H : Hp) (R : VK), R (.ref p) H → tl σ H R) (hp : H p = some (.dK kvs)) (hl : kvs.length ≤ 1000) (hc : kvs.length = cs.length)
    (turn : ∀ (Hf : Hp) (od : Obj), Same (hid H p) Hf → Hf p = some (.frz od (.dK kvs)) → ∀ (i : Nat) (kv : Key × V) (c : α) (Hi : Hp) (S : Hp → Prop) (Y : VK), kvs[i]? = some kv → cs[i]? = some c → Same Hf Hi →
      (∀ t H', Same Hi H' → (∀ E ys, Hi E = some (.lst ys) → H E = none → R (hid (hid H' E) p) t c) → Y (.ref t) H') → g (kV kv.1) (wipe σ vs) Hi fun σ2 H2 => wipe σ2 vs = wipe σ vs ∧ tt σ2 H2 fun b H3 => if b = true then te σ2 H3 Y else S H3)
    (fin : ∀ (E : Addr) (H' : Hp) (ts : List Addr), H E = none → Same H H' → H' E = some (.lst (ts.map V.ref)) → Paired (R (hid (hid H' E) p)) ts cs → Q (.ref E) H') : tLockE (tLc (iKeys tl) g tt te vs) σ H Q := by
  refine ⟨p, _, hp, trivial, fun od => ?_⟩
  have eH : (upd H p (.frz od (.dK kvs))) p = some (.frz od (.dK kvs)) := upd_same
  refine h0 _ _ ⟨p, od, rfl, .inl ⟨kvs, eH, fun E hE => ?_⟩⟩
  have nE : E ≠ p := fun z => by rw [z, eH] at hE; cases hE
  have hE0 : H E = none := by rw [upd_ne nE] at hE; exact hE
  refine ⟨fun i m Hi => m = kvs.length - i ∧ i ≤ kvs.length ∧ Same (upd H p (.frz od (.dK kvs))) Hi ∧ ∃ ts : List Addr, Hi E = some (.lst (ts.map V.ref)) ∧ ts.length ≤ i ∧ Paired (R (hid (hid Hi E) p)) ts (cs.take i), ⟨_, rfl, Nat.zero_le _, Same.new hE, [], upd_same, Nat.le_refl _, .nil⟩, ?_⟩
  rintro i m Hi ⟨rfl, hi, s, ts, hd, hn, pd⟩
  by_cases lt : i < kvs.length
  · have hc2 : cs[i]? = some cs[i] := List.getElem?_eq_getElem (by omega)
    refine .inr ⟨⟨s _ _ eH, lt⟩, fun H' => Same (upd H p (.frz od (.dK kvs))) H' ∧ ∃ ts : List Addr, H' E = some (.lst (ts.map V.ref)) ∧ ts.length ≤ i + 1 ∧ Paired (R (hid (hid H' E) p)) ts (cs.take (i + 1)), fun H' z => ⟨kvs.length - (i + 1), by omega, rfl, lt, z.1, z.2⟩, fun x H' y => ?_⟩
    obtain ⟨rfl, k, v, hk, rfl⟩ := y
    refine turn _ od iter_frz eH i (k, v) _ _ _ _ hk hc2 s fun t H' s' r => ⟨_, s' _ _ hd, small1000 (by rw [List.length_map]; omega), fun a o e => ?_, ts ++ [t], by rw [upd_same, List.map_append]; rfl, by rw [List.length_append]; exact Nat.add_le_add_right hn 1, ?_⟩
    · rw [upd_ne (ne_of_none e hE)]
      exact s' _ _ (s _ _ e)
    · have e1 : hid (upd H' E (.lst (ts.map V.ref ++ [V.ref t]))) E = hid H' E := funext fun a => by
        unfold hid
        by_cases h : a = E
        · rw [if_pos h, if_pos h]
        · rw [if_neg h, if_neg h, upd_ne h]
      rw [e1, List.take_add_one, hc2]
      refine paired_snoc (r E _ hd hE0) (paired_mono (fun _ _ z => hR (fun a o e => ?_) z) pd)
      have n1 := hid_ne e
      have n2 := hid_ne (hid_sub _ _ e)
      exact hid_get (hid_get (s' _ _ (hid_sub _ _ (hid_sub _ _ e))) n2) n1
  · obtain rfl : i = kvs.length := by omega
    have e1 : hid (hid (upd Hi p (.dK kvs)) E) p = hid (hid Hi E) p := funext fun a => by
      unfold hid
      by_cases h : a = p
      · rw [if_pos h, if_pos h]
      · rw [if_neg h, if_neg h, upd_ne h]
    refine .inl ⟨⟨s _ _ eH, Nat.le_refl _⟩, s _ _ eH, fin E _ ts hE0 (iter_unlock hp s) (by rw [upd_ne nE]; exact hd) ?_⟩
    rw [e1]
    rw [hc, List.take_length] at pd
    exact pd
end
section
variable {P : Program} {w : World} {K : PySem.W.Frag} {mg : Str → Option Value} {base : Heap}
def spFillOfD {R : TRows K mg} (F : TFill R) : Sp := fun vs H Q _ => ∃ (fp : Addr) (ds : List FD), vs = [.ref fp] ∧ DictAt H fp ds ∧ (ds.map (·.1)).Nodup ∧ RowsF ds ∧ ∀ (x : Addr) (es : List FD) (H' : Hp), Same H H' → FilI F H' x es → Canon ds es → Q (.ref x) H'
theorem scFillOfD : FnScope ["_law_filling_here", "_law_name", "_law_row_here"] ["_law_filling_here"] (defScope sFillOfD) := ⟨rfl, rfl, rfl, by decide +kernel, rfl, by decide +kernel, by decide +kernel⟩
theorem ok_fillOfD {R : TRows K mg} (F : TFill R) (Z : At K mg "_law_made_row" sMadeRow ["_law_row_here"]) {f : Addr} {fd : FuncData} (Fn : Fun K "_law_filling_of" "_law_filling_of" sFillOfD f fd) : FnOk P w K mg base CX0 9 f fd ["_law_filling_here"] (spFillOfD F) := by
  refine Fn.ok scFillOfD (fun vs H Q E h => ?_) (fun cdv A outer s H vs Q E hr h => ?_)
  · obtain ⟨fp, ds, rfl, _⟩ := h
    rfl
  · obtain ⟨fp, ds, rfl, hd, nd, gd, q⟩ := h
    refine ⟨_, (pss_one (ps_ret (pe_make F.M (okFInit F) (hr.mono (by decide)) rfl F.mC F.bI .nil passX1 (pa_cons (pe_lock (pe_lc (own := [("_law_name", 1)]) (g := gName 1) (tt := tYes) (by rfl) scFillOfD.nd (pi_keys (pv 0))
 (blkOk_by (N := ["_law_filling_here", "_law_name", "_law_row_here"]) (sc := defScope sFillOfD) (by decide +kernel)) (fun _ _ _ _ _ => (pg_name (i := 1) scFillOfD.nd rfl (Or.inl rfl))) (fun _ _ _ _ _ => pts_nil) (fun _ _ _ _ _ => (pe_tup (pa_cons (pv 1) (pa_cons (pe_lc (own := [("_law_row_here", 2)]) (g := gName 2) (tt := tYes) (by rfl) scFillOfD.nd (show PI _ _ _ (iList K (tDGet (tVar 0) (tVar 1))) from pi_list (pe_dget (roomDl hr) (pv 0) (pv 1) (fun _ _ => rfl)))
 (blkOk_by (N := ["_law_filling_here", "_law_name", "_law_row_here"]) (by kernel_rfl)) (fun _ _ _ _ _ => (pg_name (i := 2) scFillOfD.nd rfl (Or.inl rfl))) (fun _ _ _ _ _ => pts_nil) (fun _ _ _ _ _ => (pe_call (ok_made R Z.F) (hr.mono (by decide)) rfl Z.m Z.F.kp Z.b .nil pass0 (pa_cons (pv 2) pa_nil)))) pa_nil)))))) pa_nil)))), ?_⟩
    have two : 2 ≤ sizeLine := by decide
    obtain ⟨kvs, hp1, hkd1⟩ := id hd
    have hkl : kvs.length = ds.length := paired_len hkd1
    have ds60 := gd.1
    dsimp only [tRet, tMake, tCB, tCons, tNil]
    refine lcw_keysO (R := fun G t c => HandR R (fun _ => none) G t c) (cs := ds) (fun s h => h.same s) (fun H R z => ⟨_, rfl, z⟩) hp1 (by omega) hkl ?tn2 ?fn2
    case fn2 =>
      intro e H' ts he s1 h1 pd
      obtain ⟨cs, p1, p2⟩ := handF_pairs (paired_mono (fun _ _ z => z.same (Same.trans hid_sub hid_sub)) pd) gd.2
      exact make_go F (.inl (SqL.of h1)) p1 p2 nd ds60 fun x es H2 s2 hF hc => q x es H2 (s1.trans s2) hF hc
    case tn2 =>
      intro Hf od sf hf i kv c Hi S Y hkv hci sI k
      obtain ⟨c', hc', l0, rts0, rfl, _⟩ := paired_at hkd1 hkv
      rw [hci] at hc'
      cases hc'
      have cm := List.mem_of_getElem? hci
      obtain ⟨l, rts, dg, g1, g2⟩ := dict_get (.inr ⟨od, sI _ _ hf⟩) hkd1 (Same.trans sf sI) nd cm
      have lt := paired_len g2
      obtain ⟨n1, n2, n3⟩ := gd.2 c cm
      refine ⟨rfl, ?_⟩
      unfold tYes
      refine iteT ?_
      refine ⟨_, rfl, ?_⟩
      refine lcw_objs (K := K) (tl := tDGet (tVar 0) (tVar 1)) (p := l) (xs := rts.map V.ref) (cs := c.2) (R := fun H t r => RowAt R H t r) (fun s z => RowAt.sameN s z) ?h0 (SqL.of g1) (by rw [List.length_map, lt]; omega) (by rw [List.length_map, lt]) ?tni ?fni
      case h0 => exact fun R z => ⟨_, rfl, _, rfl, fp, .ref l, rfl, dg, z⟩
      case tni =>
        intro m y r Hj S2 Y2 hy hr2 sJ k2
        rw [List.getElem?_map] at hy
        obtain ⟨u, hu, rfl⟩ := Option.map_eq_some_iff.mp hy
        obtain ⟨r', hr3, hrow⟩ := paired_at g2 hu
        rw [hr2] at hr3
        cases hr3
        exact ⟨rfl, _, rfl, u, r, rfl, SqT.of (sJ _ _ hrow), (n3 r (List.mem_of_getElem? hr2)).2, fun x H' s' hx => k2 x H' s' hx⟩
      case fni =>
        intro hl2 Hj us hhl sJ hlj pu
        refine ⟨two, fun t ht => ?_⟩
        have st := Same.new (o := .tup [.str c.1, .ref hl2]) ht
        refine k t _ (sJ.trans st) fun e ys he _ => ?_
        have hej := sJ _ _ he
        have hpj := sJ _ _ (sI _ _ hf)
        have te : t ≠ e := fun w => by rw [w, hej] at ht; cases ht
        have tp : t ≠ fp := fun w => by rw [w, hpj] at ht; cases ht
        have le : hl2 ≠ e := fun w => by rw [w, he] at hhl; cases hhl
        have lp : hl2 ≠ fp := fun w => by rw [w, sI _ _ hf] at hhl; cases hhl
        refine ⟨hl2, us, rfl, hid_get (hid_get upd_same te) tp, hid_get (hid_get (st _ _ hlj) le) lp, paired_mono (fun u r hu => ?_) pu⟩
        obtain ⟨dx, hu1⟩ := hu
        obtain ⟨gs, eg⟩ := insRow_ins R dx r
        refine ⟨dx, hid_get (hid_get (st _ _ hu1) fun w => ?_) fun w => ?_⟩
        · rw [w, hej, eg] at hu1
          cases hu1
        · rw [w, hpj, eg] at hu1
          cases hu1
end
end Pn

namespace Pn
open PySem PySem.Spec PyProof.Rows L2 TL
theorem csn_ok {d : Pool} {cs : List (Str × Str)} {bk : List PartD} (h : BookOk d cs bk) : ∀ z ∈ cs.map (·.1), nameS z = true := fun z hz => by
  have fl := pool_fine d h.hd
  have f : z ∈ d.c := by
    rw [h.cn] at hz
    exact List.mem_of_mem_take hz
  exact fl.names z (by simp [f])
end Pn

namespace Pn
open PySem PySem.Spec PyProof.Rows L2 TL
/-! ### what stands where all but lists and dicts of texts stands: books, leaves -/
def Cut (A B : Hp) : Prop := ∀ a o, A a = some o → (∀ xs, o ≠ .lst xs) → (∀ kvs, o ≠ .dK kvs) → B a = some o
theorem cut_hh {H : Hp} {d g : Addr} (hD : DealAt H d g) : Cut H (hh H d g) := fun a o e n1 n2 => by
  obtain ⟨_, ys, n, m, t, ed, eg, _⟩ := hD
  refine hh_get e (fun z => ?_) (fun z => ?_)
  · rw [z, ed] at e; cases e; exact n2 _ rfl
  · rw [z, eg] at e; cases e; exact n1 _ rfl
section
variable {K : PySem.W.Frag} {mg : Str → Option Value} {R : TRows K mg} {T : TPart R} {F : TFill R}
theorem cut_sqt {A B : Hp} {a : Addr} {xs : List V} (c : Cut A B) (h : SqT K A a xs) : SqT K B a xs := by
  rcases h with (s | ⟨o, s⟩) | s
  · exact .inl (.inl (c _ _ s (fun _ z => nomatch z) (fun _ z => nomatch z)))
  · exact .inl (.inr ⟨o, c _ _ s (fun _ z => nomatch z) (fun _ z => nomatch z)⟩)
  · exact .inr s
theorem cut_tris {A B : Hp} {as : List Addr} {ts : List Tri} (c : Cut A B) (h : TrisIn K A as ts) : TrisIn K B as ts := paired_mono (fun _ _ e => cut_sqt c e) h
theorem cut_lv {Y : TLv F} {A B : Hp} {x : Addr} {rs : List Tri} (c : Cut A B) (h : LvAt Y A x rs) : LvAt Y B x rs := by
  obtain ⟨dx, p, as, h1, h2, h3, h4⟩ := h
  exact ⟨dx, p, as, c _ _ h1 (fun _ z => nomatch z) (fun _ z => nomatch z), cut_sqt c h2, cut_tris c h3, h4⟩
theorem cut_rows {A B : Hp} (c : Cut A B) {us : List Addr} {rs : List RowD} (h : RowsIn R A us rs) : RowsIn R B us rs :=
  paired_mono (fun a r e => by
    obtain ⟨dy, e⟩ := e
    obtain ⟨gs, eg⟩ := insRow_ins R dy r
    exact ⟨dy, c _ _ e (fun _ z => by rw [eg] at z; cases z) (fun _ z => by rw [eg] at z; cases z)⟩) h
theorem cut_pt {A B : Hp} (c : Cut A B) {a : Addr} {n : Str} {rs : List RowD} (h : PtAt T A a n rs) : PtAt T B a n rs := by
  obtain ⟨dx, tp, us, h1, h2, h3⟩ := h
  exact ⟨dx, tp, us, c _ _ h1 (fun _ z => nomatch z) (fun _ z => nomatch z), cut_sqt c h2, cut_rows c h3⟩
theorem cut_book {B : TBk T} {A G : Hp} {a : Addr} {cs : List (Str × Str)} {bk : List PartD} (c : Cut A G) (h : BookAt B A a cs bk) : BookAt B G a cs bk := by
  obtain ⟨dx, ct, pt, ft, ts, ps, us, h1, ⟨⟨o, d, h2⟩, h3⟩, ⟨h4, h5⟩, h6, h7⟩ := h
  exact ⟨dx, ct, pt, ft, ts, ps, us, c _ _ h1 (fun _ z => nomatch z) (fun _ z => nomatch z), ⟨⟨o, d, c _ _ h2 (fun _ z => nomatch z) (fun _ z => nomatch z)⟩, paired_mono (fun _ _ e => cut_sqt c e) h3⟩, ⟨cut_sqt c h4, paired_mono (R := fun a (q : PartD) => PtAt T A a q.1 q.2) (fun _ _ e => cut_pt c e) h5⟩, cut_sqt c h6, cut_rows c h7⟩
end
/-- few different open places -/
theorem few_opens {d : Pool} {cs : List (Str × Str)} {bk : List PartD} (ok : BookOk d cs bk) : (uniq (opens (unrolled bk))).length < 64 := by
  have fl := pool_fine d ok.hd
  have h : (uniq (opens (unrolled bk))).length ≤ (d.x ++ [("x" : Str)]).length := sub_len (uniq_nodup _) fun z hz => by
    rw [uniq_has] at hz
    obtain ⟨r, hr, e⟩ := List.mem_filterMap.mp hz
    have q := unrolled_all (G := RowIn d cs bk) ok.rows r hr
    cases r with
    | opn y =>
      cases e
      rcases q with f | ⟨l2, e, _⟩ | e
      · exact List.mem_append_left _ f
      · cases e
      · cases e
        exact List.mem_append_right _ (List.mem_singleton.mpr rfl)
    | _ => cases e
  rw [List.length_append, fl.xl] at h
  exact Nat.lt_of_le_of_lt h (by decide)
theorem bkn_ok {d : Pool} {cs : List (Str × Str)} {bk : List PartD} (h : BookOk d cs bk) : ∀ p ∈ bk, nameS p.1 = true := fun p hp => by
  have fl := pool_fine d h.hd
  have hx : p.1 ∈ bk.map (·.1) := List.mem_map.mpr ⟨p, hp, rfl⟩
  rw [h.bn] at hx
  exact fl.names _ (by simp [List.mem_of_mem_take hx])
theorem tabB_ok {d : Pool} {cs : List (Str × Str)} {bk : List PartD} {n : Nat} {T : Tab} (ok : BookOk d cs bk) (h : TabOk cs bk n T) : ∀ e ∈ T, triB (triE e) = true := fun e he => by
  obtain ⟨k1, k2⟩ := h.keys e he
  unfold triB
  show (nameS e.1.1 && (nameS e.1.2 && (decide (e.2 = "on") || decide (e.2 = "any")))) = true
  rw [opens_ok ok _ k1, csn_ok ok _ k2]
  rcases h.words e he with q | q
  · rw [q]; rfl
  · rw [q, decide_eq_true rfl, Bool.or_true]; rfl
end Pn

namespace Pn
open PySem L2
/-! ### len(x) of an own instance -/
def rLenOwn (C : Addr) (sp : Sp) (E : XK) : List V → Hp → VK → Prop := fun xs H Q => ∃ (a dx : Addr) (fs : List (Str × V)), xs = [V.ref a] ∧ H a = some (.ins C dx fs) ∧ sp [.ref a] H (fun z H' => ∃ n : Nat, z = .int (n : Int) ∧ n < 2 ^ 60 ∧ Q z H') E
theorem call_lenOwn {X : Cx} {CX : CXT} {k : Nat} {f C : Addr} {fd : FuncData} {ps : List Str} {sp : Sp} {E : XK} (F : FnOk X.prog X.w X.K X.mg X.base CX k f fd ps sp) (hs : PySem.W.findIn X.K (.ref C) "__len__" = some (some (.ref f))) (hf : PySem.W.isFn X.K (.ref f) = true)
    (hr : Room (k + 1) X.A) (hb : Binds X.K fd ps []) (hx : Passes CX X E) : CallR X (.builtin "len") (rLenOwn C sp E) := by
  intro pins s σ H xs us Q I r h
  obtain ⟨a, dx, fs, rfl, ha, q⟩ := h
  obtain ⟨u, rfl, ru⟩ := r.one
  cases (show u = Value.ref a from ru)
  obtain ⟨mA, O, _⟩ := ins_get I.hok ha
  obtain ⟨od, J, _⟩ := O.look
  obtain ⟨m, hF⟩ := I.fr
  refine PySem.W.len_K hF I.ok.mod.kin J hs hf (wpAny_mono (run_fnA F (Room.in1 hr) I.env0.in1 hb hx I (.cons (show RelV (.ref a) (Value.ref a) from rfl) .nil) q) (fun w s' z => ?_) fun _ _ x => x)
  obtain ⟨z', H', I', rz, n, ez, hn, qz⟩ := z
  subst ez
  obtain ⟨t, e⟩ := (show ∃ t, w = Value.int (n : Int) t from rz)
  subst e
  refine ⟨⟨Int.natCast_nonneg n, by have : ((2 : Int) ^ 63) = 9223372036854775808 := by decide
                                    rw [this]; have h2 : (2 : Nat) ^ 60 = 1152921504606846976 := by decide
                                    rw [h2] at hn; omega⟩, .int (n : Int), H', I'.kept (t' := s'.toks + 1) (fun _ _ z => z), ⟨_, rfl⟩, qz⟩
end Pn

namespace Pn
open PySem PySem.Spec PyProof.Rows L2 TL
abbrev sLLen : Stmt := inClass (top 23) 9
abbrev sRight : Stmt := top 83
/-! ### rules of leaves: told by the word of each pair -/
section
variable {X : Cx} {CX : CXT} {k : Nat} {f C : Addr} {fd : FuncData} {ps : List Str} {sp : Sp} {E : XK}
def rOpInsB (K : PySem.W.Frag) (nm : Str) (f : Addr) (sp : Sp) (E : XK) : R2 := fun x y H Q => ∃ (a C dx : Addr) (fs : List (Str × V)), x = .ref a ∧ H a = some (.ins C dx fs) ∧ PySem.W.findIn K (.ref C) nm = some (some (.ref f)) ∧ Right K C H y ∧ sp [x, y] H Q E
theorem op_eqInsB (F : FnOk X.prog X.w X.K X.mg X.base CX k f fd ps sp) (hf : PySem.W.isFn X.K (.ref f) = true) (hr : Room k X.A) (hb : Binds X.K fd ps []) (hx : Passes CX X E) : OpR X (compareOp .Eq) (rOpInsB X.K "__eq__" f sp E) := by
  intro pins s σ H x y v u Q I rx ry h
  obtain ⟨a, C, dx, fs, rfl, ha, hs, hy, q⟩ := h
  cases rx
  obtain ⟨mA, O, _⟩ := ins_get I.hok ha
  obtain ⟨od, J, _⟩ := O.look
  obtain ⟨m, hF⟩ := I.fr
  show wpAny (model X.prog X.w) X.A (richCompare .Eq (.ref a) u) (EP X pins σ Q) X.xe s
  have go : ∀ tb, PySem.W.Looks (model X.prog X.w) s.heap (typeOf u) tb → PySem.W.notFirst X.K C tb = true → wpAny (model X.prog X.w) X.A (richCompare .Eq (.ref a) u) (EP X pins σ Q) X.xe s := fun tb hl hn => by
    refine PySem.W.cmp_K (op := .Eq) (tb := tb) hr.units0 hF I.ok.mod.kin J hl hn hs hf ?_
    refine wpAny_mono (run_fnA F hr I.env0 hb hx I (.cons (show RelV (.ref a) (Value.ref a) from rfl) (.cons ry .nil)) q) (fun w s' z => ?_) fun _ _ x => x
    obtain ⟨z', H', I', rz, qz⟩ := z
    exact SlX.cmpback rz ⟨z', H', I', rz, qz⟩
  rcases hy with ⟨z, rfl, hn⟩ | ⟨b, D, dy, gs, rfl, hb2, hn⟩
  · obtain ⟨t, rfl⟩ := ry
    exact go _ (PySem.W.Looks.of_pure rfl) hn
  · cases ry
    obtain ⟨mB, O2, _⟩ := ins_get I.hok hb2
    obtain ⟨od2, J2, _⟩ := O2.look
    exact go _ J2.type hn
end
section
variable {P : Program} {w : World} {K : PySem.W.Frag} {mg : Str → Option Value} {base : Heap} {R : TRows K mg} {F : TFill R}
structure TLvLen {Y : TLv F} (Z : TLvE Y) (ZP : TLvP Y) : Type where
  len : TMeth K Y.C "__len__" "Leaves.__len__" sLLen ["self"]
section
variable {Y : TLv F}
def spLLen (Y : TLv F) : Sp := fun vs H Q _ => ∃ (x : Addr) (rs : List Tri), vs = [.ref x] ∧ LvAt Y H x rs ∧ ∀ H', Same H H' → Q (.int ((pairsM rs).length : Int)) H'
theorem scLLen : FnScope ["self"] ["self"] (defScope sLLen) := ⟨rfl, rfl, rfl, by decide +kernel, rfl, by decide +kernel, by decide +kernel⟩
theorem ok_lLen {Z : TLvE Y} {ZP : TLvP Y} (W : TLvLen Z ZP) : FnOk P w K mg base CX0 3 W.len.f W.len.fd ["self"] (spLLen Y) := by
  refine W.len.F.ok scLLen (fun vs H Q E h => ?_) (fun cdv A outer s H vs Q E hr h => ?_)
  · obtain ⟨x, rs, rfl, _⟩ := h
    rfl
  · obtain ⟨x, rs, rfl, hL, q⟩ := h
    refine ⟨_, (pss_one (ps_ret (pe_callB call_len_seq (by rfl) R.N.mLen PySem.boot_len (pa_cons (pe_prop (pv 0) Y.cl ZP.pairs.P (ok_lPairs ZP) (hr.mono (by decide)) ZP.pairs.b .nil pass0 rfl) pa_nil)))), ?_⟩
    obtain ⟨dx, _, _, h1, _⟩ := id hL
    refine ⟨_, rfl, x, dx, _, rfl, h1, x, rs, rfl, hL, fun p cs H2 s2 hp hc => ?_⟩
    refine ⟨p, _, rfl, .inr hp, ?_⟩
    rw [List.length_map, paired_len hc]
    exact q _ s2
def rLenLv (Y : TLv F) : List V → Hp → VK → Prop := fun xs H Q => ∃ (x : Addr) (rs : List Tri), xs = [.ref x] ∧ LvAt Y H x rs ∧ ∀ H', Same H H' → Q (.int ((pairsM rs).length : Int)) H'
theorem call_lenLv {X : Cx} (hK : X.K = K) (hm : X.mg = mg) {Z : TLvE Y} {ZP : TLvP Y} (W : TLvLen Z ZP) (hr : Room 4 X.A) : CallR X (.builtin "len") (rLenLv Y) := by
  subst hK
  subst hm
  intro pins s σ H xs us Q I r h
  obtain ⟨x, rs, rfl, hL, q⟩ := h
  obtain ⟨dx, _, _, h1, _, _, _, _, h6⟩ := id hL
  refine call_lenOwn (ok_lLen W) W.len.hs W.len.hf hr W.len.b pass0 pins s σ H _ us Q I r ⟨x, dx, _, rfl, h1, x, rs, rfl, hL, fun H' s' => ⟨_, rfl, ?_, q H' s'⟩⟩
  exact Nat.lt_of_le_of_lt (Nat.le_trans (List.length_filter_le _ _) h6) (by decide)
def rEqLv (Y : TLv F) : R2 := fun x y H Q => ∃ (a b : Addr) (rs qs : List Tri), x = .ref a ∧ y = .ref b ∧ LvAt Y H a rs ∧ LvAt Y H b qs ∧ Q (.bl (decide (rs = qs))) H
theorem op_eqLv {X : Cx} (hK : X.K = K) (hm : X.mg = mg) {Z : TLvE Y} (RR : TLvR Z) (hr : Room 3 X.A) : OpR X (compareOp .Eq) (rEqLv Y) := by
  subst hK
  subst hm
  intro pins s σ H x y v u Q I rx ry h
  obtain ⟨a, b, rs, qs, rfl, rfl, ha, hb, q⟩ := h
  obtain ⟨dx, _, _, hx, _⟩ := id ha
  obtain ⟨dy, _, _, hy, _⟩ := id hb
  exact op_eqInsB (ok_lEq Z) Z.eq.hf (hr.mono (by decide)) Z.eq.b pass0 pins s σ H _ _ v u Q I rx ry ⟨a, _, dx, _, rfl, hx, Z.eq.hs, .inr ⟨b, _, dy, _, rfl, hy, RR.nC⟩, a, b, rs, qs, rfl, ha, hb, q⟩
/-- leaves told by the word of each pair -/
def RLv (Y : TLv F) (H : Hp) (a : Addr) (f : KP → Str) : Prop := ∃ rs, LvAt Y H a rs ∧ RRep rs f
theorem RLv.same {H H' : Hp} {a : Addr} {f : KP → Str} (h : RLv Y H a f) (s : Same H H') : RLv Y H' a f := by
  obtain ⟨rs, h1, h2⟩ := h
  exact ⟨rs, h1.same s, h2⟩
theorem or_go {H : Hp} {a b : Addr} {f g : KP → Str} {Q : VK} (ha : RLv Y H a f) (hb : RLv Y H b g) (q : ∀ (z : Addr) (H' : Hp), Same H H' → RLv Y H' z (maxW f g) → Q (.ref z) H') : rOrLv Y (.ref a) (.ref b) H Q := by
  obtain ⟨rs, h1, h2⟩ := ha
  obtain ⟨qs, g1, g2⟩ := hb
  exact ⟨a, b, rs, qs, rfl, rfl, h1, g1, few_pool (fun t ht => (List.mem_append.mp ht).elim (h2.ok t) (g2.ok t)) (by have := h2.len; have := g2.len; rw [List.length_append]; omega), fun z H' s hz => q z H' s ⟨_, hz, h2.or g2⟩⟩
theorem and_go {H : Hp} {a b : Addr} {f g : KP → Str} {Q : VK} (ha : RLv Y H a f) (hb : RLv Y H b g) (q : ∀ (z : Addr) (H' : Hp), Same H H' → RLv Y H' z (minW f g) → Q (.ref z) H') : rAndLv Y (.ref a) (.ref b) H Q := by
  obtain ⟨rs, h1, h2⟩ := ha
  obtain ⟨qs, g1, g2⟩ := hb
  exact ⟨a, b, rs, qs, rfl, rfl, h1, g1, h2.few, fun z H' s hz => q z H' s ⟨_, hz, h2.and g2⟩⟩
theorem ne_go {H : Hp} {a b : Addr} {f g : KP → Str} {Q : VK} (ha : RLv Y H a f) (hb : RLv Y H b g) (e : f = g) (q : Q (.bl false) H) : rNeLv Y (.ref a) (.ref b) H Q := by
  obtain ⟨rs, h1, h2⟩ := ha
  obtain ⟨qs, g1, g2⟩ := hb
  subst e
  refine ⟨a, b, rs, qs, rfl, rfl, h1, g1, ?_⟩
  rw [decide_eq_true (h2.uniq g2)]
  exact q
noncomputable def leW (f g : KP → Str) : Bool := @decide (maxW f g = g) (Classical.propDecidable _)
noncomputable def eqW (f g : KP → Str) : Bool := @decide (f = g) (Classical.propDecidable _)
theorem le_trueW {f g : KP → Str} : leW f g = true ↔ maxW f g = g := @decide_eq_true_iff _ (Classical.propDecidable _)
theorem eq_trueW {f g : KP → Str} : eqW f g = true ↔ f = g := @decide_eq_true_iff _ (Classical.propDecidable _)
theorem words3 {a b : Str} (ha : a = "any" ∨ a = "on" ∨ a = "") (hb : b = "any" ∨ b = "on" ∨ b = "") : rankW a ≤ rankW b ↔ (if a = ("any" : Str) ∨ b = ("any" : Str) then ("any" : Str) else if a = ("" : Str) ∧ b = ("" : Str) then "" else "on") = b := by
  rcases ha with rfl | rfl | rfl <;> rcases hb with rfl | rfl | rfl <;> decide +kernel
theorem le_max {f g : KP → Str} (hf : W3 f) (hg : W3 g) : (∀ k, rankW (f k) ≤ rankW (g k)) ↔ maxW f g = g := by
  constructor
  · intro h
    funext k
    exact (words3 (hf k) (hg k)).mp (h k)
  · intro h k
    exact (words3 (hf k) (hg k)).mpr (congrFun h k)
theorem RRep.inj {rs qs : List Tri} {f g : KP → Str} (h : RRep rs f) (h2 : RRep qs g) : rs = qs ↔ f = g := by
  constructor
  · rintro rfl
    exact w3_eq h.w3 h2.w3 (fun k => (h.any k).symm.trans (h2.any k)) fun k => (h.on k).symm.trans (h2.on k)
  · rintro rfl
    exact h.uniq h2
theorem inB_le {rs qs : List Tri} {f g : KP → Str} (h : RRep rs f) (h2 : RRep qs g) : inB rs qs = leW f g := by
  rw [Bool.eq_iff_iff, h.inB h2, le_max h.w3 h2.w3]
  exact le_trueW.symm
theorem le_go {H : Hp} {a b : Addr} {f g : KP → Str} {Q : VK} (ha : RLv Y H a f) (hb : RLv Y H b g) (q : ∀ H', Same H H' → Q (.bl (leW f g)) H') : rLeLv Y (.ref a) (.ref b) H Q := by
  obtain ⟨rs, h1, h2⟩ := ha
  obtain ⟨qs, g1, g2⟩ := hb
  refine ⟨a, b, rs, qs, rfl, rfl, h1, g1, fun H' s => ?_⟩
  rw [inB_le h2 g2]
  exact q H' s
theorem ge_go {H : Hp} {a b : Addr} {f g : KP → Str} {Q : VK} (ha : RLv Y H a f) (hb : RLv Y H b g) (q : ∀ H', Same H H' → Q (.bl (leW g f)) H') : rGeLv Y (.ref a) (.ref b) H Q := by
  obtain ⟨rs, h1, h2⟩ := ha
  obtain ⟨qs, g1, g2⟩ := hb
  refine ⟨a, b, rs, qs, rfl, rfl, h1, g1, fun H' s => ?_⟩
  rw [inB_le g2 h2]
  exact q H' s
theorem eq_go {H : Hp} {a b : Addr} {f g : KP → Str} {Q : VK} (ha : RLv Y H a f) (hb : RLv Y H b g) (q : Q (.bl (eqW f g)) H) : rEqLv Y (.ref a) (.ref b) H Q := by
  obtain ⟨rs, h1, h2⟩ := ha
  obtain ⟨qs, g1, g2⟩ := hb
  refine ⟨a, b, rs, qs, rfl, rfl, h1, g1, ?_⟩
  have e : decide (rs = qs) = eqW f g := by
    rw [Bool.eq_iff_iff, decide_eq_true_iff, eq_trueW]
    exact h2.inj g2
  rw [e]
  exact q
theorem RLv.w3 {H : Hp} {a : Addr} {f : KP → Str} (h : RLv Y H a f) : W3 f := by
  obtain ⟨rs, _, h2⟩ := h
  exact h2.w3
/-! the algebra of words -/
def noW : KP → Str := fun _ => ""
theorem no_W3 : W3 noW := fun _ => .inr (.inr rfl)
theorem word_nil : wordM [] = noW := funext fun k => by
  unfold wordM
  rw [if_neg List.not_mem_nil, if_neg List.not_mem_nil]
  rfl
theorem max_assoc (f g h : KP → Str) : maxW (maxW f g) h = maxW f (maxW g h) := w3_eq (maxW_W3 _ _) (maxW_W3 _ _) (fun k => by rw [maxW_any, maxW_any, maxW_any, maxW_any, or_assoc]) fun k => by rw [maxW_ne, maxW_ne, maxW_ne, maxW_ne, or_assoc]
theorem min_assoc (f g h : KP → Str) : minW (minW f g) h = minW f (minW g h) := w3_eq (minW_W3 _ _) (minW_W3 _ _) (fun k => by rw [minW_any, minW_any, minW_any, minW_any, and_assoc]) fun k => by rw [minW_some, minW_some, minW_some, minW_some, and_assoc]
theorem min_max (f g h : KP → Str) : minW f (maxW g h) = maxW (minW f g) (minW f h) := w3_eq (minW_W3 _ _) (maxW_W3 _ _) (fun k => by rw [minW_any, maxW_any, maxW_any, minW_any, minW_any, and_or_left]) fun k => by rw [minW_some, maxW_ne, maxW_ne, minW_some, minW_some, and_or_left]
theorem max_min_self {f : KP → Str} (g : KP → Str) (hf : W3 f) : maxW f (minW f g) = f := w3_eq (maxW_W3 _ _) hf (fun k => by rw [maxW_any, minW_any]; exact ⟨fun z => z.elim id And.left, .inl⟩) fun k => by rw [maxW_ne, minW_some]; exact ⟨fun z => z.elim id And.left, .inl⟩
theorem min_max_self {f : KP → Str} (g : KP → Str) (hf : W3 f) : minW f (maxW f g) = f := w3_eq (minW_W3 _ _) hf (fun k => by rw [minW_any, maxW_any]; exact ⟨And.left, fun z => ⟨z, .inl z⟩⟩) fun k => by rw [minW_some, maxW_ne]; exact ⟨And.left, fun z => ⟨z, .inl z⟩⟩
theorem max_self {f : KP → Str} (hf : W3 f) : maxW f f = f := w3_eq (maxW_W3 _ _) hf (fun k => by rw [maxW_any, or_self]) fun k => by rw [maxW_ne, or_self]
theorem min_self {f : KP → Str} (hf : W3 f) : minW f f = f := w3_eq (minW_W3 _ _) hf (fun k => by rw [minW_any, and_self]) fun k => by rw [minW_some, and_self]
theorem max_no {f : KP → Str} (hf : W3 f) : maxW f noW = f := w3_eq (maxW_W3 _ _) hf (fun k => by rw [maxW_any]; exact ⟨fun z => z.elim id fun q => absurd q.symm wds.1, .inl⟩) fun k => by rw [maxW_ne]; exact ⟨fun z => z.elim id fun q => absurd rfl q, .inl⟩
theorem min_no (f : KP → Str) : minW f noW = noW := w3_eq (minW_W3 _ _) no_W3 (fun k => by rw [minW_any]; exact ⟨And.right, fun z => absurd z.symm wds.1⟩) fun k => by rw [minW_some]; exact ⟨And.right, fun z => absurd rfl z⟩
theorem min_le {f g : KP → Str} (hf : W3 f) (hg : W3 g) : eqW (minW f g) f = leW f g := by
  rw [Bool.eq_iff_iff, le_trueW, eq_trueW]
  constructor
  · intro h
    rw [← h, maxW_comm, minW_comm]
    exact max_min_self f hg
  · intro h
    rw [← h]
    exact min_max_self g hf
theorem le_trans3 {f g h : KP → Str} (a : leW f g = true) (b : leW g h = true) : leW f h = true := by
  rw [le_trueW] at a b ⊢
  rw [← b, ← max_assoc, a]
theorem le_anti {f g : KP → Str} (hf : W3 f) (hg : W3 g) : (leW f g && leW g f) = eqW f g := by
  rw [Bool.eq_iff_iff, Bool.and_eq_true, le_trueW, le_trueW, eq_trueW]
  constructor
  · rintro ⟨a, b⟩
    rw [← a, maxW_comm, b]
  · rintro rfl
    exact ⟨max_self hf, max_self hf⟩
end
end
end Pn

namespace Pn
open PySem PySem.Spec PyProof.Rows L2 TL
section
variable {P : Program} {w : World} {K : PySem.W.Frag} {mg : Str → Option Value} {base : Heap} {R : TRows K mg} {F : TFill R}
structure TRul (F : TFill R) : Type where
  Y : TLv F
  Z : TLvE Y
  ZP : TLvP Y
  J : TLvJ Z
  RR : TLvR Z
  C : TLvC J
  W : TLvLen Z ZP
  dL : List Value
  vL : Vals [V.ref Y.dP] dL
  bL : Binds K Y.fdI ["self", "items"] dL
  mL : mg "len" = none
theorem andTrue {ta tb : TE} {σ : L2.St} {H : Hp} {Q : VK} (h1 : ∀ Q' : VK, (∀ H', Same H H' → Q' (.bl true) H') → ta σ H Q') (h2 : ∀ H', Same H H' → tb σ H' Q) : tAndV ta tb σ H Q := h1 _ fun H' s => ⟨true, rfl, by rw [if_pos rfl]; exact h2 H' s⟩
theorem none_go (T : TRul F) {σ : L2.St} {H : Hp} {Q : VK} (q : ∀ (z : Addr) (H' : Hp), Same H H' → RLv T.Y H' z noW → Q (.ref z) H') : tMake T.Y.C (spLInit T.Y) [.ref T.Y.dP] E0 tNil σ H Q := by
  refine lv_made T.Y (ts := []) ⟨T.Y.dP, [], rfl, .inr (T.Y.hP _), .nil⟩ (fun t ht => nomatch ht) (few_pool (fun t ht => nomatch ht) (by show 0 ≤ 100; decide)) fun p Hf sf h => ?_
  have e : RRep (rightsM []) (wordM []) := rrep_rights fun t ht => nomatch ht
  rw [word_nil] at e
  exact q p Hf sf ⟨_, h, e⟩
def spRight (Y : TLv F) : Sp := fun vs H Q _ => ∃ (x y z : Addr) (f g h : KP → Str), vs = [.ref x, .ref y, .ref z] ∧ RLv Y H x f ∧ RLv Y H y g ∧ RLv Y H z h ∧ ∀ H', Same H H' → Q (.bl true) H'
theorem scRight : FnScope ["_law_p", "_law_q", "_law_r"] ["_law_p", "_law_q", "_law_r"] (defScope sRight) := ⟨rfl, rfl, rfl, by decide +kernel, rfl, by decide +kernel, by decide +kernel⟩
theorem ok_right (T : TRul F) {f : Addr} {fd : FuncData} (Fn : Fun K "_law_rules_right" "_law_rules_right" sRight f fd) : FnOk P w K mg base CX0 10 f fd ["_law_p", "_law_q", "_law_r"] (spRight T.Y) := by
  refine Fn.ok scRight (fun vs H Q E h => ?_) (fun cdv A outer s H vs Q E hr h => ?_)
  · obtain ⟨x, y, z, f, g, h, rfl, _⟩ := h
    rfl
  · obtain ⟨x, y, z, f, g, h, rfl, hx, hy, hz, q⟩ := h
    refine ⟨_, (pss_cons (ps_if (PW.pt (pw_or (pt_cmpR (op_neLv (K := K) (mg := mg) rfl rfl T.RR (hr.mono (by decide))) (pe_op (op_orLv (K := K) (mg := mg) rfl rfl T.J T.RR (hr.mono (by decide))) (pe_op (op_orLv (K := K) (mg := mg) rfl rfl T.J T.RR (hr.mono (by decide))) (pv 0) (pv 1)) (pv 2)) (pe_op (op_orLv (K := K) (mg := mg) rfl rfl T.J T.RR (hr.mono (by decide))) (pv 0) (pe_op (op_orLv (K := K) (mg := mg) rfl rfl T.J T.RR (hr.mono (by decide))) (pv 1) (pv 2))) (nomark _)) (pw_or (pt_cmpR (op_neLv (K := K) (mg := mg) rfl rfl T.RR (hr.mono (by decide))) (pe_op (op_andLv (K := K) (mg := mg) rfl rfl T.J T.RR (hr.mono (by decide))) (pe_op (op_andLv (K := K) (mg := mg) rfl rfl T.J T.RR (hr.mono (by decide))) (pv 0) (pv 1)) (pv 2)) (pe_op (op_andLv (K := K) (mg := mg) rfl rfl T.J T.RR (hr.mono (by decide))) (pv 0) (pe_op (op_andLv (K := K) (mg := mg) rfl rfl T.J T.RR (hr.mono (by decide))) (pv 1) (pv 2))) (nomark _)) (pw_or1 (pt_cmpR (op_neLv (K := K) (mg := mg) rfl rfl T.RR (hr.mono (by decide))) (pe_op (op_andLv (K := K) (mg := mg) rfl rfl T.J T.RR (hr.mono (by decide))) (pv 0) (pe_op (op_orLv (K := K) (mg := mg) rfl rfl T.J T.RR (hr.mono (by decide))) (pv 1) (pv 2))) (pe_op (op_orLv (K := K) (mg := mg) rfl rfl T.J T.RR (hr.mono (by decide))) (pe_op (op_andLv (K := K) (mg := mg) rfl rfl T.J T.RR (hr.mono (by decide))) (pv 0) (pv 1)) (pe_op (op_andLv (K := K) (mg := mg) rfl rfl T.J T.RR (hr.mono (by decide))) (pv 0) (pv 2))) (nomark _)))))) (pss_one (ps_ret pe_bl)) pss_nil)
(pss_cons (ps_if (PW.pt (pw_or (pt_cmpR (op_neLv (K := K) (mg := mg) rfl rfl T.RR (hr.mono (by decide))) (pe_op (op_orLv (K := K) (mg := mg) rfl rfl T.J T.RR (hr.mono (by decide))) (pv 0) (pe_op (op_andLv (K := K) (mg := mg) rfl rfl T.J T.RR (hr.mono (by decide))) (pv 0) (pv 1))) (pv 0) (nomark _)) (pw_or (pt_cmpR (op_neLv (K := K) (mg := mg) rfl rfl T.RR (hr.mono (by decide))) (pe_op (op_andLv (K := K) (mg := mg) rfl rfl T.J T.RR (hr.mono (by decide))) (pv 0) (pe_op (op_orLv (K := K) (mg := mg) rfl rfl T.J T.RR (hr.mono (by decide))) (pv 0) (pv 1))) (pv 0) (nomark _)) (pw_or (pt_cmpR (op_neLv (K := K) (mg := mg) rfl rfl T.RR (hr.mono (by decide))) (pe_op (op_orLv (K := K) (mg := mg) rfl rfl T.J T.RR (hr.mono (by decide))) (pv 0) (pv 0)) (pv 0) (nomark _)) (pw_or1 (pt_cmpR (op_neLv (K := K) (mg := mg) rfl rfl T.RR (hr.mono (by decide))) (pe_op (op_andLv (K := K) (mg := mg) rfl rfl T.J T.RR (hr.mono (by decide))) (pv 0) (pv 0)) (pv 0) (nomark _))))))) (pss_one (ps_ret pe_bl)) pss_nil)
(pss_cons (ps_if (PW.pt (pw_or (pt_cmpR (op_neLv (K := K) (mg := mg) rfl rfl T.RR (hr.mono (by decide))) (pe_op (op_orLv (K := K) (mg := mg) rfl rfl T.J T.RR (hr.mono (by decide))) (pv 0) (pe_make0 T.Y.M (ok_lInit T.Y) (hr.mono (by decide)) rfl T.Y.mC T.bL T.vL pass0)) (pv 0) (nomark _)) (pw_or1 (pt_cmpR op_ne (pe_callB (call_lenLv (K := K) (mg := mg) rfl rfl T.W (hr.mono (by decide))) (by rfl) T.mL PySem.boot_len (pa_cons (pe_op (op_andLv (K := K) (mg := mg) rfl rfl T.J T.RR (hr.mono (by decide))) (pv 0) (pe_make0 T.Y.M (ok_lInit T.Y) (hr.mono (by decide)) rfl T.Y.mC T.bL T.vL pass0)) pa_nil)) pe_int (nomark _))))) (pss_one (ps_ret pe_bl)) pss_nil)
(pss_cons (ps_if (PW.pt (pw_or (pt_cmpR op_ne (pe_cmpR (op_leLv (K := K) (mg := mg) rfl rfl T.RR T.C (hr.mono (by decide))) (pv 0) (pv 1) (nomark _)) (pe_cmpR (op_eqLv (K := K) (mg := mg) rfl rfl T.RR (hr.mono (by decide))) (pe_op (op_orLv (K := K) (mg := mg) rfl rfl T.J T.RR (hr.mono (by decide))) (pv 0) (pv 1)) (pv 1) (nomark _)) (nomark _)) (pw_or (pt_cmpR op_ne (pe_cmpR (op_leLv (K := K) (mg := mg) rfl rfl T.RR T.C (hr.mono (by decide))) (pv 0) (pv 1) (nomark _)) (pe_cmpR (op_eqLv (K := K) (mg := mg) rfl rfl T.RR (hr.mono (by decide))) (pe_op (op_andLv (K := K) (mg := mg) rfl rfl T.J T.RR (hr.mono (by decide))) (pv 0) (pv 1)) (pv 0) (nomark _)) (nomark _)) (pw_or1 (pt_cmpR op_ne (pe_cmpR (op_geLv (K := K) (mg := mg) rfl rfl T.RR T.C (hr.mono (by decide))) (pv 0) (pv 1) (nomark _)) (pe_cmpR (op_leLv (K := K) (mg := mg) rfl rfl T.RR T.C (hr.mono (by decide))) (pv 1) (pv 0) (nomark _)) (nomark _)))))) (pss_one (ps_ret pe_bl)) pss_nil)
(pss_one (ps_ret (pe_and (pe_or (pe_not (pe_and (pe_cmpR (op_leLv (K := K) (mg := mg) rfl rfl T.RR T.C (hr.mono (by decide))) (pv 0) (pv 1) (nomark _)) (pe_one (pe_cmpR (op_leLv (K := K) (mg := mg) rfl rfl T.RR T.C (hr.mono (by decide))) (pv 1) (pv 2) (nomark _))))) (pe_one (pe_cmpR (op_leLv (K := K) (mg := mg) rfl rfl T.RR T.C (hr.mono (by decide))) (pv 0) (pv 2) (nomark _)))) (pe_one (pe_cmpR op_eq (pe_and (pe_cmpR (op_leLv (K := K) (mg := mg) rfl rfl T.RR T.C (hr.mono (by decide))) (pv 0) (pv 1) (nomark _)) (pe_one (pe_cmpR (op_leLv (K := K) (mg := mg) rfl rfl T.RR T.C (hr.mono (by decide))) (pv 1) (pv 0) (nomark _)))) (pe_cmpR (op_eqLv (K := K) (mg := mg) rfl rfl T.RR (hr.mono (by decide))) (pv 0) (pv 1) (nomark _)) (nomark _)))))))))), ?_⟩
    have wf := hx.w3
    have wg := hy.w3
    have wh := hz.w3
    refine stepNo (fun H' => Same H H') (fun Q' hQ => ?c1) (fun H1 s1 => ?r1)
    case c1 =>
      refine ⟨_, rfl, _, rfl, or_go hx hy fun a1 A1 t1 r1 => ?_⟩
      refine ⟨_, rfl, or_go r1 (hz.same t1) fun a2 A2 t2 r2 => ?_⟩
      have u2 := t1.trans t2
      refine ⟨_, rfl, _, rfl, _, rfl, or_go (hy.same u2) (hz.same u2) fun a3 A3 t3 r3 => ?_⟩
      have u3 := u2.trans t3
      refine or_go (hx.same u3) r3 fun a4 A4 t4 r4 => ne_go (r2.same (t3.trans t4)) r4 (max_assoc _ _ _) ⟨_, rfl, iteFD rfl ?_⟩
      have u4 := u3.trans t4
      refine ⟨_, rfl, _, rfl, and_go (hx.same u4) (hy.same u4) fun a5 A5 t5 r5 => ?_⟩
      have u5 := u4.trans t5
      refine ⟨_, rfl, and_go r5 (hz.same u5) fun a6 A6 t6 r6 => ?_⟩
      have u6 := u5.trans t6
      refine ⟨_, rfl, _, rfl, _, rfl, and_go (hy.same u6) (hz.same u6) fun a7 A7 t7 r7 => ?_⟩
      have u7 := u6.trans t7
      refine and_go (hx.same u7) r7 fun a8 A8 t8 r8 => ne_go (r6.same (t7.trans t8)) r8 (min_assoc _ _ _) ⟨_, rfl, iteFD rfl ?_⟩
      have u8 := u7.trans t8
      refine ⟨_, rfl, _, rfl, _, rfl, or_go (hy.same u8) (hz.same u8) fun b1 B1 v1 w1 => ?_⟩
      have x1 := u8.trans v1
      refine and_go (hx.same x1) w1 fun b2 B2 v2 w2 => ?_
      have x2 := x1.trans v2
      refine ⟨_, rfl, _, rfl, and_go (hx.same x2) (hy.same x2) fun b3 B3 v3 w3 => ?_⟩
      have x3 := x2.trans v3
      refine ⟨_, rfl, _, rfl, and_go (hx.same x3) (hz.same x3) fun b4 B4 v4 w4 => ?_⟩
      refine or_go (w3.same v4) w4 fun b5 B5 v5 w5 => ne_go (w2.same ((v3.trans v4).trans v5)) w5 (min_max _ _ _) ⟨_, rfl, hQ _ ((x3.trans v4).trans v5)⟩
    case r1 =>
    have hx := hx.same s1
    have hy := hy.same s1
    have hz := hz.same s1
    refine stepNo (fun H' => Same H1 H') (fun Q' hQ => ?c2) (fun H2 s2 => ?r2)
    case c2 =>
      refine ⟨_, rfl, _, rfl, _, rfl, and_go hx hy fun a1 A1 t1 r1 => ?_⟩
      refine or_go (hx.same t1) r1 fun a2 A2 t2 r2 => ?_
      have u2 := t1.trans t2
      refine ⟨_, rfl, ne_go r2 (hx.same u2) (max_min_self _ wf) ⟨_, rfl, iteFD rfl ?_⟩⟩
      refine ⟨_, rfl, _, rfl, _, rfl, or_go (hx.same u2) (hy.same u2) fun a3 A3 t3 r3 => ?_⟩
      have u3 := u2.trans t3
      refine and_go (hx.same u3) r3 fun a4 A4 t4 r4 => ?_
      have u4 := u3.trans t4
      refine ⟨_, rfl, ne_go r4 (hx.same u4) (min_max_self _ wf) ⟨_, rfl, iteFD rfl ?_⟩⟩
      refine ⟨_, rfl, _, rfl, or_go (hx.same u4) (hx.same u4) fun a5 A5 t5 r5 => ?_⟩
      have u5 := u4.trans t5
      refine ⟨_, rfl, ne_go r5 (hx.same u5) (max_self wf) ⟨_, rfl, iteFD rfl ?_⟩⟩
      refine ⟨_, rfl, _, rfl, and_go (hx.same u5) (hx.same u5) fun a6 A6 t6 r6 => ?_⟩
      have u6 := u5.trans t6
      exact ⟨_, rfl, ne_go r6 (hx.same u6) (min_self wf) ⟨_, rfl, hQ _ u6⟩⟩
    case r2 =>
    have hx := hx.same s2
    have hy := hy.same s2
    have hz := hz.same s2
    refine stepNo (fun H' => Same H2 H') (fun Q' hQ => ?c3) (fun H3 s3 => ?r3)
    case c3 =>
      refine ⟨_, rfl, none_go T fun z1 A1 t1 r1 => ?_⟩
      refine or_go (hx.same t1) r1 fun a2 A2 t2 r2 => ?_
      have u2 := t1.trans t2
      refine ⟨_, rfl, ne_go r2 (hx.same u2) (max_no wf) ⟨_, rfl, iteFD rfl ?_⟩⟩
      refine ⟨_, rfl, none_go T fun z3 A3 t3 r3 => ?_⟩
      have u3 := u2.trans t3
      refine and_go (hx.same u3) r3 fun a4 A4 t4 r4 => ?_
      obtain ⟨rs, l1, l2⟩ := r4
      rw [min_no] at l2
      have e0 : pairsM rs = [] := by
        rw [List.eq_nil_iff_forall_not_mem]
        intro t ht
        rw [← triK_of t] at ht
        have := (l2.pairs _ _).mp ht
        exact this.2 this.1.symm
      refine ⟨_, rs, rfl, l1, fun H' s' => ?_⟩
      rw [e0]
      refine ⟨rfl, _, rfl, ?_⟩
      have e1 : (!decide (V.int (([] : List Tri).length : Int) = V.int 0)) = false := rfl
      rw [e1]
      exact hQ _ ((u3.trans t4).trans s')
    case r3 =>
    have hx := hx.same s3
    have hy := hy.same s3
    have hz := hz.same s3
    refine stepNo (fun H' => Same H3 H') (fun Q' hQ => ?c4) (fun H4 s4 => ?r4)
    case c4 =>
      refine ⟨_, rfl, _, rfl, le_go hx hy fun A1 t1 => ?_⟩
      refine ⟨_, rfl, _, rfl, or_go (hx.same t1) (hy.same t1) fun a2 A2 t2 r2 => ?_⟩
      have u2 := t1.trans t2
      refine ⟨_, rfl, eq_go r2 (hy.same u2) ?_⟩
      rw [show eqW (maxW f g) g = leW f g from rfl]
      refine rNe_same rfl ⟨_, rfl, iteFD rfl ?_⟩
      refine ⟨_, rfl, _, rfl, le_go (hx.same u2) (hy.same u2) fun A3 t3 => ?_⟩
      have u3 := u2.trans t3
      refine ⟨_, rfl, _, rfl, and_go (hx.same u3) (hy.same u3) fun a4 A4 t4 r4 => ?_⟩
      have u4 := u3.trans t4
      refine ⟨_, rfl, eq_go r4 (hx.same u4) ?_⟩
      rw [min_le wf wg]
      refine rNe_same rfl ⟨_, rfl, iteFD rfl ?_⟩
      refine ⟨_, rfl, _, rfl, ge_go (hx.same u4) (hy.same u4) fun A5 t5 => ?_⟩
      have u5 := u4.trans t5
      refine ⟨_, rfl, _, rfl, le_go (hy.same u5) (hx.same u5) fun A6 t6 => ?_⟩
      exact rNe_same rfl ⟨_, rfl, hQ _ (u5.trans t6)⟩
    case r4 =>
    have hx := hx.same s4
    have hy := hy.same s4
    have hz := hz.same s4
    have s14 := ((s1.trans s2).trans s3).trans s4
    refine andTrue (fun Q' hQ => ?c5) (fun H5 s5 => ?r5)
    case c5 =>
      refine ⟨_, rfl, _, rfl, le_go hx hy fun A1 t1 => ⟨_, rfl, ?_⟩⟩
      cases e1 : leW f g with
      | false => exact iteF ⟨_, rfl, _, rfl, iteTD rfl (hQ _ t1)⟩
      | true =>
        refine iteT ⟨_, rfl, _, rfl, le_go (hy.same t1) (hz.same t1) fun A2 t2 => ⟨_, rfl, _, rfl, ?_⟩⟩
        cases e2 : leW g h with
        | false => exact iteTD rfl (hQ _ (t1.trans t2))
        | true =>
          refine iteFD rfl ⟨_, rfl, _, rfl, le_go (hx.same (t1.trans t2)) (hz.same (t1.trans t2)) fun A3 t3 => ?_⟩
          rw [le_trans3 e1 e2]
          exact hQ _ ((t1.trans t2).trans t3)
    case r5 =>
      have hx := hx.same s5
      have hy := hy.same s5
      have s15 := s14.trans s5
      refine ⟨_, rfl, _, rfl, le_go hx hy fun A1 t1 => ⟨_, rfl, ?_⟩⟩
      have anti := le_anti wf wg
      cases e1 : leW f g with
      | false =>
        rw [e1] at anti
        have e : eqW f g = false := anti.symm
        refine iteF ⟨_, rfl, _, rfl, eq_go (hx.same t1) (hy.same t1) ⟨rfl, ?_⟩⟩
        rw [e, decide_eq_true rfl]
        exact q _ (s15.trans t1)
      | true =>
        rw [e1] at anti
        have e : eqW f g = leW g f := anti.symm
        refine iteT ⟨_, rfl, _, rfl, le_go (hy.same t1) (hx.same t1) fun A2 t2 => ⟨_, rfl, _, rfl, eq_go (hx.same (t1.trans t2)) (hy.same (t1.trans t2)) ⟨rfl, ?_⟩⟩⟩
        rw [e, decide_eq_true rfl]
        exact q _ (s15.trans (t1.trans t2))
end
end Pn

namespace Pn
open PySem PySem.Spec PyProof.Rows L2 TL
/-! ### k36: what both allow, what one of both allows -/
theorem flat_few36 {d : Pool} {cs : List (Str × Str)} {bk : List PartD} (h : BookOk d cs bk) : (unrolled bk).length ≤ 343 := by
  unfold unrolled
  cases hk : knowns bk with
  | nil => exact Nat.zero_le _
  | cons y l =>
    have q := knowns_small h.puts bk.length (Nat.le_refl _) y.1 y.2 (by rw [List.take_length, hk]; exact List.mem_cons_self)
    have : 7 ^ bk.length ≤ 7 ^ 3 := Nat.pow_le_pow_right (by decide) h.b3
    exact Nat.le_trans q this
def Closed (rs : List Tri) : Prop := ∀ t ∈ rs, going t ∈ rs
theorem closed_rights (ts : List Tri) : Closed (rightsM ts) := fun t ht => by
  rw [mem_rights] at ht ⊢
  rcases ht with ht | ⟨u, hu, rfl⟩
  · exact .inr ⟨t, ht, rfl⟩
  · exact .inr ⟨u, hu, rfl⟩
theorem mem_both {rs qs : List Tri} (hr : Closed rs) (hq : Closed qs) {t : Tri} : t ∈ rightsM (rs.filter fun t => decide (t ∈ qs)) ↔ t ∈ rs ∧ t ∈ qs := by
  rw [mem_rights]
  constructor
  · rintro (h | ⟨u, hu, rfl⟩)
    · exact ⟨(List.mem_filter.mp h).1, of_decide_eq_true (List.mem_filter.mp h).2⟩
    · exact ⟨hr u (List.mem_filter.mp hu).1, hq u (of_decide_eq_true (List.mem_filter.mp hu).2)⟩
  · rintro ⟨a, b⟩
    exact .inl (List.mem_filter.mpr ⟨a, decide_eq_true b⟩)
theorem allow_both {rs qs : List Tri} (hr : Closed rs) (hq : Closed qs) (cs : List (Str × Str)) (bk : List PartD) (es : List FD) : allowM cs bk (rightsM (rs.filter fun t => decide (t ∈ qs))) es = (allowM cs bk rs es && allowM cs bk qs es) := by
  unfold allowM
  rw [Bool.eq_iff_iff]
  simp only [Bool.and_eq_true, List.all_eq_true]
  unfold letsM
  simp only [decide_eq_true_iff, mem_both hr hq]
  constructor
  · rintro ⟨a, b⟩
    exact ⟨⟨a, fun x hx => (b x hx).1⟩, a, fun x hx => (b x hx).2⟩
  · rintro ⟨⟨a, b⟩, _, c⟩
    exact ⟨a, fun x hx => ⟨b x hx, c x hx⟩⟩
theorem allow_more {rs qs : List Tri} (cs : List (Str × Str)) (bk : List PartD) (es : List FD) (h : allowM cs bk rs es = true) : allowM cs bk (rightsM (rs ++ qs)) es = true := by
  unfold allowM at h ⊢
  rw [Bool.and_eq_true] at h ⊢
  refine ⟨h.1, List.all_eq_true.mpr fun x hx => ?_⟩
  have := List.all_eq_true.mp h.2 x hx
  unfold letsM at this ⊢
  refine decide_eq_true ?_
  rw [mem_rights]
  exact .inl (List.mem_append_left _ (of_decide_eq_true this))
theorem rowsF_fil36 {ds es : List FD} (g : RowsF ds) (nd : (ds.map (·.1)).Nodup) (h : Canon ds es) : filOk es := by
  refine ⟨?_, fun d hd => ?_⟩
  · have l := h.1.length_eq
    rw [List.length_map, List.length_map] at l
    have := List.length_filter_le (fun c : FD => decide (c.2 ≠ [])) ds
    have := g.1
    omega
  · obtain ⟨a, b, c⟩ := g.2 d (h.2.2 d hd)
    exact ⟨a, b, fun r hr => (c r hr).2⟩
theorem pool_names36 : (∀ n ∈ poolN, nameS n = true) ∧ ∀ c ∈ poolC, nameS c = true := by decide +kernel
theorem goodT_B36 {t : Tri} (h : goodT t) : triB t = true := by
  obtain ⟨⟨h1, h2⟩, h3⟩ := h
  have h1 := pool_names36.1 _ h1
  have h2 := pool_names36.2 _ h2
  obtain ⟨a, b, c⟩ := t
  have h1 : nameS a = true := h1
  have h2 : nameS b = true := h2
  have h3 : c = "on" ∨ c = "any" := h3
  show (nameS a && (nameS b && (decide (c = "on") || decide (c = "any")))) = true
  rw [h1, h2]
  rcases h3 with rfl | rfl <;> decide +kernel
theorem word_pairs {rs : List Tri} {f : KP → Str} (h : RRep rs f) : wordM (pairsM rs) = f := w3_eq (word_W3 _) h.w3 (fun k => by rw [word_any, h.pairs]; exact ⟨And.left, fun z => ⟨z, wds.1⟩⟩) fun k => by
  rw [word_some, h.pairs, h.pairs]
  constructor
  · rintro (⟨z, n⟩ | ⟨z, n⟩) <;> rw [z] <;> exact n
  · intro n
    rcases h.w3 k with z | z | z
    · exact .inl ⟨z, wds.1⟩
    · exact .inr ⟨z, wds.2.1⟩
    · exact absurd z n
section
variable {P : Program} {w : World} {K : PySem.W.Frag} {mg : Str → Option Value} {R : TRows K mg} {Pt : TPart R} {B : TBk Pt} {F : TFill R} {Y : TLv F}
/-- a filling as it is held against leaves -/
structure FilE (es : List FD) : Prop where
  ok : filOk es
  nd : (es.map (·.1)).Nodup
  fb : ∀ d ∈ es, ∀ r ∈ d.2, fillB r = true
theorem filE_of {cn : List Str} {m : Nat} {ds es : List FD} (h : FilG cn m ds) (hm : m ≤ 60) (hc : Canon ds es) : FilE es :=
  ⟨rowsF_fil36 (h.rowsF hm) h.nd hc, hc.1.nodup_iff.mpr (h.nd.sublist (List.Sublist.map _ List.filter_sublist)), fun d hd r hr => (h.rows d (hc.2.2 d hd) r hr).1⟩
theorem allow_meth {σ : L2.St} {H : Hp} {Q : VK} {i k : Nat} {x2 fx x : Addr} {d : Pool} {cs : List (Str × Str)} {bk : List PartD} {rs : List Tri} {es : List FD} (e2 : σ[i]? = some (some (.ref x))) (e3 : σ[k]? = some (some (.ref fx)))
    (hL : LvAt Y H x2 rs) (hx : BookAt B H x cs bk) (hf : FilI F H fx es) (ok : BookOk d cs bk) (fe : FilE es) (q : ∀ H', Same H H' → Q (.bl (allowM cs bk rs es)) H') :
    ∃ a dx fs, V.ref x2 = .ref a ∧ H a = some (.ins Y.C dx fs) ∧ fs.lookup ("allow" : Str) = none ∧ tCons (tVar i) (tCons (tVar k) tNil) σ H fun vs H2 => spAllow B Y (.ref x2 :: (vs ++ [])) H2 Q E0 := by
  obtain ⟨dx, p, as, h1, _⟩ := id hL
  have lk : ∀ u : V, (putF "rights" u ([] : List (Str × V))).lookup ("allow" : Str) = none := fun u => by rw [lookup_putF, if_neg (by decide +kernel)]; rfl
  exact ⟨x2, dx, _, rfl, h1, lk _, _, e2, _, e3, x2, x, fx, _, cs, bk, es, rfl, hL, hx, hf, fe.ok, fe.nd, fe.fb, by have := ok.c3; omega, fun c hc => (name_ok (csn_ok ok _ (List.mem_map.mpr ⟨c, hc, rfl⟩))).1, by have := flat_few36 ok; omega, few_opens ok, q⟩
theorem cut_zz {H : Hp} {b g D : Addr} {xs : List V} (hD : DealAt H b g) (hL : H D = some (.lst xs)) : Cut H (zz H b g D) := fun a o e n1 n2 => hid_get (cut_hh hD a o e n1 n2) fun z => by
  rw [z, hL] at e
  cases e
  exact n1 _ rfl
theorem RLv.cut {A G : Hp} {a : Addr} {f : KP → Str} (h : RLv Y A a f) (c : Cut A G) : RLv Y G a f := by
  obtain ⟨rs, h1, h2⟩ := h
  exact ⟨rs, cut_lv c h1, h2⟩
end
end Pn

namespace Pn
open PySem PySem.Spec PyProof.Rows L2 TL
abbrev sLaw36 : Stmt := top 84
section
variable {P : Program} {w : World} {K : PySem.W.Frag} {mg : Str → Option Value} {base : Heap}
structure TK36 (K : PySem.W.Frag) (mg : Str → Option Value) : Type where
  D : TFilD K mg
  I : TItm K mg
  R : TRows K mg
  P : TPart R
  B : TBk P
  F : TFill R
  FM : TFilM F
  FE : TFilE FM
  Q : TRul F
  W : TLvL Q.Y
  YA : TLvA Q.Y
  mrow : At K mg "_law_made_row" sMadeRow ["_law_row_here"]
  mbook : At K mg "_law_made_book" sMadeBook ["_law_book_here"]
  lof : At K mg "_law_leaves_of" sLof ["_law_leaves_here"]
  fof : At K mg "_law_filling_of" sFillOfD ["_law_filling_here"]
  rgt : At K mg "_law_rules_right" sRight ["_law_p", "_law_q", "_law_r"]
def spLaw36 (K : PySem.W.Frag) : Sp := fun vs H Q _ => ∃ (a : Addr) (ns : List Int), vs = [.ref a] ∧ SqL K H a (ns.map V.int) ∧ ns.length ≤ 63 ∧ ∀ H', Q (.bl true) H'
theorem scLaw36 : FnScope ["_law_script", "_law_deal_here", "_law_turn", "_law_some", "_law_book_here", "_law_made", "_law_p", "_law_q", "_law_more", "_law_filling_here", "_law_k"] ["_law_script"] (defScope sLaw36) := ⟨rfl, rfl, rfl, by decide +kernel, rfl, by decide +kernel, by decide +kernel⟩
theorem ok_law36 (T : TK36 K mg) {f : Addr} {fd : FuncData} (F : Fun K "law" "law" sLaw36 f fd) : FnOk P w K mg base CX0 15 f fd ["_law_script"] (spLaw36 K) := by
  refine F.ok scLaw36 (fun vs H Q E h => ?_) (fun cdv A outer s H vs Q E hr h => ?_)
  · obtain ⟨a, ns, rfl, _⟩ := h
    rfl
  · obtain ⟨a, ns, rfl, hS, hl, q⟩ := h
    refine ⟨_, (pss_cons (ps_set (i := 1) scLaw36.nd rfl (Or.inr rfl) (pe_call (ok_deal T.D.deal.F T.D.mI T.D.mA) (hr.mono (by decide)) rfl T.D.deal.m T.D.deal.F.kp T.D.deal.b .nil pass0 (pa_cons (pv 0) (pa_cons pe_int pa_nil))))
(pss_cons (ps_for PassesOwn.never rfl (pi_range1 (by rfl) T.D.mR (pa_cons pe_int pa_nil)) (pg_name (i := 2) scLaw36.nd rfl (Or.inl rfl))
(pss_cons (ps_setLc (i := 3) (own := [("_law_k", 10)]) (g := gName 10) (tt := tYes) (by rfl) scLaw36.nd rfl rfl (sw_true rfl rfl rfl (by decide +kernel)) (pi_range1 (by rfl) T.D.mR (pa_cons pe_int pa_nil))
 (blkOk_by (N := ["_law_script", "_law_deal_here", "_law_turn", "_law_some", "_law_book_here", "_law_made", "_law_p", "_law_q", "_law_more", "_law_filling_here", "_law_k"]) (sc := defScope sLaw36) (by decide +kernel)) (fun _ _ _ _ _ => (pg_name (i := 10) scLaw36.nd rfl (Or.inl rfl))) (fun _ _ _ _ _ => pts_nil) (fun _ _ _ _ _ => (pe_make T.Q.Y.M (ok_lInit T.Q.Y) (hr.mono (by decide)) rfl T.Q.Y.mC T.Q.Y.bI .nil pass0 (pa_cons (pe_call (T.I.okItems) (hr.mono (by decide)) rfl T.I.items.m T.I.items.F.kp T.I.items.b .nil pass0 (pa_cons (pv 1) (pa_cons pe_int pa_nil))) pa_nil))))
(pss_cons (ps_if (PW.pt (pw_or (pt_not (pt_val (pe_call (ok_right T.Q T.rgt.F) (hr.mono (by decide)) rfl T.rgt.m T.rgt.F.kp T.rgt.b .nil pass0 (pa_cons (pe_ix ix_list (pv 3) pe_int (fun _ _ => rfl)) (pa_cons (pe_ix ix_list (pv 3) pe_int (fun _ _ => rfl)) (pa_cons (pe_ix ix_list (pv 3) pe_int (fun _ _ => rfl)) pa_nil)))))) (pw_or1 (pt_cmpR (op_neLv (K := K) (mg := mg) rfl rfl T.Q.RR (hr.mono (by decide))) (pe_make T.Q.Y.M (ok_lInit T.Q.Y) (hr.mono (by decide)) rfl T.Q.Y.mC T.Q.Y.bI .nil pass0 (pa_cons (pe_prop (pe_ix ix_list (pv 3) pe_int (fun _ _ => rfl)) T.Q.Y.cl T.Q.ZP.pairs.P (ok_lPairs T.Q.ZP) (hr.mono (by decide)) T.Q.ZP.pairs.b .nil pass0 rfl) pa_nil)) (pe_ix ix_list (pv 3) pe_int (fun _ _ => rfl)) (nomark _))))) (pss_one (ps_ret pe_bl)) pss_nil)
(pss_cons (ps_if (pt_not (pt_val (pe_call (ok_right T.Q T.rgt.F) (hr.mono (by decide)) rfl T.rgt.m T.rgt.F.kp T.rgt.b .nil pass0 (pa_cons (pe_ix ix_list (pv 3) pe_int (fun _ _ => rfl)) (pa_cons (pe_op (op_orLv (K := K) (mg := mg) rfl rfl T.Q.J T.Q.RR (hr.mono (by decide))) (pe_ix ix_list (pv 3) pe_int (fun _ _ => rfl)) (pe_ix ix_list (pv 3) pe_int (fun _ _ => rfl))) (pa_cons (pe_op (op_orLv (K := K) (mg := mg) rfl rfl T.Q.J T.Q.RR (hr.mono (by decide))) (pe_op (op_orLv (K := K) (mg := mg) rfl rfl T.Q.J T.Q.RR (hr.mono (by decide))) (pe_ix ix_list (pv 3) pe_int (fun _ _ => rfl)) (pe_ix ix_list (pv 3) pe_int (fun _ _ => rfl))) (pe_ix ix_list (pv 3) pe_int (fun _ _ => rfl))) pa_nil)))))) (pss_one (ps_ret pe_bl)) pss_nil)
(pss_cons (ps_set (i := 4) scLaw36.nd rfl (Or.inl rfl) (pe_call (ok_bare T.D.toTBare) (hr.mono (by decide)) rfl T.D.bare.m T.D.bare.F.kp T.D.bare.b .nil pass0 (pa_cons (pv 1) (pa_cons pe_int pa_nil))))
(pss_cons (ps_set (i := 5) scLaw36.nd rfl (Or.inl rfl) (pe_call (ok_madeBook T.B T.mrow T.mbook.F) (hr.mono (by decide)) rfl T.mbook.m T.mbook.F.kp T.mbook.b .nil pass0 (pa_cons (pv 4) pa_nil)))
(pss_cons (ps_par (i := 6) (j := 7) (by rfl) scLaw36.nd rfl rfl (by decide) rfl rfl (pa_cons (pe_call (ok_lof T.Q.Y T.lof) (hr.mono (by decide)) rfl T.lof.m T.lof.F.kp T.lof.b .nil pass0 (pa_cons (pe_call (ok_leaves T.D.toTLeav) (hr.mono (by decide)) rfl T.D.leaves.m T.D.leaves.F.kp T.D.leaves.b .nil pass0 (pa_cons (pv 1) (pa_cons (pv 4) (pa_cons pe_int pa_nil)))) pa_nil)) (pa_cons (pe_call (ok_lof T.Q.Y T.lof) (hr.mono (by decide)) rfl T.lof.m T.lof.F.kp T.lof.b .nil pass0 (pa_cons (pe_call (ok_leaves T.D.toTLeav) (hr.mono (by decide)) rfl T.D.leaves.m T.D.leaves.F.kp T.D.leaves.b .nil pass0 (pa_cons (pv 1) (pa_cons (pv 4) (pa_cons pe_int pa_nil)))) pa_nil)) pa_nil)) (by rfl))
(pss_one (ps_for PassesOwn.never rfl (pi_range1 (by rfl) T.D.mR (pa_cons pe_int pa_nil)) (pg_name (i := 8) scLaw36.nd rfl (Or.inl rfl))
(pss_cons (ps_set (i := 9) scLaw36.nd rfl (Or.inl rfl) (pe_call (ok_fillOfD T.F T.mrow T.fof.F) (hr.mono (by decide)) rfl T.fof.m T.fof.F.kp T.fof.b .nil pass0 (pa_cons (pe_call (ok_filling T.D) (hr.mono (by decide)) rfl T.D.filling.m T.D.filling.F.kp T.D.filling.b .nil pass0 (pa_cons (pv 1) (pa_cons (pe_call (ok_leaves T.D.toTLeav) (hr.mono (by decide)) rfl T.D.leaves.m T.D.leaves.F.kp T.D.leaves.b .nil pass0 (pa_cons (pv 1) (pa_cons (pv 4) (pa_cons pe_int pa_nil)))) (pa_cons pe_int (pa_cons pe_int pa_nil))))) pa_nil)))
(pss_cons (ps_if (pt_cmpR op_ne (pe_meth (pe_op (op_andLv (K := K) (mg := mg) rfl rfl T.Q.J T.Q.RR (hr.mono (by decide))) (pv 6) (pv 7)) T.Q.Y.cl ⟨T.YA.allow.hs, T.YA.allow.hf, T.YA.allow.F.kp⟩ (ok_allow (B := T.B) T.W T.FE T.YA) (hr.mono (by decide)) T.YA.allow.b .nil pass0 (pa_cons (pv 5) (pa_cons (pv 9) pa_nil))) (pe_and (pe_meth (pv 6) T.Q.Y.cl ⟨T.YA.allow.hs, T.YA.allow.hf, T.YA.allow.F.kp⟩ (ok_allow (B := T.B) T.W T.FE T.YA) (hr.mono (by decide)) T.YA.allow.b .nil pass0 (pa_cons (pv 5) (pa_cons (pv 9) pa_nil))) (pe_one (pe_meth (pv 7) T.Q.Y.cl ⟨T.YA.allow.hs, T.YA.allow.hf, T.YA.allow.F.kp⟩ (ok_allow (B := T.B) T.W T.FE T.YA) (hr.mono (by decide)) T.YA.allow.b .nil pass0 (pa_cons (pv 5) (pa_cons (pv 9) pa_nil))))) (nomark _)) (pss_one (ps_ret pe_bl)) pss_nil)
(pss_one (ps_if (PW.pt (pw_and (pt_val (pe_meth (pv 6) T.Q.Y.cl ⟨T.YA.allow.hs, T.YA.allow.hf, T.YA.allow.F.kp⟩ (ok_allow (B := T.B) T.W T.FE T.YA) (hr.mono (by decide)) T.YA.allow.b .nil pass0 (pa_cons (pv 5) (pa_cons (pv 9) pa_nil)))) (pw_and1 (pt_not (pt_val (pe_meth (pe_op (op_orLv (K := K) (mg := mg) rfl rfl T.Q.J T.Q.RR (hr.mono (by decide))) (pv 6) (pv 7)) T.Q.Y.cl ⟨T.YA.allow.hs, T.YA.allow.hf, T.YA.allow.F.kp⟩ (ok_allow (B := T.B) T.W T.FE T.YA) (hr.mono (by decide)) T.YA.allow.b .nil pass0 (pa_cons (pv 5) (pa_cons (pv 9) pa_nil)))))))) (pss_one (ps_ret pe_bl)) pss_nil)))))))))))))
(pss_one (ps_ret pe_bl)))), ?_⟩
    have one : 1 ≤ sizeLine := by decide
    have two : 2 ≤ sizeLine := by decide
    have three : 3 ≤ sizeLine := by decide
    have big : (1000 : Nat) ≤ sizeLine := by decide
    refine stepSet (fun v H' => ∃ b g, v = .ref b ∧ DealAt H' b g) (fun Q' hQ => ⟨_, rfl, a, 0, ns, rfl, hS, hl, fun b g H' hD _ => hQ _ _ ⟨b, g, rfl, hD⟩⟩) (fun v H1 hC => ?r1)
    case r1 =>
    obtain ⟨b, g, rfl, hD1⟩ := hC
    try dsimp only [List.set]
    refine ⟨_, rfl, by decide, by decide, for_range (lo := 0) (n := 6) (fun j σ Hc => ∃ y2 y3 y4 y5 y6 y7 y8 y9 y10, σ = [some (.ref a), some (.ref b), y2, y3, y4, y5, y6, y7, y8, y9, y10] ∧ DealAt Hc b g) ⟨_, _, _, _, _, _, _, _, _, rfl, hD1⟩ (fun j σ Hc hj hP => ?turn) (fun σ Hc hP => ?fin)⟩
    case fin => exact q _
    case turn =>
    obtain ⟨y2, y3, y4, y5, y6, y7, y8, y9, y10, rfl, hDc⟩ := hP
    clear hD1
    try dsimp only [List.set]
    -- three leaves
    refine stepSet (fun v H' => ∃ (L x0 x1 x2 : Addr) (f0 f1 f2 : KP → Str), v = .ref L ∧ DealAt H' b g ∧ hh H' b g L = some (.lst [.ref x0, .ref x1, .ref x2]) ∧ RLv T.Q.Y (hh H' b g) x0 f0 ∧ RLv T.Q.Y (hh H' b g) x1 f1 ∧ RLv T.Q.Y (hh H' b g) x2 f2) (fun Q' hQ => ?c1) (fun v H2 hC => ?r2)
    case c1 =>
      refine ⟨_, rfl, by decide, by decide, fun D hD => lc_range (lo := 0) (n := 3) (fun i Hi => ∃ (xs : List Addr) (fs : List (KP → Str)), DealAt Hi b g ∧ Hi D = some (.lst (xs.map V.ref)) ∧ xs.length = i ∧ Paired (RLv T.Q.Y (zz Hi b g D)) xs fs) ⟨[], [], hDc.new hD, upd_same, rfl, .nil⟩ (fun i Hi hi hM => ?ct) (fun Hi hM => ?cf)⟩
      case cf =>
        obtain ⟨xs, fs, hDi, eD, hlen, hp⟩ := hM
        have nD := hDc.nb hD
        match xs, fs, hlen, hp with
        | [x0, x1, x2], [f0, f1, f2], _, .cons r0 (.cons r1 (.cons r2 .nil)) => exact hQ _ _ ⟨D, x0, x1, x2, f0, f1, f2, rfl, hDi, hhn_get eD nD, r0.same zz_hid, r1.same zz_hid, r2.same zz_hid⟩
      case ct =>
        obtain ⟨xs, fs, hDi, eD, hlen, hp⟩ := hM
        have nD := hDc.nb hD
        refine ⟨rfl, ?_⟩
        unfold tYes
        refine iteT ?_
        refine ⟨_, rfl, b, g, 8, rfl, hDi, by decide, fun l as ts H4 hD4 s4 _ hl hT hlen2 hg => ?_⟩
        refine lv_made T.Q.Y (ts := ts) ⟨l, as, rfl, .inl (SqL.of (hh_sub _ _ hl)), hT.same hh_sub⟩ (fun t ht => goodT_B36 (hg t ht)) (few_pool hg (by omega)) fun x H5 s5 hx => ?_
        have eD5 := s5 _ _ (Kd.of s4 _ _ eD nD)
        have hD5 := hD4.same s5
        have z5 : Same (zz Hi b g D) (zz H5 b g D) := Same.trans (hid_same s4 D) (zz_same s5)
        refine ⟨_, eD5, small1000 (by rw [List.length_map]; omega), xs ++ [x], fs ++ [wordM ts], hD5.upd nD.1 nD.2, by rw [upd_same, List.map_append]; rfl, by rw [List.length_append, hlen]; rfl, ?_⟩
        have rx : RLv T.Q.Y H5 x (wordM ts) := ⟨_, hx, rrep_rights hg⟩
        exact paired_snoc ((rx.cut (cut_zz hD5 eD5)).same zz_put) (paired_mono (fun _ _ z => (z.same z5).same zz_put) hp)
    case r2 =>
    obtain ⟨L, x0, x1, x2, f0, f1, f2, rfl, hD2, hL, r0, r1, r2⟩ := hC
    try dsimp only [List.set]
    clear hDc
    -- the rules
    refine stepNo (fun H' => Same H2 H') (fun Q' hQ => ?c2) (fun H3 s3 => ?r3)
    case c2 =>
      have eL := hh_sub _ _ hL
      refine ⟨_, rfl, L, _, _, .ref x0, rfl, rfl, SqL.of eL, rfl, _, rfl, L, _, _, .ref x1, rfl, rfl, SqL.of eL, rfl, _, rfl, L, _, _, .ref x2, rfl, rfl, SqL.of eL, rfl, x0, x1, x2, f0, f1, f2, rfl, r0.same hh_sub, r1.same hh_sub, r2.same hh_sub, fun A1 t1 => ⟨_, rfl, iteFD rfl ?_⟩⟩
      have q0 := (r0.same hh_sub).same t1
      obtain ⟨rs, l1, l2⟩ := id q0
      obtain ⟨dx, _, _, h1, _⟩ := id l1
      refine ⟨_, rfl, L, _, _, .ref x0, rfl, rfl, SqL.of (t1 _ _ eL), rfl, x0, dx, _, rfl, h1, x0, rs, rfl, l1, fun p as A2 t2 hp hT => ?_⟩
      refine lv_made T.Q.Y (ts := pairsM rs) ⟨p, as, rfl, .inr hp, hT⟩ (fun t ht => goodT_B36 (l2.ok t (List.mem_filter.mp ht).1)) (few_pool (fun t ht => l2.ok t (List.mem_filter.mp ht).1) (by have := List.length_filter_le (pairB rs) rs; have := l2.len; show (rs.filter (pairB rs)).length ≤ 100; omega)) fun z A3 t3 hz => ?_
      have r3 : RLv T.Q.Y A3 z f0 := ⟨_, hz, by
        have e : RRep (rightsM (pairsM rs)) (wordM (pairsM rs)) := rrep_rights fun t ht => l2.ok t (List.mem_filter.mp ht).1
        rw [word_pairs l2] at e
        exact e⟩
      have u3 := (t1.trans t2).trans t3
      exact ⟨_, rfl, L, _, _, .ref x0, rfl, rfl, SqL.of (u3 _ _ eL), rfl, ne_go r3 (q0.same (t2.trans t3)) rfl ⟨_, rfl, hQ _ u3⟩⟩
    case r3 =>
    have sh := hh_same (d := b) (g := g) s3
    have hD3 := hD2.same s3
    have hL3 := sh _ _ hL
    have p0 := r0.same sh
    have p1 := r1.same sh
    have p2 := r2.same sh
    clear hL r0 r1 r2 hD2 sh s3
    refine stepNo (fun H' => Same H3 H') (fun Q' hQ => ?c3) (fun H4 s4 => ?r4)
    case c3 =>
      have eL := hh_sub _ _ hL3
      have q0 := p0.same (hh_sub (d := b) (g := g))
      have q1 := p1.same (hh_sub (d := b) (g := g))
      have q2 := p2.same (hh_sub (d := b) (g := g))
      refine ⟨_, rfl, L, _, _, .ref x0, rfl, rfl, SqL.of eL, rfl, _, rfl, L, _, _, .ref x0, rfl, rfl, SqL.of eL, rfl, _, rfl, L, _, _, .ref x1, rfl, rfl, SqL.of eL, rfl, or_go q0 q1 fun y1 A1 t1 w1 => ?_⟩
      refine ⟨_, rfl, L, _, _, .ref x0, rfl, rfl, SqL.of (t1 _ _ eL), rfl, _, rfl, L, _, _, .ref x1, rfl, rfl, SqL.of (t1 _ _ eL), rfl, or_go (q0.same t1) (q1.same t1) fun y2 A2 t2 w2 => ?_⟩
      have u2 := t1.trans t2
      refine ⟨_, rfl, L, _, _, .ref x2, rfl, rfl, SqL.of (u2 _ _ eL), rfl, or_go w2 (q2.same u2) fun y3 A3 t3 w3 => ?_⟩
      have u3 := u2.trans t3
      exact ⟨x0, y1, y3, f0, _, _, rfl, q0.same u3, w1.same (t2.trans t3), w3, fun A4 t4 => ⟨_, rfl, hQ _ (u3.trans t4)⟩⟩
    case r4 =>
    have hD4 := hD3.same s4
    clear hD3 hL3 p0 p1 p2 s4
    -- a book
    refine stepSet (fun v H' => ∃ (t c pl : Addr) (d : Pool) (cs : List (Str × Str)) (bk : List PartD), v = .ref t ∧ BookOk d cs bk ∧ opens (unrolled bk) ≠ [] ∧ DealAt H' b g ∧ hh H' b g t = some (.tup [.ref c, .ref pl]) ∧ CsAt (hh H' b g) c cs ∧ PartsAt (hh H' b g) pl bk) (fun Q' hQ => ?c5) (fun v H5 hC => ?r5)
    case c5 => exact ⟨_, rfl, b, g, 4, rfl, hD4, fun t c pl d cs bk H' ok hop kd hD' ht hc hp => hQ _ _ ⟨t, c, pl, d, cs, bk, rfl, ok, hop, hD', ht, hc, hp⟩⟩
    case r5 =>
    obtain ⟨t, c, pl, d, cs, bk, rfl, ok, hop, hD5, ht5, hc5, hp5⟩ := hC
    try dsimp only [List.set]
    have b4 : bk.length ≤ 4 := by have := ok.b3; omega
    -- the book made
    refine stepSet (fun v H' => ∃ x : Addr, v = .ref x ∧ DealAt H' b g ∧ hh H' b g t = some (.tup [.ref c, .ref pl]) ∧ CsAt (hh H' b g) c cs ∧ PartsAt (hh H' b g) pl bk ∧ BookAt T.B (hh H' b g) x cs bk) (fun Q' hQ => ?c6) (fun v H6 hC => ?r6)
    case c6 =>
      refine ⟨_, rfl, t, c, pl, cs, bk, rfl, SqT.of (hh_sub _ _ ht5), hc5.mono hh_sub, parts_same hh_sub hp5, bookV ok, bkn_ok ok, fun x H' s' hb => ?_⟩
      have hD' := hD5.same s'
      have sh := hh_same (d := b) (g := g) s'
      exact hQ _ _ ⟨x, rfl, hD', sh _ _ ht5, hc5.mono sh, parts_same sh hp5, cut_book (cut_hh hD') hb⟩
    case r6 =>
    obtain ⟨x, rfl, hD6, ht6, hc6, hp6, hx6⟩ := hC
    try dsimp only [List.set]
    clear ht5 hc5 hp5 hD5 hD4
    -- two leaves
    refine stepPar (fun v w H' => ∃ (p1 p2 : Addr) (T1 T2 : Tab), v = .ref p1 ∧ w = .ref p2 ∧ DealAt H' b g ∧ Same (hh H6 b g) (hh H' b g) ∧ TabOk cs bk 5 T1 ∧ TabOk cs bk 5 T2 ∧ LvAt T.Q.Y (hh H' b g) p1 (rightsM (T1.map triE)) ∧ LvAt T.Q.Y (hh H' b g) p2 (rightsM (T2.map triE))) (fun Q' hQ => ?c7) (fun v w H7 hC => ?r7)
    case c7 =>
      refine ⟨_, rfl, _, rfl, b, g, t, c, pl, d, cs, bk, 5, rfl, hD6, ht6, hc6, hp6, ok, hop, by decide, fun lv T1 Ha ka hDa hTa ok1 => ?_⟩
      have sa := Kd.hh ka
      refine ⟨lv, T1, rfl, hh_sub _ _ hTa, ok1.nd, by have := ok1.len; omega, tabB_ok ok ok1, fun p1 Hb sb hb => ?_⟩
      have hDb := hDa.same sb
      have sab := sa.trans (hh_same sb)
      refine ⟨_, rfl, _, rfl, b, g, t, c, pl, d, cs, bk, 5, rfl, hDb, sab _ _ ht6, hc6.mono sab, parts_same sab hp6, ok, hop, by decide, fun lw T2 Hc kc hDc hTc ok2 => ?_⟩
      have sc := Kd.hh kc
      refine ⟨lw, T2, rfl, hh_sub _ _ hTc, ok2.nd, by have := ok2.len; omega, tabB_ok ok ok2, fun p2 Hd sd hd => ?_⟩
      have hDd := hDc.same sd
      exact hQ _ _ _ ⟨p1, p2, T1, T2, rfl, rfl, hDd, (sab.trans sc).trans (hh_same sd), ok1, ok2, ((cut_lv (cut_hh hDb) hb).same sc).same (hh_same sd), cut_lv (cut_hh hDd) hd⟩
    case r7 =>
    obtain ⟨p1, p2, T1, T2, rfl, rfl, hD7, s67, ok1, ok2, l1, l2⟩ := hC
    try dsimp only [List.set]
    have ht7 := s67 _ _ ht6
    have hc7 := hc6.mono s67
    have hp7 := parts_same s67 hp6
    have hx7 := hx6.same s67
    clear ht6 hc6 hp6 hx6 hD6 s67
    have n1 := ok1.len
    have n2 := ok2.len
    have len1 := rights_len (T1.map triE)
    have len2 := rights_len (T2.map triE)
    rw [List.length_map] at len1 len2
    refine ⟨_, rfl, by decide, by decide, for_range (lo := 0) (n := 4) (fun i σ Hi => ∃ z8 z9 z10, σ = [some (.ref a), some (.ref b), some (.int (0 + (j : Int))), some (.ref L), some (.ref t), some (.ref x), some (.ref p1), some (.ref p2), z8, z9, z10] ∧ DealAt Hi b g ∧ Same (hh H7 b g) (hh Hi b g)) ⟨_, _, _, rfl, hD7, Same.refl _⟩ (fun i σ Hi hi hP => ?turn2) (fun σ Hi hP => ?fin2)⟩
    case fin2 =>
      obtain ⟨z8, z9, z10, rfl, hDi, si⟩ := hP
      exact ⟨_, _, _, _, _, _, _, _, _, rfl, hDi⟩
    case turn2 =>
    obtain ⟨z8, z9, z10, rfl, hDi, si⟩ := hP
    have ht := si _ _ ht7
    have hc := hc7.mono si
    have hp := parts_same si hp7
    have hx := hx7.same si
    have l1 := l1.same si
    have l2 := l2.same si
    try dsimp only [List.set]
    refine stepSet (fun v H' => ∃ (fx : Addr) (es : List FD), v = .ref fx ∧ DealAt H' b g ∧ Same (hh Hi b g) (hh H' b g) ∧ FilI T.F H' fx es ∧ FilE es) (fun Q' hQ => ?d1) (fun v J1 hC => ?e1)
    case d1 =>
      refine ⟨_, rfl, _, rfl, _, rfl, b, g, t, c, pl, d, cs, bk, 5, rfl, hDi, ht, hc, hp, ok, hop, by decide, fun lv T3 Ha ka hDa hTa ok3 => ?_⟩
      refine ⟨b, g, lv, T3, cs, bk, 5, 3, 4, rfl, hDa, hTa, ok3, opens_ok ok, csn_ok ok, by decide, by decide, by decide, by decide, fun D ds Hb kb hDb hDi2 hF hl => ?_⟩
      refine ⟨D, ds, rfl, hDi2.same hh_sub, hF.nd, hF.rowsF (by decide), fun fx es Hc sc hf hcn => ?_⟩
      exact hQ _ _ ⟨fx, es, rfl, hDb.same sc, ((Kd.hh ka).trans (Kd.hh kb)).trans (hh_same sc), hf, filE_of hF (by decide) hcn⟩
    case e1 =>
    obtain ⟨fx, es, rfl, hDj, sij, hf, fe⟩ := hC
    try dsimp only [List.set]
    have hx := (hx.same sij).same hh_sub
    have l1 := (l1.same sij).same hh_sub
    have l2 := (l2.same sij).same hh_sub
    have cl1 := closed_rights (T1.map triE)
    have cl2 := closed_rights (T2.map triE)
    have s7j := si.trans sij
    clear ht hc hp hDi si sij
    refine stepNo (fun H' => Same J1 H') (fun Q' hQ => ?d2) (fun J2 s12 => ?e2)
    case d2 =>
      refine ⟨_, rfl, _, rfl, p1, p2, _, _, rfl, rfl, l1, l2, FewT.of (by omega), fun z A1 t1 h1 => allow_meth rfl rfl h1 (hx.same t1) (hf.same t1) ok fe fun A2 t2 => ?_⟩
      have u2 := t1.trans t2
      rw [allow_both cl1 cl2]
      refine ⟨_, rfl, allow_meth rfl rfl (l1.same u2) (hx.same u2) (hf.same u2) ok fe fun A3 t3 => ⟨_, rfl, ?_⟩⟩
      have u3 := u2.trans t3
      cases e1 : allowM cs bk (rightsM (T1.map triE)) es with
      | false => exact iteF (rNe_same rfl ⟨_, rfl, hQ _ u3⟩)
      | true =>
        refine iteT ⟨_, rfl, allow_meth rfl rfl (l2.same u3) (hx.same u3) (hf.same u3) ok fe fun A4 t4 => ?_⟩
        rw [Bool.true_and]
        exact rNe_same rfl ⟨_, rfl, hQ _ (u3.trans t4)⟩
    case e2 =>
    have hx := hx.same s12
    have hf := hf.same s12
    have l1 := l1.same s12
    have l2 := l2.same s12
    refine stepEndB (fun H' => Same J2 H') (fun Q' hQ => ?d3) (fun H' s' => ⟨_, _, _, rfl, (hDj.same s12).same s', s7j.trans (hh_same (s12.trans s'))⟩)
    case d3 =>
      refine ⟨_, rfl, allow_meth rfl rfl l1 hx hf ok fe fun A1 t1 => ⟨_, rfl, ?_⟩⟩
      cases e1 : allowM cs bk (rightsM (T1.map triE)) es with
      | false => exact iteF (hQ _ t1)
      | true =>
        refine iteT ⟨_, rfl, _, rfl, p1, p2, _, _, rfl, rfl, l1.same t1, l2.same t1, FewT.of (by rw [List.length_append]; omega), fun z A2 t2 h2 => allow_meth rfl rfl h2 ((hx.same t1).same t2) ((hf.same t1).same t2) ok fe fun A3 t3 => ⟨_, rfl, ?_⟩⟩
        rw [allow_more cs bk es e1]
        exact hQ _ ((t1.trans t2).trans t3)
end
end Pn

namespace Pn
open PySem PySem.Spec PyProof.Rows L2
theorem facts {P : Program} {w : World} {K : PySem.W.Frag} {h : Heap} {mg : Str → Option Value} {fa : Addr} (X : K.In h) (G : h.Ns mainGlobals mg) (hfa : mg ("law" : Str) = some (.ref fa)) (c : askQ fnQ exQ K = toldQ fnQ) :
    ∃ fd : FuncData, (∀ (s : Shared) (v : Value), BindsTo s fd ⟨[v], []⟩ [("_law_script", v)]) ∧ ∀ base : Heap, K.In base → base.Ns mainGlobals mg → FnOk P w K mg base CX0 15 fa fd ["_law_script"] (spLaw36 K) := by
  have zint : PySem.W.nsIn K mainGlobals "int" = some none := of_decide_eq_true (told_at c 0 0)
  have zbool : PySem.W.nsIn K mainGlobals "bool" = some none := of_decide_eq_true (told_at c 0 1)
  have zstr : PySem.W.nsIn K mainGlobals "str" = some none := of_decide_eq_true (told_at c 0 2)
  have zisinstance : PySem.W.nsIn K mainGlobals "isinstance" = some none := of_decide_eq_true (told_at c 0 3)
  have zlen : PySem.W.nsIn K mainGlobals "len" = some none := of_decide_eq_true (told_at c 0 4)
  have zall : PySem.W.nsIn K mainGlobals "all" = some none := of_decide_eq_true (told_at c 0 5)
  have zabs : PySem.W.nsIn K mainGlobals "abs" = some none := of_decide_eq_true (told_at c 0 6)
  have zrange : PySem.W.nsIn K mainGlobals "range" = some none := of_decide_eq_true (told_at c 0 7)
  have zlist : PySem.W.nsIn K mainGlobals "list" = some none := of_decide_eq_true (told_at c 0 8)
  have ztuple : PySem.W.nsIn K mainGlobals "tuple" = some none := of_decide_eq_true (told_at c 0 9)
  have zset : PySem.W.nsIn K mainGlobals "set" = some none := of_decide_eq_true (told_at c 1 0)
  have zreversed : PySem.W.nsIn K mainGlobals "reversed" = some none := of_decide_eq_true (told_at c 1 1)
  have zsorted : PySem.W.nsIn K mainGlobals "sorted" = some none := of_decide_eq_true (told_at c 1 2)
  have zdict : PySem.W.nsIn K mainGlobals "dict" = some none := of_decide_eq_true (told_at c 1 3)
  have zenumerate : PySem.W.nsIn K mainGlobals "enumerate" = some none := of_decide_eq_true (told_at c 1 4)
  have aROWWORDS : PySem.W.nsIn K mainGlobals "ROW_WORDS" = some (some (.ref (He.ga K "ROW_WORDS"))) := of_decide_eq_true (told_at c 1 5)
  have SROWWORDS : ∀ H : Hp, SqT K H (He.ga K "ROW_WORDS") [.str "note", .str "skip", .str "set", .str "keep", .str "back", .str "ref", .str "put", .str "open", .str "part"] := fun H => He.tupB_ok (x := "ROW_WORDS") (vs := [.str "note", .str "skip", .str "set", .str "keep", .str "back", .str "ref", .str "put", .str "open", .str "part"]) (told_at c 1 6) H
  obtain ⟨tkLONGESTNAME, ILONGESTNAME⟩ := He.int_ok X G (x := "LONGEST_NAME") (i := 4) (told_at c 1 7)
  have aisinteger : PySem.W.nsIn K mainGlobals "is_integer" = some (some (.ref (He.ga K "is_integer"))) := of_decide_eq_true (told_at c 1 8)
  obtain ⟨fdisinteger, Yisinteger⟩ := told_fn c 0
  have Xisinteger : Fun K "is_integer" "is_integer" sIsInteger (He.ga K "is_integer") fdisinteger := fun_of Yisinteger
  have aisnumber : PySem.W.nsIn K mainGlobals "is_number" = some (some (.ref (He.ga K "is_number"))) := of_decide_eq_true (told_at c 1 9)
  obtain ⟨fdisnumber, Yisnumber⟩ := told_fn c 1
  have Xisnumber : Fun K "is_number" "is_number" sIsNumber (He.ga K "is_number") fdisnumber := fun_of Yisnumber
  have aisname : PySem.W.nsIn K mainGlobals "is_name" = some (some (.ref (He.ga K "is_name"))) := of_decide_eq_true (told_at c 2 0)
  obtain ⟨fdisname, Yisname⟩ := told_fn c 2
  have Xisname : Fun K "is_name" "is_name" sIsName (He.ga K "is_name") fdisname := fun_of Yisname
  have aNoteError : PySem.W.nsIn K mainGlobals "NoteError" = some (some (.ref (He.ga K "NoteError"))) := of_decide_eq_true (told_at c 2 1)
  have aInvalidRow : PySem.W.nsIn K mainGlobals "InvalidRow" = some (some (.ref (He.ga K "InvalidRow"))) := of_decide_eq_true (told_at c 2 2)
  have xInvalidRow := excQ_ok (K := K) (C := (He.ga K "InvalidRow")) (nid := "ValueError.__new__") (told_at c 2 3)
  have saInvalidRow : PySem.W.findIn K (.ref (He.ga K "InvalidRow")) "__setattr__" = some (some (.builtin "object.__setattr__")) := of_decide_eq_true (told_at c 2 4)
  have gaInvalidRow : PySem.W.findIn K (.ref (He.ga K "InvalidRow")) "__getattribute__" = some (some (.builtin "BaseException.__getattribute__")) := of_decide_eq_true (told_at c 2 5)
  have ggInvalidRow : PySem.W.findIn K (.ref (He.ga K "InvalidRow")) "__getattr__" = some (none) := of_decide_eq_true (told_at c 2 6)
  have nfInvalidRow : PySem.W.findIn K (.ref (He.ga K "InvalidRow")) "word" = some (none) := of_decide_eq_true (told_at c 2 7)
  have inInvalidRow : PySem.W.findIn K (.ref (He.ga K "InvalidRow")) "__init__" = some (some (.ref (He.ma K (He.ga K "InvalidRow") "__init__"))) := of_decide_eq_true (told_at c 2 8)
  have haInvalidRow : PySem.W.findIn K (.ref (He.ga K "InvalidRow")) "__class__" = some (some (.builtin "object.__class__")) := of_decide_eq_true (told_at c 2 9)
  have tiInvalidRow : PySem.W.typeIn K (.ref (He.ma K (He.ga K "InvalidRow") "__init__")) = some (.type "function") := of_decide_eq_true (told_at c 3 0)
  obtain ⟨fdInvalidRow, YInvalidRow⟩ := told_fn c 3
  have XInvalidRow : Fun K "__init__" "InvalidRow.__init__" sIRInit (He.ma K (He.ga K "InvalidRow") "__init__") fdInvalidRow := fun_of YInvalidRow
  have kcInvalidRow : PySem.W.keepIn K (.ref (He.ga K "InvalidRow")) = true := (told_at c 3 1)
  have eCInvalidRow : PySem.W.subIn K (.ref (He.ga K "InvalidRow")) (.type "BaseException") = some true := of_decide_eq_true (told_at c 3 2)
  have tCInvalidRow : PySem.W.typeIn K (.ref (He.ga K "InvalidRow")) = some (.type "type") := of_decide_eq_true (told_at c 3 3)
  have hCInvalidRow : PySem.W.hasDictIn K (He.ga K "InvalidRow") = true := (told_at c 3 4)
  have iCInvalidRow : PySem.W.isClsIn K (He.ga K "InvalidRow") = true := (told_at c 3 5)
  have sCInvalidRow : PySem.W.subIn K (.ref (He.ga K "InvalidRow")) (.ref (He.ga K "InvalidRow")) = some true := of_decide_eq_true (told_at c 3 6)
  have hmInvalidRow : PySem.W.mroIn K (He.ga K "InvalidRow") (.type "object") = some true := of_decide_eq_true (told_at c 3 7)
  have aneedname : PySem.W.nsIn K mainGlobals "need_name" = some (some (.ref (He.ga K "need_name"))) := of_decide_eq_true (told_at c 3 8)
  obtain ⟨fdneedname, Yneedname⟩ := told_fn c 4
  have Xneedname : Fun K "need_name" "need_name" sNeedName (He.ga K "need_name") fdneedname := fun_of Yneedname
  have aNote : PySem.W.nsIn K mainGlobals "Note" = some (some (.ref (He.ga K "Note"))) := of_decide_eq_true (told_at c 3 9)
  have inNote : PySem.W.findIn K (.ref (He.ga K "Note")) "__init__" = some (some (.ref (He.ma K (He.ga K "Note") "__init__"))) := of_decide_eq_true (told_at c 4 0)
  have iNote : PySem.W.isFn K (.ref (He.ma K (He.ga K "Note") "__init__")) = true := (told_at c 4 1)
  obtain ⟨fdNote, YNote⟩ := told_fn c 5
  have FNote : FunD K "__init__" "Note.__init__" (defArgs sNoteInit) (defBody sNoteInit) (defScope sNoteInit) [.str ""] [] (He.ma K (He.ga K "Note") "__init__") fdNote := YNote
  have pgNote : PySem.W.plainGet K (He.ga K "Note") Str.empty = true := (told_at c 4 2)
  have hdNote : PySem.W.hasDictIn K (He.ga K "Note") = true := (told_at c 4 3)
  have poNote : PySem.W.plainOver K (He.ga K "Note") = true := (told_at c 4 4)
  have saNote : PySem.W.findIn K (.ref (He.ga K "Note")) "__setattr__" = some (some (.builtin "object.__setattr__")) := of_decide_eq_true (told_at c 4 5)
  have mkNote : PySem.W.makesIn K (He.ga K "Note") = true := (told_at c 4 6)
  have kcNote : PySem.W.keepIn K (.ref (He.ga K "Note")) = true := (told_at c 4 7)
  have nNote0 : PySem.W.findIn K (.ref (He.ga K "Note")) "word" = some none := of_decide_eq_true (told_at c 4 8)
  have nNote1 : PySem.W.findIn K (.ref (He.ga K "Note")) "counter" = some none := of_decide_eq_true (told_at c 4 9)
  have nNote2 : PySem.W.findIn K (.ref (He.ga K "Note")) "label" = some none := of_decide_eq_true (told_at c 5 0)
  have inSNote : PySem.W.findIn K (.ref (He.ga K "Note")) "__str__" = some (some (.ref (He.ma K (He.ga K "Note") "__str__"))) := of_decide_eq_true (told_at c 5 1)
  have iSNote : PySem.W.isFn K (.ref (He.ma K (He.ga K "Note") "__str__")) = true := (told_at c 5 2)
  obtain ⟨fdSNote, YSNote⟩ := told_fn c 6
  have XSNote : Fun K "__str__" "Note.__str__" sNoteStr (He.ma K (He.ga K "Note") "__str__") fdSNote := fun_of YSNote
  have aSkip : PySem.W.nsIn K mainGlobals "Skip" = some (some (.ref (He.ga K "Skip"))) := of_decide_eq_true (told_at c 5 3)
  have inSkip : PySem.W.findIn K (.ref (He.ga K "Skip")) "__init__" = some (some (.ref (He.ma K (He.ga K "Skip") "__init__"))) := of_decide_eq_true (told_at c 5 4)
  have iSkip : PySem.W.isFn K (.ref (He.ma K (He.ga K "Skip") "__init__")) = true := (told_at c 5 5)
  obtain ⟨fdSkip, YSkip⟩ := told_fn c 7
  have XSkip : Fun K "__init__" "Skip.__init__" sSkipInit (He.ma K (He.ga K "Skip") "__init__") fdSkip := fun_of YSkip
  have pgSkip : PySem.W.plainGet K (He.ga K "Skip") Str.empty = true := (told_at c 5 6)
  have hdSkip : PySem.W.hasDictIn K (He.ga K "Skip") = true := (told_at c 5 7)
  have poSkip : PySem.W.plainOver K (He.ga K "Skip") = true := (told_at c 5 8)
  have saSkip : PySem.W.findIn K (.ref (He.ga K "Skip")) "__setattr__" = some (some (.builtin "object.__setattr__")) := of_decide_eq_true (told_at c 5 9)
  have mkSkip : PySem.W.makesIn K (He.ga K "Skip") = true := (told_at c 6 0)
  have kcSkip : PySem.W.keepIn K (.ref (He.ga K "Skip")) = true := (told_at c 6 1)
  have nSkip0 : PySem.W.findIn K (.ref (He.ga K "Skip")) "word" = some none := of_decide_eq_true (told_at c 6 2)
  have nSkip1 : PySem.W.findIn K (.ref (He.ga K "Skip")) "counter" = some none := of_decide_eq_true (told_at c 6 3)
  have nSkip2 : PySem.W.findIn K (.ref (He.ga K "Skip")) "by" = some none := of_decide_eq_true (told_at c 6 4)
  have inSSkip : PySem.W.findIn K (.ref (He.ga K "Skip")) "__str__" = some (some (.ref (He.ma K (He.ga K "Skip") "__str__"))) := of_decide_eq_true (told_at c 6 5)
  have iSSkip : PySem.W.isFn K (.ref (He.ma K (He.ga K "Skip") "__str__")) = true := (told_at c 6 6)
  obtain ⟨fdSSkip, YSSkip⟩ := told_fn c 8
  have XSSkip : Fun K "__str__" "Skip.__str__" sSkipStr (He.ma K (He.ga K "Skip") "__str__") fdSSkip := fun_of YSSkip
  have aSet : PySem.W.nsIn K mainGlobals "Set" = some (some (.ref (He.ga K "Set"))) := of_decide_eq_true (told_at c 6 7)
  have inSet : PySem.W.findIn K (.ref (He.ga K "Set")) "__init__" = some (some (.ref (He.ma K (He.ga K "Set") "__init__"))) := of_decide_eq_true (told_at c 6 8)
  have iSet : PySem.W.isFn K (.ref (He.ma K (He.ga K "Set") "__init__")) = true := (told_at c 6 9)
  obtain ⟨fdSet, YSet⟩ := told_fn c 9
  have XSet : Fun K "__init__" "Set.__init__" sSetInit (He.ma K (He.ga K "Set") "__init__") fdSet := fun_of YSet
  have pgSet : PySem.W.plainGet K (He.ga K "Set") Str.empty = true := (told_at c 7 0)
  have hdSet : PySem.W.hasDictIn K (He.ga K "Set") = true := (told_at c 7 1)
  have poSet : PySem.W.plainOver K (He.ga K "Set") = true := (told_at c 7 2)
  have saSet : PySem.W.findIn K (.ref (He.ga K "Set")) "__setattr__" = some (some (.builtin "object.__setattr__")) := of_decide_eq_true (told_at c 7 3)
  have mkSet : PySem.W.makesIn K (He.ga K "Set") = true := (told_at c 7 4)
  have kcSet : PySem.W.keepIn K (.ref (He.ga K "Set")) = true := (told_at c 7 5)
  have nSet0 : PySem.W.findIn K (.ref (He.ga K "Set")) "word" = some none := of_decide_eq_true (told_at c 7 6)
  have nSet1 : PySem.W.findIn K (.ref (He.ga K "Set")) "counter" = some none := of_decide_eq_true (told_at c 7 7)
  have nSet2 : PySem.W.findIn K (.ref (He.ga K "Set")) "to" = some none := of_decide_eq_true (told_at c 7 8)
  have inSSet : PySem.W.findIn K (.ref (He.ga K "Set")) "__str__" = some (some (.ref (He.ma K (He.ga K "Set") "__str__"))) := of_decide_eq_true (told_at c 7 9)
  have iSSet : PySem.W.isFn K (.ref (He.ma K (He.ga K "Set") "__str__")) = true := (told_at c 8 0)
  obtain ⟨fdSSet, YSSet⟩ := told_fn c 10
  have XSSet : Fun K "__str__" "Set.__str__" sSetStr (He.ma K (He.ga K "Set") "__str__") fdSSet := fun_of YSSet
  have aKeep : PySem.W.nsIn K mainGlobals "Keep" = some (some (.ref (He.ga K "Keep"))) := of_decide_eq_true (told_at c 8 1)
  have inKeep : PySem.W.findIn K (.ref (He.ga K "Keep")) "__init__" = some (some (.ref (He.ma K (He.ga K "Keep") "__init__"))) := of_decide_eq_true (told_at c 8 2)
  have iKeep : PySem.W.isFn K (.ref (He.ma K (He.ga K "Keep") "__init__")) = true := (told_at c 8 3)
  obtain ⟨fdKeep, YKeep⟩ := told_fn c 11
  have XKeep : Fun K "__init__" "Keep.__init__" sKeepInit (He.ma K (He.ga K "Keep") "__init__") fdKeep := fun_of YKeep
  have pgKeep : PySem.W.plainGet K (He.ga K "Keep") Str.empty = true := (told_at c 8 4)
  have hdKeep : PySem.W.hasDictIn K (He.ga K "Keep") = true := (told_at c 8 5)
  have poKeep : PySem.W.plainOver K (He.ga K "Keep") = true := (told_at c 8 6)
  have saKeep : PySem.W.findIn K (.ref (He.ga K "Keep")) "__setattr__" = some (some (.builtin "object.__setattr__")) := of_decide_eq_true (told_at c 8 7)
  have mkKeep : PySem.W.makesIn K (He.ga K "Keep") = true := (told_at c 8 8)
  have kcKeep : PySem.W.keepIn K (.ref (He.ga K "Keep")) = true := (told_at c 8 9)
  have nKeep0 : PySem.W.findIn K (.ref (He.ga K "Keep")) "word" = some none := of_decide_eq_true (told_at c 9 0)
  have nKeep1 : PySem.W.findIn K (.ref (He.ga K "Keep")) "counter" = some none := of_decide_eq_true (told_at c 9 1)
  have inSKeep : PySem.W.findIn K (.ref (He.ga K "Keep")) "__str__" = some (some (.ref (He.ma K (He.ga K "Keep") "__str__"))) := of_decide_eq_true (told_at c 9 2)
  have iSKeep : PySem.W.isFn K (.ref (He.ma K (He.ga K "Keep") "__str__")) = true := (told_at c 9 3)
  obtain ⟨fdSKeep, YSKeep⟩ := told_fn c 12
  have XSKeep : Fun K "__str__" "Keep.__str__" sKeepStr (He.ma K (He.ga K "Keep") "__str__") fdSKeep := fun_of YSKeep
  have aBack : PySem.W.nsIn K mainGlobals "Back" = some (some (.ref (He.ga K "Back"))) := of_decide_eq_true (told_at c 9 4)
  have inBack : PySem.W.findIn K (.ref (He.ga K "Back")) "__init__" = some (some (.ref (He.ma K (He.ga K "Back") "__init__"))) := of_decide_eq_true (told_at c 9 5)
  have iBack : PySem.W.isFn K (.ref (He.ma K (He.ga K "Back") "__init__")) = true := (told_at c 9 6)
  obtain ⟨fdBack, YBack⟩ := told_fn c 13
  have XBack : Fun K "__init__" "Back.__init__" sBackInit (He.ma K (He.ga K "Back") "__init__") fdBack := fun_of YBack
  have pgBack : PySem.W.plainGet K (He.ga K "Back") Str.empty = true := (told_at c 9 7)
  have hdBack : PySem.W.hasDictIn K (He.ga K "Back") = true := (told_at c 9 8)
  have poBack : PySem.W.plainOver K (He.ga K "Back") = true := (told_at c 9 9)
  have saBack : PySem.W.findIn K (.ref (He.ga K "Back")) "__setattr__" = some (some (.builtin "object.__setattr__")) := of_decide_eq_true (told_at c 10 0)
  have mkBack : PySem.W.makesIn K (He.ga K "Back") = true := (told_at c 10 1)
  have kcBack : PySem.W.keepIn K (.ref (He.ga K "Back")) = true := (told_at c 10 2)
  have nBack0 : PySem.W.findIn K (.ref (He.ga K "Back")) "word" = some none := of_decide_eq_true (told_at c 10 3)
  have nBack1 : PySem.W.findIn K (.ref (He.ga K "Back")) "counter" = some none := of_decide_eq_true (told_at c 10 4)
  have inSBack : PySem.W.findIn K (.ref (He.ga K "Back")) "__str__" = some (some (.ref (He.ma K (He.ga K "Back") "__str__"))) := of_decide_eq_true (told_at c 10 5)
  have iSBack : PySem.W.isFn K (.ref (He.ma K (He.ga K "Back") "__str__")) = true := (told_at c 10 6)
  obtain ⟨fdSBack, YSBack⟩ := told_fn c 14
  have XSBack : Fun K "__str__" "Back.__str__" sBackStr (He.ma K (He.ga K "Back") "__str__") fdSBack := fun_of YSBack
  have aRef : PySem.W.nsIn K mainGlobals "Ref" = some (some (.ref (He.ga K "Ref"))) := of_decide_eq_true (told_at c 10 7)
  have inRef : PySem.W.findIn K (.ref (He.ga K "Ref")) "__init__" = some (some (.ref (He.ma K (He.ga K "Ref") "__init__"))) := of_decide_eq_true (told_at c 10 8)
  have iRef : PySem.W.isFn K (.ref (He.ma K (He.ga K "Ref") "__init__")) = true := (told_at c 10 9)
  obtain ⟨fdRef, YRef⟩ := told_fn c 15
  have XRef : Fun K "__init__" "Ref.__init__" sRefInit (He.ma K (He.ga K "Ref") "__init__") fdRef := fun_of YRef
  have pgRef : PySem.W.plainGet K (He.ga K "Ref") Str.empty = true := (told_at c 11 0)
  have hdRef : PySem.W.hasDictIn K (He.ga K "Ref") = true := (told_at c 11 1)
  have poRef : PySem.W.plainOver K (He.ga K "Ref") = true := (told_at c 11 2)
  have saRef : PySem.W.findIn K (.ref (He.ga K "Ref")) "__setattr__" = some (some (.builtin "object.__setattr__")) := of_decide_eq_true (told_at c 11 3)
  have mkRef : PySem.W.makesIn K (He.ga K "Ref") = true := (told_at c 11 4)
  have kcRef : PySem.W.keepIn K (.ref (He.ga K "Ref")) = true := (told_at c 11 5)
  have nRef0 : PySem.W.findIn K (.ref (He.ga K "Ref")) "word" = some none := of_decide_eq_true (told_at c 11 6)
  have nRef1 : PySem.W.findIn K (.ref (He.ga K "Ref")) "label" = some none := of_decide_eq_true (told_at c 11 7)
  have inSRef : PySem.W.findIn K (.ref (He.ga K "Ref")) "__str__" = some (some (.ref (He.ma K (He.ga K "Ref") "__str__"))) := of_decide_eq_true (told_at c 11 8)
  have iSRef : PySem.W.isFn K (.ref (He.ma K (He.ga K "Ref") "__str__")) = true := (told_at c 11 9)
  obtain ⟨fdSRef, YSRef⟩ := told_fn c 16
  have XSRef : Fun K "__str__" "Ref.__str__" sRefStr (He.ma K (He.ga K "Ref") "__str__") fdSRef := fun_of YSRef
  have aPut : PySem.W.nsIn K mainGlobals "Put" = some (some (.ref (He.ga K "Put"))) := of_decide_eq_true (told_at c 12 0)
  have inPut : PySem.W.findIn K (.ref (He.ga K "Put")) "__init__" = some (some (.ref (He.ma K (He.ga K "Put") "__init__"))) := of_decide_eq_true (told_at c 12 1)
  have iPut : PySem.W.isFn K (.ref (He.ma K (He.ga K "Put") "__init__")) = true := (told_at c 12 2)
  obtain ⟨fdPut, YPut⟩ := told_fn c 17
  have XPut : Fun K "__init__" "Put.__init__" sPutInit (He.ma K (He.ga K "Put") "__init__") fdPut := fun_of YPut
  have pgPut : PySem.W.plainGet K (He.ga K "Put") Str.empty = true := (told_at c 12 3)
  have hdPut : PySem.W.hasDictIn K (He.ga K "Put") = true := (told_at c 12 4)
  have poPut : PySem.W.plainOver K (He.ga K "Put") = true := (told_at c 12 5)
  have saPut : PySem.W.findIn K (.ref (He.ga K "Put")) "__setattr__" = some (some (.builtin "object.__setattr__")) := of_decide_eq_true (told_at c 12 6)
  have mkPut : PySem.W.makesIn K (He.ga K "Put") = true := (told_at c 12 7)
  have kcPut : PySem.W.keepIn K (.ref (He.ga K "Put")) = true := (told_at c 12 8)
  have nPut0 : PySem.W.findIn K (.ref (He.ga K "Put")) "word" = some none := of_decide_eq_true (told_at c 12 9)
  have nPut1 : PySem.W.findIn K (.ref (He.ga K "Put")) "part" = some none := of_decide_eq_true (told_at c 13 0)
  have inSPut : PySem.W.findIn K (.ref (He.ga K "Put")) "__str__" = some (some (.ref (He.ma K (He.ga K "Put") "__str__"))) := of_decide_eq_true (told_at c 13 1)
  have iSPut : PySem.W.isFn K (.ref (He.ma K (He.ga K "Put") "__str__")) = true := (told_at c 13 2)
  obtain ⟨fdSPut, YSPut⟩ := told_fn c 18
  have XSPut : Fun K "__str__" "Put.__str__" sPutStr (He.ma K (He.ga K "Put") "__str__") fdSPut := fun_of YSPut
  have aOpen : PySem.W.nsIn K mainGlobals "Open" = some (some (.ref (He.ga K "Open"))) := of_decide_eq_true (told_at c 13 3)
  have inOpen : PySem.W.findIn K (.ref (He.ga K "Open")) "__init__" = some (some (.ref (He.ma K (He.ga K "Open") "__init__"))) := of_decide_eq_true (told_at c 13 4)
  have iOpen : PySem.W.isFn K (.ref (He.ma K (He.ga K "Open") "__init__")) = true := (told_at c 13 5)
  obtain ⟨fdOpen, YOpen⟩ := told_fn c 19
  have XOpen : Fun K "__init__" "Open.__init__" sOpenInit (He.ma K (He.ga K "Open") "__init__") fdOpen := fun_of YOpen
  have pgOpen : PySem.W.plainGet K (He.ga K "Open") Str.empty = true := (told_at c 13 6)
  have hdOpen : PySem.W.hasDictIn K (He.ga K "Open") = true := (told_at c 13 7)
  have poOpen : PySem.W.plainOver K (He.ga K "Open") = true := (told_at c 13 8)
  have saOpen : PySem.W.findIn K (.ref (He.ga K "Open")) "__setattr__" = some (some (.builtin "object.__setattr__")) := of_decide_eq_true (told_at c 13 9)
  have mkOpen : PySem.W.makesIn K (He.ga K "Open") = true := (told_at c 14 0)
  have kcOpen : PySem.W.keepIn K (.ref (He.ga K "Open")) = true := (told_at c 14 1)
  have nOpen0 : PySem.W.findIn K (.ref (He.ga K "Open")) "word" = some none := of_decide_eq_true (told_at c 14 2)
  have nOpen1 : PySem.W.findIn K (.ref (He.ga K "Open")) "name" = some none := of_decide_eq_true (told_at c 14 3)
  have inSOpen : PySem.W.findIn K (.ref (He.ga K "Open")) "__str__" = some (some (.ref (He.ma K (He.ga K "Open") "__str__"))) := of_decide_eq_true (told_at c 14 4)
  have iSOpen : PySem.W.isFn K (.ref (He.ma K (He.ga K "Open") "__str__")) = true := (told_at c 14 5)
  obtain ⟨fdSOpen, YSOpen⟩ := told_fn c 20
  have XSOpen : Fun K "__str__" "Open.__str__" sOpenStr (He.ma K (He.ga K "Open") "__str__") fdSOpen := fun_of YSOpen
  have aRow : PySem.W.nsIn K mainGlobals "Row" = some (some (.ref (He.ga K "Row"))) := of_decide_eq_true (told_at c 14 6)
  have aissequence : PySem.W.nsIn K mainGlobals "is_sequence" = some (some (.ref (He.ga K "is_sequence"))) := of_decide_eq_true (told_at c 14 7)
  obtain ⟨fdissequence, Yissequence⟩ := told_fn c 21
  have Xissequence : Fun K "is_sequence" "is_sequence" sIsSeq (He.ga K "is_sequence") fdissequence := fun_of Yissequence
  have aInvalidPart : PySem.W.nsIn K mainGlobals "InvalidPart" = some (some (.ref (He.ga K "InvalidPart"))) := of_decide_eq_true (told_at c 14 8)
  have xInvalidPart := excQ_ok (K := K) (C := (He.ga K "InvalidPart")) (nid := "ValueError.__new__") (told_at c 14 9)
  have saInvalidPart : PySem.W.findIn K (.ref (He.ga K "InvalidPart")) "__setattr__" = some (some (.builtin "object.__setattr__")) := of_decide_eq_true (told_at c 15 0)
  have gaInvalidPart : PySem.W.findIn K (.ref (He.ga K "InvalidPart")) "__getattribute__" = some (some (.builtin "BaseException.__getattribute__")) := of_decide_eq_true (told_at c 15 1)
  have ggInvalidPart : PySem.W.findIn K (.ref (He.ga K "InvalidPart")) "__getattr__" = some (none) := of_decide_eq_true (told_at c 15 2)
  have nfInvalidPart : PySem.W.findIn K (.ref (He.ga K "InvalidPart")) "word" = some (none) := of_decide_eq_true (told_at c 15 3)
  have inInvalidPart : PySem.W.findIn K (.ref (He.ga K "InvalidPart")) "__init__" = some (some (.ref (He.ma K (He.ga K "InvalidPart") "__init__"))) := of_decide_eq_true (told_at c 15 4)
  have haInvalidPart : PySem.W.findIn K (.ref (He.ga K "InvalidPart")) "__class__" = some (some (.builtin "object.__class__")) := of_decide_eq_true (told_at c 15 5)
  have tiInvalidPart : PySem.W.typeIn K (.ref (He.ma K (He.ga K "InvalidPart") "__init__")) = some (.type "function") := of_decide_eq_true (told_at c 15 6)
  obtain ⟨fdInvalidPart, YInvalidPart⟩ := told_fn c 22
  have XInvalidPart : Fun K "__init__" "InvalidPart.__init__" sIPInit (He.ma K (He.ga K "InvalidPart") "__init__") fdInvalidPart := fun_of YInvalidPart
  have kcInvalidPart : PySem.W.keepIn K (.ref (He.ga K "InvalidPart")) = true := (told_at c 15 7)
  have eCInvalidPart : PySem.W.subIn K (.ref (He.ga K "InvalidPart")) (.type "BaseException") = some true := of_decide_eq_true (told_at c 15 8)
  have tCInvalidPart : PySem.W.typeIn K (.ref (He.ga K "InvalidPart")) = some (.type "type") := of_decide_eq_true (told_at c 15 9)
  have hCInvalidPart : PySem.W.hasDictIn K (He.ga K "InvalidPart") = true := (told_at c 16 0)
  have iCInvalidPart : PySem.W.isClsIn K (He.ga K "InvalidPart") = true := (told_at c 16 1)
  have sCInvalidPart : PySem.W.subIn K (.ref (He.ga K "InvalidPart")) (.ref (He.ga K "InvalidPart")) = some true := of_decide_eq_true (told_at c 16 2)
  have hmInvalidPart : PySem.W.mroIn K (He.ga K "InvalidPart") (.type "object") = some true := of_decide_eq_true (told_at c 16 3)
  have aPart : PySem.W.nsIn K mainGlobals "Part" = some (some (.ref (He.ga K "Part"))) := of_decide_eq_true (told_at c 16 4)
  have inPart : PySem.W.findIn K (.ref (He.ga K "Part")) "__init__" = some (some (.ref (He.ma K (He.ga K "Part") "__init__"))) := of_decide_eq_true (told_at c 16 5)
  have iPart : PySem.W.isFn K (.ref (He.ma K (He.ga K "Part") "__init__")) = true := (told_at c 16 6)
  have SDPart : ∀ H : Hp, SqT K H (He.dflAt ("Part", some "__init__") 0 K) [] := fun H => tupQ_ok (vs := []) (told_at c 16 7) H
  obtain ⟨fdPart, YPart⟩ := told_fn c 23
  have FPart : FunD K "__init__" "Part.__init__" (defArgs sPartInit) (defBody sPartInit) (defScope sPartInit) [.ref (He.dflAt ("Part", some "__init__") 0 K)] [] (He.ma K (He.ga K "Part") "__init__") fdPart := YPart
  have pgPart : PySem.W.plainGet K (He.ga K "Part") Str.empty = true := (told_at c 16 8)
  have hdPart : PySem.W.hasDictIn K (He.ga K "Part") = true := (told_at c 16 9)
  have poPart : PySem.W.plainOver K (He.ga K "Part") = true := (told_at c 17 0)
  have saPart : PySem.W.findIn K (.ref (He.ga K "Part")) "__setattr__" = some (some (.builtin "object.__setattr__")) := of_decide_eq_true (told_at c 17 1)
  have mkPart : PySem.W.makesIn K (He.ga K "Part") = true := (told_at c 17 2)
  have kcPart : PySem.W.keepIn K (.ref (He.ga K "Part")) = true := (told_at c 17 3)
  have nPart0 : PySem.W.findIn K (.ref (He.ga K "Part")) "name" = some none := of_decide_eq_true (told_at c 17 4)
  have nPart1 : PySem.W.findIn K (.ref (He.ga K "Part")) "rows" = some none := of_decide_eq_true (told_at c 17 5)
  have instrPart : PySem.W.findIn K (.ref (He.ga K "Part")) "__str__" = some (some (.ref (He.ma K (He.ga K "Part") "__str__"))) := of_decide_eq_true (told_at c 17 6)
  have istrPart : PySem.W.isFn K (.ref (He.ma K (He.ga K "Part") "__str__")) = true := (told_at c 17 7)
  obtain ⟨fdstrPart, YstrPart⟩ := told_fn c 24
  have XstrPart : Fun K "__str__" "Part.__str__" sPartStr (He.ma K (He.ga K "Part") "__str__") fdstrPart := fun_of YstrPart
  have ineqPart : PySem.W.findIn K (.ref (He.ga K "Part")) "__eq__" = some (some (.ref (He.ma K (He.ga K "Part") "__eq__"))) := of_decide_eq_true (told_at c 17 8)
  have ieqPart : PySem.W.isFn K (.ref (He.ma K (He.ga K "Part") "__eq__")) = true := (told_at c 17 9)
  obtain ⟨fdeqPart, YeqPart⟩ := told_fn c 25
  have XeqPart : Fun K "__eq__" "Part.__eq__" sPartEq (He.ma K (He.ga K "Part") "__eq__") fdeqPart := fun_of YeqPart
  have aCOUNTINGWORDS : PySem.W.nsIn K mainGlobals "COUNTING_WORDS" = some (some (.ref (He.ga K "COUNTING_WORDS"))) := of_decide_eq_true (told_at c 18 0)
  have SCOUNTINGWORDS : ∀ H : Hp, SqT K H (He.ga K "COUNTING_WORDS") [.str "note", .str "skip", .str "set", .str "keep", .str "back"] := fun H => He.tupB_ok (x := "COUNTING_WORDS") (vs := [.str "note", .str "skip", .str "set", .str "keep", .str "back"]) (told_at c 18 1) H
  have aispair : PySem.W.nsIn K mainGlobals "is_pair" = some (some (.ref (He.ga K "is_pair"))) := of_decide_eq_true (told_at c 18 2)
  obtain ⟨fdispair, Yispair⟩ := told_fn c 26
  have Xispair : Fun K "is_pair" "is_pair" sIsPair (He.ga K "is_pair") fdispair := fun_of Yispair
  have aarecounters : PySem.W.nsIn K mainGlobals "are_counters" = some (some (.ref (He.ga K "are_counters"))) := of_decide_eq_true (told_at c 18 3)
  obtain ⟨fdarecounters, Yarecounters⟩ := told_fn c 27
  have Xarecounters : Fun K "are_counters" "are_counters" sAreC (He.ga K "are_counters") fdarecounters := fun_of Yarecounters
  have aareparts : PySem.W.nsIn K mainGlobals "are_parts" = some (some (.ref (He.ga K "are_parts"))) := of_decide_eq_true (told_at c 18 4)
  obtain ⟨fdareparts, Yareparts⟩ := told_fn c 28
  have Xareparts : Fun K "are_parts" "are_parts" sAreP (He.ga K "are_parts") fdareparts := fun_of Yareparts
  have acountersareknown : PySem.W.nsIn K mainGlobals "counters_are_known" = some (some (.ref (He.ga K "counters_are_known"))) := of_decide_eq_true (told_at c 18 5)
  obtain ⟨fdcountersareknown, Ycountersareknown⟩ := told_fn c 29
  have Xcountersareknown : Fun K "counters_are_known" "counters_are_known" sCKnown (He.ga K "counters_are_known") fdcountersareknown := fun_of Ycountersareknown
  have anamesput : PySem.W.nsIn K mainGlobals "names_put" = some (some (.ref (He.ga K "names_put"))) := of_decide_eq_true (told_at c 18 6)
  obtain ⟨fdnamesput, Ynamesput⟩ := told_fn c 30
  have Xnamesput : Fun K "names_put" "names_put" sNPut (He.ga K "names_put") fdnamesput := fun_of Ynamesput
  have aputsareearlier : PySem.W.nsIn K mainGlobals "puts_are_earlier" = some (some (.ref (He.ga K "puts_are_earlier"))) := of_decide_eq_true (told_at c 18 7)
  obtain ⟨fdputsareearlier, Yputsareearlier⟩ := told_fn c 31
  have Xputsareearlier : Fun K "puts_are_earlier" "puts_are_earlier" sPEarly (He.ga K "puts_are_earlier") fdputsareearlier := fun_of Yputsareearlier
  have anamesreached : PySem.W.nsIn K mainGlobals "names_reached" = some (some (.ref (He.ga K "names_reached"))) := of_decide_eq_true (told_at c 18 8)
  obtain ⟨fdnamesreached, Ynamesreached⟩ := told_fn c 32
  have Xnamesreached : Fun K "names_reached" "names_reached" sNReach (He.ga K "names_reached") fdnamesreached := fun_of Ynamesreached
  have aunroll : PySem.W.nsIn K mainGlobals "unroll" = some (some (.ref (He.ga K "unroll"))) := of_decide_eq_true (told_at c 18 9)
  obtain ⟨fdunroll, Yunroll⟩ := told_fn c 33
  have Xunroll : Fun K "unroll" "unroll" sUnr1 (He.ga K "unroll") fdunroll := fun_of Yunroll
  have aunrolledtext : PySem.W.nsIn K mainGlobals "unrolled_text" = some (some (.ref (He.ga K "unrolled_text"))) := of_decide_eq_true (told_at c 19 0)
  obtain ⟨fdunrolledtext, Yunrolledtext⟩ := told_fn c 34
  have Xunrolledtext : Fun K "unrolled_text" "unrolled_text" sUText (He.ga K "unrolled_text") fdunrolledtext := fun_of Yunrolledtext
  have arefsareknown : PySem.W.nsIn K mainGlobals "refs_are_known" = some (some (.ref (He.ga K "refs_are_known"))) := of_decide_eq_true (told_at c 19 1)
  obtain ⟨fdrefsareknown, Yrefsareknown⟩ := told_fn c 35
  have Xrefsareknown : Fun K "refs_are_known" "refs_are_known" sRefsK (He.ga K "refs_are_known") fdrefsareknown := fun_of Yrefsareknown
  have aBook : PySem.W.nsIn K mainGlobals "Book" = some (some (.ref (He.ga K "Book"))) := of_decide_eq_true (told_at c 19 2)
  have inBook : PySem.W.findIn K (.ref (He.ga K "Book")) "__init__" = some (some (.ref (He.ma K (He.ga K "Book") "__init__"))) := of_decide_eq_true (told_at c 19 3)
  have iBook : PySem.W.isFn K (.ref (He.ma K (He.ga K "Book") "__init__")) = true := (told_at c 19 4)
  obtain ⟨fdBook, YBook⟩ := told_fn c 36
  have XBook : Fun K "__init__" "Book.__init__" sBInit (He.ma K (He.ga K "Book") "__init__") fdBook := fun_of YBook
  have pgBook : PySem.W.plainGet K (He.ga K "Book") Str.empty = true := (told_at c 19 5)
  have hdBook : PySem.W.hasDictIn K (He.ga K "Book") = true := (told_at c 19 6)
  have poBook : PySem.W.plainOver K (He.ga K "Book") = true := (told_at c 19 7)
  have saBook : PySem.W.findIn K (.ref (He.ga K "Book")) "__setattr__" = some (some (.builtin "object.__setattr__")) := of_decide_eq_true (told_at c 19 8)
  have mkBook : PySem.W.makesIn K (He.ga K "Book") = true := (told_at c 19 9)
  have kcBook : PySem.W.keepIn K (.ref (He.ga K "Book")) = true := (told_at c 20 0)
  have nBook0 : PySem.W.findIn K (.ref (He.ga K "Book")) "counters" = some none := of_decide_eq_true (told_at c 20 1)
  have nBook1 : PySem.W.findIn K (.ref (He.ga K "Book")) "parts" = some none := of_decide_eq_true (told_at c 20 2)
  have nBook2 : PySem.W.findIn K (.ref (He.ga K "Book")) "flat" = some none := of_decide_eq_true (told_at c 20 3)
  obtain ⟨fdnamesBook, YnamesBook⟩ := told_fn c 37
  have XnamesBook : Fun K "names" "Book.names" sBNames (getterQ K (He.ma K (He.ga K "Book") "names")) fdnamesBook := fun_of YnamesBook
  obtain ⟨fdtopsBook, YtopsBook⟩ := told_fn c 38
  have XtopsBook : Fun K "tops" "Book.tops" sBTops (getterQ K (He.ma K (He.ga K "Book") "tops")) fdtopsBook := fun_of YtopsBook
  obtain ⟨fdunrolledBook, YunrolledBook⟩ := told_fn c 39
  have XunrolledBook : Fun K "unrolled" "Book.unrolled" sBUnr (getterQ K (He.ma K (He.ga K "Book") "unrolled")) fdunrolledBook := fun_of YunrolledBook
  have inchainBook : PySem.W.findIn K (.ref (He.ga K "Book")) "chain" = some (some (.ref (He.ma K (He.ga K "Book") "chain"))) := of_decide_eq_true (told_at c 20 7)
  have ichainBook : PySem.W.isFn K (.ref (He.ma K (He.ga K "Book") "chain")) = true := (told_at c 20 8)
  obtain ⟨fdchainBook, YchainBook⟩ := told_fn c 40
  have XchainBook : Fun K "chain" "Book.chain" sBChain (He.ma K (He.ga K "Book") "chain") fdchainBook := fun_of YchainBook
  have aInvalidFilling : PySem.W.nsIn K mainGlobals "InvalidFilling" = some (some (.ref (He.ga K "InvalidFilling"))) := of_decide_eq_true (told_at c 20 9)
  have xInvalidFilling := excQ_ok (K := K) (C := (He.ga K "InvalidFilling")) (nid := "ValueError.__new__") (told_at c 21 0)
  have saInvalidFilling : PySem.W.findIn K (.ref (He.ga K "InvalidFilling")) "__setattr__" = some (some (.builtin "object.__setattr__")) := of_decide_eq_true (told_at c 21 1)
  have gaInvalidFilling : PySem.W.findIn K (.ref (He.ga K "InvalidFilling")) "__getattribute__" = some (some (.builtin "BaseException.__getattribute__")) := of_decide_eq_true (told_at c 21 2)
  have ggInvalidFilling : PySem.W.findIn K (.ref (He.ga K "InvalidFilling")) "__getattr__" = some (none) := of_decide_eq_true (told_at c 21 3)
  have nfInvalidFilling : PySem.W.findIn K (.ref (He.ga K "InvalidFilling")) "word" = some (none) := of_decide_eq_true (told_at c 21 4)
  have inInvalidFilling : PySem.W.findIn K (.ref (He.ga K "InvalidFilling")) "__init__" = some (some (.ref (He.ma K (He.ga K "InvalidFilling") "__init__"))) := of_decide_eq_true (told_at c 21 5)
  have haInvalidFilling : PySem.W.findIn K (.ref (He.ga K "InvalidFilling")) "__class__" = some (some (.builtin "object.__class__")) := of_decide_eq_true (told_at c 21 6)
  have tiInvalidFilling : PySem.W.typeIn K (.ref (He.ma K (He.ga K "InvalidFilling") "__init__")) = some (.type "function") := of_decide_eq_true (told_at c 21 7)
  obtain ⟨fdInvalidFilling, YInvalidFilling⟩ := told_fn c 41
  have XInvalidFilling : Fun K "__init__" "InvalidFilling.__init__" sIFInit (He.ma K (He.ga K "InvalidFilling") "__init__") fdInvalidFilling := fun_of YInvalidFilling
  have kcInvalidFilling : PySem.W.keepIn K (.ref (He.ga K "InvalidFilling")) = true := (told_at c 21 8)
  have eCInvalidFilling : PySem.W.subIn K (.ref (He.ga K "InvalidFilling")) (.type "BaseException") = some true := of_decide_eq_true (told_at c 21 9)
  have tCInvalidFilling : PySem.W.typeIn K (.ref (He.ga K "InvalidFilling")) = some (.type "type") := of_decide_eq_true (told_at c 22 0)
  have hCInvalidFilling : PySem.W.hasDictIn K (He.ga K "InvalidFilling") = true := (told_at c 22 1)
  have iCInvalidFilling : PySem.W.isClsIn K (He.ga K "InvalidFilling") = true := (told_at c 22 2)
  have sCInvalidFilling : PySem.W.subIn K (.ref (He.ga K "InvalidFilling")) (.ref (He.ga K "InvalidFilling")) = some true := of_decide_eq_true (told_at c 22 3)
  have hmInvalidFilling : PySem.W.mroIn K (He.ga K "InvalidFilling") (.type "object") = some true := of_decide_eq_true (told_at c 22 4)
  have aFilling : PySem.W.nsIn K mainGlobals "Filling" = some (some (.ref (He.ga K "Filling"))) := of_decide_eq_true (told_at c 22 5)
  have inFilling : PySem.W.findIn K (.ref (He.ga K "Filling")) "__init__" = some (some (.ref (He.ma K (He.ga K "Filling") "__init__"))) := of_decide_eq_true (told_at c 22 6)
  have iFilling : PySem.W.isFn K (.ref (He.ma K (He.ga K "Filling") "__init__")) = true := (told_at c 22 7)
  have SDFilling : ∀ H : Hp, SqT K H (He.dflAt ("Filling", some "__init__") 0 K) [] := fun H => tupQ_ok (vs := []) (told_at c 22 8) H
  obtain ⟨fdFilling, YFilling⟩ := told_fn c 42
  have FFilling : FunD K "__init__" "Filling.__init__" (defArgs sFInit) (defBody sFInit) (defScope sFInit) [.ref (He.dflAt ("Filling", some "__init__") 0 K)] [] (He.ma K (He.ga K "Filling") "__init__") fdFilling := YFilling
  have pgFilling : PySem.W.plainGet K (He.ga K "Filling") Str.empty = true := (told_at c 22 9)
  have hdFilling : PySem.W.hasDictIn K (He.ga K "Filling") = true := (told_at c 23 0)
  have poFilling : PySem.W.plainOver K (He.ga K "Filling") = true := (told_at c 23 1)
  have saFilling : PySem.W.findIn K (.ref (He.ga K "Filling")) "__setattr__" = some (some (.builtin "object.__setattr__")) := of_decide_eq_true (told_at c 23 2)
  have mkFilling : PySem.W.makesIn K (He.ga K "Filling") = true := (told_at c 23 3)
  have kcFilling : PySem.W.keepIn K (.ref (He.ga K "Filling")) = true := (told_at c 23 4)
  have nFilling0 : PySem.W.findIn K (.ref (He.ga K "Filling")) "filled" = some none := of_decide_eq_true (told_at c 23 5)
  have inrows_forFilling : PySem.W.findIn K (.ref (He.ga K "Filling")) "rows_for" = some (some (.ref (He.ma K (He.ga K "Filling") "rows_for"))) := of_decide_eq_true (told_at c 23 6)
  have irows_forFilling : PySem.W.isFn K (.ref (He.ma K (He.ga K "Filling") "rows_for")) = true := (told_at c 23 7)
  obtain ⟨fdrows_forFilling, Yrows_forFilling⟩ := told_fn c 43
  have Xrows_forFilling : Fun K "rows_for" "Filling.rows_for" sFRows (He.ma K (He.ga K "Filling") "rows_for") fdrows_forFilling := fun_of Yrows_forFilling
  have instrFilling : PySem.W.findIn K (.ref (He.ga K "Filling")) "__str__" = some (some (.ref (He.ma K (He.ga K "Filling") "__str__"))) := of_decide_eq_true (told_at c 23 8)
  have istrFilling : PySem.W.isFn K (.ref (He.ma K (He.ga K "Filling") "__str__")) = true := (told_at c 23 9)
  obtain ⟨fdstrFilling, YstrFilling⟩ := told_fn c 44
  have XstrFilling : Fun K "__str__" "Filling.__str__" sFStr (He.ma K (He.ga K "Filling") "__str__") fdstrFilling := fun_of YstrFilling
  have ineqFilling : PySem.W.findIn K (.ref (He.ga K "Filling")) "__eq__" = some (some (.ref (He.ma K (He.ga K "Filling") "__eq__"))) := of_decide_eq_true (told_at c 24 0)
  have ieqFilling : PySem.W.isFn K (.ref (He.ma K (He.ga K "Filling") "__eq__")) = true := (told_at c 24 1)
  obtain ⟨fdeqFilling, YeqFilling⟩ := told_fn c 45
  have XeqFilling : Fun K "__eq__" "Filling.__eq__" sFEq (He.ma K (He.ga K "Filling") "__eq__") fdeqFilling := fun_of YeqFilling
  obtain ⟨fdnamesFilling, YnamesFilling⟩ := told_fn c 46
  have XnamesFilling : Fun K "names" "Filling.names" sFNames (getterQ K (He.ma K (He.ga K "Filling") "names")) fdnamesFilling := fun_of YnamesFilling
  have aarefillable : PySem.W.nsIn K mainGlobals "are_fillable" = some (some (.ref (He.ga K "are_fillable"))) := of_decide_eq_true (told_at c 24 3)
  obtain ⟨fdarefillable, Yarefillable⟩ := told_fn c 47
  have Xarefillable : Fun K "are_fillable" "are_fillable" sAreFill (He.ga K "are_fillable") fdarefillable := fun_of Yarefillable
  have aisfilled : PySem.W.nsIn K mainGlobals "is_filled" = some (some (.ref (He.ga K "is_filled"))) := of_decide_eq_true (told_at c 24 4)
  obtain ⟨fdisfilled, Yisfilled⟩ := told_fn c 48
  have Xisfilled : Fun K "is_filled" "is_filled" sIsFilled (He.ga K "is_filled") fdisfilled := fun_of Yisfilled
  have afilledtext : PySem.W.nsIn K mainGlobals "filled_text" = some (some (.ref (He.ga K "filled_text"))) := of_decide_eq_true (told_at c 24 5)
  obtain ⟨fdfilledtext, Yfilledtext⟩ := told_fn c 49
  have Xfilledtext : Fun K "filled_text" "filled_text" sFText (He.ga K "filled_text") fdfilledtext := fun_of Yfilledtext
  have aLEAVEWORDS : PySem.W.nsIn K mainGlobals "LEAVE_WORDS" = some (some (.ref (He.ga K "LEAVE_WORDS"))) := of_decide_eq_true (told_at c 24 6)
  have SLEAVEWORDS : ∀ H : Hp, SqT K H (He.ga K "LEAVE_WORDS") [.str "on", .str "any"] := fun H => He.tupB_ok (x := "LEAVE_WORDS") (vs := [.str "on", .str "any"]) (told_at c 24 7) H
  have aistriple : PySem.W.nsIn K mainGlobals "is_triple" = some (some (.ref (He.ga K "is_triple"))) := of_decide_eq_true (told_at c 24 8)
  obtain ⟨fdistriple, Yistriple⟩ := told_fn c 50
  have Xistriple : Fun K "is_triple" "is_triple" sIsTri (He.ga K "is_triple") fdistriple := fun_of Yistriple
  have aneedtriples : PySem.W.nsIn K mainGlobals "need_triples" = some (some (.ref (He.ga K "need_triples"))) := of_decide_eq_true (told_at c 24 9)
  obtain ⟨fdneedtriples, Yneedtriples⟩ := told_fn c 51
  have Xneedtriples : Fun K "need_triples" "need_triples" sNeedT (He.ga K "need_triples") fdneedtriples := fun_of Yneedtriples
  have arightsof : PySem.W.nsIn K mainGlobals "rights_of" = some (some (.ref (He.ga K "rights_of"))) := of_decide_eq_true (told_at c 25 0)
  obtain ⟨fdrightsof, Yrightsof⟩ := told_fn c 52
  have Xrightsof : Fun K "rights_of" "rights_of" sRights (He.ga K "rights_of") fdrightsof := fun_of Yrightsof
  have aLeaves : PySem.W.nsIn K mainGlobals "Leaves" = some (some (.ref (He.ga K "Leaves"))) := of_decide_eq_true (told_at c 25 1)
  have inLeaves : PySem.W.findIn K (.ref (He.ga K "Leaves")) "__init__" = some (some (.ref (He.ma K (He.ga K "Leaves") "__init__"))) := of_decide_eq_true (told_at c 25 2)
  have iLeaves : PySem.W.isFn K (.ref (He.ma K (He.ga K "Leaves") "__init__")) = true := (told_at c 25 3)
  have SDLeaves : ∀ H : Hp, SqT K H (He.dflAt ("Leaves", some "__init__") 0 K) [] := fun H => tupQ_ok (vs := []) (told_at c 25 4) H
  obtain ⟨fdLeaves, YLeaves⟩ := told_fn c 53
  have FLeaves : FunD K "__init__" "Leaves.__init__" (defArgs sLInit) (defBody sLInit) (defScope sLInit) [.ref (He.dflAt ("Leaves", some "__init__") 0 K)] [] (He.ma K (He.ga K "Leaves") "__init__") fdLeaves := YLeaves
  have pgLeaves : PySem.W.plainGet K (He.ga K "Leaves") Str.empty = true := (told_at c 25 5)
  have hdLeaves : PySem.W.hasDictIn K (He.ga K "Leaves") = true := (told_at c 25 6)
  have poLeaves : PySem.W.plainOver K (He.ga K "Leaves") = true := (told_at c 25 7)
  have saLeaves : PySem.W.findIn K (.ref (He.ga K "Leaves")) "__setattr__" = some (some (.builtin "object.__setattr__")) := of_decide_eq_true (told_at c 25 8)
  have mkLeaves : PySem.W.makesIn K (He.ga K "Leaves") = true := (told_at c 25 9)
  have kcLeaves : PySem.W.keepIn K (.ref (He.ga K "Leaves")) = true := (told_at c 26 0)
  have nLeaves0 : PySem.W.findIn K (.ref (He.ga K "Leaves")) "rights" = some none := of_decide_eq_true (told_at c 26 1)
  have aneedleaves : PySem.W.nsIn K mainGlobals "need_leaves" = some (some (.ref (He.ga K "need_leaves"))) := of_decide_eq_true (told_at c 26 2)
  obtain ⟨fdneedleaves, Yneedleaves⟩ := told_fn c 54
  have Xneedleaves : Fun K "need_leaves" "need_leaves" sNeedL (He.ga K "need_leaves") fdneedleaves := fun_of Yneedleaves
  have ineqLeaves : PySem.W.findIn K (.ref (He.ga K "Leaves")) "__eq__" = some (some (.ref (He.ma K (He.ga K "Leaves") "__eq__"))) := of_decide_eq_true (told_at c 26 3)
  have ieqLeaves : PySem.W.isFn K (.ref (He.ma K (He.ga K "Leaves") "__eq__")) = true := (told_at c 26 4)
  obtain ⟨fdeqLeaves, YeqLeaves⟩ := told_fn c 55
  have XeqLeaves : Fun K "__eq__" "Leaves.__eq__" sLEq (He.ma K (He.ga K "Leaves") "__eq__") fdeqLeaves := fun_of YeqLeaves
  have inorLeaves : PySem.W.findIn K (.ref (He.ga K "Leaves")) "__or__" = some (some (.ref (He.ma K (He.ga K "Leaves") "__or__"))) := of_decide_eq_true (told_at c 26 5)
  have iorLeaves : PySem.W.isFn K (.ref (He.ma K (He.ga K "Leaves") "__or__")) = true := (told_at c 26 6)
  obtain ⟨fdorLeaves, YorLeaves⟩ := told_fn c 56
  have XorLeaves : Fun K "__or__" "Leaves.__or__" sLOr (He.ma K (He.ga K "Leaves") "__or__") fdorLeaves := fun_of YorLeaves
  have inandLeaves : PySem.W.findIn K (.ref (He.ga K "Leaves")) "__and__" = some (some (.ref (He.ma K (He.ga K "Leaves") "__and__"))) := of_decide_eq_true (told_at c 26 7)
  have iandLeaves : PySem.W.isFn K (.ref (He.ma K (He.ga K "Leaves") "__and__")) = true := (told_at c 26 8)
  obtain ⟨fdandLeaves, YandLeaves⟩ := told_fn c 57
  have XandLeaves : Fun K "__and__" "Leaves.__and__" sLAnd (He.ma K (He.ga K "Leaves") "__and__") fdandLeaves := fun_of YandLeaves
  have inleLeaves : PySem.W.findIn K (.ref (He.ga K "Leaves")) "__le__" = some (some (.ref (He.ma K (He.ga K "Leaves") "__le__"))) := of_decide_eq_true (told_at c 26 9)
  have ileLeaves : PySem.W.isFn K (.ref (He.ma K (He.ga K "Leaves") "__le__")) = true := (told_at c 27 0)
  obtain ⟨fdleLeaves, YleLeaves⟩ := told_fn c 58
  have XleLeaves : Fun K "__le__" "Leaves.__le__" sLLe (He.ma K (He.ga K "Leaves") "__le__") fdleLeaves := fun_of YleLeaves
  have ingeLeaves : PySem.W.findIn K (.ref (He.ga K "Leaves")) "__ge__" = some (some (.ref (He.ma K (He.ga K "Leaves") "__ge__"))) := of_decide_eq_true (told_at c 27 1)
  have igeLeaves : PySem.W.isFn K (.ref (He.ma K (He.ga K "Leaves") "__ge__")) = true := (told_at c 27 2)
  obtain ⟨fdgeLeaves, YgeLeaves⟩ := told_fn c 59
  have XgeLeaves : Fun K "__ge__" "Leaves.__ge__" sLGe (He.ma K (He.ga K "Leaves") "__ge__") fdgeLeaves := fun_of YgeLeaves
  have instrLeaves : PySem.W.findIn K (.ref (He.ga K "Leaves")) "__str__" = some (some (.ref (He.ma K (He.ga K "Leaves") "__str__"))) := of_decide_eq_true (told_at c 27 3)
  have istrLeaves : PySem.W.isFn K (.ref (He.ma K (He.ga K "Leaves") "__str__")) = true := (told_at c 27 4)
  obtain ⟨fdstrLeaves, YstrLeaves⟩ := told_fn c 60
  have XstrLeaves : Fun K "__str__" "Leaves.__str__" sLStr (He.ma K (He.ga K "Leaves") "__str__") fdstrLeaves := fun_of YstrLeaves
  have inlenLeaves : PySem.W.findIn K (.ref (He.ga K "Leaves")) "__len__" = some (some (.ref (He.ma K (He.ga K "Leaves") "__len__"))) := of_decide_eq_true (told_at c 27 5)
  have ilenLeaves : PySem.W.isFn K (.ref (He.ma K (He.ga K "Leaves") "__len__")) = true := (told_at c 27 6)
  obtain ⟨fdlenLeaves, YlenLeaves⟩ := told_fn c 61
  have XlenLeaves : Fun K "__len__" "Leaves.__len__" sLLen (He.ma K (He.ga K "Leaves") "__len__") fdlenLeaves := fun_of YlenLeaves
  obtain ⟨fdpairsLeaves, YpairsLeaves⟩ := told_fn c 62
  have XpairsLeaves : Fun K "pairs" "Leaves.pairs" sLPairs (getterQ K (He.ma K (He.ga K "Leaves") "pairs")) fdpairsLeaves := fun_of YpairsLeaves
  have inletsLeaves : PySem.W.findIn K (.ref (He.ga K "Leaves")) "lets" = some (some (.ref (He.ma K (He.ga K "Leaves") "lets"))) := of_decide_eq_true (told_at c 27 8)
  have iletsLeaves : PySem.W.isFn K (.ref (He.ma K (He.ga K "Leaves") "lets")) = true := (told_at c 27 9)
  obtain ⟨fdletsLeaves, YletsLeaves⟩ := told_fn c 63
  have XletsLeaves : Fun K "lets" "Leaves.lets" sLets (He.ma K (He.ga K "Leaves") "lets") fdletsLeaves := fun_of YletsLeaves
  have inallowLeaves : PySem.W.findIn K (.ref (He.ga K "Leaves")) "allow" = some (some (.ref (He.ma K (He.ga K "Leaves") "allow"))) := of_decide_eq_true (told_at c 28 0)
  have iallowLeaves : PySem.W.isFn K (.ref (He.ma K (He.ga K "Leaves") "allow")) = true := (told_at c 28 1)
  obtain ⟨fdallowLeaves, YallowLeaves⟩ := told_fn c 64
  have XallowLeaves : Fun K "allow" "Leaves.allow" sAllow (He.ma K (He.ga K "Leaves") "allow") fdallowLeaves := fun_of YallowLeaves
  have alawdeal : PySem.W.nsIn K mainGlobals "_law_deal" = some (some (.ref (He.ga K "_law_deal"))) := of_decide_eq_true (told_at c 28 2)
  obtain ⟨fdlawdeal, Ylawdeal⟩ := told_fn c 65
  have Xlawdeal : Fun K "_law_deal" "_law_deal" sDeal (He.ga K "_law_deal") fdlawdeal := fun_of Ylawdeal
  have alawdraw : PySem.W.nsIn K mainGlobals "_law_draw" = some (some (.ref (He.ga K "_law_draw"))) := of_decide_eq_true (told_at c 28 3)
  obtain ⟨fdlawdraw, Ylawdraw⟩ := told_fn c 66
  have Xlawdraw : Fun K "_law_draw" "_law_draw" sDraw (He.ga K "_law_draw") fdlawdraw := fun_of Ylawdraw
  have alawpick : PySem.W.nsIn K mainGlobals "_law_pick" = some (some (.ref (He.ga K "_law_pick"))) := of_decide_eq_true (told_at c 28 4)
  obtain ⟨fdlawpick, Ylawpick⟩ := told_fn c 67
  have Xlawpick : Fun K "_law_pick" "_law_pick" sPick (He.ga K "_law_pick") fdlawpick := fun_of Ylawpick
  have alawpools : PySem.W.nsIn K mainGlobals "_law_pools" = some (some (.ref (He.ga K "_law_pools"))) := of_decide_eq_true (told_at c 28 5)
  obtain ⟨fdlawpools, Ylawpools⟩ := told_fn c 68
  have Xlawpools : Fun K "_law_pools" "_law_pools" sPools (He.ga K "_law_pools") fdlawpools := fun_of Ylawpools
  have alawcounters : PySem.W.nsIn K mainGlobals "_law_counters" = some (some (.ref (He.ga K "_law_counters"))) := of_decide_eq_true (told_at c 28 6)
  obtain ⟨fdlawcounters, Ylawcounters⟩ := told_fn c 69
  have Xlawcounters : Fun K "_law_counters" "_law_counters" sCounters (He.ga K "_law_counters") fdlawcounters := fun_of Ylawcounters
  have alawrow : PySem.W.nsIn K mainGlobals "_law_row" = some (some (.ref (He.ga K "_law_row"))) := of_decide_eq_true (told_at c 28 7)
  obtain ⟨fdlawrow, Ylawrow⟩ := told_fn c 70
  have Xlawrow : Fun K "_law_row" "_law_row" sLRow (He.ga K "_law_row") fdlawrow := fun_of Ylawrow
  have alawunrolled : PySem.W.nsIn K mainGlobals "_law_unrolled" = some (some (.ref (He.ga K "_law_unrolled"))) := of_decide_eq_true (told_at c 28 8)
  obtain ⟨fdlawunrolled, Ylawunrolled⟩ := told_fn c 71
  have Xlawunrolled : Fun K "_law_unrolled" "_law_unrolled" sUnrolled (He.ga K "_law_unrolled") fdlawunrolled := fun_of Ylawunrolled
  have alawbook : PySem.W.nsIn K mainGlobals "_law_book" = some (some (.ref (He.ga K "_law_book"))) := of_decide_eq_true (told_at c 28 9)
  obtain ⟨fdlawbook, Ylawbook⟩ := told_fn c 72
  have Xlawbook : Fun K "_law_book" "_law_book" sBook (He.ga K "_law_book") fdlawbook := fun_of Ylawbook
  have alawmaderow : PySem.W.nsIn K mainGlobals "_law_made_row" = some (some (.ref (He.ga K "_law_made_row"))) := of_decide_eq_true (told_at c 29 0)
  obtain ⟨fdlawmaderow, Ylawmaderow⟩ := told_fn c 73
  have Xlawmaderow : Fun K "_law_made_row" "_law_made_row" sMadeRow (He.ga K "_law_made_row") fdlawmaderow := fun_of Ylawmaderow
  have alawmadebook : PySem.W.nsIn K mainGlobals "_law_made_book" = some (some (.ref (He.ga K "_law_made_book"))) := of_decide_eq_true (told_at c 29 1)
  obtain ⟨fdlawmadebook, Ylawmadebook⟩ := told_fn c 74
  have Xlawmadebook : Fun K "_law_made_book" "_law_made_book" sMadeBook (He.ga K "_law_made_book") fdlawmadebook := fun_of Ylawmadebook
  have alawopens : PySem.W.nsIn K mainGlobals "_law_opens" = some (some (.ref (He.ga K "_law_opens"))) := of_decide_eq_true (told_at c 29 2)
  obtain ⟨fdlawopens, Ylawopens⟩ := told_fn c 75
  have Xlawopens : Fun K "_law_opens" "_law_opens" sOpens (He.ga K "_law_opens") fdlawopens := fun_of Ylawopens
  have alawbare : PySem.W.nsIn K mainGlobals "_law_bare" = some (some (.ref (He.ga K "_law_bare"))) := of_decide_eq_true (told_at c 29 3)
  obtain ⟨fdlawbare, Ylawbare⟩ := told_fn c 76
  have Xlawbare : Fun K "_law_bare" "_law_bare" sBare (He.ga K "_law_bare") fdlawbare := fun_of Ylawbare
  have alawleaves : PySem.W.nsIn K mainGlobals "_law_leaves" = some (some (.ref (He.ga K "_law_leaves"))) := of_decide_eq_true (told_at c 29 4)
  obtain ⟨fdlawleaves, Ylawleaves⟩ := told_fn c 77
  have Xlawleaves : Fun K "_law_leaves" "_law_leaves" sLeaves (He.ga K "_law_leaves") fdlawleaves := fun_of Ylawleaves
  have alawleavesof : PySem.W.nsIn K mainGlobals "_law_leaves_of" = some (some (.ref (He.ga K "_law_leaves_of"))) := of_decide_eq_true (told_at c 29 5)
  obtain ⟨fdlawleavesof, Ylawleavesof⟩ := told_fn c 78
  have Xlawleavesof : Fun K "_law_leaves_of" "_law_leaves_of" sLof (He.ga K "_law_leaves_of") fdlawleavesof := fun_of Ylawleavesof
  have alawfilling : PySem.W.nsIn K mainGlobals "_law_filling" = some (some (.ref (He.ga K "_law_filling"))) := of_decide_eq_true (told_at c 29 6)
  obtain ⟨fdlawfilling, Ylawfilling⟩ := told_fn c 79
  have Xlawfilling : Fun K "_law_filling" "_law_filling" sFilling (He.ga K "_law_filling") fdlawfilling := fun_of Ylawfilling
  have alawfillingof : PySem.W.nsIn K mainGlobals "_law_filling_of" = some (some (.ref (He.ga K "_law_filling_of"))) := of_decide_eq_true (told_at c 29 7)
  obtain ⟨fdlawfillingof, Ylawfillingof⟩ := told_fn c 80
  have Xlawfillingof : Fun K "_law_filling_of" "_law_filling_of" sFillOfD (He.ga K "_law_filling_of") fdlawfillingof := fun_of Ylawfillingof
  have alawitems : PySem.W.nsIn K mainGlobals "_law_items" = some (some (.ref (He.ga K "_law_items"))) := of_decide_eq_true (told_at c 29 8)
  obtain ⟨fdlawitems, Ylawitems⟩ := told_fn c 81
  have Xlawitems : Fun K "_law_items" "_law_items" sItems (He.ga K "_law_items") fdlawitems := fun_of Ylawitems
  have alawrulesright : PySem.W.nsIn K mainGlobals "_law_rules_right" = some (some (.ref (He.ga K "_law_rules_right"))) := of_decide_eq_true (told_at c 29 9)
  obtain ⟨fdlawrulesright, Ylawrulesright⟩ := told_fn c 82
  have Xlawrulesright : Fun K "_law_rules_right" "_law_rules_right" sRight (He.ga K "_law_rules_right") fdlawrulesright := fun_of Ylawrulesright
  have alaw : PySem.W.nsIn K mainGlobals "law" = some (some (.ref (He.ga K "law"))) := of_decide_eq_true (told_at c 30 0)
  obtain ⟨fdlaw, Ylaw⟩ := told_fn c 83
  have Xlaw : Fun K "law" "law" sLaw36 (He.ga K "law") fdlaw := fun_of Ylaw
  have hnGet : PySem.W.specialIn K (.builtin "object.__class__") "__get__" = some (some (.builtin "getset_descriptor.__get__")) := of_decide_eq_true (told_at c 30 1)
  have htGet : PySem.W.takesIn K (.builtin "object.__class__") = some true := of_decide_eq_true (told_at c 30 2)
  have kDNoneType : PySem.W.kitOne K (.type "NoneType") (.ref (He.ga K "Row")) = some false := of_decide_eq_true (told_at c 30 3)
  have kDbool : PySem.W.kitOne K (.type "bool") (.ref (He.ga K "Row")) = some false := of_decide_eq_true (told_at c 30 4)
  have kDint : PySem.W.kitOne K (.type "int") (.ref (He.ga K "Row")) = some false := of_decide_eq_true (told_at c 30 5)
  have kDstr : PySem.W.kitOne K (.type "str") (.ref (He.ga K "Row")) = some false := of_decide_eq_true (told_at c 30 6)
  have kDlist : PySem.W.kitOne K (.type "list") (.ref (He.ga K "Row")) = some false := of_decide_eq_true (told_at c 30 7)
  have kDtuple : PySem.W.kitOne K (.type "tuple") (.ref (He.ga K "Row")) = some false := of_decide_eq_true (told_at c 30 8)
  have kDdict : PySem.W.kitOne K (.type "dict") (.ref (He.ga K "Row")) = some false := of_decide_eq_true (told_at c 30 9)
  have kRNote : PySem.W.kitOne K (.ref (He.ga K "Note")) (.ref (He.ga K "Row")) = some true := of_decide_eq_true (told_at c 31 0)
  have cANote : PySem.W.findIn K (.ref (He.ga K "Note")) "__class__" = some (some (.builtin "object.__class__")) := of_decide_eq_true (told_at c 31 1)
  have cMNote : PySem.W.mroIn K (He.ga K "Note") (.type "object") = some true := of_decide_eq_true (told_at c 31 2)
  have kRSkip : PySem.W.kitOne K (.ref (He.ga K "Skip")) (.ref (He.ga K "Row")) = some true := of_decide_eq_true (told_at c 31 3)
  have cASkip : PySem.W.findIn K (.ref (He.ga K "Skip")) "__class__" = some (some (.builtin "object.__class__")) := of_decide_eq_true (told_at c 31 4)
  have cMSkip : PySem.W.mroIn K (He.ga K "Skip") (.type "object") = some true := of_decide_eq_true (told_at c 31 5)
  have kRSet : PySem.W.kitOne K (.ref (He.ga K "Set")) (.ref (He.ga K "Row")) = some true := of_decide_eq_true (told_at c 31 6)
  have cASet : PySem.W.findIn K (.ref (He.ga K "Set")) "__class__" = some (some (.builtin "object.__class__")) := of_decide_eq_true (told_at c 31 7)
  have cMSet : PySem.W.mroIn K (He.ga K "Set") (.type "object") = some true := of_decide_eq_true (told_at c 31 8)
  have kRKeep : PySem.W.kitOne K (.ref (He.ga K "Keep")) (.ref (He.ga K "Row")) = some true := of_decide_eq_true (told_at c 31 9)
  have cAKeep : PySem.W.findIn K (.ref (He.ga K "Keep")) "__class__" = some (some (.builtin "object.__class__")) := of_decide_eq_true (told_at c 32 0)
  have cMKeep : PySem.W.mroIn K (He.ga K "Keep") (.type "object") = some true := of_decide_eq_true (told_at c 32 1)
  have kRBack : PySem.W.kitOne K (.ref (He.ga K "Back")) (.ref (He.ga K "Row")) = some true := of_decide_eq_true (told_at c 32 2)
  have cABack : PySem.W.findIn K (.ref (He.ga K "Back")) "__class__" = some (some (.builtin "object.__class__")) := of_decide_eq_true (told_at c 32 3)
  have cMBack : PySem.W.mroIn K (He.ga K "Back") (.type "object") = some true := of_decide_eq_true (told_at c 32 4)
  have kRRef : PySem.W.kitOne K (.ref (He.ga K "Ref")) (.ref (He.ga K "Row")) = some true := of_decide_eq_true (told_at c 32 5)
  have cARef : PySem.W.findIn K (.ref (He.ga K "Ref")) "__class__" = some (some (.builtin "object.__class__")) := of_decide_eq_true (told_at c 32 6)
  have cMRef : PySem.W.mroIn K (He.ga K "Ref") (.type "object") = some true := of_decide_eq_true (told_at c 32 7)
  have kRPut : PySem.W.kitOne K (.ref (He.ga K "Put")) (.ref (He.ga K "Row")) = some true := of_decide_eq_true (told_at c 32 8)
  have cAPut : PySem.W.findIn K (.ref (He.ga K "Put")) "__class__" = some (some (.builtin "object.__class__")) := of_decide_eq_true (told_at c 32 9)
  have cMPut : PySem.W.mroIn K (He.ga K "Put") (.type "object") = some true := of_decide_eq_true (told_at c 33 0)
  have kROpen : PySem.W.kitOne K (.ref (He.ga K "Open")) (.ref (He.ga K "Row")) = some true := of_decide_eq_true (told_at c 33 1)
  have cAOpen : PySem.W.findIn K (.ref (He.ga K "Open")) "__class__" = some (some (.builtin "object.__class__")) := of_decide_eq_true (told_at c 33 2)
  have cMOpen : PySem.W.mroIn K (He.ga K "Open") (.type "object") = some true := of_decide_eq_true (told_at c 33 3)
  have pAPart : PySem.W.findIn K (.ref (He.ga K "Part")) "__class__" = some (some (.builtin "object.__class__")) := of_decide_eq_true (told_at c 33 4)
  have pMPart : PySem.W.mroIn K (He.ga K "Part") (.type "object") = some true := of_decide_eq_true (told_at c 33 5)
  have nePart : PySem.W.findIn K (.ref (He.ga K "Part")) "__ne__" = some (some (.builtin "object.__ne__")) := of_decide_eq_true (told_at c 33 6)
  have kCPart : PySem.W.kitOne K (.ref (He.ga K "Part")) (.ref (He.ga K "Part")) = some true := of_decide_eq_true (told_at c 33 7)
  have kSPart : PySem.W.kitOne K (.type "str") (.ref (He.ga K "Part")) = some false := of_decide_eq_true (told_at c 33 8)
  have nCPart : PySem.W.notFirst K (He.ga K "Part") (.ref (He.ga K "Part")) = true := (told_at c 33 9)
  have nSPart : PySem.W.notFirst K (He.ga K "Part") (.type "str") = true := (told_at c 34 0)
  have kfNote : PySem.W.kitAny K (.ref (He.ga K "Note")) [.ref (He.ga K "Skip"), .ref (He.ga K "Set")] = some false := of_decide_eq_true (told_at c 34 1)
  have ksNote : PySem.W.kitAny K (.ref (He.ga K "Note")) [.type "list", .type "tuple"] = some false := of_decide_eq_true (told_at c 34 2)
  have kfSkip : PySem.W.kitAny K (.ref (He.ga K "Skip")) [.ref (He.ga K "Skip"), .ref (He.ga K "Set")] = some true := of_decide_eq_true (told_at c 34 3)
  have ksSkip : PySem.W.kitAny K (.ref (He.ga K "Skip")) [.type "list", .type "tuple"] = some false := of_decide_eq_true (told_at c 34 4)
  have kfSet : PySem.W.kitAny K (.ref (He.ga K "Set")) [.ref (He.ga K "Skip"), .ref (He.ga K "Set")] = some true := of_decide_eq_true (told_at c 34 5)
  have ksSet : PySem.W.kitAny K (.ref (He.ga K "Set")) [.type "list", .type "tuple"] = some false := of_decide_eq_true (told_at c 34 6)
  have kfKeep : PySem.W.kitAny K (.ref (He.ga K "Keep")) [.ref (He.ga K "Skip"), .ref (He.ga K "Set")] = some false := of_decide_eq_true (told_at c 34 7)
  have ksKeep : PySem.W.kitAny K (.ref (He.ga K "Keep")) [.type "list", .type "tuple"] = some false := of_decide_eq_true (told_at c 34 8)
  have kfBack : PySem.W.kitAny K (.ref (He.ga K "Back")) [.ref (He.ga K "Skip"), .ref (He.ga K "Set")] = some false := of_decide_eq_true (told_at c 34 9)
  have ksBack : PySem.W.kitAny K (.ref (He.ga K "Back")) [.type "list", .type "tuple"] = some false := of_decide_eq_true (told_at c 35 0)
  have kfRef : PySem.W.kitAny K (.ref (He.ga K "Ref")) [.ref (He.ga K "Skip"), .ref (He.ga K "Set")] = some false := of_decide_eq_true (told_at c 35 1)
  have ksRef : PySem.W.kitAny K (.ref (He.ga K "Ref")) [.type "list", .type "tuple"] = some false := of_decide_eq_true (told_at c 35 2)
  have kfPut : PySem.W.kitAny K (.ref (He.ga K "Put")) [.ref (He.ga K "Skip"), .ref (He.ga K "Set")] = some false := of_decide_eq_true (told_at c 35 3)
  have ksPut : PySem.W.kitAny K (.ref (He.ga K "Put")) [.type "list", .type "tuple"] = some false := of_decide_eq_true (told_at c 35 4)
  have kfOpen : PySem.W.kitAny K (.ref (He.ga K "Open")) [.ref (He.ga K "Skip"), .ref (He.ga K "Set")] = some false := of_decide_eq_true (told_at c 35 5)
  have ksOpen : PySem.W.kitAny K (.ref (He.ga K "Open")) [.type "list", .type "tuple"] = some false := of_decide_eq_true (told_at c 35 6)
  have kdNoneType : PySem.W.kitAny K (.type "NoneType") [.ref (He.ga K "Skip"), .ref (He.ga K "Set")] = some false := of_decide_eq_true (told_at c 35 7)
  have kdbool : PySem.W.kitAny K (.type "bool") [.ref (He.ga K "Skip"), .ref (He.ga K "Set")] = some false := of_decide_eq_true (told_at c 35 8)
  have kdint : PySem.W.kitAny K (.type "int") [.ref (He.ga K "Skip"), .ref (He.ga K "Set")] = some false := of_decide_eq_true (told_at c 35 9)
  have kdstr : PySem.W.kitAny K (.type "str") [.ref (He.ga K "Skip"), .ref (He.ga K "Set")] = some false := of_decide_eq_true (told_at c 36 0)
  have kdlist : PySem.W.kitAny K (.type "list") [.ref (He.ga K "Skip"), .ref (He.ga K "Set")] = some false := of_decide_eq_true (told_at c 36 1)
  have kdtuple : PySem.W.kitAny K (.type "tuple") [.ref (He.ga K "Skip"), .ref (He.ga K "Set")] = some false := of_decide_eq_true (told_at c 36 2)
  have kddict : PySem.W.kitAny K (.type "dict") [.ref (He.ga K "Skip"), .ref (He.ga K "Set")] = some false := of_decide_eq_true (told_at c 36 3)
  have cAF : PySem.W.findIn K (.ref (He.ga K "Filling")) "__class__" = some (some (.builtin "object.__class__")) := of_decide_eq_true (told_at c 36 4)
  have cMF : PySem.W.mroIn K (He.ga K "Filling") (.type "object") = some true := of_decide_eq_true (told_at c 36 5)
  have kCF : PySem.W.kitOne K (.ref (He.ga K "Filling")) (.ref (He.ga K "Filling")) = some true := of_decide_eq_true (told_at c 36 6)
  have kFNoneType : PySem.W.kitOne K (.type "NoneType") (.ref (He.ga K "Filling")) = some false := of_decide_eq_true (told_at c 36 7)
  have kFbool : PySem.W.kitOne K (.type "bool") (.ref (He.ga K "Filling")) = some false := of_decide_eq_true (told_at c 36 8)
  have kFint : PySem.W.kitOne K (.type "int") (.ref (He.ga K "Filling")) = some false := of_decide_eq_true (told_at c 36 9)
  have kFstr : PySem.W.kitOne K (.type "str") (.ref (He.ga K "Filling")) = some false := of_decide_eq_true (told_at c 37 0)
  have kFlist : PySem.W.kitOne K (.type "list") (.ref (He.ga K "Filling")) = some false := of_decide_eq_true (told_at c 37 1)
  have kFtuple : PySem.W.kitOne K (.type "tuple") (.ref (He.ga K "Filling")) = some false := of_decide_eq_true (told_at c 37 2)
  have kFdict : PySem.W.kitOne K (.type "dict") (.ref (He.ga K "Filling")) = some false := of_decide_eq_true (told_at c 37 3)
  have sfLeaves : PySem.W.selfFirst K (He.ga K "Leaves") = true := (told_at c 37 4)
  have kCLeaves : PySem.W.kitOne K (.ref (He.ga K "Leaves")) (.ref (He.ga K "Leaves")) = some true := of_decide_eq_true (told_at c 37 5)
  have nCLeaves : PySem.W.notFirst K (He.ga K "Leaves") (.ref (He.ga K "Leaves")) = true := (told_at c 37 6)
  have cALeaves : PySem.W.findIn K (.ref (He.ga K "Leaves")) "__class__" = some (some (.builtin "object.__class__")) := of_decide_eq_true (told_at c 37 7)
  have cMLeaves : PySem.W.mroIn K (He.ga K "Leaves") (.type "object") = some true := of_decide_eq_true (told_at c 37 8)
  have neLeaves : PySem.W.findIn K (.ref (He.ga K "Leaves")) "__ne__" = some (some (.builtin "object.__ne__")) := of_decide_eq_true (told_at c 37 9)
  have hnGet : PySem.W.specialIn K (.builtin "object.__class__") "__get__" = some (some (.builtin "getset_descriptor.__get__")) := of_decide_eq_true (told_at c 38 0)
  have htGet : PySem.W.takesIn K (.builtin "object.__class__") = some true := of_decide_eq_true (told_at c 38 1)
  have mqLeaves : mroQ K (He.ga K "Leaves") = true := (told_at c 38 2)
  have i0 : PySem.W.findIn K (.ref (He.ga K "Leaves")) "__ior__" = some none := of_decide_eq_true (told_at c 38 3)
  have i1 : PySem.W.findIn K (.type "object") "__ior__" = some none := of_decide_eq_true (told_at c 38 4)
  have i2 : PySem.W.findIn K (.ref (He.ga K "Leaves")) "__iand__" = some none := of_decide_eq_true (told_at c 38 5)
  have i3 : PySem.W.findIn K (.type "object") "__iand__" = some none := of_decide_eq_true (told_at c 38 6)
  have e := hfa.symm.trans (PySem.W.mg_of X G alaw)
  cases e
  have Mint : mg "int" = none := PySem.W.mg_none_of X G zint
  have Mbool : mg "bool" = none := PySem.W.mg_none_of X G zbool
  have Mstr : mg "str" = none := PySem.W.mg_none_of X G zstr
  have Misinstance : mg "isinstance" = none := PySem.W.mg_none_of X G zisinstance
  have Mlen : mg "len" = none := PySem.W.mg_none_of X G zlen
  have Mall : mg "all" = none := PySem.W.mg_none_of X G zall
  have Mabs : mg "abs" = none := PySem.W.mg_none_of X G zabs
  have Mrange : mg "range" = none := PySem.W.mg_none_of X G zrange
  have Mlist : mg "list" = none := PySem.W.mg_none_of X G zlist
  have Mtuple : mg "tuple" = none := PySem.W.mg_none_of X G ztuple
  have Mset : mg "set" = none := PySem.W.mg_none_of X G zset
  have Mreversed : mg "reversed" = none := PySem.W.mg_none_of X G zreversed
  have Msorted : mg "sorted" = none := PySem.W.mg_none_of X G zsorted
  have Mdict : mg "dict" = none := PySem.W.mg_none_of X G zdict
  have Menumerate : mg "enumerate" = none := PySem.W.mg_none_of X G zenumerate
  let Disinteger : At K mg "is_integer" sIsInteger ["value"] := ⟨(He.ga K "is_integer"), _, Xisinteger, Xisinteger.binds (ps := ["value"]) fun _ _ _ _ _ _ us hl => match us, hl with | [_], _ => rfl, PySem.W.mg_of X G aisinteger⟩
  let Disnumber : At K mg "is_number" sIsNumber ["value"] := ⟨(He.ga K "is_number"), _, Xisnumber, Xisnumber.binds (ps := ["value"]) fun _ _ _ _ _ _ us hl => match us, hl with | [_], _ => rfl, PySem.W.mg_of X G aisnumber⟩
  let Disname : At K mg "is_name" sIsName ["value"] := ⟨(He.ga K "is_name"), _, Xisname, Xisname.binds (ps := ["value"]) fun _ _ _ _ _ _ us hl => match us, hl with | [_], _ => rfl, PySem.W.mg_of X G aisname⟩
  have OInvalidRow : OexC K (He.ga K "InvalidRow") := ⟨xInvalidRow, saInvalidRow, eCInvalidRow, tCInvalidRow, kcInvalidRow⟩
  let EInvalidRow : TExc K mg "InvalidRow" "InvalidRow.__init__" "word" sIRInit := { C := (He.ga K "InvalidRow"), fI := (He.ma K (He.ga K "InvalidRow") "__init__"), fd := _, F := XInvalidRow, b := XInvalidRow.binds (ps := ["self", "word"]) fun _ _ _ _ _ _ us hl => match us, hl with | [_, _], _ => rfl, m := PySem.W.mg_of X G aInvalidRow, O := OInvalidRow, iC := inInvalidRow, tI := tiInvalidRow, noF := nfInvalidRow, E := ⟨gaInvalidRow, ggInvalidRow, eCInvalidRow, hCInvalidRow, haInvalidRow, hnGet, htGet, hmInvalidRow⟩, isC := iCInvalidRow, te := PySem.W.exm_ref eCInvalidRow hCInvalidRow tCInvalidRow sCInvalidRow, xf := ⟨gaInvalidRow, ggInvalidRow, eCInvalidRow, hCInvalidRow⟩ }
  let Dneedname : At K mg "need_name" sNeedName ["value", "word"] := ⟨(He.ga K "need_name"), _, Xneedname, Xneedname.binds (ps := ["value", "word"]) fun _ _ _ _ _ _ us hl => match us, hl with | [_, _], _ => rfl, PySem.W.mg_of X G aneedname⟩
  let MSNote : TStr K (He.ga K "Note") "Note.__str__" sNoteStr := ⟨(He.ma K (He.ga K "Note") "__str__"), _, XSNote, XSNote.binds (ps := ["self"]) fun _ _ _ _ _ _ us hl => match us, hl with | [_], _ => rfl, inSNote, iSNote⟩
  let MSSkip : TStr K (He.ga K "Skip") "Skip.__str__" sSkipStr := ⟨(He.ma K (He.ga K "Skip") "__str__"), _, XSSkip, XSSkip.binds (ps := ["self"]) fun _ _ _ _ _ _ us hl => match us, hl with | [_], _ => rfl, inSSkip, iSSkip⟩
  let MSSet : TStr K (He.ga K "Set") "Set.__str__" sSetStr := ⟨(He.ma K (He.ga K "Set") "__str__"), _, XSSet, XSSet.binds (ps := ["self"]) fun _ _ _ _ _ _ us hl => match us, hl with | [_], _ => rfl, inSSet, iSSet⟩
  let MSKeep : TStr K (He.ga K "Keep") "Keep.__str__" sKeepStr := ⟨(He.ma K (He.ga K "Keep") "__str__"), _, XSKeep, XSKeep.binds (ps := ["self"]) fun _ _ _ _ _ _ us hl => match us, hl with | [_], _ => rfl, inSKeep, iSKeep⟩
  let MSBack : TStr K (He.ga K "Back") "Back.__str__" sBackStr := ⟨(He.ma K (He.ga K "Back") "__str__"), _, XSBack, XSBack.binds (ps := ["self"]) fun _ _ _ _ _ _ us hl => match us, hl with | [_], _ => rfl, inSBack, iSBack⟩
  let MSRef : TStr K (He.ga K "Ref") "Ref.__str__" sRefStr := ⟨(He.ma K (He.ga K "Ref") "__str__"), _, XSRef, XSRef.binds (ps := ["self"]) fun _ _ _ _ _ _ us hl => match us, hl with | [_], _ => rfl, inSRef, iSRef⟩
  let MSPut : TStr K (He.ga K "Put") "Put.__str__" sPutStr := ⟨(He.ma K (He.ga K "Put") "__str__"), _, XSPut, XSPut.binds (ps := ["self"]) fun _ _ _ _ _ _ us hl => match us, hl with | [_], _ => rfl, inSPut, iSPut⟩
  let MSOpen : TStr K (He.ga K "Open") "Open.__str__" sOpenStr := ⟨(He.ma K (He.ga K "Open") "__str__"), _, XSOpen, XSOpen.binds (ps := ["self"]) fun _ _ _ _ _ _ us hl => match us, hl with | [_], _ => rfl, inSOpen, iSOpen⟩
  let Dissequence : At K mg "is_sequence" sIsSeq ["value"] := ⟨(He.ga K "is_sequence"), _, Xissequence, Xissequence.binds (ps := ["value"]) fun _ _ _ _ _ _ us hl => match us, hl with | [_], _ => rfl, PySem.W.mg_of X G aissequence⟩
  have OInvalidPart : OexC K (He.ga K "InvalidPart") := ⟨xInvalidPart, saInvalidPart, eCInvalidPart, tCInvalidPart, kcInvalidPart⟩
  let EInvalidPart : TExc K mg "InvalidPart" "InvalidPart.__init__" "word" sIPInit := { C := (He.ga K "InvalidPart"), fI := (He.ma K (He.ga K "InvalidPart") "__init__"), fd := _, F := XInvalidPart, b := XInvalidPart.binds (ps := ["self", "word"]) fun _ _ _ _ _ _ us hl => match us, hl with | [_, _], _ => rfl, m := PySem.W.mg_of X G aInvalidPart, O := OInvalidPart, iC := inInvalidPart, tI := tiInvalidPart, noF := nfInvalidPart, E := ⟨gaInvalidPart, ggInvalidPart, eCInvalidPart, hCInvalidPart, haInvalidPart, hnGet, htGet, hmInvalidPart⟩, isC := iCInvalidPart, te := PySem.W.exm_ref eCInvalidPart hCInvalidPart tCInvalidPart sCInvalidPart, xf := ⟨gaInvalidPart, ggInvalidPart, eCInvalidPart, hCInvalidPart⟩ }
  obtain ⟨dsPart0, vPart0, bPart0⟩ := FPart.binds1 (ps := ["self", "name", "rows"]) 2 0 (by simp) rfl fun _ _ _ _ _ _ _ us its hl hi => match us, its, hl, hi with | [_, _], [_], _, _ => ⟨_, rfl, rfl⟩
  obtain ⟨dsPart1, vPart1, bPart1⟩ := FPart.binds1 (ps := ["self", "name", "rows"]) 3 1 (by simp) rfl fun _ _ _ _ _ _ _ us its hl hi => match us, its, hl, hi with | [_, _, _], [_], _, _ => ⟨_, rfl, rfl⟩
  have ePart : dsPart1 = [] := by cases vPart1; rfl
  subst ePart
  let MstrPart : TMeth K (He.ga K "Part") "__str__" "Part.__str__" sPartStr ["self"] := ⟨(He.ma K (He.ga K "Part") "__str__"), _, XstrPart, XstrPart.binds (ps := ["self"]) fun _ _ _ _ _ _ us hl => match us, hl with | [_], _ => rfl, instrPart, istrPart⟩
  let MeqPart : TMeth K (He.ga K "Part") "__eq__" "Part.__eq__" sPartEq ["self", "other"] := ⟨(He.ma K (He.ga K "Part") "__eq__"), _, XeqPart, XeqPart.binds (ps := ["self", "other"]) fun _ _ _ _ _ _ us hl => match us, hl with | [_, _], _ => rfl, ineqPart, ieqPart⟩
  let Dispair : At K mg "is_pair" sIsPair ["value"] := ⟨(He.ga K "is_pair"), _, Xispair, Xispair.binds (ps := ["value"]) fun _ _ _ _ _ _ us hl => match us, hl with | [_], _ => rfl, PySem.W.mg_of X G aispair⟩
  let Darecounters : At K mg "are_counters" sAreC ["counters"] := ⟨(He.ga K "are_counters"), _, Xarecounters, Xarecounters.binds (ps := ["counters"]) fun _ _ _ _ _ _ us hl => match us, hl with | [_], _ => rfl, PySem.W.mg_of X G aarecounters⟩
  let Dareparts : At K mg "are_parts" sAreP ["parts"] := ⟨(He.ga K "are_parts"), _, Xareparts, Xareparts.binds (ps := ["parts"]) fun _ _ _ _ _ _ us hl => match us, hl with | [_], _ => rfl, PySem.W.mg_of X G aareparts⟩
  let Dcountersareknown : At K mg "counters_are_known" sCKnown ["counters", "parts"] := ⟨(He.ga K "counters_are_known"), _, Xcountersareknown, Xcountersareknown.binds (ps := ["counters", "parts"]) fun _ _ _ _ _ _ us hl => match us, hl with | [_, _], _ => rfl, PySem.W.mg_of X G acountersareknown⟩
  let Dnamesput : At K mg "names_put" sNPut ["part"] := ⟨(He.ga K "names_put"), _, Xnamesput, Xnamesput.binds (ps := ["part"]) fun _ _ _ _ _ _ us hl => match us, hl with | [_], _ => rfl, PySem.W.mg_of X G anamesput⟩
  let Dputsareearlier : At K mg "puts_are_earlier" sPEarly ["parts"] := ⟨(He.ga K "puts_are_earlier"), _, Xputsareearlier, Xputsareearlier.binds (ps := ["parts"]) fun _ _ _ _ _ _ us hl => match us, hl with | [_], _ => rfl, PySem.W.mg_of X G aputsareearlier⟩
  let Dnamesreached : At K mg "names_reached" sNReach ["parts"] := ⟨(He.ga K "names_reached"), _, Xnamesreached, Xnamesreached.binds (ps := ["parts"]) fun _ _ _ _ _ _ us hl => match us, hl with | [_], _ => rfl, PySem.W.mg_of X G anamesreached⟩
  let Dunroll : At K mg "unroll" sUnr1 ["part", "flat"] := ⟨(He.ga K "unroll"), _, Xunroll, Xunroll.binds (ps := ["part", "flat"]) fun _ _ _ _ _ _ us hl => match us, hl with | [_, _], _ => rfl, PySem.W.mg_of X G aunroll⟩
  let Dunrolledtext : At K mg "unrolled_text" sUText ["parts"] := ⟨(He.ga K "unrolled_text"), _, Xunrolledtext, Xunrolledtext.binds (ps := ["parts"]) fun _ _ _ _ _ _ us hl => match us, hl with | [_], _ => rfl, PySem.W.mg_of X G aunrolledtext⟩
  let Drefsareknown : At K mg "refs_are_known" sRefsK ["rows"] := ⟨(He.ga K "refs_are_known"), _, Xrefsareknown, Xrefsareknown.binds (ps := ["rows"]) fun _ _ _ _ _ _ us hl => match us, hl with | [_], _ => rfl, PySem.W.mg_of X G arefsareknown⟩
  let MnamesBook : TPr K (He.ga K "Book") "names" "Book.names" sBNames := ⟨(He.ma K (He.ga K "Book") "names"), (getterQ K (He.ma K (He.ga K "Book") "names")), _, XnamesBook, XnamesBook.binds (ps := ["self"]) fun _ _ _ _ _ _ us hl => match us, hl with | [_], _ => rfl, propQ_ok (told_at c 20 4)⟩
  let MtopsBook : TPr K (He.ga K "Book") "tops" "Book.tops" sBTops := ⟨(He.ma K (He.ga K "Book") "tops"), (getterQ K (He.ma K (He.ga K "Book") "tops")), _, XtopsBook, XtopsBook.binds (ps := ["self"]) fun _ _ _ _ _ _ us hl => match us, hl with | [_], _ => rfl, propQ_ok (told_at c 20 5)⟩
  let MunrolledBook : TPr K (He.ga K "Book") "unrolled" "Book.unrolled" sBUnr := ⟨(He.ma K (He.ga K "Book") "unrolled"), (getterQ K (He.ma K (He.ga K "Book") "unrolled")), _, XunrolledBook, XunrolledBook.binds (ps := ["self"]) fun _ _ _ _ _ _ us hl => match us, hl with | [_], _ => rfl, propQ_ok (told_at c 20 6)⟩
  let MchainBook : TMeth K (He.ga K "Book") "chain" "Book.chain" sBChain ["self", "name"] := ⟨(He.ma K (He.ga K "Book") "chain"), _, XchainBook, XchainBook.binds (ps := ["self", "name"]) fun _ _ _ _ _ _ us hl => match us, hl with | [_, _], _ => rfl, inchainBook, ichainBook⟩
  have OInvalidFilling : OexC K (He.ga K "InvalidFilling") := ⟨xInvalidFilling, saInvalidFilling, eCInvalidFilling, tCInvalidFilling, kcInvalidFilling⟩
  let EInvalidFilling : TExc K mg "InvalidFilling" "InvalidFilling.__init__" "word" sIFInit := { C := (He.ga K "InvalidFilling"), fI := (He.ma K (He.ga K "InvalidFilling") "__init__"), fd := _, F := XInvalidFilling, b := XInvalidFilling.binds (ps := ["self", "word"]) fun _ _ _ _ _ _ us hl => match us, hl with | [_, _], _ => rfl, m := PySem.W.mg_of X G aInvalidFilling, O := OInvalidFilling, iC := inInvalidFilling, tI := tiInvalidFilling, noF := nfInvalidFilling, E := ⟨gaInvalidFilling, ggInvalidFilling, eCInvalidFilling, hCInvalidFilling, haInvalidFilling, hnGet, htGet, hmInvalidFilling⟩, isC := iCInvalidFilling, te := PySem.W.exm_ref eCInvalidFilling hCInvalidFilling tCInvalidFilling sCInvalidFilling, xf := ⟨gaInvalidFilling, ggInvalidFilling, eCInvalidFilling, hCInvalidFilling⟩ }
  obtain ⟨dsFilling0, vFilling0, bFilling0⟩ := FFilling.binds1 (ps := ["self", "parts"]) 1 0 (by simp) rfl fun _ _ _ _ _ _ _ us its hl hi => match us, its, hl, hi with | [_], [_], _, _ => ⟨_, rfl, rfl⟩
  obtain ⟨dsFilling1, vFilling1, bFilling1⟩ := FFilling.binds1 (ps := ["self", "parts"]) 2 1 (by simp) rfl fun _ _ _ _ _ _ _ us its hl hi => match us, its, hl, hi with | [_, _], [_], _, _ => ⟨_, rfl, rfl⟩
  have eFilling : dsFilling1 = [] := by cases vFilling1; rfl
  subst eFilling
  let Mrows_forFilling : TMeth K (He.ga K "Filling") "rows_for" "Filling.rows_for" sFRows ["self", "name"] := ⟨(He.ma K (He.ga K "Filling") "rows_for"), _, Xrows_forFilling, Xrows_forFilling.binds (ps := ["self", "name"]) fun _ _ _ _ _ _ us hl => match us, hl with | [_, _], _ => rfl, inrows_forFilling, irows_forFilling⟩
  let MstrFilling : TMeth K (He.ga K "Filling") "__str__" "Filling.__str__" sFStr ["self"] := ⟨(He.ma K (He.ga K "Filling") "__str__"), _, XstrFilling, XstrFilling.binds (ps := ["self"]) fun _ _ _ _ _ _ us hl => match us, hl with | [_], _ => rfl, instrFilling, istrFilling⟩
  let MeqFilling : TMeth K (He.ga K "Filling") "__eq__" "Filling.__eq__" sFEq ["self", "other"] := ⟨(He.ma K (He.ga K "Filling") "__eq__"), _, XeqFilling, XeqFilling.binds (ps := ["self", "other"]) fun _ _ _ _ _ _ us hl => match us, hl with | [_, _], _ => rfl, ineqFilling, ieqFilling⟩
  let MnamesFilling : TPr K (He.ga K "Filling") "names" "Filling.names" sFNames := ⟨(He.ma K (He.ga K "Filling") "names"), (getterQ K (He.ma K (He.ga K "Filling") "names")), _, XnamesFilling, XnamesFilling.binds (ps := ["self"]) fun _ _ _ _ _ _ us hl => match us, hl with | [_], _ => rfl, propQ_ok (told_at c 24 2)⟩
  let Darefillable : At K mg "are_fillable" sAreFill ["rows"] := ⟨(He.ga K "are_fillable"), _, Xarefillable, Xarefillable.binds (ps := ["rows"]) fun _ _ _ _ _ _ us hl => match us, hl with | [_], _ => rfl, PySem.W.mg_of X G aarefillable⟩
  let Disfilled : At K mg "is_filled" sIsFilled ["value"] := ⟨(He.ga K "is_filled"), _, Xisfilled, Xisfilled.binds (ps := ["value"]) fun _ _ _ _ _ _ us hl => match us, hl with | [_], _ => rfl, PySem.W.mg_of X G aisfilled⟩
  let Dfilledtext : At K mg "filled_text" sFText ["name", "rows"] := ⟨(He.ga K "filled_text"), _, Xfilledtext, Xfilledtext.binds (ps := ["name", "rows"]) fun _ _ _ _ _ _ us hl => match us, hl with | [_, _], _ => rfl, PySem.W.mg_of X G afilledtext⟩
  let Distriple : At K mg "is_triple" sIsTri ["value"] := ⟨(He.ga K "is_triple"), _, Xistriple, Xistriple.binds (ps := ["value"]) fun _ _ _ _ _ _ us hl => match us, hl with | [_], _ => rfl, PySem.W.mg_of X G aistriple⟩
  let Dneedtriples : At K mg "need_triples" sNeedT ["items"] := ⟨(He.ga K "need_triples"), _, Xneedtriples, Xneedtriples.binds (ps := ["items"]) fun _ _ _ _ _ _ us hl => match us, hl with | [_], _ => rfl, PySem.W.mg_of X G aneedtriples⟩
  let Drightsof : At K mg "rights_of" sRights ["triples"] := ⟨(He.ga K "rights_of"), _, Xrightsof, Xrightsof.binds (ps := ["triples"]) fun _ _ _ _ _ _ us hl => match us, hl with | [_], _ => rfl, PySem.W.mg_of X G arightsof⟩
  obtain ⟨dsLeaves0, vLeaves0, bLeaves0⟩ := FLeaves.binds1 (ps := ["self", "items"]) 1 0 (by simp) rfl fun _ _ _ _ _ _ _ us its hl hi => match us, its, hl, hi with | [_], [_], _, _ => ⟨_, rfl, rfl⟩
  obtain ⟨dsLeaves1, vLeaves1, bLeaves1⟩ := FLeaves.binds1 (ps := ["self", "items"]) 2 1 (by simp) rfl fun _ _ _ _ _ _ _ us its hl hi => match us, its, hl, hi with | [_, _], [_], _, _ => ⟨_, rfl, rfl⟩
  have eLeaves : dsLeaves1 = [] := by cases vLeaves1; rfl
  subst eLeaves
  let Dneedleaves : At K mg "need_leaves" sNeedL ["value"] := ⟨(He.ga K "need_leaves"), _, Xneedleaves, Xneedleaves.binds (ps := ["value"]) fun _ _ _ _ _ _ us hl => match us, hl with | [_], _ => rfl, PySem.W.mg_of X G aneedleaves⟩
  let MeqLeaves : TMeth K (He.ga K "Leaves") "__eq__" "Leaves.__eq__" sLEq ["self", "other"] := ⟨(He.ma K (He.ga K "Leaves") "__eq__"), _, XeqLeaves, XeqLeaves.binds (ps := ["self", "other"]) fun _ _ _ _ _ _ us hl => match us, hl with | [_, _], _ => rfl, ineqLeaves, ieqLeaves⟩
  let MorLeaves : TMeth K (He.ga K "Leaves") "__or__" "Leaves.__or__" sLOr ["self", "other"] := ⟨(He.ma K (He.ga K "Leaves") "__or__"), _, XorLeaves, XorLeaves.binds (ps := ["self", "other"]) fun _ _ _ _ _ _ us hl => match us, hl with | [_, _], _ => rfl, inorLeaves, iorLeaves⟩
  let MandLeaves : TMeth K (He.ga K "Leaves") "__and__" "Leaves.__and__" sLAnd ["self", "other"] := ⟨(He.ma K (He.ga K "Leaves") "__and__"), _, XandLeaves, XandLeaves.binds (ps := ["self", "other"]) fun _ _ _ _ _ _ us hl => match us, hl with | [_, _], _ => rfl, inandLeaves, iandLeaves⟩
  let MleLeaves : TMeth K (He.ga K "Leaves") "__le__" "Leaves.__le__" sLLe ["self", "other"] := ⟨(He.ma K (He.ga K "Leaves") "__le__"), _, XleLeaves, XleLeaves.binds (ps := ["self", "other"]) fun _ _ _ _ _ _ us hl => match us, hl with | [_, _], _ => rfl, inleLeaves, ileLeaves⟩
  let MgeLeaves : TMeth K (He.ga K "Leaves") "__ge__" "Leaves.__ge__" sLGe ["self", "other"] := ⟨(He.ma K (He.ga K "Leaves") "__ge__"), _, XgeLeaves, XgeLeaves.binds (ps := ["self", "other"]) fun _ _ _ _ _ _ us hl => match us, hl with | [_, _], _ => rfl, ingeLeaves, igeLeaves⟩
  let MstrLeaves : TMeth K (He.ga K "Leaves") "__str__" "Leaves.__str__" sLStr ["self"] := ⟨(He.ma K (He.ga K "Leaves") "__str__"), _, XstrLeaves, XstrLeaves.binds (ps := ["self"]) fun _ _ _ _ _ _ us hl => match us, hl with | [_], _ => rfl, instrLeaves, istrLeaves⟩
  let MlenLeaves : TMeth K (He.ga K "Leaves") "__len__" "Leaves.__len__" sLLen ["self"] := ⟨(He.ma K (He.ga K "Leaves") "__len__"), _, XlenLeaves, XlenLeaves.binds (ps := ["self"]) fun _ _ _ _ _ _ us hl => match us, hl with | [_], _ => rfl, inlenLeaves, ilenLeaves⟩
  let MpairsLeaves : TPr K (He.ga K "Leaves") "pairs" "Leaves.pairs" sLPairs := ⟨(He.ma K (He.ga K "Leaves") "pairs"), (getterQ K (He.ma K (He.ga K "Leaves") "pairs")), _, XpairsLeaves, XpairsLeaves.binds (ps := ["self"]) fun _ _ _ _ _ _ us hl => match us, hl with | [_], _ => rfl, propQ_ok (told_at c 27 7)⟩
  let MletsLeaves : TMeth K (He.ga K "Leaves") "lets" "Leaves.lets" sLets ["self", "name", "row"] := ⟨(He.ma K (He.ga K "Leaves") "lets"), _, XletsLeaves, XletsLeaves.binds (ps := ["self", "name", "row"]) fun _ _ _ _ _ _ us hl => match us, hl with | [_, _, _], _ => rfl, inletsLeaves, iletsLeaves⟩
  let MallowLeaves : TMeth K (He.ga K "Leaves") "allow" "Leaves.allow" sAllow ["self", "book", "filling"] := ⟨(He.ma K (He.ga K "Leaves") "allow"), _, XallowLeaves, XallowLeaves.binds (ps := ["self", "book", "filling"]) fun _ _ _ _ _ _ us hl => match us, hl with | [_, _, _], _ => rfl, inallowLeaves, iallowLeaves⟩
  let Dlawdeal : At K mg "_law_deal" sDeal ["_law_script", "_law_base"] := ⟨(He.ga K "_law_deal"), _, Xlawdeal, Xlawdeal.binds (ps := ["_law_script", "_law_base"]) fun _ _ _ _ _ _ us hl => match us, hl with | [_, _], _ => rfl, PySem.W.mg_of X G alawdeal⟩
  let Dlawdraw : At K mg "_law_draw" sDraw ["_law_deal_here", "_law_many"] := ⟨(He.ga K "_law_draw"), _, Xlawdraw, Xlawdraw.binds (ps := ["_law_deal_here", "_law_many"]) fun _ _ _ _ _ _ us hl => match us, hl with | [_, _], _ => rfl, PySem.W.mg_of X G alawdraw⟩
  let Dlawpick : At K mg "_law_pick" sPick ["_law_deal_here", "_law_some"] := ⟨(He.ga K "_law_pick"), _, Xlawpick, Xlawpick.binds (ps := ["_law_deal_here", "_law_some"]) fun _ _ _ _ _ _ us hl => match us, hl with | [_, _], _ => rfl, PySem.W.mg_of X G alawpick⟩
  let Dlawpools : At K mg "_law_pools" sPools ["_law_deal_here"] := ⟨(He.ga K "_law_pools"), _, Xlawpools, Xlawpools.binds (ps := ["_law_deal_here"]) fun _ _ _ _ _ _ us hl => match us, hl with | [_], _ => rfl, PySem.W.mg_of X G alawpools⟩
  let Dlawcounters : At K mg "_law_counters" sCounters ["_law_deal_here", "_law_pool", "_law_many"] := ⟨(He.ga K "_law_counters"), _, Xlawcounters, Xlawcounters.binds (ps := ["_law_deal_here", "_law_pool", "_law_many"]) fun _ _ _ _ _ _ us hl => match us, hl with | [_, _, _], _ => rfl, PySem.W.mg_of X G alawcounters⟩
  let Dlawrow : At K mg "_law_row" sLRow ["_law_deal_here", "_law_pools_here", "_law_counters_here", "_law_parts"] := ⟨(He.ga K "_law_row"), _, Xlawrow, Xlawrow.binds (ps := ["_law_deal_here", "_law_pools_here", "_law_counters_here", "_law_parts"]) fun _ _ _ _ _ _ us hl => match us, hl with | [_, _, _, _], _ => rfl, PySem.W.mg_of X G alawrow⟩
  let Dlawunrolled : At K mg "_law_unrolled" sUnrolled ["_law_parts"] := ⟨(He.ga K "_law_unrolled"), _, Xlawunrolled, Xlawunrolled.binds (ps := ["_law_parts"]) fun _ _ _ _ _ _ us hl => match us, hl with | [_], _ => rfl, PySem.W.mg_of X G alawunrolled⟩
  let Dlawbook : At K mg "_law_book" sBook ["_law_deal_here", "_law_most"] := ⟨(He.ga K "_law_book"), _, Xlawbook, Xlawbook.binds (ps := ["_law_deal_here", "_law_most"]) fun _ _ _ _ _ _ us hl => match us, hl with | [_, _], _ => rfl, PySem.W.mg_of X G alawbook⟩
  let Dlawmaderow : At K mg "_law_made_row" sMadeRow ["_law_row_here"] := ⟨(He.ga K "_law_made_row"), _, Xlawmaderow, Xlawmaderow.binds (ps := ["_law_row_here"]) fun _ _ _ _ _ _ us hl => match us, hl with | [_], _ => rfl, PySem.W.mg_of X G alawmaderow⟩
  let Dlawmadebook : At K mg "_law_made_book" sMadeBook ["_law_book_here"] := ⟨(He.ga K "_law_made_book"), _, Xlawmadebook, Xlawmadebook.binds (ps := ["_law_book_here"]) fun _ _ _ _ _ _ us hl => match us, hl with | [_], _ => rfl, PySem.W.mg_of X G alawmadebook⟩
  let Dlawopens : At K mg "_law_opens" sOpens ["_law_book_here"] := ⟨(He.ga K "_law_opens"), _, Xlawopens, Xlawopens.binds (ps := ["_law_book_here"]) fun _ _ _ _ _ _ us hl => match us, hl with | [_], _ => rfl, PySem.W.mg_of X G alawopens⟩
  let Dlawbare : At K mg "_law_bare" sBare ["_law_deal_here", "_law_most"] := ⟨(He.ga K "_law_bare"), _, Xlawbare, Xlawbare.binds (ps := ["_law_deal_here", "_law_most"]) fun _ _ _ _ _ _ us hl => match us, hl with | [_, _], _ => rfl, PySem.W.mg_of X G alawbare⟩
  let Dlawleaves : At K mg "_law_leaves" sLeaves ["_law_deal_here", "_law_book_here", "_law_most"] := ⟨(He.ga K "_law_leaves"), _, Xlawleaves, Xlawleaves.binds (ps := ["_law_deal_here", "_law_book_here", "_law_most"]) fun _ _ _ _ _ _ us hl => match us, hl with | [_, _, _], _ => rfl, PySem.W.mg_of X G alawleaves⟩
  let Dlawleavesof : At K mg "_law_leaves_of" sLof ["_law_leaves_here"] := ⟨(He.ga K "_law_leaves_of"), _, Xlawleavesof, Xlawleavesof.binds (ps := ["_law_leaves_here"]) fun _ _ _ _ _ _ us hl => match us, hl with | [_], _ => rfl, PySem.W.mg_of X G alawleavesof⟩
  let Dlawfilling : At K mg "_law_filling" sFilling ["_law_deal_here", "_law_leaves_here", "_law_most", "_law_top"] := ⟨(He.ga K "_law_filling"), _, Xlawfilling, Xlawfilling.binds (ps := ["_law_deal_here", "_law_leaves_here", "_law_most", "_law_top"]) fun _ _ _ _ _ _ us hl => match us, hl with | [_, _, _, _], _ => rfl, PySem.W.mg_of X G alawfilling⟩
  let Dlawfillingof : At K mg "_law_filling_of" sFillOfD ["_law_filling_here"] := ⟨(He.ga K "_law_filling_of"), _, Xlawfillingof, Xlawfillingof.binds (ps := ["_law_filling_here"]) fun _ _ _ _ _ _ us hl => match us, hl with | [_], _ => rfl, PySem.W.mg_of X G alawfillingof⟩
  let Dlawitems : At K mg "_law_items" sItems ["_law_deal_here", "_law_many"] := ⟨(He.ga K "_law_items"), _, Xlawitems, Xlawitems.binds (ps := ["_law_deal_here", "_law_many"]) fun _ _ _ _ _ _ us hl => match us, hl with | [_, _], _ => rfl, PySem.W.mg_of X G alawitems⟩
  let Dlawrulesright : At K mg "_law_rules_right" sRight ["_law_p", "_law_q", "_law_r"] := ⟨(He.ga K "_law_rules_right"), _, Xlawrulesright, Xlawrulesright.binds (ps := ["_law_p", "_law_q", "_law_r"]) fun _ _ _ _ _ _ us hl => match us, hl with | [_, _, _], _ => rfl, PySem.W.mg_of X G alawrulesright⟩
  let N : TNeed K mg := { mInt := Mint, mBool := Mbool, mStr := Mstr, mIsi := Misinstance, mLen := Mlen, mAll := Mall, words := (He.ga K "ROW_WORDS"), mWords := PySem.W.mg_of X G aROWWORDS, hWords := SROWWORDS, tok := tkLONGESTNAME, mLong := ILONGESTNAME, isInteger := Disinteger, isNumber := Disnumber, isName := Disname, IR := EInvalidRow, need := Dneedname }
  have FN := FNote
  obtain ⟨dsN, vN, bN⟩ := FN.binds1 (ps := ["self", "counter", "label"]) 3 1 (by simp) rfl fun _ _ _ _ _ _ _ us its hl hi => match us, its, hl, hi with | [_, _, _], [_], _, _ => ⟨_, rfl, rfl⟩
  have eN : dsN = [] := by cases vN; rfl
  subst eN
  obtain ⟨dsM, vM, bM⟩ := FN.binds1 (ps := ["self", "counter", "label"]) 2 0 (by simp) rfl fun _ _ _ _ _ _ _ us its hl hi => match us, its, hl, hi with | [_, _], [_], _, _ => ⟨_, rfl, rfl⟩
  let KNote : TNote K mg := { C := (He.ga K "Note"), fI := (He.ma K (He.ga K "Note") "__init__"), fd := _, F := FN, b := bN, m := PySem.W.mg_of X G aNote, M := ⟨mkNote, inNote, iNote, kcNote⟩, cl := ⟨pgNote, hdNote, poNote, saNote⟩, noW := nNote0, noC := nNote1, noL := nNote2 }
  let KSkip : TSkip K mg := { C := (He.ga K "Skip"), fI := (He.ma K (He.ga K "Skip") "__init__"), fd := _, F := XSkip, b := (XSkip).binds (ps := ["self", "counter", "by"]) fun _ _ _ _ _ _ us hl => match us, hl with | [_, _, _], _ => rfl, m := PySem.W.mg_of X G aSkip, M := ⟨mkSkip, inSkip, iSkip, kcSkip⟩, cl := ⟨pgSkip, hdSkip, poSkip, saSkip⟩, noW := nSkip0, noC := nSkip1, noF := nSkip2 }
  let KSet : TSet K mg := { C := (He.ga K "Set"), fI := (He.ma K (He.ga K "Set") "__init__"), fd := _, F := XSet, b := (XSet).binds (ps := ["self", "counter", "to"]) fun _ _ _ _ _ _ us hl => match us, hl with | [_, _, _], _ => rfl, m := PySem.W.mg_of X G aSet, M := ⟨mkSet, inSet, iSet, kcSet⟩, cl := ⟨pgSet, hdSet, poSet, saSet⟩, noW := nSet0, noC := nSet1, noF := nSet2 }
  let KKeep : TKeep K mg := { C := (He.ga K "Keep"), fI := (He.ma K (He.ga K "Keep") "__init__"), fd := _, F := XKeep, b := (XKeep).binds (ps := ["self", "counter"]) fun _ _ _ _ _ _ us hl => match us, hl with | [_, _], _ => rfl, m := PySem.W.mg_of X G aKeep, M := ⟨mkKeep, inKeep, iKeep, kcKeep⟩, cl := ⟨pgKeep, hdKeep, poKeep, saKeep⟩, noW := nKeep0, noF := nKeep1 }
  let KBack : TBack K mg := { C := (He.ga K "Back"), fI := (He.ma K (He.ga K "Back") "__init__"), fd := _, F := XBack, b := (XBack).binds (ps := ["self", "counter"]) fun _ _ _ _ _ _ us hl => match us, hl with | [_, _], _ => rfl, m := PySem.W.mg_of X G aBack, M := ⟨mkBack, inBack, iBack, kcBack⟩, cl := ⟨pgBack, hdBack, poBack, saBack⟩, noW := nBack0, noF := nBack1 }
  let KRef : TRef K mg := { C := (He.ga K "Ref"), fI := (He.ma K (He.ga K "Ref") "__init__"), fd := _, F := XRef, b := (XRef).binds (ps := ["self", "label"]) fun _ _ _ _ _ _ us hl => match us, hl with | [_, _], _ => rfl, m := PySem.W.mg_of X G aRef, M := ⟨mkRef, inRef, iRef, kcRef⟩, cl := ⟨pgRef, hdRef, poRef, saRef⟩, noW := nRef0, noF := nRef1 }
  let KPut : TPut K mg := { C := (He.ga K "Put"), fI := (He.ma K (He.ga K "Put") "__init__"), fd := _, F := XPut, b := (XPut).binds (ps := ["self", "part"]) fun _ _ _ _ _ _ us hl => match us, hl with | [_, _], _ => rfl, m := PySem.W.mg_of X G aPut, M := ⟨mkPut, inPut, iPut, kcPut⟩, cl := ⟨pgPut, hdPut, poPut, saPut⟩, noW := nPut0, noF := nPut1 }
  let KOpen : TOpen K mg := { C := (He.ga K "Open"), fI := (He.ma K (He.ga K "Open") "__init__"), fd := _, F := XOpen, b := (XOpen).binds (ps := ["self", "name"]) fun _ _ _ _ _ _ us hl => match us, hl with | [_, _], _ => rfl, m := PySem.W.mg_of X G aOpen, M := ⟨mkOpen, inOpen, iOpen, kcOpen⟩, cl := ⟨pgOpen, hdOpen, poOpen, saOpen⟩, noW := nOpen0, noF := nOpen1 }
  let R : TRows K mg := { N := N, note := KNote, skip := KSkip, set := KSet, keep := KKeep, back := KBack, ref := KRef, put := KPut, open_ := KOpen }
  let S : TStrs R := { note := MSNote, skip := MSSkip, set := MSSet, keep := MSKeep, back := MSBack, ref := MSRef, put := MSPut, open_ := MSOpen }
  let PP : TPart R := { S := S, CR := (He.ga K "Row"), mR := PySem.W.mg_of X G aRow, kR := fun r => match r with | .note _ _ => kRNote | .skip _ _ => kRSkip | .set _ _ => kRSet | .keep _ => kRKeep | .back _ => kRBack | .ref _ => kRRef | .put _ => kRPut | .opn _ => kROpen, kD := fun d => match d with | .none => kDNoneType | .bool _ => kDbool | .int _ => kDint | .str _ => kDstr | .list _ => kDlist | .tuple _ => kDtuple | .dict _ => kDdict, cA := fun r => match r with | .note _ _ => cANote | .skip _ _ => cASkip | .set _ _ => cASet | .keep _ => cAKeep | .back _ => cABack | .ref _ => cARef | .put _ => cAPut | .opn _ => cAOpen, cN := hnGet, cT := htGet, cM := fun r => match r with | .note _ _ => cMNote | .skip _ _ => cMSkip | .set _ _ => cMSet | .keep _ => cMKeep | .back _ => cMBack | .ref _ => cMRef | .put _ => cMPut | .opn _ => cMOpen, mList := Mlist, mTup := Mtuple, isSeq := Dissequence, IP := EInvalidPart, C := (He.ga K "Part"), mC := PySem.W.mg_of X G aPart, fI := (He.ma K (He.ga K "Part") "__init__"), fdI := _, dRows := (He.dflAt ("Part", some "__init__") 0 K), hRows := SDPart, FI := FPart, bI := bPart1, ds1 := dsPart0, v1 := vPart0, b1 := bPart0, M := ⟨mkPart, inPart, iPart, kcPart⟩, cl := ⟨pgPart, hdPart, poPart, saPart⟩, noN := nPart0, noR := nPart1, pA := pAPart, pM := pMPart, ne := nePart, kC := kCPart, kS := kSPart, nC := nCPart, nS := nSPart, str := MstrPart, eq := MeqPart }
  let BK : TBk PP := { mSet := Mset, mRev := Mreversed, cw := (He.ga K "COUNTING_WORDS"), mCW := PySem.W.mg_of X G aCOUNTINGWORDS, hCW := SCOUNTINGWORDS, isPair := Dispair, areC := Darecounters, areP := Dareparts, cKnown := Dcountersareknown, nPut := Dnamesput, pEarly := Dputsareearlier, nReach := Dnamesreached, unroll := Dunroll, uText := Dunrolledtext, refsK := Drefsareknown, mSort := Msorted, mDict := Mdict, C := (He.ga K "Book"), mC := PySem.W.mg_of X G aBook, fI := (He.ma K (He.ga K "Book") "__init__"), fdI := _, FI := XBook, bI := (XBook).binds (ps := ["self", "counters", "parts"]) fun _ _ _ _ _ _ us hl => match us, hl with | [_, _, _], _ => rfl, M := ⟨mkBook, inBook, iBook, kcBook⟩, cl := ⟨pgBook, hdBook, poBook, saBook⟩, noC := nBook0, noP := nBook1, noF := nBook2, names := MnamesBook, tops := MtopsBook, unr := MunrolledBook, chain := MchainBook }
  let FL : TFil R := { kF := fun r => match r with | .note _ _ => kfNote | .skip _ _ => kfSkip | .set _ _ => kfSet | .keep _ => kfKeep | .back _ => kfBack | .ref _ => kfRef | .put _ => kfPut | .opn _ => kfOpen, kD := fun d => match d with | .none => kdNoneType | .bool _ => kdbool | .int _ => kdint | .str _ => kdstr | .list _ => kdlist | .tuple _ => kdtuple | .dict _ => kddict, kS := fun r => match r with | .note _ _ => ksNote | .skip _ _ => ksSkip | .set _ _ => ksSet | .keep _ => ksKeep | .back _ => ksBack | .ref _ => ksRef | .put _ => ksPut | .opn _ => ksOpen, cA := fun r => match r with | .note _ _ => cANote | .skip _ _ => cASkip | .set _ _ => cASet | .keep _ => cAKeep | .back _ => cABack | .ref _ => cARef | .put _ => cAPut | .opn _ => cAOpen, cN := hnGet, cT := htGet, cM := fun r => match r with | .note _ _ => cMNote | .skip _ _ => cMSkip | .set _ _ => cMSet | .keep _ => cMKeep | .back _ => cMBack | .ref _ => cMRef | .put _ => cMPut | .opn _ => cMOpen, mList := Mlist, mTup := Mtuple, isSeq := Dissequence, isPair := Dispair, areF := Darefillable, isF := Disfilled }
  let FF : TFill R := { toTFil := FL, mSet := Mset, mSorted := Msorted, mDict := Mdict, IF := EInvalidFilling, C := (He.ga K "Filling"), mC := PySem.W.mg_of X G aFilling, fI := (He.ma K (He.ga K "Filling") "__init__"), fdI := _, dP := (He.dflAt ("Filling", some "__init__") 0 K), hP := SDFilling, FI := FFilling, bI := bFilling1, M := ⟨mkFilling, inFilling, iFilling, kcFilling⟩, cl := ⟨pgFilling, hdFilling, poFilling, saFilling⟩, noF := nFilling0 }
  let MM : TFilM FF := { S := S, ftext := Dfilledtext, names := MnamesFilling, rowsFor := Mrows_forFilling, str := MstrFilling }
  let EE : TFilE MM := { eq := MeqFilling, cA := cAF, cM := cMF, kC := kCF, kD := fun d => match d with | .none => kFNoneType | .bool _ => kFbool | .int _ => kFint | .str _ => kFstr | .list _ => kFlist | .tuple _ => kFtuple | .dict _ => kFdict }
  let YY : TLv FF := { mEn := Menumerate, lw := (He.ga K "LEAVE_WORDS"), mLW := PySem.W.mg_of X G aLEAVEWORDS, hLW := SLEAVEWORDS, isTri := Distriple, needT := Dneedtriples, rights := Drightsof, C := (He.ga K "Leaves"), mC := PySem.W.mg_of X G aLeaves, fI := (He.ma K (He.ga K "Leaves") "__init__"), fdI := _, dP := (He.dflAt ("Leaves", some "__init__") 0 K), hP := SDLeaves, FI := FLeaves, bI := bLeaves1, M := ⟨mkLeaves, inLeaves, iLeaves, kcLeaves⟩, cl := ⟨pgLeaves, hdLeaves, poLeaves, saLeaves⟩, noR := nLeaves0 }
  let YE : TLvE YY := { cA := cALeaves, cM := cMLeaves, kC := kCLeaves, eq := MeqLeaves }
  let YP : TLvP YY := { pairs := MpairsLeaves, str := MstrLeaves }
  let YJ : TLvJ YE := { needL := Dneedleaves, or := MorLeaves, and := MandLeaves }
  let YR : TLvR YE := { sf := sfLeaves, nC := nCLeaves, ne := neLeaves }
  let YC : TLvC YJ := { le := MleLeaves, ge := MgeLeaves, hq := mqLeaves, h1 := i0, h2 := i1, h3 := i2, h4 := i3 }
  let YN : TLvLen YE YP := { len := MlenLeaves }
  let YU : TRul FF := { Y := YY, Z := YE, ZP := YP, J := YJ, RR := YR, C := YC, W := YN, dL := dsLeaves0, vL := vLeaves0, bL := bLeaves0, mL := Mlen }
  let BT : TFilD K mg := { mI := Mint, mL := Mlen, mA := Mabs, deal := Dlawdeal, choose := Dlawdraw, one := Dlawpick, mR := Mrange, counters := Dlawcounters, pools := Dlawpools, row := Dlawrow, unr := Dlawunrolled, book := Dlawbook, mSorted := Msorted, mStr := Mstr, mEn := Menumerate, opens := Dlawopens, bare := Dlawbare, leaves := Dlawleaves, mList := Mlist, filling := Dlawfilling }
  let TI : TItm K mg := { mI := Mint, mA := Mabs, mL := Mlen, mR := Mrange, deal := Dlawdeal, draw := Dlawdraw, pick := Dlawpick, items := Dlawitems }
  let T : TK36 K mg := { D := BT, I := TI, R := R, P := PP, B := BK, F := FF, FM := MM, FE := EE, Q := YU, W := { lets := MletsLeaves }, YA := { allow := MallowLeaves }, mrow := Dlawmaderow, mbook := Dlawmadebook, lof := Dlawleavesof, fof := Dlawfillingof, rgt := Dlawrulesright }
  have Flaw : FunD K "law" "law" (defArgs sLaw36) (defBody sLaw36) (defScope sLaw36) [] [] (He.ga K "law") fdlaw := Ylaw
  have blaw := FunD.bindsA (ps := ["_law_script"]) Flaw fun _ _ _ _ _ _ us hl => match us, hl with | [_], _ => rfl
  exact ⟨_, fun s v => blaw s [v] rfl, fun base _ _ => ok_law36 T (Xlaw)⟩
end Pn

open PySem PySem.W PySem.Calls PyProof.Rows
theorem PySem.Challenge.cw_partnotes_k36_whole_rules_of_leaves_holds : PySem.Challenge.rw_partnotes_k36_whole_rules_of_leaves.Holds := by
  w_on; o_law
  refine HandSHeadRun.head_any (M := 20000) (r := Pn.rowQ) (q := Pn.progQ) (H := Pn.hookQ 5 Pn.fnQ Pn.exQ) (ob := Pn.seenQ 5 Pn.fnQ Pn.exQ) (loose := Pn.namesQ) (kwd := []) (d := HandSHeadRun.topDef Pn.rowQ.prog 84) (Pn.seenQ_eq 5 Pn.fnQ Pn.exQ)
    (by kernel_rfl) (fun z => by kernel_rfl) Pn.runQ (by kernel_rfl) (by kernel_rfl) (by kernel_rfl) (by rfl) (by first | assumption | decide +kernel) (by decide +kernel) ⟨rfl, rfl, rfl, rfl, rfl, by decide +kernel⟩ ?hw ?hc
  case hw => w_witness2
  case hc =>
    refine L2.walk_ofE (l := PySem.Challenge.rw_partnotes_k36_whole_rules_of_leaves) (n := 63) (k := 15) (x := "_law_script") (CX := L2.CX0) rfl (by decide) (by kernel_rfl) ⟨rfl, by decide, by decide⟩ ?F (fun _ _ _ _ z => z)
    intro w mg fa h Y G hm
    obtain ⟨K, KX, c⟩ := Y
    have hg : mg ("law" : PySem.Str) = some (.ref fa) := by
      have e : (HandSHeadRun.topDef Pn.rowQ.prog 84).name = ("law" : PySem.Str) := by kernel_rfl
      rw [← e]; exact hm
    obtain ⟨fd, hb, hF⟩ := Pn.facts (P := (PySem.Challenge.rw_partnotes_k36_whole_rules_of_leaves).prog) (w := w) KX G hg c
    exact ⟨K, fd, Pn.spLaw36 K, KX, hb, fun H a ns hl _ hS => ⟨a, ns, rfl, hS, hl, fun _ => rfl⟩, hF⟩
