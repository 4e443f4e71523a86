import PyProof.Rows.All
import Wide.All
import OpenK.AllK
import Wide.FinOn
import HandS.ForMost
import HandS.Wide
import KE.KStateDown
import HandS.Head0
import HandS.Head1
import HandS.Head2
import HandS.HeadEnd
import HandS.HeadHook1
import HandS.HeadHook2
import HandS.Property
import HandS.ClsMeth
import HandS.IsInst
import HandS.Walk
import HandS.Text
import HandS.Exc
import HandS.ExcInit
import HandS.ExcField
import HandS.ExcIs
import HandS.WordsExc
import HandS.TryOnly
import KE.KExcIs
import HandS.ExcCtx
import HandS.ExcInitHot
import HandS.SuiteRaise
import HandS.RaiseFrom
import HandS.Defaults
import HandS.Conv
import HandS.FStr
import KE.KCallOwn
import Flt.Len
import KE.IntTextLaws
import KE.IntTextText
import HandS.HotCalls
import HandS.TupLe
import HandS.RaiseMore
import HandS.OwnEq
import HandS.SlotsOwn
import HandS.NamedTupSort
import HandS.Ends
import HandS.Dict
import HandS.WordsDict
import HandS.Star
import HandS.SetTxt0
import HandS.SetFor
import PyProof.Rows.SortStr
import HandS.SetKeys
import HandS.Strs
import HandS.Comp
import KE.GoesMore
import HandS.Zip
import HandS.Rev
import KE.KDictPairs
import HandS.Style
import PyProof.Rows.StrMeet
import PyProof.EqKinds
import HandS.Iter
import PyProof.NeKinds
import HandS.TupSets
import HandS.TupLen
import KE.KSortTupG
import HandS.Flow
import HandS.Small
import HandS.TupAny
import HandS.More
import PySem.Challenge.RW_partnotes_k32_leaves_refused
set_option Elab.async false
set_option maxRecDepth 100000
set_option maxHeartbeats 4000000
namespace Pn
open PySem L2
/-! the text by places -/
def top (i : Nat) : Stmt := PySem.Challenge.pw_partnotes_k32_leaves_refused.main.body.getD i (.Pass ⟨0, 0, 0, 0⟩)
/-- a def of the top: where it stands, what binds its arguments -/
structure At (K : PySem.W.Frag) (mg : Str → Option Value) (x : Str) (st : Stmt) (ps : List Str) : Type where
  f : Addr
  fd : FuncData
  F : Fun K x x st f fd
  b : Binds K fd ps []
  m : mg x = some (.ref f)
/-- all but what stands at b is as it was -/
def Kp (b : Addr) (H H' : Hp) : Prop := ∀ a o, H a = some o → a ≠ b → H' a = some o
theorem Kp.refl (b : Addr) (H : Hp) : Kp b H H := fun _ _ h _ => h
theorem Kp.trans {b : Addr} {H H1 H2 : Hp} (h : Kp b H H1) (g : Kp b H1 H2) : Kp b H H2 := fun a o e n => g a o (h a o e n) n
theorem Kp.new {b p : Addr} {H H1 : Hp} {o : HO} (h : Kp b H H1) (hp : H1 p = none) : Kp b H (upd H1 p o) := fun a u e n => by
  have z := h a u e n
  rw [upd_ne (ne_of_none z hp)]
  exact z
theorem Kp.box {b : Addr} {H H1 : Hp} {o : HO} (h : Kp b H H1) : Kp b H (upd H1 b o) := fun a u e n => by
  rw [upd_ne n]
  exact h a u e n
theorem Kp.sql {K : PySem.W.Frag} {b a : Addr} {xs : List V} {H H1 : Hp} (h : Kp b H H1) (n : a ≠ b) (s : SqL K H a xs) : SqL K H1 a xs := by
  rcases s with (s | ⟨o, s⟩) | s
  · exact .inl (.inl (h _ _ s n))
  · exact .inl (.inr ⟨o, h _ _ s n⟩)
  · exact .inr s
theorem Kp.sqt {K : PySem.W.Frag} {b a : Addr} {xs : List V} {H H1 : Hp} (h : Kp b H H1) (n : a ≠ b) (s : SqT K H a xs) : SqT K H1 a xs := by
  rcases s with (s | ⟨o, s⟩) | s
  · exact .inl (.inl (h _ _ s n))
  · exact .inl (.inr ⟨o, h _ _ s n⟩)
  · exact .inr s
theorem Kp.same {b : Addr} {H H1 : Hp} (h : Same H H1) : Kp b H H1 := fun a o e _ => h a o e
/-- the heap but for what stands at b -/
def hid (H : Hp) (b : Addr) : Hp := fun a => if a = b then none else H a
theorem hid_sub {H : Hp} {b : Addr} : Same (hid H b) H := fun a o e => by
  unfold hid at e
  by_cases h : a = b
  · rw [if_pos h] at e
    cases e
  · rw [if_neg h] at e
    exact e
theorem hid_kp {b : Addr} {H H1 : Hp} (h : Kp b H H1) : Same (hid H b) (hid H1 b) := fun a o e => by
  unfold hid at e ⊢
  by_cases n : a = b
  · rw [if_pos n] at e
    cases e
  · rw [if_neg n] at e ⊢
    exact h a o e n
theorem hid_get {b a : Addr} {H : Hp} {o : HO} (h : H a = some o) (n : a ≠ b) : hid H b a = some o := by
  unfold hid
  rw [if_neg n]
  exact h
theorem Same.sqt {K : PySem.W.Frag} {H H' : Hp} {a : Addr} {xs : List V} (e : Same H H') (h : SqT K H a xs) : SqT K H' a xs := by
  rcases h with (h | ⟨o, h⟩) | h
  · exact .inl (.inl (e _ _ h))
  · exact .inl (.inr ⟨o, e _ _ h⟩)
  · exact .inr h
theorem Same.new {H : Hp} {p : Addr} {o : HO} (h : H p = none) : Same H (upd H p o) := fun a u e => by
  rw [upd_ne (ne_of_none e h)]
  exact e
/-- what is new in H' -/
def dif (H H' : Hp) : Hp := fun a => match H a with
  | none => H' a
  | some _ => none
theorem dif_eq {H H' : Hp} {a : Addr} {o : HO} : dif H H' a = some o ↔ H a = none ∧ H' a = some o := by
  unfold dif
  cases h : H a with
  | none => exact ⟨fun e => ⟨rfl, e⟩, fun e => e.2⟩
  | some u => exact ⟨fun e => (nomatch (show (none : Option HO) = some o from e)), fun e => by cases e.1⟩
theorem dif_sub {H H' : Hp} : Same (dif H H') H' := fun _ _ e => (dif_eq.mp e).2
theorem dif_new {H H' : Hp} {a : Addr} {o : HO} (h : H a = none) (h' : H' a = some o) : dif H H' a = some o := dif_eq.mpr ⟨h, h'⟩
/-- what is tracked stays tracked -/
def Mo (H H' : Hp) : Prop := ∀ a, H' a = none → H a = none
theorem Mo.refl (H : Hp) : Mo H H := fun _ h => h
theorem Mo.trans {H H1 H2 : Hp} (h : Mo H H1) (g : Mo H1 H2) : Mo H H2 := fun a e => h a (g a e)
theorem Mo.upd {H : Hp} {p : Addr} {o : HO} : Mo H (upd H p o) := fun a e => by
  by_cases h : a = p
  · subst h
    rw [upd_same] at e
    cases e
  · rw [upd_ne h] at e
    exact e
theorem Kp.mo {b : Addr} {H H' : Hp} {o : HO} (h : Kp b H H') (hb : H' b = some o) : Mo H H' := fun a e => by
  cases q : H a with
  | none => rfl
  | some u =>
    have n : a ≠ b := fun z => by rw [z, hb] at e; cases e
    rw [h a u q n] at e
    cases e
/-- what was new stays: all of H1 but b, which stood in H -/
theorem dif_kp {b : Addr} {H H1 H2 : Hp} {o : HO} (hb : H b = some o) (k : Kp b H1 H2) : Same (dif H H1) (dif H H2) := fun a u e => by
  obtain ⟨e1, e2⟩ := dif_eq.mp e
  exact dif_new e1 (k a u e2 (fun z => by rw [z, hb] at e1; cases e1))
theorem dif_mo {H0 H H1 : Hp} (m : Mo H0 H) : Same (dif H H1) (dif H0 H1) := fun a u e => by
  obtain ⟨e1, e2⟩ := dif_eq.mp e
  exact dif_new (m a e1) e2
mutual
theorem dp_same {K : PySem.W.Frag} {H H' : Hp} (e : Same H H') : ∀ (d : PyData) (v : V), Dp K H v d → Dp K H' v d
  | .none, _, h => by cases h; exact .non
  | .bool _, _, h => by cases h; exact .bl _
  | .int _, _, h => by cases h; exact .int _
  | .str _, _, h => by cases h; exact .str _
  | .list ds, _, h => by
    cases h with
    | lst s a => exact .lst (e.seq s) (dpAll_same e ds _ a)
  | .tuple ds, _, h => by
    cases h with
    | tup s a => exact .tup (Same.sqt e s) (dpAll_same e ds _ a)
  | .dict _, _, h => by cases h
theorem dpAll_same {K : PySem.W.Frag} {H H' : Hp} (e : Same H H') : ∀ (ds : List PyData) (vs : List V), DpAll K H vs ds → DpAll K H' vs ds
  | [], _, h => by cases h; exact .nil
  | d :: ds, _, h => by
    cases h with
    | cons a b => exact .cons (dp_same e d _ a) (dpAll_same e ds _ b)
end
theorem dpAll_append {K : PySem.W.Frag} {H : Hp} : ∀ {vs : List V} {ds : List PyData} {ws : List V} {es : List PyData}, DpAll K H vs ds → DpAll K H ws es → DpAll K H (vs ++ ws) (ds ++ es)
  | _, _, _, _, .nil, g => g
  | _, _, _, _, .cons a b, g => .cons a (dpAll_append b g)
end Pn

namespace Pn
open PySem PySem.Spec PyProof.Rows L2
/-! ### what the top leaves: asked in one run -/
/-- a def that is asked for: where it lies, its names, its statement, its defaults -/
structure DefQ where
  loc : PySem.W.Frag → Addr
  nm : Str
  ql : Str
  st : Stmt
  dv : List He.Dv := []
abbrev FnQ : Type := Option (Str × Str × Addr × Addr × Arguments × FuncBody × Scope × List (Str × Addr))
def fnSeen (K : PySem.W.Frag) (a : Addr) : FnQ := match K.lookup a with
  | some ⟨_, _, .func q, _⟩ => some (q.qualname, q.name, q.builtins, q.globals, q.params, q.body, q.scope, q.closure)
  | _ => none
def DefQ.is (d : DefQ) : FnQ := some (d.ql, d.nm, builtinsNs, mainGlobals, defArgs d.st, .stmts (defBody d.st), defScope d.st, [])
def DefQ.vals (d : DefQ) (K : PySem.W.Frag) : List V := d.dv.map (He.Dv.v K)
def DefQ.good (K : PySem.W.Frag) (d : DefQ) : Bool := match K.lookup (d.loc K) with
  | some ⟨_, _, .func q, _⟩ => PySem.W.keepIn K (.ref (d.loc K)) && (PySem.W.codeIn K q.code d.ql && He.dflB K q.defaults (d.vals K))
  | _ => false
theorem DefQ.funD {K : PySem.W.Frag} {d : DefQ} (e : fnSeen K (d.loc K) = d.is) (c : d.good K = true) : ∃ fd, FunD K d.nm d.ql (defArgs d.st) (defBody d.st) (defScope d.st) (d.vals K) [] (d.loc K) fd := by
  unfold DefQ.good at c
  unfold fnSeen at e
  cases hl : K.lookup (d.loc K) with
  | none => rw [hl] at c; cases c
  | some o =>
    obtain ⟨oc, od, dat, sl⟩ := o
    rw [hl] at c e
    cases dat with
    | func q =>
      obtain ⟨a1, a2, a3, a4, a5, a6, a7, a8, a9, b1, b2, b3, b4, b5, b6⟩ := q
      have e2 : (some (a2, a1, b6, a6, a3, a4, a5, a7) : FnQ) = some (d.ql, d.nm, builtinsNs, mainGlobals, defArgs d.st, .stmts (defBody d.st), defScope d.st, []) := e
      injection e2 with e2
      obtain ⟨rfl, rfl, rfl, rfl, rfl, rfl, rfl, rfl⟩ : a2 = d.ql ∧ a1 = d.nm ∧ b6 = builtinsNs ∧ a6 = mainGlobals ∧ a3 = defArgs d.st ∧ a4 = .stmts (defBody d.st) ∧ a5 = defScope d.st ∧ a7 = [] := by simpa using e2
      have c2 : (PySem.W.keepIn K (.ref (d.loc K)) && (PySem.W.codeIn K b4 d.ql && He.dflB K a8 (d.vals K))) = true := c
      rw [Bool.and_eq_true, Bool.and_eq_true] at c2
      exact ⟨_, ⟨oc, od, a8, a9, b1, b2, b3, b4, b5, sl, rfl, hl, c2.2.1, He.dflB_ok c2.2.2, .inl rfl⟩, c2.1⟩
    | _ => cases c
theorem fun_of {K : PySem.W.Frag} {x ql : Str} {st : Stmt} {f : Addr} {fd : FuncData} (F : FunD K x ql (defArgs st) (defBody st) (defScope st) [] [] f fd) : Fun K x ql st f fd := by
  obtain ⟨⟨oc, od, dV, kV, doc, pm, an, cdv, ct, sl, e, hl, hc, hd, _⟩, hk⟩ := F
  rcases hd with ⟨_, rfl⟩ | ⟨h, _⟩
  · exact ⟨⟨oc, od, kV, doc, pm, an, cdv, ct, sl, e, hl, hc⟩, hk⟩
  · exact absurd rfl h
abbrev Ask : Type := PySem.W.Frag → Bool
def askQ (fn : List DefQ) (ex : List (List Ask)) (K : PySem.W.Frag) : Bool × List FnQ := ((fn.all fun d => d.good K) && ex.all fun l => l.all fun f => f K, fn.map fun d => fnSeen K (d.loc K))
def toldQ (fn : List DefQ) : Bool × List FnQ := (true, fn.map DefQ.is)
/-- what an object leads to: a def's code and defaults, a class's own names, what a tuple or a dict holds -/
def leadsQ (o : Obj) : List Addr := match o.data with
  | .func q => He.refV q.code ++ He.refV q.defaults
  | .cls q => [q.ns]
  | .dict es _ => es.toList.flatMap fun z => He.refV z.val
  | .seq us _ => us.toList.flatMap He.refV
  | .fields us => us.toList.flatMap He.refV
  | _ => []
def levQ (g : Addr → Option Obj) : Nat → List Addr → List Addr
  | 0, as => as
  | n + 1, as => as ++ levQ g n (as.flatMap fun a => match g a with
    | some o => leadsQ o
    | none => [])
/-- the part of the heap that is looked at -/
def partQ (n : Nat) (g : Addr → Option Obj) : PySem.W.Frag := He.frG g (cStatics :: levQ g n [mainGlobals])
def hookQ (n : Nat) (fn : List DefQ) (ex : List (List Ask)) : PySem.W.Hook where
  α := Bool × List FnQ
  obs := fun s => askQ fn ex (partQ n s.heap.get?)
  val := fun _ => toldQ fn
  says := fun _ h => ∃ K : PySem.W.Frag, K.In h ∧ askQ fn ex K = toldQ fn
  of := fun _ _ e => ⟨_, He.frG_in, e⟩
  keeps := fun _ _ _ h k => by
    obtain ⟨K, hK, c⟩ := h
    exact ⟨K, PySem.W.Frag.In.keeps hK k, c⟩
def seenQ (n : Nat) (fn : List DefQ) (ex : List (List Ask)) (s : PySem.W.SharedT) : Bool × List FnQ := askQ fn ex (partQ n (HandSHeadRun.getT s))
theorem seenQ_eq (n : Nat) (fn : List DefQ) (ex : List (List Ask)) (s : PySem.W.SharedT) : seenQ n fn ex s = (hookQ n fn ex).obs s.abs := by
  have e : HandSHeadRun.getT s = s.abs.heap.get? := funext (HandSHeadRun.getT_eq s)
  unfold seenQ
  rw [e]
  rfl
section
variable {fn : List DefQ} {ex : List (List Ask)} {K : PySem.W.Frag}
theorem told_at (c : askQ fn ex K = toldQ fn) (i j : Nat) {l : List Ask} {f : Ask} (hl : ex[i]? = some l := by rfl) (hf : l[j]? = some f := by rfl) : f K = true := by
  have h := congrArg (fun z : Bool × List FnQ => z.1) c
  have h2 : ((fn.all fun d => d.good K) && ex.all fun l => l.all fun f => f K) = true := h
  rw [Bool.and_eq_true, List.all_eq_true, List.all_eq_true] at h2
  exact List.all_eq_true.mp (h2.2 l (List.mem_of_getElem? hl)) f (List.mem_of_getElem? hf)
theorem told_fn (c : askQ fn ex K = toldQ fn) (i : Nat) {d : DefQ} (hd : fn[i]? = some d := by rfl) : ∃ fd, FunD K d.nm d.ql (defArgs d.st) (defBody d.st) (defScope d.st) (d.vals K) [] (d.loc K) fd := by
  have h := congrArg (fun z : Bool × List FnQ => z.1) c
  have h2 : ((fn.all fun d => d.good K) && ex.all fun l => l.all fun f => f K) = true := h
  rw [Bool.and_eq_true, List.all_eq_true] at h2
  have h3 : fn.map (fun d => fnSeen K (d.loc K)) = fn.map DefQ.is := congrArg (fun z : Bool × List FnQ => z.2) c
  have h4 := congrArg (fun l : List FnQ => l[i]?) h3
  simp only [List.getElem?_map, hd, Option.map_some] at h4
  exact DefQ.funD (Option.some.inj h4) (h2.1 d (List.mem_of_getElem? hd))
end
/-- an own exception class -/
def excQ (K : PySem.W.Frag) (C : Addr) (nid : String) : Bool := match K.lookup C with
  | some ⟨.type t, _, .cls cd, sl⟩ => decide (t = "type") && (cd.hasDict && (!cd.hasDel && ((match cd.mro with
    | .ref D :: bm => decide (D = C) && PySem.HandSPX.refsVE bm
    | _ => false) && (match sl.toList with
    | [_, _, _, _, some (.builtin n), _] => decide (n = nid)
    | _ => false))))
  | _ => false
theorem excQ_ok {K : PySem.W.Frag} {C : Addr} {nid : String} (h : excQ K C nid = true) : ∃ nm q N bs bm sn sub ab col dd k0 k1 k2 k3 k5, K.lookup C = some (excClassObj nm q C N bs bm true sn sub ab col dd k0 k1 k2 k3 k5 nid) ∧ PySem.HandSPX.refsVE bm = true := by
  unfold excQ at h
  split at h
  · rename_i t dd cd sl hl
    rw [Bool.and_eq_true, Bool.and_eq_true, Bool.and_eq_true, Bool.and_eq_true] at h
    obtain ⟨h1, h2, h3, h4, h5⟩ := h
    split at h4
    · rename_i D bm hm
      split at h5
      · rename_i k0 k1 k2 k3 n k5 hs
        rw [Bool.and_eq_true] at h4
        obtain ⟨h6, h7⟩ := h4
        have e1 := of_decide_eq_true h1
        have e2 := of_decide_eq_true h6
        have e3 := of_decide_eq_true h5
        obtain ⟨nm, bs, mro, ns, qn, hd, sn, sub, ab, col, del⟩ := cd
        simp only at hm h2 h3
        have e4 : del = false := by simpa using h3
        have e5 : sl = #[k0, k1, k2, k3, some (.builtin n), k5] := by
          obtain ⟨l⟩ := sl
          simp only at hs
          rw [hs]
        subst e1 e2 e3 e4 e5 h2 hm
        exact ⟨nm, qn, ns, bs, bm, sn, sub, ab, col, dd, k0, k1, k2, k3, k5, hl, h7⟩
      · cases h5
    · cases h4
  · cases h
/-- a tuple of the written part -/
def tupQ (K : PySem.W.Frag) (a : Addr) (vs : List He.Dv) : Bool := match K.lookup a with
  | some ⟨.type t, _, .seq its _, _⟩ => decide (t = "tuple") && (decide (its.size ≤ sizeLine) && He.relAll (vs.map (He.Dv.v K)) its.toList)
  | _ => false
theorem tupQ_ok {K : PySem.W.Frag} {a : Addr} {vs : List He.Dv} (h : tupQ K a vs = true) (H : Hp) : SqT K H a (vs.map (He.Dv.v K)) := by
  unfold tupQ at h
  split at h
  · rename_i t d its n sl hl
    rw [Bool.and_eq_true, Bool.and_eq_true] at h
    have e := of_decide_eq_true h.1
    subst e
    exact .inr ⟨_, its, n, hl, rfl, rfl, of_decide_eq_true h.2.1, He.relAll_ok h.2.2⟩
  · cases h
/-- the getter of a property -/
def getterQ (K : PySem.W.Frag) (p : Addr) : Addr := match PySem.W.recIn K p "property" with
  | some (.ref g :: _) => g
  | _ => 0
def propQ (K : PySem.W.Frag) (C : Addr) (nm : Str) : Bool := decide (PySem.W.findIn K (.ref C) nm = some (some (.ref (He.ma K C nm)))) && (decide (PySem.W.specialIn K (.ref (He.ma K C nm)) "__get__" = some (some (.builtin "property.__get__"))) && (decide (PySem.W.takesIn K (.ref (He.ma K C nm)) = some true) &&
  (match PySem.W.recIn K (He.ma K C nm) "property" with
  | some (.ref _ :: _) => true
  | _ => false)))
theorem propQ_ok {K : PySem.W.Frag} {C : Addr} {nm : Str} (h : propQ K C nm = true) : PropOf K C nm (He.ma K C nm) (getterQ K (He.ma K C nm)) := by
  unfold propQ at h
  rw [Bool.and_eq_true, Bool.and_eq_true, Bool.and_eq_true] at h
  obtain ⟨h1, h2, h3, h4⟩ := h
  refine ⟨of_decide_eq_true h1, of_decide_eq_true h2, of_decide_eq_true h3, ?_⟩
  unfold getterQ
  split at h4
  · rename_i g r hr
    exact ⟨r, by rw [hr]⟩
  · cases h4
end Pn

namespace Pn
open PySem PySem.Spec PyProof.Rows L2
/-! ### a classmethod, asked in the same run -/
def cgetQ (K : PySem.W.Frag) (p : Addr) : Addr := match PySem.W.recIn K p "classmethod" with
  | some (.ref g :: _) => g
  | _ => 0
def cfndQ (K : PySem.W.Frag) (C : Addr) (nm : Str) : Bool := match PySem.W.findCls K (.ref C) (.type "type") nm with
  | some (.get (.builtin g) (.ref p) .none (.ref D)) => decide (g = "classmethod.__get__") && (decide (p = He.ma K C nm) && decide (D = C))
  | _ => false
def crecQ (K : PySem.W.Frag) (p : Addr) : Bool := match PySem.W.recIn K p "classmethod" with
  | some (.ref _ :: _) => true
  | _ => false
def cmethQ (K : PySem.W.Frag) (C : Addr) (nm : Str) : Bool := PySem.W.readsIn K C (.type "type") && (decide (PySem.W.specialIn K (.ref C) "__getattribute__" = some (some (.builtin "type.__getattribute__"))) && (cfndQ K C nm && (crecQ K (He.ma K C nm) && PySem.W.fnIn K (cgetQ K (He.ma K C nm)))))
theorem cmethQ_ok {K : PySem.W.Frag} {C : Addr} {nm : Str} (h : cmethQ K C nm = true) : ClX.CRead K C (.type "type") ∧ ClX.CMet K C (.type "type") nm (He.ma K C nm) (cgetQ K (He.ma K C nm)) := by
  unfold cmethQ at h
  rw [Bool.and_eq_true, Bool.and_eq_true, Bool.and_eq_true, Bool.and_eq_true] at h
  obtain ⟨h1, h2, h3, h4, h5⟩ := h
  refine ⟨⟨h1, of_decide_eq_true h2⟩, ⟨?_, ?_, h5⟩⟩
  · unfold cfndQ at h3
    split at h3
    · rename_i g p D e
      rw [Bool.and_eq_true, Bool.and_eq_true] at h3
      obtain ⟨a, b, c⟩ := h3
      have a := of_decide_eq_true a
      have b := of_decide_eq_true b
      have c := of_decide_eq_true c
      rw [e, a, b, c]
    · cases h3
  · unfold crecQ at h4
    unfold cgetQ
    split at h4
    · rename_i g r e
      exact ⟨r, by rw [e]⟩
    · cases h4
end Pn

namespace Pn
open PySem PySem.Spec PyProof.Rows L2
/-- an empty tuple among the loaded objects -/
def tupBQ (K : PySem.W.Frag) (a : Addr) : Bool := match K.lookup a with
  | some o => decide (o.cls = .type "tuple") && (o.dict.isNone && (match o.data with | .seq its _ => its.size == 0 | _ => false))
  | none => false
end Pn

namespace Pn
open PySem PySem.Spec PyProof.Rows L2
/-- a class whose order is itself, then object -/
def mroQ (K : PySem.W.Frag) (C : Addr) : Bool := match PySem.W.clsIn K C with
  | some cd => cd.mro == [.ref C, .type "object"]
  | none => false
theorem mroQ_ok {K : PySem.W.Frag} {C : Addr} (h : mroQ K C = true) : ∃ cd, PySem.W.clsIn K C = some cd ∧ cd.mro = [.ref C, .type "object"] := by
  unfold mroQ at h
  split at h
  · rename_i cd hc
    exact ⟨cd, hc, beq_iff_eq.mp h⟩
  · cases h
end Pn

namespace Pn
open PySem PySem.Spec PyProof.Rows L2
def fnQ0 : List DefQ := [
  { loc := fun K => (He.ga K "is_name"), nm := "is_name", ql := "is_name", st := top 4, dv := [] },
  { loc := fun K => (He.ga K "is_sequence"), nm := "is_sequence", ql := "is_sequence", st := top 5, dv := [] },
  { loc := fun K => (He.ga K "is_triple"), nm := "is_triple", ql := "is_triple", st := top 12, dv := [] },
  { loc := fun K => (He.ga K "need_triples"), nm := "need_triples", ql := "need_triples", st := top 13, dv := [] },
  { loc := fun K => (He.ga K "rights_of"), nm := "rights_of", ql := "rights_of", st := top 14, dv := [] },
  { loc := fun K => (He.ma K (He.ga K "Leaves") "__init__"), nm := "__init__", ql := "Leaves.__init__", st := inClass (top 16) 0, dv := [.adr (He.dflAt ("Leaves", some "__init__") 0)] },
  { loc := fun K => (He.ma K (He.ga K "InvalidLeaves") "__init__"), nm := "__init__", ql := "InvalidLeaves.__init__", st := inClass (top 9) 0, dv := [] },
  { loc := fun K => (He.ga K "_law_deal"), nm := "_law_deal", ql := "_law_deal", st := top 18, dv := [] },
  { loc := fun K => (He.ga K "_law_draw"), nm := "_law_draw", ql := "_law_draw", st := top 19, dv := [] },
  { loc := fun K => (He.ga K "_law_pick"), nm := "_law_pick", ql := "_law_pick", st := top 20, dv := [] },
  { loc := fun K => (He.ga K "_law_value"), nm := "_law_value", ql := "_law_value", st := top 21, dv := [] },
  { loc := fun K => (He.ga K "_law_items"), nm := "_law_items", ql := "_law_items", st := top 22, dv := [] }]
def fnQ1 : List DefQ := [
  { loc := fun K => (He.ga K "_law_told"), nm := "_law_told", ql := "_law_told", st := top 25, dv := [] },
  { loc := fun K => (He.ga K "_law_is_name"), nm := "_law_is_name", ql := "_law_is_name", st := top 23, dv := [] },
  { loc := fun K => (He.ga K "_law_is_triple"), nm := "_law_is_triple", ql := "_law_is_triple", st := top 24, dv := [] },
  { loc := fun K => (He.ga K "_law_odd"), nm := "_law_odd", ql := "_law_odd", st := top 26, dv := [] },
  { loc := fun K => (He.ga K "law"), nm := "law", ql := "law", st := top 27, dv := [] }]
def fnQ : List DefQ := fnQ0 ++ fnQ1
def exQ0 : List Ask := [
  fun K => decide (PySem.W.nsIn K mainGlobals "int" = some none),
  fun K => decide (PySem.W.nsIn K mainGlobals "str" = some none),
  fun K => decide (PySem.W.nsIn K mainGlobals "isinstance" = some none),
  fun K => decide (PySem.W.nsIn K mainGlobals "len" = some none),
  fun K => decide (PySem.W.nsIn K mainGlobals "all" = some none),
  fun K => decide (PySem.W.nsIn K mainGlobals "abs" = some none),
  fun K => decide (PySem.W.nsIn K mainGlobals "range" = some none),
  fun K => decide (PySem.W.nsIn K mainGlobals "list" = some none),
  fun K => decide (PySem.W.nsIn K mainGlobals "tuple" = some none),
  fun K => decide (PySem.W.nsIn K mainGlobals "set" = some none)]
def exQ1 : List Ask := [
  fun K => decide (PySem.W.nsIn K mainGlobals "sorted" = some none),
  fun K => decide (PySem.W.nsIn K mainGlobals "enumerate" = some none),
  fun K => decide (PySem.W.nsIn K mainGlobals "repr" = some none),
  fun K => decide (PySem.W.nsIn K mainGlobals "ROW_WORDS" = some (some (.ref (He.ga K "ROW_WORDS")))),
  fun K => He.tupB K "ROW_WORDS" [.str "note", .str "skip", .str "set", .str "keep", .str "back", .str "ref", .str "put", .str "open", .str "part"],
  fun K => (He.Fa.int "LONGEST_NAME" 4).ok K,
  fun K => decide (PySem.W.nsIn K mainGlobals "is_name" = some (some (.ref (He.ga K "is_name")))),
  fun K => decide (PySem.W.nsIn K mainGlobals "is_sequence" = some (some (.ref (He.ga K "is_sequence")))),
  fun K => decide (PySem.W.nsIn K mainGlobals "LEAVE_WORDS" = some (some (.ref (He.ga K "LEAVE_WORDS")))),
  fun K => He.tupB K "LEAVE_WORDS" [.str "on", .str "any"]]
def exQ2 : List Ask := [
  fun K => decide (PySem.W.nsIn K mainGlobals "is_triple" = some (some (.ref (He.ga K "is_triple")))),
  fun K => decide (PySem.W.nsIn K mainGlobals "need_triples" = some (some (.ref (He.ga K "need_triples")))),
  fun K => decide (PySem.W.nsIn K mainGlobals "rights_of" = some (some (.ref (He.ga K "rights_of")))),
  fun K => decide (PySem.W.nsIn K mainGlobals "Leaves" = some (some (.ref (He.ga K "Leaves")))),
  fun K => decide (PySem.W.findIn K (.ref (He.ga K "Leaves")) "__init__" = some (some (.ref (He.ma K (He.ga K "Leaves") "__init__")))),
  fun K => PySem.W.isFn K (.ref (He.ma K (He.ga K "Leaves") "__init__")),
  fun K => tupQ K (He.dflAt ("Leaves", some "__init__") 0 K) [],
  fun K => PySem.W.plainGet K (He.ga K "Leaves") Str.empty,
  fun K => PySem.W.hasDictIn K (He.ga K "Leaves"),
  fun K => PySem.W.plainOver K (He.ga K "Leaves")]
def exQ3 : List Ask := [
  fun K => decide (PySem.W.findIn K (.ref (He.ga K "Leaves")) "__setattr__" = some (some (.builtin "object.__setattr__"))),
  fun K => PySem.W.makesIn K (He.ga K "Leaves"),
  fun K => PySem.W.keepIn K (.ref (He.ga K "Leaves")),
  fun K => decide (PySem.W.findIn K (.ref (He.ga K "Leaves")) "rights" = some none),
  fun K => decide (PySem.W.nsIn K mainGlobals "NoteError" = some (some (.ref (He.ga K "NoteError")))),
  fun K => decide (PySem.W.nsIn K mainGlobals "InvalidLeaves" = some (some (.ref (He.ga K "InvalidLeaves")))),
  fun K => excQ K (He.ga K "InvalidLeaves") "ValueError.__new__",
  fun K => decide (PySem.W.findIn K (.ref (He.ga K "InvalidLeaves")) "__setattr__" = some (some (.builtin "object.__setattr__"))),
  fun K => decide (PySem.W.findIn K (.ref (He.ga K "InvalidLeaves")) "__getattribute__" = some (some (.builtin "BaseException.__getattribute__"))),
  fun K => decide (PySem.W.findIn K (.ref (He.ga K "InvalidLeaves")) "__getattr__" = some (none))]
def exQ4 : List Ask := [
  fun K => decide (PySem.W.findIn K (.ref (He.ga K "InvalidLeaves")) "at" = some (none)),
  fun K => decide (PySem.W.findIn K (.ref (He.ga K "InvalidLeaves")) "__init__" = some (some (.ref (He.ma K (He.ga K "InvalidLeaves") "__init__")))),
  fun K => decide (PySem.W.findIn K (.ref (He.ga K "InvalidLeaves")) "__class__" = some (some (.builtin "object.__class__"))),
  fun K => decide (PySem.W.typeIn K (.ref (He.ma K (He.ga K "InvalidLeaves") "__init__")) = some (.type "function")),
  fun K => PySem.W.keepIn K (.ref (He.ga K "InvalidLeaves")),
  fun K => decide (PySem.W.subIn K (.ref (He.ga K "InvalidLeaves")) (.type "BaseException") = some true),
  fun K => decide (PySem.W.typeIn K (.ref (He.ga K "InvalidLeaves")) = some (.type "type")),
  fun K => PySem.W.hasDictIn K (He.ga K "InvalidLeaves"),
  fun K => PySem.W.isClsIn K (He.ga K "InvalidLeaves"),
  fun K => decide (PySem.W.subIn K (.ref (He.ga K "InvalidLeaves")) (.ref (He.ga K "InvalidLeaves")) = some true)]
def exQ5 : List Ask := [
  fun K => decide (PySem.W.mroIn K (He.ga K "InvalidLeaves") (.type "object") = some true),
  fun K => decide (PySem.W.nsIn K mainGlobals "InvalidFilling" = some (some (.ref (He.ga K "InvalidFilling")))),
  fun K => decide (PySem.W.nsIn K mainGlobals "_law_deal" = some (some (.ref (He.ga K "_law_deal")))),
  fun K => decide (PySem.W.nsIn K mainGlobals "_law_draw" = some (some (.ref (He.ga K "_law_draw")))),
  fun K => decide (PySem.W.nsIn K mainGlobals "_law_pick" = some (some (.ref (He.ga K "_law_pick")))),
  fun K => decide (PySem.W.nsIn K mainGlobals "_law_value" = some (some (.ref (He.ga K "_law_value")))),
  fun K => decide (PySem.W.nsIn K mainGlobals "_law_items" = some (some (.ref (He.ga K "_law_items")))),
  fun K => decide (PySem.W.nsIn K mainGlobals "_law_told" = some (some (.ref (He.ga K "_law_told")))),
  fun K => decide (PySem.W.nsIn K mainGlobals "_law_is_name" = some (some (.ref (He.ga K "_law_is_name")))),
  fun K => decide (PySem.W.nsIn K mainGlobals "_law_is_triple" = some (some (.ref (He.ga K "_law_is_triple"))))]
def exQ6 : List Ask := [
  fun K => decide (PySem.W.nsIn K mainGlobals "_law_odd" = some (some (.ref (He.ga K "_law_odd")))),
  fun K => decide (PySem.W.nsIn K mainGlobals "law" = some (some (.ref (He.ga K "law")))),
  fun K => decide (PySem.W.specialIn K (.builtin "object.__class__") "__get__" = some (some (.builtin "getset_descriptor.__get__"))),
  fun K => decide (PySem.W.takesIn K (.builtin "object.__class__") = some true),
  fun K => decide (PySem.W.findIn K (.ref (He.ga K "Leaves")) "__class__" = some (some (.builtin "object.__class__"))),
  fun K => decide (PySem.W.mroIn K (He.ga K "Leaves") (.type "object") = some true),
  fun K => decide (PySem.W.kitOne K (.ref (He.ga K "InvalidLeaves")) (.ref (He.ga K "NoteError")) = some true),
  fun K => decide (PySem.W.kitOne K (.ref (He.ga K "InvalidLeaves")) (.ref (He.ga K "InvalidFilling")) = some false),
  fun K => decide (PySem.W.kitAny K (.ref (He.ga K "Leaves")) [.type "list", .type "tuple"] = some false)]
def exR0 : List (List Ask) := [exQ0, exQ1, exQ2, exQ3, exQ4, exQ5, exQ6]
def exQ : List (List Ask) := exR0
end Pn
namespace Pn
open PySem PySem.W PySem.Calls PyProof.Rows L2
abbrev rowQ : OpenRow := OpenLaw.row PySem.Challenge.rw_partnotes_k32_leaves_refused
abbrev progQ : Program := view rowQ.prog [27]
def namesQ0 : List PySem.Str := ["_wall", "__name__", "ROW_WORDS", "LONGEST_NAME", "is_name", "is_sequence", "NoteError", "InvalidFilling", "InvalidLeaves", "LEAVE_WORDS", "is_triple", "need_triples", "rights_of", "need_leaves", "Leaves", "_law_deal", "_law_draw", "_law_pick", "_law_value", "_law_items", "_law_is_name", "_law_is_triple", "_law_told", "_law_odd"]
def namesQ : List PySem.Str := namesQ0
theorem runQ (w : World) : HandSHeadRun.RunEq rowQ progQ (hookQ 5 fnQ exQ) (seenQ 5 fnQ exQ) 20000 namesQ w := by
  intro os
  kernel_rfl
end Pn

namespace Pn
open PySem L2
/-! ### one statement, with what it comes to -/
/-- x = e, where what e comes to is said by C -/
theorem stepSet {te : TE} {i : Nat} {B : TS} {D : Ends} {σ : L2.St} {H : Hp} (C : V → Hp → Prop) (h1 : ∀ Q' : VK, (∀ v H', C v H' → Q' v H') → te σ H Q') (h2 : ∀ v H', C v H' → B D (σ.set i (some v)) H') : tSeq (tAsg te (gName i)) B D σ H := h1 _ h2
theorem stepNo {tt : TT} {A C : TS} {D : Ends} {σ : L2.St} {H : Hp} (G : Hp → Prop) (h1 : ∀ Q : Bool → Hp → Prop, (∀ H', G H' → Q false H') → tt σ H Q) (h2 : ∀ H', G H' → C D σ H') : tSeq (tIfS tt A tNext) C D σ H := h1 _ fun H' g => by
  rw [if_neg Bool.false_ne_true]
  exact h2 H' g
theorem Same.mo {H H' : Hp} (s : Same H H') : Mo H H' := fun _ e => s.free e
end Pn

namespace Pn
open PySem L2
/-- the two ints of a box of draws -/
def Bx (x y : Int) : Prop := 0 ≤ x ∧ 1 ≤ y ∧ y ≤ 2147483629
section
variable {P : Program} {w : World} {K : PySem.W.Frag} {mg : Str → Option Value} {base : Heap}
/-- what a box is, by its place -/
def BoxAt (H : Hp) (b : Addr) : Prop := ∃ x y : Int, Bx x y ∧ H b = some (.lst [.int x, .int y])
end
end Pn

namespace Pn
open PySem L2
abbrev sIsName : Stmt := top 4
/-! ### what these checks tell of data -/
def rowV : List V := [.str "note", .str "skip", .str "set", .str "keep", .str "back", .str "ref", .str "put", .str "open", .str "part"]
/-- a letter of a name -/
def lok (c : Nat) : Bool := decide (97 ≤ c) && decide (c ≤ 122)
def nameS (z : Str) : Bool := !inV (.str z) rowV && (decide (1 ≤ (z.length : Int)) && decide ((z.length : Int) ≤ 4)) && z.cps.toList.all lok
def nameD : PyData → Bool
  | .str z => nameS z
  | _ => false
def numD : PyData → Bool
  | .int i => decide (0 ≤ i)
  | _ => false
/-- the type of data -/
def tyD : PyData → String
  | .none => "NoneType"
  | .bool _ => "bool"
  | .int _ => "int"
  | .str _ => "str"
  | .list _ => "list"
  | .tuple _ => "tuple"
  | .dict _ => "dict"
theorem dp_ty {K : PySem.W.Frag} {H : Hp} {v : V} {d : PyData} (h : Dp K H v d) : TyX K H v (.type (tyD d)) := by
  cases h with
  | non => exact .base .non
  | bl b => exact .base (.bl b)
  | int i => exact .base (.int i)
  | str x => exact .base (.str x)
  | lst s _ =>
    rcases s with (s | ⟨o, s⟩) | ⟨o, _, _, e, c, _⟩
    · exact .base (.lst s)
    · exact .base (.frz s)
    · exact .kList e c
  | tup s _ =>
    rcases s with (s | ⟨o, s⟩) | ⟨o, _, _, e, c, _⟩
    · exact .base (.tup s)
    · exact .fTuple s
    · exact .kTuple e c
def strT : PyData → Bool
  | .str _ => true
  | _ => false
theorem kit_str : ∀ d : PyData, kitB (tyD d) "str" = some (strT d)
  | .none => (by decide +kernel : kitB "NoneType" "str" = some false)
  | .bool _ => (by decide +kernel : kitB "bool" "str" = some false)
  | .int _ => (by decide +kernel : kitB "int" "str" = some false)
  | .str _ => (by decide +kernel : kitB "str" "str" = some true)
  | .list _ => (by decide +kernel : kitB "list" "str" = some false)
  | .tuple _ => (by decide +kernel : kitB "tuple" "str" = some false)
  | .dict _ => (by decide +kernel : kitB "dict" "str" = some false)
/-! ### a comprehension whose items are told by their places -/
theorem lc_step {H1 : Hp} {D : Addr} {f : Nat → V} {i : Nat} (hi : i < 1000) : ∃ acc, (upd H1 D (.lst ((List.range i).map f))) D = some (.lst acc) ∧ acc.length < sizeLine ∧
    upd (upd H1 D (.lst ((List.range i).map f))) D (.lst (acc ++ [f i])) = upd H1 D (.lst ((List.range (i + 1)).map f)) := by
  refine ⟨_, upd_same, by rw [List.length_map, List.length_range]; exact small1000 (by omega), ?_⟩
  rw [List.range_succ, List.map_append]
  funext b
  by_cases e : b = D
  · rw [e, upd_same, upd_same]
    rfl
  · rw [upd_ne e, upd_ne e, upd_ne e]
theorem range_getD {f : Nat → Bool} : ∀ l : List Nat, (((List.range l.length).map fun i => f (l.getD i 0)).all id) = l.all f := by
  intro l
  have e : (List.range l.length).map (fun i => f (l.getD i 0)) = l.map f := by
    apply List.ext_getElem
    · simp
    · intro i h1 h2
      have h3 : i < l.length := by simpa using h2
      simp [List.getD_eq_getElem?_getD, List.getElem?_eq_getElem h3]
  rw [e]
  simp
theorem lt_one {a b : Nat} : decide ([a] < [b]) = decide (a < b) := by
  by_cases h : a < b
  · rw [decide_eq_true h, decide_eq_true]
    exact List.Lex.rel h
  · rw [decide_eq_false h, decide_eq_false]
    intro z
    cases z with
    | rel r => exact h r
    | cons r => cases r
theorem lok_eq (c : Nat) : (if (!decide ([c] < [97])) = true then (!decide ([122] < [c])) else false) = lok c := by
  rw [lt_one, lt_one]
  unfold lok
  by_cases h1 : c < 97
  · rw [decide_eq_true h1, decide_eq_false (show ¬ 97 ≤ c by omega)]
    rfl
  · rw [decide_eq_false h1, decide_eq_true (show 97 ≤ c by omega)]
    by_cases h2 : 122 < c
    · rw [decide_eq_true h2, decide_eq_false (show ¬ c ≤ 122 by omega)]
      rfl
    · rw [decide_eq_false h2, decide_eq_true (show c ≤ 122 by omega)]
      rfl
section
variable {P : Program} {w : World} {K : PySem.W.Frag} {mg : Str → Option Value} {base : Heap}
structure TChk (K : PySem.W.Frag) (mg : Str → Option Value) : Type where
  mStr : mg "str" = none
  mIsi : mg "isinstance" = none
  mLen : mg "len" = none
  mAll : mg "all" = none
  words : Addr
  mWords : mg "ROW_WORDS" = some (.ref words)
  hWords : ∀ H, SqT K H words rowV
  tok : Tok
  mLong : mg "LONGEST_NAME" = some (.int 4 tok)
  isName : At K mg "is_name" sIsName ["value"]
def dlen : PyData → Prop
  | .str z => z.length ≤ 900
  | _ => True
def spIsName (K : PySem.W.Frag) : Sp := fun vs H Q _ => ∃ (v : V) (d : PyData), vs = [v] ∧ Dp K H v d ∧ dlen d ∧ ∀ H', Same H H' → Mo H H' → Q (.bl (nameD d)) H'
theorem scIsName : FnScope ["value", "letter"] ["value"] (defScope sIsName) := ⟨rfl, rfl, rfl, by decide +kernel, rfl, by decide +kernel, by decide +kernel⟩
theorem TChk.okName (T : TChk K mg) : FnOk P w K mg base CX0 1 T.isName.f T.isName.fd ["value"] (spIsName K) := by
  refine T.isName.F.ok scIsName (fun vs H Q E h => ?_) (fun cdv A outer s H vs Q E hr h => ?_)
  · obtain ⟨v, d, rfl, _⟩ := h
    rfl
  · obtain ⟨v, d, rfl, hd, hl, q⟩ := h
    refine ⟨_, pss_cons (ps_if (PW.pt (pw_or (pt_not (pt_val (pe_callB call_isi (by rfl) T.mIsi (by decide +kernel) (pa_cons (pv 0) (pa_cons (pe_bltn (v := .ty "str") (by rfl) T.mStr (by decide +kernel) rfl) pa_nil)))))
        (pw_or1 (pt_cmpR op_in_seq (pv 0) (pe_glob (v := .ref T.words) (by rfl) T.mWords rfl) rfl)))) (pss_one (ps_ret pe_bl)) pss_nil)
      (pss_one (ps_ret (pe_and (pe_chain op_le op_le pe_int (pe_callB call_len_str (by rfl) T.mLen PySem.boot_len (pa_cons (pv 0) pa_nil)) (pe_glob (v := .int 4) (by rfl) T.mLong ⟨_, rfl⟩))
        (pe_one (pe_callB (cr_all rfl) (by rfl) T.mAll (by decide +kernel) (pa_cons (pe_lc (own := [("letter", 1)]) (g := gName 1) (tt := tYes) (by rfl) scIsName.nd (pi_str (pv 0))
          (blkOk_by (N := ["value", "letter"]) (sc := defScope sIsName) (by decide +kernel)) (fun _ _ _ _ _ => pg_name (i := 1) scIsName.nd rfl (Or.inl rfl)) (fun _ _ _ _ _ => pts_nil)
          (fun _ _ _ _ _ => pe_chain op_le_str op_le_str pe_str (pv 1) pe_str)) pa_nil)))))), ?_⟩
    refine ⟨_, rfl, v, _, _, _, _, rfl, .ty _, dp_ty hd, kit_ty (kit_str d), _, rfl, ?_⟩
    cases d with
    | str z =>
      cases hd
      refine ⟨_, rfl, T.words, rowV, rfl, .inr (T.hWords H), rfl, rfl, _, rfl, ?_⟩
      have hl' : z.length ≤ 900 := hl
      cases e : inV (.str z) rowV with
      | true =>
        have e2 : nameD (.str z) = false := by show nameS z = false; unfold nameS; rw [e]; rfl
        rw [e2] at q
        refine iteT ?_
        exact q H (Same.refl H) (Mo.refl H)
      | false =>
        refine iteF ?_
        refine ⟨_, rfl, z, rfl, Nat.le_trans hl' (by decide), _, _, rfl, rfl, _, rfl, ?_⟩
        have e2 : nameD (.str z) = ((decide (1 ≤ (z.length : Int)) && decide ((z.length : Int) ≤ 4)) && z.cps.toList.all lok) := by show nameS z = _; unfold nameS; rw [e]; rfl
        rw [e2] at q
        cases h1 : decide (1 ≤ (z.length : Int)) with
        | false =>
          rw [h1] at q
          refine iteF ?_
          exact ⟨false, rfl, iteF (q H (Same.refl H) (Mo.refl H))⟩
        | true =>
          rw [h1] at q
          refine iteT ?_
          refine ⟨_, _, rfl, rfl, _, rfl, ?_⟩
          cases h2 : decide ((z.length : Int) ≤ 4) with
          | false =>
            rw [h2] at q
            exact iteF (q H (Same.refl H) (Mo.refl H))
          | true =>
            rw [h2] at q
            refine iteT ?_
            refine ⟨_, rfl, z, rfl, fun D hD => lc_it walk_str (fun i Hi => Hi = upd H D (.lst ((List.range i).map fun j => .bl (lok (z.cps.toList.getD j 0))))) rfl (fun _ _ _ _ => trivial) (fun i x Hi Hj hi hP hY => ?_) (fun Hi hP => ?_)⟩
            · obtain ⟨rfl, c, hc, rfl⟩ := hY
              subst hP
              have hi2 : i < 1000 := by
                have : z.cps.size = z.length := rfl
                omega
              have hg : z.cps.toList.getD i 0 = c := by
                rw [List.getD_eq_getElem?_getD, Array.getElem?_toList, hc]
                rfl
              have fin := lc_step (H1 := H) (D := D) (f := fun j => .bl (lok (z.cps.toList.getD j 0))) (i := i) hi2
              rw [hg, ← lok_eq] at fin
              refine ⟨rfl, _, rfl, _, _, rfl, rfl, _, rfl, ?_⟩
              cases h3 : (!decide ([c] < [97])) with
              | false =>
                have h4 : (!decide (({ cps := #[c] } : Str).cps.toList < (Str.ofString "a").cps.toList)) = false := h3
                rw [h3] at fin
                rw [h4]
                exact fin
              | true =>
                have h4 : (!decide (({ cps := #[c] } : Str).cps.toList < (Str.ofString "a").cps.toList)) = true := h3
                rw [h3] at fin
                rw [h4]
                exact ⟨_, _, rfl, rfl, fin⟩
            · subst hP
              refine ⟨D, (List.range z.cps.size).map fun j => lok (z.cps.toList.getD j 0), rfl, ?_, ?_⟩
              · refine SqL.of ?_
                rw [upd_same, List.map_map]
                rfl
              · have e3 := range_getD (f := lok) z.cps.toList
                rw [Array.length_toList] at e3
                rw [e3]
                exact q _ (Same.new hD) Mo.upd
    | none => exact q H (Same.refl H) (Mo.refl H)
    | list ds => exact q H (Same.refl H) (Mo.refl H)
    | tuple ds => exact q H (Same.refl H) (Mo.refl H)
    | dict ds => exact q H (Same.refl H) (Mo.refl H)
    | int i => exact q H (Same.refl H) (Mo.refl H)
    | bool i => exact q H (Same.refl H) (Mo.refl H)
end
end Pn

namespace Pn
open PySem L2
theorem iteTD {c : Bool} {A B : Prop} (hc : c = true) (h : A) : if c = true then A else B := by
  rw [if_pos hc]
  exact h
theorem iteFD {c : Bool} {A B : Prop} (hc : c = false) (h : B) : if c = true then A else B := by
  rw [hc, if_neg Bool.false_ne_true]
  exact h
/-! ### own exceptions that keep one thing -/
theorem same_made {H1 : Hp} {a d : Addr} {y : V} {f : Str} {o1 o2 o3 : HO} (ha : H1 a = none) (hd : H1 d = none) : Same H1 (upd (del (upd (upd (upd H1 a o1) d o2) a o3) a) d (.xd [(f, y)])) := fun b o e => by
  have n1 : b ≠ a := ne_of_none e ha
  have n2 : b ≠ d := ne_of_none e hd
  rw [upd_ne n2, del_ne n1, upd_ne n1, upd_ne n2, upd_ne n1]
  exact e
/-- an own exception class of the text whose __init__ keeps one thing under the name fld -/
structure TExc (K : PySem.W.Frag) (mg : Str → Option Value) (x : Str) (qual fld : Str) (st : Stmt) : Type where
  C : Addr
  fI : Addr
  fd : FuncData
  F : Fun K "__init__" qual st fI fd
  b : Binds K fd ["self", fld] []
  m : mg x = some (.ref C)
  O : OexC K C
  iC : PySem.W.findIn K (.ref C) "__init__" = some (some (.ref fI))
  tI : PySem.W.typeIn K (.ref fI) = some (.type "function")
  noF : PySem.W.findIn K (.ref C) fld = some none
  E : ExcC K C
  isC : PySem.W.isClsIn K C = true
  te : PySem.W.exmOne K (.ref C) (.ref C) = some true
  xf : XfC K C
def spXInit (K : PySem.W.Frag) (fld : Str) : Sp := fun vs H Q _ => ∃ (a C : Addr) (v : V), vs = [.ref a, v] ∧ H a = some (exo a C none) ∧ OexC K C ∧ PySem.W.findIn K (.ref C) fld = some none ∧
  ∀ dx, H dx = none → dx ≠ a → Q .non (upd (upd H dx (exd dx [(fld, v)])) a (exo a C (some dx)))
/-- isinstance of the exception that a suite holds -/
def rIsX (K : PySem.W.Frag) (D a : Addr) (cls : Value) (d : Option Addr) : List V → Hp → VK → Prop := fun xs H Q => ∃ (c : V) (cv : Value) (b : Bool) (dd : Addr) (fs : List (Str × V)), xs = [.ref a, c] ∧ cls = .ref D ∧ ClsV c cv ∧ PySem.W.kitOne K (.ref D) cv = some b ∧ d = some dd ∧ H dd = some (.xd fs) ∧ Q (.bl b) H
theorem call_isX {X : Cx} {a D : Addr} {cls : Value} {d : Option Addr} {oe : Obj} {pn : List (Addr × Obj)} (C : ExcC X.K D) (hz : Zc cls d oe) (hf : ∃ vs, oe.data = .fields vs) : CallR (X.suite a ((a, oe) :: pn)) (.builtin "isinstance") (rIsX X.K D a cls d) := by
  intro pins s σ H xs us Q I r h
  obtain ⟨c, cv, b, dd, fs, rfl, rfl, hcv, e, rfl, hdd, q⟩ := h
  obtain ⟨u1, u2, rfl, r1, r2⟩ := vals2 r
  obtain rfl : u1 = Value.ref a := r1
  obtain rfl : u2 = cv := hcv.eq r2
  obtain ⟨hget, _⟩ := I.pin (a, oe) (List.mem_append.mpr (.inl List.mem_cons_self))
  obtain ⟨mA, hns, _⟩ : ObjOk X.prog X.w H s.heap dd (.xd fs) := I.hok dd _ hdd
  obtain ⟨od, ho, _⟩ := lookIn_ns hns
  obtain ⟨vs, hv⟩ := hf
  have J : PySem.W.InstAt s.heap a oe D (some od) := ⟨hget, hz.1, by unfold PySem.W.notCls; rw [hv] <;> rfl, by rw [hz.2]; exact ho⟩
  have hcl : (PySem.W.clsIn X.K D).isSome = true := by
    have q := C.hd
    unfold PySem.W.hasDictIn at q
    cases z : PySem.W.clsIn X.K D with
    | some cd => rfl
    | none => rw [z] at q; cases q
  exact PySem.W.kia_one (PySem.W.kitx_exc hcl C.hg C.hk C.hs C.ha C.hn C.ht C.hm) I.kIn J e (fun z => nomatch z) fun tk => ⟨.bl b, H, I.tok tk, rfl, q⟩
end Pn

namespace Pn
open PySem PySem.Spec PyProof.Rows L2
/-! ### the same exceptions, with what is known of their context -/
section
variable {X : Cx} {CX : CXT} {C fI : Addr} {k : Nat} {fd : FuncData} {ps : List Str} {sp : Sp} {ta : TA}
end
section
variable {P : Program} {w : World} {K : PySem.W.Frag} {mg : Str → Option Value} {base : Heap}
theorem funD {x qual : Str} {st : Stmt} {f : Addr} {fd : FuncData} (F : Fun K x qual st f fd) : FunD K x qual (defArgs st) (defBody st) (defScope st) [] [] f fd := by
  obtain ⟨oc, od, kV, doc, pm, an, cdv, ct, osl, e, l, c⟩ := F.ex
  exact ⟨⟨oc, od, _, kV, doc, pm, an, cdv, ct, osl, e, l, c, .inl ⟨rfl, rfl⟩, .inl rfl⟩, F.kp⟩
end
end Pn

namespace Pn
open PySem L2
/-! ### drawn values: what they are as data -/
/-- the data of a value that is no object -/
def pd : V → Option PyData
  | .non => some .none
  | .bl b => some (.bool b)
  | .int i => some (.int i)
  | .str x => some (.str x)
  | _ => none
theorem pd_dp {K : PySem.W.Frag} {H : Hp} : ∀ {v : V} {d : PyData}, pd v = some d → Dp K H v d
  | .non, _, h => by cases h; exact .non
  | .bl _, _, h => by cases h; exact .bl _
  | .int _, _, h => by cases h; exact .int _
  | .str _, _, h => by cases h; exact .str _
  | .ref _, _, h => by cases h
  | .byt _, _, h => by cases h
  | .flt _, _, h => by cases h
  | .ty _, _, h => by cases h
/-- the values that are no sequences -/
def leafV : List V := [.non, .bl true, .bl false, .int 0, .int 1, .int (-1), .int 5, .int 1000000000000, .str "", .str "a", .str "note", .str "set", .str "part", .str "cat", .str "abcd", .str "abcde", .str "A", .str "a b", .str "a1", .str " a", .str "one", .str "under"]
def leafD : List PyData := leafV.filterMap pd
/-- data nested at most n deep over these -/
def Dt : Nat → PyData → Prop
  | 0, d => d ∈ leafD
  | n + 1, d => d ∈ leafD ∨ ∃ ds : List PyData, ds.length ≤ 2 ∧ (∀ e ∈ ds, Dt n e) ∧ (d = .list ds ∨ d = .tuple ds)
theorem Dt.leaf {n : Nat} {d : PyData} (h : d ∈ leafD) : Dt n d := by
  cases n with
  | zero => exact h
  | succ n => exact .inl h
theorem Dt.up {d : PyData} : ∀ {n m : Nat}, n ≤ m → Dt n d → Dt m d
  | 0, _, _, h => Dt.leaf h
  | n + 1, 0, l, _ => absurd l (by omega)
  | n + 1, m + 1, l, h => by
    rcases h with h | ⟨ds, h1, h2, h3⟩
    · exact .inl h
    · exact .inr ⟨ds, h1, fun e he => Dt.up (Nat.le_of_succ_le_succ l) (h2 e he), h3⟩
section
variable {P : Program} {w : World} {K : PySem.W.Frag} {mg : Str → Option Value} {base : Heap}
/-! ### a drawn value -/
end
end Pn

namespace Pn
open PySem L2
section
variable {P : Program} {w : World} {K : PySem.W.Frag} {mg : Str → Option Value} {base : Heap}
/-- InvalidRow(wd) leaves the def -/
def RaiseW (C : Addr) (H : Hp) (E : XK) (wd : V) : Prop := ∀ (e : Addr) (H' : Hp), Same H H' → Mo H H' → H e = none → H' e = some (.xd [("word", wd)]) → E (.ref C) (some e) H'
theorem RaiseW.back {C : Addr} {H H1 : Hp} {E : XK} {wd : V} (h : RaiseW C H E wd) (s : Same H H1) (m : Mo H H1) : RaiseW C H1 E wd := fun e H' h1 h2 h3 h4 => h e H' (s.trans h1) (m.trans h2) (m e h3) h4
/-- all but the new instance is as it was -/
def KpI (x : Addr) (H H' : Hp) : Prop := ∀ b o, H b = some o → b ≠ x → H' b = some o
/-! ### Keep -/
/-! ### Back -/
/-! ### Ref -/
/-! ### Put -/
/-! ### Open -/
/-! ### Note, Skip, Set -/
def setD (d : PyData) : Bool := numD d
end
end Pn

namespace Pn
open PySem L2
section
variable {X : Cx} {CX : CXT} {k : Nat} {f C : Addr} {fd : FuncData} {ps : List Str} {sp : Sp} {E : XK}
end
end Pn

namespace Pn
open PySem L2 TL
/-! ### rows as data -/
inductive RowD where
  | note (c l : Str) | skip (c : Str) (n : Nat) | set (c : Str) (n : Nat) | keep (c : Str) | back (c : Str) | ref (l : Str) | put (p : Str) | opn (x : Str)
section
variable {P : Program} {w : World} {K : PySem.W.Frag} {mg : Str → Option Value} {base : Heap}
end
end Pn

namespace Pn
open PySem L2 TL
/-! ### numbers in texts -/
section
variable {P : Program} {w : World} {K : PySem.W.Frag} {mg : Str → Option Value} {base : Heap}
/-- InvalidText(at) leaves the def -/
def RaiseT (C : Addr) (H : Hp) (E : XK) (n : Int) : Prop := ∀ (e : Addr) (H' : Hp), Same H H' → Mo H H' → H e = none → H' e = some (.xd [("at", .int n)]) → E (.ref C) (some e) H'
theorem RaiseT.back {C : Addr} {H H1 : Hp} {E : XK} {n : Int} (h : RaiseT C H E n) (s : Same H H1) (m : Mo H H1) : RaiseT C H1 E n := fun e H' h1 h2 h3 h4 => h e H' (s.trans h1) (m.trans h2) (m e h3) h4
end
end Pn

namespace Pn
open PySem L2 TL
/-! ### what a line's words tell -/
section
variable {P : Program} {w : World} {K : PySem.W.Frag} {mg : Str → Option Value} {base : Heap}
theorem kpi_same2 {H H1 : Hp} {x dx : Addr} {o o2 : HO} (hx : H x = none) (hdx : H dx = none) (k : KpI x (upd (upd H dx o) x o2) H1) : Same H H1 := fun b u e => by
  have n1 : b ≠ x := ne_of_none e hx
  have n2 : b ≠ dx := ne_of_none e hdx
  exact k b u (by rw [upd_ne n1, upd_ne n2]; exact e) n1
theorem ins_same2 {H : Hp} {x dx : Addr} {o o2 : HO} (hx : H x = none) (hdx : H dx = none) : Same H (upd (upd H dx o) x o2) := fun b u e => by
  rw [upd_ne (ne_of_none e hx), upd_ne (ne_of_none e hdx)]
  exact e
end
end Pn

namespace Pn
open PySem L2 TL
/-! ### read_row -/
theorem strOk_tl {z : Str} : PyData.strOk z = true ↔ ∀ c ∈ tl z, c < 0x110000 := by
  unfold PyData.strOk
  simp only [Array.all_eq_true']
  constructor
  · intro h c hc
    exact of_decide_eq_true (h c (by simpa using hc))
  · intro h c hc
    exact decide_eq_true (h c (by simpa using hc))
section
variable {P : Program} {w : World} {K : PySem.W.Frag} {mg : Str → Option Value} {base : Heap}
end
end Pn

namespace Pn
open PySem L2
def alpha : Str := "abcdefghijklmnopqrstuvwxyz"
theorem alpha_mem (c : Nat) : (!decide (c ∈ alpha.cps.toList)) = !lok c := by
  have h1 : ∀ x ∈ alpha.cps.toList, lok x = true := List.all_eq_true.mp (by decide +kernel)
  have h2 : ∀ x ∈ List.range 123, lok x = true → x ∈ alpha.cps.toList := by
    have : ((List.range 123).all fun x => !lok x || decide (x ∈ alpha.cps.toList)) = true := by decide +kernel
    intro x hx hl
    have q := List.all_eq_true.mp this x hx
    rw [hl] at q
    simpa using q
  cases h : lok c with
  | true =>
    have h3 : c < 123 := by
      unfold lok at h
      have := (Bool.and_eq_true_iff.mp h).2
      have := of_decide_eq_true this
      omega
    rw [decide_eq_true (h2 c (List.mem_range.mpr h3) h)]
  | false =>
    rw [decide_eq_false fun z => by rw [h1 c z] at h; cases h]
def badL (z : Str) (i : Nat) : List Nat := (z.cps.toList.take i).filter fun c => !lok c
theorem badL_all (z : Str) : (badL z z.cps.size).isEmpty = z.cps.toList.all lok := by
  unfold badL
  rw [show z.cps.size = z.cps.toList.length from Array.length_toList.symm, List.take_length]
  cases h : z.cps.toList.all lok with
  | true =>
    have : z.cps.toList.filter (fun c => !lok c) = [] := List.filter_eq_nil_iff.mpr fun c hc => by
      have := List.all_eq_true.mp h c hc
      rw [this]
      decide
    rw [this]
    rfl
  | false =>
    rw [Bool.eq_false_iff]
    intro q
    have q2 : z.cps.toList.filter (fun c => !lok c) = [] := List.isEmpty_iff.mp q
    have q3 := List.filter_eq_nil_iff.mp q2
    have : z.cps.toList.all lok = true := List.all_eq_true.mpr fun c hc => by
      have := q3 c hc
      simpa using this
    rw [this] at h
    cases h
theorem badL_succ {z : Str} {i c : Nat} (h : z.cps[i]? = some c) : badL z (i + 1) = if lok c then badL z i else badL z i ++ [c] := by
  unfold badL
  have h2 : z.cps.toList[i]? = some c := by rw [Array.getElem?_toList]; exact h
  have h3 : z.cps.toList.take (i + 1) = z.cps.toList.take i ++ [c] := by
    rw [List.take_add_one, h2]
    rfl
  rw [h3, List.filter_append]
  cases h4 : lok c <;> simp [h4]
def sgV (c : Nat) : V := .str ⟨#[c]⟩
def sgD (c : Nat) : PyData := .str ⟨#[c]⟩
theorem sg_all {K : PySem.W.Frag} {H : Hp} : ∀ l : List Nat, DpAll K H (l.map sgV) (l.map sgD)
  | [] => .nil
  | c :: l => .cons (.str _) (sg_all l)
theorem sg_lay : ∀ l : List Nat, (∀ c ∈ l, c < 0x110000) → PyData.canLayAll0 (l.map sgD) = true
  | [], _ => by simp [PyData.canLayAll0]
  | c :: l, h => by
    have h1 : PyData.strOk ⟨#[c]⟩ = true := by
      unfold PyData.strOk
      simp only [Array.all_eq_true']
      intro x hx
      have : x = c := by simpa using hx
      rw [this]
      exact decide_eq_true (h c List.mem_cons_self)
    show (PyData.strOk ⟨#[c]⟩ && PyData.canLayAll0 (l.map sgD)) = true
    rw [h1, sg_lay l fun x hx => h x (List.mem_cons_of_mem _ hx)]
    rfl
theorem sg_depth : ∀ l : List Nat, PyData.depthAll (l.map sgD) = 0
  | [] => by simp [PyData.depthAll]
  | c :: l => by simp [PyData.depthAll, sgD, PyData.depth, sg_depth l]
theorem sg_shaped (l : List Nat) (h : ∀ c ∈ l, c < 0x110000) : SeqAt.shaped (.list (l.map sgD)) = true := by
  show (PyData.canLay0 (.list (l.map sgD)) && decide (PyData.depth (.list (l.map sgD)) ≤ 64)) = true
  rw [Bool.and_eq_true]
  refine ⟨by simp only [PyData.canLay0]; exact sg_lay l h, decide_eq_true ?_⟩
  simp only [PyData.depth, sg_depth]
  decide
theorem sg_nil (l : List Nat) : PyData.eqv (.list (l.map sgD)) (.list []) = l.isEmpty := by
  cases l <;> simp [PyData.eqv, PyData.eqvAll]
theorem codes_ok {z : Str} (h : SeqAt.shaped (.str z) = true) : ∀ c ∈ z.cps.toList, c < 0x110000 := fun c hc => by
  have h1 := SeqAt.canLay_of_shaped h
  have h2 : PyData.strOk z = true := h1
  unfold PyData.strOk at h2
  simp only [Array.all_eq_true'] at h2
  exact of_decide_eq_true (h2 c (by simpa using hc))
section
variable {P : Program} {w : World} {K : PySem.W.Frag} {mg : Str → Option Value} {base : Heap}
end
end Pn

namespace Pn
open PySem L2
/-- a pool of names: counters, parts, open places, labels -/
structure Pool where
  c : List Str
  p : List Str
  x : List Str
  l : List Str
/-- a pool as it stands -/
def PoolAt (H : Hp) (a : Addr) (d : Pool) : Prop := ∃ a0 a1 a2 a3 : Addr, H a = some (.lst [.ref a0, .ref a1, .ref a2, .ref a3]) ∧ H a0 = some (.lst (d.c.map V.str)) ∧ H a1 = some (.lst (d.p.map V.str)) ∧ H a2 = some (.lst (d.x.map V.str)) ∧ H a3 = some (.lst (d.l.map V.str))
section
variable {P : Program} {w : World} {K : PySem.W.Frag} {mg : Str → Option Value} {base : Heap}
end
end Pn

namespace Pn
open PySem L2
/-- counters as they stand: a list of pairs -/
def CsAt (H : Hp) (c : Addr) (cs : List (Str × Str)) : Prop := ∃ ts : List Addr, H c = some (.lst (ts.map V.ref)) ∧ Paired (fun t p => H t = some (.tup [.str p.1, .str p.2])) ts cs
theorem paired_mono {α β : Type} {R S : α → β → Prop} (h : ∀ a b, R a b → S a b) : ∀ {l : List α} {m : List β}, Paired R l m → Paired S l m
  | _, _, .nil => .nil
  | _, _, .cons a b => .cons (h _ _ a) (paired_mono h b)
theorem paired_snoc {α β : Type} {R : α → β → Prop} {x : α} {y : β} (h : R x y) : ∀ {l : List α} {m : List β}, Paired R l m → Paired R (l ++ [x]) (m ++ [y])
  | _, _, .nil => .cons h .nil
  | _, _, .cons a b => .cons a (paired_snoc h b)
theorem paired_at {α β : Type} {R : α → β → Prop} : ∀ {l : List α} {m : List β} {i : Nat} {x : α}, Paired R l m → l[i]? = some x → ∃ y, m[i]? = some y ∧ R x y
  | _, _, _, _, .nil, h => by simp at h
  | _, _, 0, _, .cons a _, h => by
    have e := Option.some.inj h
    subst e
    exact ⟨_, rfl, a⟩
  | _, _, i + 1, _, .cons _ b, h => paired_at (i := i) b h
theorem paired_len {α β : Type} {R : α → β → Prop} : ∀ {l : List α} {m : List β}, Paired R l m → l.length = m.length
  | _, _, .nil => rfl
  | _, _, .cons _ b => by rw [List.length_cons, List.length_cons, paired_len b]
section
variable {P : Program} {w : World} {K : PySem.W.Frag} {mg : Str → Option Value} {base : Heap}
end
end Pn

namespace Pn
open PySem L2
/-- a row as the tuple that the law draws -/
def rowTup : RowD → List V
  | .note c l => [.str "note", .str c, .str l]
  | .skip c n => [.str "skip", .str c, .int (n : Int)]
  | .set c n => [.str "set", .str c, .int (n : Int)]
  | .keep c => [.str "keep", .str c]
  | .back c => [.str "back", .str c]
  | .ref c => [.str "ref", .str c]
  | .put c => [.str "put", .str c]
  | .opn c => [.str "open", .str c]
theorem PoolAt.mono {H H' : Hp} {a : Addr} {d : Pool} (s : Same H H') (h : PoolAt H a d) : PoolAt H' a d := by
  obtain ⟨a0, a1, a2, a3, e, e0, e1, e2, e3⟩ := h
  exact ⟨a0, a1, a2, a3, s _ _ e, s _ _ e0, s _ _ e1, s _ _ e2, s _ _ e3⟩
theorem CsAt.mono {H H' : Hp} {a : Addr} {cs : List (Str × Str)} (s : Same H H') (h : CsAt H a cs) : CsAt H' a cs := by
  obtain ⟨ts, e, p⟩ := h
  exact ⟨ts, s _ _ e, paired_mono (fun _ _ z => s _ _ z) p⟩
theorem hid_ne {H : Hp} {b a : Addr} {o : HO} (h : hid H b a = some o) : a ≠ b := fun z => by
  unfold hid at h
  rw [if_pos z] at h
  cases h
theorem BoxAt.new {b t : Addr} {H : Hp} {o : HO} (h : BoxAt H b) (ht : H t = none) : BoxAt (upd H t o) b := by
  obtain ⟨x, y, e, g⟩ := h
  exact ⟨x, y, e, Same.new ht b _ g⟩
theorem BoxAt.ne {b t : Addr} {H : Hp} (h : BoxAt H b) (ht : H t = none) : t ≠ b := fun z => by
  obtain ⟨x, y, e, g⟩ := h
  rw [z, g] at ht
  cases ht
theorem name_ok {z : Str} (h : nameS z = true) : PyData.strOk z = true ∧ z.length ≤ 4 := by
  unfold nameS at h
  rw [Bool.and_eq_true, Bool.and_eq_true, Bool.and_eq_true] at h
  obtain ⟨⟨_, h2, h3⟩, h4⟩ := h
  refine ⟨strOk_tl.mpr fun c hc => ?_, by have := of_decide_eq_true h3; omega⟩
  have q := List.all_eq_true.mp h4 c hc
  unfold lok at q
  rw [Bool.and_eq_true] at q
  have := of_decide_eq_true q.2
  omega
section
variable {P : Program} {w : World} {K : PySem.W.Frag} {mg : Str → Option Value} {base : Heap}
end
end Pn

namespace Pn
open PySem L2 TL
section
variable {P : Program} {w : World} {K : PySem.W.Frag} {mg : Str → Option Value} {base : Heap}
end
end Pn

namespace Pn
open PySem L2 TL
end Pn

namespace Pn
open PySem L2 TL
section
variable {P : Program} {w : World} {K : PySem.W.Frag} {mg : Str → Option Value} {base : Heap}
end
end Pn

namespace Pn
open PySem L2
/-! ### == of an own instance whose class has an __eq__ of its own -/
section
variable {X : Cx} {CX : CXT} {k : Nat} {f C : Addr} {fd : FuncData} {ps : List Str} {sp : Sp} {E : XK}
end
end Pn
namespace Pn
open PySem PySem.W PyProof.Rows
section
variable {prog : Program} {w : World} {A : Around} {E : Value → Shared → Prop} {s : Shared} {K : Frag} {x C L f : Addr} {h₀ : Heap} {m : Str → Option Value} {ox : Obj} {od : Option Obj} {b tb : Value}
end
end Pn
namespace Pn
open PySem L2
section
variable {X : Cx} {CX : CXT} {k : Nat} {f C : Addr} {fd : FuncData} {ps : List Str} {sp : Sp} {E : XK}
end
end Pn

namespace Pn
open PySem L2 TL
section
variable {P : Program} {w : World} {K : PySem.W.Frag} {mg : Str → Option Value} {base : Heap}
end
end Pn

namespace Pn
open PySem PySem.Spec PyProof.Rows L2
/-! ### the law's def at the surrounding that the judge calls it from: there no repr is under way -/
section
variable {P : Program} {w : World} {K : PySem.W.Frag} {mg mb : Str → Option Value} {s₁ : Shared} {a : Addr} {vs : List Value} {ns : List Int}
end
end Pn
namespace Pn
open PySem PySem.Spec PyProof.Rows L2
section
variable {P : Program} {w : World} {K : PySem.W.Frag} {mg : Str → Option Value} {base : Heap} {A : Around}
end
end Pn

namespace Pn
open PySem PySem.Spec PyProof.Rows L2
/-! ### repr of a tuple of texts and integers, where no repr is under way -/
/-- plain items as data -/
inductive Fl : List V → List PyData → Prop where
  | nil : Fl [] []
  | str {vs ds} (z : Str) (r : Fl vs ds) : Fl (.str z :: vs) (.str z :: ds)
  | int {vs ds} (i : Int) (r : Fl vs ds) : Fl (.int i :: vs) (.int i :: ds)
theorem Fl.reads {h : Heap} : ∀ {vs : List V} {ds : List PyData} {us : List Value}, Fl vs ds → Vals vs us → ReadsAll h us ds []
  | _, _, _, .nil, r => by
    cases r
    exact .nil
  | _, _, _, .str z f, r => by
    cases r with
    | cons r1 r2 =>
      obtain ⟨t, rfl⟩ := r1
      exact .cons (.str z t) (f.reads r2)
  | _, _, _, .int i f, r => by
    cases r with
    | cons r1 r2 =>
      obtain ⟨t, rfl⟩ := r1
      exact .cons (.int i t) (f.reads r2)
section
variable {X : Cx}
end
end Pn

namespace Pn
open PySem L2 TL
/-! ### texts put together of words: their size -/
def sz1 (l : List Str) : Nat := (l.map fun x => x.length + 1).sum
theorem sz1_cons (x : Str) (l : List Str) : sz1 (x :: l) = x.length + 1 + sz1 l := by
  unfold sz1
  rw [List.map_cons, List.sum_cons]
theorem sz1_sub {l m : List Str} (h : l.Sublist m) : sz1 l ≤ sz1 m := by
  induction h with
  | slnil => exact Nat.le_refl _
  | cons a _ ih => rw [sz1_cons]; omega
  | cons_cons a _ ih => rw [sz1_cons, sz1_cons]; omega
/-- words of at most n signs with as many blanks, all of good signs -/
def Sm (n : Nat) (l : List Str) : Prop := sz1 l ≤ n ∧ ∀ x ∈ l, PyData.strOk x = true
theorem Sm.sub {n : Nat} {l m : List Str} (h : Sm n m) (s : l.Sublist m) : Sm n l := ⟨Nat.le_trans (sz1_sub s) h.1, fun x hx => h.2 x (s.subset hx)⟩
theorem sz1_lens : ∀ l : List Str, (l.map (·.length)).sum + l.length * (" " : Str).length = sz1 l
  | [] => rfl
  | x :: l => by
    have q := sz1_lens l
    rw [show (" " : Str).length = 1 from by decide +kernel] at q ⊢
    rw [sz1_cons, List.map_cons, List.sum_cons, List.length_cons]
    omega
theorem Sm.fits {n : Nat} {l : List Str} (h : Sm n l) (hn : n ≤ 16777216) : (l.map (·.length)).sum + l.length * (" " : Str).length ≤ 16777216 := by
  rw [sz1_lens]
  exact Nat.le_trans h.1 hn
end Pn

namespace Pn
open PySem L2 TL
/-! ### what the law asks of a made row -/
section
variable {P : Program} {w : World} {K : PySem.W.Frag} {mg : Str → Option Value} {base : Heap}
end
end Pn

namespace Pn
open PySem L2 TL
/-! ### a row's text, read back -/
end Pn

namespace Pn
open PySem L2
/-! ### parts as they are drawn, and their unrolled text -/
abbrev PartD := Str × List RowD
def RowsAt (H : Hp) (us : List Addr) (rs : List RowD) : Prop := Paired (fun t r => H t = some (.tup (rowTup r))) us rs
def LstAt (H : Hp) (a : Addr) (rs : List RowD) : Prop := ∃ us : List Addr, H a = some (.lst (us.map V.ref)) ∧ RowsAt H us rs
def PartAt (H : Hp) (t : Addr) (p : PartD) : Prop := ∃ ra, H t = some (.tup [.str p.1, .ref ra]) ∧ LstAt H ra p.2
def PartsAt (H : Hp) (a : Addr) (bk : List PartD) : Prop := ∃ ts : List Addr, H a = some (.lst (ts.map V.ref)) ∧ Paired (PartAt H) ts bk
theorem RowsAt.same {H H' : Hp} {us : List Addr} {rs : List RowD} (h : RowsAt H us rs) (s : Same H H') : RowsAt H' us rs := paired_mono (fun _ _ e => s _ _ e) h
theorem LstAt.same {H H' : Hp} {a : Addr} {rs : List RowD} (h : LstAt H a rs) (s : Same H H') : LstAt H' a rs := by
  obtain ⟨us, e, p⟩ := h
  exact ⟨us, s _ _ e, p.same s⟩
theorem PartAt.same {H H' : Hp} {t : Addr} {p : PartD} (h : PartAt H t p) (s : Same H H') : PartAt H' t p := by
  obtain ⟨ra, e, q⟩ := h
  exact ⟨ra, s _ _ e, q.same s⟩
theorem PartsAt.same {H H' : Hp} {a : Addr} {bk : List PartD} (h : PartsAt H a bk) (s : Same H H') : PartsAt H' a bk := by
  obtain ⟨ts, e, p⟩ := h
  exact ⟨ts, s _ _ e, paired_mono (fun _ _ z => z.same s) p⟩
section
variable {P : Program} {w : World} {K : PySem.W.Frag} {mg : Str → Option Value} {base : Heap}
end
end Pn

namespace Pn
open PySem L2 TL
abbrev sIsSeq : Stmt := top 5
/-! ### a sequence, and which of its things are rows -/
def seqD : PyData → Bool
  | .list _ => true
  | .tuple _ => true
  | _ => false
theorem kit_two {K : PySem.W.Frag} {t : String} {a b : Bool} (h1 : kitB t "list" = some a) (h2 : kitB t "tuple" = some b) : PySem.W.kitAny K (.type t) [.type "list", .type "tuple"] = some (a || b) := by
  cases a
  · refine kitAny_cons (kit_ty h1) (fun _ => kitAny_cons (kit_ty h2) (fun z => ?_) (fun z => ?_)) (fun z => nomatch z)
    · rw [z]; exact kitAny_nil
    · rw [z]; rfl
  · exact kitAny_cons (kit_ty h1) (fun z => nomatch z) (fun _ => rfl)
theorem kit_seq {K : PySem.W.Frag} : ∀ d : PyData, PySem.W.kitAny K (.type (tyD d)) [.type "list", .type "tuple"] = some (seqD d)
  | .none => kit_two (by decide +kernel : kitB "NoneType" "list" = some false) (by decide +kernel : kitB "NoneType" "tuple" = some false)
  | .bool _ => kit_two (by decide +kernel : kitB "bool" "list" = some false) (by decide +kernel : kitB "bool" "tuple" = some false)
  | .int _ => kit_two (by decide +kernel : kitB "int" "list" = some false) (by decide +kernel : kitB "int" "tuple" = some false)
  | .str _ => kit_two (by decide +kernel : kitB "str" "list" = some false) (by decide +kernel : kitB "str" "tuple" = some false)
  | .list _ => kit_two (by decide +kernel : kitB "list" "list" = some true) (by decide +kernel : kitB "list" "tuple" = some false)
  | .tuple _ => kit_two (by decide +kernel : kitB "tuple" "list" = some false) (by decide +kernel : kitB "tuple" "tuple" = some true)
  | .dict _ => kit_two (by decide +kernel : kitB "dict" "list" = some false) (by decide +kernel : kitB "dict" "tuple" = some false)
theorem sql_ty {K : PySem.W.Frag} {H : Hp} {p : Addr} {xs : List V} (h : SqL K H p xs) : TyX K H (.ref p) (.type "list") := by
  rcases h with (s | ⟨o, s⟩) | ⟨o, _, _, e, c, _⟩
  · exact .base (.lst s)
  · exact .base (.frz s)
  · exact .kList e c
theorem sqt_ty {K : PySem.W.Frag} {H : Hp} {p : Addr} {xs : List V} (h : SqT K H p xs) : TyX K H (.ref p) (.type "tuple") := by
  rcases h with (s | ⟨o, s⟩) | ⟨o, _, _, e, c, _⟩
  · exact .base (.tup s)
  · exact .fTuple s
  · exact .kTuple e c
theorem sqt_ins {K : PySem.W.Frag} {H : Hp} {x C dx p : Addr} {fs : List (Str × V)} {o : HO} {xs : List V} (hx : H x = some (.ins C dx fs)) (h : SqT K H p xs) : SqT K (upd H x o) p xs := by
  rcases h with (s | ⟨u, s⟩) | s
  · exact .inl (.inl (by rw [upd_ne (fun z => by rw [z, hx] at s; cases s)]; exact s))
  · exact .inl (.inr ⟨u, by rw [upd_ne (fun z => by rw [z, hx] at s; cases s)]; exact s⟩)
  · exact .inr s
section
variable {X : Cx} {tg : Expr}
/-- for x in a list or a tuple: whichever it is known to be -/
def iSeq (K : PySem.W.Frag) (tl : TE) : TI := fun σ H R => iList K tl σ H R ∨ iTup K tl σ H R
theorem pi_seq {l : Expr} {tl : TE} (hl : PE X l tl) : PI X tg l (iSeq X.K tl) :=
  ⟨fun pins s σ H R I h => h.elim (fun a => (pi_list hl).run pins s σ H R I a) fun a => (pi_tup hl).run pins s σ H R I a⟩
end
section
variable {P : Program} {w : World} {K : PySem.W.Frag} {mg : Str → Option Value} {base : Heap}
def spIsSeq (K : PySem.W.Frag) : Sp := fun vs H Q _ => ∃ (v : V) (t : Value) (b : Bool), vs = [v] ∧ TyX K H v t ∧ PySem.W.kitAny K t [.type "list", .type "tuple"] = some b ∧ (∀ H', Same H H' → TyX K H' v t) ∧ ∀ H', Same H H' → Mo H H' → Q (.bl b) H'
theorem scIsSeq : FnScope ["value"] ["value"] (defScope sIsSeq) := ⟨rfl, rfl, rfl, by decide +kernel, rfl, by decide +kernel, by decide +kernel⟩
theorem ok_isSeq {f : Addr} {fd : FuncData} (F : Fun K "is_sequence" "is_sequence" sIsSeq f fd) (mIsi : mg "isinstance" = none) (mL : mg "list" = none) (mT : mg "tuple" = none) : FnOk P w K mg base CX0 1 f fd ["value"] (spIsSeq K) := by
  refine F.ok scIsSeq (fun vs H Q E h => ?_) (fun cdv A outer s H vs Q E hr h => ?_)
  · obtain ⟨v, t, b, rfl, _⟩ := h
    rfl
  · obtain ⟨v, t, b, rfl, ht, hk, hS, q⟩ := h
    refine ⟨_, pss_one (ps_ret (pe_callB call_isiT (by rfl) mIsi (by decide +kernel) (pa_cons (pv 0) (pa_cons (pe_tup (pa_cons (pe_bltn (v := .ty "list") (by rfl) mL (by decide +kernel) rfl) (pa_cons (pe_bltn (v := .ty "tuple") (by rfl) mT (by decide +kernel) rfl) pa_nil))) pa_nil)))), ?_⟩
    refine ⟨_, rfl, (by show 2 ≤ sizeLine; decide), fun p hp => ?_⟩
    exact ⟨v, p, _, t, _, b, rfl, upd_same, .cons (.ty _) (.cons (.ty _) .nil), hS _ (Same.new hp), hk, q _ (Same.new hp) Mo.upd⟩
end
end Pn

namespace Pn
open PySem L2 TL
section
variable {P : Program} {w : World} {K : PySem.W.Frag} {mg : Str → Option Value} {base : Heap}
end
end Pn

namespace Pn
open PySem PySem.Spec PyProof.Rows PySem.Froz
/-! ### sets of texts: which are in it, and a table that can be walked -/
/-- at a stands the set of the texts l -/
def TxtSet (P : Program) (w : World) (h : Heap) (a : Addr) (l : List Str) : Prop :=
  ∃ D : SD, h.get? a = some (sObj "set" D) ∧ TxOk P w D l ∧ L2.Ris D.2.2.place.toList ∧ (w.params.followText "set-order" = true ∨ D.2.2.led = true) ∧ l.Nodup
theorem TxtSet.keep {P : Program} {w : World} {h h' : Heap} {a : Addr} {l : List Str} (R : TxtSet P w h a l) (k : ∀ o, h.get? a = some o → h'.get? a = some o) : TxtSet P w h' a l := by
  obtain ⟨D, ho, r⟩ := R
  exact ⟨D, k _ ho, r⟩
section
variable {P : Program} {w : World} {A : Around} {E : Value → Shared → Prop} {s : Shared}
/-- the new set, empty -/
abbrev bare (w : World) : Obj := sObj "set" (#[], 0, .fresh 0 0 (!w.params.followText "set-order"))
end
end Pn

namespace Pn
open PySem L2
/-! ### sets of texts as rules: set(xs), len(s), sorted(s) -/
section
variable {X : Cx}
end
end Pn

namespace Pn
open PySem L2 TL
/-! ### books: what is asked of counters and parts, and the unrolled text -/
def putsOf (rs : List RowD) : List Str := rs.filterMap fun r => match r with | .put z => some z | _ => none
def reachStep (p : PartD) (ns : List Str) : List Str := if p.1 ∈ ns then ns ++ putsOf p.2 else ns
def reach (l : List PartD) (ns : List Str) : List Str := l.foldr reachStep ns
end Pn

namespace Pn
open PySem L2 TL
/-! ### drawn books -/
/-- the heap but for two places -/
def zz (H : Hp) (b p : Addr) : Hp := hid (hid H b) p
theorem BoxAt.upd {b p : Addr} {H : Hp} {o : HO} (h : BoxAt H b) (n : p ≠ b) : BoxAt (L2.upd H p o) b := by
  obtain ⟨x, y, e, g⟩ := h
  exact ⟨x, y, e, by rw [upd_ne n.symm]; exact g⟩
section
variable {P : Program} {w : World} {K : PySem.W.Frag} {mg : Str → Option Value} {base : Heap}
end
end Pn

namespace Pn
open PySem PySem.Spec PyProof.Rows L2
/-! ### enumerate(tuple) -/
section
open AutoSeq1 (wpAny_loadPart')
set_option maxHeartbeats 2000000 in
theorem enum_newT (t : Addr) (its : Array Value) (n : Nat) (dct : Option Addr) (sl : Array (Option Value)) :
    Meets (Builtin.«enumerate.__new__» ⟨[.type "enumerate", .ref t], []⟩) (fun _ R s => s.heap.get? t = some { cls := .type "tuple", dict := dct, data := .seq its n, slots := sl } ∧
      R (.ok (.ret (.ref (s.heap.push { cls := .type "tuple_iterator", data := .fields #[.ref t, .int 0 0] }).objs.size)))
        { s with heap := (s.heap.push { cls := .type "tuple_iterator", data := .fields #[.ref t, .int 0 0] }).push { cls := .type "enumerate", data := .fields #[.none, .bool false, .ref s.heap.objs.size, rawInt 0, .none, .none] } }) :=
  .of_wp fun prog w A R s h => by
    obtain ⟨hp, g, d, tk, os⟩ := s
    obtain ⟨ht, h⟩ := h
    have e1 := sub_enumerate
    have hL : Heap.IsTuple (Shared.heap ⟨hp, g, d, tk, os⟩) t its := ⟨_, ht, rfl, n, rfl⟩
    wp_walk using wpAny_loadPart' ht
    refine wpAny_stack_any fun st => wpAny_pure ?_
    split
    · rename_i c _ _ _ _ _
      cases (c == Value.type "enumerate") <;> (wp_walk using wpAny_loadPart' ht, wpAny_pyIter_tuple hL; exact ⟨_, rfl, h⟩)
    · wp_walk using wpAny_loadPart' ht, wpAny_pyIter_tuple hL
      exact ⟨_, rfl, h⟩
end
section
variable {prog : Program} {w : World} {A : Around} {E : Value → Shared → Prop} {s : Shared}
theorem enum_callT {t : Addr} {its : Array Value} {Q : Value → Shared → Prop} (hL : s.heap.IsTuple t its)
    (h : ∀ h', IsEnum h' (s.heap.objs.size + 1) s.heap.objs.size 0 .none → h'.IsTupleIter s.heap.objs.size t 0 → h'.objs.size = s.heap.objs.size + 2 →
      (∀ b o, s.heap.get? b = some o → h'.get? b = some o) → Q (.ref (s.heap.objs.size + 1)) { s with heap := h' }) :
    wpAny (model prog w) A (call (.type "enumerate") [.ref t]) Q E s := by
  obtain ⟨⟨c, dct, dt, sl⟩, hl, hc, n, hd⟩ := hL
  simp only at hc hd
  subst hc hd
  refine callType_new F.called_enumerate (by decide) (F.typeCall_enumerate_1 _) (F.newCall_enumerate_1 _) (fun z => F.args_object_init_2 z _) F.entry_enumerate_new (enum_newT t its n dct sl) ⟨hl, ?_⟩
  have hz : (s.heap.push { cls := .type "tuple_iterator", data := .fields #[.ref t, .int 0 0] }).objs.size = s.heap.objs.size + 1 := Heap.size_push ..
  show _ ∧ _
  rw [hz]
  have he : IsEnum ((s.heap.push { cls := .type "tuple_iterator", data := .fields #[.ref t, .int 0 0] }).push { cls := .type "enumerate", data := .fields #[.none, .bool false, .ref s.heap.objs.size, rawInt 0, .none, .none] })
      (s.heap.objs.size + 1) s.heap.objs.size 0 .none := by
    have q := Heap.get?_push_size (s.heap.push { cls := .type "tuple_iterator", data := .fields #[.ref t, .int 0 0] }) (o := { cls := .type "enumerate", data := .fields #[.none, .bool false, .ref s.heap.objs.size, rawInt 0, .none, .none] }) rfl
    rw [hz] at q
    exact q
  exact ⟨⟨_, he, rfl⟩, h _ he ⟨_, Heap.get?_push_of_some _ (Heap.get?_push_size _ rfl), rfl, rfl⟩ (by rw [Heap.size_push, hz]) fun b o x => Heap.get?_push_of_some _ (Heap.get?_push_of_some _ x)⟩
end
section
variable {prog : Program} {w : World} {A : Around} {E : Value → Shared → Prop} {s : Shared}
theorem enum_outT {e it t : Addr} {its : Array Value} {i : Nat} {old : Value} {Q : Option Value → Shared → Prop} (hh : A.handled = none) (he : IsEnum s.heap e it ((i : Nat) : Int) old) (hit : s.heap.IsTupleIter it t i) (hp : s.heap.IsTuple t its) (hi : its.size ≤ i)
    (hQ : ∀ h', Heap.ExtBut it s.heap h' → Q none { s with heap := h' }) : wpAny (model prog w) A (pyNext (.ref e)) Q E s := by
  have D : Draws prog w A.in1 it [it, t] i (fun _ _ => False) (fun j h => j = i ∧ h.IsTupleIter it t i ∧ h.IsTuple t its) := {
    live := fun _ _ st => by obtain ⟨_, ⟨o, ho, _⟩, _⟩ := st; exact ⟨o, ho⟩
    frame := fun _ _ _ st hk => ⟨st.1, st.2.1.at fun o e => hk it (by simp) o e, st.2.2.at fun o e => hk t (by simp) o e⟩
    item := fun j s Q E hj st _ => absurd st.1 (Nat.ne_of_lt hj)
    done := fun s Q E st hE => wpAny_nextOf_tuple_end hh st.2.1 st.2.2 (by simp [hi]) hE }
  exact wpAny_pyNext_enum_endD D he ⟨rfl, hit, hp⟩ hQ
end
/-- the things of the tuple at t with their numbers, each in a new pair -/
def IteT (K : PySem.W.Frag) (t : Addr) : It :=
  ⟨fun i H => ∃ (xs : List V) (x : V), SqT K H t xs ∧ xs[i]? = some x, fun i H v H' => ∃ T x, v = .ref T ∧ H T = none ∧ H' = upd H T (.tup [.int (i : Nat), x]) ∧ ∀ xs, SqT K H t xs → xs[i]? = some x, fun i H => ∃ xs : List V, SqT K H t xs ∧ xs.length ≤ i⟩
theorem tup_apart {h : Heap} {t e it : Addr} {its : Array Value} {i : Nat} {c : Int} {old : Value} (p : h.IsTuple t its) (he : IsEnum h e it c old) (hit : h.IsTupleIter it t i) : t ≠ it ∧ t ≠ e := by
  obtain ⟨o, ho, hc, _⟩ := p
  constructor
  · intro z
    subst z
    obtain ⟨o2, ho2, hc2, _⟩ := hit
    rw [ho] at ho2
    cases Option.some.inj ho2
    rw [hc] at hc2
    exact absurd hc2 (by decide)
  · intro z
    subst z
    have q : h.get? t = some _ := he
    rw [ho] at q
    have e2 := Option.some.inj q
    rw [e2] at hc
    have e3 : Value.type "enumerate" = Value.type "tuple" := hc
    exact absurd e3 (by decide)
theorem turn_enumT {P : Program} {w : World} {K : PySem.W.Frag} {elts : List Expr} {kk : Nat} {tpos : Pos} (t e it : Addr) :
    Turn P w K (.Tuple elts kk tpos) (IteT K t) [e, it] e (fun i h => (∃ old, IsEnum h e it ((i : Nat) : Int) old) ∧ h.IsTupleIter it t i ∧ e ≠ it) where
  mem := by simp
  obj := fun i h st b hb => by
    obtain ⟨⟨old, he⟩, ⟨o, ho, hc, hd⟩, _⟩ := st
    have e' : b = e ∨ b = it := by simpa using hb
    rcases e' with z | z
    · rw [z]; exact ⟨_, he, fun v q => nomatch q⟩
    · rw [z]; exact ⟨o, ho, fun v q => by rw [hd] at q; cases q⟩
  keep := fun i h h' st k => by
    obtain ⟨⟨old, he⟩, hi, hne⟩ := st
    exact ⟨⟨old, k e (by simp) _ he⟩, hi.at fun o q => k it (by simp) o q, hne⟩
  item := by
    intro X hP hw hK hc i pins s σ H E I hf st hg
    subst hP hw hK
    obtain ⟨⟨old, he⟩, hit, hne⟩ := st
    obtain ⟨xs, x, hq, hx⟩ := hg
    obtain ⟨its, rv, p, hz⟩ := I.tuple hq
    obtain ⟨u, hu, ru⟩ := rv.get hx
    obtain ⟨n1, n2⟩ := tup_apart p he hit
    have hel : e < s.heap.objs.size := Heap.lt_size he
    have hil : it < s.heap.objs.size := by
      obtain ⟨_, q, _⟩ := hit
      exact Heap.lt_size q
    have hn : i < its.toArray.size := by
      rw [List.size_toArray]
      exact (List.getElem?_eq_some_iff.mp hu).1
    refine wpAny_pyNext_enum_itemD (Draws.tuple (prog := X.prog) (w := X.w) (A := X.A.in1) (I.ok.hd hc) it t n1 its.toArray) he ⟨hit, p⟩ hn hne (by simp [hne, Ne.symm n2]) fun y h' tk hy ho hs hT hsz hk => ?_
    have ey : y = u := by
      rw [List.getElem?_toArray, hu] at hy
      exact (Option.some.inj hy).symm
    subst ey
    refine ⟨_, rfl, wpAny_letOwnedTupleGo_enum (s := { s with heap := h', toks := tk + 1 }) ho fun h'' he' sb => ?_⟩
    have hT2 : h''.get? s.heap.objs.size = some { cls := .type "tuple", data := .seq #[.int i tk, y] } := (sb.2 _ (Nat.ne_of_gt hel)).trans hT
    have new : ObjOk X.prog X.w (upd H s.heap.objs.size (.tup [.int (i : Nat), x])) h'' s.heap.objs.size (.tup [.int (i : Nat), x]) :=
      ⟨by show 2 ≤ sizeLine; decide, [.int i tk, y], .cons ⟨_, rfl⟩ (.cons ru .nil), ⟨_, hT2, rfl, _, rfl⟩⟩
    have I1 : Inv X pins σ (upd H s.heap.objs.size (.tup [.int (i : Nat), x])) { s with heap := h'', toks := tk + 1 } :=
      I.turnedNew (ch := [e, it]) (fun b ob hb q => by
        have b1 : b ≠ e := fun z => hb (by simp [z])
        have b2 : b ≠ it := fun z => hb (by simp [z])
        exact (sb.2 b b1).trans (hk b ob b1 b2 q)) hf (Nat.le_refl _) new
    refine ⟨.ref s.heap.objs.size, _, I1, rfl, ⟨_, x, rfl, I.hok.fresh (Nat.le_refl _), rfl, fun ys hy2 => by rw [I.tuple_inj hy2 hq]; exact hx⟩, ⟨⟨y, ?_⟩, hs.1.at fun o q => (sb.2 it (Ne.symm hne)).trans q, hne⟩, fun b hb => ?_⟩
    · rw [show ((i + 1 : Nat) : Int) = (i : Int) + 1 by omega]
      exact he'
    · have hb' : b < s.heap.objs.size := by
        have e2 : b = e ∨ b = it := by simpa using hb
        rcases e2 with rfl | rfl
        · exact hel
        · exact hil
      rw [upd_ne (Nat.ne_of_lt hb')]
      exact (hf b hb).1
  done := by
    intro X hP hw hK hc i pins s σ H E I hf st hg
    subst hP hw hK
    obtain ⟨⟨old, he⟩, hit, hne⟩ := st
    obtain ⟨xs, hq, hx⟩ := hg
    obtain ⟨its, rv, p, hz⟩ := I.tuple hq
    obtain ⟨n1, n2⟩ := tup_apart p he hit
    obtain ⟨f0, f1, f2, f3, f4, f5⟩ := hf it (by simp)
    have D := Draws.tuple (prog := X.prog) (w := X.w) (A := X.A.in1) (I.ok.hd hc) it t n1 its.toArray
    exact enum_outT (A := X.A) (I.ok.hd hc) he hit p (by rw [List.size_toArray, ← rv.length]; exact hx) fun h' eb => ⟨rfl, I.turned (t' := s.toks) (fun b o hb q => eb b o hb q) f0 f1 f3 f4 f5⟩
  self := fun A i s Q E st h => by
    obtain ⟨⟨_, he⟩, _⟩ := st
    exact wpAny_pyIter_enum he h
def iEnumT (K : PySem.W.Frag) (ta : TA) : TI := fun σ H R => ta σ H fun vs H1 => ∃ t xs, vs = [.ref t] ∧ SqT K H1 t xs ∧ R (IteT K t) H1
theorem pi_enumT {X : Cx} {e : Expr} {ta : TA} {p pos tpos : Pos} {elts : List Expr} {kk : Nat} (hg : Gl X "enumerate") (hm : X.mg "enumerate" = none) (ha : PA X [e] ta) (hs : starEach [e] X.env = [(false, eval e X.env)] := by rfl) :
    PI X (.Tuple elts kk tpos) (.Call (.Name "enumerate" p) [e] [] pos) (iEnumT X.K ta) := by
  refine ⟨fun pins s σ H R I h => ?_⟩
  refine Call_ (ld_blt I hg hm boot_enumerate (PyProof.Rows.callWith_type1 (thn (ha.run pos pins s σ H _ I h) fun us s1 hu => ?_) hs rfl))
  obtain ⟨vs, H1, I1, r1, t, xs, rfl, hq, q⟩ := hu
  cases r1 with
  | cons r rr =>
    cases rr
    cases r
    obtain ⟨its, rv, p', hz⟩ := I1.tuple hq
    refine enum_callT p' fun h' he hit hsz hk => wpAny_pyIter_enum he ?_
    have I2 : Inv X pins σ H1 { s1 with heap := h' } := I1.kept (t' := s1.toks) hk
    refine ⟨s1.heap.objs.size + 1, [s1.heap.objs.size + 1, s1.heap.objs.size], _, _, H1, rfl, I2, turn_enumT t (s1.heap.objs.size + 1) s1.heap.objs.size, ⟨⟨.none, he⟩, hit, Nat.succ_ne_self _⟩, fun b hb => ?_, q⟩
    have hle : s1.heap.objs.size ≤ b := by
      have e2 : b = s1.heap.objs.size + 1 ∨ b = s1.heap.objs.size := by simpa using hb
      rcases e2 with rfl | rfl
      · exact Nat.le_succ _
      · exact Nat.le_refl _
    exact I1.fpOk hle (I1.hok.fresh hle)
theorem walk_enumT {K : PySem.W.Frag} {t : Addr} {xs : List V} : Walk (IteT K t) xs.length (fun H => SqT K H t xs) (YPair (fun i => some (.int (i : Nat))) (fun i => xs[i]?)) :=
  ⟨fun i _ hi q => ⟨xs, xs[i], q, by simp [hi]⟩, fun _ q => ⟨xs, q, Nat.le_refl _⟩, fun i H v H' _ q y => by
    obtain ⟨T, x, h1, h2, h3, h4⟩ := y
    exact ⟨T, .int (i : Nat), x, h1, h2, h3, rfl, h4 xs q⟩⟩
end Pn

namespace Pn
open PySem L2
/-! ### comprehensions that keep what stands: what each turn puts out -/
section
variable {K : PySem.W.Frag} {tl : TE} {g : TG} {tt : TT} {te : TE} {vs : List Nat} {σ : L2.St} {H : Hp} {Q : VK} {p : Addr} {xs : List V}
/-- one turn of a comprehension that puts out what out says -/
def LcTurn (xs : List V) (H : Hp) (g : TG) (tt : TT) (te : TE) (vs : List Nat) (σ : L2.St) (out : Nat → Option V) : Prop :=
  ∀ (i : Nat) (x : V) (Hi : Hp) (S : Hp → Prop) (Y : VK), xs[i]? = some x → Same H Hi → (out i = none → ∀ H', Same Hi H' → S H') → (∀ v, out i = some v → ∀ H', Same Hi H' → Y v H') →
    g x (wipe σ vs) Hi fun σ2 H2 => wipe σ2 vs = wipe σ vs ∧ tt σ2 H2 fun b H3 => if b = true then te σ2 H3 Y else S H3
theorem range_out (out : Nat → Option V) (i : Nat) : (List.range (i + 1)).filterMap out = (List.range i).filterMap out ++ (match out i with | none => [] | some v => [v]) := by
  rw [List.range_succ, List.filterMap_append]
  cases h : out i with
  | none => simp [h]
  | some v => simp [h]
theorem lc_keep (hl : xs.length ≤ 10000) {out : Nat → Option V} (turn : LcTurn xs H g tt te vs σ out) {D : Addr} (hD : H D = none) (i : Nat) (x : V) (Hi : Hp) (hx : xs[i]? = some x) (hP : Same H Hi ∧ Hi D = some (.lst ((List.range i).filterMap out))) :
    g x (wipe σ vs) Hi fun σ2 H2 => wipe σ2 vs = wipe σ vs ∧ tt σ2 H2 fun b H3 =>
      if b = true then te σ2 H3 fun y H4 => ∃ acc, H4 D = some (.lst acc) ∧ acc.length < sizeLine ∧ (Same H (upd H4 D (.lst (acc ++ [y]))) ∧ upd H4 D (.lst (acc ++ [y])) D = some (.lst ((List.range (i + 1)).filterMap out)))
      else (Same H H3 ∧ H3 D = some (.lst ((List.range (i + 1)).filterMap out))) := by
  obtain ⟨s, hd⟩ := hP
  have hi : i < xs.length := (List.getElem?_eq_some_iff.mp hx).1
  refine turn i x Hi (fun H3 => Same H H3 ∧ H3 D = some (.lst ((List.range (i + 1)).filterMap out))) _ hx s (fun h0 H' s' => ⟨s.trans s', ?_⟩) (fun v hv H' s' => ⟨_, s' _ _ hd, ?_, ?_, ?_⟩)
  · rw [range_out, h0, List.append_nil]
    exact s' _ _ hd
  · have h1 : ((List.range i).filterMap out).length ≤ (List.range i).length := List.length_filterMap_le _ _
    rw [List.length_range] at h1
    have h2 : (10001 : Nat) ≤ sizeLine := by decide
    omega
  · exact fun a o e => by
      rw [upd_ne (ne_of_none e hD)]
      exact s' _ _ (s _ _ e)
  · rw [upd_same, range_out, hv]
end
end Pn

namespace Pn
open PySem L2 TL
section
variable {P : Program} {w : World} {K : PySem.W.Frag} {mg : Str → Option Value} {base : Heap}
/-- a list or a tuple -/
def Sq (K : PySem.W.Frag) (H : Hp) (p : Addr) (xs : List V) : Prop := SqL K H p xs ∨ SqT K H p xs
theorem Sq.same {H H' : Hp} {p : Addr} {xs : List V} (h : Sq K H p xs) (s : Same H H') : Sq K H' p xs := h.elim (fun h => .inl (s.seq h)) (fun h => .inr (Same.sqt s h))
def CsArg (K : PySem.W.Frag) (H : Hp) (cu : V) (cs : List (Str × Str)) : Prop := ∃ p ts, cu = .ref p ∧ Sq K H p (ts.map V.ref) ∧ Paired (fun t (c : Str × Str) => SqT K H t [.str c.1, .str c.2]) ts cs
theorem CsArg.same {H H' : Hp} {cu : V} {cs : List (Str × Str)} (h : CsArg K H cu cs) (s : Same H H') : CsArg K H' cu cs := by
  obtain ⟨p, ts, e, h1, h2⟩ := h
  exact ⟨p, ts, e, h1.same s, paired_mono (fun _ _ z => Same.sqt s z) h2⟩
/-! ### parts -/
end
end Pn

namespace Pn
open PySem L2 TL
section
variable {P : Program} {w : World} {K : PySem.W.Frag} {mg : Str → Option Value} {base : Heap}
/-! ### the attributes of rows -/
/-! ### names_put -/
/-! ### puts_are_earlier -/
/-! ### refs_are_known -/
/-! ### counters_are_known -/
end
end Pn

namespace Pn
open PySem L2 TL
section
variable {P : Program} {w : World} {K : PySem.W.Frag} {mg : Str → Option Value} {base : Heap}
/-! ### the last part -/
/-! ### names_reached -/
end
end Pn

namespace Pn
open PySem L2 TL
section
variable {P : Program} {w : World} {K : PySem.W.Frag} {mg : Str → Option Value} {base : Heap}
/-! ### unroll -/
/-! ### unrolled_text -/
end
end Pn

namespace Pn
open PySem L2
/-! ### tuple(list), of which it is known that it keeps no own attributes, and dict(..) of such a tuple of pairs -/
def TupX (H : Hp) (a : Addr) (xs : List V) : Prop := ∃ o : Obj, o.dict = none ∧ H a = some (.frz o (.tup xs))
theorem TupX.same {H H' : Hp} {a : Addr} {xs : List V} (h : TupX H a xs) (s : Same H H') : TupX H' a xs := by
  obtain ⟨o, d, e⟩ := h
  exact ⟨o, d, s _ _ e⟩
theorem TupX.sqt {K : PySem.W.Frag} {H : Hp} {a : Addr} {xs : List V} (h : TupX H a xs) : SqT K H a xs := by
  obtain ⟨o, _, e⟩ := h
  exact .inl (.inr ⟨o, e⟩)
/-! ### what such a dict holds -/
end Pn

namespace Pn
open PySem L2 TL
/-! ### chains -/
section
variable {P : Program} {w : World} {K : PySem.W.Frag} {mg : Str → Option Value} {base : Heap}
def CsIn (K : PySem.W.Frag) (H : Hp) (ts : List Addr) (cs : List (Str × Str)) : Prop := Paired (fun t (c : Str × Str) => SqT K H t [.str c.1, .str c.2]) ts cs
theorem CsIn.same {H H' : Hp} {ts : List Addr} {cs : List (Str × Str)} (h : CsIn K H ts cs) (s : Same H H') : CsIn K H' ts cs := paired_mono (fun _ _ z => Same.sqt s z) h
/-! ### Book(counters, parts) -/
end
end Pn

namespace Pn
open PySem L2 TL
section
variable {P : Program} {w : World} {K : PySem.W.Frag} {mg : Str → Option Value} {base : Heap}
/-! ### names, tops, unrolled -/
end
end Pn

namespace Pn
open PySem L2 TL
section
variable {P : Program} {w : World} {K : PySem.W.Frag} {mg : Str → Option Value} {base : Heap}
end
end Pn

namespace Pn
open PySem L2 TL
section
variable {P : Program} {w : World} {K : PySem.W.Frag} {mg : Str → Option Value} {base : Heap}
/-! ### len(book) -/
end
end Pn

namespace Pn
open PySem L2 TL
/-! ### sorted texts: one order alone -/
/-! ### equality of tuples and lists of texts that are the same -/
section
variable {P : Program} {w : World} {K : PySem.W.Frag} {mg : Str → Option Value} {base : Heap}
end
end Pn

namespace Pn
open PySem PySem.Spec PyProof.Rows L2
/-! ### comprehensions that make objects; what stands although lists change -/
def SameN (H H' : Hp) : Prop := ∀ a o, H a = some o → (∀ xs, o ≠ HO.lst xs) → H' a = some o
theorem SameN.of {H H' : Hp} (s : Same H H') : SameN H H' := fun a o e _ => s a o e
theorem SameN.trans {H H1 H2 : Hp} (s : SameN H H1) (t : SameN H1 H2) : SameN H H2 := fun a o e n => t a o (s a o e n) n
theorem SameN.upd {H : Hp} {D : Addr} {xs : List V} {o : HO} (h : H D = some (.lst xs)) : SameN H (upd H D o) := fun a u e n => by
  rw [upd_ne (fun z => by rw [z, h] at e; cases e; exact n _ rfl)]
  exact e
theorem lcw_objs {K : PySem.W.Frag} {tl : TE} {g : TG} {tt : TT} {te : TE} {vs : List Nat} {σ : L2.St} {H : Hp} {Q : VK} {p : Addr} {xs : List V} {α : Type} {R : Hp → Addr → α → Prop} {cs : List α} (hR : ∀ {H H' : Hp} {t : Addr} {c : α}, SameN H H' → R H t c → R H' t c)
    (h0 : ∀ R : VK, R (.ref p) H → tl σ H R) (hp : SqL K H p xs) (hl : xs.length ≤ 1000) (hc : xs.length = cs.length)
    (turn : ∀ (i : Nat) (x : V) (c : α) (Hi : Hp) (S : Hp → Prop) (Y : VK), xs[i]? = some x → cs[i]? = some c → Same H Hi → (∀ t H', Same Hi H' → R H' t c → Y (.ref t) H') → g x (wipe σ vs) Hi fun σ2 H2 => wipe σ2 vs = wipe σ vs ∧ tt σ2 H2 fun b H3 => if b = true then te σ2 H3 Y else S H3)
    (fin : ∀ (D : Addr) (H' : Hp) (ts : List Addr), H D = none → Same H H' → H' D = some (.lst (ts.map V.ref)) → Paired (R H') ts cs → Q (.ref D) H') : tLc (iList K tl) g tt te vs σ H Q := by
  refine h0 _ ⟨p, rfl, ⟨_, hp⟩, fun D hD => lc_list (xs := xs) (fun i Hi => Same H Hi ∧ ∃ ts : List Addr, Hi D = some (.lst (ts.map V.ref)) ∧ ts.length ≤ i ∧ Paired (R Hi) ts (cs.take i)) ⟨Same.new hD, [], upd_same, Nat.le_refl _, .nil⟩ (fun _ _ _ hP => hP.1.seq hp) (fun i x Hi hx hP => ?_) (fun Hi hP => ?_)⟩
  · obtain ⟨s, ts, hd, hn, pd⟩ := hP
    have hi : i < xs.length := (List.getElem?_eq_some_iff.mp hx).1
    have hi2 : i < cs.length := by omega
    have hc2 : cs[i]? = some cs[i] := List.getElem?_eq_getElem hi2
    refine turn i x _ Hi _ _ hx hc2 s fun t H' s' r => ⟨_, s' _ _ hd, small1000 (by rw [List.length_map]; omega), (fun a o e => ?_), ts ++ [t], by rw [upd_same, List.map_append]; rfl, by rw [List.length_append]; exact Nat.add_le_add_right hn 1, ?_⟩
    · rw [upd_ne (ne_of_none e hD)]
      exact s' _ _ (s _ _ e)
    · have n2 : SameN H' (upd H' D (.lst (ts.map V.ref ++ [V.ref t]))) := SameN.upd (s' _ _ hd)
      rw [List.take_add_one, hc2]
      exact paired_snoc (hR n2 r) (paired_mono (fun _ _ z => hR ((SameN.of s').trans n2) z) pd)
  · obtain ⟨s, ts, hd, _, pd⟩ := hP
    rw [hc, List.take_length] at pd
    exact fin D Hi ts hD s hd pd
end Pn

namespace Pn
open PySem L2 TL
/-! ### which values can stand in a filling -/
section
variable {P : Program} {w : World} {K : PySem.W.Frag} {mg : Str → Option Value} {base : Heap}
end
end Pn

namespace Pn
open PySem PySem.Spec PyProof.Rows L2 TL
/-! ### Filling.__init__: what is made, what is refused -/
def rTupO (K : PySem.W.Frag) : List V → Hp → VK → Prop := fun xs H Q => ∃ (p : Addr) (ys : List V), xs = [.ref p] ∧ ((SqL K H p ys ∧ ∀ l, H l = none → Q (.ref l) (upd H l (.tup ys))) ∨ (SqT K H p ys ∧ Q (.ref p) H))
theorem call_tupO {X : Cx} : CallR X (.type "tuple") (rTupO X.K) := call_tuple_of
/-- the empty tuple that stands in the written part, and keeps no own attributes -/
def TupB (K : PySem.W.Frag) (a : Addr) : Prop := ∃ (o : Obj) (n : Nat), K.lookup a = some o ∧ o.cls = .type "tuple" ∧ o.dict = none ∧ o.data = .seq #[] n
theorem TupB.sqt {K : PySem.W.Frag} {H : Hp} {a : Addr} (h : TupB K a) : SqT K H a [] := by
  obtain ⟨o, n, hk, hc, _, hd⟩ := h
  exact .inr ⟨o, #[], n, hk, hc, hd, Nat.zero_le _, .nil⟩
/-- a tuple to make a dict of -/
def TupY (K : PySem.W.Frag) (H : Hp) (a : Addr) (xs : List V) : Prop := TupX H a xs ∨ (TupB K a ∧ xs = [])
theorem TupY.sqt {K : PySem.W.Frag} {H : Hp} {a : Addr} {xs : List V} (h : TupY K H a xs) : SqT K H a xs := by
  rcases h with h | ⟨h, rfl⟩
  · exact h.sqt
  · exact h.sqt
theorem TupY.same {K : PySem.W.Frag} {H H' : Hp} {a : Addr} {xs : List V} (h : TupY K H a xs) (s : Same H H') : TupY K H' a xs := h.imp (fun z => z.same s) id
section
variable {P : Program} {w : World} {K : PySem.W.Frag} {mg : Str → Option Value} {base : Heap}
/-! ### names, each once -/
theorem kind_seq {K : PySem.W.Frag} {H : Hp} {p : Addr} {xs : List V} (hp : SqL K H p xs ∨ SqT K H p xs) : ∃ t, PySem.W.kitAny K t [.type "list", .type "tuple"] = some true ∧ TyX K H (.ref p) t ∧ ∀ H', Same H H' → TyX K H' (.ref p) t := by
  rcases hp with hp | hp
  · exact ⟨_, kit_two (by decide +kernel : kitB "list" "list" = some true) (by decide +kernel : kitB "list" "tuple" = some false), sql_ty hp, fun H' s' => sql_ty (s'.seq hp)⟩
  · exact ⟨_, kit_two (by decide +kernel : kitB "tuple" "list" = some false) (by decide +kernel : kitB "tuple" "tuple" = some true), sqt_ty hp, fun H' s' => sqt_ty (Same.sqt s' hp)⟩
theorem sqt_sameN {K : PySem.W.Frag} {H H' : Hp} {a : Addr} {xs : List V} (s : SameN H H') (h : SqT K H a xs) : SqT K H' a xs := by
  rcases h with (e | ⟨o, e⟩) | e
  · exact .inl (.inl (s _ _ e fun _ z => nomatch z))
  · exact .inl (.inr ⟨o, s _ _ e fun _ z => nomatch z⟩)
  · exact .inr e
end
end Pn

namespace Pn
open PySem PySem.Spec PyProof.Rows L2 TL
/-! ### expressions that keep what stands; what they give is told of what is new since B -/
theorem smo {H H' : Hp} (s : Same H H') : Mo H H' := fun _ e => Same.free s e
theorem dif_sm {B H H' : Hp} (s : Same H H') : Same (dif B H) (dif B H') := fun a o e => by
  obtain ⟨e0, e1⟩ := dif_eq.mp e
  exact dif_eq.mpr ⟨e0, s _ _ e1⟩
theorem dif_at {B H : Hp} {p : Addr} {o : HO} (m : Mo B H) (hp : H p = none) : dif B (upd H p o) p = some o := dif_eq.mpr ⟨m p hp, upd_same⟩
theorem dif_up {B H : Hp} {p : Addr} {o : HO} (hp : H p = none) : Same (dif B H) (dif B (upd H p o)) := dif_sm (Same.new hp)
def Gv (te : TE) (σ : L2.St) (P : Hp → V → Prop) : Prop := ∀ (B H : Hp) (R : VK), Mo B H → (∀ v H', Same H H' → P (dif B H') v → R v H') → te σ H R
def GvA (ta : TA) (σ : L2.St) (P : Hp → List V → Prop) : Prop := ∀ (B H : Hp) (R : List V → Hp → Prop), Mo B H → (∀ vs H', Same H H' → P (dif B H') vs → R vs H') → ta σ H R
def StP (P : Hp → V → Prop) : Prop := ∀ (H H' : Hp) (v : V), Same H H' → P H v → P H' v
theorem gv_use {te : TE} {σ : L2.St} {P : Hp → V → Prop} {H : Hp} {Q : VK} (B : Hp) (m : Mo B H) (g : Gv te σ P) (k : ∀ v H', Same H H' → P (dif B H') v → Q v H') : te σ H Q := g B H Q m k
theorem Gv.imp {te : TE} {σ : L2.St} {P P' : Hp → V → Prop} (g : Gv te σ P) (h : ∀ H v, P H v → P' H v) : Gv te σ P' := fun B H R m k => g B H R m fun v H' s p => k v H' s (h _ _ p)
section
variable {K : PySem.W.Frag} {mg : Str → Option Value} {σ : L2.St}
theorem gv_c (c : V) : Gv (tC c) σ (fun _ v => v = c) := fun B H R m k => k c H (Same.refl H) rfl
/-- things of one sort, so many -/
def AllP (P : Hp → V → Prop) (n : Nat) : Hp → List V → Prop := fun H vs => vs.length = n ∧ ∀ v ∈ vs, P H v
theorem AllP.st {P : Hp → V → Prop} {n : Nat} (st : StP P) {H H' : Hp} {vs : List V} (s : Same H H') (h : AllP P n H vs) : AllP P n H' vs := ⟨h.1, fun v hv => st _ _ _ s (h.2 v hv)⟩
theorem gva_all0 {P : Hp → V → Prop} : GvA tNil σ (AllP P 0) := fun B H R m k => k [] H (Same.refl H) ⟨rfl, fun _ z => nomatch z⟩
theorem gva_all {te : TE} {ta : TA} {P : Hp → V → Prop} {n : Nat} (st : StP P) (g : Gv te σ P) (h : GvA ta σ (AllP P n)) : GvA (tCons te ta) σ (AllP P (n + 1)) := fun B H R m k =>
  g B H _ m fun v H1 s1 p => h B H1 _ (m.trans (smo s1)) fun us H2 s2 ⟨l, q⟩ => k (v :: us) H2 (Same.trans s1 s2) ⟨by rw [List.length_cons, l], fun x hx => by
    rcases List.mem_cons.mp hx with rfl | hx
    · exact st _ _ _ (dif_sm s2) p
    · exact q x hx⟩
/-- a list of them: they stand beside the list -/
theorem gv_lstAll {ta : TA} {P : Hp → V → Prop} {n : Nat} (st : StP P) (hn : n ≤ 1000) (h : GvA ta σ (AllP P n)) : Gv (tLst ta) σ (fun H v => ∃ p vs, v = .ref p ∧ H p = some (.lst vs) ∧ AllP P n (hid H p) vs) := fun B H R m k =>
  h B H _ m fun vs H1 s1 q => ⟨Nat.le_of_lt (small1000 (by rw [q.1]; exact hn)), fun p hp => k _ _ (Same.trans s1 (Same.new hp)) ⟨p, vs, rfl, dif_at (m.trans (smo s1)) hp, q.st st fun a o e => hid_get (dif_up hp _ _ e) (fun z => by
    obtain ⟨_, e1⟩ := dif_eq.mp e
    rw [z, hp] at e1
    cases e1)⟩⟩
/-- data -/
def PD (K : PySem.W.Frag) (d : PyData) : Hp → V → Prop := fun H v => Dp K H v d
def PDA (K : PySem.W.Frag) (ds : List PyData) : Hp → List V → Prop := fun H vs => DpAll K H vs ds
theorem gvd_nil : GvA tNil σ (PDA K []) := fun B H R m k => k [] H (Same.refl H) .nil
theorem gvd_cons {te : TE} {ta : TA} {d : PyData} {ds : List PyData} (g : Gv te σ (PD K d)) (h : GvA ta σ (PDA K ds)) : GvA (tCons te ta) σ (PDA K (d :: ds)) := fun B H R m k =>
  g B H _ m fun v H1 s1 p => h B H1 _ (m.trans (smo s1)) fun us H2 s2 q => k (v :: us) H2 (Same.trans s1 s2) (.cons (dp_same (dif_sm s2) _ _ p) q)
theorem dpAll_len1 {H : Hp} : ∀ {vs : List V} {ds : List PyData}, DpAll K H vs ds → vs.length = ds.length
  | _, _, .nil => rfl
  | _, _, .cons _ b => congrArg Nat.succ (dpAll_len1 b)
theorem gvd_tup {ta : TA} {ds : List PyData} (h : GvA ta σ (PDA K ds)) (hl : ds.length ≤ 1000) : Gv (tTup ta) σ (PD K (.tuple ds)) := fun B H R m k =>
  h B H _ m fun vs H1 s1 q => ⟨Nat.le_of_lt (small1000 (by rw [dpAll_len1 q]; exact hl)), fun p hp => k _ _ (Same.trans s1 (Same.new hp)) (.tup (SqT.of (dif_at (m.trans (smo s1)) hp)) (dpAll_same (dif_up hp) _ _ q))⟩
theorem gvd_lst {ta : TA} {ds : List PyData} (h : GvA ta σ (PDA K ds)) (hl : ds.length ≤ 1000) : Gv (tLst ta) σ (PD K (.list ds)) := fun B H R m k =>
  h B H _ m fun vs H1 s1 q => ⟨Nat.le_of_lt (small1000 (by rw [dpAll_len1 q]; exact hl)), fun p hp => k _ _ (Same.trans s1 (Same.new hp)) (.lst (SqL.of (dif_at (m.trans (smo s1)) hp)) (dpAll_same (dif_up hp) _ _ q))⟩
theorem gvd_s (z : Str) : Gv (tC (.str z)) σ (PD K (.str z)) := (gv_c _).imp fun _ _ e => by subst e; exact .str z
theorem gvd_n : Gv (tC .non) σ (PD K .none) := (gv_c _).imp fun _ _ e => by subst e; exact .non
theorem gvd_i (i : Int) : Gv (tC (.int i)) σ (PD K (.int i)) := (gv_c _).imp fun _ _ e => by subst e; exact .int i
/-! ### rows -/
end
end Pn

namespace Pn
open PySem PySem.W PyProof.Rows
/-! ### a text == an own instance: the text declines, the instance is asked -/
end Pn

namespace Pn
open PySem L2
section
variable {X : Cx} {CX : CXT} {k : Nat} {f : Addr} {fd : FuncData} {ps : List Str} {sp : Sp} {E : XK}
end
end Pn

namespace Pn
open PySem L2 TL
/-! ### what the lines of a book's text tell -/
/-! ### a book's own text -/
end Pn

namespace Pn
open PySem PySem.Spec PyProof.Rows L2 TL
/-! ### comprehensions over a dict, which stays as it is -/
section
variable {K : PySem.W.Frag} {tl : TE} {g : TG} {tt : TT} {te : TE} {vs : List Nat} {σ : L2.St} {H : Hp} {Q : VK} {p : Addr} {kvs : List (Key × V)}
end
end Pn

namespace Pn
open PySem L2 SeqAt
open MeetsSeq MeetsSeq2 MeetsSeq3 SeqRoads2
open AutoSeq1 (wpAny_loadPart')
/-! ### == and != of tuples whose things are compared by an own == -/
section
variable {prog : Program} {w : World} {A : Around} {R : Result → Shared → Prop}
end
section
variable {prog : Program} {w : World} {A : Around} {E : Value → Shared → Prop}
end
/-! ### .. as rules -/
section
variable {X : Cx} {pins : List (Addr × Obj)} {σ : St} {H : Hp} {s : Shared}
end
end Pn

namespace Pn
open PySem L2 SeqAt
open MeetsSeq MeetsSeq2 MeetsSeq3 SeqRoads2
open AutoSeq1 (wpAny_loadPart')
/-! ### != of two lists whose things are told to be equal by their own == -/
section
variable {prog : Program} {w : World} {A : Around} {R : Result → Shared → Prop}
end
section
variable {prog : Program} {w : World} {A : Around} {E : Value → Shared → Prop}
end
end Pn

namespace Pn
open PySem L2 SeqAt
open MeetsSeq MeetsSeq2 MeetsSeq3 SeqRoads2
open AutoSeq1 (wpAny_loadPart')
/-! ### a list != [] -/
section
variable {prog : Program} {w : World} {A : Around} {R : Result → Shared → Prop}
end
section
variable {prog : Program} {w : World} {A : Around} {E : Value → Shared → Prop}
end
end Pn

namespace Pn
open PySem PySem.Spec PyProof.Rows L2 TL
/-! ### walks over a dict whose keys are tuples -/
section
variable {K : PySem.W.Frag} {tl : TE} {g : TG} {tt : TT} {te : TE} {vs : List Nat} {σ : L2.St} {H : Hp} {Q : VK} {p : Addr} {kvs : List (List Key × V)}
end
/-! ### tables: words by pairs -/
abbrev KP : Type := Str × Str
end Pn

namespace Pn
open PySem PySem.Spec PyProof.Rows L2
/-! ### sets of tuples whose items are keys of any kind (texts): searched, added to -/
/-- what the table's words ask of an item -/
structure ItemOk {P : Program} {w : World} {K : Type} [DecidableEq K] (kk : KeyKind P w K) : Prop where
  cls : ∀ (n : Nat) (k : K) (v : Value), kk.is k v = true → ofAClassStatement n v = pure false
  val : ∀ (n : Nat) (k : K) (v : Value), kk.is k v = true → ∃ b, hashByValue n v = pure b
theorem str_itemOk (P : Program) (w : World) : ItemOk (PySem.strKind P w) where
  cls := fun n k v h => by
    obtain ⟨t, rfl⟩ := Value.isStrOf_shape h
    cases n <;> rfl
  val := fun n k v h => by
    obtain ⟨t, rfl⟩ := Value.isStrOf_shape h
    exact ⟨false, by cases n <;> rfl⟩
section
variable {P : Program} {w : World} {K : Type} [DecidableEq K] {kk : KeyKind P w K} {A : Around} {E : Value → Shared → Prop} {s : Shared}
theorem items_are {ks : List K} {vs : List Value} (h : ItemsAre kk ks vs) : ∀ v ∈ vs, ∃ k, kk.is k v = true := by
  induction h with
  | nil => exact fun v z => nomatch z
  | cons h1 _ ih => exact fun v z => (List.mem_cons.mp z).elim (fun e => ⟨_, e ▸ h1⟩) (ih v)
theorem noClass_tup (O : ItemOk kk) {ks : List K} {b : Addr} {Q : Bool → Shared → Prop} (hk : IsTupleKey kk s.heap ks b) (q : Q false s) : wpAny (model P w) A (ofAClassStatement 8 (.ref b)) Q E s := by
  have ty := hk.typeIs
  obtain ⟨o, items, n, ho, _, hd, hi⟩ := hk
  unfold ofAClassStatement
  refine wpAny_bind (wpAny_typeOf ty ?_)
  dsimp only
  have et : (("tuple" : String) == "tuple") = true := by decide
  simp only [et, if_true, Bool.not_true, Bool.false_eq_true, if_false]
  try refine wpAny_bind (wpAny_pure ?_)
  try simp only [Bool.not_true, Bool.false_eq_true, if_false]
  show wpAny _ _ (seqItems? (.ref b) >>= _) _ _ s
  refine wpAny_bind (wpAny_seqItems ho hd ?_)
  refine wpAny_bind ?_
  show wpAny _ _ (forIn items _ _) _ _ s
  rw [← Array.forIn_toList]
  refine wpAny_forIn_list _ (fun rest r s' => r.1 = none ∧ s' = s ∧ ∀ v ∈ rest, ∃ k, kk.is k v = true) _ (fun v rest r s' => ?_) (fun r s' => ?_) _ _ ⟨rfl, rfl, items_are hi⟩
  · rintro ⟨hr, rfl, all⟩
    obtain ⟨k, hv⟩ := all v List.mem_cons_self
    rw [O.cls _ k v hv]
    refine wpAny_bind (wpAny_pure ?_)
    simp only [Bool.false_eq_true, if_false]
    exact wpAny_pure ⟨rfl, rfl, fun u z => all u (List.mem_cons_of_mem _ z)⟩
  · obtain ⟨r1, r2⟩ := r
    rintro ⟨hr, rfl, _⟩
    have hr : r1 = none := hr
    subst hr
    exact wpAny_pure q
theorem byVal_tup (O : ItemOk kk) {ks : List K} {b : Addr} {Q : Bool → Shared → Prop} (hk : IsTupleKey kk s.heap ks b) (q : ∀ z, Q z s) : wpAny (model P w) A (hashByValue 8 (.ref b)) Q E s := by
  have ty := hk.typeIs
  obtain ⟨o, items, n, ho, _, hd, hi⟩ := hk
  unfold hashByValue
  refine wpAny_bind (wpAny_specialOf ty F.slot_tuple_hash.lookup ?_)
  show wpAny _ _ (seqItems? (.ref b) >>= _) _ _ s
  refine wpAny_bind (wpAny_seqItems ho hd ?_)
  refine wpAny_bind ?_
  show wpAny _ _ (forIn items _ _) _ _ s
  rw [← Array.forIn_toList]
  refine wpAny_forIn_list _ (fun rest r s' => s' = s ∧ ∀ v ∈ rest, ∃ k, kk.is k v = true) _ (fun v rest r s' => ?_) (fun r s' => ?_) _ _ ⟨rfl, items_are hi⟩
  · rintro ⟨rfl, all⟩
    obtain ⟨k, hv⟩ := all v List.mem_cons_self
    obtain ⟨z, ez⟩ := O.val 7 k v hv
    rw [ez]
    refine wpAny_bind (wpAny_pure ?_)
    cases z with
    | true =>
      simp only [Bool.not_true, Bool.false_eq_true, if_false]
      exact wpAny_pure ⟨rfl, fun u y => all u (List.mem_cons_of_mem _ y)⟩
    | false =>
      simp only [Bool.not_false, if_true]
      exact wpAny_pure (wpAny_pure (q _))
  · obtain ⟨r1, r2⟩ := r
    rintro ⟨rfl, _⟩
    cases r1 with
    | none => exact wpAny_pure (q _)
    | some z => exact wpAny_pure (q _)
end
end Pn
namespace Pn
open PySem PySem.Spec PyProof.Rows L2
section
variable {P : Program} {w : World} {K : Type} [DecidableEq K] {kk : KeyKind P w K} {A : Around} {E : Value → Shared → Prop} {s : Shared}
/-- a search among such tuples shows nothing of the table -/
theorem unseen_tup (O : ItemOk kk) {ks : List K} {b : Addr} {Q : Bool → Shared → Prop} (hk : IsTupleKey kk s.heap ks b) {ys : List Value} (hy : ∀ y ∈ ys, ∃ k' c, y = Value.ref c ∧ IsTupleKey kk s.heap k' c) (q : Q false s) :
    wpAny (model P w) A (searchCouldBeSeen (.ref b) ys) Q E s := by
  unfold searchCouldBeSeen
  refine wpAny_bind ?_
  refine wpAny_forIn_list _ (fun rest r s' => r.1 = none ∧ s' = s ∧ ∀ y ∈ rest, ∃ k' c, y = Value.ref c ∧ IsTupleKey kk s.heap k' c) _ (fun v rest r s' => ?_) (fun r s' => ?_) _ _ ⟨rfl, rfl, hy⟩
  · rintro ⟨hr, rfl, all⟩
    obtain ⟨k', c, rfl, hc⟩ := all v List.mem_cons_self
    have more : ∀ y ∈ rest, ∃ k' c, y = Value.ref c ∧ IsTupleKey kk s'.heap k' c := fun u z => all u (List.mem_cons_of_mem _ z)
    dsimp only
    refine (Classical.em ((b == c || (carriedByValue (.ref b) && carriedByValue (.ref c))) = true)).elim (fun hv => wp_if_pos hv (wpAny_pure ⟨rfl, rfl, more⟩)) fun hv => wp_if_neg hv ?_
    refine wpAny_bind (wpAny_eqIsQuiet_tuple hk ?_)
    simp only [Bool.not_true, Bool.false_eq_true, if_false]
    refine wpAny_bind (wpAny_eqIsQuiet_tuple hc ?_)
    simp only [Bool.not_true, Bool.false_eq_true, if_false]
    refine wpAny_bind (noClass_tup O hk ?_)
    simp only [Bool.false_eq_true, if_false]
    refine wpAny_bind (noClass_tup O hc ?_)
    simp only [Bool.false_eq_true, if_false]
    exact wpAny_pure ⟨rfl, rfl, more⟩
  · obtain ⟨r1, r2⟩ := r
    rintro ⟨hr, rfl, _⟩
    have hr : r1 = none := hr
    subst hr
    exact wpAny_pure q
/-- the entries of a set: hash and tuple -/
def entK (kk : KeyKind P w K) (L : List (Addr × List K)) : List (Int × Value) := L.map fun p => (tupleKeyHash kk p.2, Value.ref p.1)
def hsK (kk : KeyKind P w K) (L : List (Addr × List K)) : List Int := L.map fun p => tupleKeyHash kk p.2
theorem entK_len {L : List (Addr × List K)} {es : Array (Int × Value)} (h : es.toList = entK kk L) : es.size = L.length := by
  have e := congrArg List.length h
  rw [Array.length_toList] at e
  exact e.trans (List.length_map _)
theorem entK_get {L : List (Addr × List K)} {es : Array (Int × Value)} (h : es.toList = entK kk L) {i : Nat} {p : Addr × List K} (hp : L[i]? = some p) : es[i]? = some (tupleKeyHash kk p.2, Value.ref p.1) := by
  have e : es.toList[i]? = some (tupleKeyHash kk p.2, Value.ref p.1) := by
    rw [h]
    show (L.map _)[i]? = _
    rw [List.getElem?_map, hp]
    rfl
  rw [← e, Array.getElem?_toList]
/-- the set at a holds the tuples L, each key once -/
structure TpSet (kk : KeyKind P w K) (h : Heap) (a : Addr) (L : List (Addr × List K)) (es : Array (Int × Value)) (ep : Nat) (t : SetTable) : Prop where
  ob : ∃ o, h.get? a = some o ∧ o.ExactSet ∧ o.data = .set es ep t
  en : es.toList = entK kk L
  tab : TabOk t (hsK kk L)
  nd : (L.map (·.2)).Nodup
  led : w.params.followText "set-order" = true ∨ t.led = true
  room : L.length * 5 < t.mask * 3
  few : L.length < 64
/-- .. and its tuples stand -/
def TupsIn (kk : KeyKind P w K) (h : Heap) (L : List (Addr × List K)) : Prop := ∀ p ∈ L, IsTupleKey kk h p.2 p.1
variable {a : Addr} {L : List (Addr × List K)} {es : Array (Int × Value)} {ep : Nat} {t : SetTable}
theorem TpSet.psz {h : Heap} (R : TpSet kk h a L es ep t) : t.place.size = L.length := R.tab.sz.trans (List.length_map _)
theorem TpSet.fits {h : Heap} (R : TpSet kk h a L es ep t) : t.fits es.size = true := by
  have h1 := R.psz
  have h2 := entK_len R.en
  have h3 := R.room
  unfold SetTable.fits SetTable.fill
  rw [R.tab.dm, Bool.and_eq_true, beq_iff_eq, decide_eq_true_eq]
  show t.place.size = es.size ∧ t.place.size + 0 ≤ t.mask
  omega
theorem noGap {h : Heap} (R : TpSet kk h a L es ep t) : ¬ t.gaveWay = true := by
  unfold SetTable.gaveWay
  rw [mask_odd R.tab.mok]
  decide
/-- the probe that stands at the c-th step of the way of a hash -/
def stepP (t : SetTable) (h : Int) (c : Nat) : SetTable.Probe := nth t.mask (runAt t.mask (SetTable.bits h % (t.mask + 1)) (SetTable.bits h)) c
theorem stepP_fresh (t : SetTable) (h : Int) (c : Nat) : (stepP t h c).dummy = none := by
  have go : ∀ (n : Nat) (p : SetTable.Probe), p.dummy = none → (nth t.mask p n).dummy = none := fun n => by
    induction n with
    | zero => exact fun p z => z
    | succ n ih =>
      intro p z
      refine ih (adv t.mask p) ?_
      unfold adv
      split <;> exact z
  exact go c _ rfl
theorem stepP_on (t : SetTable) (h : Int) (c q : Nat) : nth t.mask (stepP t h c) q = stepP t h (c + q) := (nth_add t.mask c _ q).symm
theorem stepP_j (t : SetTable) (h : Int) (c q : Nat) : (nth t.mask (stepP t h c) q).j = way t.mask h (c + q) := congrArg SetTable.Probe.j (stepP_on t h c q)
end
end Pn

namespace Pn
open PySem PySem.Spec PyProof.Rows L2
section
variable {P : Program} {w : World} {K : Type} [DecidableEq K] {kk : KeyKind P w K} {A : Around} {E : Value → Shared → Prop} {s : Shared} {a : Addr} {L : List (Addr × List K)} {es : Array (Int × Value)} {ep : Nat} {t : SetTable}
/-- what waits for the key k on the way from step c on: each entry of k stands there, ahead of step Z -/
def Ahead (t : SetTable) (h : Int) (L : List (Addr × List K)) (k : List K) (Z c : Nat) : Prop := ∀ (i : Nat) p, L[i]? = some p → p.2 = k → ∃ c', c ≤ c' ∧ c' < Z ∧ t.place.toList[i]? = some (way t.mask h c')
theorem find_tup (O : ItemOk kk) (R : TpSet kk s.heap a L es ep t) (T : TupsIn kk s.heap L) {x : Addr} {k : List K} (hx : IsTupleKey kk s.heap k x) (hu : A.units < PySem.cLine) {Z : Nat} {h : Int} (eh : h = tupleKeyHash kk k)
    (hZ : way t.mask h Z ∉ t.place.toList) (hb : ∀ c, c < Z → way t.mask h c ∈ t.place.toList) (hZf : Z < 10 * SetTable.turns t.mask) {Q : SetFound → Shared → Prop}
    (yes : k ∈ L.map (·.2) → Q (.there none) s) (no : k ∉ L.map (·.2) → Q (.free (way t.mask h Z) false) s) :
    ∀ (f c : Nat) (stand : Option SetTable.Probe), stand.getD (t.probeStart h) = stepP t h c → c ≤ Z → Z < c + f → Ahead t h L k Z c → wpAny (model P w) A (setSearchFrom a (.ref x) h true f stand) Q E s := by
  intro f
  induction f with
  | zero => exact fun c stand _ h1 h2 _ => absurd h2 (by omega)
  | succ f ih =>
    intro c stand hst hc hf ahead
    obtain ⟨o, ho, hex, hd⟩ := R.ob
    rw [setSearchFrom_succ]
    refine wpAny_bind (wpAny_setState_of ho hd R.fits ?_)
    dsimp only
    refine wp_if_neg (noGap R) ?_
    try refine wpAny_bind (wpAny_pure ?_)
    have hashes : ∀ (i : Nat) p, L[i]? = some p → (es[i]?.map (·.1)).getD 0 = tupleKeyHash kk p.2 := fun i p hp => by
      rw [entK_get R.en hp]
      rfl
    have told := go_spec t R.tab.ris R.tab.dm (fun i => (es[i]?.map (·.1)).getD 0) h (10 * SetTable.turns t.mask) (Z - c) (stepP t h c) (stepP_fresh t h c) (by omega)
      (fun q hq => by rw [stepP_j]; exact hb (c + q) (by omega)) (by rw [stepP_j, Nat.add_sub_cancel' hc]; exact hZ)
    have probe_ : t.probe (fun i => (es[i]?.map (·.1)).getD 0) h (stand.getD (t.probeStart h)) = SetTable.probe.go t (fun i => (es[i]?.map (·.1)).getD 0) h (10 * SetTable.turns t.mask) (stepP t h c) := by
      rw [hst]
      rfl
    rw [probe_]
    rcases told with ⟨q, i, hq, hi, hh, first_, e⟩ | ⟨none_, e⟩
    · -- an entry of this hash
      rw [e]
      dsimp only
      rw [stepP_j] at hi
      have il : i < L.length := by
        have h1 := (List.getElem?_eq_some_iff.mp hi).1
        rw [Array.length_toList, R.psz] at h1
        exact h1
      obtain ⟨p, hp⟩ : ∃ p, L[i]? = some p := ⟨_, List.getElem?_eq_getElem il⟩
      have pm := List.mem_of_getElem? hp
      rw [stepP_j, stepP_on]
      have rest : wpAny (model P w) A (searchRest a (.ref x) h true f es t (way t.mask h (c + q)) i (stepP t h (c + (q + 1)))) Q E s := by
        unfold searchRest
        rw [entK_get R.en hp]
        dsimp only
        refine wpAny_bind (wpAny_holding (wpAny_eqBool_tuple hu (T p pm) hx ?_))
        refine wpAny_bind (wpAny_setState_of ho hd R.fits ?_)
        dsimp only
        by_cases same : p.2 = k
        · exact wp_if_pos (by simp [same]) (wpAny_pure (yes (List.mem_map.mpr ⟨p, pm, same⟩)))
        · refine wp_if_neg (by simp [same]) ?_
          try refine wpAny_bind (wpAny_pure ?_)
          rw [sameMem]
          dsimp only
          have live : t.slot (way t.mask h (c + q)) = .live i := slot_live R.tab.ris hi
          simp only [if_true, live, entK_get R.en hp]
          refine wpAny_bind (wpAny_isSame_ref_self (wpAny_bind (wpAny_pure ?_)))
          simp only [if_true]
          refine wp_if_neg (by simp [same]) (ih (c + (q + 1)) _ rfl (by omega) (by omega) fun i0 p0 h0 k0 => ?_)
          obtain ⟨c', a1, a2, a3⟩ := ahead i0 p0 h0 k0
          refine ⟨c', ?_, a2, a3⟩
          have eh0 : (es[i0]?.map (·.1)).getD 0 = h := by rw [hashes i0 p0 h0, k0, eh]
          rcases Nat.lt_trichotomy c' (c + q) with y | y | y
          · exact absurd eh0 (first_ (c' - c) i0 (by omega) (by rw [stepP_j, Nat.add_sub_cancel' a1]; exact a3))
          · subst y
            have l0 := slot_live R.tab.ris a3
            rw [live] at l0
            injection l0 with l0
            subst l0
            rw [hp] at h0
            cases h0
            exact absurd k0 same
          · omega
      by_cases hl : t.led = true
      · refine wp_if_neg (by simp [hl]) ?_
        try refine wpAny_bind (wpAny_pure ?_)
        exact rest
      · refine wp_if_pos (by simp [hl]) (wpAny_bind (unseen_tup O hx (fun y hy => ?_) ?_))
        · obtain ⟨e0, he0, ey⟩ := List.mem_map.mp hy
          have he1 : e0 ∈ es ∧ e0.1 = h := by simpa using he0
          have he2 : e0 ∈ es.toList := by simpa using he1.1
          rw [R.en] at he2
          obtain ⟨p2, hp2, e2⟩ := List.mem_map.mp he2
          exact ⟨p2.2, p2.1, by rw [← ey, ← e2], T p2 hp2⟩
        · refine wp_if_neg (by decide) ?_
          try refine wpAny_bind (wpAny_pure ?_)
          exact rest
    · -- the empty slot
      rw [e, stepP_j, Nat.add_sub_cancel' hc]
      dsimp only
      refine wpAny_pure (no fun hm => ?_)
      obtain ⟨p0, m0, k0⟩ := List.mem_map.mp hm
      obtain ⟨i0, l0, e0⟩ := List.getElem_of_mem m0
      have h0 : L[i0]? = some p0 := by rw [List.getElem?_eq_getElem l0, e0]
      obtain ⟨c', a1, a2, a3⟩ := ahead i0 p0 h0 k0
      exact none_ (c' - c) i0 (by omega) (by rw [stepP_j, Nat.add_sub_cancel' a1]; exact a3) (by rw [hashes i0 p0 h0, k0, eh])
/-- the search, as adding asks for it -/
theorem seek_tup (O : ItemOk kk) (R : TpSet kk s.heap a L es ep t) (T : TupsIn kk s.heap L) {x : Addr} {k : List K} (hx : IsTupleKey kk s.heap k x) (hu : A.units < PySem.cLine) {Q : SetFound → Shared → Prop}
    (yes : k ∈ L.map (·.2) → Q (.there none) s)
    (no : ∀ Z, k ∉ L.map (·.2) → way t.mask (tupleKeyHash kk k) Z ∉ t.place.toList → (∀ c, c < Z → way t.mask (tupleKeyHash kk k) c ∈ t.place.toList) → Q (.free (way t.mask (tupleKeyHash kk k) Z) false) s) :
    wpAny (model P w) A (setSearch a (.ref x) (tupleKeyHash kk k) true) Q E s := by
  have room := R.room
  obtain ⟨Z, hf, hZ, hb⟩ := R.tab.first (by show (L.map _).length ≤ _; rw [List.length_map]; omega) (tupleKeyHash kk k)
  have turns : 10 * SetTable.turns t.mask ≤ 1420 := by
    unfold SetTable.turns
    rcases R.tab.mok with e | e | e <;> omega
  unfold setSearch
  refine find_tup O R T hx hu rfl hZ hb hf yes (fun n => no Z n hZ hb) 100000 0 none rfl (Nat.zero_le _) (by omega) fun i p hp hk => ?_
  have hi : (hsK kk L)[i]? = some (tupleKeyHash kk k) := by
    show (L.map _)[i]? = _
    rw [List.getElem?_map, hp, ← hk]
    rfl
  have il : i < t.place.toList.length := by
    rw [Array.length_toList, R.psz]
    exact (List.getElem?_eq_some_iff.mp hp).1
  have hj := List.getElem?_eq_getElem il
  obtain ⟨c, hc, e⟩ := R.tab.before hZ hi hj
  exact ⟨c, Nat.zero_le _, hc, by rw [hj, e]⟩
end
end Pn

namespace Pn
open PySem PySem.Spec PyProof.Rows L2
section
variable {P : Program} {w : World} {K : Type} [DecidableEq K] {kk : KeyKind P w K} {A : Around} {E : Value → Shared → Prop} {s : Shared} {a : Addr} {L : List (Addr × List K)} {es : Array (Int × Value)} {ep : Nat} {t : SetTable}
theorem keyStays {h h' : Heap} {k : List K} {b : Addr} (x : IsTupleKey kk h k b) (q : ∀ c o, h.get? c = some o → h'.get? c = some o) : IsTupleKey kk h' k b := by
  obtain ⟨o, items, n, ho, r⟩ := x
  exact ⟨o, items, n, q b o ho, r⟩
theorem keyBeside {h h' : Heap} {k : List K} {b : Addr} {o : Obj} (x : IsTupleKey kk h k b) (ho : h.get? a = some o) (hd : o.data = .set es ep t) (q : Heap.SameBut a h h') : IsTupleKey kk h' k b := by
  obtain ⟨o', items, n, ho', hc, hd', hi⟩ := x
  refine ⟨o', items, n, (q.2 b fun e => ?_).trans ho', hc, hd', hi⟩
  subst e
  rw [ho] at ho'
  cases ho'
  rw [hd] at hd'
  cases hd'
theorem entK_put (L : List (Addr × List K)) (p : Nat) (x : Addr × List K) : entK kk (L.take p ++ x :: L.drop p) = (entK kk L).take p ++ (tupleKeyHash kk x.2, Value.ref x.1) :: (entK kk L).drop p := by
  unfold entK
  rw [List.map_append, List.map_cons, List.map_take, List.map_drop]
theorem hsK_put (L : List (Addr × List K)) (p : Nat) (x : Addr × List K) : hsK kk (L.take p ++ x :: L.drop p) = (hsK kk L).take p ++ tupleKeyHash kk x.2 :: (hsK kk L).drop p := by
  unfold hsK
  rw [List.map_append, List.map_cons, List.map_take, List.map_drop]
theorem pick_all {α : Type} (L : List α) : (List.range L.length).filterMap (fun i => L[i]?) = L := by
  have h : ∀ n, n ≤ L.length → (List.range n).filterMap (fun i => L[i]?) = L.take n := fun n => by
    induction n with
    | zero => exact fun _ => rfl
    | succ n ih =>
      intro hn
      rw [List.range_succ, List.filterMap_append, ih (Nat.le_of_lt hn), List.take_succ, List.getElem?_eq_getElem hn, List.filterMap_cons_some (List.getElem?_eq_getElem hn)]
      rfl
  rw [h _ (Nat.le_refl _), List.take_length]
/-- the entries in another order -/
theorem entK_order {order : Array Nat} (he : es.toList = entK kk L) (hp : order.toList.Perm (List.range L.length)) :
    ∃ L2, (order.filterMap (es[·]?)).toList = entK kk L2 ∧ L2.Perm L ∧ hsK kk L2 = order.toList.map fun i => (es.map (·.1)).getD i 0 := by
  have go : ∀ l : List Nat, (∀ i ∈ l, i < L.length) → l.filterMap (fun i => es[i]?) = entK kk (l.filterMap fun i => L[i]?) ∧ hsK kk (l.filterMap fun i => L[i]?) = l.map fun i => (es.map (·.1)).getD i 0 := fun l => by
    induction l with
    | nil => exact fun _ => ⟨rfl, rfl⟩
    | cons i l ih =>
      intro hl
      have hi := hl i List.mem_cons_self
      obtain ⟨e1, e2⟩ := ih fun j hj => hl j (List.mem_cons_of_mem _ hj)
      have g := List.getElem?_eq_getElem hi
      have ge := entK_get he g
      rw [List.filterMap_cons_some g, List.filterMap_cons_some ge]
      refine ⟨?_, ?_⟩
      · rw [e1]
        rfl
      · rw [List.map_cons, ← e2]
        show tupleKeyHash kk (L[i]).2 :: _ = _
        have e5 : (es.map (·.1))[i]? = some (tupleKeyHash kk (L[i]).2) := by
          rw [Array.getElem?_map, ge]
          rfl
        have e4 : (es.map (·.1)).getD i 0 = tupleKeyHash kk (L[i]).2 := by simp [Array.getD_eq_getD_getElem?, e5]
        rw [e4]
        rfl
  obtain ⟨e1, e2⟩ := go order.toList fun i hi => List.mem_range.mp (hp.mem_iff.mp hi)
  refine ⟨_, by first | (rw [Array.toList_filterMap]; exact e1) | simpa using e1, ?_, e2⟩
  have h := hp.filterMap fun i => L[i]?
  rw [pick_all] at h
  exact h
/-- the table laid anew, larger -/
theorem relay_tup {o : Obj} (ho : s.heap.get? a = some o) (hex : o.ExactSet) (hd : o.data = .set es ep t) (en : es.toList = entK kk L) (tab : TabOk t (hsK kk L)) (nd : (L.map (·.2)).Nodup) (led : w.params.followText "set-order" = true ∨ t.led = true) (few : L.length < 64) (fill : L.length ≤ t.mask)
    {wanted M : Nat} (hw : SetTable.sizeAbove wanted - 1 = M) (hM : MaskOk M) (hw2 : SetTable.sizeAbove wanted ≤ 128) (room : L.length * 5 < M * 3) {Q : Unit → Shared → Prop}
    (q : ∀ h' L' es' ep' t', Heap.SameBut a s.heap h' → TpSet kk h' a L' es' ep' t' → L'.Perm L → Q () { s with heap := h' }) : wpAny (model P w) A (setRelay a wanted) Q E s := by
  have sz := entK_len en
  have psz : t.place.size = L.length := tab.sz.trans (List.length_map _)
  have fits : t.fits es.size = true := by
    unfold SetTable.fits SetTable.fill
    rw [tab.dm, Bool.and_eq_true, beq_iff_eq, decide_eq_true_eq]
    show t.place.size = es.size ∧ t.place.size + 0 ≤ t.mask
    omega
  have m3 : M = 7 ∨ M = 31 ∨ M = 127 := hM
  obtain ⟨t', order, e, hp, T, em, el, _, ed⟩ := relaid_ok t (hs := es.map (·.1)) (wanted := wanted) hw hM (by rw [Array.size_map, sz]; omega)
  rw [Array.size_map, sz] at hp
  obtain ⟨L2, r1, r2, r3⟩ := entK_order en hp
  rw [← r3] at T
  have sz2 : (order.filterMap (es[·]?)).size = es.size := by rw [entK_len r1, r2.length_eq, sz]
  rw [setRelay_eq]
  refine wpAny_bind (wpAny_setState_of ho hd fits ?_)
  dsimp only
  refine wp_if_neg (by rw [sizeLine_eq]; omega) ?_
  try refine wpAny_bind (wpAny_pure ?_)
  rw [e]
  dsimp only
  refine wpAny_bind ?_
  refine wp_if_neg (by rw [sz2]; simp) ?_
  try refine wpAny_bind (wpAny_pure ?_)
  refine wpAny_pure ?_
  dsimp only
  refine wpAny_storeSet_of ho hd ?_ (by rw [sz2, sz, sizeLine_eq]; omega)
  refine q _ L2 (order.filterMap (es[·]?)) (ep + 1) t' (Heap.SameBut.update ..) ⟨⟨_, store_at ho hd, ⟨hex.1, hex.2.1, hex.2.2⟩, rfl⟩, r1, T, (r2.map (·.2)).nodup_iff.mpr nd, by rw [el]; exact led, by rw [r2.length_eq, em]; exact room, by rw [r2.length_eq]; exact few⟩ r2
theorem mask_cases {m n : Nat} (hm : MaskOk m) (r : n * 5 < m * 3) (f : (n + 1) * 5 ≥ m * 3) (few : n < 63) : (m = 7 ∧ n = 4) ∨ (m = 31 ∧ n = 18) := by
  rcases hm with e | e | e <;> subst e <;> omega
/-- adding -/
theorem add_tup (O : ItemOk kk) (R : TpSet kk s.heap a L es ep t) (T : TupsIn kk s.heap L) {x : Addr} {k : List K} (hx : IsTupleKey kk s.heap k x) (hu : A.units < PySem.cLine) (few : L.length + 1 < 64) {Q : Bool → Shared → Prop}
    (q : ∀ b h' L' es' ep' t', Heap.SameBut a s.heap h' → TpSet kk h' a L' es' ep' t' → (∀ (k' : List K) (c : Addr), IsTupleKey kk s.heap k' c → IsTupleKey kk h' k' c) → (k ∈ L.map (·.2) → L' = L) → (k ∉ L.map (·.2) → L'.Perm ((x, k) :: L)) → Q b { s with heap := h' }) :
    wpAny (model P w) A (setAddHashed a (.ref x) (tupleKeyHash kk k)) Q E s := by
  obtain ⟨o, ho, hex, hd⟩ := R.ob
  have sz := entK_len R.en
  have room := R.room
  unfold setAddHashed
  refine wpAny_holding ?_
  rw [show (100000 : Nat) = 99999 + 1 from rfl, setAddHashedIn_succ]
  refine wpAny_bind (wpAny_setState_of ho hd R.fits ?_)
  dsimp only
  refine wp_if_neg (by simp [byScan, Value.scannable]) ?_
  try refine wpAny_bind (wpAny_pure ?_)
  refine wpAny_bind (seek_tup O R T hx hu (fun hm => wpAny_pure (q false s.heap L es ep t (Heap.SameBut.refl a s.heap) R (fun _ _ z => z) (fun _ => rfl) fun z => absurd hm z)) fun Z hm hZ hb => ?_)
  dsimp only
  refine wpAny_bind (wpAny_setState_of ho hd R.fits ?_)
  dsimp only
  obtain ⟨q1, q2, q3, q4, q5, _, _, _, q9⟩ := R.tab.put hZ hb
  generalize hpt : t.put (way t.mask (tupleKeyHash kk k) Z) = pt at q1 q3 q4 q5 q9 ⊢
  obtain ⟨t1, p1⟩ := pt
  dsimp only at q1 q3 q4 q5 q9 ⊢
  subst q1
  generalize hpp : SetTable.below t.place (way t.mask (tupleKeyHash kk k) Z) = p at q2 q3 ⊢
  have pm := put_perm L p (x, k)
  have hlen : (L.take p ++ (x, k) :: L.drop p).length = L.length + 1 := pm.length_eq
  rw [← hsK_put L p (x, k)] at q3
  have en1 : (SetTable.insertAt es p (tupleKeyHash kk k, Value.ref x)).toList = entK kk (L.take p ++ (x, k) :: L.drop p) := by
    rw [SetTable.toList_insertAt, entK_put, R.en]
  have nd1 : ((L.take p ++ (x, k) :: L.drop p).map (·.2)).Nodup := (pm.map (·.2)).nodup_iff.mpr (by rw [List.map_cons]; exact List.nodup_cons.mpr ⟨hm, R.nd⟩)
  have hes : (SetTable.insertAt es p (tupleKeyHash kk k, Value.ref x)).size = L.length + 1 := (entK_len en1).trans hlen
  generalize SetTable.insertAt es p (tupleKeyHash kk k, Value.ref x) = es1 at en1 hes ⊢
  generalize L.take p ++ (x, k) :: L.drop p = L1 at pm hlen q3 nd1 en1
  -- what is left, with whatever the table says of its values
  have rest : ∀ t2 : SetTable, TabOk t2 (hsK kk L1) → t2.mask = t.mask → t2.led = t.led → t2.fill = (hsK kk L).length + 1 →
      wpAny (model P w) A (do
        storeSet a es1 t2
        if !false && t2.tooFull then setRelay a (SetTable.grown (es.size + 1))
        return true : Sem Bool) Q E s := by
    intro t2 tab2 em el ef
    refine wpAny_bind (wpAny_storeSet_of ho hd ?_ (by rw [hes, sizeLine_eq]; omega))
    have sb : Heap.SameBut a s.heap (s.heap.update a (Obj.putSet es1 t2)) := Heap.SameBut.update ..
    have ho1 := store_at (es' := es1) (t' := t2) ho hd
    generalize s.heap.update a (Obj.putSet es1 t2) = h1 at sb ho1 ⊢
    have keys1 : ∀ (k' : List K) (c : Addr), IsTupleKey kk s.heap k' c → IsTupleKey kk h1 k' c := fun k' c z => keyBeside z ho hd sb
    have led2 : w.params.followText "set-order" = true ∨ t2.led = true := by rw [el]; exact R.led
    have ef2 : t2.fill = L.length + 1 := ef.trans (congrArg (· + 1) (List.length_map _))
    by_cases hf : t2.tooFull = true
    · have full : (L.length + 1) * 5 ≥ t.mask * 3 := by
        have h := hf
        unfold SetTable.tooFull at h
        rw [decide_eq_true_eq, ef2, em] at h
        exact h
      have two := mask_cases R.tab.mok room full (by omega)
      have go : ∀ M, SetTable.sizeAbove (SetTable.grown (L.length + 1)) - 1 = M → MaskOk M → SetTable.sizeAbove (SetTable.grown (L.length + 1)) ≤ 128 → (L.length + 1) * 5 < M * 3 →
          wpAny (model P w) A (setRelay a (SetTable.grown (L.length + 1))) (fun _ s' => wpAny (model P w) A (pure true) Q E s') E { s with heap := h1 } := fun M h1' h2' h3' h4' =>
        relay_tup (kk := kk) (s := { s with heap := h1 }) ho1 ⟨hex.1, hex.2.1, hex.2.2⟩ rfl en1 tab2 nd1 led2 (by rw [hlen]; exact few) (by rw [hlen, em]; rcases two with ⟨e, e2⟩ | ⟨e, e2⟩ <;> omega) h1' h2' h3' (by rw [hlen]; exact h4')
          fun h2 L2 es2 ep2 t3 sb2 R2 pm2 => wpAny_pure (q true h2 L2 es2 ep2 t3 (sb.trans sb2) R2 (fun k' c z => keyBeside (keys1 k' c z) ho1 rfl sb2) (fun z => absurd z hm) fun _ => pm2.trans pm)
      rw [sz]
      first
        | (refine wpAny_bind ?_; refine wp_if_pos (by simp [hf]) ?_)
        | (refine wp_if_pos (by simp [hf]) ?_; refine wpAny_bind ?_)
      rcases two with ⟨_, e2⟩ | ⟨_, e2⟩
      · exact go 31 (by rw [e2, size_20]) (.inr (.inl rfl)) (by rw [e2, size_20]; decide) (by omega)
      · exact go 127 (by rw [e2, size_76]) (.inr (.inr rfl)) (by rw [e2, size_76]; decide) (by omega)
    · first
        | refine wp_if_neg (by simp [hf]) ?_
        | (refine wpAny_bind ?_; refine wp_if_neg (by simp [hf]) ?_; refine wpAny_pure ?_)
      refine wpAny_pure (q true h1 L1 es1 (ep + 1) t2 sb ⟨⟨_, ho1, ⟨hex.1, hex.2.1, hex.2.2⟩, rfl⟩, en1, tab2, nd1, led2, ?_, by rw [hlen]; exact few⟩ keys1 (fun z => absurd z hm) fun _ => pm)
      have h := hf
      unfold SetTable.tooFull at h
      rw [decide_eq_true_eq, ef2] at h
      rw [hlen]
      omega
  have either : ∀ z : Bool, wpAny (model P w) A (do
        storeSet a es1 (if z then t1 else { t1 with plain := false })
        if !false && (if z then t1 else { t1 with plain := false }).tooFull then setRelay a (SetTable.grown (es.size + 1))
        return true : Sem Bool) Q E s := fun z => by
    cases z with
    | true => exact rest t1 q3 q4 q5 q9
    | false => exact rest { t1 with plain := false } ⟨q3.ris, q3.dm, q3.sz, q3.mok, q3.bd, q3.reach⟩ q4 q5 q9
  by_cases hpl : t1.plain = true
  · first
      | (refine wpAny_bind ?_; refine wp_if_pos hpl ?_; exact byVal_tup O hx either)
      | exact wp_if_pos hpl (wpAny_bind (byVal_tup O hx either))
  · first
      | (refine wpAny_bind ?_; refine wp_if_neg hpl ?_; exact wpAny_pure (either true))
      | exact wp_if_neg hpl (wpAny_bind (wpAny_pure (either true)))
      | exact wp_if_neg hpl (either true)
end
end Pn

namespace Pn
open PySem PySem.Spec PyProof.Rows L2
/-- what the first i of the tuples leave in a set -/
structure Gained {K : Type} (ks : List (Addr × List K)) (i : Nat) (L : List (Addr × List K)) : Prop where
  of : ∀ p ∈ L, p ∈ ks.take i
  all : ∀ p ∈ ks.take i, p.2 ∈ L.map (·.2)
  len : L.length ≤ i
theorem gained_nil {K : Type} (ks : List (Addr × List K)) : Gained ks 0 [] := ⟨(fun _ z => nomatch z), (fun p z => by simp at z), Nat.le_refl _⟩
theorem gained_next {K : Type} {ks L L' : List (Addr × List K)} {i : Nat} {x : Addr × List K} (g : Gained ks i L) (hx : ks[i]? = some x) (c1 : x.2 ∈ L.map (·.2) → L' = L) (c2 : x.2 ∉ L.map (·.2) → L'.Perm (x :: L)) : Gained ks (i + 1) L' := by
  have e : ks.take (i + 1) = ks.take i ++ [x] := by
    rw [List.take_add_one, hx]
    rfl
  rcases Classical.em (x.2 ∈ L.map (·.2)) with m | m
  · rw [c1 m]
    refine ⟨fun p hp => by rw [e]; exact List.mem_append_left _ (g.of p hp), fun p hp => ?_, Nat.le_succ_of_le g.len⟩
    rw [e] at hp
    rcases List.mem_append.mp hp with z | z
    · exact g.all p z
    · rw [List.mem_singleton.mp z]
      exact m
  · have pm := c2 m
    refine ⟨fun p hp => ?_, fun p hp => (pm.map (·.2)).mem_iff.mpr ?_, by rw [pm.length_eq]; exact Nat.succ_le_succ g.len⟩
    · rw [e]
      rcases List.mem_cons.mp (pm.mem_iff.mp hp) with z | z
      · exact List.mem_append_right _ (List.mem_singleton.mpr z)
      · exact List.mem_append_left _ (g.of p z)
    · rw [e] at hp
      rw [List.map_cons]
      rcases List.mem_append.mp hp with z | z
      · exact List.mem_cons_of_mem _ (g.all p z)
      · rw [List.mem_singleton.mp z]
        exact List.mem_cons_self
/-- a set of tuples, whatever its table -/
def TupSet {P : Program} {w : World} {K : Type} [DecidableEq K] (kk : KeyKind P w K) (h : Heap) (a : Addr) (L : List (Addr × List K)) : Prop := ∃ es ep t, TpSet kk h a L es ep t
section
variable {P : Program} {w : World} {K : Type} [DecidableEq K] {kk : KeyKind P w K} {A : Around} {E : Value → Shared → Prop} {s : Shared}
theorem TupSet.keep {h h' : Heap} {a : Addr} {L : List (Addr × List K)} (R : TupSet kk h a L) (q : ∀ o, h.get? a = some o → h'.get? a = some o) : TupSet kk h' a L := by
  obtain ⟨es, ep, t, R⟩ := R
  obtain ⟨o, ho, r⟩ := R.ob
  exact ⟨es, ep, t, ⟨o, q o ho, r⟩, R.en, R.tab, R.nd, R.led, R.room, R.few⟩
/-- the new set, empty -/
abbrev bareT (w : World) : Obj := { cls := .type "set", dict := none, data := .set #[] 0 (.fresh 0 0 (!w.params.followText "set-order")) }
theorem tupset_new {h : Heap} {a : Addr} (ho : h.get? a = some (bareT w)) : TupSet kk h a [] :=
  ⟨#[], 0, _, ⟨_, ho, ⟨rfl, rfl, rfl⟩, rfl⟩, rfl, ⟨List.Pairwise.nil, rfl, rfl, .inl rfl, (fun x hx => nomatch hx), (fun i h j hi => by simp [hsK] at hi)⟩, List.nodup_nil, (by
    show _ ∨ (!w.params.followText "set-order") = true
    cases w.params.followText "set-order" <;> simp), (by show 0 * 5 < 7 * 3; decide), (by show 0 < 64; decide)⟩
/-- few different keys -/
def LowT (ks : List (Addr × List K)) : Prop := ∃ B : List (List K), B.length < 63 ∧ ∀ p ∈ ks, p.2 ∈ B
theorem nodup_few {α : Type} [DecidableEq α] : ∀ {l B : List α}, l.Nodup → (∀ x ∈ l, x ∈ B) → l.length ≤ B.length
  | [], _, _, _ => Nat.zero_le _
  | x :: l, B, nd, h => by
    obtain ⟨n1, n2⟩ := List.nodup_cons.mp nd
    have hx := h x List.mem_cons_self
    have q := nodup_few (l := l) (B := B.erase x) n2 fun y hy => (List.mem_erase_of_ne (fun e => n1 (by rw [← e]; exact hy))).mpr (h y (List.mem_cons_of_mem _ hy))
    rw [List.length_erase_of_mem hx] at q
    have hp := List.length_pos_of_mem hx
    rw [List.length_cons]
    omega
theorem few_low {ks L : List (Addr × List K)} (nd : (L.map (·.2)).Nodup) (low : LowT ks) (h : ∀ q ∈ L, q ∈ ks) : L.length + 1 < 64 := by
  obtain ⟨B, hB, hk⟩ := low
  have q := nodup_few (B := B) nd fun y hy => by
    obtain ⟨p, hp, rfl⟩ := List.mem_map.mp hy
    exact hk p (h p hp)
  rw [List.length_map] at q
  omega
theorem loop_tups (O : ItemOk kk) {I : Addr} {fp wr : List Addr} {G : Array GenState → Array GenState → Prop} {n : Nat} {Pv : Nat → Value → Prop} {St : Nat → Shared → Prop} {R : Result → Shared → Prop} (W : WalksS P w A.in1 I fp wr G n Pv St)
    (S : Addr) (out : S ∉ fp) (ks : List (Addr × List K)) (hn : n = ks.length) (low : LowT ks) (hv : ∀ i v, Pv i v → ∃ p, ks[i]? = some p ∧ v = .ref p.1) (free : ∀ p ∈ ks, p.1 ∉ wr) (hu : A.in1.units < PySem.cLine) :
    ∀ (k i : Nat) (s : Shared), n - i = k → i ≤ n → St i s → TupsIn kk s.heap ks → (∃ L, TupSet kk s.heap S L ∧ Gained ks i L) →
      (∀ s' L, Moved (S :: wr) G s s' → TupSet kk s'.heap S L → Gained ks n L → R (.ok (.ret .none)) s') → codeAny (model P w) A (.builtin "set.update.loop" ⟨[.ref S, .ref I], []⟩) R s := by
  have outW : S ∉ wr := fun h => out (W.sub _ h)
  have more : ∀ b ∈ wr, b ∈ S :: wr := fun b h => List.mem_cons_of_mem _ h
  have keys : ∀ {s s' : Shared}, Moved wr G s s' → TupsIn kk s.heap ks → TupsIn kk s'.heap ks := fun mv T p hp => by
    obtain ⟨o, items, m, ho, r⟩ := T p hp
    exact ⟨o, items, m, mv.heap p.1 o (free p hp) ho, r⟩
  intro k
  induction k with
  | zero =>
    intro i s e1 e2 st T X fin
    obtain rfl : i = n := by omega
    obtain ⟨L, X, g⟩ := X
    refine codeAny_builtin PyProof.Rows.F.entry_set_update_loop ?_
    rw [Around.under_plainId PyProof.Rows.F.plain_set_update_loop _]
    show wpAny _ A.in1 (pyNext (.ref I) >>= _) _ _ s
    exact wpAny_bind (W.done s _ _ st fun s' mv => wpAny_pure (fin s' L (mv.mono more) (X.keep fun o e => mv.heap S o outW e) g))
  | succ k ih =>
    intro i s e1 e2 st T X fin
    obtain ⟨L, X, g⟩ := X
    have lt : i < n := by omega
    refine codeAny_builtin PyProof.Rows.F.entry_set_update_loop ?_
    rw [Around.under_plainId PyProof.Rows.F.plain_set_update_loop _]
    show wpAny _ A.in1 (pyNext (.ref I) >>= _) _ _ s
    refine wpAny_bind (W.item i s _ _ lt st fun v s1 pv st1 mv => ?_)
    obtain ⟨p, hp, rfl⟩ := hv i v pv
    have T1 := keys mv T
    obtain ⟨es, ep, t, X1⟩ := X.keep (h' := s1.heap) fun o e => mv.heap S o outW e
    have hx := T1 p (List.mem_of_getElem? hp)
    show wpAny _ A.in1 (holding [Value.ref p.1] (setAdd S (.ref p.1)) >>= _) _ _ s1
    refine wpAny_bind (wpAny_holding ?_)
    unfold setAdd
    refine wpAny_holding (wpAny_bind (wpAny_pyHash_tuple hu hx ?_))
    refine add_tup (s := { s1 with toks := s1.toks + (p.2.length + 1) }) O X1 (fun q hq => T1 q (List.mem_of_mem_take (g.of q hq))) hx hu (few_low X1.nd low fun q hq => List.mem_of_mem_take (g.of q hq)) fun b h' L' es' ep' t' sb X2 kept c1 c2 => ?_
    refine wpAny_pure ⟨plainId_quiet PyProof.Rows.F.plain_set_update_loop _, ih (i + 1) _ (by omega) lt (W.frame (i + 1) s1 h' (s1.toks + (p.2.length + 1)) st1 (Nat.le_add_right _ _) fun c hc o e => ?_) (fun q hq => kept _ _ (T1 q hq)) ⟨L', ⟨es', ep', t', X2⟩, gained_next g hp c1 c2⟩
      fun s2 L2 mv2 X3 g3 => fin s2 L2 (Moved.trans W.gtrans ((mv.mono more).then_heap (Nat.le_add_right _ _) fun c o hc e => ?_) mv2) X3 g3⟩
    · exact (sb.2 c fun z => out (z ▸ hc)).trans e
    · exact (sb.2 c fun z => hc (z ▸ List.mem_cons_self)).trans e
set_option maxHeartbeats 3200000 in
/-- set(xs), xs a list of tuples -/
theorem set_of_tups (O : ItemOk kk) {l : Addr} {items : Array Value} {ks : List (Addr × List K)} {Q : Value → Shared → Prop} (calm : A.handled = none) (hl : s.heap.IsList l items) (hx : items.toList = ks.map fun p => Value.ref p.1) (T : TupsIn kk s.heap ks) (low : LowT ks) (hu : A.units + 3 < PySem.cLine)
    (h : ∀ (h' : Heap) (tk : Nat) L, TupSet kk h' s.heap.objs.size L → Gained ks ks.length L → (∀ b o, s.heap.get? b = some o → h'.get? b = some o) → Q (.ref s.heap.objs.size) { s with heap := h', toks := tk }) : wpAny (model P w) A (call (.type "set") [.ref l]) Q E s := by
  have sz : items.size = ks.length := by
    have q := congrArg List.length hx
    rw [Array.length_toList, List.length_map] at q
    exact q
  obtain ⟨mc, mt, mro⟩ := PySem.F.called_set.mro
  have made := PySem.F.called_set.made
  have sub := PySem.F.called_set.sub
  have notT := PySem.F.called_set.notType
  have can := PySem.F.called_set.canCreate
  have chk := PySem.F.typeCall_set_1 (.ref l)
  refine wpAny_call (codeAny_of_tree (show wpAny _ _ (callAny (.type "set") _) _ _ _ from wpAny_pure ⟨Code.quiet_builtin _ (by decide +kernel), codeAny_builtin PySem.F.entry_type_call ?_⟩))
  rw [Around.under_plain (weight_type_call_type "set" [.ref l] []) rfl]
  repeat (any_goals (first | assumption | wp_step))
  let S := s.heap.objs.size
  let H1 := s.heap.push (bareT w)
  refine codeAny_mono (L2.code_set_led1 (.ref l) (E := E) (Q₁ := fun v s1 => v = .ref S ∧ s1 = { s with heap := H1 }) ⟨rfl, rfl⟩) fun r s1 hr => ?_
  match r, hr with
  | .error e, hr => exact hr
  | .ok .next, hr => exact hr.elim
  | .ok .brk, hr => exact hr.elim
  | .ok .cont, hr => exact hr.elim
  | .ok (.ret v), ⟨e1, e2⟩ =>
    subst e1
    subst e2
    have there : H1.get? S = some (bareT w) := Heap.get?_push_size _ rfl
    have ty : Shared.TypeIs { s with heap := H1 } (.ref S) "set" := ⟨_, there, rfl⟩
    have look := PySem.F.called_set.init.lookup
    have bnd := PySem.F.called_set.init.bind (.ref S)
    repeat (any_goals (first | assumption | wp_step))
    refine codeAny_mono (codeAny_call_builtin (R := wants (fun v s2 => v = .none ∧ ∃ h' tk L, s2 = { s with heap := h', toks := tk } ∧ TupSet kk h' S L ∧ Gained ks ks.length L ∧ ∀ b o, s.heap.get? b = some o → h'.get? b = some o) E)
      PySem.F.called_set.init.plain PySem.F.entry_set_init (check_set_init_1 ty ?_)) fun r2 s2 hr2 => ?_
    · obtain ⟨⟨kc, kd, kt, ks2⟩, ol, c1, nl, c2⟩ := hl
      simp only at c1 c2
      subst c1
      subst c2
      have ol1 : H1.get? l = some { cls := .type "list", dict := kd, data := .seq items nl, slots := ks2 } := Heap.get?_push_of_some _ ol
      have l1 : H1.IsList l items := ⟨_, ol1, rfl, nl, rfl⟩
      have f1 := PySem.F.sub_list_set
      have f2 := PySem.F.sub_list_frozenset
      have f3 : (Value.type "list" == Value.type "dict") = false := by decide
      unfold Builtin.«set.__init__» noKeywords Builtin.Frozenset.updateFrom
      generalize hp : pyIter = PI
      wp_walk
      subst hp
      refine wpAny_pyIter_list l1 (wpAny_bind (wpAny_runValue ?_))
      have lS : l < S := Heap.lt_size ol
      have zz : H1.objs.size = S + 1 := size_push' _ _
      have calm3 : A.in1.in1.in1.handled = none := by simp [calm]
      have nI : l ≠ H1.objs.size := by rw [zz]; exact Nat.ne_of_lt (Nat.lt_succ_of_lt lS)
      have outS : S ∉ [H1.objs.size, l] := by
        rw [zz]
        intro z
        rcases List.mem_cons.mp z with z | z
        · exact absurd z (Nat.ne_of_lt (Nat.lt_succ_self _))
        · exact absurd (List.mem_singleton.mp z) (Nat.ne_of_gt lS)
      refine loop_tups O (Walks.list calm3 _ l nI items).toS S outS ks sz low (fun i v pv => ?_) (fun p hp z => ?_) hu (items.size - 0) 0 _ (by omega) (Nat.zero_le _) ⟨⟨_, Heap.get?_push_size _ rfl, rfl, rfl⟩, l1.push _⟩ (fun p hp => keyStays (T p hp) fun b o e => Heap.get?_push_of_some _ (Heap.get?_push_of_some _ e))
        ⟨[], tupset_new (Heap.get?_push_of_some _ there), gained_nil ks⟩ (fun s' L mv X g => ?_)
      · have pv' : items.toList[i]? = some v := by rw [Array.getElem?_toList]; exact pv
        rw [hx, List.getElem?_map] at pv'
        obtain ⟨p, hp, e⟩ := Option.map_eq_some_iff.mp pv'
        exact ⟨p, hp, e.symm⟩
      · obtain ⟨o, _, _, ho, _⟩ := T p hp
        have lb := Heap.lt_size ho
        have e2 := List.mem_singleton.mp z
        rw [zz] at e2
        exact absurd e2 (Nat.ne_of_lt (Nat.lt_succ_of_lt lb))
      · obtain ⟨h', g', d', tk', os'⟩ := s'
        obtain rfl : g' = s.gens := mv.gens
        obtain rfl : d' = s.drawn := mv.drawn
        obtain rfl : os' = s.os := mv.os
        show wpAny _ _ _ _ _ _
        refine wpAny_pure ?_
        show wpAny _ _ (ret Value.none) _ _ _
        rw [sz] at g
        refine wpAny_pure ⟨rfl, h', tk', L, rfl, X, g, fun b o e => ?_⟩
        have lb : b < S := Heap.lt_size e
        refine mv.heap b o (fun z => ?_) (Heap.get?_push_of_some _ (Heap.get?_push_of_some _ e))
        rcases List.mem_cons.mp z with z | z
        · exact absurd z (Nat.ne_of_lt lb)
        · have e2 := List.mem_singleton.mp z
          rw [zz] at e2
          exact absurd e2 (Nat.ne_of_lt (Nat.lt_succ_of_lt lb))
    · match r2, hr2 with
      | .error e, hr2 => exact hr2
      | .ok .next, hr2 => exact hr2.elim
      | .ok .brk, hr2 => exact hr2.elim
      | .ok .cont, hr2 => exact hr2.elim
      | .ok (.ret v), ⟨e1, h', tk, L, e2, X, g, old⟩ =>
        subst e1
        subst e2
        repeat (any_goals (first | assumption | wp_step))
        exact h _ _ L X g old
end
end Pn

namespace Pn
open PySem PySem.Spec PyProof.Rows L2
/-! ### sets of tuples of texts as rules: set(xs), sorted(s) -/
def keyI (k : List Str) : List (Int ⊕ List Nat) := k.map fun z => Sum.inr z.cps.toList
/-- the order of tuples of texts -/
def ltT (a b : List Str) : Bool := lexLt itemOrd (keyI a) (keyI b)
theorem str_ext {x y : Str} (h : x.cps.toList = y.cps.toList) : x = y := by
  obtain ⟨a⟩ := x
  obtain ⟨b⟩ := y
  have e : a = b := Array.toList_inj.mp h
  rw [e]
theorem keyI_inj : ∀ {a b : List Str}, keyI a = keyI b → a = b
  | [], [], _ => rfl
  | [], _ :: _, h => nomatch h
  | _ :: _, [], h => nomatch h
  | x :: a, y :: b, h => by
    injection h with h1 h2
    injection h1 with h1
    rw [str_ext h1, keyI_inj (a := a) (b := b) h2]
theorem ltT_irrefl (a : List Str) : ltT a a = false := lex_irrefl _
theorem ltT_trans {a b c : List Str} (h1 : ltT a b = true) (h2 : ltT b c = true) : ltT a c = true := lex_trans _ _ _ h1 h2
theorem ltT_total {a b : List Str} (h1 : ltT a b = false) (h2 : ltT b a = false) : a = b := keyI_inj (lex_total _ _ h1 h2)
section
variable {P : Program} {w : World}
theorem strItems : ∀ {k : List Str} {us : List Value}, Vals (k.map V.str) us → ItemsAre (PySem.strKind P w) k us
  | [], _, .nil => .nil
  | z :: k, _, .cons r t => by
    obtain ⟨tk, rfl⟩ := r
    exact .cons (show Value.isStrOf z (.str z tk) = true by simp [Value.isStrOf]) (strItems t)
theorem tupItems_str {sh : Nat → Bool} (hsh : ∀ i, sh i = true) {k : List Str} {us : List Value} (h : ItemsAre (PySem.strKind P w) k us) : ∀ i, tupItems sh i us = some (keyI k) := by
  induction h with
  | nil => exact fun _ => rfl
  | @cons z v k us h1 _ ih =>
    intro i
    obtain ⟨t, rfl⟩ := Value.isStrOf_shape h1
    show (if sh i = true then (tupItems sh (i + 1) us).map (Sum.inr z.cps.toList :: ·) else none) = _
    rw [if_pos (hsh i), ih (i + 1)]
    rfl
abbrev allStr : Nat → Bool := fun _ => true
theorem key_of_tup {h : Heap} {k : List Str} {a : Addr} (x : IsTupleKey (PySem.strKind P w) h k a) : PyProof.Rows.G.tupKeyC h allStr (.ref a) = some (keyI k) := by
  obtain ⟨o, items, n, ho, hc, hd, hi⟩ := x
  unfold PyProof.Rows.G.tupKeyC
  have e1 : PyProof.Rows.G.isTupObj h (.ref a) = true := by simp [PyProof.Rows.G.isTupObj, ho, hc]
  rw [if_pos e1]
  simp only [tupKey, ho, hd]
  exact tupItems_str (fun _ => rfl) hi 0
theorem tupsOf_keys {h : Heap} : ∀ {L : List (Addr × List Str)}, (∀ p ∈ L, IsTupleKey (PySem.strKind P w) h p.2 p.1 ∧ p.2 ≠ []) → ∃ fs, TupsOf h allStr (L.map fun p => Value.ref p.1) fs
  | [], _ => ⟨[], .nil⟩
  | p :: L, H => by
    obtain ⟨fs, r⟩ := tupsOf_keys fun q hq => H q (List.mem_cons_of_mem _ hq)
    obtain ⟨⟨o, items, n, ho, hc, hd, hi⟩, ne⟩ := H p List.mem_cons_self
    obtain ⟨f, hf, t, ef⟩ : ∃ f, items[0]? = some f ∧ ∃ t x, f = .str x t := by
      cases hp : p.2 with
      | nil => exact absurd hp ne
      | cons z k =>
        rw [hp] at hi
        cases hl : items.toList with
        | nil => rw [hl] at hi; cases hi
        | cons v us =>
          rw [hl] at hi
          cases hi with
          | cons h1 _ =>
            obtain ⟨t, e⟩ := Value.isStrOf_shape h1
            exact ⟨v, by rw [← Array.getElem?_toList, hl]; rfl, t, z, e⟩
    obtain ⟨x, ef⟩ := ef
    exact ⟨f :: fs, .cons ⟨p.1, o, items, n, rfl, ho, hc, hd, hf, (fun z => nomatch z), fun _ => ⟨x, t, ef⟩⟩ r⟩
variable {A : Around} {E : Value → Shared → Prop} {s : Shared}
/-- sorted(s), s a set of tuples of texts -/
theorem sorted_set_tups {a : Addr} {L : List (Addr × List Str)} {Q : Value → Shared → Prop} (R : TupSet (PySem.strKind P w) s.heap a L) (T : ∀ p ∈ L, IsTupleKey (PySem.strKind P w) s.heap p.2 p.1 ∧ p.2 ≠ []) (calm : A.handled = none)
    (q : ∀ s' p (out : Array Value) (c : Nat) (L' : List (Addr × List Str)), (∀ b o, s.heap.get? b = some o → s'.heap.get? b = some o) → s'.gens = s.gens → s'.os = s.os → s.heap.objs.size ≤ p →
      s'.heap.get? p = some (seqObj "list" out c) → out.toList = L'.map (fun q => Value.ref q.1) → L'.Perm L → (L'.map (·.2)).Pairwise (fun x y => ltT x y = true) → Q (.ref p) s') :
    wpAny (model P w) A (call (.builtin "sorted") [.ref a]) Q E s := by
  obtain ⟨es, ep, t, R⟩ := R
  obtain ⟨o, ho, hex, hd⟩ := R.ob
  have sz := entK_len R.en
  have few := R.few
  refine Calls.call_function_entry kind_sorted plain_sorted entry_sorted (args_sorted1 _) ?_
  unfold Builtin.«sorted»
  refine wpAny_bind (m := checkCount "sorted" 1 1 _) (wpAny_pure ?_)
  refine wpAny_bind (collect_set (A := A.in1) calm ⟨o, ho, hex.1, hd⟩ R.fits (by unfold scanBound; omega) R.tab.ris R.led fun s1 vs k1 hz g1 o1 pm => ?_)
  have hes : es.toList.map (·.2) = L.map fun q => Value.ref q.1 := by
    rw [R.en]
    show (L.map _).map _ = _
    rw [List.map_map]
    rfl
  rw [hes] at pm
  obtain ⟨L1, p1, e1⟩ := perm_lift (fun q : Addr × List Str => Value.ref q.1) pm L rfl
  have vl : vs.length = L.length := by rw [pm.length_eq, List.length_map]
  refine wpAny_bind (wpAny_newList ?_ (by rw [vl, sizeLine_eq]; omega))
  have hoL : (s1.heap.push (seqObj "list" vs.toArray 0)).get? s1.heap.objs.size = some (seqObj "list" vs.toArray 0) := Heap.get?_push_size _ rfl
  have T1 : ∀ p ∈ L1, IsTupleKey (PySem.strKind P w) (s1.heap.push (seqObj "list" vs.toArray 0)) p.2 p.1 ∧ p.2 ≠ [] := fun p hp => by
    obtain ⟨x, y⟩ := T p (p1.mem_iff.mp hp)
    exact ⟨keyStays x fun b u e => Heap.get?_push_of_some _ (k1 b u e), y⟩
  obtain ⟨fs, hfs⟩ := tupsOf_keys T1
  rw [e1] at hfs
  have nd1 : (L1.map (·.2)).Nodup := (p1.map (·.2)).nodup_iff.mpr R.nd
  refine wpAny_bind (wpAny_holding (wpAny_call_entry slot_list_sort ⟨_, hoL, rfl⟩ entry_list_sort (PyProof.Rows.G.list_sort_tups (s := { s1 with heap := s1.heap.push (seqObj "list" vs.toArray 0) }) hoL hfs (fun v hv => ?_) (by rw [vl, sizeLine_eq]; omega) fun st hp hs _ => ⟨_, rfl, ?_⟩) (args_list_sort _)))
  · rw [← e1] at hv
    obtain ⟨p, hp, rfl⟩ := List.mem_map.mp hv
    exact ⟨_, key_of_tup (T1 p hp).1⟩
  · have hp2 : (arrOf st).toList.Perm (vs.zip vs) := by
      have z := Array.perm_iff_toList_perm.mp hp
      rw [pairsOf_toList] at z
      exact z
    have ez : vs.zip vs = L1.map fun q => (Value.ref q.1, Value.ref q.1) := by
      rw [← e1, List.zip_map']
    rw [ez] at hp2
    obtain ⟨L2, p2, e2⟩ := perm_lift (fun q : Addr × List Str => (Value.ref q.1, Value.ref q.1)) hp2 L1 rfl
    obtain ⟨c, hc⟩ := sortedHeap_at (vs := vs) (out := (arrOf st).map (·.2)) hoL
    have hout : ((arrOf st).map (·.2)).toList = L2.map fun q => Value.ref q.1 := by
      rw [Array.toList_map, ← e2, List.map_map]
      rfl
    have nd2 : (L2.map (·.2)).Nodup := (p2.map (·.2)).nodup_iff.mpr nd1
    refine wpAny_pure ⟨_, rfl, q _ s1.heap.objs.size _ c L2 (fun b u e => ?_) g1 o1 hz hc hout (p2.trans p1) ?_⟩
    · have z := k1 b u e
      have lt := Heap.lt_size z
      show (sortedHeap (s1.heap.push (seqObj "list" vs.toArray 0)) s1.heap.objs.size vs ((arrOf st).map (·.2))).get? b = some u
      rw [sortedHeap_old (Nat.ne_of_lt lt) (by rw [size_push']; exact Nat.lt_succ_of_lt lt)]
      exact Heap.get?_push_of_some _ z
    · rw [List.pairwise_iff_getElem]
      intro i j hi hj hij
      rw [List.length_map] at hi hj
      have kk : ∀ i (h : i < L2.length), KK (PyProof.Rows.G.tupKindC (s1.heap.push (seqObj "list" vs.toArray 0)) allStr) (arrOf st) i = keyI (L2[i]).2 := fun i h => by
        have g : (arrOf st)[i]? = some (Value.ref (L2[i]).1, Value.ref (L2[i]).1) := by
          rw [← Array.getElem?_toList, ← e2, List.getElem?_map, List.getElem?_eq_getElem h]
          rfl
        unfold KK
        rw [g]
        show ((PyProof.Rows.G.tupKeyC _ allStr (Value.ref (L2[i]).1)).getD []) = _
        rw [key_of_tup (T1 _ (p2.mem_iff.mp (List.getElem_mem h))).1]
        rfl
      have psz : (pairsOf vs).size = L2.length := by rw [pairsOf_size, ← e1, List.length_map, p2.length_eq]
      have z := hs i j (Nat.le_of_lt hij) (by rw [psz]; exact hj)
      rw [kk i hi, kk j hj] at z
      have z : ltT (L2[j]).2 (L2[i]).2 = false := z
      rw [List.getElem_map, List.getElem_map]
      cases y : ltT (L2[i]).2 (L2[j]).2 with
      | true => rfl
      | false =>
        have e := ltT_total y z
        have ne := List.pairwise_iff_getElem.mp nd2 i j (by rw [List.length_map]; exact hi) (by rw [List.length_map]; exact hj) hij
        rw [List.getElem_map, List.getElem_map] at ne
        exact absurd e ne
end
end Pn

namespace Pn
open PySem PySem.Spec PyProof.Rows L2
def SetTp (P : Program) (w : World) (a : Addr) (L : List (Addr × List Str)) : HO := .ext fun h => TupSet (PySem.strKind P w) h a L
theorem setTp_new {P : Program} {w : World} {H : Hp} {h : Heap} {a : Addr} {L : List (Addr × List Str)} (R : TupSet (PySem.strKind P w) h a L) : ObjOk P w H h a (SetTp P w a L) := by
  have ⟨es, ep, t, R2⟩ := R
  obtain ⟨o, ho, _⟩ := R2.ob
  exact ⟨R, ⟨o, ho⟩, fun h1 h2 p k => TupSet.keep p k⟩
theorem refVals : ∀ {ks : List (Addr × List Str)} {us : List Value}, Vals (ks.map fun p => V.ref p.1) us → us = ks.map fun p => Value.ref p.1
  | [], _, .nil => rfl
  | p :: ks, _, .cons r t => by
    cases r
    rw [refVals t]
    rfl
theorem valRefs : ∀ (ks : List (Addr × List Str)), Vals (ks.map fun p => V.ref p.1) (ks.map fun p => Value.ref p.1)
  | [] => .nil
  | p :: ks => .cons rfl (valRefs ks)
section
variable {X : Cx}
theorem inv_key {pins : List (Addr × Obj)} {σ : L2.St} {H : Hp} {s : Shared} {b : Addr} {k : List Str} (I : Inv X pins σ H s) (h : SqT X.K H b (k.map V.str)) : IsTupleKey (PySem.strKind X.prog X.w) s.heap k b := by
  obtain ⟨its, r, ⟨o, ho, hc, n, hd⟩, _⟩ := I.tuple h
  exact ⟨o, its.toArray, n, ho, hc, hd, by simpa using strItems r⟩
/-- set(xs), xs a list of tuples of texts -/
def rSetTp (K : PySem.W.Frag) (P : Program) (w : World) : List V → Hp → VK → Prop := fun xs H Q => ∃ (l : Addr) (ks : List (Addr × List Str)), xs = [.ref l] ∧ SqL K H l (ks.map fun p => V.ref p.1) ∧ (∀ p ∈ ks, SqT K H p.1 (p.2.map V.str)) ∧ LowT ks ∧
  ∀ a L, H a = none → (∀ p ∈ L, p ∈ ks) → (∀ p ∈ ks, p.2 ∈ L.map (·.2)) → Q (.ref a) (upd H a (SetTp P w a L))
theorem cr_setTp (hc : X.calm = true) (hu : X.A.units + 64 < PySem.cLine) : CallR X (.type "set") (rSetTp X.K X.prog X.w) := by
  intro pins s σ H xs us Q I r h
  obtain ⟨l, ks, rfl, hl, hk, hf, q⟩ := h
  rw [Vals.ref1 r]
  obtain ⟨its, rv, pl, hz⟩ := I.list hl
  refine set_of_tups (str_itemOk X.prog X.w) (ks := ks) (I.ok.hd hc) pl.isList (by simpa using refVals rv) (fun p hp => inv_key I (hk p hp)) hf (by omega) fun h' tk L R g k => ?_
  exact ⟨.ref s.heap.objs.size, upd H s.heap.objs.size (SetTp X.prog X.w s.heap.objs.size L), I.laid (t' := tk) k (Nat.le_refl _) (setTp_new R), rfl, q _ L (I.hok.fresh (Nat.le_refl _)) (fun p hp => List.mem_of_mem_take (g.of p hp)) fun p hp => g.all p (by rw [List.take_length]; exact hp)⟩
/-- sorted(s), s such a set -/
def rSortTp (K : PySem.W.Frag) (P : Program) (w : World) : List V → Hp → VK → Prop := fun vs H Q => ∃ (a : Addr) (L : List (Addr × List Str)), vs = [.ref a] ∧ H a = some (SetTp P w a L) ∧ (∀ p ∈ L, SqT K H p.1 (p.2.map V.str) ∧ p.2 ≠ []) ∧
  ∀ (L' : List (Addr × List Str)) (p : Addr), L'.Perm L → (L'.map (·.2)).Pairwise (fun x y => ltT x y = true) → H p = none → Q (.ref p) (upd H p (.lst (L'.map fun q => V.ref q.1)))
theorem cr_sortTp (hc : X.calm = true) : CallR X (.builtin "sorted") (rSortTp X.K X.prog X.w) := by
  intro pins s σ H vs us Q I r h
  obtain ⟨a, L, rfl, ha, hk, q⟩ := h
  have R : TupSet (PySem.strKind X.prog X.w) s.heap a L := (I.hok a _ ha).1
  have few : L.length < 64 := by
    obtain ⟨_, _, _, R⟩ := R
    exact R.few
  rw [Vals.ref1 r]
  refine sorted_set_tups R (fun p hp => ⟨inv_key I (hk p hp).1, (hk p hp).2⟩) (I.ok.hd hc) fun s' p out c L' k g o hp hg hout pm pw => ?_
  have hlen : (L'.map fun q => V.ref q.1).length ≤ sizeLine := by rw [List.length_map, pm.length_eq, sizeLine_eq]; omega
  have hn : H p = none := I.hok.fresh hp
  have hv : Vals (L'.map fun q => V.ref q.1) out.toList := by rw [hout]; exact valRefs L'
  have J : Inv X pins σ (upd H p (.lst (L'.map fun q => V.ref q.1))) { s with heap := s'.heap, gens := s'.gens, drawn := s'.drawn, toks := s'.toks } :=
    I.call (ch := []) (Un.laid k hp hn) (I.hok.laid k hp ⟨hlen, out.toList, c, hv, hg⟩) (by rw [g]; exact I.bare) (fun _ z => nomatch z)
  have e : s' = { s with heap := s'.heap, gens := s'.gens, drawn := s'.drawn, toks := s'.toks } := by
    obtain ⟨_, _, _, _, _⟩ := s'
    obtain ⟨_, _, _, _, _⟩ := s
    cases o
    rfl
  rw [e]
  exact ⟨.ref p, _, J, rfl, q L' p pm pw hn⟩
end
end Pn

namespace Pn
open PySem L2
theorem iteTB {c : Bool} {A B : Prop} (hc : c = true) (h : A) : if c = true then A else B := by
  rw [if_pos hc]
  exact h
theorem iteFB {c : Bool} {A B : Prop} (hc : c = false) (h : B) : if c = true then A else B := by
  rw [hc, if_neg Bool.false_ne_true]
  exact h
abbrev sDeal : Stmt := top 18
abbrev sDraw : Stmt := top 19
abbrev sPick : Stmt := top 20
/-! ### draws out of a deal: a dict of a list of great numbers and three numbers -/
def deal4 (g : Addr) (n m t : Int) : List (Key × V) := [(.inr "great", .ref g), (.inr "now", .int n), (.inr "mixed", .int m), (.inr "turn", .int t)]
theorem deal4_get {g : Addr} {n m t : Int} : valV (deal4 g n m t) (.inr "great") = some (.ref g) ∧ valV (deal4 g n m t) (.inr "now") = some (.int n) ∧ valV (deal4 g n m t) (.inr "mixed") = some (.int m) ∧ valV (deal4 g n m t) (.inr "turn") = some (.int t) := by
  have e1 : ¬ (.inr "great" : Key) = .inr "now" := by decide +kernel
  have e4 : ¬ (.inr "great" : Key) = .inr "mixed" := by decide +kernel
  have e5 : ¬ (.inr "now" : Key) = .inr "mixed" := by decide +kernel
  have e7 : ¬ (.inr "great" : Key) = .inr "turn" := by decide +kernel
  have e8 : ¬ (.inr "now" : Key) = .inr "turn" := by decide +kernel
  have e9 : ¬ (.inr "mixed" : Key) = .inr "turn" := by decide +kernel
  refine ⟨?_, ?_, ?_, ?_⟩
  · exact valV_pos rfl
  · exact (valV_neg e1).trans (valV_pos rfl)
  · exact (valV_neg e4).trans ((valV_neg e5).trans (valV_pos rfl))
  · exact (valV_neg e7).trans ((valV_neg e8).trans ((valV_neg e9).trans (valV_pos rfl)))
theorem deal4_put {g : Addr} {n m t x : Int} : putK (deal4 g n m t) (.inr "now") (.int x) = deal4 g x m t ∧ putK (deal4 g n m t) (.inr "mixed") (.int x) = deal4 g n x t ∧ putK (deal4 g n m t) (.inr "turn") (.int x) = deal4 g n m x := by
  have e1 : ((.inr "great" : Key) = .inr "now") = False := eq_false (by decide +kernel)
  have e2 : ((.inr "mixed" : Key) = .inr "now") = False := eq_false (by decide +kernel)
  have e3 : ((.inr "turn" : Key) = .inr "now") = False := eq_false (by decide +kernel)
  have e4 : ((.inr "great" : Key) = .inr "mixed") = False := eq_false (by decide +kernel)
  have e5 : ((.inr "now" : Key) = .inr "mixed") = False := eq_false (by decide +kernel)
  have e6 : ((.inr "turn" : Key) = .inr "mixed") = False := eq_false (by decide +kernel)
  have e7 : ((.inr "great" : Key) = .inr "turn") = False := eq_false (by decide +kernel)
  have e8 : ((.inr "now" : Key) = .inr "turn") = False := eq_false (by decide +kernel)
  have e9 : ((.inr "mixed" : Key) = .inr "turn") = False := eq_false (by decide +kernel)
  refine ⟨?_, ?_, ?_⟩ <;> unfold putK deal4 <;> simp [e1, e2, e3, e4, e5, e6, e7, e8, e9]
/-- the heap but for a deal -/
def hh (H : Hp) (d g : Addr) : Hp := hid (hid H d) g
def DealAt (H : Hp) (d g : Addr) : Prop := d ≠ g ∧ ∃ (xs : List Int) (n m t : Int), H d = some (.dK (deal4 g n m t)) ∧ H g = some (.lst (xs.map V.int)) ∧ xs.length ≤ 63
theorem hh_ne {H : Hp} {d g a : Addr} {o : HO} (h : hh H d g a = some o) : a ≠ d ∧ a ≠ g ∧ H a = some o := by
  unfold hh hid at h
  by_cases h1 : a = g
  · rw [if_pos h1] at h; cases h
  · rw [if_neg h1] at h
    by_cases h2 : a = d
    · rw [if_pos h2] at h; cases h
    · rw [if_neg h2] at h; exact ⟨h2, h1, h⟩
theorem hh_get {H : Hp} {d g a : Addr} {o : HO} (h : H a = some o) (n1 : a ≠ d) (n2 : a ≠ g) : hh H d g a = some o := hid_get (hid_get h n1) n2
theorem hh_sub {H : Hp} {d g : Addr} : Same (hh H d g) H := fun _ _ e => (hh_ne e).2.2
theorem hh_same {H H' : Hp} {d g : Addr} (s : Same H H') : Same (hh H d g) (hh H' d g) := fun _ _ e => by
  obtain ⟨n1, n2, e⟩ := hh_ne e
  exact hh_get (s _ _ e) n1 n2
theorem hh_d {H : Hp} {d g : Addr} {o : HO} : Same (hh H d g) (hh (upd H d o) d g) := fun _ _ e => by
  obtain ⟨n1, n2, e⟩ := hh_ne e
  exact hh_get (by rw [upd_ne n1]; exact e) n1 n2
theorem hh_g {H : Hp} {d g : Addr} {o : HO} : Same (hh H d g) (hh (upd H g o) d g) := fun _ _ e => by
  obtain ⟨n1, n2, e⟩ := hh_ne e
  exact hh_get (by rw [upd_ne n2]; exact e) n1 n2
theorem DealAt.there {H : Hp} {d g : Addr} (h : DealAt H d g) : H d ≠ none ∧ H g ≠ none := by
  obtain ⟨_, xs, n, m, t, e1, e2, _⟩ := h
  refine ⟨fun z => ?_, fun z => ?_⟩
  · rw [e1] at z; cases z
  · rw [e2] at z; cases z
theorem DealAt.new {H : Hp} {d g p : Addr} {o : HO} (h : DealAt H d g) (hp : H p = none) : DealAt (upd H p o) d g := by
  obtain ⟨ne, xs, n, m, t, e1, e2, r⟩ := h
  exact ⟨ne, xs, n, m, t, by rw [upd_ne (ne_of_none e1 hp)]; exact e1, by rw [upd_ne (ne_of_none e2 hp)]; exact e2, r⟩
theorem DealAt.same {H H' : Hp} {d g : Addr} (h : DealAt H d g) (s : Same H H') : DealAt H' d g := by
  obtain ⟨ne, xs, n, m, t, e1, e2, r⟩ := h
  exact ⟨ne, xs, n, m, t, s _ _ e1, s _ _ e2, r⟩
theorem DealAt.upd {H : Hp} {d g p : Addr} {o : HO} (h : DealAt H d g) (n1 : p ≠ d) (n2 : p ≠ g) : DealAt (upd H p o) d g := by
  obtain ⟨ne, xs, n, m, t, e1, e2, r⟩ := h
  exact ⟨ne, xs, n, m, t, by rw [upd_ne n1.symm]; exact e1, by rw [upd_ne n2.symm]; exact e2, r⟩
/-- what is new beside a deal -/
theorem DealAt.nd {H : Hp} {d g p : Addr} (h : DealAt H d g) (hp : H p = none) : p ≠ d ∧ p ≠ g := ⟨fun z => h.there.1 (z ▸ hp), fun z => h.there.2 (z ▸ hp)⟩
theorem hh_new {H : Hp} {d g p : Addr} {o : HO} (hp : H p = none) : Same (hh H d g) (hh (upd H p o) d g) := hh_same (Same.new hp)
theorem hh_at {H : Hp} {d g p : Addr} {o : HO} (h : DealAt H d g) (hp : H p = none) : hh (upd H p o) d g p = some o := hh_get upd_same (h.nd hp).1 (h.nd hp).2
section
variable {P : Program} {w : World} {K : PySem.W.Frag} {mg : Str → Option Value} {base : Heap}
def spDraw : Sp := fun vs H Q _ => ∃ (d g : Addr) (m : Int), vs = [.ref d, .int m] ∧ DealAt H d g ∧ 0 < m ∧ m < 2147483648 ∧ ∀ (r : Int) (H' : Hp), 0 ≤ r → r < m → DealAt H' d g → Same (hh H d g) (hh H' d g) → Mo H H' → Q (.int r) H'
theorem scDraw : FnScope ["_law_deal_here", "_law_many", "_law_digit", "_law_first", "_law_second"] ["_law_deal_here", "_law_many"] (defScope sDraw) := ⟨rfl, rfl, rfl, by decide +kernel, rfl, by decide +kernel, by decide +kernel⟩
/-- a deal and what it holds, beside what stood ahead -/
structure DL (H0 H : Hp) (d g : Addr) (xs : List Int) (n m t : Int) : Prop where
  ne : d ≠ g
  hd : H d = some (.dK (deal4 g n m t))
  hg : H g = some (.lst (xs.map V.int))
  len : xs.length ≤ 63
  s : Same (hh H0 d g) (hh H d g)
  mo : Mo H0 H
theorem putD_new {kvs : List (Key × V)} {k : Key} {v : V} (h : k ∉ kvs.map (·.1)) : putK kvs k v = kvs ++ [(k, v)] := by
  unfold putK
  rw [if_neg]
  rw [List.any_eq_true]
  rintro ⟨kv, hm, e⟩
  exact h (List.mem_map.mpr ⟨kv, hm, of_decide_eq_true e⟩)
theorem mergeD_new : ∀ (l acc : List (Key × V)), (acc.map (·.1) ++ l.map (·.1)).Nodup → mergeK acc l = acc ++ l
  | [], acc, _ => by rw [List.append_nil]; rfl
  | kv :: l, acc, h => by
    have hk : kv.1 ∉ acc.map (·.1) := fun hm => (List.nodup_append.mp h).2.2 _ hm _ List.mem_cons_self rfl
    show mergeK (putK acc kv.1 kv.2) l = _
    rw [putD_new hk, mergeD_new l _ (by rw [List.map_append, List.append_assoc]; exact h), List.append_assoc]
    rfl
theorem roomDl {k : Nat} {A : Around} (r : Room k A) : A.units + 1 < PySem.cLine := by have := r.un; omega
theorem DL.setG {H0 H : Hp} {d g : Addr} {xs ys : List Int} {n m t : Int} (D : DL H0 H d g xs n m t) (hl : ys.length ≤ 63) : DL H0 (upd H g (.lst (ys.map V.int))) d g ys n m t :=
  ⟨D.ne, by rw [upd_ne D.ne]; exact D.hd, upd_same, hl, D.s.trans hh_g, D.mo.trans Mo.upd⟩
theorem DL.setD {H0 H : Hp} {d g : Addr} {xs : List Int} {n m t : Int} (n2 m2 t2 : Int) (D : DL H0 H d g xs n m t) : DL H0 (upd H d (.dK (deal4 g n2 m2 t2))) d g xs n2 m2 t2 :=
  ⟨D.ne, upd_same, by rw [upd_ne D.ne.symm]; exact D.hg, D.len, D.s.trans hh_d, D.mo.trans Mo.upd⟩
theorem DL.at {H0 H : Hp} {d g : Addr} {xs : List Int} {n m t : Int} (D : DL H0 H d g xs n m t) : DealAt H d g := ⟨D.ne, xs, n, m, t, D.hd, D.hg, D.len⟩
theorem DL.great {H0 H : Hp} {d g : Addr} {xs : List Int} {n m t : Int} (D : DL H0 H d g xs n m t) : DGet H d (.str "great") (some (.ref g)) := .inl ⟨_, .inr "great", .inl D.hd, rfl, deal4_get.1.symm⟩
theorem DL.now {H0 H : Hp} {d g : Addr} {xs : List Int} {n m t : Int} (D : DL H0 H d g xs n m t) : DGet H d (.str "now") (some (.int n)) := .inl ⟨_, .inr "now", .inl D.hd, rfl, deal4_get.2.1.symm⟩
theorem DL.mixed {H0 H : Hp} {d g : Addr} {xs : List Int} {n m t : Int} (D : DL H0 H d g xs n m t) : DGet H d (.str "mixed") (some (.int m)) := .inl ⟨_, .inr "mixed", .inl D.hd, rfl, deal4_get.2.2.1.symm⟩
theorem DL.turn {H0 H : Hp} {d g : Addr} {xs : List Int} {n m t : Int} (D : DL H0 H d g xs n m t) : DGet H d (.str "turn") (some (.int t)) := .inl ⟨_, .inr "turn", .inl D.hd, rfl, deal4_get.2.2.2.symm⟩
theorem d4small (g : Addr) (n m t : Int) : (deal4 g n m t).length < sizeLine := by show 4 < sizeLine; decide
theorem DL.pNow {H0 H : Hp} {d g : Addr} {xs : List Int} {n m t x : Int} (D : DL H0 H d g xs n m t) : DPut H d (.str "now") (.int x) (upd H d (.dK (deal4 g x m t))) := .inl ⟨_, .inr "now", D.hd, rfl, d4small .., by rw [deal4_put.1]⟩
theorem DL.pMixed {H0 H : Hp} {d g : Addr} {xs : List Int} {n m t x : Int} (D : DL H0 H d g xs n m t) : DPut H d (.str "mixed") (.int x) (upd H d (.dK (deal4 g n x t))) := .inl ⟨_, .inr "mixed", D.hd, rfl, d4small .., by rw [deal4_put.2.1]⟩
theorem DL.pTurn {H0 H : Hp} {d g : Addr} {xs : List Int} {n m t x : Int} (D : DL H0 H d g xs n m t) : DPut H d (.str "turn") (.int x) (upd H d (.dK (deal4 g n m x))) := .inl ⟨_, .inr "turn", D.hd, rfl, d4small .., by rw [deal4_put.2.2]⟩
theorem ok_draw {f : Addr} {fd : FuncData} (F : Fun K "_law_draw" "_law_draw" sDraw f fd) (mI : mg "int" = none) (mL : mg "len" = none) : FnOk P w K mg base CX0 1 f fd ["_law_deal_here", "_law_many"] spDraw := by
  refine F.ok scDraw (fun vs H Q E h => ?_) (fun cdv A outer s H vs Q E hr h => ?_)
  · obtain ⟨d, g, m, rfl, _⟩ := h
    rfl
  · obtain ⟨d, g, many, rfl, hD, h0, h1, k⟩ := h
    have dg : ∀ {X : Cx} {e : Expr} {te : TE} {pos p : Pos} {j : Nat} {z : Str}, X.A.units + 1 < PySem.cLine → PE X e te → PE X (.Subscript e (.Constant (.str z) j p) pos) (tDGet te (tC (.str z))) := fun hu h => pe_dget hu h pe_str (fun _ _ => rfl)
    refine ⟨_, pss_cons (ps_while PassesOwn.never (PW.pt (pw_and (pt_cmpR op_eq (dg (roomDl hr) (pv 0)) pe_int (nomark _)) (pw_and1 (pt_cmpR op_gt (pe_callB call_len_seq (by rfl) mL PySem.boot_len (pa_cons (dg (roomDl hr) (pv 0)) pa_nil)) pe_int (nomark _)))))
        (pss_one (ps_asg (pe_bm0 PySem.F.plainAttrs_list PySem.F.slot_list_pop PySem.F.type_list_pop mt_pop (dg (roomDl hr) (pv 0))) (pg_sub (pv 0) pe_str (set_dict (roomDl hr))))))
      (pss_cons (ps_if (pt_cmpR op_gt (dg (roomDl hr) (pv 0)) pe_int (nomark _))
        (pss_cons (ps_set (i := 2) scDraw.nd rfl (Or.inl rfl) (pe_op op_mod (pe_callTy call_int1 (by rfl) mI (by decide +kernel) (pa_cons (dg (roomDl hr) (pv 0)) pa_nil)) (pv 1)))
        (pss_cons (ps_asg (pe_op op_fdivW (dg (roomDl hr) (pv 0)) (pv 1)) (pg_sub (pv 0) pe_str (set_dict (roomDl hr))))
        (pss_one (ps_ret (pv 2))))) pss_nil)
      (pss_cons (ps_asg (pe_op op_add (dg (roomDl hr) (pv 0)) pe_int) (pg_sub (pv 0) pe_str (set_dict (roomDl hr))))
      (pss_cons (ps_set (i := 3) scDraw.nd rfl (Or.inl rfl) (pe_op op_mod (pe_callTy call_int1 (by rfl) mI (by decide +kernel) (pa_cons (pe_op op_add (pe_op op_mul (dg (roomDl hr) (pv 0)) pe_int) (pe_op op_mul (dg (roomDl hr) (pv 0)) pe_int)) pa_nil)) pe_int))
      (pss_cons (ps_set (i := 4) scDraw.nd rfl (Or.inl rfl) (pe_op op_mod (pe_callTy call_int1 (by rfl) mI (by decide +kernel) (pa_cons (pe_op op_add (pe_op op_mul (pv 3) (pv 3)) (pe_op op_mul (dg (roomDl hr) (pv 0)) pe_int)) pa_nil)) pe_int))
      (pss_cons (ps_asg (pe_op op_add (pe_op op_mod (pe_callTy call_int1 (by rfl) mI (by decide +kernel) (pa_cons (pe_op op_add (pe_op op_mul (pv 4) pe_int) (pv 3)) pa_nil)) pe_int) pe_int) (pg_sub (pv 0) pe_str (set_dict (roomDl hr))))
      (pss_one (ps_ret (pe_op op_mod (pe_callTy call_int1 (by rfl) mI (by decide +kernel) (pa_cons (pe_op op_add (pe_op op_fdiv (pv 4) pe_int) (pv 3)) pa_nil)) (pv 1))))))))), ?_⟩
    obtain ⟨ne, xs0, n0, m0, t0, e1, e2, e3⟩ := hD
    refine ⟨fun c σ Hc => ∃ (xs : List Int) (n : Int), σ = [some (.ref d), some (.int many), none, none, none] ∧ xs.length = c ∧ DL H Hc d g xs n m0 t0, ⟨_, xs0, n0, rfl, rfl, ne, e1, e2, e3, Same.refl _, Mo.refl _⟩, fun c σ Hc hP => ?_⟩
    obtain ⟨xs, n, rfl, hn, D⟩ := hP
    have hx : ∀ (l : List Int) (x : Int), atI ((l ++ [x]).map V.int) (-1) = some (.int x) := fun l x => by rw [List.map_append]; exact atI_last _ _
    have rev2 : ∀ (l : List Int) (x : Int), ((l ++ [x]).map V.int).dropLast = l.map V.int := fun l x => by rw [List.map_append]; exact List.dropLast_concat
    have lst2 : ∀ (l : List Int) (x : Int), ((l ++ [x]).map V.int)[((l ++ [x]).map V.int).length - 1]? = some (.int x) := fun l x => by
      rw [List.map_append, List.length_append]
      show (l.map V.int ++ [V.int x])[(l.map V.int).length + 1 - 1]? = _
      rw [Nat.add_sub_cancel, List.getElem?_append_right (Nat.le_refl _), Nat.sub_self]
      rfl
    refine ⟨_, rfl, d, _, rfl, D.now, rfl, _, rfl, ?_⟩
    by_cases hz : n = 0
    · subst hz
      refine iteTB (by simp) ?_
      refine ⟨_, rfl, d, _, rfl, D.great, g, _, rfl, .inl (SqL.of D.hg), _, _, rfl, rfl, _, rfl, ?_⟩
      rcases List.eq_nil_or_concat xs with hxs | ⟨l, x, hxs⟩
      · subst hxs
        refine iteFB rfl ?_
        refine ⟨_, rfl, d, _, rfl, D.now, _, _, rfl, rfl, _, rfl, iteF ?_⟩
        refine ⟨_, rfl, d, _, rfl, D.turn, _, _, rfl, rfl, _, rfl, d, _, rfl, D.pTurn, ?_⟩
        have D1 := D.setD 0 m0 (t0 + 1)
        generalize upd Hc d (.dK (deal4 g 0 m0 (t0 + 1))) = H1 at D1 ⊢
        refine ⟨_, rfl, d, _, rfl, D1.mixed, _, _, rfl, rfl, .inr ⟨by decide, by decide⟩, _, rfl, d, _, rfl, D1.turn, _, _, rfl, rfl, .inr ⟨by decide, by decide⟩, _, _, rfl, rfl, .inl ⟨_, rfl, _, _, rfl, rfl, (by show (0 : Int) < 2147483629; decide), ?_⟩⟩
        have f0 := Int.emod_nonneg (m0 * 48271 + (t0 + 1) * 69621) (show (2147483629 : Int) ≠ 0 by decide)
        have f1 := Int.emod_lt_of_pos (m0 * 48271 + (t0 + 1) * 69621) (show (0 : Int) < 2147483629 by decide)
        unfold gName
        dsimp only
        generalize (m0 * 48271 + (t0 + 1) * 69621) % 2147483629 = fi at f0 f1 ⊢
        refine ⟨_, rfl, _, rfl, _, _, rfl, rfl, .inl ⟨by omega, by omega⟩, _, rfl, d, _, rfl, D1.turn, _, _, rfl, rfl, .inr ⟨by decide, by decide⟩, _, _, rfl, rfl, .inl ⟨_, rfl, _, _, rfl, rfl, (by show (0 : Int) < 2147483563; decide), ?_⟩⟩
        dsimp only
        generalize (fi * fi + (t0 + 1) * 7919) % 2147483563 = se
        refine ⟨_, rfl, _, _, rfl, rfl, .inr ⟨by decide, by decide⟩, _, rfl, _, _, rfl, rfl, .inl ⟨_, rfl, _, _, rfl, rfl, (by show (0 : Int) < 2147483647; decide), _, _, rfl, rfl, _, rfl, d, _, rfl, D1.pMixed, ?_⟩⟩
        have D2 := D1.setD 0 ((se * 40692 + fi) % 2147483647 + 1) (t0 + 1)
        refine ⟨_, rfl, _, _, rfl, rfl, ⟨by decide, by decide⟩, _, rfl, _, _, rfl, rfl, .inl ⟨_, rfl, _, rfl, _, _, rfl, rfl, h0, ?_⟩⟩
        exact k _ _ (Int.emod_nonneg _ (by omega)) (Int.emod_lt_of_pos _ h0) D2.at D2.s D2.mo
      · rw [List.concat_eq_append] at hxs
        subst hxs
        refine iteTB (by simp) ?_
        refine ⟨fun σ' H' => ∃ (xs : List Int) (n : Int), σ' = [some (.ref d), some (.int many), none, none, none] ∧ xs.length = l.length ∧ DL H H' d g xs n m0 t0, fun σ' H' q => ⟨l.length, by rw [← hn, List.length_append]; exact Nat.lt_succ_self _, q⟩, ?_⟩
        refine ⟨_, rfl, d, _, rfl, D.great, .inl ⟨rfl, _, SqL.of D.hg⟩, g, _, _, rfl, rfl, D.hg, lst2 l x, ?_⟩
        rw [rev2]
        have D1 := D.setG (ys := l) (by have := D.len; rw [List.length_append] at this; omega)
        exact ⟨_, rfl, d, _, rfl, D1.pNow, l, x, rfl, rfl, D1.setD x m0 t0⟩
    · refine iteFB (by simp [hz]) ?_
      refine ⟨_, rfl, d, _, rfl, D.now, _, _, rfl, rfl, _, rfl, ?_⟩
      by_cases hp : 0 < n
      · refine iteTB (decide_eq_true hp) ?_
        refine ⟨_, rfl, d, _, rfl, D.now, .inl ⟨_, rfl, _, rfl, _, _, rfl, rfl, h0, ?_⟩⟩
        unfold gName
        dsimp only
        refine ⟨_, rfl, d, _, rfl, D.now, _, rfl, _, _, rfl, rfl, wide_div (b := 40) h0 (by omega) (by decide) (by decide), _, rfl, d, _, rfl, D.pNow, ?_⟩
        have D2 := D.setD (n / many) m0 t0
        exact ⟨_, rfl, k _ _ (Int.emod_nonneg _ (by omega)) (Int.emod_lt_of_pos _ h0) D2.at D2.s D2.mo⟩
      · refine iteFB (decide_eq_false hp) ?_
        refine ⟨_, rfl, d, _, rfl, D.turn, _, _, rfl, rfl, _, rfl, d, _, rfl, D.pTurn, ?_⟩
        have D1 := D.setD n m0 (t0 + 1)
        generalize upd Hc d (.dK (deal4 g n m0 (t0 + 1))) = H1 at D1 ⊢
        refine ⟨_, rfl, d, _, rfl, D1.mixed, _, _, rfl, rfl, .inr ⟨by decide, by decide⟩, _, rfl, d, _, rfl, D1.turn, _, _, rfl, rfl, .inr ⟨by decide, by decide⟩, _, _, rfl, rfl, .inl ⟨_, rfl, _, _, rfl, rfl, (by show (0 : Int) < 2147483629; decide), ?_⟩⟩
        have f0 := Int.emod_nonneg (m0 * 48271 + (t0 + 1) * 69621) (show (2147483629 : Int) ≠ 0 by decide)
        have f1 := Int.emod_lt_of_pos (m0 * 48271 + (t0 + 1) * 69621) (show (0 : Int) < 2147483629 by decide)
        unfold gName
        dsimp only
        generalize (m0 * 48271 + (t0 + 1) * 69621) % 2147483629 = fi at f0 f1 ⊢
        refine ⟨_, rfl, _, rfl, _, _, rfl, rfl, .inl ⟨by omega, by omega⟩, _, rfl, d, _, rfl, D1.turn, _, _, rfl, rfl, .inr ⟨by decide, by decide⟩, _, _, rfl, rfl, .inl ⟨_, rfl, _, _, rfl, rfl, (by show (0 : Int) < 2147483563; decide), ?_⟩⟩
        dsimp only
        generalize (fi * fi + (t0 + 1) * 7919) % 2147483563 = se
        refine ⟨_, rfl, _, _, rfl, rfl, .inr ⟨by decide, by decide⟩, _, rfl, _, _, rfl, rfl, .inl ⟨_, rfl, _, _, rfl, rfl, (by show (0 : Int) < 2147483647; decide), _, _, rfl, rfl, _, rfl, d, _, rfl, D1.pMixed, ?_⟩⟩
        have D2 := D1.setD n ((se * 40692 + fi) % 2147483647 + 1) (t0 + 1)
        refine ⟨_, rfl, _, _, rfl, rfl, ⟨by decide, by decide⟩, _, rfl, _, _, rfl, rfl, .inl ⟨_, rfl, _, rfl, _, _, rfl, rfl, h0, ?_⟩⟩
        exact k _ _ (Int.emod_nonneg _ (by omega)) (Int.emod_lt_of_pos _ h0) D2.at D2.s D2.mo
def spPick (K : PySem.W.Frag) : Sp := fun vs H Q _ => ∃ (d g a : Addr) (xs : List V), vs = [.ref d, .ref a] ∧ DealAt H d g ∧ SqL K (hh H d g) a xs ∧ 0 < xs.length ∧ xs.length < 1000000 ∧ ∀ (v : V) (H' : Hp), v ∈ xs → DealAt H' d g → Same (hh H d g) (hh H' d g) → Mo H H' → Q v H'
theorem scPick : FnScope ["_law_deal_here", "_law_some"] ["_law_deal_here", "_law_some"] (defScope sPick) := ⟨rfl, rfl, rfl, by decide +kernel, rfl, by decide +kernel, by decide +kernel⟩
theorem ok_pick {f : Addr} {fd : FuncData} (F : Fun K "_law_pick" "_law_pick" sPick f fd) (mL : mg "len" = none) (D : At K mg "_law_draw" sDraw ["_law_deal_here", "_law_many"]) (mI : mg "int" = none) : FnOk P w K mg base CX0 2 f fd ["_law_deal_here", "_law_some"] (spPick K) := by
  refine F.ok scPick (fun vs H Q E h => ?_) (fun cdv A outer s H vs Q E hr h => ?_)
  · obtain ⟨d, g, a, xs, rfl, _⟩ := h
    rfl
  · obtain ⟨d, g, a, xs, rfl, hD, hS, h0, h1, q⟩ := h
    refine ⟨_, pss_one (ps_ret (pe_ix ix_list (pv 1) (pe_call (ok_draw D.F mI mL) hr rfl D.m D.F.kp D.b .nil pass0 (pa_cons (pv 0) (pa_cons (pe_callB call_len_seq (by rfl) mL PySem.boot_len (pa_cons (pv 1) pa_nil)) pa_nil))) (fun _ _ => rfl))), ?_⟩
    refine ⟨_, rfl, _, rfl, _, rfl, _, _, rfl, .inl (hh_sub.seq hS), ?_⟩
    refine ⟨d, g, _, rfl, hD, by omega, by omega, fun r H' r0 r1 hD' hs hm => ?_⟩
    obtain ⟨i, rfl⟩ : ∃ i : Nat, r = (i : Int) := ⟨r.toNat, by omega⟩
    have hi : i < xs.length := by omega
    exact ⟨_, _, _, _, rfl, rfl, hh_sub.seq (hs.seq hS), atI_nat (List.getElem?_eq_getElem hi), q _ _ (List.getElem_mem hi) hD' hs hm⟩
def absI (x : Int) : Int := if x < 0 then -x else x
theorem cut_ints (ns : List Int) (lo hi : Option Int) : ∃ us : List Int, cutV (ns.map V.int) lo hi = us.map V.int ∧ us.length ≤ ns.length := by
  refine ⟨(ns.drop (HT.sIx (ns.map V.int).length 0 lo)).take (HT.sIx (ns.map V.int).length (ns.map V.int).length hi - HT.sIx (ns.map V.int).length 0 lo), ?_, ?_⟩
  · unfold cutV
    rw [List.map_take, List.map_drop]
  · rw [List.length_take, List.length_drop]
    omega
def spDeal (K : PySem.W.Frag) : Sp := fun vs H Q _ => ∃ (a : Addr) (b : Int) (ns : List Int), vs = [.ref a, .int b] ∧ SqL K H a (ns.map V.int) ∧ ns.length ≤ 63 ∧ ∀ (d g : Addr) (H' : Hp), DealAt H' d g → Same H (hh H' d g) → Q (.ref d) H'
theorem scDeal : FnScope ["_law_script", "_law_base", "_law_cell", "_law_cells", "_law_mixed", "_law_great"] ["_law_script", "_law_base"] (defScope sDeal) := ⟨rfl, rfl, rfl, by decide +kernel, rfl, by decide +kernel, by decide +kernel⟩
theorem ok_deal {f : Addr} {fd : FuncData} (F : Fun K "_law_deal" "_law_deal" sDeal f fd) (mI : mg "int" = none) (mA : mg "abs" = none) : FnOk P w K mg base CX0 1 f fd ["_law_script", "_law_base"] (spDeal K) := by
  refine F.ok scDeal (fun vs H Q E h => ?_) (fun cdv A outer s H vs Q E hr h => ?_)
  · obtain ⟨a, b, ns, rfl, _⟩ := h
    rfl
  · obtain ⟨a, b, ns, rfl, hS, hl, q⟩ := h
    refine ⟨_, pss_cons (ps_setLc (i := 3) (own := [("_law_cell", 2)]) (g := gName 2) (tt := tYes) (by rfl) scDeal.nd rfl rfl (sw_true rfl rfl rfl (by decide +kernel)) (pi_list (pe_slice sl_list (pv 0) (po_some (pv 1)) (po_some pe_int)))
          (blkOk_by (N := ["_law_script", "_law_base", "_law_cell", "_law_cells", "_law_mixed", "_law_great"]) (sc := defScope sDeal) (by decide +kernel)) (fun _ _ _ _ _ => pg_name (i := 2) scDeal.nd rfl (Or.inl rfl)) (fun _ _ _ _ _ => pts_nil)
          (fun _ _ _ _ _ => pe_callB call_abs (by rfl) mA (by decide +kernel) (pa_cons (pv 2) pa_nil)))
      (pss_cons (ps_set (i := 4) scDeal.nd rfl (Or.inl rfl) (pe_op op_add pe_int (pv 1)))
      (pss_cons (ps_for PassesOwn.never rfl (pi_list (pv 3)) (pg_name (i := 2) scDeal.nd rfl (Or.inl rfl))
        (pss_one (ps_set (i := 4) scDeal.nd rfl (Or.inl rfl) (pe_op op_mod (pe_callTy call_int1 (by rfl) mI (by decide +kernel) (pa_cons (pe_op op_add (pe_op op_mul (pv 4) pe_int) (pv 2)) pa_nil)) pe_int))))
      (pss_cons (ps_setLc (i := 5) (own := [("_law_cell", 2)]) (g := gName 2) (by rfl) scDeal.nd rfl rfl (sw_true rfl rfl rfl (by decide +kernel)) (pi_list (pv 3))
          (blkOk_by (N := ["_law_script", "_law_base", "_law_cell", "_law_cells", "_law_mixed", "_law_great"]) (sc := defScope sDeal) (by decide +kernel)) (fun _ _ _ _ _ => pg_name (i := 2) scDeal.nd rfl (Or.inl rfl)) (fun _ _ _ _ _ => pts_one (pt_cmpR op_ge (pv 2) (pe_op op_pow pe_int pe_int) (nomark _)))
          (fun _ _ _ _ _ => pv 2))
      (pss_one (ps_ret (pe_disp (pps_cons pe_str (pe_revL (pv 5)) (pps_cons pe_str pe_int (pps_cons pe_str (pe_op op_add (pv 4) pe_int) (pps_cons pe_str pe_int pps_nil)))) (by rfl) (by rfl) (by intro z; cases z) (by decide))))))), ?_⟩
    obtain ⟨us, hu, hul⟩ := cut_ints ns (some b) (some 63)
    refine ⟨_, rfl, _, rfl, b, rfl, 63, rfl, a, _, rfl, hS, fun p hp => ?_⟩
    rw [hu]
    have s1 : Same H (upd H p (.lst (us.map V.int))) := Same.new hp
    have hp1 : upd H p (.lst (us.map V.int)) p = some (.lst (us.map V.int)) := upd_same
    generalize upd H p (.lst (us.map V.int)) = H1 at s1 hp1 ⊢
    refine ⟨p, rfl, ⟨_, SqL.of hp1⟩, fun D hD => lc_it (walk_list (xs := us.map V.int)) (fun i Hi => Hi D = some (.lst (((us.take i).map absI).map V.int)) ∧ Same H1 Hi) ⟨upd_same, Same.new hD⟩ (fun i Hi _ hP => SqL.of (hP.2 _ _ hp1)) (fun i x Hi Hj hi hP hY => ?turn1) (fun Hi hP => ?done1)⟩
    case turn1 =>
      obtain ⟨rfl, hx⟩ := hY
      obtain ⟨hDi, hs⟩ := hP
      rw [List.getElem?_map] at hx
      cases hxi : us[i]? with
      | none => rw [hxi] at hx; cases hx
      | some u =>
      rw [hxi] at hx
      cases hx
      have hi2 : i < us.length := by rw [List.length_map] at hi; exact hi
      refine ⟨rfl, _, rfl, _, rfl, _, hDi, small1000 (by rw [List.length_map, List.length_map]; have := List.length_take_le i us; omega), ?_, fun b o e => ?_⟩
      · rw [upd_same, List.take_add_one, hxi, List.map_append, List.map_append]
        rfl
      · rw [upd_ne (ne_of_none e hD)]
        exact hs _ _ e
    case done1 =>
      obtain ⟨hD1, hs⟩ := hP
      rw [List.length_map, List.take_length] at hD1
      have hcl : (us.map absI).length ≤ 63 := by rw [List.length_map]; omega
      generalize us.map absI = cs at hD1 hcl
      have s2 := s1.trans hs
      refine ⟨_, rfl, _, _, rfl, rfl, ?_⟩
      refine ⟨_, rfl, D, rfl, ⟨_, SqL.of hD1⟩, for_list (xs := cs.map V.int) (fun i σ Hc => ∃ (x2 : Option V) (m : Int), σ = [some (.ref a), some (.int b), x2, some (.ref D), some (.int m), none] ∧ Hc = Hi) ⟨none, 15485863 + b, rfl, rfl⟩ (fun i σ Hc _ hP => by obtain ⟨_, _, _, rfl⟩ := hP; exact SqL.of hD1) (fun i x σ Hc hx hP => ?turn2) (fun σ Hc hP => ?done2)⟩
      case turn2 =>
        obtain ⟨x2, m, rfl, rfl⟩ := hP
        rw [List.getElem?_map] at hx
        cases hxi : cs[i]? with
        | none => rw [hxi] at hx; cases hx
        | some c =>
        rw [hxi] at hx
        cases hx
        refine ⟨_, rfl, _, _, rfl, rfl, .inr ⟨by decide, by decide⟩, _, rfl, _, _, rfl, rfl, .inl ⟨_, rfl, _, _, rfl, rfl, (by show (0 : Int) < 2147483647; decide), ?_⟩⟩
        exact ⟨_, _, rfl, rfl⟩
      case done2 =>
        obtain ⟨x2, m, rfl, rfl⟩ := hP
        refine ⟨_, rfl, D, rfl, ⟨_, SqL.of hD1⟩, fun D2 hD2 => lc_it (walk_list (xs := cs.map V.int)) (fun i Hi2 => ∃ l : List Int, l.length ≤ i ∧ Hi2 D2 = some (.lst (l.map V.int)) ∧ Same Hc Hi2) ⟨[], Nat.le_refl _, upd_same, Same.new hD2⟩ (fun i Hi2 _ hP => by obtain ⟨_, _, _, h⟩ := hP; exact SqL.of (h _ _ hD1)) (fun i x Hi2 Hj hi hP hY => ?turn3) (fun Hi2 hP => ?done3)⟩
        case turn3 =>
          obtain ⟨rfl, hx⟩ := hY
          obtain ⟨l, l1, l3, l4⟩ := hP
          rw [List.getElem?_map] at hx
          cases hxi : cs[i]? with
          | none => rw [hxi] at hx; cases hx
          | some c =>
          rw [hxi] at hx
          cases hx
          have hi2 : i < cs.length := by rw [List.length_map] at hi; exact hi
          refine ⟨rfl, _, rfl, _, _, rfl, rfl, ⟨by decide, by decide, by decide⟩, _, _, rfl, rfl, _, rfl, ?_⟩
          refine ite2 (fun _ => ?_) (fun _ => ?_)
          · refine ⟨_, rfl, _, l3, small1000 (by rw [List.length_map]; omega), l ++ [c], by rw [List.length_append]; exact Nat.add_le_add_right l1 1, by rw [upd_same, List.map_append]; rfl, fun b o e => ?_⟩
            rw [upd_ne (ne_of_none e hD2)]
            exact l4 _ _ e
          · exact ⟨l, by omega, l3, l4⟩
        case done3 =>
          obtain ⟨l, l1, l3, l4⟩ := hP
          have s3 : Same H Hi2 := s2.trans l4
          dsimp only
          intro d hd
          have ndD : d ≠ D2 := fun z => by rw [z, l3] at hd; cases hd
          refine ⟨_, rfl, D2, _, rfl, SqL.of (by rw [upd_ne ndD.symm]; exact l3), fun g hg => ?_⟩
          have ngd : g ≠ d := fun z => by rw [z, upd_same] at hg; cases hg
          have hd0 : H d = none := s3.free hd
          have hg0 : H g = none := s3.free ((Same.new hd).free hg)
          refine ⟨_, rfl, _, _, rfl, rfl, ?_⟩
          refine ⟨by rw [upd_ne ngd.symm]; exact upd_same, deal4 g 0 (m + 1) 0, rfl, by show 4 ≤ 15; decide, ?_⟩
          rw [mergeD_new (deal4 g 0 (m + 1) 0) [] (show ([.inr "great", .inr "now", .inr "mixed", .inr "turn"] : List Key).Nodup by decide +kernel)]
          refine q d g _ ⟨ngd.symm, l.reverse, 0, m + 1, 0, upd_same, by rw [upd_ne ngd, upd_same, List.map_reverse], by rw [List.length_reverse]; rw [List.length_map] at l1; omega⟩ fun b o e => hh_get ?_ (ne_of_none e hd0) (ne_of_none e hg0)
          rw [upd_ne (ne_of_none e hd0), upd_ne (ne_of_none e hg0), upd_ne (ne_of_none e hd0)]
          exact s3 _ _ e
end
end Pn

namespace Pn
open PySem PySem.Spec PyProof.Rows L2 TL
end Pn

namespace Pn
open PySem PySem.Spec PyProof.Rows L2 TL
/-! ### the heap but for a deal and one list more -/
def hhL (H : Hp) (d g L : Addr) : Hp := hid (hh H d g) L
theorem hhL_ne {H : Hp} {d g L a : Addr} {o : HO} (h : hhL H d g L a = some o) : a ≠ L ∧ a ≠ d ∧ a ≠ g ∧ H a = some o := by
  have n := hid_ne h
  obtain ⟨n1, n2, e⟩ := hh_ne (hid_sub _ _ h)
  exact ⟨n, n1, n2, e⟩
theorem hhL_get {H : Hp} {d g L a : Addr} {o : HO} (h : H a = some o) (n : a ≠ L) (n1 : a ≠ d) (n2 : a ≠ g) : hhL H d g L a = some o := hid_get (hh_get h n1 n2) n
theorem hhL_sub {H : Hp} {d g L : Addr} : Same (hhL H d g L) H := fun _ _ e => (hhL_ne e).2.2.2
theorem hhL_hh {H : Hp} {d g L : Addr} : Same (hhL H d g L) (hh H d g) := fun _ _ e => hid_sub _ _ e
theorem hhL_same {A B : Hp} {d g L : Addr} (s : Same (hh A d g) (hh B d g)) : Same (hhL A d g L) (hhL B d g L) := fun a o e => by
  have n := hid_ne e
  exact hid_get (s _ _ (hid_sub _ _ e)) n
theorem hhL_put {H : Hp} {d g L : Addr} {o : HO} : Same (hhL H d g L) (hhL (upd H L o) d g L) := fun _ _ e => by
  obtain ⟨n, n1, n2, e⟩ := hhL_ne e
  exact hhL_get (by rw [upd_ne n]; exact e) n n1 n2
theorem hhL_first {H : Hp} {d g L : Addr} {o : HO} (h : H L = none) : Same (hh H d g) (hhL (upd H L o) d g L) := fun _ _ e => by
  obtain ⟨n1, n2, e⟩ := hh_ne e
  have n := ne_of_none e h
  exact hhL_get (by rw [upd_ne n]; exact e) n n1 n2
section
variable {P : Program} {w : World} {K : PySem.W.Frag} {mg : Str → Option Value} {base : Heap}
/-! ### drawn counters -/
def TupsAt (H : Hp) (ts : List Addr) (cs : List (Str × Str)) : Prop := Paired (fun t (p : Str × Str) => H t = some (.tup [.str p.1, .str p.2])) ts cs
theorem TupsAt.same {A B : Hp} {ts : List Addr} {cs : List (Str × Str)} (s : Same A B) (h : TupsAt A ts cs) : TupsAt B ts cs := paired_mono (fun _ _ e => s _ _ e) h
end
end Pn

namespace Pn
open PySem PySem.Spec PyProof.Rows L2 TL
structure TRowz (K : PySem.W.Frag) (mg : Str → Option Value) : Type where
  N : TChk K mg
structure TFilz {K : PySem.W.Frag} {mg : Str → Option Value} (R : TRowz K mg) : Type where
  cN : PySem.W.specialIn K (.builtin "object.__class__") "__get__" = some (some (.builtin "getset_descriptor.__get__"))
  cT : PySem.W.takesIn K (.builtin "object.__class__") = some true
  mList : mg "list" = none
  mTup : mg "tuple" = none
  mSet : mg "set" = none
  mSorted : mg "sorted" = none
  isSeq : At K mg "is_sequence" sIsSeq ["value"]
end Pn

namespace Pn
open PySem PySem.Spec PyProof.Rows L2 TL
abbrev sIsTri : Stmt := top 12
abbrev sNeedT : Stmt := top 13
abbrev sRights : Stmt := top 14
abbrev sLInit : Stmt := inClass (top 16) 0
/-! ### triples, rights, Leaves.__init__ of triples -/
abbrev Tri : Type := Str × Str × Str
def tl3 (t : Tri) : List Str := [t.1, t.2.1, t.2.2]
theorem tl3_inj {a b : Tri} (h : tl3 a = tl3 b) : a = b := by
  obtain ⟨a1, a2, a3⟩ := a
  obtain ⟨b1, b2, b3⟩ := b
  injection h with h1 h
  injection h with h2 h
  injection h with h3 h
  have h1 : a1 = b1 := h1
  have h2 : a2 = b2 := h2
  have h3 : a3 = b3 := h3
  rw [h1, h2, h3]
def triB (t : Tri) : Bool := nameS t.1 && (nameS t.2.1 && (decide (t.2.2 = "on") || decide (t.2.2 = "any")))
theorem triB_len {t : Tri} (h : triB t = true) : t.1.length ≤ 900 ∧ t.2.1.length ≤ 900 := by
  unfold triB at h
  rw [Bool.and_eq_true, Bool.and_eq_true] at h
  exact ⟨Nat.le_trans (name_ok h.1).2 (by decide), Nat.le_trans (name_ok h.2.1).2 (by decide)⟩
/-- triples as they stand -/
abbrev TriAt (K : PySem.W.Frag) (H : Hp) (a : Addr) (t : Tri) : Prop := SqT K H a [.str t.1, .str t.2.1, .str t.2.2]
abbrev TrisIn (K : PySem.W.Frag) (H : Hp) (as : List Addr) (ts : List Tri) : Prop := Paired (TriAt K H) as ts
theorem TrisIn.same {K : PySem.W.Frag} {H H' : Hp} {as : List Addr} {ts : List Tri} (h : TrisIn K H as ts) (s : Same H H') : TrisIn K H' as ts := paired_mono (fun _ _ z => Same.sqt s z) h
def going (t : Tri) : Tri := (t.1, t.2.1, "on")
/-- few different triples -/
def FewT (ts : List Tri) : Prop := ts.length ≤ 100 ∧ ∃ B : List (List Str), B.length < 63 ∧ ∀ t ∈ ts, tl3 t ∈ B ∧ tl3 (going t) ∈ B
theorem FewT.of {ts : List Tri} (h : 2 * ts.length < 62) : FewT ts := ⟨by omega, ts.map tl3 ++ (ts.map going).map tl3, by rw [List.length_append, List.length_map, List.length_map, List.length_map]; omega, fun t ht => ⟨List.mem_append_left _ (List.mem_map_of_mem ht), List.mem_append_right _ (List.mem_map_of_mem (List.mem_map_of_mem ht))⟩⟩
theorem FewT.sub {ts us : List Tri} (h : FewT ts) (s : ∀ t ∈ us, t ∈ ts) (hl : us.length ≤ 100) : FewT us := by
  obtain ⟨_, B, hB, hk⟩ := h
  exact ⟨hl, B, hB, fun t ht => hk t (s t ht)⟩
/-! rights: the triples ascending, each once -/
def insT (x : Tri) : List Tri → List Tri
  | [] => [x]
  | y :: l => if ltT (tl3 x) (tl3 y) = true then x :: y :: l else if x = y then y :: l else y :: insT x l
def sortT : List Tri → List Tri
  | [] => []
  | x :: l => insT x (sortT l)
def UpT (l : List Tri) : Prop := l.Pairwise fun x y => ltT (tl3 x) (tl3 y) = true
theorem mem_insT {x z : Tri} : ∀ {l : List Tri}, z ∈ insT x l ↔ z = x ∨ z ∈ l
  | [] => by simp [insT]
  | y :: l => by
    unfold insT
    split
    · simp
    · split
      · rename_i h
        rw [h]
        simp
      · rw [List.mem_cons, mem_insT, List.mem_cons]
        constructor
        · rintro (h | h | h)
          · exact .inr (.inl h)
          · exact .inl h
          · exact .inr (.inr h)
        · rintro (h | h | h)
          · exact .inr (.inl h)
          · exact .inl h
          · exact .inr (.inr h)
theorem mem_sortT {z : Tri} : ∀ {l : List Tri}, z ∈ sortT l ↔ z ∈ l
  | [] => Iff.rfl
  | x :: l => by
    show z ∈ insT x (sortT l) ↔ _
    rw [mem_insT, mem_sortT, List.mem_cons]
theorem up_insT {x : Tri} : ∀ {l : List Tri}, UpT l → UpT (insT x l)
  | [], _ => List.pairwise_singleton _ _
  | y :: l, h => by
    have h' := List.pairwise_cons.mp h
    unfold insT
    split
    · rename_i lt
      exact List.pairwise_cons.mpr ⟨fun z hz => by
        rcases List.mem_cons.mp hz with rfl | hz
        · exact lt
        · exact ltT_trans lt (h'.1 z hz), h⟩
    · rename_i nlt
      split
      · exact h
      · rename_i ne
        refine List.pairwise_cons.mpr ⟨fun z hz => ?_, up_insT h'.2⟩
        rcases mem_insT.mp hz with rfl | hz
        · cases e : ltT (tl3 y) (tl3 z) with
          | true => rfl
          | false => exact absurd (tl3_inj (ltT_total (by simpa using nlt) e)) ne
        · exact h'.1 z hz
theorem up_sortT : ∀ l : List Tri, UpT (sortT l)
  | [] => .nil
  | x :: l => up_insT (up_sortT l)
/-- two ascending lists of the same triples are one -/
theorem up_uniq : ∀ {l m : List Tri}, UpT l → UpT m → (∀ z, z ∈ l ↔ z ∈ m) → l = m
  | [], [], _, _, _ => rfl
  | [], y :: m, _, _, h => absurd ((h y).mpr List.mem_cons_self) (by simp)
  | x :: l, [], _, _, h => absurd ((h x).mp List.mem_cons_self) (by simp)
  | x :: l, y :: m, hl, hm, h => by
    obtain ⟨l1, l2⟩ := List.pairwise_cons.mp hl
    obtain ⟨m1, m2⟩ := List.pairwise_cons.mp hm
    have e : x = y := by
      rcases List.mem_cons.mp ((h x).mp List.mem_cons_self) with e | hx
      · exact e
      · rcases List.mem_cons.mp ((h y).mpr List.mem_cons_self) with e | hy
        · exact e.symm
        · have z := ltT_trans (l1 y hy) (m1 x hx)
          rw [ltT_irrefl] at z
          cases z
    subst e
    have nl : ∀ z, z ∈ l → ¬ z = x := fun z hz e => by have q := l1 z hz; rw [e, ltT_irrefl] at q; cases q
    have nm : ∀ z, z ∈ m → ¬ z = x := fun z hz e => by have q := m1 z hz; rw [e, ltT_irrefl] at q; cases q
    rw [up_uniq l2 m2 fun z => ⟨fun hz => ((List.mem_cons.mp ((h z).mp (List.mem_cons_of_mem _ hz))).resolve_left (nl z hz)), fun hz => ((List.mem_cons.mp ((h z).mpr (List.mem_cons_of_mem _ hz))).resolve_left (nm z hz))⟩]
def rightsM (ts : List Tri) : List Tri := sortT (ts ++ ts.map going)
section
variable {K : PySem.W.Frag} {tl : TE} {g : TG} {tt : TT} {te : TE} {vs : List Nat} {σ : L2.St} {H : Hp} {Q : VK} {p : Addr} {xs : List V}
theorem lcw_objsTL {α : Type} {R : Hp → Addr → α → Prop} {cs : List α} (hR : ∀ {H H' : Hp} {t : Addr} {c : α}, SameN H H' → R H t c → R H' t c)
    (h0 : ∀ R : VK, R (.ref p) H → tl σ H R) (hp : SqT K H p xs) (hl : xs.length ≤ 1000) (hc : xs.length = cs.length)
    (turn : ∀ (i : Nat) (x : V) (c : α) (Hi : Hp) (S : Hp → Prop) (Y : VK), xs[i]? = some x → cs[i]? = some c → Same H Hi → (∀ t H', Same Hi H' → R H' t c → Y (.ref t) H') → g x (wipe σ vs) Hi fun σ2 H2 => wipe σ2 vs = wipe σ vs ∧ tt σ2 H2 fun b H3 => if b = true then te σ2 H3 Y else S H3)
    (fin : ∀ (D : Addr) (H' : Hp) (ts : List Addr), H D = none → Same H H' → H' D = some (.lst (ts.map V.ref)) → Paired (R H') ts cs → Q (.ref D) H') : tLc (iTup K tl) g tt te vs σ H Q := by
  refine h0 _ ⟨p, rfl, ⟨_, hp⟩, fun D hD => lc_tup (xs := xs) (fun i Hi => Same H Hi ∧ ∃ ts : List Addr, Hi D = some (.lst (ts.map V.ref)) ∧ ts.length ≤ i ∧ Paired (R Hi) ts (cs.take i)) ⟨Same.new hD, [], upd_same, Nat.le_refl _, .nil⟩ (fun _ _ _ hP => Same.sqt hP.1 hp) (fun i x Hi hx hP => ?_) (fun Hi hP => ?_)⟩
  · obtain ⟨s, ts, hd, hn, pd⟩ := hP
    have hi : i < xs.length := (List.getElem?_eq_some_iff.mp hx).1
    have hi2 : i < cs.length := by omega
    have hc2 : cs[i]? = some cs[i] := List.getElem?_eq_getElem hi2
    refine turn i x _ Hi _ _ hx hc2 s fun t H' s' r => ⟨_, s' _ _ hd, small1000 (by rw [List.length_map]; omega), (fun a o e => ?_), ts ++ [t], by rw [upd_same, List.map_append]; rfl, by rw [List.length_append]; exact Nat.add_le_add_right hn 1, ?_⟩
    · rw [upd_ne (ne_of_none e hD)]
      exact s' _ _ (s _ _ e)
    · have n2 : SameN H' (upd H' D (.lst (ts.map V.ref ++ [V.ref t]))) := SameN.upd (s' _ _ hd)
      rw [List.take_add_one, hc2]
      exact paired_snoc (hR n2 r) (paired_mono (fun _ _ z => hR ((SameN.of s').trans n2) z) pd)
  · obtain ⟨s, ts, hd, _, pd⟩ := hP
    rw [hc, List.take_length] at pd
    exact fin D Hi ts hD s hd pd
/-- objects made in a comprehension over a list or a tuple -/
theorem lcw_objsS {α : Type} {R : Hp → Addr → α → Prop} {cs : List α} (hR : ∀ {H H' : Hp} {t : Addr} {c : α}, SameN H H' → R H t c → R H' t c)
    (h0 : ∀ R : VK, R (.ref p) H → tl σ H R) (hp : SqL K H p xs ∨ SqT K H p xs) (hl : xs.length ≤ 1000) (hc : xs.length = cs.length)
    (turn : ∀ (i : Nat) (x : V) (c : α) (Hi : Hp) (S : Hp → Prop) (Y : VK), xs[i]? = some x → cs[i]? = some c → Same H Hi → (∀ t H', Same Hi H' → R H' t c → Y (.ref t) H') → g x (wipe σ vs) Hi fun σ2 H2 => wipe σ2 vs = wipe σ vs ∧ tt σ2 H2 fun b H3 => if b = true then te σ2 H3 Y else S H3)
    (fin : ∀ (D : Addr) (H' : Hp) (ts : List Addr), H D = none → Same H H' → H' D = some (.lst (ts.map V.ref)) → Paired (R H') ts cs → Q (.ref D) H') : tLc (iSeq K tl) g tt te vs σ H Q :=
  hp.elim (fun h => .inl (lcw_objs (R := R) (cs := cs) (fun s r => hR s r) h0 h hl hc turn fin)) fun h => .inr (lcw_objsTL (R := R) (cs := cs) (fun s r => hR s r) h0 h hl hc turn fin)
end
section
variable {P : Program} {w : World} {K : PySem.W.Frag} {mg : Str → Option Value} {base : Heap} {R : TRowz K mg}
theorem roomLv {k : Nat} {A : Around} (r : Room k A) : A.units + 64 < PySem.cLine := by have := r.un; omega
theorem pi_enumS {X : Cx} {e : Expr} {p pos tpos : Pos} {elts : List Expr} {kk : Nat} {i1 i2 : TI} (h1 : PI X (.Tuple elts kk tpos) (.Call (.Name "enumerate" p) [e] [] pos) i1) (h2 : PI X (.Tuple elts kk tpos) (.Call (.Name "enumerate" p) [e] [] pos) i2) :
    PI X (.Tuple elts kk tpos) (.Call (.Name "enumerate" p) [e] [] pos) (fun σ H R => i1 σ H R ∨ i2 σ H R) :=
  ⟨fun pins s σ H R I h => h.elim (fun a => h1.run pins s σ H R I a) fun a => h2.run pins s σ H R I a⟩
/-- what Leaves(..) wants -/
structure TLv {K : PySem.W.Frag} {mg : Str → Option Value} {R : TRowz K mg} (F : TFilz R) : Type where
  mEn : mg "enumerate" = none
  lw : Addr
  mLW : mg "LEAVE_WORDS" = some (.ref lw)
  hLW : ∀ H, SqT K H lw [.str "on", .str "any"]
  isTri : At K mg "is_triple" sIsTri ["value"]
  needT : At K mg "need_triples" sNeedT ["items"]
  rights : At K mg "rights_of" sRights ["triples"]
  C : Addr
  mC : mg "Leaves" = some (.ref C)
  fI : Addr
  fdI : FuncData
  dP : Addr
  hP : ∀ H, SqT K H dP []
  FI : FunD K "__init__" "Leaves.__init__" (defArgs sLInit) (defBody sLInit) (defScope sLInit) [.ref dP] [] fI fdI
  bI : Binds K fdI ["self", "items"] []
  M : Mk K C fI
  cl : Cls K C
  noR : NoAttr K C "rights"
variable {F : TFilz R}
def spIsTri (K : PySem.W.Frag) : Sp := fun vs H Q _ => ∃ (a : Addr) (t : Tri), vs = [.ref a] ∧ TriAt K H a t ∧ t.1.length ≤ 900 ∧ t.2.1.length ≤ 900 ∧ ∀ H', Same H H' → Q (.bl (triB t)) H'
theorem scIsTri : FnScope ["value"] ["value"] (defScope sIsTri) := ⟨rfl, rfl, rfl, by decide +kernel, rfl, by decide +kernel, by decide +kernel⟩
theorem ok_isTri (Y : TLv F) : FnOk P w K mg base CX0 2 Y.isTri.f Y.isTri.fd ["value"] (spIsTri K) := by
  refine Y.isTri.F.ok scIsTri (fun vs H Q E h => ?_) (fun cdv A outer s H vs Q E hr h => ?_)
  · obtain ⟨a, t, rfl, _⟩ := h
    rfl
  · obtain ⟨a, t, rfl, hT, l1, l2, q⟩ := h
    refine ⟨_, (pss_cons (ps_if (PW.pt (pw_or (pt_not (pt_val (pe_callB call_isi (by rfl) R.N.mIsi (by decide +kernel) (pa_cons (pv 0) (pa_cons (pe_bltn (v := .ty "tuple") (by rfl) F.mTup (by decide +kernel) rfl) pa_nil))))) (pw_or1 (pt_cmpR op_ne (pe_callB call_len_seq (by rfl) R.N.mLen PySem.boot_len (pa_cons (pv 0) pa_nil)) pe_int (nomark _))))) (pss_one (ps_ret pe_bl)) pss_nil)
(pss_one (ps_ret (pe_and (pe_call R.N.okName (hr.mono (by decide)) rfl R.N.isName.m R.N.isName.F.kp R.N.isName.b .nil pass0 (pa_cons (pe_ix ix_tup (pv 0) pe_int (fun _ _ => rfl)) pa_nil)) (pe_and (pe_call R.N.okName (hr.mono (by decide)) rfl R.N.isName.m R.N.isName.F.kp R.N.isName.b .nil pass0 (pa_cons (pe_ix ix_tup (pv 0) pe_int (fun _ _ => rfl)) pa_nil)) (pe_one (pe_cmpR op_in_seq (pe_ix ix_tup (pv 0) pe_int (fun _ _ => rfl)) (pe_glob (v := .ref Y.lw) (by rfl) Y.mLW rfl) rfl))))))), ?_⟩
    refine ⟨_, rfl, _, .ty "tuple", _, _, true, rfl, .ty _, sqt_ty hT, kit_ty (by decide +kernel : kitB "tuple" "tuple" = some true), _, rfl, iteF ?_⟩
    refine ⟨_, rfl, _, _, rfl, .inr hT, rfl, _, rfl, iteFD rfl ?_⟩
    refine ⟨_, rfl, a, _, 0, _, rfl, rfl, hT, rfl, .str t.1, .str t.1, rfl, .str _, l1, fun H1 s1 _ => ?_⟩
    have q' : Q (.bl (nameS t.1 && (nameS t.2.1 && (decide (t.2.2 = "on") || decide (t.2.2 = "any"))))) H1 := q _ s1
    refine ⟨_, rfl, ?_⟩
    cases n1 : nameS t.1 with
    | false =>
      rw [n1] at q'
      exact iteFB (show nameD (.str t.1) = false from n1) q'
    | true =>
    rw [n1, Bool.true_and] at q'
    refine iteTB (show nameD (.str t.1) = true from n1) ?_
    refine ⟨_, rfl, a, _, 1, _, rfl, rfl, Same.sqt s1 hT, rfl, .str t.2.1, .str t.2.1, rfl, .str _, l2, fun H2 s2 _ => ⟨_, rfl, ?_⟩⟩
    have q2 : Q (.bl (nameS t.2.1 && (decide (t.2.2 = "on") || decide (t.2.2 = "any")))) H2 := by
      have z := q H2 (s1.trans s2)
      unfold triB at z
      rw [n1, Bool.true_and] at z
      exact z
    cases n2 : nameS t.2.1 with
    | false =>
      rw [n2] at q2
      exact iteFB (show nameD (.str t.2.1) = false from n2) q2
    | true =>
    rw [n2, Bool.true_and] at q2
    refine iteTB (show nameD (.str t.2.1) = true from n2) ?_
    refine ⟨_, rfl, a, _, 2, _, rfl, rfl, Same.sqt (s1.trans s2) hT, rfl, Y.lw, _, rfl, .inr (Y.hLW _), rfl, rfl, ?_⟩
    have e : inV (.str t.2.2) [.str "on", .str "any"] = (decide (t.2.2 = "on") || decide (t.2.2 = "any")) := by
      have e1 : ∀ x : Str, (x == t.2.2) = decide (t.2.2 = x) := fun x => by
        by_cases h : t.2.2 = x
        · rw [decide_eq_true h, beq_iff_eq]; exact h.symm
        · rw [decide_eq_false h, beq_eq_false_iff_ne]; exact fun z => h z.symm
      show (("on" : Str) == t.2.2 || (("any" : Str) == t.2.2 || false)) = _
      rw [Bool.or_false, e1, e1]
    show Q (.bl (inV (.str t.2.2) [.str "on", .str "any"])) H2
    rw [e]
    exact q2
/-- triples in a list or a tuple -/
def TriSeq (K : PySem.W.Frag) (H : Hp) (v : V) (ts : List Tri) : Prop := ∃ (p : Addr) (as : List Addr), v = .ref p ∧ (SqL K H p (as.map V.ref) ∨ SqT K H p (as.map V.ref)) ∧ TrisIn K H as ts
theorem TriSeq.same {H H' : Hp} {v : V} {ts : List Tri} (h : TriSeq K H v ts) (s : Same H H') : TriSeq K H' v ts := by
  obtain ⟨p, as, e, hp, hT⟩ := h
  exact ⟨p, as, e, hp.imp s.seq (Same.sqt s), hT.same s⟩
def spNeedT (K : PySem.W.Frag) : Sp := fun vs H Q _ => ∃ (v : V) (ts : List Tri), vs = [v] ∧ TriSeq K H v ts ∧ (∀ t ∈ ts, triB t = true) ∧ ∀ H', Same H H' → Q .non H'
theorem scNeedT : FnScope ["items", "at", "triple"] ["items"] (defScope sNeedT) := ⟨rfl, rfl, rfl, by decide +kernel, rfl, by decide +kernel, by decide +kernel⟩
theorem ok_needT (Y : TLv F) : FnOk P w K mg base CX0 3 Y.needT.f Y.needT.fd ["items"] (spNeedT K) := by
  refine Y.needT.F.ok scNeedT (fun vs H Q E h => ?_) (fun cdv A outer s H vs Q E hr h => ?_)
  · obtain ⟨v, ts, rfl, _⟩ := h
    rfl
  · obtain ⟨v, ts, rfl, hS, hok, q⟩ := h
    refine ⟨_, (pss_cons (ps_if (pt_not (pt_val (pe_call (ok_isSeq F.isSeq.F R.N.mIsi F.mList F.mTup) (hr.mono (by decide)) rfl F.isSeq.m F.isSeq.F.kp F.isSeq.b .nil pass0 (pa_cons (pv 0) pa_nil)))) pss_never pss_nil)
(pss_one (ps_for PassesOwn.never rfl (pi_enumS (pi_enum (by rfl) Y.mEn (pa_cons (pv 0) pa_nil)) (pi_enumT (by rfl) Y.mEn (pa_cons (pv 0) pa_nil))) (pg_tup (by rfl) (pgs_cons (pg_name (i := 1) scNeedT.nd rfl (Or.inl rfl)) (pgs_cons (pg_name (i := 2) scNeedT.nd rfl (Or.inl rfl)) pgs_nil)))
(pss_one (ps_if (pt_not (pt_val (pe_call (ok_isTri Y) (hr.mono (by decide)) rfl Y.isTri.m Y.isTri.F.kp Y.isTri.b .nil pass0 (pa_cons (pv 2) pa_nil)))) pss_never pss_nil))))), ?_⟩
    obtain ⟨p, as, rfl, hp, hT⟩ := hS
    obtain ⟨ty, hk, hty, hty2⟩ := kind_seq hp
    refine ⟨_, rfl, .ref p, ty, true, rfl, hty, hk, hty2, fun H1 s1 _ => ⟨_, rfl, iteF ?_⟩⟩
    rcases hp with hp | hp
    · refine .inl ?_
      refine ⟨_, rfl, p, _, rfl, s1.seq hp, for_it (n := (as.map V.ref).length) walk_enum (fun i σ Hi => ∃ x1 x2, σ = [some (.ref p), x1, x2] ∧ Same H Hi) ⟨none, none, rfl, s1⟩ (fun i σ Hi _ hP => by obtain ⟨_, _, _, s⟩ := hP; exact s.seq hp) (fun i x σ Hi Hi' hi hP hY => ?_) (fun σ Hi hP => ?_)⟩
      · obtain ⟨x1, x2, rfl, si⟩ := hP
        obtain ⟨T', xx, yy, rfl, hT', rfl, e1, e2⟩ := hY
        obtain rfl : V.int (i : Nat) = xx := Option.some.inj e1
        have e2 : (as.map V.ref)[i]? = some yy := e2
        rw [List.getElem?_map] at e2
        obtain ⟨a, ha, rfl⟩ := Option.map_eq_some_iff.mp e2
        obtain ⟨t, ht, hat⟩ := paired_at hT ha
        have ht2 := hok t (List.mem_of_getElem? ht)
        refine ⟨T', _, rfl, SqT.of upd_same, rfl, _, _, rfl, _, _, rfl, rfl, ?_⟩
        have s2 := si.trans (Same.new (o := .tup [.int (i : Nat), .ref a]) hT')
        refine ⟨_, rfl, a, t, rfl, Same.sqt s2 hat, (triB_len ht2).1, (triB_len ht2).2, fun H2 s3 => ⟨_, rfl, ?_⟩⟩
        rw [ht2]
        exact iteF ⟨_, _, rfl, s2.trans s3⟩
      · obtain ⟨x1, x2, rfl, si⟩ := hP
        exact q _ si
    · refine .inr ?_
      refine ⟨_, rfl, p, _, rfl, Same.sqt s1 hp, for_it (n := (as.map V.ref).length) walk_enumT (fun i σ Hi => ∃ x1 x2, σ = [some (.ref p), x1, x2] ∧ Same H Hi) ⟨none, none, rfl, s1⟩ (fun i σ Hi _ hP => by obtain ⟨_, _, _, s⟩ := hP; exact Same.sqt s hp) (fun i x σ Hi Hi' hi hP hY => ?_) (fun σ Hi hP => ?_)⟩
      · obtain ⟨x1, x2, rfl, si⟩ := hP
        obtain ⟨T', xx, yy, rfl, hT', rfl, e1, e2⟩ := hY
        obtain rfl : V.int (i : Nat) = xx := Option.some.inj e1
        have e2 : (as.map V.ref)[i]? = some yy := e2
        rw [List.getElem?_map] at e2
        obtain ⟨a, ha, rfl⟩ := Option.map_eq_some_iff.mp e2
        obtain ⟨t, ht, hat⟩ := paired_at hT ha
        have ht2 := hok t (List.mem_of_getElem? ht)
        refine ⟨T', _, rfl, SqT.of upd_same, rfl, _, _, rfl, _, _, rfl, rfl, ?_⟩
        have s2 := si.trans (Same.new (o := .tup [.int (i : Nat), .ref a]) hT')
        refine ⟨_, rfl, a, t, rfl, Same.sqt s2 hat, (triB_len ht2).1, (triB_len ht2).2, fun H2 s3 => ⟨_, rfl, ?_⟩⟩
        rw [ht2]
        exact iteF ⟨_, _, rfl, s2.trans s3⟩
      · obtain ⟨x1, x2, rfl, si⟩ := hP
        exact q _ si
def keysT : List Addr → List Tri → List (Addr × List Str)
  | a :: as, t :: ts => (a, tl3 t) :: keysT as ts
  | _, _ => []
theorem keysT_refs {H : Hp} : ∀ {as : List Addr} {ts : List Tri}, TrisIn K H as ts → (keysT as ts).map (fun p => V.ref p.1) = as.map V.ref
  | _, _, .nil => rfl
  | _, _, .cons _ r => congrArg (_ :: ·) (keysT_refs r)
theorem keysT_at {H : Hp} : ∀ {as : List Addr} {ts : List Tri}, TrisIn K H as ts → ∀ p ∈ keysT as ts, ∃ t ∈ ts, p.2 = tl3 t ∧ TriAt K H p.1 t
  | _, _, .nil, p, hp => nomatch hp
  | _, _, .cons a r, p, hp => by
    rcases List.mem_cons.mp hp with rfl | hp
    · exact ⟨_, List.mem_cons_self, rfl, a⟩
    · obtain ⟨t, h1, h2⟩ := keysT_at r p hp
      exact ⟨t, List.mem_cons_of_mem _ h1, h2⟩
theorem keysT_has {H : Hp} : ∀ {as : List Addr} {ts : List Tri}, TrisIn K H as ts → ∀ t ∈ ts, ∃ p ∈ keysT as ts, p.2 = tl3 t
  | _, _, .nil, t, ht => nomatch ht
  | _, _, .cons a r, t, ht => by
    rcases List.mem_cons.mp ht with rfl | ht
    · exact ⟨_, List.mem_cons_self, rfl⟩
    · obtain ⟨p, h1, h2⟩ := keysT_has r t ht
      exact ⟨p, List.mem_cons_of_mem _ h1, h2⟩
theorem mem_rights {ts : List Tri} {z : Tri} : z ∈ rightsM ts ↔ z ∈ ts ∨ ∃ t ∈ ts, going t = z := by
  unfold rightsM
  rw [mem_sortT, List.mem_append, List.mem_map]
/-- tuples that are the keys of the rights, ascending -/
theorem rights_of_keys {H : Hp} {ts : List Tri} : ∀ {L : List (Addr × List Str)}, (∀ p ∈ L, ∃ t, (t ∈ ts ∨ t ∈ ts.map going) ∧ p.2 = tl3 t ∧ TriAt K H p.1 t) → (L.map (·.2)).Pairwise (fun x y => ltT x y = true) →
    ∃ rs : List Tri, TrisIn K H (L.map (·.1)) rs ∧ UpT rs ∧ (∀ z ∈ rs, z ∈ ts ∨ z ∈ ts.map going) ∧ L.map (·.2) = rs.map tl3
  | [], _, _ => ⟨[], .nil, .nil, (fun _ z => nomatch z), rfl⟩
  | p :: L, h, up => by
    obtain ⟨u1, u2⟩ := List.pairwise_cons.mp up
    obtain ⟨rs, r1, r2, r3, r4⟩ := rights_of_keys (fun q hq => h q (List.mem_cons_of_mem _ hq)) u2
    obtain ⟨t, t1, t2, t3⟩ := h p List.mem_cons_self
    refine ⟨t :: rs, .cons t3 r1, List.pairwise_cons.mpr ⟨fun z hz => ?_, r2⟩, fun z hz => ?_, by rw [List.map_cons, List.map_cons, r4, t2]⟩
    · rw [← t2]
      exact u1 _ (by rw [r4]; exact List.mem_map_of_mem hz)
    · rcases List.mem_cons.mp hz with rfl | hz
      · exact t1
      · exact r3 z hz
theorem keysT_low {H : Hp} {as gs : List Addr} {ts : List Tri} (h : FewT ts) (ha : TrisIn K H as ts) (hg : TrisIn K H gs (ts.map going)) : LowT (keysT as ts ++ keysT gs (ts.map going)) := by
  obtain ⟨_, B, hB, hk⟩ := h
  refine ⟨B, hB, fun p hp => ?_⟩
  rcases List.mem_append.mp hp with hp | hp
  · obtain ⟨t, h1, h2, _⟩ := keysT_at ha p hp
    rw [h2]
    exact (hk t h1).1
  · obtain ⟨t, h1, h2, _⟩ := keysT_at hg p hp
    obtain ⟨u, hu, rfl⟩ := List.mem_map.mp h1
    rw [h2]
    exact (hk u hu).2
def spRights (K : PySem.W.Frag) : Sp := fun vs H Q _ => ∃ (v : V) (ts : List Tri), vs = [v] ∧ TriSeq K H v ts ∧ FewT ts ∧ ∀ (p : Addr) (bs : List Addr) (H' : Hp), Same H H' → SqT K H' p (bs.map V.ref) → TrisIn K H' bs (rightsM ts) → Q (.ref p) H'
theorem scRights : FnScope ["triples", "going", "name", "counter", "word"] ["triples"] (defScope sRights) := ⟨rfl, rfl, rfl, by decide +kernel, rfl, by decide +kernel, by decide +kernel⟩
theorem ok_rights (Y : TLv F) : FnOk P w K mg base CX0 1 Y.rights.f Y.rights.fd ["triples"] (spRights K) := by
  refine Y.rights.F.ok scRights (fun vs H Q E h => ?_) (fun cdv A outer s H vs Q E hr h => ?_)
  · obtain ⟨v, ts, rfl, _⟩ := h
    rfl
  · obtain ⟨v, ts, rfl, hS, hf, q⟩ := h
    refine ⟨_, (pss_cons (ps_setLc (i := 1) (own := [("name", 2), ("counter", 3), ("word", 4)]) (g := gTup K 3 (gCons (gName 2) (gCons (gName 3) (gCons (gName 4) gNil)))) (tt := tYes) (by rfl) scRights.nd rfl rfl (sw_true rfl rfl rfl (by decide +kernel)) (pi_seq (pv 0))
 (blkOk_by (N := ["triples", "going", "name", "counter", "word"]) (sc := defScope sRights) (by decide +kernel)) (fun _ _ _ _ _ => (pg_tup (by rfl) (pgs_cons (pg_name (i := 2) scRights.nd rfl (Or.inl rfl)) (pgs_cons (pg_name (i := 3) scRights.nd rfl (Or.inl rfl)) (pgs_cons (pg_name (i := 4) scRights.nd rfl (Or.inl rfl)) pgs_nil))))) (fun _ _ _ _ _ => pts_nil) (fun _ _ _ _ _ => (pe_tup (pa_cons (pv 2) (pa_cons (pv 3) (pa_cons pe_str pa_nil))))))
(pss_one (ps_ret (pe_callTy (show CallR _ (.type "tuple") (rTupO K) from call_tupO) (by rfl) F.mTup (by decide +kernel) (pa_cons (pe_callB (show CallR _ (.builtin "sorted") (rSortTp K P w) from cr_sortTp rfl) (by rfl) F.mSorted (by decide +kernel) (pa_cons (pe_callTy (show CallR _ (.type "set") (rSetTp K P w) from cr_setTp rfl (roomLv hr)) (by rfl) F.mSet (by decide +kernel) (pa_cons (pe_lst (StX.pa_star (pv 0) (StX.pa_star (pv 1) pa_nil))) pa_nil)) pa_nil)) pa_nil))))), ?_⟩
    obtain ⟨p, as, rfl, hp, hT⟩ := hS
    have hl := paired_len hT
    have h100 := hf.1
    refine stepSet (fun v H' => ∃ (D : Addr) (gs : List Addr), v = .ref D ∧ Same H H' ∧ H' D = some (.lst (gs.map V.ref)) ∧ TrisIn K H' gs (ts.map going)) (fun Q' hQ => ?c1) (fun v H1 hC => ?r1)
    case c1 =>
      refine lcw_objsS (K := K) (tl := tVar 0) (p := p) (xs := as.map V.ref) (cs := ts.map going) (R := fun H t c => TriAt K H t c) (fun s z => sqt_sameN s z) (fun R' z => ⟨_, rfl, z⟩) hp (by rw [List.length_map, hl]; omega) (by rw [List.length_map, List.length_map, hl]) ?tn ?fn
      case tn =>
        intro i x c Hi S Y hx hc sI k
        rw [List.getElem?_map] at hx hc
        obtain ⟨a, ha, rfl⟩ := Option.map_eq_some_iff.mp hx
        obtain ⟨t, ht, rfl⟩ := Option.map_eq_some_iff.mp hc
        obtain ⟨t', ht', hat⟩ := paired_at hT ha
        rw [ht] at ht'
        cases ht'
        refine ⟨a, _, rfl, Same.sqt sI hat, rfl, _, _, rfl, _, _, rfl, _, _, rfl, rfl, rfl, ?_⟩
        refine ⟨_, rfl, _, rfl, (by show 3 ≤ sizeLine; decide), fun b hb => ?_⟩
        exact k b _ (Same.new hb) (SqT.of upd_same)
      case fn =>
        intro D H' gs hD sD hDl pd
        exact hQ _ _ ⟨D, gs, rfl, sD, hDl, pd⟩
    case r1 =>
    obtain ⟨D, gs, rfl, s1, hD, hG⟩ := hC
    have hp1 := hp.imp s1.seq (Same.sqt s1)
    have hT1 := hT.same s1
    have hgl := paired_len hG
    rw [List.length_map] at hgl
    try dsimp only [List.set]
    refine ⟨_, rfl, p, _, rfl, hp1.symm, _, rfl, D, _, rfl, .inr (SqL.of hD), ?_⟩
    refine ⟨by rw [List.append_nil, List.length_append, List.length_map, List.length_map, hl, hgl]; exact Nat.le_trans (show ts.length + ts.length ≤ 200 by omega) (by decide), fun l hln => ?_⟩
    rw [List.append_nil]
    have s2 := s1.trans (Same.new (o := .lst (as.map V.ref ++ gs.map V.ref)) hln)
    have hT2 := hT1.same (Same.new (o := .lst (as.map V.ref ++ gs.map V.ref)) hln)
    have hG2 := hG.same (Same.new (o := .lst (as.map V.ref ++ gs.map V.ref)) hln)
    have hl2 : upd H1 l (.lst (as.map V.ref ++ gs.map V.ref)) l = some (.lst (as.map V.ref ++ gs.map V.ref)) := upd_same
    generalize upd H1 l (.lst (as.map V.ref ++ gs.map V.ref)) = H2 at s2 hT2 hG2 hl2 ⊢
    have kat : ∀ p ∈ keysT as ts ++ keysT gs (ts.map going), ∃ t, (t ∈ ts ∨ t ∈ ts.map going) ∧ p.2 = tl3 t ∧ TriAt K H2 p.1 t := fun p hp => by
      rcases List.mem_append.mp hp with hp | hp
      · obtain ⟨t, h1, h2, h3⟩ := keysT_at hT2 p hp
        exact ⟨t, .inl h1, h2, h3⟩
      · obtain ⟨t, h1, h2, h3⟩ := keysT_at hG2 p hp
        exact ⟨t, .inr h1, h2, h3⟩
    have sq3 : ∀ {H : Hp} {p : Addr × List Str} {t : Tri}, p.2 = tl3 t → TriAt K H p.1 t → SqT K H p.1 (p.2.map V.str) := fun e h => by rw [e]; exact h
    refine ⟨l, keysT as ts ++ keysT gs (ts.map going), rfl, SqL.of (by rw [hl2, List.map_append, keysT_refs hT2, keysT_refs hG2]), fun p hp => ?_, keysT_low hf hT2 hG2, fun a L ha hL1 hL2 => ?_⟩
    · obtain ⟨t, _, h2, h3⟩ := kat p hp
      exact sq3 h2 h3
    have s3 := s2.trans (Same.new (o := SetTp P w a L) ha)
    have kat2 : ∀ p ∈ L, ∃ t, (t ∈ ts ∨ t ∈ ts.map going) ∧ p.2 = tl3 t ∧ TriAt K (upd H2 a (SetTp P w a L)) p.1 t := fun p hp => by
      obtain ⟨t, h1, h2, h3⟩ := kat p (hL1 p hp)
      exact ⟨t, h1, h2, Same.sqt (Same.new ha) h3⟩
    refine ⟨a, L, rfl, upd_same, fun p hp => ?_, fun L' p perm up hpn => ?_⟩
    · obtain ⟨t, _, h2, h3⟩ := kat2 p hp
      exact ⟨sq3 h2 h3, by rw [h2]; exact fun z => nomatch z⟩
    have s4 := s3.trans (Same.new (o := .lst (L'.map fun q => V.ref q.1)) hpn)
    have e4 : (L'.map fun q => V.ref q.1) = (L'.map (·.1)).map V.ref := by rw [List.map_map]; rfl
    rw [e4] at s4 ⊢
    have hp4 : upd (upd H2 a (SetTp P w a L)) p (.lst ((L'.map (·.1)).map V.ref)) p = some (.lst ((L'.map (·.1)).map V.ref)) := upd_same
    obtain ⟨rs, r1, r2, r3, r4⟩ := rights_of_keys (K := K) (H := upd H2 a (SetTp P w a L)) (ts := ts) (L := L') (fun q hq => kat2 q (perm.mem_iff.mp hq)) up
    have r5 : rs = rightsM ts := by
      refine up_uniq r2 (up_sortT _) fun z => ⟨fun hz => ?_, fun hz => ?_⟩
      · exact mem_rights.mpr ((r3 z hz).imp id List.mem_map.mp)
      · have hz2 : z ∈ ts ∨ z ∈ ts.map going := (mem_rights.mp hz).imp id List.mem_map.mpr
        have hk : ∃ p ∈ keysT as ts ++ keysT gs (ts.map going), p.2 = tl3 z := by
          rcases hz2 with hz2 | hz2
          · obtain ⟨p, h1, h2⟩ := keysT_has hT2 z hz2
            exact ⟨p, List.mem_append_left _ h1, h2⟩
          · obtain ⟨p, h1, h2⟩ := keysT_has hG2 z hz2
            exact ⟨p, List.mem_append_right _ h1, h2⟩
        obtain ⟨p, h1, h2⟩ := hk
        have h3 := hL2 p h1
        rw [h2, ← (perm.map (·.2)).mem_iff, r4] at h3
        obtain ⟨t, h4, h5⟩ := List.mem_map.mp h3
        rw [← tl3_inj h5]
        exact h4
    rw [r5] at r1
    refine ⟨p, _, rfl, .inl ⟨SqL.of hp4, fun b hb => ?_⟩⟩
    exact q b _ _ (s4.trans (Same.new hb)) (SqT.of upd_same) ((r1.same (Same.new hpn)).same (Same.new hb))
def insLv (C dx : Addr) (u : V) : HO := .ins C dx (putF "rights" u [])
/-- leaves with these rights -/
def LvAt (Y : TLv F) (H : Hp) (x : Addr) (rs : List Tri) : Prop := ∃ (dx p : Addr) (as : List Addr), H x = some (insLv Y.C dx (.ref p)) ∧ SqT K H p (as.map V.ref) ∧ TrisIn K H as rs ∧ UpT rs ∧ (∀ t ∈ rs, triB t = true) ∧ rs.length ≤ 1000
theorem LvAt.same {Y : TLv F} {H H' : Hp} {x : Addr} {rs : List Tri} (h : LvAt Y H x rs) (s : Same H H') : LvAt Y H' x rs := by
  obtain ⟨dx, p, as, h1, h2, h3, h4⟩ := h
  exact ⟨dx, p, as, s _ _ h1, Same.sqt s h2, h3.same s, h4⟩
theorem rights_ok {ts : List Tri} (h : ∀ t ∈ ts, triB t = true) : ∀ t ∈ rightsM ts, triB t = true := fun t ht => by
  rcases mem_rights.mp ht with ht | ⟨u, hu, rfl⟩
  · exact h t ht
  · have z := h u hu
    unfold triB at z ⊢
    rw [Bool.and_eq_true, Bool.and_eq_true] at z ⊢
    exact ⟨z.1, z.2.1, rfl⟩
theorem insT_len (x : Tri) : ∀ l : List Tri, (insT x l).length ≤ l.length + 1
  | [] => Nat.le_refl _
  | y :: l => by
    unfold insT
    split
    · exact Nat.le_refl _
    · split
      · exact Nat.le_succ _
      · exact Nat.succ_le_succ (insT_len x l)
theorem sortT_len : ∀ l : List Tri, (sortT l).length ≤ l.length
  | [] => Nat.le_refl _
  | x :: l => Nat.le_trans (insT_len x (sortT l)) (Nat.succ_le_succ (sortT_len l))
theorem rights_len (ts : List Tri) : (rightsM ts).length ≤ 2 * ts.length := by
  have := sortT_len (ts ++ ts.map going)
  rw [List.length_append, List.length_map] at this
  unfold rightsM
  omega
def spLInit (Y : TLv F) : Sp := fun vs H Q _ => ∃ (x dx : Addr) (v : V) (ts : List Tri), vs = [.ref x, v] ∧ H x = some (.ins Y.C dx []) ∧ TriSeq K (hid H x) v ts ∧ (∀ t ∈ ts, triB t = true) ∧ FewT ts ∧ ∀ H', KpI x H H' → LvAt Y H' x (rightsM ts) → Q .non H'
theorem scLInit : FnScope ["self", "items"] ["self", "items"] (defScope sLInit) := ⟨rfl, rfl, rfl, by decide +kernel, rfl, by decide +kernel, by decide +kernel⟩
theorem ok_lInit (Y : TLv F) : FnOk P w K mg base CX0 4 Y.fI Y.fdI ["self", "items"] (spLInit Y) := by
  refine Y.FI.ok scLInit (fun vs H Q E h => ?_) (fun cdv A outer s H vs Q E hr h => ?_)
  · obtain ⟨x, dx, v, ts, rfl, _⟩ := h
    rfl
  · obtain ⟨x, dx, v, ts, rfl, hx, hS, hok, hf, q⟩ := h
    refine ⟨_, (pss_cons (ps_expr (pe_call (ok_needT Y) (hr.mono (by decide)) rfl Y.needT.m Y.needT.F.kp Y.needT.b .nil pass0 (pa_cons (pv 1) pa_nil)))
(pss_one (ps_fld (pv 0) (pe_call (ok_rights Y) (hr.mono (by decide)) rfl Y.rights.m Y.rights.F.kp Y.rights.b .nil pass0 (pa_cons (pv 1) pa_nil)) rfl))), ?_⟩
    have hS1 : TriSeq K H v ts := hS.same hid_sub
    refine ⟨_, rfl, v, ts, rfl, hS1, hok, fun H1 s1 => ?_⟩
    refine ⟨_, rfl, v, ts, rfl, hS1.same s1, hf, fun p bs H2 s2 hp hB => ?_⟩
    have hx2 := s2 _ _ (s1 _ _ hx)
    refine ⟨_, rfl, x, Y.C, dx, _, rfl, hx2, Y.cl, Y.noR, (by show 0 < 1000; decide), ?_⟩
    refine q _ (fun b o e n => by rw [upd_ne n]; exact s2 _ _ (s1 _ _ e)) ⟨dx, p, bs, upd_same, sqt_ins hx2 hp, paired_mono (fun _ _ z => sqt_ins hx2 z) hB, up_sortT _, rights_ok hok, ?_⟩
    have := rights_len ts
    have := hf.1
    omega
end
end Pn

namespace Pn
open PySem PySem.Spec PyProof.Rows L2 TL
/-! ### leaves compared and put together -/
def triD (t : Tri) : PyData := .tuple [.str t.1, .str t.2.1, .str t.2.2]
theorem tri_strOk {t : Tri} (h : triB t = true) : PyData.strOk t.1 = true ∧ PyData.strOk t.2.1 = true ∧ PyData.strOk t.2.2 = true := by
  unfold triB at h
  rw [Bool.and_eq_true, Bool.and_eq_true, Bool.or_eq_true] at h
  obtain ⟨h1, h2, h3⟩ := h
  refine ⟨(name_ok h1).1, (name_ok h2).1, ?_⟩
  rcases h3 with h3 | h3
  · rw [of_decide_eq_true h3]; decide +kernel
  · rw [of_decide_eq_true h3]; decide +kernel
def triS (t : Tri) : Prop := PyData.strOk t.1 = true ∧ PyData.strOk t.2.1 = true ∧ PyData.strOk t.2.2 = true
theorem tri_lay {t : Tri} (h : triS t) : PyData.canLay0 (triD t) = true ∧ PyData.depth (triD t) ≤ 1 := by
  obtain ⟨a, b, c⟩ := h
  constructor
  · unfold triD
    simp only [PyData.canLay0, PyData.canLayAll0, a, b, c, Bool.and_self]
  · unfold triD
    simp [PyData.depth, PyData.depthAll]
section
variable {P : Program} {w : World} {K : PySem.W.Frag} {mg : Str → Option Value} {base : Heap} {R : TRowz K mg} {F : TFilz R}
theorem tri_dp {H : Hp} {a : Addr} {t : Tri} (h : TriAt K H a t) : Dp K H (.ref a) (triD t) := .tup h (.cons (.str _) (.cons (.str _) (.cons (.str _) .nil)))
theorem tris_dp {H : Hp} : ∀ {as : List Addr} {ts : List Tri}, TrisIn K H as ts → DpAll K H (as.map V.ref) (ts.map triD)
  | _, _, .nil => .nil
  | _, _, .cons a r => .cons (tri_dp a) (tris_dp r)
variable {Y : TLv F}
end
end Pn

namespace Pn
open PySem PySem.Spec PyProof.Rows L2 TL
theorem stepPar {i j : Nat} {ta : TA} {B : TS} {D : Ends} {σ : L2.St} {H : Hp} (C : V → V → Hp → Prop) (h1 : ∀ Q' : List V → Hp → Prop, (∀ v w H', C v w H' → Q' [v, w] H') → ta σ H Q') (h2 : ∀ v w H', C v w H' → B D ((σ.set i (some v)).set j (some w)) H') : tSeq (tPar i j ta) B D σ H := h1 _ fun v w H' c => ⟨v, w, rfl, h2 v w H' c⟩
theorem stepEndB {tt : TT} {A : TS} {D : Ends} {σ : L2.St} {H : Hp} (G : Hp → Prop) (h1 : ∀ Q : Bool → Hp → Prop, (∀ H', G H' → Q false H') → tt σ H Q) (h2 : ∀ H', G H' → D.nx σ H') : tIfS tt A tNext D σ H := h1 _ fun H' g => by
  rw [if_neg Bool.false_ne_true]
  exact h2 H' g
theorem neD_sameB {K : PySem.W.Frag} {H : Hp} {x y : V} {d : PyData} {Q : VK} (hx : Dp K H x d) (hy : Dp K H y d) (sh : SeqAt.shaped d = true) (q : Q (.bl false) H) : rNeD K x y H Q := by
  refine ⟨d, d, hx, hy, sh, sh, ?_⟩
  rw [SeqAt.eqv_refl d (SeqAt.canLay_of_shaped sh)]
  exact q
theorem rNe_same {v : V} {H : Hp} {Q : VK} (hs : scal v v = true) (q : Q (.bl false) H) : rNe v v H Q := ⟨hs, by rw [decide_eq_true rfl]; exact q⟩
end Pn

namespace Pn
open PySem PySem.Spec PyProof.Rows L2 TL
abbrev sValue : Stmt := top 21
/-! ### any values, drawn out of a deal that is a dict -/
def leafW : List V := [.int 0, .int 1, .int (-7), .int 100000000000000000000, .non, .bl true, .bl false, .str "", .str "on", .str "any", .str "x", .str "note", .str "open x", .str "c", .str "x y"]
def leafWD : List PyData := leafW.filterMap pd
theorem leafW_pd : ∀ v ∈ leafW, ∃ d, pd v = some d ∧ d ∈ leafWD := fun v hv => by
  have h : ∀ u ∈ leafW, (pd u).isSome = true := List.all_eq_true.mp (by decide +kernel)
  obtain ⟨d, e⟩ := Option.isSome_iff_exists.mp (h v hv)
  exact ⟨d, e, List.mem_filterMap.mpr ⟨v, hv, e⟩⟩
/-- data nested at most n deep over these -/
def Vt : Nat → PyData → Prop
  | 0, d => d ∈ leafWD
  | n + 1, d => d ∈ leafWD ∨ ∃ ds : List PyData, ds.length ≤ 3 ∧ (∀ e ∈ ds, Vt n e) ∧ (d = .list ds ∨ d = .tuple ds)
theorem Vt.leaf {n : Nat} {d : PyData} (h : d ∈ leafWD) : Vt n d := by
  cases n with
  | zero => exact h
  | succ n => exact .inl h
theorem Vt.up {d : PyData} : ∀ {n m : Nat}, n ≤ m → Vt n d → Vt m d
  | 0, _, _, h => Vt.leaf h
  | n + 1, 0, l, _ => absurd l (by omega)
  | n + 1, m + 1, l, h => by
    rcases h with h | ⟨ds, h1, h2, h3⟩
    · exact .inl h
    · exact .inr ⟨ds, h1, fun e he => Vt.up (Nat.le_of_succ_le_succ l) (h2 e he), h3⟩
theorem mo_of {H H' : Hp} {d g : Addr} (hD : DealAt H' d g) (s : Same (hh H d g) (hh H' d g)) : Mo H H' := fun a z => by
  cases q : H a with
  | none => rfl
  | some u =>
    by_cases n1 : a = d
    · exact absurd (by rw [n1] at z; exact z) hD.there.1
    by_cases n2 : a = g
    · exact absurd (by rw [n2] at z; exact z) hD.there.2
    have := hh_sub _ _ (s _ _ (hh_get q n1 n2))
    rw [z] at this
    cases this
section
variable {P : Program} {w : World} {K : PySem.W.Frag} {mg : Str → Option Value} {base : Heap}
structure TVal (K : PySem.W.Frag) (mg : Str → Option Value) : Type where
  mI : mg "int" = none
  mA : mg "abs" = none
  mL : mg "len" = none
  mR : mg "range" = none
  mTup : mg "tuple" = none
  deal : At K mg "_law_deal" sDeal ["_law_script", "_law_base"]
  draw : At K mg "_law_draw" sDraw ["_law_deal_here", "_law_many"]
  pick : At K mg "_law_pick" sPick ["_law_deal_here", "_law_some"]
  val : At K mg "_law_value" sValue ["_law_deal_here", "_law_deep"]
theorem TVal.okDraw (T : TVal K mg) : FnOk P w K mg base CX0 1 T.draw.f T.draw.fd ["_law_deal_here", "_law_many"] spDraw := ok_draw T.draw.F T.mI T.mL
theorem TVal.okDeal (T : TVal K mg) : FnOk P w K mg base CX0 1 T.deal.f T.deal.fd ["_law_script", "_law_base"] (spDeal K) := ok_deal T.deal.F T.mI T.mA
theorem TVal.okPick (T : TVal K mg) : FnOk P w K mg base CX0 2 T.pick.f T.pick.fd ["_law_deal_here", "_law_some"] (spPick K) := ok_pick T.pick.F T.mL T.draw T.mI
def spValue (K : PySem.W.Frag) (n : Nat) : Sp := fun vs H Q _ => ∃ (d g : Addr) (k : Int), vs = [.ref d, .int k] ∧ 0 ≤ k ∧ k ≤ (n : Int) ∧ DealAt H d g ∧
  ∀ (v : V) (e : PyData) (H' : Hp), DealAt H' d g → Same (hh H d g) (hh H' d g) → Dp K (dif H H') v e → Vt n e → Q v H'
theorem scValue : FnScope ["_law_deal_here", "_law_deep", "_law_form", "_law_some", "_law_k"] ["_law_deal_here", "_law_deep"] (defScope sValue) := ⟨rfl, rfl, rfl, by decide +kernel, rfl, by decide +kernel, by decide +kernel⟩
/-- what a comprehension has made so far, over what stood ahead of it -/
def MadeV (K : PySem.W.Frag) (d g D : Addr) (H0 : Hp) (n i : Nat) (H : Hp) : Prop := Same (hhL H0 d g D) (hhL H d g D) ∧ DealAt H d g ∧
  ∃ (acc : List V) (ds : List PyData), H D = some (.lst acc) ∧ acc.length = i ∧ ds.length = i ∧ DpAll K (dif H0 H) acc ds ∧ ∀ e ∈ ds, Vt n e
theorem madeV_turn {d g D : Addr} {H0 H H1 : Hp} {n i : Nat} {v : V} {e : PyData} {o1 : HO} (hD0 : DealAt H0 d g) (hDD : H0 D = some o1) (n1 : D ≠ d) (n2 : D ≠ g) (h : MadeV K d g D H0 n i H) (hB : DealAt H1 d g) (s : Same (hh H d g) (hh H1 d g)) (hv : Dp K (dif H H1) v e) (he : Vt n e) :
    ∃ acc, H1 D = some (.lst acc) ∧ acc.length = i ∧ MadeV K d g D H0 n (i + 1) (upd H1 D (.lst (acc ++ [v]))) := by
  obtain ⟨s1, hDe, acc, ds, eD, l1, l2, hA, hT⟩ := h
  have eD1 : H1 D = some (.lst acc) := hh_sub _ _ (s _ _ (hh_get eD n1 n2))
  have mo : Mo H0 H := fun a z => by
    by_cases e1 : a = d
    · exact absurd (by rw [e1] at z; exact z) hDe.there.1
    by_cases e2 : a = g
    · exact absurd (by rw [e2] at z; exact z) hDe.there.2
    by_cases e3 : a = D
    · rw [e3, eD] at z
      cases z
    cases q : H0 a with
    | none => rfl
    | some u =>
      have := hhL_sub _ _ (s1 _ _ (hhL_get q e3 e1 e2))
      rw [z] at this
      cases this
  have toN : ∀ {a : Addr} {u : HO}, H0 a = none → H1 a = some u → dif H0 (upd H1 D (.lst (acc ++ [v]))) a = some u := fun {a u} e0 e1 => by
    refine dif_new e0 ?_
    rw [upd_ne (fun y => by rw [y, hDD] at e0; cases e0)]
    exact e1
  refine ⟨acc, eD1, l1, (s1.trans (hhL_same s)).trans hhL_put, hB.upd n1 n2, acc ++ [v], ds ++ [e], upd_same, by rw [List.length_append, l1]; rfl, by rw [List.length_append, l2]; rfl, ?_, ?_⟩
  · refine dpAll_append (dpAll_same (fun a u q => ?_) _ _ hA) (.cons (dp_same (fun a u q => ?_) _ _ hv) .nil)
    · obtain ⟨e0, e1⟩ := dif_eq.mp q
      have m1 : a ≠ d := fun y => hD0.there.1 (by rw [← y]; exact e0)
      have m2 : a ≠ g := fun y => hD0.there.2 (by rw [← y]; exact e0)
      exact toN e0 (hh_sub _ _ (s _ _ (hh_get e1 m1 m2)))
    · obtain ⟨e0, e1⟩ := dif_eq.mp q
      exact toN (mo a e0) e1
  · intro e' he'
    rcases List.mem_append.mp he' with q | q
    · exact hT e' q
    · rw [List.mem_singleton.mp q]
      exact he
theorem pick_leaf {d g : Addr} {n : Nat} {H Ha : Hp} {xs : List V} {Q : VK} (hx : ∀ v ∈ xs, v ∈ leafW) (h0 : 0 < xs.length) (h1 : xs.length ≤ 10) (hD : DealAt Ha d g) (s : Same (hh H d g) (hh Ha d g))
    (q : ∀ (v : V) (e : PyData) (H' : Hp), DealAt H' d g → Same (hh H d g) (hh H' d g) → Dp K (dif H H') v e → Vt n e → Q v H') : xs.length ≤ sizeLine ∧ ∀ l, Ha l = none → spPick K [.ref d, .ref l] (upd Ha l (.lst xs)) Q E0 := by
  have big : (1000 : Nat) ≤ sizeLine := by decide
  refine ⟨by omega, fun l hl => ⟨d, g, l, xs, rfl, hD.new hl, SqL.of (hh_at hD hl), h0, by omega, fun v H' hv hD' s' _ => ?_⟩⟩
  obtain ⟨e, he, hm⟩ := leafW_pd v (hx v hv)
  exact q v e H' hD' ((s.trans (hh_new hl)).trans s') (pd_dp he) (Vt.leaf hm)
theorem TVal.okValue (T : TVal K mg) : ∀ n : Nat, FnOk P w K mg base CX0 (n + 3) T.val.f T.val.fd ["_law_deal_here", "_law_deep"] (spValue K n) := by
  intro n
  induction n with
  | zero =>
    refine T.val.F.ok scValue (fun vs H Q E h => ?_) (fun cdv A outer s H vs Q E hr h => ?_)
    · obtain ⟨d, g, k, rfl, _⟩ := h
      rfl
    · obtain ⟨d, g, k, rfl, k0, k1, hD, q⟩ := h
      obtain rfl : k = 0 := by omega
      refine ⟨_, (pss_cons (ps_set (i := 2) scValue.nd rfl (Or.inl rfl) (pe_call T.okDraw (hr.mono (by omega)) rfl T.draw.m T.draw.F.kp T.draw.b .nil pass0 (pa_cons (pv 0) (pa_cons (pe_ifExp (pt_cmpR op_gt (pv 1) pe_int (nomark _)) pe_int pe_int) pa_nil))))
(pss_cons (ps_if (pt_cmpR op_eq (pv 2) pe_int (nomark _)) (pss_one (ps_ret (pe_call T.okPick (hr.mono (by omega)) rfl T.pick.m T.pick.F.kp T.pick.b .nil pass0 (pa_cons (pv 0) (pa_cons (pe_lst (pa_cons pe_int (pa_cons pe_int (pa_cons (pe_op op_sub pe_int pe_int) (pa_cons (pe_op op_pow pe_int pe_int) pa_nil))))) pa_nil))))) pss_nil)
(pss_cons (ps_if (pt_cmpR op_eq (pv 2) pe_int (nomark _)) (pss_one (ps_ret (pe_call T.okPick (hr.mono (by omega)) rfl T.pick.m T.pick.F.kp T.pick.b .nil pass0 (pa_cons (pv 0) (pa_cons (pe_lst (pa_cons pe_non (pa_cons pe_bl (pa_cons pe_bl pa_nil)))) pa_nil))))) pss_nil)
(pss_cons (ps_if (pt_cmpR op_lt (pv 2) pe_int (nomark _)) (pss_one (ps_ret (pe_call T.okPick (hr.mono (by omega)) rfl T.pick.m T.pick.F.kp T.pick.b .nil pass0 (pa_cons (pv 0) (pa_cons (pe_lst (pa_cons pe_str (pa_cons pe_str (pa_cons pe_str (pa_cons pe_str (pa_cons pe_str (pa_cons pe_str (pa_cons pe_str (pa_cons pe_str pa_nil))))))))) pa_nil))))) pss_nil)
pss_never)))), ?_⟩
      refine ⟨_, rfl, _, rfl, _, _, rfl, rfl, _, rfl, iteF ?_⟩
      refine ⟨d, g, 4, rfl, hD, by decide, by decide, fun r H1 r0 r1 hD1 s1 m1 => ?_⟩
      try dsimp only [List.set]
      refine ⟨_, rfl, rfl, _, rfl, ?_⟩
      by_cases c0 : r = 0
      · refine iteTD (decide_eq_true (by rw [c0])) ?_
        refine ⟨_, rfl, _, _, rfl, rfl, _, _, rfl, rfl, ⟨by decide, by decide, by decide⟩, ?_⟩
        exact pick_leaf (n := 0) (xs := [.int 0, .int 1, .int (-7), .int 100000000000000000000]) (by decide) (by decide) (by decide) hD1 s1 q
      refine iteFD (decide_eq_false fun z => c0 (V.int.inj z)) ?_
      refine ⟨_, rfl, rfl, _, rfl, ?_⟩
      by_cases c1 : r = 1
      · refine iteTD (decide_eq_true (by rw [c1])) ?_
        refine ⟨_, rfl, ?_⟩
        exact pick_leaf (n := 0) (xs := [.non, .bl true, .bl false]) (by decide) (by decide) (by decide) hD1 s1 q
      refine iteFD (decide_eq_false fun z => c1 (V.int.inj z)) ?_
      refine ⟨_, rfl, _, _, rfl, rfl, _, rfl, ?_⟩
      refine iteTD (decide_eq_true (by omega)) ?_
      refine ⟨_, rfl, ?_⟩
      exact pick_leaf (n := 0) (xs := [.str "", .str "on", .str "any", .str "x", .str "note", .str "open x", .str "c", .str "x y"]) (by decide) (by decide) (by decide) hD1 s1 q
  | succ n ih =>
    refine T.val.F.ok scValue (fun vs H Q E h => ?_) (fun cdv A outer s H vs Q E hr h => ?_)
    · obtain ⟨d, g, k, rfl, _⟩ := h
      rfl
    · obtain ⟨d, g, k, rfl, k0, k1, hD, q⟩ := h
      refine ⟨_, (pss_cons (ps_set (i := 2) scValue.nd rfl (Or.inl rfl) (pe_call T.okDraw (hr.mono (by omega)) rfl T.draw.m T.draw.F.kp T.draw.b .nil pass0 (pa_cons (pv 0) (pa_cons (pe_ifExp (pt_cmpR op_gt (pv 1) pe_int (nomark _)) pe_int pe_int) pa_nil))))
(pss_cons (ps_if (pt_cmpR op_eq (pv 2) pe_int (nomark _)) (pss_one (ps_ret (pe_call T.okPick (hr.mono (by omega)) rfl T.pick.m T.pick.F.kp T.pick.b .nil pass0 (pa_cons (pv 0) (pa_cons (pe_lst (pa_cons pe_int (pa_cons pe_int (pa_cons (pe_op op_sub pe_int pe_int) (pa_cons (pe_op op_pow pe_int pe_int) pa_nil))))) pa_nil))))) pss_nil)
(pss_cons (ps_if (pt_cmpR op_eq (pv 2) pe_int (nomark _)) (pss_one (ps_ret (pe_call T.okPick (hr.mono (by omega)) rfl T.pick.m T.pick.F.kp T.pick.b .nil pass0 (pa_cons (pv 0) (pa_cons (pe_lst (pa_cons pe_non (pa_cons pe_bl (pa_cons pe_bl pa_nil)))) pa_nil))))) pss_nil)
(pss_cons (ps_if (pt_cmpR op_lt (pv 2) pe_int (nomark _)) (pss_one (ps_ret (pe_call T.okPick (hr.mono (by omega)) rfl T.pick.m T.pick.F.kp T.pick.b .nil pass0 (pa_cons (pv 0) (pa_cons (pe_lst (pa_cons pe_str (pa_cons pe_str (pa_cons pe_str (pa_cons pe_str (pa_cons pe_str (pa_cons pe_str (pa_cons pe_str (pa_cons pe_str pa_nil))))))))) pa_nil))))) pss_nil)
(pss_cons (ps_setLc (i := 3) (own := [("_law_k", 4)]) (g := gName 4) (tt := tYes) (by rfl) scValue.nd rfl rfl (sw_true rfl rfl rfl (by decide +kernel)) (pi_range1 (by rfl) T.mR (pa_cons (pe_call T.okDraw (hr.mono (by omega)) rfl T.draw.m T.draw.F.kp T.draw.b .nil pass0 (pa_cons (pv 0) (pa_cons pe_int pa_nil))) pa_nil))
 (blkOk_by (N := ["_law_deal_here", "_law_deep", "_law_form", "_law_some", "_law_k"]) (sc := defScope sValue) (by decide +kernel)) (fun _ _ _ _ _ => (pg_name (i := 4) scValue.nd rfl (Or.inl rfl))) (fun _ _ _ _ _ => pts_nil) (fun _ _ _ _ _ => (pe_call ih hr rfl T.val.m T.val.F.kp T.val.b .nil pass0 (pa_cons (pv 0) (pa_cons (pe_op op_sub (pv 1) pe_int) pa_nil)))))
(pss_one (ps_ret (pe_ifExp (pt_cmpR op_eq (pv 2) pe_int (nomark _)) (pv 3) (pe_callTy (show CallR _ (.type "tuple") (rTupO K) from call_tupO) (by rfl) T.mTup (by decide +kernel) (pa_cons (pv 3) pa_nil)))))))))), ?_⟩
      refine ⟨_, rfl, _, rfl, _, _, rfl, rfl, _, rfl, ?_⟩
      refine ite2 (fun hc => ?_) (fun hc => ?_)
      · have hk : 0 < k := of_decide_eq_true hc
        refine ⟨d, g, 7, rfl, hD, by decide, by decide, fun r H1 r0 r1 hD1 s1 m1 => ?_⟩
        try dsimp only [List.set]
        refine ⟨_, rfl, rfl, _, rfl, ?_⟩
        by_cases c0 : r = 0
        · refine iteTD (decide_eq_true (by rw [c0])) ?_
          refine ⟨_, rfl, _, _, rfl, rfl, _, _, rfl, rfl, ⟨by decide, by decide, by decide⟩, ?_⟩
          exact pick_leaf (n := (n + 1)) (xs := [.int 0, .int 1, .int (-7), .int 100000000000000000000]) (by decide) (by decide) (by decide) hD1 s1 q
        refine iteFD (decide_eq_false fun z => c0 (V.int.inj z)) ?_
        refine ⟨_, rfl, rfl, _, rfl, ?_⟩
        by_cases c1 : r = 1
        · refine iteTD (decide_eq_true (by rw [c1])) ?_
          refine ⟨_, rfl, ?_⟩
          exact pick_leaf (n := (n + 1)) (xs := [.non, .bl true, .bl false]) (by decide) (by decide) (by decide) hD1 s1 q
        refine iteFD (decide_eq_false fun z => c1 (V.int.inj z)) ?_
        refine ⟨_, rfl, _, _, rfl, rfl, _, rfl, ?_⟩
        by_cases c4 : r < 4
        · refine iteTD (decide_eq_true c4) ?_
          refine ⟨_, rfl, ?_⟩
          exact pick_leaf (n := (n + 1)) (xs := [.str "", .str "on", .str "any", .str "x", .str "note", .str "open x", .str "c", .str "x y"]) (by decide) (by decide) (by decide) hD1 s1 q
        refine iteFD (decide_eq_false c4) ?_
        refine ⟨_, rfl, d, g, 4, rfl, hD1, by decide, by decide, fun m H2 m0 m1 hD2 s2 mm2 => ?_⟩
        have s12 := s1.trans s2
        refine ⟨_, rfl, by omega, by omega, fun D hD0 => lc_range (lo := 0) (n := m.toNat) (fun i Hi => MadeV K d g D (upd H2 D (.lst [])) n i Hi) ?_ (fun i Hi hi hM => ?_) (fun Hi hM => ?_)⟩
        · exact ⟨Same.refl _, hD2.new hD0, [], [], upd_same, rfl, rfl, .nil, fun _ z => absurd z List.not_mem_nil⟩
        · have nD := hD2.nd hD0
          refine ⟨rfl, _, rfl, _, rfl, _, _, rfl, rfl, d, g, k - 1, rfl, by omega, by omega, hM.2.1, fun v e H' hD' s' hv he => ?_⟩
          obtain ⟨acc, e1, e2, e3⟩ := madeV_turn (hD2.new hD0) upd_same nD.1 nD.2 hM hD' s' hv he
          exact ⟨acc, e1, small1000 (by omega), e3⟩
        · have nD := hD2.nd hD0
          obtain ⟨sm, hDi, acc, ds, e, l1, l2, hA, hT⟩ := hM
          have sH : Same (hh H d g) (hh Hi d g) := ((s12.trans (hhL_first hD0)).trans sm).trans hhL_hh
          have mo : Mo H H2 := mo_of hD2 s12
          have hA2 : DpAll K (dif H Hi) acc ds := dpAll_same (dif_mo (mo.trans Mo.upd)) _ _ hA
          have hDH : H D = none := mo D hD0
          refine ⟨_, rfl, rfl, _, rfl, ?_⟩
          by_cases c5 : r = 4
          · refine iteTD (decide_eq_true (by rw [c5])) ?_
            exact ⟨_, rfl, q _ (.list ds) _ hDi sH (.lst (SqL.of (dif_new hDH e)) hA2) (.inr ⟨ds, by omega, hT, .inl rfl⟩)⟩
          · refine iteFD (decide_eq_false fun z => c5 (V.int.inj z)) ?_
            refine ⟨_, rfl, D, acc, rfl, .inl ⟨SqL.of e, fun t ht => ?_⟩⟩
            have hto : H t = none := mo_of hDi sH t ht
            have hA3 : DpAll K (dif H (upd Hi t (.tup acc))) acc ds := dpAll_same (fun a u z => dif_new (dif_eq.mp z).1 (Same.new ht a u (dif_eq.mp z).2)) _ _ hA2
            exact q _ (.tuple ds) _ (hDi.new ht) (sH.trans (hh_new ht)) (.tup (SqT.of (dif_new hto upd_same)) hA3) (.inr ⟨ds, by omega, hT, .inr rfl⟩)
      · refine ⟨d, g, 4, rfl, hD, by decide, by decide, fun r H1 r0 r1 hD1 s1 m1 => ?_⟩
        try dsimp only [List.set]
        refine ⟨_, rfl, rfl, _, rfl, ?_⟩
        by_cases c0 : r = 0
        · refine iteTD (decide_eq_true (by rw [c0])) ?_
          refine ⟨_, rfl, _, _, rfl, rfl, _, _, rfl, rfl, ⟨by decide, by decide, by decide⟩, ?_⟩
          exact pick_leaf (n := (n + 1)) (xs := [.int 0, .int 1, .int (-7), .int 100000000000000000000]) (by decide) (by decide) (by decide) hD1 s1 q
        refine iteFD (decide_eq_false fun z => c0 (V.int.inj z)) ?_
        refine ⟨_, rfl, rfl, _, rfl, ?_⟩
        by_cases c1 : r = 1
        · refine iteTD (decide_eq_true (by rw [c1])) ?_
          refine ⟨_, rfl, ?_⟩
          exact pick_leaf (n := (n + 1)) (xs := [.non, .bl true, .bl false]) (by decide) (by decide) (by decide) hD1 s1 q
        refine iteFD (decide_eq_false fun z => c1 (V.int.inj z)) ?_
        refine ⟨_, rfl, _, _, rfl, rfl, _, rfl, ?_⟩
        refine iteTD (decide_eq_true (by omega)) ?_
        refine ⟨_, rfl, ?_⟩
        exact pick_leaf (n := (n + 1)) (xs := [.str "", .str "on", .str "any", .str "x", .str "note", .str "open x", .str "c", .str "x y"]) (by decide) (by decide) (by decide) hD1 s1 q
end
end Pn

namespace Pn
open PySem PySem.Spec PyProof.Rows L2 TL
abbrev sILInit : Stmt := inClass (top 9) 0
/-! ### triples among any values; Leaves.__init__: what is made, what is refused -/
def tupTz : PyData → Bool
  | .tuple _ => true
  | _ => false
theorem kit_tupz : ∀ d : PyData, kitB (tyD d) "tuple" = some (tupTz d)
  | .none => (by decide +kernel : kitB "NoneType" "tuple" = some false)
  | .bool _ => (by decide +kernel : kitB "bool" "tuple" = some false)
  | .int _ => (by decide +kernel : kitB "int" "tuple" = some false)
  | .str _ => (by decide +kernel : kitB "str" "tuple" = some false)
  | .list _ => (by decide +kernel : kitB "list" "tuple" = some false)
  | .tuple _ => (by decide +kernel : kitB "tuple" "tuple" = some true)
  | .dict _ => (by decide +kernel : kitB "dict" "tuple" = some false)
def wordD : PyData → Bool
  | .str z => decide (z = "on") || decide (z = "any")
  | _ => false
def triDB : PyData → Bool
  | .tuple [a, b, c] => nameD a && (nameD b && wordD c)
  | _ => false
/-- data whose texts are short -/
def dsm (d : PyData) : Prop := ∀ ds, d = .tuple ds → ∀ e ∈ ds, dlen e ∧ SeqAt.shaped e = true
theorem eqv_word (ws : List Str) : ∀ d : PyData, ((ws.map PyData.str).any fun z => PyData.eqv z d) = (match d with | .str z => decide (z ∈ ws) | _ => false) := by
  intro d
  induction ws with
  | nil => cases d <;> simp
  | cons x ws ih =>
    rw [List.map_cons, List.any_cons, ih]
    cases d with
    | str z =>
      by_cases h : x = z
      · simp [PyData.eqv, h]
      · have h' : ¬ z = x := fun y => h y.symm
        simp [PyData.eqv, h, h']
    | none => simp [PyData.eqv]
    | int _ => simp [PyData.eqv]
    | bool _ => simp [PyData.eqv]
    | list _ => simp [PyData.eqv]
    | tuple _ => simp [PyData.eqv]
    | dict _ => simp [PyData.eqv]
theorem wordD_eq (d : PyData) : (((["on", "any"] : List Str).map PyData.str).any fun z => PyData.eqv z d) = wordD d := by
  rw [eqv_word]
  cases d with
  | str z => simp [wordD]
  | _ => rfl
theorem words_shaped : SeqAt.shaped (.tuple ((["on", "any"] : List Str).map PyData.str)) = true := by decide +kernel
def rInWd (K : PySem.W.Frag) : R2 := fun x y H Q => ∃ (d : PyData) (p : Addr), y = .ref p ∧ Dp K H x d ∧ SqT K H p [.str "on", .str "any"] ∧ SeqAt.shaped d = true ∧ Q (.bl (wordD d)) H
theorem op_inWd {X : Cx} (hu : X.A.units + 65 < PySem.cLine) : OpR X (compareOp .In) (rInWd X.K) := by
  intro pins s σ H x y v u Q I rx ry h
  obtain ⟨d, p, rfl, hx, hp, sd, q⟩ := h
  obtain ⟨as1, r1⟩ := Dp.reads I d x v hx rx
  obtain ⟨bs1, r2⟩ := Dp.reads I (.tuple ((["on", "any"] : List Str).map PyData.str)) (.ref p) u (.tup hp (.cons (.str _) (.cons (.str _) .nil))) ry
  have z := SeqAt.depth_of_shaped sd
  rw [← wordD_eq] at q
  exact SeqAt.in_tuple_reads r2 r1 (SeqAt.canLay_of_shaped words_shaped) (SeqAt.canLay_of_shaped sd) (by have := Nat.min_le_right (PyData.depthAll ((["on", "any"] : List Str).map PyData.str)) d.depth; omega) ⟨.bl _, H, I, rfl, q⟩
theorem roomTq {k : Nat} {A : Around} (r : Room k A) : A.units + 65 < PySem.cLine := by have := r.un; omega
def RaiseL (C : Addr) (H : Hp) (E : XK) (n : Nat) : Prop := ∀ (e : Addr) (H' : Hp), Same H H' → H' e = some (.xd [("at", .int (n : Int))]) → E (.ref C) (some e) H'
theorem il_made {C : Addr} {H H1 : Hp} {E : XK} {n : Nat} (s : Same H H1) (h : RaiseL C H E n) {a : Addr} (ha : H1 a = none) (dx : Addr) (h1 : (upd H1 a (exo a C none)) dx = none) (h2 : dx ≠ a) :
    E (.ref C) (some dx) (upd (del (upd (upd (upd H1 a (exo a C none)) dx (exd dx [("at", .int (n : Int))])) a (exo a C (some dx))) a) dx (.xd [("at", .int (n : Int))])) :=
  h dx _ (s.trans (same_made ha (by rw [upd_ne h2] at h1; exact h1))) upd_same
section
variable {P : Program} {w : World} {K : PySem.W.Frag} {mg : Str → Option Value} {base : Heap} {R : TRowz K mg} {F : TFilz R}
abbrev TIL (K : PySem.W.Frag) (mg : Str → Option Value) := TExc K mg "InvalidLeaves" "InvalidLeaves.__init__" "at" sILInit
theorem scILInit : FnScope ["self", "at"] ["self", "at"] (defScope sILInit) := ⟨rfl, rfl, rfl, by decide +kernel, rfl, by decide +kernel, by decide +kernel⟩
theorem okILInit (T : TIL K mg) : FnOk P w K mg base CX0 1 T.fI T.fd ["self", "at"] (spXInit K "at") := by
  refine T.F.ok scILInit (fun vs H Q E h => ?_) (fun cdv A outer s H vs Q E hr h => ?_)
  · obtain ⟨a, C, v, rfl, _⟩ := h
    rfl
  · obtain ⟨a, C, v, rfl, ha, O, no, q⟩ := h
    refine ⟨_, pss_one (ps_ost (pv 0) (pv 1)), ?_⟩
    exact ⟨_, rfl, _, rfl, a, C, rfl, O, no, .inl ⟨ha, fun dx h1 h2 => q dx h1 h2⟩⟩
variable {Y : TLv F}
def spIsTriD (K : PySem.W.Frag) : Sp := fun vs H Q _ => ∃ (v : V) (d : PyData), vs = [v] ∧ Dp K H v d ∧ dsm d ∧ ∀ H', Same H H' → Q (.bl (triDB d)) H'
theorem triDB_len {ds : List PyData} (h : ds.length ≠ 3) : triDB (.tuple ds) = false := by
  match ds, h with
  | [], _ => rfl
  | [_], _ => rfl
  | [_, _], _ => rfl
  | [_, _, _], h => exact absurd rfl h
  | _ :: _ :: _ :: _ :: _, _ => rfl
theorem dpA_len {H : Hp} : ∀ {vs : List V} {ds : List PyData}, DpAll K H vs ds → vs.length = ds.length
  | _, _, .nil => rfl
  | _, _, .cons _ b => congrArg Nat.succ (dpA_len b)
theorem ok_isTriD (Y : TLv F) : FnOk P w K mg base CX0 2 Y.isTri.f Y.isTri.fd ["value"] (spIsTriD K) := by
  refine Y.isTri.F.ok scIsTri (fun vs H Q E h => ?_) (fun cdv A outer s H vs Q E hr h => ?_)
  · obtain ⟨v, d, rfl, _⟩ := h
    rfl
  · obtain ⟨v, d, rfl, hd, hs, q⟩ := h
    refine ⟨_, (pss_cons (ps_if (PW.pt (pw_or (pt_not (pt_val (pe_callB call_isi (by rfl) R.N.mIsi (by decide +kernel) (pa_cons (pv 0) (pa_cons (pe_bltn (v := .ty "tuple") (by rfl) F.mTup (by decide +kernel) rfl) pa_nil))))) (pw_or1 (pt_cmpR op_ne (pe_callB call_len_seq (by rfl) R.N.mLen PySem.boot_len (pa_cons (pv 0) pa_nil)) pe_int (nomark _))))) (pss_one (ps_ret pe_bl)) pss_nil)
(pss_one (ps_ret (pe_and (pe_call R.N.okName (hr.mono (by decide)) rfl R.N.isName.m R.N.isName.F.kp R.N.isName.b .nil pass0 (pa_cons (pe_ix ix_tup (pv 0) pe_int (fun _ _ => rfl)) pa_nil)) (pe_and (pe_call R.N.okName (hr.mono (by decide)) rfl R.N.isName.m R.N.isName.F.kp R.N.isName.b .nil pass0 (pa_cons (pe_ix ix_tup (pv 0) pe_int (fun _ _ => rfl)) pa_nil)) (pe_one (pe_cmpR (op_inWd (roomTq hr)) (pe_ix ix_tup (pv 0) pe_int (fun _ _ => rfl)) (pe_glob (v := .ref Y.lw) (by rfl) Y.mLW rfl) rfl))))))), ?_⟩
    refine ⟨_, rfl, v, _, _, _, _, rfl, .ty _, dp_ty hd, kit_ty (kit_tupz d), _, rfl, ?_⟩
    cases d with
    | tuple ds =>
      refine iteF ?_
      cases hd with
      | @tup a vs _ sq al =>
      have hl := dpA_len al
      refine ⟨_, rfl, _, _, rfl, .inr sq, rfl, _, rfl, ?_⟩
      by_cases h3 : ds.length = 3
      · refine iteFD (by rw [hl, h3]; rfl) ?_
        match ds, vs, h3, al, hl with
        | [a1, a2, a3], _, _, .cons (v := x1) d1 (.cons (v := x2) d2 (.cons (v := x3) d3 .nil)), _ =>
          obtain ⟨l1, _⟩ := hs _ rfl a1 (by simp)
          obtain ⟨l2, _⟩ := hs _ rfl a2 (by simp)
          obtain ⟨_, sh3⟩ := hs _ rfl a3 (by simp)
          refine ⟨_, rfl, a, _, 0, _, rfl, rfl, sq, rfl, x1, a1, rfl, d1, l1, fun H1 s1 _ => ⟨_, rfl, ?_⟩⟩
          have q' : Q (.bl (nameD a1 && (nameD a2 && wordD a3))) H1 := q _ s1
          cases n1 : nameD a1 with
          | false =>
            rw [n1] at q'
            exact iteF q'
          | true =>
          rw [n1, Bool.true_and] at q'
          refine iteT ?_
          refine ⟨_, rfl, a, _, 1, _, rfl, rfl, Same.sqt s1 sq, rfl, x2, a2, rfl, dp_same s1 _ _ d2, l2, fun H2 s2 _ => ⟨_, rfl, ?_⟩⟩
          have q2 : Q (.bl (nameD a2 && wordD a3)) H2 := by
            have z := q H2 (s1.trans s2)
            have e : triDB (.tuple [a1, a2, a3]) = (nameD a1 && (nameD a2 && wordD a3)) := rfl
            rw [e, n1, Bool.true_and] at z
            exact z
          cases n2 : nameD a2 with
          | false =>
            rw [n2] at q2
            exact iteF q2
          | true =>
          rw [n2, Bool.true_and] at q2
          refine iteT ?_
          exact ⟨_, rfl, a, _, 2, _, rfl, rfl, Same.sqt (s1.trans s2) sq, rfl, a3, _, rfl, dp_same (s1.trans s2) _ _ d3, Y.hLW _, sh3, q2⟩
      · rw [triDB_len h3] at q
        refine iteTD (by rw [hl, decide_eq_false fun z => h3 (by have := V.int.inj z; omega)]; rfl) ?_
        exact q _ (Same.refl _)
    | str z => exact iteT (q _ (Same.refl _))
    | none => exact iteT (q _ (Same.refl _))
    | list ds => exact iteT (q _ (Same.refl _))
    | dict ds => exact iteT (q _ (Same.refl _))
    | int i => exact iteT (q _ (Same.refl _))
    | bool i => exact iteT (q _ (Same.refl _))
/-- what is no sequence -/
def NoSqz (K : PySem.W.Frag) (H : Hp) (v : V) : Prop := ∃ t, TyX K H v t ∧ PySem.W.kitAny K t [.type "list", .type "tuple"] = some false ∧ ∀ H', Same H H' → TyX K H' v t
/-- a list or a tuple of data -/
def SeqD (K : PySem.W.Frag) (H : Hp) (v : V) (ds : List PyData) : Prop := ∃ (p : Addr) (vs : List V), v = .ref p ∧ (SqL K H p vs ∨ SqT K H p vs) ∧ DpAll K H vs ds
theorem SeqD.same {H H' : Hp} {v : V} {ds : List PyData} (h : SeqD K H v ds) (s : Same H H') : SeqD K H' v ds := by
  obtain ⟨p, vs, e, hp, hT⟩ := h
  exact ⟨p, vs, e, hp.imp s.seq (Same.sqt s), dpAll_same s _ _ hT⟩
/-- the index of the first that is no triple -/
def badAt (ds : List PyData) : Option Nat := ds.findIdx? fun d => !triDB d
theorem badAt_none {ds : List PyData} (h : badAt ds = none) : ∀ d ∈ ds, triDB d = true := fun d hd => by
  have := List.findIdx?_eq_none_iff.mp h d hd
  simpa using this
theorem badAt_some {ds : List PyData} {n : Nat} (h : badAt ds = some n) : n < ds.length ∧ (∀ d, ds[n]? = some d → triDB d = false) ∧ ∀ j d, j < n → ds[j]? = some d → triDB d = true := by
  obtain ⟨hn, h1, h2⟩ := List.findIdx?_eq_some_iff_getElem.mp h
  refine ⟨hn, fun d hd => ?_, fun j d hj hd => ?_⟩
  · rw [List.getElem?_eq_getElem hn] at hd
    cases hd
    simpa using h1
  · have hj2 : j < ds.length := by omega
    rw [List.getElem?_eq_getElem hj2] at hd
    cases hd
    simpa using h2 j hj
theorem dpA_at {H : Hp} : ∀ {vs : List V} {ds : List PyData} {i : Nat} {y : V}, DpAll K H vs ds → vs[i]? = some y → ∃ d, ds[i]? = some d ∧ Dp K H y d
  | _, _, i, _, .nil, h => by simp at h
  | _, _, 0, _, .cons a _, h => by
    simp only [List.getElem?_cons_zero, Option.some.injEq] at h
    subst h
    exact ⟨_, rfl, a⟩
  | _, _, i + 1, _, .cons _ r, h => by
    rw [List.getElem?_cons_succ] at h
    obtain ⟨d, h1, h2⟩ := dpA_at r h
    exact ⟨d, by rw [List.getElem?_cons_succ]; exact h1, h2⟩
theorem badAt_is {ds : List PyData} {i : Nat} {d : PyData} (hd : ds[i]? = some d) (hb : triDB d = false) (h : ∀ j e, j < i → ds[j]? = some e → triDB e = true) : badAt ds = some i := by
  unfold badAt
  rw [List.findIdx?_eq_some_iff_getElem]
  obtain ⟨hi, e⟩ := List.getElem?_eq_some_iff.mp hd
  refine ⟨hi, by rw [e, hb]; rfl, fun j hj => ?_⟩
  have := h j (ds[j]'(by omega)) hj (List.getElem?_eq_getElem (by omega))
  simp [this]
theorem badAt_no {ds : List PyData} (h : ∀ j e, j < ds.length → ds[j]? = some e → triDB e = true) : badAt ds = none := by
  unfold badAt
  rw [List.findIdx?_eq_none_iff]
  intro d hd
  obtain ⟨j, hj, e⟩ := List.mem_iff_getElem.mp hd
  have := h j d hj (by rw [List.getElem?_eq_getElem hj, e])
  simp [this]
def spNeedTD (K : PySem.W.Frag) (C : Addr) : Sp := fun vs H Q E => ∃ (v : V), vs = [v] ∧ ((NoSqz K H v ∧ RaiseL C H E 0) ∨ ∃ ds, SeqD K H v ds ∧ (∀ d ∈ ds, dsm d) ∧ ds.length ≤ 1000 ∧ (∀ n, badAt ds = some n → RaiseL C H E n) ∧ (badAt ds = none → ∀ H', Same H H' → Q .non H'))
theorem ok_needTD (Y : TLv F) (L : TIL K mg) : FnOk P w K mg base (L2.CX P w) 3 Y.needT.f Y.needT.fd ["items"] (spNeedTD K L.C) := by
  refine (funD Y.needT.F).ok scNeedT (fun vs H Q E h => ?_) (fun cdv A outer s H vs Q E hr h => ?_)
  · obtain ⟨v, rfl, _⟩ := h
    rfl
  · obtain ⟨v, rfl, h⟩ := h
    refine ⟨_, (pss_cons (ps_if (pt_not (pt_val (pe_call (ok_isSeq F.isSeq.F R.N.mIsi F.mList F.mTup) (hr.mono (by decide)) rfl F.isSeq.m F.isSeq.F.kp F.isSeq.b .nil pass0 (pa_cons (pv 0) pa_nil)))) (pss_one (ps_raise rfl (takes_of rfl rfl rfl rfl) (pmk_oex L.O L.iC L.tI (okILInit L) (hr.mono (by decide)) L.b .nil pass0 rfl L.m (pa_cons pe_int pa_nil)))) pss_nil)
(pss_one (ps_for (passes_of rfl) rfl (pi_enumS (pi_enum (by rfl) Y.mEn (pa_cons (pv 0) pa_nil)) (pi_enumT (by rfl) Y.mEn (pa_cons (pv 0) pa_nil))) (pg_tup (by rfl) (pgs_cons (pg_name (i := 1) scNeedT.nd rfl (Or.inl rfl)) (pgs_cons (pg_name (i := 2) scNeedT.nd rfl (Or.inl rfl)) pgs_nil)))
(pss_one (ps_if (pt_not (pt_val (pe_call (ok_isTriD Y) (hr.mono (by decide)) rfl Y.isTri.m Y.isTri.F.kp Y.isTri.b .nil pass0 (pa_cons (pv 2) pa_nil)))) (pss_one (ps_raise rfl (takes_of rfl rfl rfl rfl) (pmk_oex L.O L.iC L.tI (okILInit L) (hr.mono (by decide)) L.b .nil pass0 rfl L.m (pa_cons (pv 1) pa_nil)))) pss_nil))))), ?_⟩
    rcases h with ⟨⟨t, ty, hk, keep⟩, hz⟩ | ⟨ds, ⟨p, vs, rfl, hp, hA⟩, hsm, hlen, hbad, hok⟩
    · refine ⟨_, rfl, v, t, false, rfl, ty, hk, keep, fun H1 s1 m1 => ⟨_, rfl, iteT ?_⟩⟩
      exact ⟨(by show 1 ≤ 1000; decide), fun a ha => ⟨a, L.C, _, rfl, upd_same, L.O, L.noF, fun dx g1 g2 => ⟨rfl, dx, _, upd_same, by rw [upd_ne g2, upd_same]; rfl, by rw [upd_ne g2] at g1; exact g1, il_made (n := 0) s1 hz ha dx g1 g2⟩⟩⟩
    obtain ⟨ty, hk, hty, hty2⟩ := kind_seq hp
    refine ⟨_, rfl, .ref p, ty, true, rfl, hty, hk, hty2, fun H1 s1 _ => ⟨_, rfl, iteF ?_⟩⟩
    rcases hp with hp | hp
    · refine .inl ?_
      refine ⟨_, rfl, p, _, rfl, s1.seq hp, for_it (n := vs.length) walk_enum (fun i σ Hi => ∃ x1 x2, σ = [some (.ref p), x1, x2] ∧ Same H Hi ∧ ∀ j e, j < i → ds[j]? = some e → triDB e = true) ⟨none, none, rfl, s1, fun j e hj => absurd hj (Nat.not_lt_zero _)⟩ (fun i σ Hi _ hP => by obtain ⟨_, _, _, s, _⟩ := hP; exact s.seq hp) (fun i x σ Hi Hi' hi hP hY => ?_) (fun σ Hi hP => ?_)⟩
      · obtain ⟨x1, x2, rfl, si, all⟩ := hP
        obtain ⟨T', xx, yy, rfl, hT', rfl, e1, e2⟩ := hY
        obtain rfl : V.int (i : Nat) = xx := Option.some.inj e1
        have e2 : vs[i]? = some yy := e2
        obtain ⟨d, hd, dp⟩ := dpA_at hA e2
        refine ⟨T', _, rfl, SqT.of upd_same, rfl, _, _, rfl, _, _, rfl, rfl, ?_⟩
        have s2 := si.trans (Same.new (o := .tup [.int (i : Nat), yy]) hT')
        refine ⟨_, rfl, yy, d, rfl, dp_same s2 _ _ dp, hsm d (List.mem_of_getElem? hd), fun H2 s3 => ⟨_, rfl, ?_⟩⟩
        cases hb : triDB d with
        | true =>
          refine iteF ⟨_, _, rfl, s2.trans s3, fun j e hj he => ?_⟩
          by_cases hji : j = i
          · rw [hji, hd] at he
            cases he
            exact hb
          · exact all j e (by omega) he
        | false =>
          refine iteT ?_
          have hz := hbad i (badAt_is hd hb all)
          exact ⟨_, rfl, (by show 1 ≤ 1000; decide), fun a ha => ⟨a, L.C, _, rfl, upd_same, L.O, L.noF, fun dx g1 g2 => ⟨rfl, dx, _, upd_same, by rw [upd_ne g2, upd_same], by rw [upd_ne g2] at g1; exact g1, il_made (s2.trans s3) hz ha dx g1 g2⟩⟩⟩
      · obtain ⟨x1, x2, rfl, si, all⟩ := hP
        exact hok (badAt_no fun j e hj he => all j e (by rw [dpA_len hA]; exact hj) he) _ si
    · refine .inr ?_
      refine ⟨_, rfl, p, _, rfl, Same.sqt s1 hp, for_it (n := vs.length) walk_enumT (fun i σ Hi => ∃ x1 x2, σ = [some (.ref p), x1, x2] ∧ Same H Hi ∧ ∀ j e, j < i → ds[j]? = some e → triDB e = true) ⟨none, none, rfl, s1, fun j e hj => absurd hj (Nat.not_lt_zero _)⟩ (fun i σ Hi _ hP => by obtain ⟨_, _, _, s, _⟩ := hP; exact Same.sqt s hp) (fun i x σ Hi Hi' hi hP hY => ?_) (fun σ Hi hP => ?_)⟩
      · obtain ⟨x1, x2, rfl, si, all⟩ := hP
        obtain ⟨T', xx, yy, rfl, hT', rfl, e1, e2⟩ := hY
        obtain rfl : V.int (i : Nat) = xx := Option.some.inj e1
        have e2 : vs[i]? = some yy := e2
        obtain ⟨d, hd, dp⟩ := dpA_at hA e2
        refine ⟨T', _, rfl, SqT.of upd_same, rfl, _, _, rfl, _, _, rfl, rfl, ?_⟩
        have s2 := si.trans (Same.new (o := .tup [.int (i : Nat), yy]) hT')
        refine ⟨_, rfl, yy, d, rfl, dp_same s2 _ _ dp, hsm d (List.mem_of_getElem? hd), fun H2 s3 => ⟨_, rfl, ?_⟩⟩
        cases hb : triDB d with
        | true =>
          refine iteF ⟨_, _, rfl, s2.trans s3, fun j e hj he => ?_⟩
          by_cases hji : j = i
          · rw [hji, hd] at he
            cases he
            exact hb
          · exact all j e (by omega) he
        | false =>
          refine iteT ?_
          have hz := hbad i (badAt_is hd hb all)
          exact ⟨_, rfl, (by show 1 ≤ 1000; decide), fun a ha => ⟨a, L.C, _, rfl, upd_same, L.O, L.noF, fun dx g1 g2 => ⟨rfl, dx, _, upd_same, by rw [upd_ne g2, upd_same], by rw [upd_ne g2] at g1; exact g1, il_made (s2.trans s3) hz ha dx g1 g2⟩⟩⟩
      · obtain ⟨x1, x2, rfl, si, all⟩ := hP
        exact hok (badAt_no fun j e hj he => all j e (by rw [dpA_len hA]; exact hj) he) _ si
theorem nameD_str {d : PyData} (h : nameD d = true) : ∃ z, d = .str z ∧ nameS z = true := by
  cases d with
  | str z => exact ⟨z, rfl, h⟩
  | _ => cases h
theorem wordD_str {d : PyData} (h : wordD d = true) : ∃ z, d = .str z ∧ (decide (z = "on") || decide (z = "any")) = true := by
  cases d with
  | str z => exact ⟨z, rfl, h⟩
  | _ => cases h
theorem triDB_inv {d : PyData} (h : triDB d = true) : ∃ t : Tri, d = .tuple [.str t.1, .str t.2.1, .str t.2.2] ∧ triB t = true := by
  cases d with
  | tuple ds =>
    by_cases hl3 : ds.length = 3
    · obtain ⟨a, b, c, rfl⟩ : ∃ a b c, ds = [a, b, c] := by
        match ds, hl3 with
        | [a, b, c], _ => exact ⟨a, b, c, rfl⟩
      have h : (nameD a && (nameD b && wordD c)) = true := h
      rw [Bool.and_eq_true, Bool.and_eq_true] at h
      obtain ⟨h1, h2, h3⟩ := h
      obtain ⟨x, rfl, e1⟩ := nameD_str h1
      obtain ⟨y, rfl, e2⟩ := nameD_str h2
      obtain ⟨z, rfl, e3⟩ := wordD_str h3
      refine ⟨(x, y, z), rfl, ?_⟩
      show (nameS x && (nameS y && (decide (z = "on") || decide (z = "any")))) = true
      rw [e1, e2, e3]
      rfl
    · rw [triDB_len hl3] at h
      cases h
  | _ => cases h
theorem dp_str {H : Hp} {v : V} {z : Str} (h : Dp K H v (.str z)) : v = .str z := by
  cases h
  rfl
theorem tri_of_dp {H : Hp} {v : V} {x y z : Str} (h : Dp K H v (.tuple [.str x, .str y, .str z])) : ∃ p, v = .ref p ∧ SqT K H p [.str x, .str y, .str z] := by
  cases h with
  | @tup p us _ sq al =>
    refine ⟨p, rfl, ?_⟩
    cases al with
    | cons a1 r1 =>
      cases r1 with
      | cons a2 r2 =>
        cases r2 with
        | cons a3 r3 =>
          cases r3
          rw [dp_str a1, dp_str a2, dp_str a3] at sq
          exact sq
theorem tris_of {H : Hp} : ∀ {vs : List V} {ds : List PyData}, DpAll K H vs ds → (∀ d ∈ ds, triDB d = true) → ∃ (as : List Addr) (ts : List Tri), vs = as.map V.ref ∧ TrisIn K H as ts ∧ (∀ t ∈ ts, triB t = true) ∧ ts.length = ds.length
  | _, _, .nil, _ => ⟨[], [], rfl, .nil, (fun t ht => nomatch ht), rfl⟩
  | _, _, .cons a r, h => by
    obtain ⟨as, ts, rfl, h2, h3, h4⟩ := tris_of r fun d hd => h d (List.mem_cons_of_mem _ hd)
    obtain ⟨t, rfl, ht⟩ := triDB_inv (h _ List.mem_cons_self)
    obtain ⟨p, rfl, sq⟩ := tri_of_dp a
    refine ⟨p :: as, t :: ts, rfl, .cons sq h2, fun u hu => ?_, by rw [List.length_cons, h4]; rfl⟩
    rcases List.mem_cons.mp hu with rfl | hu
    · exact ht
    · exact h3 u hu
def spLInitD (K : PySem.W.Frag) (C CL : Addr) : Sp := fun vs H Q E => ∃ (x dx : Addr) (v : V), vs = [.ref x, v] ∧ H x = some (.ins C dx []) ∧
  ((NoSqz K (hid H x) v ∧ RaiseL CL H E 0) ∨ ∃ ds, SeqD K (hid H x) v ds ∧ (∀ d ∈ ds, dsm d) ∧ ds.length ≤ 30 ∧ (∀ n, badAt ds = some n → RaiseL CL H E n) ∧ (badAt ds = none → ∀ H', KpI x H H' → Q .non H'))
theorem ok_lInitD (Y : TLv F) (L : TIL K mg) : FnOk P w K mg base (L2.CX P w) 4 Y.fI Y.fdI ["self", "items"] (spLInitD K Y.C L.C) := by
  refine Y.FI.ok scLInit (fun vs H Q E h => ?_) (fun cdv A outer s H vs Q E hr h => ?_)
  · obtain ⟨x, dx, v, rfl, _⟩ := h
    rfl
  · obtain ⟨x, dx, v, rfl, hx, h⟩ := h
    refine ⟨_, (pss_cons (ps_expr (pe_call (ok_needTD Y L) (hr.mono (by decide)) rfl Y.needT.m Y.needT.F.kp Y.needT.b .nil (passes_call (takes_of rfl rfl rfl rfl) fun _ _ _ _ h => h) (pa_cons (pv 1) pa_nil)))
(pss_one (ps_fld (pv 0) (pe_call (ok_rights Y) (hr.mono (by decide)) rfl Y.rights.m Y.rights.F.kp Y.rights.b .nil pass0 (pa_cons (pv 1) pa_nil)) rfl))), ?_⟩
    rcases h with ⟨⟨t, ty, hk, keep⟩, hz⟩ | ⟨ds, hS, hsm, hlen, hbad, hok⟩
    · refine ⟨_, rfl, v, rfl, .inl ⟨⟨t, keep _ hid_sub, hk, fun H' s' => keep _ (hid_sub.trans s')⟩, hz⟩⟩
    have hS1 : SeqD K H v ds := hS.same hid_sub
    refine ⟨_, rfl, v, rfl, .inr ⟨ds, hS1, hsm, by omega, hbad, fun hno H1 s1 => ?_⟩⟩
    obtain ⟨p, vs, rfl, hp, hA⟩ := hS1
    obtain ⟨as, ts, rfl, hT, hB, hl⟩ := tris_of hA (badAt_none hno)
    refine ⟨_, rfl, .ref p, ts, rfl, ⟨p, as, rfl, hp.imp s1.seq (Same.sqt s1), hT.same s1⟩, FewT.of (by omega), fun q bs H2 s2 hq hBs => ?_⟩
    have hx2 := s2 _ _ (s1 _ _ hx)
    refine ⟨_, rfl, x, Y.C, dx, _, rfl, hx2, Y.cl, Y.noR, (by show 0 < 1000; decide), ?_⟩
    exact hok hno _ (fun b o e n => by rw [upd_ne n]; exact s2 _ _ (s1 _ _ e))
end
end Pn

namespace Pn
open PySem PySem.Spec PyProof.Rows L2 TL
abbrev sItems : Stmt := top 22
/-! ### drawn triples, their table -/
def poolN : List Str := ["x", "y", "zzzz", "on", "c"]
def poolC : List Str := ["c", "f", "any", "x", "abcd"]
def goodK (k : KP) : Prop := k.1 ∈ poolN ∧ k.2 ∈ poolC
def keyOf (t : Tri) : KP := (t.1, t.2.1)
def goodW (t : Tri) : Prop := t.2.2 = "on" ∨ t.2.2 = "any"
def goodT (t : Tri) : Prop := goodK (keyOf t) ∧ goodW t
theorem pool_names : (∀ n ∈ poolN, nameS n = true) ∧ ∀ c ∈ poolC, nameS c = true := by decide +kernel
theorem goodT_B {t : Tri} (h : goodT t) : triB t = true := by
  obtain ⟨⟨h1, h2⟩, h3⟩ := h
  have h1 := pool_names.1 _ h1
  have h2 := pool_names.2 _ h2
  obtain ⟨a, b, c⟩ := t
  have h1 : nameS a = true := h1
  have h2 : nameS b = true := h2
  have h3 : c = "on" ∨ c = "any" := h3
  show (nameS a && (nameS b && (decide (c = "on") || decide (c = "any")))) = true
  rw [h1, h2]
  rcases h3 with rfl | rfl <;> decide +kernel
structure TDealP (K : PySem.W.Frag) (mg : Str → Option Value) : Type where
  mI : mg "int" = none
  mA : mg "abs" = none
  mL : mg "len" = none
  mR : mg "range" = none
  deal : At K mg "_law_deal" sDeal ["_law_script", "_law_base"]
  draw : At K mg "_law_draw" sDraw ["_law_deal_here", "_law_many"]
  pick : At K mg "_law_pick" sPick ["_law_deal_here", "_law_some"]
structure TItm (K : PySem.W.Frag) (mg : Str → Option Value) : Type extends TDealP K mg where
  items : At K mg "_law_items" sItems ["_law_deal_here", "_law_many"]
section
variable {P : Program} {w : World} {K : PySem.W.Frag} {mg : Str → Option Value} {base : Heap}
theorem TDealP.okDraw (T : TDealP K mg) : FnOk P w K mg base CX0 1 T.draw.f T.draw.fd ["_law_deal_here", "_law_many"] spDraw := ok_draw T.draw.F T.mI T.mL
theorem TDealP.okDeal (T : TDealP K mg) : FnOk P w K mg base CX0 1 T.deal.f T.deal.fd ["_law_script", "_law_base"] (spDeal K) := ok_deal T.deal.F T.mI T.mA
theorem TDealP.okPick (T : TDealP K mg) : FnOk P w K mg base CX0 2 T.pick.f T.pick.fd ["_law_deal_here", "_law_some"] (spPick K) := ok_pick T.pick.F T.mL T.draw T.mI
theorem DealAt.ndL {H : Hp} {d g p : Addr} (h : DealAt H d g) {ss : List Str} (e : H p = some (.lst (ss.map V.str))) (h0 : 0 < ss.length) : p ≠ d ∧ p ≠ g := by
  obtain ⟨_, xs, n, m, t, e1, e2, _⟩ := h
  refine ⟨fun z => ?_, fun z => ?_⟩
  · rw [z, e1] at e
    cases e
  · rw [z, e2] at e
    cases ss with
    | nil => simp at h0
    | cons a l => cases xs <;> cases e
def spItems (K : PySem.W.Frag) : Sp := fun vs H Q _ => ∃ (d g : Addr) (m : Nat), vs = [.ref d, .int (m : Int)] ∧ DealAt H d g ∧ m ≤ 30 ∧
  ∀ (l : Addr) (as : List Addr) (ts : List Tri) (H' : Hp), DealAt H' d g → Same (hh H d g) (hh H' d g) → Mo H H' → hh H' d g l = some (.lst (as.map V.ref)) → TrisIn K (hh H' d g) as ts → ts.length ≤ m → (∀ t ∈ ts, goodT t) → Q (.ref l) H'
theorem scItems : FnScope ["_law_deal_here", "_law_many", "_law_found", "_law_turn", "_law_names", "_law_counters"] ["_law_deal_here", "_law_many"] (defScope sItems) := ⟨rfl, rfl, rfl, by decide +kernel, rfl, by decide +kernel, by decide +kernel⟩
theorem TItm.okItems (T : TItm K mg) : FnOk P w K mg base CX0 3 T.items.f T.items.fd ["_law_deal_here", "_law_many"] (spItems K) := by
  refine T.items.F.ok scItems (fun vs H Q E h => ?_) (fun cdv A outer s H vs Q E hr h => ?_)
  · obtain ⟨d, g, m, rfl, _⟩ := h
    rfl
  · obtain ⟨d, g, m, rfl, hD, hm, q⟩ := h
    refine ⟨_, (pss_cons (ps_par (i := 4) (j := 5) (by rfl) scItems.nd rfl rfl (by decide) rfl rfl (pa_cons (pe_lst (pa_cons pe_str (pa_cons pe_str (pa_cons pe_str (pa_cons pe_str (pa_cons pe_str pa_nil)))))) (pa_cons (pe_lst (pa_cons pe_str (pa_cons pe_str (pa_cons pe_str (pa_cons pe_str (pa_cons pe_str pa_nil)))))) pa_nil)) (by rfl))
(pss_cons (ps_set (i := 2) scItems.nd rfl (Or.inl rfl) (pe_lst pa_nil))
(pss_cons (ps_for PassesOwn.never rfl (pi_range1 (by rfl) T.mR (pa_cons (pe_call T.okDraw (hr.mono (by decide)) rfl T.draw.m T.draw.F.kp T.draw.b .nil pass0 (pa_cons (pv 0) (pa_cons (pe_op op_add (pv 1) pe_int) pa_nil))) pa_nil)) (pg_name (i := 3) scItems.nd rfl (Or.inl rfl))
(pss_one (ps_expr (pe_bm PySem.F.plainAttrs_list PySem.F.slot_list_append PySem.F.type_list_append mt_append (pv 2) (pa_cons (pe_tup (pa_cons (pe_call T.okPick (hr.mono (by decide)) rfl T.pick.m T.pick.F.kp T.pick.b .nil pass0 (pa_cons (pv 0) (pa_cons (pv 4) pa_nil))) (pa_cons (pe_call T.okPick (hr.mono (by decide)) rfl T.pick.m T.pick.F.kp T.pick.b .nil pass0 (pa_cons (pv 0) (pa_cons (pv 5) pa_nil))) (pa_cons (pe_call T.okPick (hr.mono (by decide)) rfl T.pick.m T.pick.F.kp T.pick.b .nil pass0 (pa_cons (pv 0) (pa_cons (pe_lst (pa_cons pe_str (pa_cons pe_str (pa_cons pe_str pa_nil)))) pa_nil))) pa_nil)))) pa_nil)))))
(pss_one (ps_ret (pv 2)))))), ?_⟩
    have five : 5 ≤ sizeLine := by decide
    have three : 3 ≤ sizeLine := by decide
    have big : (1000 : Nat) ≤ sizeLine := by decide
    refine stepPar (fun v v2 H' => ∃ A B, v = .ref A ∧ v2 = .ref B ∧ DealAt H' d g ∧ Same (hh H d g) (hh H' d g) ∧ Mo H H' ∧ H' A = some (.lst (poolN.map V.str)) ∧ H' B = some (.lst (poolC.map V.str))) (fun Q' hQ => ?p1) (fun v v2 H1 hC => ?p2)
    case p1 =>
      refine ⟨five, fun A hA => ⟨five, fun B hB => hQ _ _ _ ⟨A, B, rfl, rfl, (hD.new hA).new hB, (hh_new hA).trans (hh_new hB), Mo.upd.trans Mo.upd, Same.new hB _ _ upd_same, upd_same⟩⟩⟩
    case p2 =>
    obtain ⟨A, B, rfl, rfl, hD1, s1, m1, eA, eB⟩ := hC
    try dsimp only [List.set]
    refine ⟨Nat.zero_le _, fun L hL => ?_⟩
    have nL := hD1.nd hL
    have nAL := ne_of_none eA hL
    have nBL := ne_of_none eB hL
    have nA := hD1.ndL eA (by decide)
    have nB := hD1.ndL eB (by decide)
    have hD3 := hD1.new (o := .lst []) hL
    have s3 : Same (hh H d g) (hhL (upd H1 L (.lst [])) d g L) := s1.trans (hhL_first hL)
    have e3 : upd H1 L (.lst []) L = some (.lst []) := upd_same
    have m3 : Mo H (upd H1 L (.lst [])) := m1.trans Mo.upd
    have eA3 : hhL (upd H1 L (.lst [])) d g L A = some (.lst (poolN.map V.str)) := hhL_get (Same.new hL _ _ eA) nAL nA.1 nA.2
    have eB3 : hhL (upd H1 L (.lst [])) d g L B = some (.lst (poolC.map V.str)) := hhL_get (Same.new hL _ _ eB) nBL nB.1 nB.2
    generalize upd H1 L (.lst []) = H3 at hD3 s3 e3 m3 eA3 eB3 ⊢
    try dsimp only [List.set]
    refine ⟨_, rfl, _, rfl, _, _, rfl, rfl, d, g, (m : Int) + 1, rfl, hD3, by omega, by omega, fun r H4 r0 r1 hD4 s4 m4 => ?_⟩
    obtain ⟨n, rfl⟩ : ∃ n : Nat, r = (n : Int) := ⟨r.toNat, by omega⟩
    have hn : n ≤ m := by omega
    have e4 : H4 L = some (.lst []) := hh_sub _ _ (s4 _ _ (hh_get e3 nL.1 nL.2))
    refine ⟨(n : Int), rfl, by omega, by omega, for_range (lo := 0) (n := (n : Int).toNat) (fun i σ Hx => ∃ (y3 : Option V) (as : List Addr) (ts : List Tri), σ = [some (.ref d), some (.int (m : Int)), some (.ref L), y3, some (.ref A), some (.ref B)] ∧ DealAt Hx d g ∧ Mo H Hx ∧ Same (hhL H3 d g L) (hhL Hx d g L) ∧ Hx L = some (.lst (as.map V.ref)) ∧ TrisIn K (hhL Hx d g L) as ts ∧ ts.length = i ∧ ∀ t ∈ ts, goodT t)
      ⟨_, [], [], rfl, hD4, m3.trans m4, hhL_same s4, e4, .nil, rfl, (fun t ht => nomatch ht)⟩ (fun i σ Hx hi hP => ?turn) (fun σ Hx hP => ?fin)⟩
    case fin =>
      obtain ⟨y3, as, ts, rfl, hDx, mx, sx, eL, hT, hl, hg⟩ := hP
      exact ⟨_, rfl, q L as ts Hx hDx ((s3.trans sx).trans hhL_hh) mx (hh_get eL nL.1 nL.2) (hT.same hhL_hh) (by omega) hg⟩
    case turn =>
      obtain ⟨y3, as, ts, rfl, hDx, mx, sx, eL, hT, hl, hg⟩ := hP
      have hal := paired_len hT
      try dsimp only [List.set]
      have eAx := hhL_hh _ _ (sx _ _ eA3)
      refine ⟨_, rfl, .inl ⟨rfl, _, SqL.of eL⟩, ?_⟩
      refine ⟨_, rfl, _, rfl, d, g, A, _, rfl, hDx, SqL.of eAx, by decide, by decide, fun v1 Ha hv1 hDa sa ma => ?_⟩
      have sxa := sx.trans (hhL_same sa)
      have eBa := hhL_hh _ _ (sxa _ _ eB3)
      refine ⟨_, rfl, _, rfl, d, g, B, _, rfl, hDa, SqL.of eBa, by decide, by decide, fun v2 Hb hv2 hDb sb mb => ?_⟩
      refine ⟨_, rfl, three, fun W hW => ?_⟩
      have hDw := hDb.new (o := .lst [.str "on", .str "on", .str "any"]) hW
      refine ⟨d, g, W, [.str "on", .str "on", .str "any"], rfl, hDw, SqL.of (hh_at hDb hW), by decide, by decide, fun v3 Hc hv3 hDc sc mc => ?_⟩
      obtain ⟨z1, hz1, rfl⟩ := List.mem_map.mp hv1
      obtain ⟨z2, hz2, rfl⟩ := List.mem_map.mp hv2
      obtain ⟨z3, hz3, rfl⟩ : ∃ z : Str, (z = "on" ∨ z = "any") ∧ v3 = .str z := by
        simp only [List.mem_cons, List.not_mem_nil, or_false] at hv3
        rcases hv3 with rfl | rfl | rfl
        · exact ⟨_, .inl rfl, rfl⟩
        · exact ⟨_, .inl rfl, rfl⟩
        · exact ⟨_, .inr rfl, rfl⟩
      refine ⟨three, fun t ht => ?_⟩
      have sab : Same (hh Hx d g) (hh Hc d g) := ((sa.trans sb).trans (hh_new hW)).trans sc
      have eLc : Hc L = some (.lst (as.map V.ref)) := hh_sub _ _ (sab _ _ (hh_get eL nL.1 nL.2))
      have ntL : t ≠ L := fun e => by rw [e, eLc] at ht; cases ht
      refine ⟨L, _, _, rfl, rfl, by rw [upd_ne ntL.symm]; exact eLc, by rw [List.length_map]; omega, ?_⟩
      have s5 : Same (hhL Hx d g L) (hhL (upd (upd Hc t (.tup [.str z1, .str z2, .str z3])) L (.lst (as.map V.ref ++ [V.ref t]))) d g L) := ((hhL_same sab).trans (hhL_same (hh_new ht))).trans hhL_put
      refine ⟨_, as ++ [t], ts ++ [(z1, z2, z3)], rfl, (hDc.new ht).upd nL.1 nL.2, ((((mx.trans ma).trans mb).trans Mo.upd).trans mc).trans (Mo.upd.trans Mo.upd), sx.trans s5, by rw [upd_same, List.map_append]; rfl, ?_, by rw [List.length_append, hl]; rfl, fun u hu => ?_⟩
      · refine paired_snoc ?_ (hT.same s5)
        exact SqT.of (hhL_get (by rw [upd_ne ntL]; exact upd_same) ntL (hDc.nd ht).1 (hDc.nd ht).2)
      · rcases List.mem_append.mp hu with hu | hu
        · exact hg u hu
        · rw [List.mem_singleton.mp hu]
          exact ⟨⟨hz1, hz2⟩, hz3⟩
end
end Pn

namespace Pn
open PySem PySem.Spec PyProof.Rows L2
/-! ### a new instance, where what its making raises is wished for at the slots -/
section
variable {X : Cx} {CX : CXT} {k : Nat} {f C : Addr} {fd : FuncData} {ps : List Str} {sp : Sp} {dvs : List V} {ds : List Value} {E : L2.St → XK} {x : Str} {p pos : Pos} {e : Expr} {es : List Expr} {t : TA}
def tMakeS (C : Addr) (sp : Sp) (dvs : List V) (E : L2.St → XK) (t : TA) : TE := fun σ H Q => t σ H fun vs H1 => ∀ x dx, H1 x = none → H1 dx = none → dx ≠ x →
  sp (.ref x :: (vs ++ dvs)) (upd (upd H1 dx (.own x)) x (.ins C dx [])) (fun v H2 => v = .non ∧ Q (.ref x) H2) (E σ)
theorem run_makeS {pins : List (Addr × Obj)} {σ : L2.St} {H : Hp} {s : Shared} {Q : VK} {us : List Value} {vs : List V} (M : Mk X.K C f) (F : FnOk X.prog X.w X.K X.mg X.base CX k f fd ps sp) (hr : Room (k + 1) X.A) (hb : Binds X.K fd ps ds) (hd : Vals dvs ds)
    (hx : PassesAt CX X σ (E σ)) (I : Inv X pins σ H s) (r : Vals vs us)
    (h : ∀ x dx, H x = none → H dx = none → dx ≠ x → sp (.ref x :: (vs ++ dvs)) (upd (upd H dx (.own x)) x (.ins C dx [])) (fun v H2 => v = .non ∧ Q (.ref x) H2) (E σ)) :
    wpAny (model X.prog X.w) X.A (call (.ref C) us) (EP X pins σ Q) X.xe s := by
  have hq := h (s.heap.objs.size + 1) s.heap.objs.size (I.hok.fresh (Nat.le_succ _)) (I.hok.fresh (Nat.le_refl _)) (Nat.ne_of_lt (Nat.lt_succ_self _))
  have I2 := Inv.made (C := C) I
  have r2 : Vals (V.ref (s.heap.objs.size + 1) :: (vs ++ dvs)) (Value.ref (s.heap.objs.size + 1) :: (us ++ ds)) := .cons rfl (r.append hd)
  have hl : (Value.ref (s.heap.objs.size + 1) :: us ++ ds).length = ps.length := by
    have e := r2.length
    rw [F.len _ _ _ _ hq] at e
    exact e.symm
  refine wpAny_call (make_map (f := f) I.kIn M.makes M.init (beq_iff_eq.mp M.fn) (codeAny_mono (F.run _ X.stack _ _ ⟨Value.ref (s.heap.objs.size + 1) :: us, []⟩ (Value.ref (s.heap.objs.size + 1) :: (us ++ ds)) _ _ (E σ) (hr.make C us [])
    (I2.env0.make C us []) (hb _ (Value.ref (s.heap.objs.size + 1) :: us) I2.kIn hl) r2 hq) fun r s' hq' => ?_))
  cases r with
  | error e => exact hx pins _ _ e s' I2 hq'
  | ok fl =>
    cases fl with
    | ret u =>
      obtain ⟨v, H', I3, rv, ev, q3⟩ := I2.after hq'
      subst ev
      exact ⟨rv, ⟨V.ref (s.heap.objs.size + 1), H', I3, rfl, q3⟩⟩
    | next => exact False.elim hq'
    | brk => exact False.elim hq'
    | cont => exact False.elim hq'
theorem pe_makeS (M : Mk X.K C f) (F : FnOk X.prog X.w X.K X.mg X.base CX k f fd ps sp) (hr : Room (k + 1) X.A) (hg : Gl X x) (hm : X.mg x = some (.ref C)) (hb : Binds X.K fd ps ds) (hd : Vals dvs ds) (hx : ∀ σ, PassesAt CX X σ (E σ))
    (ha : PA X (e :: es) t) (hdb : (x == ("__debug__" : Str)) = false := by decide) (he : starEach (e :: es) X.env = (false, eval e X.env) :: starEach es X.env := by rfl) (hpl : (backTo pos (starEach es X.env)).any (·.1) = false := by rfl) :
    PE X (.Call (.Name x p) (e :: es) [] pos) (tMakeS C sp dvs E t) := by
  refine ⟨fun pins s σ H Q I h => ?_⟩
  refine wpAny_Call_Name_kw (ld_glob I hg hm ?_ hdb)
  refine PySem.W.callWith_K (h₀ := X.base) I.ok.mod.kin M.kp (thn (ha.run pos pins s σ H _ I h) fun us s1 ⟨vs, H1, I1, r, q⟩ => ⟨I1.kIn, ?_⟩) he hpl
  exact run_makeS M F hr hb hd (hx σ) I1 r q
end
end Pn

namespace Pn
open PySem PySem.Spec PyProof.Rows L2 TL
abbrev sTold32 : Stmt := top 25
abbrev sLName : Stmt := top 23
abbrev sLTri : Stmt := top 24
abbrev sOdd : Stmt := top 26
/-! ### what the law asks of any values -/
section
variable {P : Program} {w : World} {K : PySem.W.Frag} {mg : Str → Option Value} {base : Heap}
structure TK32 (K : PySem.W.Frag) (mg : Str → Option Value) : Type where
  D : TVal K mg
  I : TItm K mg
  R : TRowz K mg
  F : TFilz R
  Y : TLv F
  L : TIL K mg
  CN : Addr
  mCN : mg "NoteError" = some (.ref CN)
  kCN : PySem.W.kitOne K (.ref L.C) (.ref CN) = some true
  CF : Addr
  mCF : mg "InvalidFilling" = some (.ref CF)
  kCF : PySem.W.kitOne K (.ref L.C) (.ref CF) = some false
  told : At K mg "_law_told" sTold32 ["_law_things"]
  lname : At K mg "_law_is_name" sLName ["_law_value_here"]
  ltri : At K mg "_law_is_triple" sLTri ["_law_value_here"]
  odd : At K mg "_law_odd" sOdd ["_law_deal_here"]
  mRepr : mg "repr" = none
  kL : PySem.W.kitAny K (.ref Y.C) [.type "list", .type "tuple"] = some false
  cA : PySem.W.findIn K (.ref Y.C) "__class__" = some (some (.builtin "object.__class__"))
  cM : PySem.W.mroIn K Y.C (.type "object") = some true
  dL : List Value
  vL : Vals [V.ref Y.dP] dL
  bL : Binds K Y.fdI ["self", "items"] dL
/-- how things are answered -/
def LAns (K : PySem.W.Frag) (H : Hp) (v r : V) : Prop := (NoSqz K H v ∧ r = .int 0) ∨ ∃ ds, SeqD K H v ds ∧ (∀ d ∈ ds, dsm d) ∧ ds.length ≤ 30 ∧ r = (match badAt ds with | none => V.non | some n => V.int (n : Int))
def spTold32 (K : PySem.W.Frag) : Sp := fun vs H Q _ => ∃ v r : V, vs = [v] ∧ LAns K H v r ∧ ∀ H', Same H H' → Q r H'
theorem scTold32 : FnScope ["_law_things", "_law_found", "e"] ["_law_things"] (defScope sTold32) := ⟨rfl, rfl, rfl, by decide +kernel, rfl, by decide +kernel, by decide +kernel⟩
theorem ok_told32 (T : TK32 K mg) : FnOk P w K mg base CX0 8 T.told.f T.told.fd ["_law_things"] (spTold32 K) := by
  refine T.told.F.ok scTold32 (fun vs H Q E h => ?_) (fun cdv A outer s H vs Q E hr h => ?_)
  · obtain ⟨v, r, rfl, _⟩ := h
    rfl
  · obtain ⟨v, r, rfl, ha, q⟩ := h
    refine ⟨_, pss_cons (ps_set (i := 1) scTold32.nd rfl (Or.inl rfl) pe_non)
      (pss_cons (ps_try_as (i := 2) rfl rfl scTold32.nd rfl rfl ⟨rfl, by decide, .inl T.L.m⟩ takes0
        (fun W pn xe tk _ => pss_one (ps_expr (pe_makeS T.Y.M (ok_lInitD T.Y T.L) (hr.mono (by decide)) rfl T.Y.mC T.Y.bI .nil (fun σ => passAt tk σ) (pa_cons (pv 0) pa_nil))))
        (fun a oe cls d pn hz hf => pss_one (ps_set (i := 1) scTold32.nd rfl (Or.inl rfl) (pe_ifExp (PW.pt (pw_and (pt_val (pe_callB (call_isX T.L.E hz hf) (by rfl) T.R.N.mIsi (by decide +kernel) (pa_cons (pv 2) (pa_cons (pe_glob (v := .ref T.CN) (by rfl) T.mCN rfl) pa_nil))))
          (pw_and1 (pt_not (pt_val (pe_callB (call_isX T.L.E hz hf) (by rfl) T.R.N.mIsi (by decide +kernel) (pa_cons (pv 2) (pa_cons (pe_glob (v := .ref T.CF) (by rfl) T.mCF rfl) pa_nil))))))))
          (pe_xf T.L.xf T.L.noF hz hf (pv 2)) pe_str))))
      (pss_one (ps_ret (pv 1)))), ?_⟩
    refine ⟨_, rfl, fun x dx hx hdx ne => ?_⟩
    have s1 : Same H (upd (upd H dx (.own x)) x (.ins T.Y.C dx [])) := ins_same2 hx hdx
    have s2 : Same H (hid (upd (upd H dx (.own x)) x (.ins T.Y.C dx [])) x) := fun b o e => hid_get (s1 _ _ e) (ne_of_none e hx)
    refine ⟨x, dx, v, rfl, upd_same, ?_⟩
    rcases ha with ⟨⟨t, ty, hk, keep⟩, rfl⟩ | ⟨ds, hS, hsm, hlen, rfl⟩
    · refine .inl ⟨⟨t, keep _ s2, hk, fun H' s' => keep _ (s2.trans s')⟩, fun y H1 hs hy2 => ?_⟩
      refine ⟨true, T.L.te, fun _ a ha => ?_, fun z => nomatch z⟩
      refine ⟨_, rfl, .ref T.CN, _, true, y, _, rfl, rfl, .own _, T.kCN, rfl, hy2, _, rfl, iteT ?_⟩
      refine ⟨_, rfl, .ref T.CF, _, false, y, _, rfl, rfl, .own _, T.kCF, rfl, hy2, _, rfl, iteT ?_⟩
      refine ⟨_, rfl, rfl, rfl, y, _, .int 0, rfl, hy2, rfl, _, rfl, ?_⟩
      exact q H1 (s1.trans hs)
    · refine .inr ⟨ds, hS.same s2, hsm, hlen, fun n hn y H1 hs hy2 => ?_, fun hn H1 kp => ⟨rfl, _, rfl, ?_⟩⟩
      · rw [hn] at q
        refine ⟨true, T.L.te, fun _ a ha => ?_, fun z => nomatch z⟩
        refine ⟨_, rfl, .ref T.CN, _, true, y, _, rfl, rfl, .own _, T.kCN, rfl, hy2, _, rfl, iteT ?_⟩
        refine ⟨_, rfl, .ref T.CF, _, false, y, _, rfl, rfl, .own _, T.kCF, rfl, hy2, _, rfl, iteT ?_⟩
        refine ⟨_, rfl, rfl, rfl, y, _, .int (n : Int), rfl, hy2, rfl, _, rfl, ?_⟩
        exact q H1 (s1.trans hs)
      · rw [hn] at q
        exact q H1 (kpi_same2 hx hdx kp)
def spLName (K : PySem.W.Frag) : Sp := fun vs H Q _ => ∃ (v : V) (d : PyData), vs = [v] ∧ Dp K H v d ∧ dlen d ∧ SeqAt.shaped d = true ∧ ∀ H', Same H H' → Q (.bl (nameD d)) H'
theorem scLName : FnScope ["_law_value_here", "_law_barred", "_law_sign"] ["_law_value_here"] (defScope sLName) := ⟨rfl, rfl, rfl, by decide +kernel, rfl, by decide +kernel, by decide +kernel⟩
theorem ok_lname32 (T : TK32 K mg) : FnOk P w K mg base CX0 1 T.lname.f T.lname.fd ["_law_value_here"] (spLName K) := by
  refine T.lname.F.ok scLName (fun vs H Q E h => ?_) (fun cdv A outer s H vs Q E hr h => ?_)
  · obtain ⟨v, d, rfl, _⟩ := h
    rfl
  · obtain ⟨v, d, rfl, hd, hl, hsh, q⟩ := h
    refine ⟨_, pss_cons (ps_set (i := 1) scLName.nd rfl (Or.inl rfl) (pe_lst (pa_cons pe_str (pa_cons pe_str (pa_cons pe_str (pa_cons pe_str (pa_cons pe_str (pa_cons pe_str (pa_cons pe_str (pa_cons pe_str (pa_cons pe_str pa_nil)))))))))))
      (pss_cons (ps_if (PW.pt (pw_or (pt_not (pt_val (pe_callB call_isi (by rfl) T.R.N.mIsi (by decide +kernel) (pa_cons (pv 0) (pa_cons (pe_bltn (v := .ty "str") (by rfl) T.R.N.mStr (by decide +kernel) rfl) pa_nil)))))
        (pw_or (pt_not (pt_chain op_le op_le pe_int (pe_callB call_len_str (by rfl) T.R.N.mLen PySem.boot_len (pa_cons (pv 0) pa_nil)) pe_int)) (pw_or1 (pt_cmpR op_in_seq (pv 0) (pv 1) rfl))))) (pss_one (ps_ret pe_bl)) pss_nil)
      (pss_one (ps_ret (pe_cmpR (op_eqD hr.units) (pe_lc (own := [("_law_sign", 2)]) (g := gName 2) (by rfl) scLName.nd (pi_str (pv 0))
          (blkOk_by (N := ["_law_value_here", "_law_barred", "_law_sign"]) (sc := defScope sLName) (by decide +kernel)) (fun _ _ _ _ _ => pg_name (i := 2) scLName.nd rfl (Or.inl rfl))
          (fun _ _ _ _ _ => pts_one (pt_cmpR op_notIn_sign (pv 2) pe_str rfl)) (fun _ _ _ _ _ => pv 2)) (pe_lst pa_nil) (nomark _))))), ?_⟩
    refine ⟨(by show 9 ≤ sizeLine; decide), fun p hp => ?_⟩
    have s1 : Same H (upd H p (.lst rowV)) := Same.new hp
    have hd1 := dp_same s1 d v hd
    refine ⟨_, rfl, v, _, _, _, _, rfl, .ty _, dp_ty hd1, kit_ty (kit_str d), _, rfl, ?_⟩
    cases d with
    | str z =>
      cases hd
      have hl' : z.length ≤ 900 := hl
      have e2 : nameS z = (!inV (.str z) rowV && (decide (1 ≤ (z.length : Int)) && decide ((z.length : Int) ≤ 4)) && z.cps.toList.all lok) := rfl
      have q' : ∀ H', Same H H' → Q (.bl (nameS z)) H' := q
      rw [e2] at q'
      refine ⟨_, rfl, z, rfl, Nat.le_trans hl' (by decide), _, _, rfl, rfl, _, rfl, ?_⟩
      cases h1 : decide ((1 : Int) ≤ (z.length : Int)) with
      | false =>
        rw [h1, Bool.false_and, Bool.and_false, Bool.false_and] at q'
        refine iteF ?_
        refine ⟨false, rfl, ?_⟩
        exact iteT (q' _ s1)
      | true =>
      rw [h1, Bool.true_and] at q'
      refine iteT ?_
      refine ⟨_, _, rfl, rfl, _, rfl, ?_⟩
      cases h3 : decide ((z.length : Int) ≤ 4) with
      | false =>
        rw [h3, Bool.and_false, Bool.false_and] at q'
        exact iteT (q' _ s1)
      | true =>
      rw [h3, Bool.and_true] at q'
      refine iteF ?_
      refine ⟨_, rfl, _, rfl, p, rowV, rfl, .inl (SqL.of upd_same), rfl, rfl, _, rfl, ?_⟩
      cases e : inV (.str z) rowV with
      | true =>
        rw [e] at q'
        exact iteT (q' _ s1)
      | false =>
      rw [e] at q'
      have q'' : ∀ H', Same H H' → Q (.bl (z.cps.toList.all lok)) H' := q'
      refine iteF ?_
      refine ⟨_, rfl, z, rfl, fun D hD => lc_it walk_str (fun i Hi => Hi = upd (upd H p (.lst rowV)) D (.lst ((badL z i).map sgV))) rfl (fun _ _ _ _ => trivial) (fun i x Hi Hj hi hP hY => ?_) (fun Hi hP => ?_)⟩
      · obtain ⟨rfl, c, hc, rfl⟩ := hY
        subst hP
        have hi2 : i < 5 := by
          have : z.cps.size = z.length := rfl
          have := of_decide_eq_true h3
          omega
        have hsz : (badL z i).length ≤ 5 := Nat.le_trans (List.length_filter_le _ _) (by rw [List.length_take]; omega)
        refine ⟨rfl, _, rfl, c, alpha, rfl, rfl, _, rfl, ?_⟩
        rw [badL_succ hc]
        cases h5 : lok c with
        | true =>
          have h6 : (!decide (c ∈ alpha.cps.toList)) = false := by rw [alpha_mem, h5]; rfl
          rw [h6]
          exact rfl
        | false =>
          have h6 : (!decide (c ∈ alpha.cps.toList)) = true := by rw [alpha_mem, h5]; rfl
          rw [h6]
          refine ⟨_, rfl, (badL z i).map sgV, upd_same, small1000 (by rw [List.length_map]; omega), ?_⟩
          funext b
          by_cases eb : b = D
          · rw [eb, upd_same, if_neg (by decide), upd_same, List.map_append]
            rfl
          · rw [upd_ne eb, upd_ne eb, upd_ne eb]
      · subst hP
        have hall := badL_all z
        refine ⟨by show 0 ≤ sizeLine; decide, fun l hl2 => ?_⟩
        have s2 : Same (upd H p (.lst rowV)) (upd (upd H p (.lst rowV)) D (.lst ((badL z z.cps.size).map sgV))) := Same.new hD
        refine ⟨.list ((badL z z.cps.size).map sgD), .list [], .lst (SqL.of (Same.new hl2 D _ upd_same)) (sg_all _), .lst (SqL.of upd_same) .nil, sg_shaped _ (fun c hc => codes_ok hsh c (List.mem_of_mem_take (List.mem_filter.mp hc).1)), by decide +kernel, ?_⟩
        rw [sg_nil, hall]
        exact q'' _ ((s1.trans s2).trans (Same.new hl2))
    | none => exact iteT (q _ s1)
    | list ds => exact iteT (q _ s1)
    | tuple ds => exact iteT (q _ s1)
    | dict ds => exact iteT (q _ s1)
    | int i => exact iteT (q _ s1)
    | bool i => exact iteT (q _ s1)
def spLTri (K : PySem.W.Frag) : Sp := fun vs H Q _ => ∃ (v : V) (d : PyData), vs = [v] ∧ Dp K H v d ∧ dsm d ∧ ∀ H', Same H H' → Q (.bl (triDB d)) H'
theorem scLTri : FnScope ["_law_value_here"] ["_law_value_here"] (defScope sLTri) := ⟨rfl, rfl, rfl, by decide +kernel, rfl, by decide +kernel, by decide +kernel⟩
theorem strT_word {d : PyData} (h : strT d = false) : wordD d = false := by
  cases d with
  | str z => cases h
  | _ => rfl
theorem ok_ltri32 (T : TK32 K mg) : FnOk P w K mg base CX0 2 T.ltri.f T.ltri.fd ["_law_value_here"] (spLTri K) := by
  refine T.ltri.F.ok scLTri (fun vs H Q E h => ?_) (fun cdv A outer s H vs Q E hr h => ?_)
  · obtain ⟨v, d, rfl, _⟩ := h
    rfl
  · obtain ⟨v, d, rfl, hd, hs, q⟩ := h
    refine ⟨_, (pss_cons (ps_if (PW.pt (pw_or (pt_not (pt_val (pe_callB call_isi (by rfl) T.R.N.mIsi (by decide +kernel) (pa_cons (pv 0) (pa_cons (pe_bltn (v := .ty "tuple") (by rfl) T.F.mTup (by decide +kernel) rfl) pa_nil))))) (pw_or (pt_cmpR op_ne (pe_callB call_len_seq (by rfl) T.R.N.mLen PySem.boot_len (pa_cons (pv 0) pa_nil)) pe_int (nomark _)) (pw_or (pt_not (pt_val (pe_call (ok_lname32 T) (hr.mono (by decide)) rfl T.lname.m T.lname.F.kp T.lname.b .nil pass0 (pa_cons (pe_ix ix_tup (pv 0) pe_int (fun _ _ => rfl)) pa_nil)))) (pw_or1 (pt_not (pt_val (pe_call (ok_lname32 T) (hr.mono (by decide)) rfl T.lname.m T.lname.F.kp T.lname.b .nil pass0 (pa_cons (pe_ix ix_tup (pv 0) pe_int (fun _ _ => rfl)) pa_nil))))))))) (pss_one (ps_ret pe_bl)) pss_nil)
(pss_one (ps_ret (pe_and (pe_callB call_isi (by rfl) T.R.N.mIsi (by decide +kernel) (pa_cons (pe_ix ix_tup (pv 0) pe_int (fun _ _ => rfl)) (pa_cons (pe_bltn (v := .ty "str") (by rfl) T.R.N.mStr (by decide +kernel) rfl) pa_nil))) (pe_one (pe_cmpR (op_inWd (roomTq hr)) (pe_ix ix_tup (pv 0) pe_int (fun _ _ => rfl)) (pe_tup (pa_cons pe_str (pa_cons pe_str pa_nil))) rfl)))))), ?_⟩
    refine ⟨_, rfl, v, _, _, _, _, rfl, .ty _, dp_ty hd, kit_ty (kit_tupz d), _, rfl, ?_⟩
    cases d with
    | tuple ds =>
      refine iteF ?_
      cases hd with
      | @tup a vs _ sq al =>
      have hl := dpA_len al
      refine ⟨_, rfl, _, _, rfl, .inr sq, rfl, _, rfl, ?_⟩
      by_cases h3 : ds.length = 3
      · refine iteFD (by rw [hl, h3]; rfl) ?_
        match ds, vs, h3, al, hl with
        | [a1, a2, a3], _, _, .cons (v := x1) d1 (.cons (v := x2) d2 (.cons (v := x3) d3 .nil)), _ =>
          obtain ⟨l1, sh1⟩ := hs _ rfl a1 (by simp)
          obtain ⟨l2, sh2⟩ := hs _ rfl a2 (by simp)
          obtain ⟨_, sh3⟩ := hs _ rfl a3 (by simp)
          have et : triDB (.tuple [a1, a2, a3]) = (nameD a1 && (nameD a2 && wordD a3)) := rfl
          refine ⟨_, rfl, a, _, 0, _, rfl, rfl, sq, rfl, x1, a1, rfl, d1, l1, sh1, fun H1 s1 => ⟨_, rfl, ?_⟩⟩
          cases n1 : nameD a1 with
          | false =>
            refine iteT ?_
            have z := q H1 s1
            rw [et, n1] at z
            exact z
          | true =>
          refine iteF ?_
          refine ⟨_, rfl, a, _, 1, _, rfl, rfl, Same.sqt s1 sq, rfl, x2, a2, rfl, dp_same s1 _ _ d2, l2, sh2, fun H2 s2 => ⟨_, rfl, ?_⟩⟩
          have s12 := s1.trans s2
          cases n2 : nameD a2 with
          | false =>
            refine iteT ?_
            have z := q H2 s12
            rw [et, n1, n2] at z
            exact z
          | true =>
          refine iteF ?_
          refine ⟨_, rfl, a, _, 2, _, rfl, rfl, Same.sqt s12 sq, rfl, x3, _, _, _, _, rfl, .ty _, dp_ty (dp_same s12 _ _ d3), kit_ty (kit_str a3), ?_⟩
          have z := q H2 s12
          rw [et, n1, n2] at z
          have z : Q (.bl (wordD a3)) H2 := z
          refine ⟨_, rfl, ?_⟩
          cases hstr : strT a3 with
          | false =>
            rw [strT_word hstr] at z
            exact iteF z
          | true =>
            refine iteT ?_
            refine ⟨_, rfl, a, _, 2, _, rfl, rfl, Same.sqt s12 sq, rfl, (by show 2 ≤ sizeLine; decide), fun p hp => ?_⟩
            have s3 := s12.trans (Same.new (o := .tup [.str "on", .str "any"]) hp)
            have z3 := q _ s3
            rw [et, n1, n2] at z3
            exact ⟨a3, p, rfl, dp_same s3 _ _ d3, SqT.of upd_same, sh3, z3⟩
      · rw [triDB_len h3] at q
        refine iteTD (by rw [hl, decide_eq_false fun z => h3 (by have := V.int.inj z; omega)]; rfl) ?_
        exact q _ (Same.refl _)
    | str z => exact iteT (q _ (Same.refl _))
    | none => exact iteT (q _ (Same.refl _))
    | list ds => exact iteT (q _ (Same.refl _))
    | dict ds => exact iteT (q _ (Same.refl _))
    | int i => exact iteT (q _ (Same.refl _))
    | bool i => exact iteT (q _ (Same.refl _))
end
end Pn

namespace Pn
open PySem PySem.Spec PyProof.Rows L2 TL
/-! ### odd things: what the law puts among the triples -/
def dlenB : PyData → Bool
  | .str z => decide (z.length ≤ 900)
  | _ => true
def dsmB : PyData → Bool
  | .tuple ds => ds.all fun e => dlenB e && SeqAt.shaped e
  | _ => true
def OddOk (d : PyData) : Prop := dsm d ∧ SeqAt.shaped d = true
theorem dlenB_ok {d : PyData} (h : dlenB d = true) : dlen d := by
  cases d with
  | str z => exact (of_decide_eq_true (p := z.length ≤ 900) h)
  | _ => trivial
theorem oddB_ok {d : PyData} (h : (dsmB d && SeqAt.shaped d) = true) : OddOk d := by
  rw [Bool.and_eq_true] at h
  refine ⟨fun ds e => ?_, h.2⟩
  subst e
  intro x hx
  have z := List.all_eq_true.mp h.1 x hx
  rw [Bool.and_eq_true] at z
  exact ⟨dlenB_ok z.1, z.2⟩
theorem leafW_ok : ∀ d ∈ leafWD, dlenB d = true ∧ PyData.canLay0 d = true ∧ PyData.depth d = 0 ∧ (match d with | .tuple _ => false | _ => true) = true := by
  have h : (leafWD.all fun d => dlenB d && (PyData.canLay0 d && (decide (PyData.depth d = 0) && (match d with | .tuple _ => false | _ => true)))) = true := by decide +kernel
  intro d hd
  have z := List.all_eq_true.mp h d hd
  rw [Bool.and_eq_true, Bool.and_eq_true, Bool.and_eq_true, decide_eq_true_iff] at z
  exact ⟨z.1, z.2.1, z.2.2.1, z.2.2.2⟩
theorem lays : ∀ {ds : List PyData} {n : Nat}, (∀ e ∈ ds, PyData.canLay0 e = true ∧ PyData.depth e ≤ n) → PyData.canLayAll0 ds = true ∧ PyData.depthAll ds ≤ n
  | [], n, _ => ⟨by simp only [PyData.canLayAll0], by simp [PyData.depthAll]⟩
  | d :: ds, n, h => by
    obtain ⟨a, b⟩ := h d List.mem_cons_self
    obtain ⟨c, e⟩ := lays (ds := ds) (n := n) fun x hx => h x (List.mem_cons_of_mem _ hx)
    refine ⟨by simp only [PyData.canLayAll0, a, c, Bool.and_self], ?_⟩
    simp only [PyData.depthAll]
    omega
theorem Vt.lay : ∀ {n : Nat} {d : PyData}, Vt n d → PyData.canLay0 d = true ∧ PyData.depth d ≤ n ∧ dlen d
  | 0, d, h => by
    obtain ⟨a, b, c, _⟩ := leafW_ok d h
    exact ⟨b, by omega, dlenB_ok a⟩
  | n + 1, d, h => by
    rcases h with h | ⟨ds, _, h2, h3⟩
    · obtain ⟨a, b, c, _⟩ := leafW_ok d h
      exact ⟨b, by omega, dlenB_ok a⟩
    · obtain ⟨l1, l2⟩ := lays (ds := ds) (n := n) fun e he => ⟨(Vt.lay (h2 e he)).1, (Vt.lay (h2 e he)).2.1⟩
      rcases h3 with rfl | rfl
      · exact ⟨by simp only [PyData.canLay0, l1], by simp only [PyData.depth]; omega, trivial⟩
      · exact ⟨by simp only [PyData.canLay0, l1], by simp only [PyData.depth]; omega, trivial⟩
theorem Vt.shaped {n : Nat} {d : PyData} (h : Vt n d) (hn : n ≤ 60) : SeqAt.shaped d = true := by
  obtain ⟨a, b, _⟩ := h.lay
  unfold SeqAt.shaped
  rw [a, Bool.true_and]
  exact decide_eq_true (by omega)
theorem Vt.odd {n : Nat} {d : PyData} (h : Vt n d) (hn : n ≤ 60) : OddOk d := by
  refine ⟨fun ds e x hx => ?_, h.shaped hn⟩
  subst e
  cases n with
  | zero =>
    have := (leafW_ok _ h).2.2.2
    cases this
  | succ n =>
    rcases h with h | ⟨ds', _, h2, h3⟩
    · have := (leafW_ok _ h).2.2.2
      cases this
    · rcases h3 with h3 | h3
      · cases h3
      · cases h3
        exact ⟨(h2 x hx).lay.2.2, (h2 x hx).shaped (by omega)⟩
section
variable {P : Program} {w : World} {K : PySem.W.Frag} {mg : Str → Option Value} {base : Heap} {σ : L2.St}
def PO (K : PySem.W.Frag) : Hp → V → Prop := fun H v => ∃ d, Dp K H v d ∧ OddOk d
theorem st_po : StP (PO K) := fun _ _ v s ⟨d, h, o⟩ => ⟨d, dp_same s d v h, o⟩
theorem po_of {te : TE} {d : PyData} (g : Gv te σ (PD K d)) (h : (dsmB d && SeqAt.shaped d) = true) : Gv te σ (PO K) := g.imp fun _ _ p => ⟨d, p, oddB_ok h⟩
theorem gvt0 : Gv (tTup tNil) σ (PD K (.tuple [])) := gvd_tup gvd_nil (by decide)
theorem gvt1 {t1 : TE} {d1 : PyData} (g1 : Gv t1 σ (PD K d1)) : Gv (tTup (tCons t1 tNil)) σ (PD K (.tuple [d1])) := gvd_tup (gvd_cons g1 gvd_nil) (by show 1 ≤ 1000; decide)
theorem gvt2 {t1 t2 : TE} {d1 d2 : PyData} (g1 : Gv t1 σ (PD K d1)) (g2 : Gv t2 σ (PD K d2)) : Gv (tTup (tCons t1 (tCons t2 tNil))) σ (PD K (.tuple [d1, d2])) := gvd_tup (gvd_cons g1 (gvd_cons g2 gvd_nil)) (by show 2 ≤ 1000; decide)
theorem gvt3 {t1 t2 t3 : TE} {d1 d2 d3 : PyData} (g1 : Gv t1 σ (PD K d1)) (g2 : Gv t2 σ (PD K d2)) (g3 : Gv t3 σ (PD K d3)) : Gv (tTup (tCons t1 (tCons t2 (tCons t3 tNil)))) σ (PD K (.tuple [d1, d2, d3])) := gvd_tup (gvd_cons g1 (gvd_cons g2 (gvd_cons g3 gvd_nil))) (by show 3 ≤ 1000; decide)
theorem gvt4 {t1 t2 t3 t4 : TE} {d1 d2 d3 d4 : PyData} (g1 : Gv t1 σ (PD K d1)) (g2 : Gv t2 σ (PD K d2)) (g3 : Gv t3 σ (PD K d3)) (g4 : Gv t4 σ (PD K d4)) : Gv (tTup (tCons t1 (tCons t2 (tCons t3 (tCons t4 tNil))))) σ (PD K (.tuple [d1, d2, d3, d4])) := gvd_tup (gvd_cons g1 (gvd_cons g2 (gvd_cons g3 (gvd_cons g4 gvd_nil)))) (by show 4 ≤ 1000; decide)
theorem gvl1 {t1 : TE} {d1 : PyData} (g1 : Gv t1 σ (PD K d1)) : Gv (tLst (tCons t1 tNil)) σ (PD K (.list [d1])) := gvd_lst (gvd_cons g1 gvd_nil) (by show 1 ≤ 1000; decide)
theorem gvl3 {t1 t2 t3 : TE} {d1 d2 d3 : PyData} (g1 : Gv t1 σ (PD K d1)) (g2 : Gv t2 σ (PD K d2)) (g3 : Gv t3 σ (PD K d3)) : Gv (tLst (tCons t1 (tCons t2 (tCons t3 tNil)))) σ (PD K (.list [d1, d2, d3])) := gvd_lst (gvd_cons g1 (gvd_cons g2 (gvd_cons g3 gvd_nil))) (by show 3 ≤ 1000; decide)
/-- a list of such things, all new since B -/
def LO (K : PySem.W.Frag) (B H : Hp) (p : Addr) (n : Nat) : Prop := ∃ vs, H p = some (.lst vs) ∧ vs.length = n ∧ ∀ x ∈ vs, PO K (dif B (hid H p)) x
theorem hid_dif {B H : Hp} {p : Addr} : Same (hid (dif B H) p) (dif B (hid H p)) := fun a o e => by
  have n := hid_ne e
  obtain ⟨e1, e2⟩ := dif_eq.mp (hid_sub _ _ e)
  exact dif_eq.mpr ⟨e1, hid_get e2 n⟩
theorem lo_of {B H : Hp} {p : Addr} {n : Nat} (h : ∃ vs, (dif B H) p = some (.lst vs) ∧ AllP (PO K) n (hid (dif B H) p) vs) : LO K B H p n := by
  obtain ⟨vs, e, l, a⟩ := h
  exact ⟨vs, (dif_eq.mp e).2, l, fun x hx => st_po _ _ _ hid_dif (a x hx)⟩
theorem lo_cat {B H : Hp} {p : Addr} {n m i : Nat} {ta : TA} {Q : VK} (mo : Mo B H) (hσ : σ[i]? = some (some (.ref p))) (h : LO K B H p n) (g : GvA ta σ (AllP (PO K) m)) (hm : m ≤ 1000) (hn : n + m ≤ 1000) (k : ∀ p' H', Same H H' → H p' = none → LO K B H' p' (n + m) → Q (.ref p') H') : tOp rCat (tVar i) (tLst ta) σ H Q := by
  obtain ⟨vs, e, l, a⟩ := h
  refine ⟨_, hσ, ?_⟩
  refine gv_use B mo (gv_lstAll (P := PO K) (st_po (K := K)) hm g) fun v H2 s2 hv => ?_
  obtain ⟨p2, us, rfl, e2, l2, a2⟩ := hv
  have e2' := (dif_eq.mp e2).2
  have big : (1000 : Nat) ≤ sizeLine := by decide
  refine ⟨p, p2, vs, us, rfl, rfl, s2 _ _ e, e2', by omega, fun p3 h3 => ?_⟩
  refine k p3 _ (s2.trans (Same.new h3)) (s2.free h3) ⟨vs ++ us, upd_same, by rw [List.length_append, l, l2], fun x hx => ?_⟩
  rcases List.mem_append.mp hx with hx | hx
  · refine st_po _ _ _ (fun b o z => ?_) (a x hx)
    obtain ⟨z1, z3⟩ := dif_eq.mp z
    have z2 := s2 _ _ (hid_sub _ _ z3)
    exact dif_eq.mpr ⟨z1, hid_get (Same.new h3 _ _ z2) (ne_of_none z2 h3)⟩
  · refine st_po _ _ _ (fun b o z => ?_) (a2 x hx)
    obtain ⟨z1, z2⟩ := dif_eq.mp (hid_sub _ _ z)
    exact dif_eq.mpr ⟨z1, hid_get (Same.new h3 _ _ z2) (ne_of_none z2 h3)⟩
def spOdd (K : PySem.W.Frag) : Sp := fun vs H Q _ => ∃ (d g : Addr), vs = [.ref d] ∧ DealAt H d g ∧ ∀ (v : V) (e : PyData) (H' : Hp), DealAt H' d g → Same (hh H d g) (hh H' d g) → Dp K (hh H' d g) v e → OddOk e → Q v H'
theorem scOdd : FnScope ["_law_deal_here", "_law_some"] ["_law_deal_here"] (defScope sOdd) := ⟨rfl, rfl, rfl, by decide +kernel, rfl, by decide +kernel, by decide +kernel⟩
theorem ok_odd32 (T : TK32 K mg) : FnOk P w K mg base CX0 7 T.odd.f T.odd.fd ["_law_deal_here"] (spOdd K) := by
  refine T.odd.F.ok scOdd (fun vs H Q E h => ?_) (fun cdv A outer s H vs Q E hr h => ?_)
  · obtain ⟨d, g, rfl, _⟩ := h
    rfl
  · obtain ⟨d, g, rfl, hD, q⟩ := h
    refine ⟨_, (pss_cons (ps_set (i := 1) scOdd.nd rfl (Or.inl rfl) (pe_lst (pa_cons pe_non (pa_cons pe_str (pa_cons (pe_tup (pa_cons pe_str (pa_cons pe_str pa_nil))) (pa_cons (pe_lst (pa_cons pe_str (pa_cons pe_str (pa_cons pe_str pa_nil)))) (pa_cons (pe_tup (pa_cons pe_str (pa_cons pe_str (pa_cons pe_str pa_nil)))) (pa_cons (pe_tup (pa_cons pe_str (pa_cons pe_str (pa_cons pe_str pa_nil)))) (pa_cons (pe_tup (pa_cons pe_str (pa_cons pe_str (pa_cons pe_str pa_nil)))) (pa_cons (pe_tup pa_nil) pa_nil))))))))))
(pss_cons (ps_set (i := 1) scOdd.nd rfl (Or.inl rfl) (pe_op op_cat (pv 1) (pe_lst (pa_cons (pe_tup (pa_cons pe_str (pa_cons pe_str (pa_cons pe_str pa_nil)))) (pa_cons (pe_tup (pa_cons pe_str (pa_cons pe_str (pa_cons pe_str pa_nil)))) (pa_cons (pe_tup (pa_cons pe_str (pa_cons pe_str (pa_cons pe_non pa_nil)))) pa_nil))))))
(pss_cons (ps_set (i := 1) scOdd.nd rfl (Or.inl rfl) (pe_op op_cat (pv 1) (pe_lst (pa_cons (pe_tup (pa_cons pe_str (pa_cons pe_str (pa_cons (pe_lst (pa_cons pe_str pa_nil)) pa_nil)))) (pa_cons (pe_tup (pa_cons pe_int (pa_cons pe_str (pa_cons pe_str pa_nil)))) (pa_cons (pe_tup (pa_cons pe_str (pa_cons pe_str (pa_cons pe_str pa_nil)))) pa_nil))))))
(pss_cons (ps_set (i := 1) scOdd.nd rfl (Or.inl rfl) (pe_op op_cat (pv 1) (pe_lst (pa_cons (pe_tup (pa_cons pe_str (pa_cons pe_str (pa_cons pe_str pa_nil)))) (pa_cons (pe_tup (pa_cons pe_str (pa_cons pe_str (pa_cons pe_str pa_nil)))) (pa_cons (pe_tup (pa_cons pe_str (pa_cons pe_str (pa_cons pe_str (pa_cons pe_str pa_nil))))) pa_nil))))))
(pss_cons (ps_set (i := 1) scOdd.nd rfl (Or.inl rfl) (pe_op op_cat (pv 1) (pe_lst (pa_cons (pe_tup (pa_cons (pe_tup (pa_cons pe_str (pa_cons pe_str (pa_cons pe_str pa_nil)))) pa_nil)) (pa_cons (pe_tup (pa_cons pe_str (pa_cons pe_str (pa_cons pe_str pa_nil)))) (pa_cons pe_int pa_nil))))))
(pss_one (ps_ret (pe_call T.D.okPick (hr.mono (by omega)) rfl T.D.pick.m T.D.pick.F.kp T.D.pick.b .nil pass0 (pa_cons (pv 0) (pa_cons (pe_op op_cat (pv 1) (pe_lst (pa_cons (pe_call (T.D.okValue 3) (hr.mono (by omega)) rfl T.D.val.m T.D.val.F.kp T.D.val.b .nil pass0 (pa_cons (pv 0) (pa_cons pe_int pa_nil))) pa_nil))) pa_nil)))))))))), ?_⟩
    refine stepSet (fun v H' => ∃ p, v = .ref p ∧ Same H H' ∧ H p = none ∧ LO K H H' p 8) (fun Q' hQ => ?c1) (fun v H1 hC => ?r1)
    case c1 =>
      refine gv_use H (Mo.refl H) (gv_lstAll (P := PO K) (st_po (K := K)) (by decide) (n := 8) ?g) fun v H2 s2 hv => ?_
      case g =>
        refine gva_all st_po (po_of gvd_n (by decide +kernel)) ?_
        refine gva_all st_po (po_of (gvd_s _) (by decide +kernel)) ?_
        refine gva_all st_po (po_of (gvt2 (gvd_s _) (gvd_s _)) (by decide +kernel)) ?_
        refine gva_all st_po (po_of (gvl3 (gvd_s _) (gvd_s _) (gvd_s _)) (by decide +kernel)) ?_
        refine gva_all st_po (po_of (gvt3 (gvd_s _) (gvd_s _) (gvd_s _)) (by decide +kernel)) ?_
        refine gva_all st_po (po_of (gvt3 (gvd_s _) (gvd_s _) (gvd_s _)) (by decide +kernel)) ?_
        refine gva_all st_po (po_of (gvt3 (gvd_s _) (gvd_s _) (gvd_s _)) (by decide +kernel)) ?_
        refine gva_all st_po (po_of gvt0 (by decide +kernel)) ?_
        exact gva_all0
      obtain ⟨p2, us, rfl, e2, a2⟩ := hv
      exact hQ _ _ ⟨p2, rfl, s2, (dif_eq.mp e2).1, lo_of ⟨us, e2, a2⟩⟩
    case r1 =>
    obtain ⟨p, rfl, s1, hp, hL⟩ := hC
    try dsimp only [List.set]
    refine stepSet (fun v H' => ∃ p, v = .ref p ∧ Same H H' ∧ H p = none ∧ LO K H H' p 11) (fun Q' hQ => ?c2) (fun v H2 hC => ?r2)
    case c2 =>
      refine lo_cat (K := K) (m := 3) (smo s1) rfl hL ?g (by decide) (by decide) fun p' H' s' hp' hL' => hQ _ _ ⟨p', rfl, s1.trans s', s1.free hp', hL'⟩
      case g =>
        refine gva_all st_po (po_of (gvt3 (gvd_s _) (gvd_s _) (gvd_s _)) (by decide +kernel)) ?_
        refine gva_all st_po (po_of (gvt3 (gvd_s _) (gvd_s _) (gvd_s _)) (by decide +kernel)) ?_
        refine gva_all st_po (po_of (gvt3 (gvd_s _) (gvd_s _) gvd_n) (by decide +kernel)) ?_
        exact gva_all0
    case r2 =>
    clear hp hL s1
    obtain ⟨p, rfl, s1, hp, hL⟩ := hC
    try dsimp only [List.set]
    refine stepSet (fun v H' => ∃ p, v = .ref p ∧ Same H H' ∧ H p = none ∧ LO K H H' p 14) (fun Q' hQ => ?c3) (fun v H3 hC => ?r3)
    case c3 =>
      refine lo_cat (K := K) (m := 3) (smo s1) rfl hL ?g (by decide) (by decide) fun p' H' s' hp' hL' => hQ _ _ ⟨p', rfl, s1.trans s', s1.free hp', hL'⟩
      case g =>
        refine gva_all st_po (po_of (gvt3 (gvd_s _) (gvd_s _) (gvl1 (gvd_s _))) (by decide +kernel)) ?_
        refine gva_all st_po (po_of (gvt3 (gvd_i _) (gvd_s _) (gvd_s _)) (by decide +kernel)) ?_
        refine gva_all st_po (po_of (gvt3 (gvd_s _) (gvd_s _) (gvd_s _)) (by decide +kernel)) ?_
        exact gva_all0
    case r3 =>
    clear hp hL s1
    obtain ⟨p, rfl, s1, hp, hL⟩ := hC
    try dsimp only [List.set]
    refine stepSet (fun v H' => ∃ p, v = .ref p ∧ Same H H' ∧ H p = none ∧ LO K H H' p 17) (fun Q' hQ => ?c4) (fun v H4 hC => ?r4)
    case c4 =>
      refine lo_cat (K := K) (m := 3) (smo s1) rfl hL ?g (by decide) (by decide) fun p' H' s' hp' hL' => hQ _ _ ⟨p', rfl, s1.trans s', s1.free hp', hL'⟩
      case g =>
        refine gva_all st_po (po_of (gvt3 (gvd_s _) (gvd_s _) (gvd_s _)) (by decide +kernel)) ?_
        refine gva_all st_po (po_of (gvt3 (gvd_s _) (gvd_s _) (gvd_s _)) (by decide +kernel)) ?_
        refine gva_all st_po (po_of (gvt4 (gvd_s _) (gvd_s _) (gvd_s _) (gvd_s _)) (by decide +kernel)) ?_
        exact gva_all0
    case r4 =>
    clear hp hL s1
    obtain ⟨p, rfl, s1, hp, hL⟩ := hC
    try dsimp only [List.set]
    refine stepSet (fun v H' => ∃ p, v = .ref p ∧ Same H H' ∧ H p = none ∧ LO K H H' p 20) (fun Q' hQ => ?c5) (fun v H5 hC => ?r5)
    case c5 =>
      refine lo_cat (K := K) (m := 3) (smo s1) rfl hL ?g (by decide) (by decide) fun p' H' s' hp' hL' => hQ _ _ ⟨p', rfl, s1.trans s', s1.free hp', hL'⟩
      case g =>
        refine gva_all st_po (po_of (gvt1 (gvt3 (gvd_s _) (gvd_s _) (gvd_s _))) (by decide +kernel)) ?_
        refine gva_all st_po (po_of (gvt3 (gvd_s _) (gvd_s _) (gvd_s _)) (by decide +kernel)) ?_
        refine gva_all st_po (po_of (gvd_i _) (by decide +kernel)) ?_
        exact gva_all0
    case r5 =>
    clear hp hL s1
    obtain ⟨p, rfl, s1, hp, hL⟩ := hC
    try dsimp only [List.set]
    have hD5 := hD.same s1
    have np := hD.nd hp
    obtain ⟨vs, ep, lv, av⟩ := hL
    have one : 1 ≤ sizeLine := by decide
    have big : (1000 : Nat) ≤ sizeLine := by decide
    refine ⟨_, rfl, _, rfl, _, rfl, d, g, 3, rfl, by decide, by decide, hD5, fun v e Hb hDb sb dv ve => ⟨one, fun l1 h1 => ?_⟩⟩
    have epb := hh_sub _ _ (sb _ _ (hh_get ep np.1 np.2))
    refine ⟨p, l1, vs, [v], rfl, rfl, Same.new h1 _ _ epb, upd_same, by show vs.length + 1 ≤ _; omega, fun p3 h3 => ?_⟩
    have hDe := (hDb.new (o := .lst [v]) h1).new (o := .lst (vs ++ [v])) h3
    have s3 : Same (hh Hb d g) (hh (upd (upd Hb l1 (.lst [v])) p3 (.lst (vs ++ [v]))) d g) := (hh_new h1).trans (hh_new h3)
    refine ⟨d, g, p3, vs ++ [v], rfl, hDe, SqL.of (hh_at (hDb.new h1) h3), by simp, by rw [List.length_append, lv]; show 20 + 1 < 1000000; decide, fun u Hd hu hDd sd md => ?_⟩
    have sall : Same (hh H d g) (hh Hd d g) := (((hh_same s1).trans sb).trans s3).trans sd
    rcases List.mem_append.mp hu with hu | hu
    · obtain ⟨e', de, oe⟩ := av u hu
      refine q u e' Hd hDd sall (dp_same (fun a o z => ?_) _ _ de) oe
      obtain ⟨z0, z1⟩ := dif_eq.mp z
      have m1 : a ≠ d := fun y => hD.there.1 (by rw [← y]; exact z0)
      have m2 : a ≠ g := fun y => hD.there.2 (by rw [← y]; exact z0)
      exact sd _ _ (s3 _ _ (sb _ _ (hh_get (hid_sub _ _ z1) m1 m2)))
    · rw [List.mem_singleton.mp hu]
      refine q v e Hd hDd sall (dp_same (fun a o z => ?_) _ _ dv) (ve.odd (by decide))
      obtain ⟨z0, z1⟩ := dif_eq.mp z
      have m1 : a ≠ d := fun y => hD5.there.1 (by rw [← y]; exact z0)
      have m2 : a ≠ g := fun y => hD5.there.2 (by rw [← y]; exact z0)
      exact sd _ _ (s3 _ _ (hh_get z1 m1 m2))
end
end Pn

namespace Pn
open PySem PySem.Spec PyProof.Rows L2 TL
/-! ### repr of None or a number; lists of data cut; the first that is wrong -/
def rReprN : List V → Hp → VK → Prop := fun xs H Q => (xs = [.non] ∧ Q (.str "None") H) ∨ ∃ i : Int, xs = [.int i] ∧ i.natAbs.log2 < 1920 ∧ Q (.str (Str.ofString (toString i))) H
theorem call_reprN {X : Cx} : CallR X (.builtin "repr") rReprN := fun pins s σ H xs us Q I r h => by
  rcases h with ⟨rfl, q⟩ | h
  · obtain ⟨u, rfl, ru⟩ := r.one
    cases (show u = Value.none from ru)
    exact PySem.P.repr_of_none ⟨.str _, H, I.tok _, ⟨_, rfl⟩, q⟩
  · exact SkE.call_repr_int pins s σ H xs us Q I r h
theorem cut_anyT (xs : List V) (k : Nat) : cutV xs none (some (k : Int)) = xs.take k := by
  unfold cutV
  rw [HT.sIx_none, HT.sIx_nat]
  rw [List.drop_zero, Nat.sub_zero]
  by_cases h : k ≤ xs.length
  · rw [Nat.min_eq_left h]
  · rw [Nat.min_eq_right (by omega), List.take_length, List.take_of_length_le (by omega)]
theorem cut_fromD (xs : List V) (k : Nat) : cutV xs (some (k : Int)) none = xs.drop k := by
  unfold cutV
  rw [HT.sIx_none, HT.sIx_nat]
  by_cases h : k ≤ xs.length
  · rw [Nat.min_eq_left h]
    exact List.take_of_length_le (by rw [List.length_drop]; omega)
  · rw [Nat.min_eq_right (by omega), List.drop_length, List.drop_of_length_le (by omega)]
    simp
section
variable {K : PySem.W.Frag} {H : Hp}
theorem dpAll_take : ∀ (k : Nat) {l : List V} {m : List PyData}, DpAll K H l m → DpAll K H (l.take k) (m.take k)
  | 0, _, _, _ => by simpa using DpAll.nil
  | _ + 1, _, _, .nil => by simpa using DpAll.nil
  | k + 1, _, _, .cons h r => by
    rw [List.take_succ_cons, List.take_succ_cons]
    exact .cons h (dpAll_take k r)
theorem dpAll_drop : ∀ (k : Nat) {l : List V} {m : List PyData}, DpAll K H l m → DpAll K H (l.drop k) (m.drop k)
  | 0, _, _, h => h
  | _ + 1, _, _, .nil => by simpa using DpAll.nil
  | k + 1, _, _, .cons _ r => dpAll_drop k r
end
theorem odd_tri {t : Tri} (h : triB t = true) : OddOk (triD t) := by
  obtain ⟨a, b, c⟩ := tri_strOk h
  have l := triB_len h
  have lw : t.2.2.length ≤ 900 := by
    unfold triB at h
    rw [Bool.and_eq_true, Bool.and_eq_true, Bool.or_eq_true] at h
    rcases h.2.2 with h | h
    · rw [of_decide_eq_true h]; decide +kernel
    · rw [of_decide_eq_true h]; decide +kernel
  have sh : ∀ {z : Str}, PyData.strOk z = true → SeqAt.shaped (.str z) = true := fun h => by
    unfold SeqAt.shaped
    simp [PyData.canLay0, h, PyData.depth]
  have sht : SeqAt.shaped (triD t) = true := by
    obtain ⟨l1, l2⟩ := tri_lay ⟨a, b, c⟩
    unfold SeqAt.shaped
    rw [l1, Bool.true_and]
    exact decide_eq_true (by omega)
  refine ⟨fun ds e x hx => ?_, sht⟩
  cases e
  simp only [List.mem_cons, List.not_mem_nil, or_false] at hx
  rcases hx with rfl | rfl | rfl
  · exact ⟨l.1, sh a⟩
  · exact ⟨l.2, sh b⟩
  · exact ⟨lw, sh c⟩
/-- the indices of those that are no triples, up to one -/
def badF (ds : List PyData) (j : Nat) : Bool := match ds[j]? with
  | some d => !triDB d
  | none => false
def bads (ds : List PyData) (i : Nat) : List Nat := (List.range i).filter (badF ds)
theorem bads_succ {ds : List PyData} {i : Nat} {d : PyData} (h : ds[i]? = some d) : bads ds (i + 1) = if triDB d then bads ds i else bads ds i ++ [i] := by
  unfold bads
  rw [List.range_succ, List.filter_append]
  have e : badF ds i = !triDB d := by unfold badF; rw [h]
  cases hb : triDB d <;> simp [e, hb]
theorem bads_none {ds : List PyData} (h : badAt ds = none) : bads ds ds.length = [] := by
  unfold bads
  rw [List.filter_eq_nil_iff]
  intro j hj
  have hj := List.mem_range.mp hj
  unfold badF
  rw [List.getElem?_eq_getElem hj]
  have := badAt_none h _ (List.getElem_mem hj)
  simp [this]
theorem bads_some {ds : List PyData} {n : Nat} (h : badAt ds = some n) : ∃ r, bads ds ds.length = n :: r := by
  obtain ⟨hn, h1, h2⟩ := badAt_some h
  unfold bads
  have e : List.range ds.length = List.range n ++ (n :: (List.range (ds.length - n - 1)).map (n + 1 + ·)) := by
    have e1 : ds.length = n + (1 + (ds.length - n - 1)) := by omega
    conv => lhs; rw [e1]
    rw [List.range_add, List.range_add]
    simp [List.map_map, Function.comp_def, Nat.add_assoc]
  rw [e, List.filter_append]
  have z : (List.range n).filter (badF ds) = [] := by
    rw [List.filter_eq_nil_iff]
    intro j hj
    have hj := List.mem_range.mp hj
    unfold badF
    rw [List.getElem?_eq_getElem (by omega)]
    have := h2 j _ hj (List.getElem?_eq_getElem (by omega))
    simp [this]
  have b : badF ds n = true := by
    unfold badF
    rw [List.getElem?_eq_getElem hn]
    have := h1 _ (List.getElem?_eq_getElem hn)
    simp [this]
  rw [z, List.nil_append, List.filter_cons_of_pos b]
  exact ⟨_, rfl⟩
def natV (j : Nat) : V := .int (j : Int)
def natD (j : Nat) : PyData := .int (j : Int)
theorem nats_dp {K : PySem.W.Frag} {H : Hp} : ∀ l : List Nat, DpAll K H (l.map natV) (l.map natD)
  | [] => .nil
  | j :: l => .cons (.int _) (nats_dp l)
theorem nats_lay : ∀ l : List Nat, PyData.canLayAll0 (l.map natD) = true ∧ PyData.depthAll (l.map natD) = 0
  | [] => ⟨by simp [PyData.canLayAll0], by simp [PyData.depthAll]⟩
  | j :: l => by
    obtain ⟨a, b⟩ := nats_lay l
    exact ⟨by simp [PyData.canLayAll0, natD, PyData.canLay0, a], by simp [PyData.depthAll, natD, PyData.depth, b]⟩
theorem nats_sh (l : List Nat) : SeqAt.shaped (.list (l.map natD)) = true := by
  obtain ⟨a, b⟩ := nats_lay l
  unfold SeqAt.shaped
  simp only [PyData.canLay0, PyData.depth, a, b, Bool.true_and]
  decide
theorem nats_nil (l : List Nat) : PyData.eqv (.list (l.map natD)) (.list []) = l.isEmpty := by
  cases l <;> simp [PyData.eqv, PyData.eqvAll]
theorem nosqz_d {K : PySem.W.Frag} {H : Hp} {v : V} {d : PyData} (h : Dp K H v d) (hs : seqD d = false) : NoSqz K H v := ⟨_, dp_ty h, by rw [kit_seq, hs], fun H' s => dp_ty (dp_same s d v h)⟩
theorem NoSqz.same {K : PySem.W.Frag} {H H' : Hp} {v : V} (h : NoSqz K H v) (s : Same H H') : NoSqz K H' v := by
  obtain ⟨t, _, b, c⟩ := h
  exact ⟨t, c _ s, b, fun H2 s2 => c _ (s.trans s2)⟩
end Pn

namespace Pn
open PySem PySem.Spec PyProof.Rows L2 TL
abbrev sLaw32 : Stmt := top 27
section
variable {P : Program} {w : World} {K : PySem.W.Frag} {mg : Str → Option Value} {base : Heap}
def spLaw32 (K : PySem.W.Frag) : Sp := fun vs H Q _ => ∃ (a : Addr) (ns : List Int), vs = [.ref a] ∧ SqL K H a (ns.map V.int) ∧ ns.length ≤ 63 ∧ ∀ H', Q (.bl true) H'
theorem scLaw32 : FnScope ["_law_script", "_law_deal_here", "_law_turn", "_law_items_here", "_law_more", "_law_at", "_law_rest", "_law_wrong", "_law_item", "_law_thing"] ["_law_script"] (defScope sLaw32) := ⟨rfl, rfl, rfl, by decide +kernel, rfl, by decide +kernel, by decide +kernel⟩
theorem roomLw {k : Nat} {A : Around} (r : Room k A) : A.units + 64 < PySem.cLine := by have := r.un; omega
theorem ok_law32 (T : TK32 K mg) {f : Addr} {fd : FuncData} (F : Fun K "law" "law" sLaw32 f fd) : FnOk P w K mg base CX0 15 f fd ["_law_script"] (spLaw32 K) := by
  refine F.ok scLaw32 (fun vs H Q E h => ?_) (fun cdv A outer s H vs Q E hr h => ?_)
  · obtain ⟨a, ns, rfl, _⟩ := h
    rfl
  · obtain ⟨a, ns, rfl, hS, hl, q⟩ := h
    refine ⟨_, (pss_cons (ps_set (i := 1) scLaw32.nd rfl (Or.inl rfl) (pe_call T.D.okDeal (hr.mono (by decide)) rfl T.D.deal.m T.D.deal.F.kp T.D.deal.b .nil pass0 (pa_cons (pv 0) (pa_cons pe_int pa_nil))))
(pss_cons (ps_for PassesOwn.never rfl (pi_range1 (by rfl) T.D.mR (pa_cons pe_int pa_nil)) (pg_name (i := 2) scLaw32.nd rfl (Or.inl rfl))
(pss_cons (ps_set (i := 3) scLaw32.nd rfl (Or.inl rfl) (pe_call T.I.okItems (hr.mono (by decide)) rfl T.I.items.m T.I.items.F.kp T.I.items.b .nil pass0 (pa_cons (pv 1) (pa_cons pe_int pa_nil))))
(pss_cons (ps_if (PW.pt (pw_or (pt_cmp (pc_notN (pe_call (ok_told32 T) (hr.mono (by decide)) rfl T.told.m T.told.F.kp T.told.b .nil pass0 (pa_cons (pv 3) pa_nil)))) (pw_or1 (pt_cmp (pc_notN (pe_call (ok_told32 T) (hr.mono (by decide)) rfl T.told.m T.told.F.kp T.told.b .nil pass0 (pa_cons (pe_callTy (show CallR _ (.type "tuple") (rTupO K) from call_tupO) (by rfl) T.D.mTup (by decide +kernel) (pa_cons (pv 3) pa_nil)) pa_nil))))))) (pss_one (ps_ret pe_bl)) pss_nil)
(pss_cons (ps_for PassesOwn.never rfl (pi_range1 (by rfl) T.D.mR (pa_cons (pe_op op_add pe_int (pe_call T.D.okDraw (hr.mono (by decide)) rfl T.D.draw.m T.D.draw.F.kp T.D.draw.b .nil pass0 (pa_cons (pv 1) (pa_cons pe_int pa_nil)))) pa_nil)) (pg_name (i := 4) scLaw32.nd rfl (Or.inl rfl))
(pss_cons (ps_set (i := 5) scLaw32.nd rfl (Or.inl rfl) (pe_call T.D.okDraw (hr.mono (by decide)) rfl T.D.draw.m T.D.draw.F.kp T.D.draw.b .nil pass0 (pa_cons (pv 1) (pa_cons (pe_op op_add (pe_callB call_len_seq (by rfl) T.D.mL PySem.boot_len (pa_cons (pv 3) pa_nil)) pe_int) pa_nil))))
(pss_cons (ps_set (i := 6) scLaw32.nd rfl (Or.inl rfl) (pe_slice sl_list (pv 3) (po_some (pe_op op_add (pv 5) (pe_call T.D.okDraw (hr.mono (by decide)) rfl T.D.draw.m T.D.draw.F.kp T.D.draw.b .nil pass0 (pa_cons (pv 1) (pa_cons pe_int pa_nil))))) po_none))
(pss_one (ps_set (i := 3) scLaw32.nd rfl (Or.inl rfl) (pe_op op_cat (pe_op op_cat (pe_slice sl_list (pv 3) po_none (po_some (pv 5))) (pe_lst (pa_cons (pe_call (ok_odd32 T) (hr.mono (by decide)) rfl T.odd.m T.odd.F.kp T.odd.b .nil pass0 (pa_cons (pv 1) pa_nil)) pa_nil))) (pv 6)))))))
(pss_cons (ps_setLc (i := 7) (own := [("_law_at", 5), ("_law_item", 8)]) (g := gTup K 2 (gCons (gName 5) (gCons (gName 8) gNil))) (by rfl) scLaw32.nd rfl rfl (sw_true rfl rfl rfl (by decide +kernel)) (pi_enum (by rfl) T.Y.mEn (pa_cons (pv 3) pa_nil))
 (blkOk_by (N := ["_law_script", "_law_deal_here", "_law_turn", "_law_items_here", "_law_more", "_law_at", "_law_rest", "_law_wrong", "_law_item", "_law_thing"]) (sc := defScope sLaw32) (by decide +kernel)) (fun _ _ _ _ _ => (pg_tup (by rfl) (pgs_cons (pg_name (i := 5) scLaw32.nd rfl (Or.inl rfl)) (pgs_cons (pg_name (i := 8) scLaw32.nd rfl (Or.inl rfl)) pgs_nil)))) (fun _ _ _ _ _ => pts_one (pt_not (pt_val (pe_call (ok_ltri32 T) (hr.mono (by decide)) rfl T.ltri.m T.ltri.F.kp T.ltri.b .nil pass0 (pa_cons (pv 8) pa_nil))))) (fun _ _ _ _ _ => (pv 5)))
(pss_cons (ps_if (pt_cmpR op_ne (pe_callB (show CallR _ (.builtin "repr") rReprN from call_reprN) (by rfl) T.mRepr (by decide +kernel) (pa_cons (pe_call (ok_told32 T) (hr.mono (by decide)) rfl T.told.m T.told.F.kp T.told.b .nil pass0 (pa_cons (pv 3) pa_nil)) pa_nil)) (pe_callB (show CallR _ (.builtin "repr") rReprN from call_reprN) (by rfl) T.mRepr (by decide +kernel) (pa_cons (pe_ifExp (pt_cmpR (op_neD (roomLw hr)) (pv 7) (pe_lst pa_nil) (nomark _)) (pe_ix ix_list (pv 7) pe_int (fun _ _ => rfl)) pe_non) pa_nil)) (nomark _)) (pss_one (ps_ret pe_bl)) pss_nil)
(pss_one (ps_if (pt_cmpR (op_neD (roomLw hr)) (pe_lc (own := [("_law_thing", 9)]) (g := gName 9) (by rfl) scLaw32.nd (pi_tup (pe_tup (pa_cons pe_non (pa_cons pe_str (pa_cons pe_str (pa_cons pe_int (pa_cons pe_bl (pa_cons (pe_make0 T.Y.M (ok_lInit T.Y) (hr.mono (by decide)) rfl T.Y.mC T.bL T.vL pass0) pa_nil))))))))
 (blkOk_by (N := ["_law_script", "_law_deal_here", "_law_turn", "_law_items_here", "_law_more", "_law_at", "_law_rest", "_law_wrong", "_law_item", "_law_thing"]) (sc := defScope sLaw32) (by decide +kernel)) (fun _ _ _ _ _ => (pg_name (i := 9) scLaw32.nd rfl (Or.inl rfl))) (fun _ _ _ _ _ => pts_one (pt_cmpR op_ne (pe_call (ok_told32 T) (hr.mono (by decide)) rfl T.told.m T.told.F.kp T.told.b .nil pass0 (pa_cons (pv 9) pa_nil)) pe_int (nomark _))) (fun _ _ _ _ _ => (pv 9))) (pe_lst pa_nil) (nomark _)) (pss_one (ps_ret pe_bl)) pss_nil))))))))
(pss_one (ps_ret (pe_cmp (pc_isN (pe_call (ok_told32 T) (hr.mono (by decide)) rfl T.told.m T.told.F.kp T.told.b .nil pass0 (pa_cons (pe_lst (pa_cons (pe_tup (pa_cons pe_str (pa_cons pe_str (pa_cons pe_str pa_nil)))) (pa_cons (pe_tup (pa_cons pe_str (pa_cons pe_str (pa_cons pe_str pa_nil)))) pa_nil))) pa_nil)))))))), ?_⟩
    have one : 1 ≤ sizeLine := by decide
    have two : 2 ≤ sizeLine := by decide
    have three : 3 ≤ sizeLine := by decide
    have big : (1000 : Nat) ≤ sizeLine := by decide
    refine stepSet (fun v H' => ∃ d g, v = .ref d ∧ DealAt H' d g) (fun Q' hQ => ⟨_, rfl, a, 0, ns, rfl, hS, hl, fun d g H' hD _ => hQ _ _ ⟨d, g, rfl, hD⟩⟩) (fun v H1 hC => ?r1)
    case r1 =>
    obtain ⟨d, g, rfl, hD1⟩ := hC
    try dsimp only [List.set]
    refine ⟨_, rfl, by decide, by decide, for_range (lo := 0) (n := 10) (fun j σ Hc => ∃ y2 y3 y4 y5 y6 y7 y8 y9, σ = [some (.ref a), some (.ref d), y2, y3, y4, y5, y6, y7, y8, y9] ∧ DealAt Hc d g) ⟨_, _, _, _, _, _, _, _, rfl, hD1⟩ (fun j σ Hc hj hP => ?turn) (fun σ Hc hP => ?fin)⟩
    case fin =>
      obtain ⟨_, _, _, _, _, _, _, _, rfl, _⟩ := hP
      refine ⟨three, fun k1 hk1 => ⟨three, fun k2 hk2 => ⟨two, fun o1 ho1 => ?_⟩⟩⟩
      have e1 := Same.new (o := .lst [.ref k1, .ref k2]) ho1 _ _ (Same.new (o := .tup [.str "x", .str "c", .str "any"]) hk2 _ _ (upd_same (H := Hc) (a := k1) (o := .tup [.str "x", .str "c", .str "on"])))
      refine ⟨.ref o1, .non, rfl, .inr ⟨[.tuple [.str "x", .str "c", .str "on"], .tuple [.str "x", .str "c", .str "any"]], ⟨o1, _, rfl, .inl (SqL.of upd_same), .cons (.tup (SqT.of e1) (.cons (.str _) (.cons (.str _) (.cons (.str _) .nil)))) (.cons (.tup (SqT.of (Same.new ho1 _ _ upd_same)) (.cons (.str _) (.cons (.str _) (.cons (.str _) .nil)))) .nil)⟩, fun e he => ?_, by show 2 ≤ 30; decide, by decide +kernel⟩, fun H' _ => q _⟩
      simp only [List.mem_cons, List.not_mem_nil, or_false] at he
      rcases he with rfl | rfl
      · exact (oddB_ok (d := .tuple [.str "x", .str "c", .str "on"]) (by decide +kernel)).1
      · exact (oddB_ok (d := .tuple [.str "x", .str "c", .str "any"]) (by decide +kernel)).1
    case turn =>
    obtain ⟨y2, y3, y4, y5, y6, y7, y8, y9, rfl, hDc⟩ := hP
    try dsimp only [List.set]
    refine stepSet (fun v H' => ∃ (l : Addr) (as : List Addr) (ts : List Tri), v = .ref l ∧ DealAt H' d g ∧ hh H' d g l = some (.lst (as.map V.ref)) ∧ TrisIn K (hh H' d g) as ts ∧ ts.length ≤ 8 ∧ ∀ t ∈ ts, goodT t) (fun Q' hQ => ⟨_, rfl, d, g, 8, rfl, hDc, by decide, fun l as ts Ha hDa sa ma e1 hT1 n1 g1 => hQ _ _ ⟨l, as, ts, rfl, hDa, e1, hT1, n1, g1⟩⟩) (fun v H2 hC => ?r2)
    case r2 =>
    obtain ⟨l, as, ts, rfl, hD2, e1, hT1, n1, g1⟩ := hC
    try dsimp only [List.set]
    have hbT : badAt (ts.map triD) = none := badAt_no fun j e hj he => by
      rw [List.getElem?_map] at he
      obtain ⟨t, ht, rfl⟩ := Option.map_eq_some_iff.mp he
      exact goodT_B (g1 t (List.mem_of_getElem? ht))
    have oddT : ∀ e ∈ ts.map triD, OddOk e := fun e he => by
      obtain ⟨t, ht, rfl⟩ := List.mem_map.mp he
      exact odd_tri (goodT_B (g1 t ht))
    have hl30 : (ts.map triD).length ≤ 30 := by rw [List.length_map]; omega
    refine stepNo (fun H' => Same H2 H') (fun Q' hQ => ?c3) (fun H3 s3 => ?r3)
    case c3 =>
      have hA : DpAll K H2 (as.map V.ref) (ts.map triD) := tris_dp (hT1.same hh_sub)
      refine ⟨_, rfl, .ref l, .non, rfl, .inr ⟨_, ⟨l, _, rfl, .inl (SqL.of (hh_sub _ _ e1)), hA⟩, fun e he => (oddT e he).1, hl30, by rw [hbT]⟩, fun Ha sa => ?_⟩
      refine ⟨false, rfl, iteFB rfl ?_⟩
      refine ⟨_, rfl, l, _, rfl, .inl ⟨SqL.of (sa _ _ (hh_sub _ _ e1)), fun p hp => ?_⟩⟩
      have sb := sa.trans (Same.new (o := .tup (as.map V.ref)) hp)
      refine ⟨.ref p, .non, rfl, .inr ⟨_, ⟨p, _, rfl, .inr (SqT.of upd_same), dpAll_same sb _ _ hA⟩, fun e he => (oddT e he).1, hl30, by rw [hbT]⟩, fun Hb sc => ?_⟩
      exact ⟨false, rfl, hQ _ (sb.trans sc)⟩
    case r3 =>
    have hD3 := hD2.same s3
    have e1 := hh_same (d := d) (g := g) s3 _ _ e1
    have hA1 : DpAll K (hh H3 d g) (as.map V.ref) (ts.map triD) := tris_dp (hT1.same (hh_same s3))
    have hl8 : (ts.map triD).length ≤ 8 := by rw [List.length_map]; exact n1
    clear hD2 s3 hT1 hDc hD1 hbT hl30 n1 g1
    try dsimp only [List.set]
    generalize as.map V.ref = vs0 at e1 hA1
    generalize ts.map triD = ds0 at hA1 oddT hl8
    refine ⟨_, rfl, d, g, 2, rfl, hD3, by decide, by decide, fun r H4 r0 r1 hD4 s4 m4 => ?_⟩
    refine ⟨_, _, rfl, rfl, _, rfl, by omega, by omega, for_range (lo := 0) (n := (1 + r).toNat) (fun i σ Hx => ∃ (x4 x5 x6 : Option V) (l : Addr) (vs : List V) (ds : List PyData), σ = [some (.ref a), some (.ref d), some (.int (0 + (j : Int))), some (.ref l), x4, x5, x6, y7, y8, y9] ∧ DealAt Hx d g ∧ hh Hx d g l = some (.lst vs) ∧ DpAll K (hh Hx d g) vs ds ∧ (∀ e ∈ ds, OddOk e) ∧ ds.length ≤ 8 + i)
      ⟨_, _, _, l, vs0, ds0, rfl, hD4, s4 _ _ e1, dpAll_same s4 _ _ hA1, oddT, hl8⟩ (fun i σ Hx hi hP => ?turn2) (fun σ H5 hP => ?fin2)⟩
    case turn2 =>
      obtain ⟨x4, x5, x6, l, vs, ds, rfl, hDx, el, hA, odd, hlen⟩ := hP
      have hvl := dpA_len hA
      try dsimp only [List.set]
      refine ⟨_, rfl, _, rfl, l, _, rfl, .inl (SqL.of (hh_sub _ _ el)), _, _, rfl, rfl, d, g, (vs.length : Int) + 1, rfl, hDx, by omega, by omega, fun k Ha k0 k1 hDa sa ma => ?_⟩
      obtain ⟨k, rfl⟩ : ∃ n : Nat, k = (n : Int) := ⟨k.toNat, by omega⟩
      have ela := sa _ _ el
      try dsimp only [List.set]
      refine ⟨_, rfl, _, rfl, _, rfl, d, g, 2, rfl, hDa, by decide, by decide, fun m Hb m0 m1 hDb sb mb => ?_⟩
      obtain ⟨m, rfl⟩ : ∃ n : Nat, m = (n : Int) := ⟨m.toNat, by omega⟩
      have elb := sb _ _ ela
      refine ⟨_, _, rfl, rfl, ((k + m : Nat) : Int), congrArg V.int (by omega), l, _, rfl, SqL.of (hh_sub _ _ elb), fun pr hpr => ?_⟩
      rw [cut_fromD]
      have npr := hDb.nd hpr
      have hDc := hDb.new (o := .lst (vs.drop (k + m))) hpr
      have sc := hh_new (d := d) (g := g) (o := .lst (vs.drop (k + m))) hpr
      have epr := hh_at (o := .lst (vs.drop (k + m))) hDb hpr
      generalize upd Hb pr (.lst (vs.drop (k + m))) = Hc at hDc sc epr ⊢
      try dsimp only [List.set]
      have elc := sc _ _ elb
      refine ⟨_, rfl, _, rfl, (k : Int), rfl, l, _, rfl, SqL.of (hh_sub _ _ elc), fun p1 hp1 => ?_⟩
      rw [cut_anyT]
      have hDd := hDc.new (o := .lst (vs.take k)) hp1
      have sd := hh_new (d := d) (g := g) (o := .lst (vs.take k)) hp1
      have ep1 := hh_at (o := .lst (vs.take k)) hDc hp1
      generalize upd Hc p1 (.lst (vs.take k)) = Hd at hDd sd ep1 ⊢
      refine ⟨_, rfl, d, g, rfl, hDd, fun v e He hDe se dv oe => ⟨one, fun p2 hp2 => ?_⟩⟩
      have ep1e := se _ _ ep1
      have epre := se _ _ (sd _ _ epr)
      have sf := Same.new (o := .lst [v]) hp2
      have lt1 : (vs.take k).length ≤ vs.length := List.length_take_le' k vs
      have lt2 : (vs.drop (k + m)).length ≤ vs.length := by rw [List.length_drop]; omega
      refine ⟨p1, p2, _, _, rfl, rfl, sf _ _ (hh_sub _ _ ep1e), upd_same, by show (vs.take k).length + 1 ≤ _; omega, fun p3 hp3 => ?_⟩
      have sg := Same.new (o := .lst (vs.take k ++ [v])) hp3
      refine ⟨_, rfl, p3, pr, _, _, rfl, rfl, upd_same, sg _ _ (sf _ _ (hh_sub _ _ epre)), by rw [List.length_append]; show (vs.take k).length + 1 + _ ≤ _; omega, fun p4 hp4 => ?_⟩
      try dsimp only [List.set]
      have sabc : Same (hh Hx d g) (hh Hd d g) := ((sa.trans sb).trans sc).trans sd
      have hDf := (hDe.new (o := .lst [v]) hp2).new (o := .lst (vs.take k ++ [v])) hp3
      have sh : Same (hh He d g) (hh (upd (upd (upd He p2 (.lst [v])) p3 (.lst (vs.take k ++ [v]))) p4 (.lst (vs.take k ++ [v] ++ vs.drop (k + m)))) d g) := ((hh_new hp2).trans (hh_new hp3)).trans (hh_new hp4)
      have sx := (sabc.trans se).trans sh
      refine ⟨_, _, _, p4, vs.take k ++ [v] ++ vs.drop (k + m), ds.take k ++ [e] ++ ds.drop (k + m), rfl, hDf.new hp4, hh_at hDf hp4, ?_, fun x hx => ?_, ?_⟩
      · exact dpAll_append (dpAll_append (dpAll_same sx _ _ (dpAll_take k hA)) (.cons (dp_same sh _ _ dv) .nil)) (dpAll_same sx _ _ (dpAll_drop (k + m) hA))
      · rcases List.mem_append.mp hx with hx | hx
        · rcases List.mem_append.mp hx with hx | hx
          · exact odd x (List.mem_of_mem_take hx)
          · rw [List.mem_singleton.mp hx]; exact oe
        · exact odd x (List.mem_of_mem_drop hx)
      · have q1 : (ds.take k).length = min k ds.length := List.length_take
        rw [List.length_append, List.length_append, List.length_drop, q1]
        show min k ds.length + 1 + _ ≤ _
        omega
    case fin2 =>
    clear e1 hA1 oddT hl8 hD3 hD4 s4 m4
    obtain ⟨x4, x5, x6, l, vs, ds, rfl, hD5, el, hA, odd, hlen⟩ := hP
    have hlen : ds.length ≤ 10 := by omega
    try dsimp only [List.set]
    have hvl := dpA_len hA
    have elH := hh_sub _ _ el
    have hAH := dpAll_same hh_sub _ _ hA
    refine stepSet (fun v H' => ∃ W, v = .ref W ∧ Same H5 H' ∧ H' W = some (.lst ((bads ds ds.length).map natV))) (fun Q' hQ => ?c6) (fun v H6 hC => ?r6)
    case c6 =>
      refine ⟨_, rfl, l, _, rfl, SqL.of elH, fun D hD => lc_it (n := vs.length) walk_enum (fun i Hi => Same H5 Hi ∧ Hi D = some (.lst ((bads ds i).map natV))) ⟨Same.new hD, upd_same⟩ (fun i Hi _ hP => SqL.of (hP.1 _ _ elH)) (fun i x Hi Hi' hi hP hY => ?_) (fun Hi hP => ?_)⟩
      · obtain ⟨si, eD⟩ := hP
        obtain ⟨T', xx, yy, rfl, hT', rfl, e1, e2⟩ := hY
        obtain rfl : V.int (i : Nat) = xx := Option.some.inj e1
        have e2 : vs[i]? = some yy := e2
        obtain ⟨e, he, dp⟩ := dpA_at hAH e2
        have st := Same.new (o := .tup [.int (i : Nat), yy]) hT'
        refine ⟨T', _, rfl, SqT.of upd_same, rfl, _, _, rfl, _, _, rfl, rfl, rfl, ?_⟩
        have s2 := si.trans st
        refine ⟨_, rfl, yy, e, rfl, dp_same s2 _ _ dp, (odd e (List.mem_of_getElem? he)).1, fun H2 s3 => ⟨_, rfl, ?_⟩⟩
        have eD2 := s3 _ _ (st _ _ eD)
        have hbl : (bads ds i).length ≤ i := Nat.le_trans (List.length_filter_le _ _) (by rw [List.length_range]; exact Nat.le_refl _)
        cases hb : triDB e with
        | true =>
          refine iteF ⟨s2.trans s3, ?_⟩
          rw [bads_succ he, if_pos hb]
          exact eD2
        | false =>
          refine iteT ⟨_, rfl, _, eD2, small1000 (by rw [List.length_map]; omega), fun b o eb => ?_, ?_⟩
          · rw [upd_ne (ne_of_none eb hD)]
            exact s3 _ _ (s2 _ _ eb)
          · rw [upd_same, bads_succ he, if_neg (by rw [hb]; decide), List.map_append]
            rfl
      · obtain ⟨si, eD⟩ := hP
        rw [hvl] at eD
        exact hQ _ _ ⟨D, rfl, si, eD⟩
    case r6 =>
    obtain ⟨W, rfl, s6, eW⟩ := hC
    have hD6 := hD5.same s6
    have elH := s6 _ _ elH
    have hAH := dpAll_same s6 _ _ hAH
    clear s6 hD5 el hA
    try dsimp only [List.set]
    have hbl : (bads ds ds.length).length ≤ 10 := Nat.le_trans (List.length_filter_le _ _) (by rw [List.length_range]; omega)
    refine stepNo (fun H' => Same H6 H') (fun Q' hQ => ?c7) (fun H7 s7 => ?r7)
    case c7 =>
      refine ⟨_, rfl, .ref l, _, rfl, .inr ⟨ds, ⟨l, vs, rfl, .inl (SqL.of elH), hAH⟩, fun e he => (odd e he).1, by omega, rfl⟩, fun Ha sa => ?_⟩
      cases hb : badAt ds with
      | none =>
        refine .inl ⟨rfl, ?_⟩
        have ew : bads ds ds.length = [] := bads_none hb
        rw [ew] at eW
        refine ⟨_, rfl, Nat.zero_le _, fun L hL => ?_⟩
        refine ⟨.list (([] : List Nat).map natD), .list [], .lst (SqL.of (Same.new hL _ _ (sa _ _ eW))) (nats_dp []), .lst (SqL.of upd_same) .nil, nats_sh _, by decide +kernel, _, rfl, ?_⟩
        rw [nats_nil]
        refine iteFB rfl ?_
        refine .inl ⟨rfl, ?_⟩
        exact rNe_same rfl ⟨false, rfl, hQ _ (sa.trans (Same.new hL))⟩
      | some n =>
        obtain ⟨hn, _⟩ := badAt_some hb
        obtain ⟨rest, ew⟩ := bads_some hb
        have tell : ((n : Nat) : Int).natAbs.log2 < 1920 := by
          have : n < 2 ^ 10 := by show n < 1024; omega
          have h0 : ((n : Nat) : Int).natAbs = n := Int.natAbs_natCast n
          rw [h0]
          rcases Nat.eq_zero_or_pos n with rfl | hp
          · decide
          · have := (Nat.log2_lt (by omega)).mpr this
            omega
        refine .inr ⟨(n : Int), rfl, tell, ?_⟩
        rw [ew] at eW hbl
        refine ⟨_, rfl, Nat.zero_le _, fun L hL => ?_⟩
        refine ⟨.list ((n :: rest).map natD), .list [], .lst (SqL.of (Same.new hL _ _ (sa _ _ eW))) (nats_dp _), .lst (SqL.of upd_same) .nil, nats_sh _, by decide +kernel, _, rfl, ?_⟩
        rw [nats_nil]
        refine iteTB rfl ?_
        refine ⟨_, rfl, W, _, 0, natV n, rfl, rfl, SqL.of (Same.new hL _ _ (sa _ _ eW)), atI_nat (xs := (n :: rest).map natV) (j := 0) rfl, ?_⟩
        refine .inr ⟨(n : Int), rfl, tell, ?_⟩
        exact rNe_same rfl ⟨false, rfl, hQ _ (sa.trans (Same.new hL))⟩
    case r7 =>
    have hD7 := hD6.same s7
    clear s7 hD6 eW elH hAH
    try dsimp only [List.set]
    refine stepEndB (fun H' => Same H7 H') (fun Q' hQ => ?c8) (fun H8 s8 => ⟨_, _, _, _, _, _, _, _, rfl, hD7.same s8⟩)
    case c8 =>
      refine fun x dx hx hdx ne => ?_
      refine ⟨x, dx, .ref T.Y.dP, [], rfl, upd_same, ⟨T.Y.dP, [], rfl, .inr (T.Y.hP _), .nil⟩, (fun t ht => nomatch ht), FewT.of (by decide), fun Ha kp hL => ⟨rfl, ?_⟩⟩
      have sa : Same H7 Ha := kpi_same2 hx hdx kp
      obtain ⟨dz, _, _, inz, _⟩ := hL
      refine ⟨(by show 6 ≤ sizeLine; decide), fun p hp => ⟨p, rfl, ⟨_, SqT.of upd_same⟩, fun D hD => ?_⟩⟩
      have sb := Same.new (o := .tup [.non, .str "", .str "x c on", .int 4, .bl true, .ref x]) hp
      have ep : upd Ha p (.tup [.non, .str "", .str "x c on", .int 4, .bl true, .ref x]) p = some (.tup [.non, .str "", .str "x c on", .int 4, .bl true, .ref x]) := upd_same
      have inz2 := sb _ _ inz
      generalize upd Ha p (.tup [.non, .str "", .str "x c on", .int 4, .bl true, .ref x]) = Hb at hD sb ep inz2 ⊢
      have all : ∀ v ∈ ([.non, .str "", .str "x c on", .int 4, .bl true, .ref x] : List V), NoSqz K Hb v := by
        intro v hv
        simp only [List.mem_cons, List.not_mem_nil, or_false] at hv
        rcases hv with rfl | rfl | rfl | rfl | rfl | rfl
        · exact nosqz_d .non rfl
        · exact nosqz_d (.str _) rfl
        · exact nosqz_d (.str _) rfl
        · exact nosqz_d (.int _) rfl
        · exact nosqz_d (.bl _) rfl
        · exact ⟨_, .base (.ins inz2 T.Y.cl T.cA T.F.cN T.F.cT T.cM), T.kL, fun H' s' => .base (.ins (s' _ _ inz2) T.Y.cl T.cA T.F.cN T.F.cT T.cM)⟩
      refine lc_tup (xs := [.non, .str "", .str "x c on", .int 4, .bl true, .ref x]) (fun i Hi => Same Hb Hi ∧ Hi D = some (.lst ((List.range i).filterMap fun _ => (none : Option V)))) ⟨Same.new hD, upd_same⟩ (fun _ _ _ hP => Same.sqt hP.1 (SqT.of ep)) (lc_keep (by show 6 ≤ 10000; decide) (fun i v Hi S YY hv si hS hY => ?_) hD) (fun Hi hP => ?_)
      · refine ⟨rfl, _, rfl, v, .int 0, rfl, .inl ⟨(all v (List.mem_of_getElem? hv)).same si, rfl⟩, fun Hj sj => ⟨rfl, _, rfl, ?_⟩⟩
        exact iteFB rfl (hS rfl _ sj)
      · obtain ⟨s9, e9⟩ := hP
        have en : (List.range ([.non, .str "", .str "x c on", .int 4, .bl true, .ref x] : List V).length).filterMap (fun _ => (none : Option V)) = [] := rfl
        rw [en] at e9
        refine ⟨Nat.zero_le _, fun L hL => ?_⟩
        refine neD_sameB (d := .list []) (.lst (SqL.of (Same.new hL _ _ e9)) .nil) (.lst (SqL.of upd_same) .nil) (by decide +kernel) ?_
        exact ⟨false, rfl, hQ _ (sa.trans (sb.trans (s9.trans (Same.new hL))))⟩
end
end Pn

namespace Pn
open PySem PySem.Spec PyProof.Rows L2 TL
theorem tupBQ_ok {K : PySem.W.Frag} {a : Addr} (h : tupBQ K a = true) : TupB K a := by
  unfold tupBQ at h
  split at h
  · rename_i o ho
    rw [Bool.and_eq_true, Bool.and_eq_true] at h
    obtain ⟨h1, h2, h3⟩ := h
    split at h3
    · rename_i its n hd
      have e : its = #[] := Array.eq_empty_of_size_eq_zero (by simpa using h3)
      subst e
      exact ⟨o, n, ho, of_decide_eq_true h1, Option.isNone_iff_eq_none.mp h2, hd⟩
    · cases h3
  · cases h
end Pn

namespace Pn
open PySem PySem.Spec PyProof.Rows L2
theorem facts {P : Program} {w : World} {K : PySem.W.Frag} {h : Heap} {mg : Str → Option Value} {fa : Addr} (X : K.In h) (G : h.Ns mainGlobals mg) (hfa : mg ("law" : Str) = some (.ref fa)) (c : askQ fnQ exQ K = toldQ fnQ) :
    ∃ fd : FuncData, (∀ (s : Shared) (v : Value), BindsTo s fd ⟨[v], []⟩ [("_law_script", v)]) ∧ ∀ base : Heap, K.In base → base.Ns mainGlobals mg → FnOk P w K mg base CX0 15 fa fd ["_law_script"] (spLaw32 K) := by
  have zint : PySem.W.nsIn K mainGlobals "int" = some none := of_decide_eq_true (told_at c 0 0)
  have zstr : PySem.W.nsIn K mainGlobals "str" = some none := of_decide_eq_true (told_at c 0 1)
  have zisinstance : PySem.W.nsIn K mainGlobals "isinstance" = some none := of_decide_eq_true (told_at c 0 2)
  have zlen : PySem.W.nsIn K mainGlobals "len" = some none := of_decide_eq_true (told_at c 0 3)
  have zall : PySem.W.nsIn K mainGlobals "all" = some none := of_decide_eq_true (told_at c 0 4)
  have zabs : PySem.W.nsIn K mainGlobals "abs" = some none := of_decide_eq_true (told_at c 0 5)
  have zrange : PySem.W.nsIn K mainGlobals "range" = some none := of_decide_eq_true (told_at c 0 6)
  have zlist : PySem.W.nsIn K mainGlobals "list" = some none := of_decide_eq_true (told_at c 0 7)
  have ztuple : PySem.W.nsIn K mainGlobals "tuple" = some none := of_decide_eq_true (told_at c 0 8)
  have zset : PySem.W.nsIn K mainGlobals "set" = some none := of_decide_eq_true (told_at c 0 9)
  have zsorted : PySem.W.nsIn K mainGlobals "sorted" = some none := of_decide_eq_true (told_at c 1 0)
  have zenumerate : PySem.W.nsIn K mainGlobals "enumerate" = some none := of_decide_eq_true (told_at c 1 1)
  have zrepr : PySem.W.nsIn K mainGlobals "repr" = some none := of_decide_eq_true (told_at c 1 2)
  have aROWWORDS : PySem.W.nsIn K mainGlobals "ROW_WORDS" = some (some (.ref (He.ga K "ROW_WORDS"))) := of_decide_eq_true (told_at c 1 3)
  have SROWWORDS : ∀ H : Hp, SqT K H (He.ga K "ROW_WORDS") [.str "note", .str "skip", .str "set", .str "keep", .str "back", .str "ref", .str "put", .str "open", .str "part"] := fun H => He.tupB_ok (x := "ROW_WORDS") (vs := [.str "note", .str "skip", .str "set", .str "keep", .str "back", .str "ref", .str "put", .str "open", .str "part"]) (told_at c 1 4) H
  obtain ⟨tkLONGESTNAME, ILONGESTNAME⟩ := He.int_ok X G (x := "LONGEST_NAME") (i := 4) (told_at c 1 5)
  have aisname : PySem.W.nsIn K mainGlobals "is_name" = some (some (.ref (He.ga K "is_name"))) := of_decide_eq_true (told_at c 1 6)
  obtain ⟨fdisname, Yisname⟩ := told_fn c 0
  have Xisname : Fun K "is_name" "is_name" sIsName (He.ga K "is_name") fdisname := fun_of Yisname
  have aissequence : PySem.W.nsIn K mainGlobals "is_sequence" = some (some (.ref (He.ga K "is_sequence"))) := of_decide_eq_true (told_at c 1 7)
  obtain ⟨fdissequence, Yissequence⟩ := told_fn c 1
  have Xissequence : Fun K "is_sequence" "is_sequence" sIsSeq (He.ga K "is_sequence") fdissequence := fun_of Yissequence
  have aLEAVEWORDS : PySem.W.nsIn K mainGlobals "LEAVE_WORDS" = some (some (.ref (He.ga K "LEAVE_WORDS"))) := of_decide_eq_true (told_at c 1 8)
  have SLEAVEWORDS : ∀ H : Hp, SqT K H (He.ga K "LEAVE_WORDS") [.str "on", .str "any"] := fun H => He.tupB_ok (x := "LEAVE_WORDS") (vs := [.str "on", .str "any"]) (told_at c 1 9) H
  have aistriple : PySem.W.nsIn K mainGlobals "is_triple" = some (some (.ref (He.ga K "is_triple"))) := of_decide_eq_true (told_at c 2 0)
  obtain ⟨fdistriple, Yistriple⟩ := told_fn c 2
  have Xistriple : Fun K "is_triple" "is_triple" sIsTri (He.ga K "is_triple") fdistriple := fun_of Yistriple
  have aneedtriples : PySem.W.nsIn K mainGlobals "need_triples" = some (some (.ref (He.ga K "need_triples"))) := of_decide_eq_true (told_at c 2 1)
  obtain ⟨fdneedtriples, Yneedtriples⟩ := told_fn c 3
  have Xneedtriples : Fun K "need_triples" "need_triples" sNeedT (He.ga K "need_triples") fdneedtriples := fun_of Yneedtriples
  have arightsof : PySem.W.nsIn K mainGlobals "rights_of" = some (some (.ref (He.ga K "rights_of"))) := of_decide_eq_true (told_at c 2 2)
  obtain ⟨fdrightsof, Yrightsof⟩ := told_fn c 4
  have Xrightsof : Fun K "rights_of" "rights_of" sRights (He.ga K "rights_of") fdrightsof := fun_of Yrightsof
  have aLeaves : PySem.W.nsIn K mainGlobals "Leaves" = some (some (.ref (He.ga K "Leaves"))) := of_decide_eq_true (told_at c 2 3)
  have inLeaves : PySem.W.findIn K (.ref (He.ga K "Leaves")) "__init__" = some (some (.ref (He.ma K (He.ga K "Leaves") "__init__"))) := of_decide_eq_true (told_at c 2 4)
  have iLeaves : PySem.W.isFn K (.ref (He.ma K (He.ga K "Leaves") "__init__")) = true := (told_at c 2 5)
  have SDLeaves : ∀ H : Hp, SqT K H (He.dflAt ("Leaves", some "__init__") 0 K) [] := fun H => tupQ_ok (vs := []) (told_at c 2 6) H
  obtain ⟨fdLeaves, YLeaves⟩ := told_fn c 5
  have FLeaves : FunD K "__init__" "Leaves.__init__" (defArgs sLInit) (defBody sLInit) (defScope sLInit) [.ref (He.dflAt ("Leaves", some "__init__") 0 K)] [] (He.ma K (He.ga K "Leaves") "__init__") fdLeaves := YLeaves
  have pgLeaves : PySem.W.plainGet K (He.ga K "Leaves") Str.empty = true := (told_at c 2 7)
  have hdLeaves : PySem.W.hasDictIn K (He.ga K "Leaves") = true := (told_at c 2 8)
  have poLeaves : PySem.W.plainOver K (He.ga K "Leaves") = true := (told_at c 2 9)
  have saLeaves : PySem.W.findIn K (.ref (He.ga K "Leaves")) "__setattr__" = some (some (.builtin "object.__setattr__")) := of_decide_eq_true (told_at c 3 0)
  have mkLeaves : PySem.W.makesIn K (He.ga K "Leaves") = true := (told_at c 3 1)
  have kcLeaves : PySem.W.keepIn K (.ref (He.ga K "Leaves")) = true := (told_at c 3 2)
  have nLeaves0 : PySem.W.findIn K (.ref (He.ga K "Leaves")) "rights" = some none := of_decide_eq_true (told_at c 3 3)
  have aNoteError : PySem.W.nsIn K mainGlobals "NoteError" = some (some (.ref (He.ga K "NoteError"))) := of_decide_eq_true (told_at c 3 4)
  have aInvalidLeaves : PySem.W.nsIn K mainGlobals "InvalidLeaves" = some (some (.ref (He.ga K "InvalidLeaves"))) := of_decide_eq_true (told_at c 3 5)
  have xInvalidLeaves := excQ_ok (K := K) (C := (He.ga K "InvalidLeaves")) (nid := "ValueError.__new__") (told_at c 3 6)
  have saInvalidLeaves : PySem.W.findIn K (.ref (He.ga K "InvalidLeaves")) "__setattr__" = some (some (.builtin "object.__setattr__")) := of_decide_eq_true (told_at c 3 7)
  have gaInvalidLeaves : PySem.W.findIn K (.ref (He.ga K "InvalidLeaves")) "__getattribute__" = some (some (.builtin "BaseException.__getattribute__")) := of_decide_eq_true (told_at c 3 8)
  have ggInvalidLeaves : PySem.W.findIn K (.ref (He.ga K "InvalidLeaves")) "__getattr__" = some (none) := of_decide_eq_true (told_at c 3 9)
  have nfInvalidLeaves : PySem.W.findIn K (.ref (He.ga K "InvalidLeaves")) "at" = some (none) := of_decide_eq_true (told_at c 4 0)
  have inInvalidLeaves : PySem.W.findIn K (.ref (He.ga K "InvalidLeaves")) "__init__" = some (some (.ref (He.ma K (He.ga K "InvalidLeaves") "__init__"))) := of_decide_eq_true (told_at c 4 1)
  have haInvalidLeaves : PySem.W.findIn K (.ref (He.ga K "InvalidLeaves")) "__class__" = some (some (.builtin "object.__class__")) := of_decide_eq_true (told_at c 4 2)
  have tiInvalidLeaves : PySem.W.typeIn K (.ref (He.ma K (He.ga K "InvalidLeaves") "__init__")) = some (.type "function") := of_decide_eq_true (told_at c 4 3)
  obtain ⟨fdInvalidLeaves, YInvalidLeaves⟩ := told_fn c 6
  have XInvalidLeaves : Fun K "__init__" "InvalidLeaves.__init__" sILInit (He.ma K (He.ga K "InvalidLeaves") "__init__") fdInvalidLeaves := fun_of YInvalidLeaves
  have kcInvalidLeaves : PySem.W.keepIn K (.ref (He.ga K "InvalidLeaves")) = true := (told_at c 4 4)
  have eCInvalidLeaves : PySem.W.subIn K (.ref (He.ga K "InvalidLeaves")) (.type "BaseException") = some true := of_decide_eq_true (told_at c 4 5)
  have tCInvalidLeaves : PySem.W.typeIn K (.ref (He.ga K "InvalidLeaves")) = some (.type "type") := of_decide_eq_true (told_at c 4 6)
  have hCInvalidLeaves : PySem.W.hasDictIn K (He.ga K "InvalidLeaves") = true := (told_at c 4 7)
  have iCInvalidLeaves : PySem.W.isClsIn K (He.ga K "InvalidLeaves") = true := (told_at c 4 8)
  have sCInvalidLeaves : PySem.W.subIn K (.ref (He.ga K "InvalidLeaves")) (.ref (He.ga K "InvalidLeaves")) = some true := of_decide_eq_true (told_at c 4 9)
  have hmInvalidLeaves : PySem.W.mroIn K (He.ga K "InvalidLeaves") (.type "object") = some true := of_decide_eq_true (told_at c 5 0)
  have aInvalidFilling : PySem.W.nsIn K mainGlobals "InvalidFilling" = some (some (.ref (He.ga K "InvalidFilling"))) := of_decide_eq_true (told_at c 5 1)
  have alawdeal : PySem.W.nsIn K mainGlobals "_law_deal" = some (some (.ref (He.ga K "_law_deal"))) := of_decide_eq_true (told_at c 5 2)
  obtain ⟨fdlawdeal, Ylawdeal⟩ := told_fn c 7
  have Xlawdeal : Fun K "_law_deal" "_law_deal" sDeal (He.ga K "_law_deal") fdlawdeal := fun_of Ylawdeal
  have alawdraw : PySem.W.nsIn K mainGlobals "_law_draw" = some (some (.ref (He.ga K "_law_draw"))) := of_decide_eq_true (told_at c 5 3)
  obtain ⟨fdlawdraw, Ylawdraw⟩ := told_fn c 8
  have Xlawdraw : Fun K "_law_draw" "_law_draw" sDraw (He.ga K "_law_draw") fdlawdraw := fun_of Ylawdraw
  have alawpick : PySem.W.nsIn K mainGlobals "_law_pick" = some (some (.ref (He.ga K "_law_pick"))) := of_decide_eq_true (told_at c 5 4)
  obtain ⟨fdlawpick, Ylawpick⟩ := told_fn c 9
  have Xlawpick : Fun K "_law_pick" "_law_pick" sPick (He.ga K "_law_pick") fdlawpick := fun_of Ylawpick
  have alawvalue : PySem.W.nsIn K mainGlobals "_law_value" = some (some (.ref (He.ga K "_law_value"))) := of_decide_eq_true (told_at c 5 5)
  obtain ⟨fdlawvalue, Ylawvalue⟩ := told_fn c 10
  have Xlawvalue : Fun K "_law_value" "_law_value" sValue (He.ga K "_law_value") fdlawvalue := fun_of Ylawvalue
  have alawitems : PySem.W.nsIn K mainGlobals "_law_items" = some (some (.ref (He.ga K "_law_items"))) := of_decide_eq_true (told_at c 5 6)
  obtain ⟨fdlawitems, Ylawitems⟩ := told_fn c 11
  have Xlawitems : Fun K "_law_items" "_law_items" sItems (He.ga K "_law_items") fdlawitems := fun_of Ylawitems
  have alawtold : PySem.W.nsIn K mainGlobals "_law_told" = some (some (.ref (He.ga K "_law_told"))) := of_decide_eq_true (told_at c 5 7)
  obtain ⟨fdlawtold, Ylawtold⟩ := told_fn c 12
  have Xlawtold : Fun K "_law_told" "_law_told" sTold32 (He.ga K "_law_told") fdlawtold := fun_of Ylawtold
  have alawisname : PySem.W.nsIn K mainGlobals "_law_is_name" = some (some (.ref (He.ga K "_law_is_name"))) := of_decide_eq_true (told_at c 5 8)
  obtain ⟨fdlawisname, Ylawisname⟩ := told_fn c 13
  have Xlawisname : Fun K "_law_is_name" "_law_is_name" sLName (He.ga K "_law_is_name") fdlawisname := fun_of Ylawisname
  have alawistriple : PySem.W.nsIn K mainGlobals "_law_is_triple" = some (some (.ref (He.ga K "_law_is_triple"))) := of_decide_eq_true (told_at c 5 9)
  obtain ⟨fdlawistriple, Ylawistriple⟩ := told_fn c 14
  have Xlawistriple : Fun K "_law_is_triple" "_law_is_triple" sLTri (He.ga K "_law_is_triple") fdlawistriple := fun_of Ylawistriple
  have alawodd : PySem.W.nsIn K mainGlobals "_law_odd" = some (some (.ref (He.ga K "_law_odd"))) := of_decide_eq_true (told_at c 6 0)
  obtain ⟨fdlawodd, Ylawodd⟩ := told_fn c 15
  have Xlawodd : Fun K "_law_odd" "_law_odd" sOdd (He.ga K "_law_odd") fdlawodd := fun_of Ylawodd
  have alaw : PySem.W.nsIn K mainGlobals "law" = some (some (.ref (He.ga K "law"))) := of_decide_eq_true (told_at c 6 1)
  obtain ⟨fdlaw, Ylaw⟩ := told_fn c 16
  have Xlaw : Fun K "law" "law" sLaw32 (He.ga K "law") fdlaw := fun_of Ylaw
  have hnGet : PySem.W.specialIn K (.builtin "object.__class__") "__get__" = some (some (.builtin "getset_descriptor.__get__")) := of_decide_eq_true (told_at c 6 2)
  have htGet : PySem.W.takesIn K (.builtin "object.__class__") = some true := of_decide_eq_true (told_at c 6 3)
  have cALeaves : PySem.W.findIn K (.ref (He.ga K "Leaves")) "__class__" = some (some (.builtin "object.__class__")) := of_decide_eq_true (told_at c 6 4)
  have cMLeaves : PySem.W.mroIn K (He.ga K "Leaves") (.type "object") = some true := of_decide_eq_true (told_at c 6 5)
  have kCN : PySem.W.kitOne K (.ref (He.ga K "InvalidLeaves")) (.ref (He.ga K "NoteError")) = some true := of_decide_eq_true (told_at c 6 6)
  have kCF : PySem.W.kitOne K (.ref (He.ga K "InvalidLeaves")) (.ref (He.ga K "InvalidFilling")) = some false := of_decide_eq_true (told_at c 6 7)
  have kLv : PySem.W.kitAny K (.ref (He.ga K "Leaves")) [.type "list", .type "tuple"] = some false := of_decide_eq_true (told_at c 6 8)
  have e := hfa.symm.trans (PySem.W.mg_of X G alaw)
  cases e
  have Mint : mg "int" = none := PySem.W.mg_none_of X G zint
  have Mstr : mg "str" = none := PySem.W.mg_none_of X G zstr
  have Misinstance : mg "isinstance" = none := PySem.W.mg_none_of X G zisinstance
  have Mlen : mg "len" = none := PySem.W.mg_none_of X G zlen
  have Mall : mg "all" = none := PySem.W.mg_none_of X G zall
  have Mabs : mg "abs" = none := PySem.W.mg_none_of X G zabs
  have Mrange : mg "range" = none := PySem.W.mg_none_of X G zrange
  have Mlist : mg "list" = none := PySem.W.mg_none_of X G zlist
  have Mtuple : mg "tuple" = none := PySem.W.mg_none_of X G ztuple
  have Mset : mg "set" = none := PySem.W.mg_none_of X G zset
  have Msorted : mg "sorted" = none := PySem.W.mg_none_of X G zsorted
  have Menumerate : mg "enumerate" = none := PySem.W.mg_none_of X G zenumerate
  have Mrepr : mg "repr" = none := PySem.W.mg_none_of X G zrepr
  let Disname : At K mg "is_name" sIsName ["value"] := ⟨(He.ga K "is_name"), _, Xisname, Xisname.binds (ps := ["value"]) fun _ _ _ _ _ _ us hl => match us, hl with | [_], _ => rfl, PySem.W.mg_of X G aisname⟩
  let Dissequence : At K mg "is_sequence" sIsSeq ["value"] := ⟨(He.ga K "is_sequence"), _, Xissequence, Xissequence.binds (ps := ["value"]) fun _ _ _ _ _ _ us hl => match us, hl with | [_], _ => rfl, PySem.W.mg_of X G aissequence⟩
  let Distriple : At K mg "is_triple" sIsTri ["value"] := ⟨(He.ga K "is_triple"), _, Xistriple, Xistriple.binds (ps := ["value"]) fun _ _ _ _ _ _ us hl => match us, hl with | [_], _ => rfl, PySem.W.mg_of X G aistriple⟩
  let Dneedtriples : At K mg "need_triples" sNeedT ["items"] := ⟨(He.ga K "need_triples"), _, Xneedtriples, Xneedtriples.binds (ps := ["items"]) fun _ _ _ _ _ _ us hl => match us, hl with | [_], _ => rfl, PySem.W.mg_of X G aneedtriples⟩
  let Drightsof : At K mg "rights_of" sRights ["triples"] := ⟨(He.ga K "rights_of"), _, Xrightsof, Xrightsof.binds (ps := ["triples"]) fun _ _ _ _ _ _ us hl => match us, hl with | [_], _ => rfl, PySem.W.mg_of X G arightsof⟩
  obtain ⟨dsLeaves0, vLeaves0, bLeaves0⟩ := FLeaves.binds1 (ps := ["self", "items"]) 1 0 (by simp) rfl fun _ _ _ _ _ _ _ us its hl hi => match us, its, hl, hi with | [_], [_], _, _ => ⟨_, rfl, rfl⟩
  obtain ⟨dsLeaves1, vLeaves1, bLeaves1⟩ := FLeaves.binds1 (ps := ["self", "items"]) 2 1 (by simp) rfl fun _ _ _ _ _ _ _ us its hl hi => match us, its, hl, hi with | [_, _], [_], _, _ => ⟨_, rfl, rfl⟩
  have eLeaves : dsLeaves1 = [] := by cases vLeaves1; rfl
  subst eLeaves
  have OInvalidLeaves : OexC K (He.ga K "InvalidLeaves") := ⟨xInvalidLeaves, saInvalidLeaves, eCInvalidLeaves, tCInvalidLeaves, kcInvalidLeaves⟩
  let EInvalidLeaves : TExc K mg "InvalidLeaves" "InvalidLeaves.__init__" "at" sILInit := { C := (He.ga K "InvalidLeaves"), fI := (He.ma K (He.ga K "InvalidLeaves") "__init__"), fd := _, F := XInvalidLeaves, b := XInvalidLeaves.binds (ps := ["self", "at"]) fun _ _ _ _ _ _ us hl => match us, hl with | [_, _], _ => rfl, m := PySem.W.mg_of X G aInvalidLeaves, O := OInvalidLeaves, iC := inInvalidLeaves, tI := tiInvalidLeaves, noF := nfInvalidLeaves, E := ⟨gaInvalidLeaves, ggInvalidLeaves, eCInvalidLeaves, hCInvalidLeaves, haInvalidLeaves, hnGet, htGet, hmInvalidLeaves⟩, isC := iCInvalidLeaves, te := PySem.W.exm_ref eCInvalidLeaves hCInvalidLeaves tCInvalidLeaves sCInvalidLeaves, xf := ⟨gaInvalidLeaves, ggInvalidLeaves, eCInvalidLeaves, hCInvalidLeaves⟩ }
  let Dlawdeal : At K mg "_law_deal" sDeal ["_law_script", "_law_base"] := ⟨(He.ga K "_law_deal"), _, Xlawdeal, Xlawdeal.binds (ps := ["_law_script", "_law_base"]) fun _ _ _ _ _ _ us hl => match us, hl with | [_, _], _ => rfl, PySem.W.mg_of X G alawdeal⟩
  let Dlawdraw : At K mg "_law_draw" sDraw ["_law_deal_here", "_law_many"] := ⟨(He.ga K "_law_draw"), _, Xlawdraw, Xlawdraw.binds (ps := ["_law_deal_here", "_law_many"]) fun _ _ _ _ _ _ us hl => match us, hl with | [_, _], _ => rfl, PySem.W.mg_of X G alawdraw⟩
  let Dlawpick : At K mg "_law_pick" sPick ["_law_deal_here", "_law_some"] := ⟨(He.ga K "_law_pick"), _, Xlawpick, Xlawpick.binds (ps := ["_law_deal_here", "_law_some"]) fun _ _ _ _ _ _ us hl => match us, hl with | [_, _], _ => rfl, PySem.W.mg_of X G alawpick⟩
  let Dlawvalue : At K mg "_law_value" sValue ["_law_deal_here", "_law_deep"] := ⟨(He.ga K "_law_value"), _, Xlawvalue, Xlawvalue.binds (ps := ["_law_deal_here", "_law_deep"]) fun _ _ _ _ _ _ us hl => match us, hl with | [_, _], _ => rfl, PySem.W.mg_of X G alawvalue⟩
  let Dlawitems : At K mg "_law_items" sItems ["_law_deal_here", "_law_many"] := ⟨(He.ga K "_law_items"), _, Xlawitems, Xlawitems.binds (ps := ["_law_deal_here", "_law_many"]) fun _ _ _ _ _ _ us hl => match us, hl with | [_, _], _ => rfl, PySem.W.mg_of X G alawitems⟩
  let Dlawtold : At K mg "_law_told" sTold32 ["_law_things"] := ⟨(He.ga K "_law_told"), _, Xlawtold, Xlawtold.binds (ps := ["_law_things"]) fun _ _ _ _ _ _ us hl => match us, hl with | [_], _ => rfl, PySem.W.mg_of X G alawtold⟩
  let Dlawisname : At K mg "_law_is_name" sLName ["_law_value_here"] := ⟨(He.ga K "_law_is_name"), _, Xlawisname, Xlawisname.binds (ps := ["_law_value_here"]) fun _ _ _ _ _ _ us hl => match us, hl with | [_], _ => rfl, PySem.W.mg_of X G alawisname⟩
  let Dlawistriple : At K mg "_law_is_triple" sLTri ["_law_value_here"] := ⟨(He.ga K "_law_is_triple"), _, Xlawistriple, Xlawistriple.binds (ps := ["_law_value_here"]) fun _ _ _ _ _ _ us hl => match us, hl with | [_], _ => rfl, PySem.W.mg_of X G alawistriple⟩
  let Dlawodd : At K mg "_law_odd" sOdd ["_law_deal_here"] := ⟨(He.ga K "_law_odd"), _, Xlawodd, Xlawodd.binds (ps := ["_law_deal_here"]) fun _ _ _ _ _ _ us hl => match us, hl with | [_], _ => rfl, PySem.W.mg_of X G alawodd⟩
  let NZ : TChk K mg := { mStr := Mstr, mIsi := Misinstance, mLen := Mlen, mAll := Mall, words := (He.ga K "ROW_WORDS"), mWords := PySem.W.mg_of X G aROWWORDS, hWords := SROWWORDS, tok := tkLONGESTNAME, mLong := ILONGESTNAME, isName := Disname }
  let RZ : TRowz K mg := { N := NZ }
  let FZ : TFilz RZ := { cN := hnGet, cT := htGet, mList := Mlist, mTup := Mtuple, mSet := Mset, mSorted := Msorted, isSeq := Dissequence }
  let YY : TLv FZ := { mEn := Menumerate, lw := (He.ga K "LEAVE_WORDS"), mLW := PySem.W.mg_of X G aLEAVEWORDS, hLW := SLEAVEWORDS, isTri := Distriple, needT := Dneedtriples, rights := Drightsof, C := (He.ga K "Leaves"), mC := PySem.W.mg_of X G aLeaves, fI := (He.ma K (He.ga K "Leaves") "__init__"), fdI := _, dP := (He.dflAt ("Leaves", some "__init__") 0 K), hP := SDLeaves, FI := FLeaves, bI := bLeaves1, M := ⟨mkLeaves, inLeaves, iLeaves, kcLeaves⟩, cl := ⟨pgLeaves, hdLeaves, poLeaves, saLeaves⟩, noR := nLeaves0 }
  let DV : TVal K mg := { mI := Mint, mA := Mabs, mL := Mlen, mR := Mrange, mTup := Mtuple, deal := Dlawdeal, draw := Dlawdraw, pick := Dlawpick, val := Dlawvalue }
  let DI : TItm K mg := { mI := Mint, mA := Mabs, mL := Mlen, mR := Mrange, deal := Dlawdeal, draw := Dlawdraw, pick := Dlawpick, items := Dlawitems }
  let T : TK32 K mg := { D := DV, I := DI, R := RZ, F := FZ, Y := YY, L := EInvalidLeaves, CN := (He.ga K "NoteError"), mCN := PySem.W.mg_of X G aNoteError, kCN := kCN, CF := (He.ga K "InvalidFilling"), mCF := PySem.W.mg_of X G aInvalidFilling, kCF := kCF, told := Dlawtold, lname := Dlawisname, ltri := Dlawistriple, odd := Dlawodd, mRepr := Mrepr, kL := kLv, cA := cALeaves, cM := cMLeaves, dL := dsLeaves0, vL := vLeaves0, bL := bLeaves0 }
  have Flaw : FunD K "law" "law" (defArgs sLaw32) (defBody sLaw32) (defScope sLaw32) [] [] (He.ga K "law") fdlaw := Ylaw
  have blaw := FunD.bindsA (ps := ["_law_script"]) Flaw fun _ _ _ _ _ _ us hl => match us, hl with | [_], _ => rfl
  exact ⟨_, fun s v => blaw s [v] rfl, fun base _ _ => ok_law32 T (Xlaw)⟩
end Pn

open PySem PySem.W PySem.Calls PyProof.Rows
theorem PySem.Challenge.cw_partnotes_k32_leaves_refused_holds : PySem.Challenge.rw_partnotes_k32_leaves_refused.Holds := by
  w_on; o_law
  refine HandSHeadRun.head_any (M := 20000) (r := Pn.rowQ) (q := Pn.progQ) (H := Pn.hookQ 5 Pn.fnQ Pn.exQ) (ob := Pn.seenQ 5 Pn.fnQ Pn.exQ) (loose := Pn.namesQ) (kwd := []) (d := HandSHeadRun.topDef Pn.rowQ.prog 27) (Pn.seenQ_eq 5 Pn.fnQ Pn.exQ)
    (by kernel_rfl) (fun z => by kernel_rfl) Pn.runQ (by kernel_rfl) (by kernel_rfl) (by kernel_rfl) (by rfl) (by first | assumption | decide +kernel) (by decide +kernel) ⟨rfl, rfl, rfl, rfl, rfl, by decide +kernel⟩ ?hw ?hc
  case hw => w_witness2
  case hc =>
    refine L2.walk_ofE (l := PySem.Challenge.rw_partnotes_k32_leaves_refused) (n := 63) (k := 15) (x := "_law_script") (CX := L2.CX0) rfl (by decide) (by kernel_rfl) ⟨rfl, by decide, by decide⟩ ?F (fun _ _ _ _ z => z)
    intro w mg fa h Y G hm
    obtain ⟨K, KX, c⟩ := Y
    have hg : mg ("law" : PySem.Str) = some (.ref fa) := by
      have e : (HandSHeadRun.topDef Pn.rowQ.prog 27).name = ("law" : PySem.Str) := by kernel_rfl
      rw [← e]; exact hm
    obtain ⟨fd, hb, hF⟩ := Pn.facts (P := (PySem.Challenge.rw_partnotes_k32_leaves_refused).prog) (w := w) KX G hg c
    exact ⟨K, fd, Pn.spLaw32 K, KX, hb, fun H a ns hl _ hS => ⟨a, ns, rfl, hS, hl, fun _ => rfl⟩, hF⟩
