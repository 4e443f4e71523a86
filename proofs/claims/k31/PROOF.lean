import PyProof.Rows.All
import Wide.All
import OpenK.AllK
import Wide.FinOn
import HandS.ForMost
import HandS.Wide
import KE.KStateDown
import HandS.Head0
import HandS.Head1
import HandS.Head2
import HandS.HeadEnd
import HandS.HeadHook1
import HandS.HeadHook2
import HandS.Property
import HandS.ClsMeth
import HandS.IsInst
import HandS.Walk
import HandS.Text
import HandS.Exc
import HandS.ExcInit
import HandS.ExcField
import HandS.ExcIs
import HandS.WordsExc
import HandS.TryOnly
import KE.KExcIs
import HandS.ExcCtx
import HandS.ExcInitHot
import HandS.SuiteRaise
import HandS.RaiseFrom
import HandS.Defaults
import HandS.Conv
import HandS.FStr
import KE.KCallOwn
import Flt.Len
import KE.IntTextLaws
import KE.IntTextText
import HandS.HotCalls
import HandS.TupLe
import HandS.RaiseMore
import HandS.OwnEq
import HandS.SlotsOwn
import HandS.NamedTupSort
import HandS.Ends
import HandS.Dict
import HandS.WordsDict
import HandS.Star
import HandS.SetTxt0
import HandS.SetFor
import PyProof.Rows.SortStr
import HandS.SetKeys
import HandS.Strs
import HandS.Comp
import KE.GoesMore
import HandS.Zip
import HandS.Rev
import KE.KDictPairs
import HandS.Style
import PyProof.Rows.StrMeet
import PyProof.EqKinds
import HandS.Iter
import PyProof.NeKinds
import PyProof.ReprLen
import HandS.TupSets
import HandS.TupLen
import KE.KSortTupG
import HandS.Flow
import HandS.Small
import HandS.TupAny
import HandS.More
import KE.KOpsOwn
import OpenK.KOps
import HandS.ListEq
import PySem.Challenge.RW_partnotes_k31_leaves_made
set_option Elab.async false
set_option maxRecDepth 100000
set_option maxHeartbeats 4000000
namespace Pn
open PySem L2
/-! the text by places -/
def top (i : Nat) : Stmt := PySem.Challenge.pw_partnotes_k31_leaves_made.main.body.getD i (.Pass ⟨0, 0, 0, 0⟩)
/-- a def of the top: where it stands, what binds its arguments -/
structure At (K : PySem.W.Frag) (mg : Str → Option Value) (x : Str) (st : Stmt) (ps : List Str) : Type where
  f : Addr
  fd : FuncData
  F : Fun K x x st f fd
  b : Binds K fd ps []
  m : mg x = some (.ref f)
/-- all but what stands at b is as it was -/
def Kp (b : Addr) (H H' : Hp) : Prop := ∀ a o, H a = some o → a ≠ b → H' a = some o
theorem Kp.refl (b : Addr) (H : Hp) : Kp b H H := fun _ _ h _ => h
theorem Kp.trans {b : Addr} {H H1 H2 : Hp} (h : Kp b H H1) (g : Kp b H1 H2) : Kp b H H2 := fun a o e n => g a o (h a o e n) n
theorem Kp.new {b p : Addr} {H H1 : Hp} {o : HO} (h : Kp b H H1) (hp : H1 p = none) : Kp b H (upd H1 p o) := fun a u e n => by
  have z := h a u e n
  rw [upd_ne (ne_of_none z hp)]
  exact z
theorem Kp.box {b : Addr} {H H1 : Hp} {o : HO} (h : Kp b H H1) : Kp b H (upd H1 b o) := fun a u e n => by
  rw [upd_ne n]
  exact h a u e n
theorem Kp.sql {K : PySem.W.Frag} {b a : Addr} {xs : List V} {H H1 : Hp} (h : Kp b H H1) (n : a ≠ b) (s : SqL K H a xs) : SqL K H1 a xs := by
  rcases s with (s | ⟨o, s⟩) | s
  · exact .inl (.inl (h _ _ s n))
  · exact .inl (.inr ⟨o, h _ _ s n⟩)
  · exact .inr s
theorem Kp.sqt {K : PySem.W.Frag} {b a : Addr} {xs : List V} {H H1 : Hp} (h : Kp b H H1) (n : a ≠ b) (s : SqT K H a xs) : SqT K H1 a xs := by
  rcases s with (s | ⟨o, s⟩) | s
  · exact .inl (.inl (h _ _ s n))
  · exact .inl (.inr ⟨o, h _ _ s n⟩)
  · exact .inr s
theorem Kp.same {b : Addr} {H H1 : Hp} (h : Same H H1) : Kp b H H1 := fun a o e _ => h a o e
/-- the heap but for what stands at b -/
def hid (H : Hp) (b : Addr) : Hp := fun a => if a = b then none else H a
theorem hid_sub {H : Hp} {b : Addr} : Same (hid H b) H := fun a o e => by
  unfold hid at e
  by_cases h : a = b
  · rw [if_pos h] at e
    cases e
  · rw [if_neg h] at e
    exact e
theorem hid_kp {b : Addr} {H H1 : Hp} (h : Kp b H H1) : Same (hid H b) (hid H1 b) := fun a o e => by
  unfold hid at e ⊢
  by_cases n : a = b
  · rw [if_pos n] at e
    cases e
  · rw [if_neg n] at e ⊢
    exact h a o e n
theorem hid_get {b a : Addr} {H : Hp} {o : HO} (h : H a = some o) (n : a ≠ b) : hid H b a = some o := by
  unfold hid
  rw [if_neg n]
  exact h
theorem Same.sqt {K : PySem.W.Frag} {H H' : Hp} {a : Addr} {xs : List V} (e : Same H H') (h : SqT K H a xs) : SqT K H' a xs := by
  rcases h with (h | ⟨o, h⟩) | h
  · exact .inl (.inl (e _ _ h))
  · exact .inl (.inr ⟨o, e _ _ h⟩)
  · exact .inr h
theorem Same.new {H : Hp} {p : Addr} {o : HO} (h : H p = none) : Same H (upd H p o) := fun a u e => by
  rw [upd_ne (ne_of_none e h)]
  exact e
/-- what is new in H' -/
def dif (H H' : Hp) : Hp := fun a => match H a with
  | none => H' a
  | some _ => none
theorem dif_eq {H H' : Hp} {a : Addr} {o : HO} : dif H H' a = some o ↔ H a = none ∧ H' a = some o := by
  unfold dif
  cases h : H a with
  | none => exact ⟨fun e => ⟨rfl, e⟩, fun e => e.2⟩
  | some u => exact ⟨fun e => (nomatch (show (none : Option HO) = some o from e)), fun e => by cases e.1⟩
theorem dif_sub {H H' : Hp} : Same (dif H H') H' := fun _ _ e => (dif_eq.mp e).2
theorem dif_new {H H' : Hp} {a : Addr} {o : HO} (h : H a = none) (h' : H' a = some o) : dif H H' a = some o := dif_eq.mpr ⟨h, h'⟩
/-- what is tracked stays tracked -/
def Mo (H H' : Hp) : Prop := ∀ a, H' a = none → H a = none
theorem Mo.refl (H : Hp) : Mo H H := fun _ h => h
theorem Mo.trans {H H1 H2 : Hp} (h : Mo H H1) (g : Mo H1 H2) : Mo H H2 := fun a e => h a (g a e)
theorem Mo.upd {H : Hp} {p : Addr} {o : HO} : Mo H (upd H p o) := fun a e => by
  by_cases h : a = p
  · subst h
    rw [upd_same] at e
    cases e
  · rw [upd_ne h] at e
    exact e
theorem Kp.mo {b : Addr} {H H' : Hp} {o : HO} (h : Kp b H H') (hb : H' b = some o) : Mo H H' := fun a e => by
  cases q : H a with
  | none => rfl
  | some u =>
    have n : a ≠ b := fun z => by rw [z, hb] at e; cases e
    rw [h a u q n] at e
    cases e
/-- what was new stays: all of H1 but b, which stood in H -/
theorem dif_kp {b : Addr} {H H1 H2 : Hp} {o : HO} (hb : H b = some o) (k : Kp b H1 H2) : Same (dif H H1) (dif H H2) := fun a u e => by
  obtain ⟨e1, e2⟩ := dif_eq.mp e
  exact dif_new e1 (k a u e2 (fun z => by rw [z, hb] at e1; cases e1))
theorem dif_mo {H0 H H1 : Hp} (m : Mo H0 H) : Same (dif H H1) (dif H0 H1) := fun a u e => by
  obtain ⟨e1, e2⟩ := dif_eq.mp e
  exact dif_new (m a e1) e2
mutual
theorem dp_same {K : PySem.W.Frag} {H H' : Hp} (e : Same H H') : ∀ (d : PyData) (v : V), Dp K H v d → Dp K H' v d
  | .none, _, h => by cases h; exact .non
  | .bool _, _, h => by cases h; exact .bl _
  | .int _, _, h => by cases h; exact .int _
  | .str _, _, h => by cases h; exact .str _
  | .list ds, _, h => by
    cases h with
    | lst s a => exact .lst (e.seq s) (dpAll_same e ds _ a)
  | .tuple ds, _, h => by
    cases h with
    | tup s a => exact .tup (Same.sqt e s) (dpAll_same e ds _ a)
  | .dict _, _, h => by cases h
theorem dpAll_same {K : PySem.W.Frag} {H H' : Hp} (e : Same H H') : ∀ (ds : List PyData) (vs : List V), DpAll K H vs ds → DpAll K H' vs ds
  | [], _, h => by cases h; exact .nil
  | d :: ds, _, h => by
    cases h with
    | cons a b => exact .cons (dp_same e d _ a) (dpAll_same e ds _ b)
end
theorem dpAll_append {K : PySem.W.Frag} {H : Hp} : ∀ {vs : List V} {ds : List PyData} {ws : List V} {es : List PyData}, DpAll K H vs ds → DpAll K H ws es → DpAll K H (vs ++ ws) (ds ++ es)
  | _, _, _, _, .nil, g => g
  | _, _, _, _, .cons a b, g => .cons a (dpAll_append b g)
end Pn

namespace Pn
open PySem PySem.Spec PyProof.Rows L2
/-! ### what the top leaves: asked in one run -/
/-- a def that is asked for: where it lies, its names, its statement, its defaults -/
structure DefQ where
  loc : PySem.W.Frag → Addr
  nm : Str
  ql : Str
  st : Stmt
  dv : List He.Dv := []
abbrev FnQ : Type := Option (Str × Str × Addr × Addr × Arguments × FuncBody × Scope × List (Str × Addr))
def fnSeen (K : PySem.W.Frag) (a : Addr) : FnQ := match K.lookup a with
  | some ⟨_, _, .func q, _⟩ => some (q.qualname, q.name, q.builtins, q.globals, q.params, q.body, q.scope, q.closure)
  | _ => none
def DefQ.is (d : DefQ) : FnQ := some (d.ql, d.nm, builtinsNs, mainGlobals, defArgs d.st, .stmts (defBody d.st), defScope d.st, [])
def DefQ.vals (d : DefQ) (K : PySem.W.Frag) : List V := d.dv.map (He.Dv.v K)
def DefQ.good (K : PySem.W.Frag) (d : DefQ) : Bool := match K.lookup (d.loc K) with
  | some ⟨_, _, .func q, _⟩ => PySem.W.keepIn K (.ref (d.loc K)) && (PySem.W.codeIn K q.code d.ql && He.dflB K q.defaults (d.vals K))
  | _ => false
theorem DefQ.funD {K : PySem.W.Frag} {d : DefQ} (e : fnSeen K (d.loc K) = d.is) (c : d.good K = true) : ∃ fd, FunD K d.nm d.ql (defArgs d.st) (defBody d.st) (defScope d.st) (d.vals K) [] (d.loc K) fd := by
  unfold DefQ.good at c
  unfold fnSeen at e
  cases hl : K.lookup (d.loc K) with
  | none => rw [hl] at c; cases c
  | some o =>
    obtain ⟨oc, od, dat, sl⟩ := o
    rw [hl] at c e
    cases dat with
    | func q =>
      obtain ⟨a1, a2, a3, a4, a5, a6, a7, a8, a9, b1, b2, b3, b4, b5, b6⟩ := q
      have e2 : (some (a2, a1, b6, a6, a3, a4, a5, a7) : FnQ) = some (d.ql, d.nm, builtinsNs, mainGlobals, defArgs d.st, .stmts (defBody d.st), defScope d.st, []) := e
      injection e2 with e2
      obtain ⟨rfl, rfl, rfl, rfl, rfl, rfl, rfl, rfl⟩ : a2 = d.ql ∧ a1 = d.nm ∧ b6 = builtinsNs ∧ a6 = mainGlobals ∧ a3 = defArgs d.st ∧ a4 = .stmts (defBody d.st) ∧ a5 = defScope d.st ∧ a7 = [] := by simpa using e2
      have c2 : (PySem.W.keepIn K (.ref (d.loc K)) && (PySem.W.codeIn K b4 d.ql && He.dflB K a8 (d.vals K))) = true := c
      rw [Bool.and_eq_true, Bool.and_eq_true] at c2
      exact ⟨_, ⟨oc, od, a8, a9, b1, b2, b3, b4, b5, sl, rfl, hl, c2.2.1, He.dflB_ok c2.2.2, .inl rfl⟩, c2.1⟩
    | _ => cases c
theorem fun_of {K : PySem.W.Frag} {x ql : Str} {st : Stmt} {f : Addr} {fd : FuncData} (F : FunD K x ql (defArgs st) (defBody st) (defScope st) [] [] f fd) : Fun K x ql st f fd := by
  obtain ⟨⟨oc, od, dV, kV, doc, pm, an, cdv, ct, sl, e, hl, hc, hd, _⟩, hk⟩ := F
  rcases hd with ⟨_, rfl⟩ | ⟨h, _⟩
  · exact ⟨⟨oc, od, kV, doc, pm, an, cdv, ct, sl, e, hl, hc⟩, hk⟩
  · exact absurd rfl h
abbrev Ask : Type := PySem.W.Frag → Bool
def askQ (fn : List DefQ) (ex : List (List Ask)) (K : PySem.W.Frag) : Bool × List FnQ := ((fn.all fun d => d.good K) && ex.all fun l => l.all fun f => f K, fn.map fun d => fnSeen K (d.loc K))
def toldQ (fn : List DefQ) : Bool × List FnQ := (true, fn.map DefQ.is)
/-- what an object leads to: a def's code and defaults, a class's own names, what a tuple or a dict holds -/
def leadsQ (o : Obj) : List Addr := match o.data with
  | .func q => He.refV q.code ++ He.refV q.defaults
  | .cls q => [q.ns]
  | .dict es _ => es.toList.flatMap fun z => He.refV z.val
  | .seq us _ => us.toList.flatMap He.refV
  | .fields us => us.toList.flatMap He.refV
  | _ => []
def levQ (g : Addr → Option Obj) : Nat → List Addr → List Addr
  | 0, as => as
  | n + 1, as => as ++ levQ g n (as.flatMap fun a => match g a with
    | some o => leadsQ o
    | none => [])
/-- the part of the heap that is looked at -/
def partQ (n : Nat) (g : Addr → Option Obj) : PySem.W.Frag := He.frG g (cStatics :: levQ g n [mainGlobals])
def hookQ (n : Nat) (fn : List DefQ) (ex : List (List Ask)) : PySem.W.Hook where
  α := Bool × List FnQ
  obs := fun s => askQ fn ex (partQ n s.heap.get?)
  val := fun _ => toldQ fn
  says := fun _ h => ∃ K : PySem.W.Frag, K.In h ∧ askQ fn ex K = toldQ fn
  of := fun _ _ e => ⟨_, He.frG_in, e⟩
  keeps := fun _ _ _ h k => by
    obtain ⟨K, hK, c⟩ := h
    exact ⟨K, PySem.W.Frag.In.keeps hK k, c⟩
def seenQ (n : Nat) (fn : List DefQ) (ex : List (List Ask)) (s : PySem.W.SharedT) : Bool × List FnQ := askQ fn ex (partQ n (HandSHeadRun.getT s))
theorem seenQ_eq (n : Nat) (fn : List DefQ) (ex : List (List Ask)) (s : PySem.W.SharedT) : seenQ n fn ex s = (hookQ n fn ex).obs s.abs := by
  have e : HandSHeadRun.getT s = s.abs.heap.get? := funext (HandSHeadRun.getT_eq s)
  unfold seenQ
  rw [e]
  rfl
section
variable {fn : List DefQ} {ex : List (List Ask)} {K : PySem.W.Frag}
theorem told_at (c : askQ fn ex K = toldQ fn) (i j : Nat) {l : List Ask} {f : Ask} (hl : ex[i]? = some l := by rfl) (hf : l[j]? = some f := by rfl) : f K = true := by
  have h := congrArg (fun z : Bool × List FnQ => z.1) c
  have h2 : ((fn.all fun d => d.good K) && ex.all fun l => l.all fun f => f K) = true := h
  rw [Bool.and_eq_true, List.all_eq_true, List.all_eq_true] at h2
  exact List.all_eq_true.mp (h2.2 l (List.mem_of_getElem? hl)) f (List.mem_of_getElem? hf)
theorem told_fn (c : askQ fn ex K = toldQ fn) (i : Nat) {d : DefQ} (hd : fn[i]? = some d := by rfl) : ∃ fd, FunD K d.nm d.ql (defArgs d.st) (defBody d.st) (defScope d.st) (d.vals K) [] (d.loc K) fd := by
  have h := congrArg (fun z : Bool × List FnQ => z.1) c
  have h2 : ((fn.all fun d => d.good K) && ex.all fun l => l.all fun f => f K) = true := h
  rw [Bool.and_eq_true, List.all_eq_true] at h2
  have h3 : fn.map (fun d => fnSeen K (d.loc K)) = fn.map DefQ.is := congrArg (fun z : Bool × List FnQ => z.2) c
  have h4 := congrArg (fun l : List FnQ => l[i]?) h3
  simp only [List.getElem?_map, hd, Option.map_some] at h4
  exact DefQ.funD (Option.some.inj h4) (h2.1 d (List.mem_of_getElem? hd))
end
/-- an own exception class -/
def excQ (K : PySem.W.Frag) (C : Addr) (nid : String) : Bool := match K.lookup C with
  | some ⟨.type t, _, .cls cd, sl⟩ => decide (t = "type") && (cd.hasDict && (!cd.hasDel && ((match cd.mro with
    | .ref D :: bm => decide (D = C) && PySem.HandSPX.refsVE bm
    | _ => false) && (match sl.toList with
    | [_, _, _, _, some (.builtin n), _] => decide (n = nid)
    | _ => false))))
  | _ => false
theorem excQ_ok {K : PySem.W.Frag} {C : Addr} {nid : String} (h : excQ K C nid = true) : ∃ nm q N bs bm sn sub ab col dd k0 k1 k2 k3 k5, K.lookup C = some (excClassObj nm q C N bs bm true sn sub ab col dd k0 k1 k2 k3 k5 nid) ∧ PySem.HandSPX.refsVE bm = true := by
  unfold excQ at h
  split at h
  · rename_i t dd cd sl hl
    rw [Bool.and_eq_true, Bool.and_eq_true, Bool.and_eq_true, Bool.and_eq_true] at h
    obtain ⟨h1, h2, h3, h4, h5⟩ := h
    split at h4
    · rename_i D bm hm
      split at h5
      · rename_i k0 k1 k2 k3 n k5 hs
        rw [Bool.and_eq_true] at h4
        obtain ⟨h6, h7⟩ := h4
        have e1 := of_decide_eq_true h1
        have e2 := of_decide_eq_true h6
        have e3 := of_decide_eq_true h5
        obtain ⟨nm, bs, mro, ns, qn, hd, sn, sub, ab, col, del⟩ := cd
        simp only at hm h2 h3
        have e4 : del = false := by simpa using h3
        have e5 : sl = #[k0, k1, k2, k3, some (.builtin n), k5] := by
          obtain ⟨l⟩ := sl
          simp only at hs
          rw [hs]
        subst e1 e2 e3 e4 e5 h2 hm
        exact ⟨nm, qn, ns, bs, bm, sn, sub, ab, col, dd, k0, k1, k2, k3, k5, hl, h7⟩
      · cases h5
    · cases h4
  · cases h
/-- a tuple of the written part -/
def tupQ (K : PySem.W.Frag) (a : Addr) (vs : List He.Dv) : Bool := match K.lookup a with
  | some ⟨.type t, _, .seq its _, _⟩ => decide (t = "tuple") && (decide (its.size ≤ sizeLine) && He.relAll (vs.map (He.Dv.v K)) its.toList)
  | _ => false
theorem tupQ_ok {K : PySem.W.Frag} {a : Addr} {vs : List He.Dv} (h : tupQ K a vs = true) (H : Hp) : SqT K H a (vs.map (He.Dv.v K)) := by
  unfold tupQ at h
  split at h
  · rename_i t d its n sl hl
    rw [Bool.and_eq_true, Bool.and_eq_true] at h
    have e := of_decide_eq_true h.1
    subst e
    exact .inr ⟨_, its, n, hl, rfl, rfl, of_decide_eq_true h.2.1, He.relAll_ok h.2.2⟩
  · cases h
/-- the getter of a property -/
def getterQ (K : PySem.W.Frag) (p : Addr) : Addr := match PySem.W.recIn K p "property" with
  | some (.ref g :: _) => g
  | _ => 0
def propQ (K : PySem.W.Frag) (C : Addr) (nm : Str) : Bool := decide (PySem.W.findIn K (.ref C) nm = some (some (.ref (He.ma K C nm)))) && (decide (PySem.W.specialIn K (.ref (He.ma K C nm)) "__get__" = some (some (.builtin "property.__get__"))) && (decide (PySem.W.takesIn K (.ref (He.ma K C nm)) = some true) &&
  (match PySem.W.recIn K (He.ma K C nm) "property" with
  | some (.ref _ :: _) => true
  | _ => false)))
theorem propQ_ok {K : PySem.W.Frag} {C : Addr} {nm : Str} (h : propQ K C nm = true) : PropOf K C nm (He.ma K C nm) (getterQ K (He.ma K C nm)) := by
  unfold propQ at h
  rw [Bool.and_eq_true, Bool.and_eq_true, Bool.and_eq_true] at h
  obtain ⟨h1, h2, h3, h4⟩ := h
  refine ⟨of_decide_eq_true h1, of_decide_eq_true h2, of_decide_eq_true h3, ?_⟩
  unfold getterQ
  split at h4
  · rename_i g r hr
    exact ⟨r, by rw [hr]⟩
  · cases h4
end Pn

namespace Pn
open PySem PySem.Spec PyProof.Rows L2
/-! ### a classmethod, asked in the same run -/
def cgetQ (K : PySem.W.Frag) (p : Addr) : Addr := match PySem.W.recIn K p "classmethod" with
  | some (.ref g :: _) => g
  | _ => 0
def cfndQ (K : PySem.W.Frag) (C : Addr) (nm : Str) : Bool := match PySem.W.findCls K (.ref C) (.type "type") nm with
  | some (.get (.builtin g) (.ref p) .none (.ref D)) => decide (g = "classmethod.__get__") && (decide (p = He.ma K C nm) && decide (D = C))
  | _ => false
def crecQ (K : PySem.W.Frag) (p : Addr) : Bool := match PySem.W.recIn K p "classmethod" with
  | some (.ref _ :: _) => true
  | _ => false
def cmethQ (K : PySem.W.Frag) (C : Addr) (nm : Str) : Bool := PySem.W.readsIn K C (.type "type") && (decide (PySem.W.specialIn K (.ref C) "__getattribute__" = some (some (.builtin "type.__getattribute__"))) && (cfndQ K C nm && (crecQ K (He.ma K C nm) && PySem.W.fnIn K (cgetQ K (He.ma K C nm)))))
theorem cmethQ_ok {K : PySem.W.Frag} {C : Addr} {nm : Str} (h : cmethQ K C nm = true) : ClX.CRead K C (.type "type") ∧ ClX.CMet K C (.type "type") nm (He.ma K C nm) (cgetQ K (He.ma K C nm)) := by
  unfold cmethQ at h
  rw [Bool.and_eq_true, Bool.and_eq_true, Bool.and_eq_true, Bool.and_eq_true] at h
  obtain ⟨h1, h2, h3, h4, h5⟩ := h
  refine ⟨⟨h1, of_decide_eq_true h2⟩, ⟨?_, ?_, h5⟩⟩
  · unfold cfndQ at h3
    split at h3
    · rename_i g p D e
      rw [Bool.and_eq_true, Bool.and_eq_true] at h3
      obtain ⟨a, b, c⟩ := h3
      have a := of_decide_eq_true a
      have b := of_decide_eq_true b
      have c := of_decide_eq_true c
      rw [e, a, b, c]
    · cases h3
  · unfold crecQ at h4
    unfold cgetQ
    split at h4
    · rename_i g r e
      exact ⟨r, by rw [e]⟩
    · cases h4
end Pn

namespace Pn
open PySem PySem.Spec PyProof.Rows L2
/-- an empty tuple among the loaded objects -/
def tupBQ (K : PySem.W.Frag) (a : Addr) : Bool := match K.lookup a with
  | some o => decide (o.cls = .type "tuple") && (o.dict.isNone && (match o.data with | .seq its _ => its.size == 0 | _ => false))
  | none => false
end Pn

namespace Pn
open PySem PySem.Spec PyProof.Rows L2
/-- a class whose order is itself, then object -/
def mroQ (K : PySem.W.Frag) (C : Addr) : Bool := match PySem.W.clsIn K C with
  | some cd => cd.mro == [.ref C, .type "object"]
  | none => false
theorem mroQ_ok {K : PySem.W.Frag} {C : Addr} (h : mroQ K C = true) : ∃ cd, PySem.W.clsIn K C = some cd ∧ cd.mro = [.ref C, .type "object"] := by
  unfold mroQ at h
  split at h
  · rename_i cd hc
    exact ⟨cd, hc, beq_iff_eq.mp h⟩
  · cases h
end Pn

namespace Pn
open PySem PySem.Spec PyProof.Rows L2
def fnQ0 : List DefQ := [
  { loc := fun K => (He.ga K "is_name"), nm := "is_name", ql := "is_name", st := top 4, dv := [] },
  { loc := fun K => (He.ga K "is_sequence"), nm := "is_sequence", ql := "is_sequence", st := top 5, dv := [] },
  { loc := fun K => (He.ga K "is_triple"), nm := "is_triple", ql := "is_triple", st := top 11, dv := [] },
  { loc := fun K => (He.ga K "need_triples"), nm := "need_triples", ql := "need_triples", st := top 12, dv := [] },
  { loc := fun K => (He.ga K "rights_of"), nm := "rights_of", ql := "rights_of", st := top 13, dv := [] },
  { loc := fun K => (He.ma K (He.ga K "Leaves") "__init__"), nm := "__init__", ql := "Leaves.__init__", st := inClass (top 15) 0, dv := [.adr (He.dflAt ("Leaves", some "__init__") 0)] },
  { loc := fun K => (He.ma K (He.ga K "Leaves") "__eq__"), nm := "__eq__", ql := "Leaves.__eq__", st := inClass (top 15) 11, dv := [] },
  { loc := fun K => (He.ma K (He.ga K "Leaves") "__str__"), nm := "__str__", ql := "Leaves.__str__", st := inClass (top 15) 10, dv := [] },
  { loc := fun K => (getterQ K (He.ma K (He.ga K "Leaves") "pairs")), nm := "pairs", ql := "Leaves.pairs", st := inClass (top 15) 1, dv := [] },
  { loc := fun K => (He.ma K (He.ga K "Leaves") "word_of"), nm := "word_of", ql := "Leaves.word_of", st := inClass (top 15) 2, dv := [] },
  { loc := fun K => (He.ma K (He.ga K "Leaves") "__len__"), nm := "__len__", ql := "Leaves.__len__", st := inClass (top 15) 9, dv := [] },
  { loc := fun K => (He.ga K "_law_deal"), nm := "_law_deal", ql := "_law_deal", st := top 17, dv := [] }]
def fnQ1 : List DefQ := [
  { loc := fun K => (He.ga K "_law_draw"), nm := "_law_draw", ql := "_law_draw", st := top 18, dv := [] },
  { loc := fun K => (He.ga K "_law_pick"), nm := "_law_pick", ql := "_law_pick", st := top 19, dv := [] },
  { loc := fun K => (He.ga K "_law_mixed"), nm := "_law_mixed", ql := "_law_mixed", st := top 20, dv := [] },
  { loc := fun K => (He.ga K "_law_value"), nm := "_law_value", ql := "_law_value", st := top 21, dv := [] },
  { loc := fun K => (He.ga K "_law_items"), nm := "_law_items", ql := "_law_items", st := top 22, dv := [] },
  { loc := fun K => (He.ga K "_law_table"), nm := "_law_table", ql := "_law_table", st := top 23, dv := [] },
  { loc := fun K => (He.ga K "_law_triples"), nm := "_law_triples", ql := "_law_triples", st := top 24, dv := [] },
  { loc := fun K => (He.ga K "law"), nm := "law", ql := "law", st := top 25, dv := [] }]
def fnQ : List DefQ := fnQ0 ++ fnQ1
def exQ0 : List Ask := [
  fun K => decide (PySem.W.nsIn K mainGlobals "int" = some none),
  fun K => decide (PySem.W.nsIn K mainGlobals "str" = some none),
  fun K => decide (PySem.W.nsIn K mainGlobals "isinstance" = some none),
  fun K => decide (PySem.W.nsIn K mainGlobals "len" = some none),
  fun K => decide (PySem.W.nsIn K mainGlobals "all" = some none),
  fun K => decide (PySem.W.nsIn K mainGlobals "abs" = some none),
  fun K => decide (PySem.W.nsIn K mainGlobals "range" = some none),
  fun K => decide (PySem.W.nsIn K mainGlobals "list" = some none),
  fun K => decide (PySem.W.nsIn K mainGlobals "tuple" = some none),
  fun K => decide (PySem.W.nsIn K mainGlobals "set" = some none)]
def exQ1 : List Ask := [
  fun K => decide (PySem.W.nsIn K mainGlobals "sorted" = some none),
  fun K => decide (PySem.W.nsIn K mainGlobals "enumerate" = some none),
  fun K => decide (PySem.W.nsIn K mainGlobals "repr" = some none),
  fun K => decide (PySem.W.nsIn K mainGlobals "ROW_WORDS" = some (some (.ref (He.ga K "ROW_WORDS")))),
  fun K => He.tupB K "ROW_WORDS" [.str "note", .str "skip", .str "set", .str "keep", .str "back", .str "ref", .str "put", .str "open", .str "part"],
  fun K => (He.Fa.int "LONGEST_NAME" 4).ok K,
  fun K => decide (PySem.W.nsIn K mainGlobals "is_name" = some (some (.ref (He.ga K "is_name")))),
  fun K => decide (PySem.W.nsIn K mainGlobals "is_sequence" = some (some (.ref (He.ga K "is_sequence")))),
  fun K => decide (PySem.W.nsIn K mainGlobals "LEAVE_WORDS" = some (some (.ref (He.ga K "LEAVE_WORDS")))),
  fun K => He.tupB K "LEAVE_WORDS" [.str "on", .str "any"]]
def exQ2 : List Ask := [
  fun K => decide (PySem.W.nsIn K mainGlobals "is_triple" = some (some (.ref (He.ga K "is_triple")))),
  fun K => decide (PySem.W.nsIn K mainGlobals "need_triples" = some (some (.ref (He.ga K "need_triples")))),
  fun K => decide (PySem.W.nsIn K mainGlobals "rights_of" = some (some (.ref (He.ga K "rights_of")))),
  fun K => decide (PySem.W.nsIn K mainGlobals "Leaves" = some (some (.ref (He.ga K "Leaves")))),
  fun K => decide (PySem.W.findIn K (.ref (He.ga K "Leaves")) "__init__" = some (some (.ref (He.ma K (He.ga K "Leaves") "__init__")))),
  fun K => PySem.W.isFn K (.ref (He.ma K (He.ga K "Leaves") "__init__")),
  fun K => tupQ K (He.dflAt ("Leaves", some "__init__") 0 K) [],
  fun K => PySem.W.plainGet K (He.ga K "Leaves") Str.empty,
  fun K => PySem.W.hasDictIn K (He.ga K "Leaves"),
  fun K => PySem.W.plainOver K (He.ga K "Leaves")]
def exQ3 : List Ask := [
  fun K => decide (PySem.W.findIn K (.ref (He.ga K "Leaves")) "__setattr__" = some (some (.builtin "object.__setattr__"))),
  fun K => PySem.W.makesIn K (He.ga K "Leaves"),
  fun K => PySem.W.keepIn K (.ref (He.ga K "Leaves")),
  fun K => decide (PySem.W.findIn K (.ref (He.ga K "Leaves")) "rights" = some none),
  fun K => decide (PySem.W.findIn K (.ref (He.ga K "Leaves")) "__eq__" = some (some (.ref (He.ma K (He.ga K "Leaves") "__eq__")))),
  fun K => PySem.W.isFn K (.ref (He.ma K (He.ga K "Leaves") "__eq__")),
  fun K => decide (PySem.W.findIn K (.ref (He.ga K "Leaves")) "__str__" = some (some (.ref (He.ma K (He.ga K "Leaves") "__str__")))),
  fun K => PySem.W.isFn K (.ref (He.ma K (He.ga K "Leaves") "__str__")),
  fun K => propQ K (He.ga K "Leaves") "pairs",
  fun K => decide (PySem.W.findIn K (.ref (He.ga K "Leaves")) "word_of" = some (some (.ref (He.ma K (He.ga K "Leaves") "word_of"))))]
def exQ4 : List Ask := [
  fun K => PySem.W.isFn K (.ref (He.ma K (He.ga K "Leaves") "word_of")),
  fun K => decide (PySem.W.findIn K (.ref (He.ga K "Leaves")) "__len__" = some (some (.ref (He.ma K (He.ga K "Leaves") "__len__")))),
  fun K => PySem.W.isFn K (.ref (He.ma K (He.ga K "Leaves") "__len__")),
  fun K => decide (PySem.W.nsIn K mainGlobals "_law_deal" = some (some (.ref (He.ga K "_law_deal")))),
  fun K => decide (PySem.W.nsIn K mainGlobals "_law_draw" = some (some (.ref (He.ga K "_law_draw")))),
  fun K => decide (PySem.W.nsIn K mainGlobals "_law_pick" = some (some (.ref (He.ga K "_law_pick")))),
  fun K => decide (PySem.W.nsIn K mainGlobals "_law_mixed" = some (some (.ref (He.ga K "_law_mixed")))),
  fun K => decide (PySem.W.nsIn K mainGlobals "_law_value" = some (some (.ref (He.ga K "_law_value")))),
  fun K => decide (PySem.W.nsIn K mainGlobals "_law_items" = some (some (.ref (He.ga K "_law_items")))),
  fun K => decide (PySem.W.nsIn K mainGlobals "_law_table" = some (some (.ref (He.ga K "_law_table"))))]
def exQ5 : List Ask := [
  fun K => decide (PySem.W.nsIn K mainGlobals "_law_triples" = some (some (.ref (He.ga K "_law_triples")))),
  fun K => decide (PySem.W.nsIn K mainGlobals "law" = some (some (.ref (He.ga K "law")))),
  fun K => PySem.W.selfFirst K (He.ga K "Leaves"),
  fun K => decide (PySem.W.kitOne K (.ref (He.ga K "Leaves")) (.ref (He.ga K "Leaves")) = some true),
  fun K => PySem.W.notFirst K (He.ga K "Leaves") (.ref (He.ga K "Leaves")),
  fun K => decide (PySem.W.findIn K (.ref (He.ga K "Leaves")) "__class__" = some (some (.builtin "object.__class__"))),
  fun K => decide (PySem.W.mroIn K (He.ga K "Leaves") (.type "object") = some true),
  fun K => decide (PySem.W.findIn K (.ref (He.ga K "Leaves")) "__ne__" = some (some (.builtin "object.__ne__"))),
  fun K => decide (PySem.W.specialIn K (.builtin "object.__class__") "__get__" = some (some (.builtin "getset_descriptor.__get__"))),
  fun K => decide (PySem.W.takesIn K (.builtin "object.__class__") = some true)]
def exQ6 : List Ask := [
  fun K => decide (PySem.W.mroIn K (He.ga K "Leaves") (.type "str") = some false),
  fun K => decide (PySem.W.kitOne K (.type "NoneType") (.ref (He.ga K "Leaves")) = some false),
  fun K => decide (PySem.W.kitOne K (.type "bool") (.ref (He.ga K "Leaves")) = some false),
  fun K => decide (PySem.W.kitOne K (.type "int") (.ref (He.ga K "Leaves")) = some false),
  fun K => decide (PySem.W.kitOne K (.type "str") (.ref (He.ga K "Leaves")) = some false),
  fun K => decide (PySem.W.kitOne K (.type "list") (.ref (He.ga K "Leaves")) = some false),
  fun K => decide (PySem.W.kitOne K (.type "tuple") (.ref (He.ga K "Leaves")) = some false),
  fun K => decide (PySem.W.kitOne K (.type "dict") (.ref (He.ga K "Leaves")) = some false),
  fun K => PySem.W.notFirst K (He.ga K "Leaves") (.type "NoneType"),
  fun K => PySem.W.notFirst K (He.ga K "Leaves") (.type "bool")]
def exQ7 : List Ask := [
  fun K => PySem.W.notFirst K (He.ga K "Leaves") (.type "int"),
  fun K => PySem.W.notFirst K (He.ga K "Leaves") (.type "str"),
  fun K => PySem.W.notFirst K (He.ga K "Leaves") (.type "list"),
  fun K => PySem.W.notFirst K (He.ga K "Leaves") (.type "tuple"),
  fun K => PySem.W.notFirst K (He.ga K "Leaves") (.type "dict")]
def exR0 : List (List Ask) := [exQ0, exQ1, exQ2, exQ3, exQ4, exQ5, exQ6, exQ7]
def exQ : List (List Ask) := exR0
end Pn
namespace Pn
open PySem PySem.W PySem.Calls PyProof.Rows L2
abbrev rowQ : OpenRow := OpenLaw.row PySem.Challenge.rw_partnotes_k31_leaves_made
abbrev progQ : Program := view rowQ.prog [25]
def namesQ0 : List PySem.Str := ["_wall", "__name__", "ROW_WORDS", "LONGEST_NAME", "is_name", "is_sequence", "NoteError", "InvalidLeaves", "LEAVE_WORDS", "is_triple", "need_triples", "rights_of", "need_leaves", "Leaves", "_law_deal", "_law_draw", "_law_pick", "_law_mixed", "_law_value", "_law_items", "_law_table", "_law_triples"]
def namesQ : List PySem.Str := namesQ0
theorem runQ (w : World) : HandSHeadRun.RunEq rowQ progQ (hookQ 5 fnQ exQ) (seenQ 5 fnQ exQ) 20000 namesQ w := by
  intro os
  kernel_rfl
end Pn

namespace Pn
open PySem L2
/-! ### one statement, with what it comes to -/
/-- x = e, where what e comes to is said by C -/
theorem stepSet {te : TE} {i : Nat} {B : TS} {D : Ends} {σ : L2.St} {H : Hp} (C : V → Hp → Prop) (h1 : ∀ Q' : VK, (∀ v H', C v H' → Q' v H') → te σ H Q') (h2 : ∀ v H', C v H' → B D (σ.set i (some v)) H') : tSeq (tAsg te (gName i)) B D σ H := h1 _ h2
theorem stepNo {tt : TT} {A C : TS} {D : Ends} {σ : L2.St} {H : Hp} (G : Hp → Prop) (h1 : ∀ Q : Bool → Hp → Prop, (∀ H', G H' → Q false H') → tt σ H Q) (h2 : ∀ H', G H' → C D σ H') : tSeq (tIfS tt A tNext) C D σ H := h1 _ fun H' g => by
  rw [if_neg Bool.false_ne_true]
  exact h2 H' g
theorem Same.mo {H H' : Hp} (s : Same H H') : Mo H H' := fun _ e => s.free e
end Pn

namespace Pn
open PySem L2
/-- the two ints of a box of draws -/
def Bx (x y : Int) : Prop := 0 ≤ x ∧ 1 ≤ y ∧ y ≤ 2147483629
section
variable {P : Program} {w : World} {K : PySem.W.Frag} {mg : Str → Option Value} {base : Heap}
/-- what a box is, by its place -/
def BoxAt (H : Hp) (b : Addr) : Prop := ∃ x y : Int, Bx x y ∧ H b = some (.lst [.int x, .int y])
end
end Pn

namespace Pn
open PySem L2
abbrev sIsName : Stmt := top 4
/-! ### what these checks tell of data -/
def rowV : List V := [.str "note", .str "skip", .str "set", .str "keep", .str "back", .str "ref", .str "put", .str "open", .str "part"]
/-- a letter of a name -/
def lok (c : Nat) : Bool := decide (97 ≤ c) && decide (c ≤ 122)
def nameS (z : Str) : Bool := !inV (.str z) rowV && (decide (1 ≤ (z.length : Int)) && decide ((z.length : Int) ≤ 4)) && z.cps.toList.all lok
def nameD : PyData → Bool
  | .str z => nameS z
  | _ => false
def numD : PyData → Bool
  | .int i => decide (0 ≤ i)
  | _ => false
/-- the type of data -/
def tyD : PyData → String
  | .none => "NoneType"
  | .bool _ => "bool"
  | .int _ => "int"
  | .str _ => "str"
  | .list _ => "list"
  | .tuple _ => "tuple"
  | .dict _ => "dict"
theorem dp_ty {K : PySem.W.Frag} {H : Hp} {v : V} {d : PyData} (h : Dp K H v d) : TyX K H v (.type (tyD d)) := by
  cases h with
  | non => exact .base .non
  | bl b => exact .base (.bl b)
  | int i => exact .base (.int i)
  | str x => exact .base (.str x)
  | lst s _ =>
    rcases s with (s | ⟨o, s⟩) | ⟨o, _, _, e, c, _⟩
    · exact .base (.lst s)
    · exact .base (.frz s)
    · exact .kList e c
  | tup s _ =>
    rcases s with (s | ⟨o, s⟩) | ⟨o, _, _, e, c, _⟩
    · exact .base (.tup s)
    · exact .fTuple s
    · exact .kTuple e c
def strT : PyData → Bool
  | .str _ => true
  | _ => false
theorem kit_str : ∀ d : PyData, kitB (tyD d) "str" = some (strT d)
  | .none => (by decide +kernel : kitB "NoneType" "str" = some false)
  | .bool _ => (by decide +kernel : kitB "bool" "str" = some false)
  | .int _ => (by decide +kernel : kitB "int" "str" = some false)
  | .str _ => (by decide +kernel : kitB "str" "str" = some true)
  | .list _ => (by decide +kernel : kitB "list" "str" = some false)
  | .tuple _ => (by decide +kernel : kitB "tuple" "str" = some false)
  | .dict _ => (by decide +kernel : kitB "dict" "str" = some false)
/-! ### a comprehension whose items are told by their places -/
theorem lc_step {H1 : Hp} {D : Addr} {f : Nat → V} {i : Nat} (hi : i < 1000) : ∃ acc, (upd H1 D (.lst ((List.range i).map f))) D = some (.lst acc) ∧ acc.length < sizeLine ∧
    upd (upd H1 D (.lst ((List.range i).map f))) D (.lst (acc ++ [f i])) = upd H1 D (.lst ((List.range (i + 1)).map f)) := by
  refine ⟨_, upd_same, by rw [List.length_map, List.length_range]; exact small1000 (by omega), ?_⟩
  rw [List.range_succ, List.map_append]
  funext b
  by_cases e : b = D
  · rw [e, upd_same, upd_same]
    rfl
  · rw [upd_ne e, upd_ne e, upd_ne e]
theorem range_getD {f : Nat → Bool} : ∀ l : List Nat, (((List.range l.length).map fun i => f (l.getD i 0)).all id) = l.all f := by
  intro l
  have e : (List.range l.length).map (fun i => f (l.getD i 0)) = l.map f := by
    apply List.ext_getElem
    · simp
    · intro i h1 h2
      have h3 : i < l.length := by simpa using h2
      simp [List.getD_eq_getElem?_getD, List.getElem?_eq_getElem h3]
  rw [e]
  simp
theorem lt_one {a b : Nat} : decide ([a] < [b]) = decide (a < b) := by
  by_cases h : a < b
  · rw [decide_eq_true h, decide_eq_true]
    exact List.Lex.rel h
  · rw [decide_eq_false h, decide_eq_false]
    intro z
    cases z with
    | rel r => exact h r
    | cons r => cases r
theorem lok_eq (c : Nat) : (if (!decide ([c] < [97])) = true then (!decide ([122] < [c])) else false) = lok c := by
  rw [lt_one, lt_one]
  unfold lok
  by_cases h1 : c < 97
  · rw [decide_eq_true h1, decide_eq_false (show ¬ 97 ≤ c by omega)]
    rfl
  · rw [decide_eq_false h1, decide_eq_true (show 97 ≤ c by omega)]
    by_cases h2 : 122 < c
    · rw [decide_eq_true h2, decide_eq_false (show ¬ c ≤ 122 by omega)]
      rfl
    · rw [decide_eq_false h2, decide_eq_true (show c ≤ 122 by omega)]
      rfl
section
variable {P : Program} {w : World} {K : PySem.W.Frag} {mg : Str → Option Value} {base : Heap}
structure TChk (K : PySem.W.Frag) (mg : Str → Option Value) : Type where
  mStr : mg "str" = none
  mIsi : mg "isinstance" = none
  mLen : mg "len" = none
  mAll : mg "all" = none
  words : Addr
  mWords : mg "ROW_WORDS" = some (.ref words)
  hWords : ∀ H, SqT K H words rowV
  tok : Tok
  mLong : mg "LONGEST_NAME" = some (.int 4 tok)
  isName : At K mg "is_name" sIsName ["value"]
def dlen : PyData → Prop
  | .str z => z.length ≤ 900
  | _ => True
def spIsName (K : PySem.W.Frag) : Sp := fun vs H Q _ => ∃ (v : V) (d : PyData), vs = [v] ∧ Dp K H v d ∧ dlen d ∧ ∀ H', Same H H' → Mo H H' → Q (.bl (nameD d)) H'
theorem scIsName : FnScope ["value", "letter"] ["value"] (defScope sIsName) := ⟨rfl, rfl, rfl, by decide +kernel, rfl, by decide +kernel, by decide +kernel⟩
theorem TChk.okName (T : TChk K mg) : FnOk P w K mg base CX0 1 T.isName.f T.isName.fd ["value"] (spIsName K) := by
  refine T.isName.F.ok scIsName (fun vs H Q E h => ?_) (fun cdv A outer s H vs Q E hr h => ?_)
  · obtain ⟨v, d, rfl, _⟩ := h
    rfl
  · obtain ⟨v, d, rfl, hd, hl, q⟩ := h
    refine ⟨_, pss_cons (ps_if (PW.pt (pw_or (pt_not (pt_val (pe_callB call_isi (by rfl) T.mIsi (by decide +kernel) (pa_cons (pv 0) (pa_cons (pe_bltn (v := .ty "str") (by rfl) T.mStr (by decide +kernel) rfl) pa_nil)))))
        (pw_or1 (pt_cmpR op_in_seq (pv 0) (pe_glob (v := .ref T.words) (by rfl) T.mWords rfl) rfl)))) (pss_one (ps_ret pe_bl)) pss_nil)
      (pss_one (ps_ret (pe_and (pe_chain op_le op_le pe_int (pe_callB call_len_str (by rfl) T.mLen PySem.boot_len (pa_cons (pv 0) pa_nil)) (pe_glob (v := .int 4) (by rfl) T.mLong ⟨_, rfl⟩))
        (pe_one (pe_callB (cr_all rfl) (by rfl) T.mAll (by decide +kernel) (pa_cons (pe_lc (own := [("letter", 1)]) (g := gName 1) (tt := tYes) (by rfl) scIsName.nd (pi_str (pv 0))
          (blkOk_by (N := ["value", "letter"]) (sc := defScope sIsName) (by decide +kernel)) (fun _ _ _ _ _ => pg_name (i := 1) scIsName.nd rfl (Or.inl rfl)) (fun _ _ _ _ _ => pts_nil)
          (fun _ _ _ _ _ => pe_chain op_le_str op_le_str pe_str (pv 1) pe_str)) pa_nil)))))), ?_⟩
    refine ⟨_, rfl, v, _, _, _, _, rfl, .ty _, dp_ty hd, kit_ty (kit_str d), _, rfl, ?_⟩
    cases d with
    | str z =>
      cases hd
      refine ⟨_, rfl, T.words, rowV, rfl, .inr (T.hWords H), rfl, rfl, _, rfl, ?_⟩
      have hl' : z.length ≤ 900 := hl
      cases e : inV (.str z) rowV with
      | true =>
        have e2 : nameD (.str z) = false := by show nameS z = false; unfold nameS; rw [e]; rfl
        rw [e2] at q
        refine iteT ?_
        exact q H (Same.refl H) (Mo.refl H)
      | false =>
        refine iteF ?_
        refine ⟨_, rfl, z, rfl, Nat.le_trans hl' (by decide), _, _, rfl, rfl, _, rfl, ?_⟩
        have e2 : nameD (.str z) = ((decide (1 ≤ (z.length : Int)) && decide ((z.length : Int) ≤ 4)) && z.cps.toList.all lok) := by show nameS z = _; unfold nameS; rw [e]; rfl
        rw [e2] at q
        cases h1 : decide (1 ≤ (z.length : Int)) with
        | false =>
          rw [h1] at q
          refine iteF ?_
          exact ⟨false, rfl, iteF (q H (Same.refl H) (Mo.refl H))⟩
        | true =>
          rw [h1] at q
          refine iteT ?_
          refine ⟨_, _, rfl, rfl, _, rfl, ?_⟩
          cases h2 : decide ((z.length : Int) ≤ 4) with
          | false =>
            rw [h2] at q
            exact iteF (q H (Same.refl H) (Mo.refl H))
          | true =>
            rw [h2] at q
            refine iteT ?_
            refine ⟨_, rfl, z, rfl, fun D hD => lc_it walk_str (fun i Hi => Hi = upd H D (.lst ((List.range i).map fun j => .bl (lok (z.cps.toList.getD j 0))))) rfl (fun _ _ _ _ => trivial) (fun i x Hi Hj hi hP hY => ?_) (fun Hi hP => ?_)⟩
            · obtain ⟨rfl, c, hc, rfl⟩ := hY
              subst hP
              have hi2 : i < 1000 := by
                have : z.cps.size = z.length := rfl
                omega
              have hg : z.cps.toList.getD i 0 = c := by
                rw [List.getD_eq_getElem?_getD, Array.getElem?_toList, hc]
                rfl
              have fin := lc_step (H1 := H) (D := D) (f := fun j => .bl (lok (z.cps.toList.getD j 0))) (i := i) hi2
              rw [hg, ← lok_eq] at fin
              refine ⟨rfl, _, rfl, _, _, rfl, rfl, _, rfl, ?_⟩
              cases h3 : (!decide ([c] < [97])) with
              | false =>
                have h4 : (!decide (({ cps := #[c] } : Str).cps.toList < (Str.ofString "a").cps.toList)) = false := h3
                rw [h3] at fin
                rw [h4]
                exact fin
              | true =>
                have h4 : (!decide (({ cps := #[c] } : Str).cps.toList < (Str.ofString "a").cps.toList)) = true := h3
                rw [h3] at fin
                rw [h4]
                exact ⟨_, _, rfl, rfl, fin⟩
            · subst hP
              refine ⟨D, (List.range z.cps.size).map fun j => lok (z.cps.toList.getD j 0), rfl, ?_, ?_⟩
              · refine SqL.of ?_
                rw [upd_same, List.map_map]
                rfl
              · have e3 := range_getD (f := lok) z.cps.toList
                rw [Array.length_toList] at e3
                rw [e3]
                exact q _ (Same.new hD) Mo.upd
    | none => exact q H (Same.refl H) (Mo.refl H)
    | list ds => exact q H (Same.refl H) (Mo.refl H)
    | tuple ds => exact q H (Same.refl H) (Mo.refl H)
    | dict ds => exact q H (Same.refl H) (Mo.refl H)
    | int i => exact q H (Same.refl H) (Mo.refl H)
    | bool i => exact q H (Same.refl H) (Mo.refl H)
end
end Pn

namespace Pn
open PySem L2
theorem iteTD {c : Bool} {A B : Prop} (hc : c = true) (h : A) : if c = true then A else B := by
  rw [if_pos hc]
  exact h
theorem iteFD {c : Bool} {A B : Prop} (hc : c = false) (h : B) : if c = true then A else B := by
  rw [hc, if_neg Bool.false_ne_true]
  exact h
/-! ### own exceptions that keep one thing -/
end Pn

namespace Pn
open PySem PySem.Spec PyProof.Rows L2
/-! ### the same exceptions, with what is known of their context -/
section
variable {X : Cx} {CX : CXT} {C fI : Addr} {k : Nat} {fd : FuncData} {ps : List Str} {sp : Sp} {ta : TA}
end
section
variable {P : Program} {w : World} {K : PySem.W.Frag} {mg : Str → Option Value} {base : Heap}
end
end Pn

namespace Pn
open PySem L2
/-! ### drawn values: what they are as data -/
/-- the data of a value that is no object -/
def pd : V → Option PyData
  | .non => some .none
  | .bl b => some (.bool b)
  | .int i => some (.int i)
  | .str x => some (.str x)
  | _ => none
theorem pd_dp {K : PySem.W.Frag} {H : Hp} : ∀ {v : V} {d : PyData}, pd v = some d → Dp K H v d
  | .non, _, h => by cases h; exact .non
  | .bl _, _, h => by cases h; exact .bl _
  | .int _, _, h => by cases h; exact .int _
  | .str _, _, h => by cases h; exact .str _
  | .ref _, _, h => by cases h
  | .byt _, _, h => by cases h
  | .flt _, _, h => by cases h
  | .ty _, _, h => by cases h
/-- the values that are no sequences -/
def leafV : List V := [.non, .bl true, .bl false, .int 0, .int 1, .int (-1), .int 5, .int 1000000000000, .str "", .str "a", .str "note", .str "set", .str "part", .str "cat", .str "abcd", .str "abcde", .str "A", .str "a b", .str "a1", .str " a", .str "one", .str "under"]
def leafD : List PyData := leafV.filterMap pd
/-- data nested at most n deep over these -/
def Dt : Nat → PyData → Prop
  | 0, d => d ∈ leafD
  | n + 1, d => d ∈ leafD ∨ ∃ ds : List PyData, ds.length ≤ 2 ∧ (∀ e ∈ ds, Dt n e) ∧ (d = .list ds ∨ d = .tuple ds)
theorem Dt.leaf {n : Nat} {d : PyData} (h : d ∈ leafD) : Dt n d := by
  cases n with
  | zero => exact h
  | succ n => exact .inl h
theorem Dt.up {d : PyData} : ∀ {n m : Nat}, n ≤ m → Dt n d → Dt m d
  | 0, _, _, h => Dt.leaf h
  | n + 1, 0, l, _ => absurd l (by omega)
  | n + 1, m + 1, l, h => by
    rcases h with h | ⟨ds, h1, h2, h3⟩
    · exact .inl h
    · exact .inr ⟨ds, h1, fun e he => Dt.up (Nat.le_of_succ_le_succ l) (h2 e he), h3⟩
section
variable {P : Program} {w : World} {K : PySem.W.Frag} {mg : Str → Option Value} {base : Heap}
/-! ### a drawn value -/
end
end Pn

namespace Pn
open PySem L2
section
variable {P : Program} {w : World} {K : PySem.W.Frag} {mg : Str → Option Value} {base : Heap}
end
end Pn

namespace Pn
open PySem L2
section
variable {P : Program} {w : World} {K : PySem.W.Frag} {mg : Str → Option Value} {base : Heap}
/-- InvalidRow(wd) leaves the def -/
def RaiseW (C : Addr) (H : Hp) (E : XK) (wd : V) : Prop := ∀ (e : Addr) (H' : Hp), Same H H' → Mo H H' → H e = none → H' e = some (.xd [("word", wd)]) → E (.ref C) (some e) H'
theorem RaiseW.back {C : Addr} {H H1 : Hp} {E : XK} {wd : V} (h : RaiseW C H E wd) (s : Same H H1) (m : Mo H H1) : RaiseW C H1 E wd := fun e H' h1 h2 h3 h4 => h e H' (s.trans h1) (m.trans h2) (m e h3) h4
/-- all but the new instance is as it was -/
def KpI (x : Addr) (H H' : Hp) : Prop := ∀ b o, H b = some o → b ≠ x → H' b = some o
/-! ### Keep -/
/-! ### Back -/
/-! ### Ref -/
/-! ### Put -/
/-! ### Open -/
/-! ### Note, Skip, Set -/
def setD (d : PyData) : Bool := numD d
end
end Pn

namespace Pn
open PySem L2
section
variable {X : Cx} {CX : CXT} {k : Nat} {f C : Addr} {fd : FuncData} {ps : List Str} {sp : Sp} {E : XK}
/-- the run of a def within a deeper around -/
theorem run_fnA {A' : Around} {pins : List (Addr × Obj)} {σ : L2.St} {H : Hp} {s : Shared} {Q : VK} {us : List Value} {vs : List V} (F : FnOk X.prog X.w X.K X.mg X.base CX k f fd ps sp) (hr : Room k A') (e0 : Env0 X.prog X.w X.K X.mg X.base A' X.stack s H) (hb : Binds X.K fd ps []) (hx : Passes CX X E)
    (I : Inv X pins σ H s) (r : Vals vs us) (h : sp vs H Q E) : wpAny (model X.prog X.w) A' (call (.ref f) us) (EP X pins σ Q) X.xe s := by
  have hl : (us ++ []).length = ps.length := by rw [List.append_nil, ← r.length]; exact F.len _ _ _ _ h
  have hbb := hb s us I.kIn hl
  rw [List.append_nil] at hbb
  refine wpAny_call (codeAny_mono (F.run A' X.stack s H ⟨us, []⟩ us vs Q E hr e0 hbb r h) fun x s' hq => ?_)
  cases x with
  | error e => exact hx pins σ H s e s' I hq
  | ok fl =>
    cases fl with
    | ret u => exact I.after hq
    | next => exact hq.elim
    | brk => exact hq.elim
    | cont => exact hq.elim
/-- str(x), x an instance whose class has a __str__ of its own -/
def rStrIns (K : PySem.W.Frag) (f : Addr) (sp : Sp) (E : XK) : List V → Hp → VK → Prop := fun xs H Q => ∃ (a C dx : Addr) (fs : List (Str × V)), xs = [.ref a] ∧ H a = some (.ins C dx fs) ∧ PySem.W.findIn K (.ref C) "__str__" = some (some (.ref f)) ∧ sp [.ref a] H (fun v H' => ∃ z, v = .str z ∧ Q (.str z) H') E
theorem call_strIns (F : FnOk X.prog X.w X.K X.mg X.base CX k f fd ps sp) (hf : PySem.W.isFn X.K (.ref f) = true) (hr : Room (k + 2) X.A) (hb : Binds X.K fd ps []) (hx : Passes CX X E) : CallR X (.type "str") (rStrIns X.K f sp E) := by
  intro pins s σ H xs us Q I r h
  obtain ⟨a, C, dx, fs, rfl, ha, hs, q⟩ := h
  obtain ⟨u, rfl, ru⟩ := r.one
  obtain rfl : u = Value.ref a := ru
  obtain ⟨mA, O, _⟩ := ins_get I.hok ha
  obtain ⟨od, J, _⟩ := O.look
  have hr2 : Room k X.A.in1.in1 := (show Room (k + 1) X.A.in1 from Room.in1 hr).in1
  refine PySem.W.kso_call (by have := hr2.un; omega) I.kIn J hs hf (wpAny_mono (run_fnA F hr2 I.env0.in1.in1 hb hx I (.cons (show RelV (.ref a) (Value.ref a) from rfl) .nil) q) (fun v s' z => ?_) fun _ _ x => x)
  obtain ⟨z', H', I', rz, t, ez, qz⟩ := z
  subst ez
  obtain ⟨tk, e⟩ := (show ∃ tk, v = Value.str t tk from rz)
  cases e
  exact ⟨.str t, H', I', ⟨tk, rfl⟩, qz⟩
end
end Pn

namespace Pn
open PySem L2 TL
/-! ### rows as data -/
inductive RowD where
  | note (c l : Str) | skip (c : Str) (n : Nat) | set (c : Str) (n : Nat) | keep (c : Str) | back (c : Str) | ref (l : Str) | put (p : Str) | opn (x : Str)
section
variable {P : Program} {w : World} {K : PySem.W.Frag} {mg : Str → Option Value} {base : Heap}
end
end Pn

namespace Pn
open PySem L2 TL
/-! ### numbers in texts -/
section
variable {P : Program} {w : World} {K : PySem.W.Frag} {mg : Str → Option Value} {base : Heap}
/-- InvalidText(at) leaves the def -/
def RaiseT (C : Addr) (H : Hp) (E : XK) (n : Int) : Prop := ∀ (e : Addr) (H' : Hp), Same H H' → Mo H H' → H e = none → H' e = some (.xd [("at", .int n)]) → E (.ref C) (some e) H'
theorem RaiseT.back {C : Addr} {H H1 : Hp} {E : XK} {n : Int} (h : RaiseT C H E n) (s : Same H H1) (m : Mo H H1) : RaiseT C H1 E n := fun e H' h1 h2 h3 h4 => h e H' (s.trans h1) (m.trans h2) (m e h3) h4
end
end Pn

namespace Pn
open PySem L2 TL
/-! ### what a line's words tell -/
section
variable {P : Program} {w : World} {K : PySem.W.Frag} {mg : Str → Option Value} {base : Heap}
theorem kpi_same2 {H H1 : Hp} {x dx : Addr} {o o2 : HO} (hx : H x = none) (hdx : H dx = none) (k : KpI x (upd (upd H dx o) x o2) H1) : Same H H1 := fun b u e => by
  have n1 : b ≠ x := ne_of_none e hx
  have n2 : b ≠ dx := ne_of_none e hdx
  exact k b u (by rw [upd_ne n1, upd_ne n2]; exact e) n1
theorem ins_same2 {H : Hp} {x dx : Addr} {o o2 : HO} (hx : H x = none) (hdx : H dx = none) : Same H (upd (upd H dx o) x o2) := fun b u e => by
  rw [upd_ne (ne_of_none e hx), upd_ne (ne_of_none e hdx)]
  exact e
end
end Pn

namespace Pn
open PySem L2 TL
/-! ### read_row -/
theorem strOk_tl {z : Str} : PyData.strOk z = true ↔ ∀ c ∈ tl z, c < 0x110000 := by
  unfold PyData.strOk
  simp only [Array.all_eq_true']
  constructor
  · intro h c hc
    exact of_decide_eq_true (h c (by simpa using hc))
  · intro h c hc
    exact decide_eq_true (h c (by simpa using hc))
section
variable {P : Program} {w : World} {K : PySem.W.Frag} {mg : Str → Option Value} {base : Heap}
end
end Pn

namespace Pn
open PySem L2
/-- a pool of names: counters, parts, open places, labels -/
structure Pool where
  c : List Str
  p : List Str
  x : List Str
  l : List Str
/-- a pool as it stands -/
def PoolAt (H : Hp) (a : Addr) (d : Pool) : Prop := ∃ a0 a1 a2 a3 : Addr, H a = some (.lst [.ref a0, .ref a1, .ref a2, .ref a3]) ∧ H a0 = some (.lst (d.c.map V.str)) ∧ H a1 = some (.lst (d.p.map V.str)) ∧ H a2 = some (.lst (d.x.map V.str)) ∧ H a3 = some (.lst (d.l.map V.str))
section
variable {P : Program} {w : World} {K : PySem.W.Frag} {mg : Str → Option Value} {base : Heap}
end
end Pn

namespace Pn
open PySem L2
/-- counters as they stand: a list of pairs -/
def CsAt (H : Hp) (c : Addr) (cs : List (Str × Str)) : Prop := ∃ ts : List Addr, H c = some (.lst (ts.map V.ref)) ∧ Paired (fun t p => H t = some (.tup [.str p.1, .str p.2])) ts cs
theorem paired_mono {α β : Type} {R S : α → β → Prop} (h : ∀ a b, R a b → S a b) : ∀ {l : List α} {m : List β}, Paired R l m → Paired S l m
  | _, _, .nil => .nil
  | _, _, .cons a b => .cons (h _ _ a) (paired_mono h b)
theorem paired_snoc {α β : Type} {R : α → β → Prop} {x : α} {y : β} (h : R x y) : ∀ {l : List α} {m : List β}, Paired R l m → Paired R (l ++ [x]) (m ++ [y])
  | _, _, .nil => .cons h .nil
  | _, _, .cons a b => .cons a (paired_snoc h b)
theorem paired_at {α β : Type} {R : α → β → Prop} : ∀ {l : List α} {m : List β} {i : Nat} {x : α}, Paired R l m → l[i]? = some x → ∃ y, m[i]? = some y ∧ R x y
  | _, _, _, _, .nil, h => by simp at h
  | _, _, 0, _, .cons a _, h => by
    have e := Option.some.inj h
    subst e
    exact ⟨_, rfl, a⟩
  | _, _, i + 1, _, .cons _ b, h => paired_at (i := i) b h
theorem paired_len {α β : Type} {R : α → β → Prop} : ∀ {l : List α} {m : List β}, Paired R l m → l.length = m.length
  | _, _, .nil => rfl
  | _, _, .cons _ b => by rw [List.length_cons, List.length_cons, paired_len b]
section
variable {P : Program} {w : World} {K : PySem.W.Frag} {mg : Str → Option Value} {base : Heap}
end
end Pn

namespace Pn
open PySem L2
/-- a row as the tuple that the law draws -/
def rowTup : RowD → List V
  | .note c l => [.str "note", .str c, .str l]
  | .skip c n => [.str "skip", .str c, .int (n : Int)]
  | .set c n => [.str "set", .str c, .int (n : Int)]
  | .keep c => [.str "keep", .str c]
  | .back c => [.str "back", .str c]
  | .ref c => [.str "ref", .str c]
  | .put c => [.str "put", .str c]
  | .opn c => [.str "open", .str c]
theorem PoolAt.mono {H H' : Hp} {a : Addr} {d : Pool} (s : Same H H') (h : PoolAt H a d) : PoolAt H' a d := by
  obtain ⟨a0, a1, a2, a3, e, e0, e1, e2, e3⟩ := h
  exact ⟨a0, a1, a2, a3, s _ _ e, s _ _ e0, s _ _ e1, s _ _ e2, s _ _ e3⟩
theorem CsAt.mono {H H' : Hp} {a : Addr} {cs : List (Str × Str)} (s : Same H H') (h : CsAt H a cs) : CsAt H' a cs := by
  obtain ⟨ts, e, p⟩ := h
  exact ⟨ts, s _ _ e, paired_mono (fun _ _ z => s _ _ z) p⟩
theorem hid_ne {H : Hp} {b a : Addr} {o : HO} (h : hid H b a = some o) : a ≠ b := fun z => by
  unfold hid at h
  rw [if_pos z] at h
  cases h
theorem BoxAt.new {b t : Addr} {H : Hp} {o : HO} (h : BoxAt H b) (ht : H t = none) : BoxAt (upd H t o) b := by
  obtain ⟨x, y, e, g⟩ := h
  exact ⟨x, y, e, Same.new ht b _ g⟩
theorem BoxAt.ne {b t : Addr} {H : Hp} (h : BoxAt H b) (ht : H t = none) : t ≠ b := fun z => by
  obtain ⟨x, y, e, g⟩ := h
  rw [z, g] at ht
  cases ht
theorem name_ok {z : Str} (h : nameS z = true) : PyData.strOk z = true ∧ z.length ≤ 4 := by
  unfold nameS at h
  rw [Bool.and_eq_true, Bool.and_eq_true, Bool.and_eq_true] at h
  obtain ⟨⟨_, h2, h3⟩, h4⟩ := h
  refine ⟨strOk_tl.mpr fun c hc => ?_, by have := of_decide_eq_true h3; omega⟩
  have q := List.all_eq_true.mp h4 c hc
  unfold lok at q
  rw [Bool.and_eq_true] at q
  have := of_decide_eq_true q.2
  omega
section
variable {P : Program} {w : World} {K : PySem.W.Frag} {mg : Str → Option Value} {base : Heap}
end
end Pn

namespace Pn
open PySem L2 TL
section
variable {P : Program} {w : World} {K : PySem.W.Frag} {mg : Str → Option Value} {base : Heap}
def rStrF : List V → Hp → VK → Prop := fun xs H Q => (∃ a, xs = [.str a] ∧ Q (.str a) H) ∨ ∃ i : Int, xs = [.int i] ∧ i.natAbs.log2 < 1920 ∧ Q (.str (Str.ofString (toString i))) H
theorem call_strF {X : Cx} : CallR X (.type "str") rStrF := fun pins s σ H xs us Q I r h => h.elim (fun h => SkE.call_str_str pins s σ H xs us Q I r h) fun h => call_str_int pins s σ H xs us Q I r h
end
end Pn

namespace Pn
open PySem L2 TL
end Pn

namespace Pn
open PySem L2 TL
section
variable {P : Program} {w : World} {K : PySem.W.Frag} {mg : Str → Option Value} {base : Heap}
end
end Pn

namespace Pn
open PySem L2
/-! ### == of an own instance whose class has an __eq__ of its own -/
section
variable {X : Cx} {CX : CXT} {k : Nat} {f C : Addr} {fd : FuncData} {ps : List Str} {sp : Sp} {E : XK}
/-- what stands to the right: a text, or an instance whose class is not first asked -/
def Right (K : PySem.W.Frag) (C : Addr) (H : Hp) (y : V) : Prop := (∃ z : Str, y = .str z ∧ PySem.W.notFirst K C (.type "str") = true) ∨ ∃ (b D dy : Addr) (gs : List (Str × V)), y = .ref b ∧ H b = some (.ins D dy gs) ∧ PySem.W.notFirst K C (.ref D) = true
def rOpIns (K : PySem.W.Frag) (nm : Str) (f : Addr) (sp : Sp) (E : XK) : R2 := fun x y H Q => ∃ (a C dx : Addr) (fs : List (Str × V)), x = .ref a ∧ H a = some (.ins C dx fs) ∧ PySem.W.findIn K (.ref C) nm = some (some (.ref f)) ∧ Right K C H y ∧ sp [x, y] H Q E
theorem op_eqIns (F : FnOk X.prog X.w X.K X.mg X.base CX k f fd ps sp) (hf : PySem.W.isFn X.K (.ref f) = true) (hr : Room k X.A) (hb : Binds X.K fd ps []) (hx : Passes CX X E) : OpR X (compareOp .Eq) (rOpIns X.K "__eq__" f sp E) := by
  intro pins s σ H x y v u Q I rx ry h
  obtain ⟨a, C, dx, fs, rfl, ha, hs, hy, q⟩ := h
  cases rx
  obtain ⟨mA, O, _⟩ := ins_get I.hok ha
  obtain ⟨od, J, _⟩ := O.look
  obtain ⟨m, hF⟩ := I.fr
  show wpAny (model X.prog X.w) X.A (richCompare .Eq (.ref a) u) (EP X pins σ Q) X.xe s
  have go : ∀ tb, PySem.W.Looks (model X.prog X.w) s.heap (typeOf u) tb → PySem.W.notFirst X.K C tb = true → wpAny (model X.prog X.w) X.A (richCompare .Eq (.ref a) u) (EP X pins σ Q) X.xe s := fun tb hl hn => by
    refine PySem.W.cmp_K (op := .Eq) (tb := tb) hr.units0 hF I.ok.mod.kin J hl hn hs hf ?_
    refine wpAny_mono (run_fnA F hr I.env0 hb hx I (.cons (show RelV (.ref a) (Value.ref a) from rfl) (.cons ry .nil)) q) (fun w s' z => ?_) fun _ _ x => x
    obtain ⟨z', H', I', rz, qz⟩ := z
    exact SlX.cmpback rz ⟨z', H', I', rz, qz⟩
  rcases hy with ⟨z, rfl, hn⟩ | ⟨b, D, dy, gs, rfl, hb2, hn⟩
  · obtain ⟨t, rfl⟩ := ry
    exact go _ (PySem.W.Looks.of_pure rfl) hn
  · cases ry
    obtain ⟨mB, O2, _⟩ := ins_get I.hok hb2
    obtain ⟨od2, J2, _⟩ := O2.look
    exact go _ J2.type hn
end
end Pn
namespace Pn
open PySem PySem.W PyProof.Rows
section
variable {prog : Program} {w : World} {A : Around} {E : Value → Shared → Prop} {s : Shared} {K : Frag} {x C L f : Addr} {h₀ : Heap} {m : Str → Option Value} {ox : Obj} {od : Option Obj} {b tb : Value}
/-- object.__ne__ asks __eq__ and turns its answer round -/
theorem obj_ne {Q : Fin → Shared → Prop} (hu : A.units < cLine) (X : K.In s.heap) (I : InstAt s.heap x ox C od) (hs : findIn K (.ref C) "__eq__" = some (some (.ref f))) (hf : isFn K (.ref f) = true)
    (h : wpAny (model prog w) A (call (.ref f) [.ref x, b]) (fun v s' => ∃ c, v = .bool c ∧ Q (.done (.ret (.bool (!c)))) s') E s) : wpAny (model prog w) A (Builtin.«object.__ne__» ⟨[.ref x, b], []⟩) Q E s := by
  unfold Builtin.«object.__ne__»
  repeat (first
    | with_reducible refine wpAny_cRoomFor hu ?_
    | (refine wpAny_bind (m := callSpecialIfBound? (.ref x) (Str.ofString "__eq__") [b])
        (ifBound_K X I hs hf (wpAny_mono h (fun v s' hv => by
          obtain ⟨c, rfl, hq⟩ := hv
          repeat (first | exact hq | exact wpAny_pure hq | exact wpAny_truthy_bool hq | (refine wpAny_bind (m := truthy (.bool _)) (wpAny_truthy_bool ?_)) | wp_step)) fun _ _ e => e)))
    | wp_step)
theorem rich_ne {Q : Value → Shared → Prop} (hu : A.units + 1 < cLine) (F : Fr h₀ L s.heap m) (X₀ : K.In h₀) (I : InstAt s.heap x ox C od) (hb : Looks (model prog w) s.heap (typeOf b) tb) (hn : notFirst K C tb = true)
    (hne : findIn K (.ref C) "__ne__" = some (some (.builtin "object.__ne__"))) (ho : mroIn K C (.type "object") = some true) (hs : findIn K (.ref C) "__eq__" = some (some (.ref f))) (hf : isFn K (.ref f) = true)
    (h : wpAny (model prog w) A.in1 (call (.ref f) [.ref x, b]) (fun v s' => ∃ c, v = .bool c ∧ Q (.bool (!c)) s') E s) : wpAny (model prog w) A (richCompare .NotEq (.ref x) b) Q E s := by
  have X := X₀.keeps F.keep
  have one : wpAny (model prog w) A (tryCompare (.ref x) (cmpInfo .NotEq).2.1 b) (fun r s' => ∃ v, r = some v ∧ Q v s') E s := by
    unfold tryCompare
    refine wpAny_bind (NtL.csib (I.type.andThen (looks_findIn X hne)) (PySem.F.slot_object_ne.bind _) (wpAny_call (codeAny_call_builtin PySem.F.slot_object_ne.plain PySem.F.entry_object_ne
      (check_slot (i := "object.__ne__") (owner := "object") (n := "__ne__") (by decide +kernel) (by decide +kernel) (I.type.andThen (looks_mroIn X ho)) (PySem.F.args_object_ne_2 _ _)
        (obj_ne (A := A.in1) hu X I hs hf (wpAny_mono h (fun v s' hv => ?_) fun _ _ e => e))))))
    obtain ⟨c, rfl, hq⟩ := hv
    first | exact ⟨c, rfl, wpAny_pure ⟨_, rfl, hq⟩⟩ | exact ⟨c, rfl, _, rfl, hq⟩ | exact ⟨c, rfl, wpAny_pure (wpAny_pure ⟨_, rfl, hq⟩)⟩
  unfold richCompare
  simp only [oneThing_ref]
  refine wpAny_holding (wpAny_bind (wpAny_cRoomFor (Nat.lt_of_succ_lt hu) ?_))
  refine wpAny_bind (I.type.here (wpAny_bind (hb.here ?_)))
  have last : ∀ {t : Option Value → Sem Value}, (∀ v, t (some v) = pure v) → wpAny (model prog w) A (tryCompare (.ref x) (cmpInfo .NotEq).2.1 b >>= t) Q E s := fun ht => wpAny_bind (wpAny_mono one (fun r s' ⟨v, hr, hq⟩ => by
    subst hr
    rw [ht]
    exact wpAny_pure hq) fun _ _ e => e)
  by_cases hq : tb = .ref C
  · subst hq
    rw [if_neg (by simp)]
    exact wpAny_bind (wpAny_pure (by simp only [Bool.false_eq_true, if_false]; exact last fun v => rfl))
  · have e : subIn K tb (.ref C) = some false := (Bool.or_eq_true_iff.mp hn).elim (fun e => absurd (beq_iff_eq.mp e) hq) beq_iff_eq.mp
    rw [if_pos (by simpa using fun z => hq z.symm)]
    exact wpAny_bind ((looks_subIn X e).here (by simp only [Bool.false_eq_true, if_false]; exact last fun v => rfl))
end
end Pn
namespace Pn
open PySem L2
section
variable {X : Cx} {CX : CXT} {k : Nat} {f C : Addr} {fd : FuncData} {ps : List Str} {sp : Sp} {E : XK}
/-- != of an own instance with an __eq__ of its own and object's __ne__ -/
def rNeIns (K : PySem.W.Frag) (f : Addr) (sp : Sp) (E : XK) : R2 := fun x y H Q => ∃ (a C dx : Addr) (fs : List (Str × V)), x = .ref a ∧ H a = some (.ins C dx fs) ∧ PySem.W.findIn K (.ref C) "__eq__" = some (some (.ref f)) ∧
  PySem.W.findIn K (.ref C) "__ne__" = some (some (.builtin "object.__ne__")) ∧ PySem.W.mroIn K C (.type "object") = some true ∧ Right K C H y ∧ sp [x, y] H (fun v H' => ∃ c, v = .bl c ∧ Q (.bl (!c)) H') E
theorem op_neIns (F : FnOk X.prog X.w X.K X.mg X.base CX k f fd ps sp) (hf : PySem.W.isFn X.K (.ref f) = true) (hr : Room (k + 1) X.A) (hb : Binds X.K fd ps []) (hx : Passes CX X E) : OpR X (compareOp .NotEq) (rNeIns X.K f sp E) := by
  intro pins s σ H x y v u Q I rx ry h
  obtain ⟨a, C, dx, fs, rfl, ha, hs, hne, ho, hy, q⟩ := h
  cases rx
  obtain ⟨mA, O, _⟩ := ins_get I.hok ha
  obtain ⟨od, J, _⟩ := O.look
  obtain ⟨m, hF⟩ := I.fr
  show wpAny (model X.prog X.w) X.A (richCompare .NotEq (.ref a) u) (EP X pins σ Q) X.xe s
  have hr1 : Room k X.A.in1 := Room.in1 hr
  have go : ∀ tb, PySem.W.Looks (model X.prog X.w) s.heap (typeOf u) tb → PySem.W.notFirst X.K C tb = true → wpAny (model X.prog X.w) X.A (richCompare .NotEq (.ref a) u) (EP X pins σ Q) X.xe s := fun tb hl hn => by
    refine rich_ne (hu_of hr) hF I.ok.mod.kin J hl hn hne ho hs hf ?_
    refine wpAny_mono (run_fnA F hr1 I.env0.in1 hb hx I (.cons (show RelV (.ref a) (Value.ref a) from rfl) (.cons ry .nil)) q) (fun w s' z => ?_) fun _ _ x => x
    obtain ⟨z', H', I', rz, c, ez, qz⟩ := z
    subst ez
    cases (show w = Value.bool c from rz)
    exact ⟨c, rfl, .bl (!c), H', I', rfl, qz⟩
  rcases hy with ⟨z, rfl, hn⟩ | ⟨b, D, dy, gs, rfl, hb2, hn⟩
  · obtain ⟨t, rfl⟩ := ry
    exact go _ (PySem.W.Looks.of_pure rfl) hn
  · cases ry
    obtain ⟨mB, O2, _⟩ := ins_get I.hok hb2
    obtain ⟨od2, J2, _⟩ := O2.look
    exact go _ J2.type hn
end
end Pn

namespace Pn
open PySem L2 TL
section
variable {P : Program} {w : World} {K : PySem.W.Frag} {mg : Str → Option Value} {base : Heap}
end
end Pn

namespace Pn
open PySem PySem.Spec PyProof.Rows L2
/-! ### the law's def at the surrounding that the judge calls it from: there no repr is under way -/
section
variable {P : Program} {w : World} {K : PySem.W.Frag} {mg mb : Str → Option Value} {s₁ : Shared} {a : Addr} {vs : List Value} {ns : List Int}
/-- a tracking of the script alone -/
theorem law_track (KX : K.In s₁.heap) (ha : s₁.heap.get? a = some { cls := .type "list", data := .seq vs.toArray }) (hi : IntsAre vs ns) (hl : ns.length ≤ sizeLine) :
    ∃ H : Hp, Only H ∧ SqL K H a (ns.map V.int) ∧ HOk P w H s₁.heap ∧ ∀ b, H b ≠ none → b = a ∧ K.lookup a = none := by
  have rv := vals_ints hi
  cases hk : K.lookup a with
  | some o =>
    have e := (KX a o hk).symm.trans ha
    cases e
    exact ⟨fun _ => none, fun _ => .inl rfl, .inr ⟨_, vs.toArray, _, hk, rfl, rfl, rfl, by rw [List.size_toArray, hi.length]; exact hl, by simpa using rv⟩, fun b u z => (nomatch (show (none : Option HO) = some u from z)), fun b z => absurd rfl z⟩
  | none =>
    let o : HO := .frz { cls := .type "list", data := .seq vs.toArray } (.lst (ns.map V.int))
    have at_ : upd (fun _ => none) a o a = some o := upd_same
    refine ⟨upd (fun _ => none) a o, fun b => ?_, .inl (.inr ⟨_, at_⟩), fun b u z => ?_, fun b z => ⟨?_, rfl⟩⟩
    · by_cases h : b = a
      · exact .inr ⟨_, _, by rw [h]; exact at_⟩
      · exact .inl (by rw [upd_ne h])
    · by_cases h : b = a
      · rw [h, at_] at z
        cases z
        rw [h]
        exact ⟨ha, by rw [List.length_map]; exact hl, vs, _, rv, ha⟩
      · rw [upd_ne h] at z
        cases z
    · by_cases h : b = a
      · exact h
      · rw [upd_ne h] at z
        exact absurd rfl z
/-- what stands behind it is the module's -/
theorem law_env (KX : K.In s₁.heap) (hns : s₁.heap.Ns mainGlobals mg) (hb : s₁.heap.Ns builtinsNs mb) (hbb : ∀ x : Str, x ≠ "__name__" → mb x = bootBuiltins x) (hlim : s₁.heap.NoLimit) (hg : s₁.gens = #[])
    (ha : s₁.heap.get? a = some { cls := .type "list", data := .seq vs.toArray }) {H : Hp} (hok : HOk P w H s₁.heap) (hA : ∀ b, H b ≠ none → b = a ∧ K.lookup a = none) :
    K.In (hidT s₁.heap H) ∧ (hidT s₁.heap H).Ns mainGlobals mg ∧ Env0 P w K mg (hidT s₁.heap H) callerA [] s₁ H := by
  have free : ∀ {b : Addr}, (b = a → K.lookup a = none → False) → H b = none := fun {b} h => by
    cases q : H b with
    | none => rfl
    | some u =>
      obtain ⟨e1, e2⟩ := hA b (by rw [q]; simp)
      exact (h e1 e2).elim
  have ns_ : ∀ {b : Addr} {m : Str → Option Value}, s₁.heap.Ns b m → (hidT s₁.heap H).Ns b m := fun {b m} ⟨o, es, ep, e, d, r⟩ => ⟨o, es, ep, hidT_get e (free fun z _ => by
    rw [z, ha] at e
    cases e
    exact Data.noConfusion d), d, r⟩
  have kin : K.In (hidT s₁.heap H) := fun b o e => hidT_get (KX b o e) (free fun z n => by
    rw [z, n] at e
    cases e)
  obtain ⟨mc, l1, l2⟩ := hlim
  exact ⟨kin, ns_ hns, rfl, ⟨kin, ns_ hns, ⟨mb, ns_ hb, hbb⟩, ⟨mc, ns_ l1, l2⟩⟩, fun b o e => of_hidT e, Nat.le_of_eq (hidT_size _ _), trivial, fun b h => (by cases (show b ∈ ([] : List Addr) from h)), hok, .of_eq hg⟩
end
end Pn
namespace Pn
open PySem PySem.Spec PyProof.Rows L2
section
variable {P : Program} {w : World} {K : PySem.W.Frag} {mg : Str → Option Value} {base : Heap} {A : Around}
/-- a def's promise at one surrounding, with no frame below -/
def RunAt (P : Program) (w : World) (K : PySem.W.Frag) (mg : Str → Option Value) (base : Heap) (A : Around) (f : Addr) (fd : FuncData) (ps : List Str) (sp : Sp) : Prop :=
  ∀ (s : Shared) (H : Hp) (us : List Value) (vs : List V) (Q : VK) (E : XK), Env0 P w K mg base A [] s H → BindsTo s fd ⟨us, []⟩ (ps.zip us) → Vals vs us → sp vs H Q E → codeAny (model P w) A (.call (.ref f) ⟨us, []⟩) (CR CX0 [] P w H s Q E) s
theorem fun_at {x qual : Str} {st : Stmt} {f : Addr} {fd : FuncData} {N ps : List Str} {k : Nat} {sp : Sp} (F : Fun K x qual st f fd) (S : FnScope N ps (defScope st)) (hr : Room (k + 1) A) (len : ∀ vs H Q E, sp vs H Q E → vs.length = ps.length)
    (hbody : ∀ (cdv : Value) (s : Shared) (H : Hp) (vs : List V) (Q : VK) (E : XK), Room k (A.deeper (envOfC qual (defScope st) s.heap.objs.size f cdv)) → sp vs H Q E →
      ∃ t, PSs (cxOf CX0 P w K mg base N qual (defScope st) f cdv A [] s H E).nox (defBody st) t ∧ t { nx := fun _ H' => Q .non H', rt := Q } (L2.start N vs) H) : RunAt P w K mg base A f fd ps sp := by
  obtain ⟨oc, od, kV, doc, pm, an, cdv, ct, osl, rfl, lk, hcd⟩ := F.ex
  intro s H us vs Q E e0 hb r hsp
  have keep : ∀ b o, base.get? b = some o → s.heap.get? b = some o := fun b o e => (e0.bs b o e).1
  have kin := e0.mod.kin.keeps keep
  have par : ∀ y ∈ ps.zip us, (defScope st).names.lookup y.1 = some .local ∨ ((defScope st).names.lookup y.1 = some .cell ∧ ((cellsFrom (s.heap.objs.size + 1) (defScope st).names []).lookup y.1).isSome = true) := fun y hy =>
    (S.par y.1 (List.of_mem_zip (a := y.1) (b := y.2) hy).1).imp id fun q => ⟨q, PySem.W.cellsFrom_some _ _ _ (.inl q)⟩
  refine codeAny_call_function hr.depth (kin _ _ lk) rfl S.co S.gen rfl (PySem.W.codeRec_of kin hcd) (hb _ _ _ _ (wpAny_newFunctionEnv_cells S.kind par fun env he s1 x => ?_))
  subst he
  obtain ⟨t, ht, hq⟩ := hbody cdv s H vs Q E (hr.deeper _) hsp
  refine ⟨(e0.mod.nolimit.keeps keep).keeps x.toInCall.keep, codeAny_func (wpAny_mono (ht.nox.run [] s1 (L2.start N vs) H _ (inv_start S hr.hd e0 (len _ _ _ _ hsp) r x) hq) (fun fl s' hs => ?_) fun e s' hs => hs)⟩
  cases fl with
  | ret u =>
    obtain ⟨v, σ', H', J, rv, q⟩ := hs
    exact ⟨v, H', J.os, J.bare, J.base, J.hok, rv, q⟩
  | next =>
    obtain ⟨σ', H', J, q⟩ := hs
    exact ⟨V.non, H', J.os, J.bare, J.base, J.hok, rfl, q⟩
  | brk =>
    obtain ⟨_, _, _, q⟩ := hs
    exact False.elim q
  | cont =>
    obtain ⟨_, _, _, q⟩ := hs
    exact False.elim q
end
end Pn

namespace Pn
open PySem PySem.Spec PyProof.Rows L2
/-! ### repr of a tuple of texts and integers, where no repr is under way -/
/-- plain items as data -/
inductive Fl : List V → List PyData → Prop where
  | nil : Fl [] []
  | str {vs ds} (z : Str) (r : Fl vs ds) : Fl (.str z :: vs) (.str z :: ds)
  | int {vs ds} (i : Int) (r : Fl vs ds) : Fl (.int i :: vs) (.int i :: ds)
theorem Fl.reads {h : Heap} : ∀ {vs : List V} {ds : List PyData} {us : List Value}, Fl vs ds → Vals vs us → ReadsAll h us ds []
  | _, _, _, .nil, r => by
    cases r
    exact .nil
  | _, _, _, .str z f, r => by
    cases r with
    | cons r1 r2 =>
      obtain ⟨t, rfl⟩ := r1
      exact .cons (.str z t) (f.reads r2)
  | _, _, _, .int i f, r => by
    cases r with
    | cons r1 r2 =>
      obtain ⟨t, rfl⟩ := r1
      exact .cons (.int i t) (f.reads r2)
section
variable {X : Cx}
end
end Pn

namespace Pn
open PySem L2 TL
/-! ### texts put together of words: their size -/
def sz1 (l : List Str) : Nat := (l.map fun x => x.length + 1).sum
theorem sz1_cons (x : Str) (l : List Str) : sz1 (x :: l) = x.length + 1 + sz1 l := by
  unfold sz1
  rw [List.map_cons, List.sum_cons]
theorem sz1_sub {l m : List Str} (h : l.Sublist m) : sz1 l ≤ sz1 m := by
  induction h with
  | slnil => exact Nat.le_refl _
  | cons a _ ih => rw [sz1_cons]; omega
  | cons_cons a _ ih => rw [sz1_cons, sz1_cons]; omega
/-- words of at most n signs with as many blanks, all of good signs -/
def Sm (n : Nat) (l : List Str) : Prop := sz1 l ≤ n ∧ ∀ x ∈ l, PyData.strOk x = true
theorem Sm.sub {n : Nat} {l m : List Str} (h : Sm n m) (s : l.Sublist m) : Sm n l := ⟨Nat.le_trans (sz1_sub s) h.1, fun x hx => h.2 x (s.subset hx)⟩
theorem joinL_len : ∀ l : List Str, (joinL (tl " ") (l.map tl)).length ≤ sz1 l ∧ sz1 l ≤ (joinL (tl " ") (l.map tl)).length + 1
  | [] => ⟨Nat.le_refl _, Nat.zero_le _⟩
  | [a] => by
    show (tl a).length ≤ sz1 [a] ∧ sz1 [a] ≤ (tl a).length + 1
    rw [sz1_cons, ← len_tl, show sz1 [] = 0 from rfl]
    omega
  | a :: b :: r => by
    have q := joinL_len (b :: r)
    rw [sz1_cons]
    show (tl a ++ (tl " " ++ joinL (tl " ") ((b :: r).map tl))).length ≤ _ ∧ _ ≤ (tl a ++ (tl " " ++ joinL (tl " ") ((b :: r).map tl))).length + 1
    rw [List.length_append, List.length_append, ← len_tl, show (tl " ").length = 1 from by decide +kernel]
    omega
theorem joinL_mem : ∀ (l : List Str) (c : Nat), c ∈ joinL (tl " ") (l.map tl) → c ∈ tl " " ∨ ∃ x ∈ l, c ∈ tl x
  | [], c, h => by cases h
  | [a], c, h => .inr ⟨a, by simp, h⟩
  | a :: b :: r, c, h => by
    rcases List.mem_append.mp h with h | h
    · exact .inr ⟨a, by simp, h⟩
    · rcases List.mem_append.mp h with h | h
      · exact .inl h
      · rcases joinL_mem (b :: r) c h with h | ⟨x, hx, hc⟩
        · exact .inl h
        · exact .inr ⟨x, List.mem_cons_of_mem _ hx, hc⟩
theorem Sm.join {n : Nat} {l : List Str} (h : Sm n l) : (Txt.join " " l).length ≤ n ∧ PyData.strOk (Txt.join " " l) = true := by
  have e : tl (Txt.join " " l) = joinL (tl " ") (l.map tl) := by rw [join_eq]; exact tl_join " " l
  refine ⟨?_, strOk_tl.mpr fun c hc => ?_⟩
  · rw [len_tl, e]
    exact Nat.le_trans (joinL_len l).1 h.1
  · rw [e] at hc
    rcases joinL_mem l c hc with hc | ⟨x, hx, hc⟩
    · exact strOk_tl.mp (show PyData.strOk " " = true by decide +kernel) c hc
    · exact strOk_tl.mp (h.2 x hx) c hc
theorem sz1_lens : ∀ l : List Str, (l.map (·.length)).sum + l.length * (" " : Str).length = sz1 l
  | [] => rfl
  | x :: l => by
    have q := sz1_lens l
    rw [show (" " : Str).length = 1 from by decide +kernel] at q ⊢
    rw [sz1_cons, List.map_cons, List.sum_cons, List.length_cons]
    omega
theorem Sm.fits {n : Nat} {l : List Str} (h : Sm n l) (hn : n ≤ 16777216) : (l.map (·.length)).sum + l.length * (" " : Str).length ≤ 16777216 := by
  rw [sz1_lens]
  exact Nat.le_trans h.1 hn
/-- repr of a text or an integer -/
def rReprF : List V → Hp → VK → Prop := fun xs H Q => (∃ z : Str, xs = [.str z] ∧ z.length ≤ 1000 ∧ PyData.strOk z = true ∧ Q (.str (PySem.reprText z)) H) ∨ ∃ i : Int, xs = [.int i] ∧ i.natAbs.log2 < 1920 ∧ Q (.str (Str.ofString (toString i))) H
theorem repr_fits {z : Str} (hl : z.length ≤ 1000) (hok : PyData.strOk z = true) : (PySem.reprText z).length ≤ sizeLine := by
  have q := StrLaws.reprText_len z fun c hc => by
    have q := strOk_tl.mp hok c hc
    have e : (16 : Nat) ^ 8 = 4294967296 := by decide
    omega
  have e : (1000000 : Nat) ≤ sizeLine := by decide
  omega
theorem call_reprF {X : Cx} : CallR X (.builtin "repr") rReprF := fun pins s σ H xs us Q I r h => by
  rcases h with ⟨z, rfl, hl, hok, q⟩ | h
  · obtain ⟨u, rfl, ru⟩ := r.one
    obtain ⟨t, rfl⟩ := ru
    exact PySem.P.repr_of_str ⟨.str _, H, I.tok _, ⟨_, rfl⟩, q⟩ (repr_fits hl hok)
  · exact SkE.call_repr_int pins s σ H xs us Q I r h
end Pn

namespace Pn
open PySem L2 TL
/-! ### what the law asks of a made row -/
section
variable {P : Program} {w : World} {K : PySem.W.Frag} {mg : Str → Option Value} {base : Heap}
end
end Pn

namespace Pn
open PySem L2 TL
/-! ### a row's text, read back -/
end Pn

namespace Pn
open PySem L2
/-! ### parts as they are drawn, and their unrolled text -/
abbrev PartD := Str × List RowD
def RowsAt (H : Hp) (us : List Addr) (rs : List RowD) : Prop := Paired (fun t r => H t = some (.tup (rowTup r))) us rs
def LstAt (H : Hp) (a : Addr) (rs : List RowD) : Prop := ∃ us : List Addr, H a = some (.lst (us.map V.ref)) ∧ RowsAt H us rs
def PartAt (H : Hp) (t : Addr) (p : PartD) : Prop := ∃ ra, H t = some (.tup [.str p.1, .ref ra]) ∧ LstAt H ra p.2
def PartsAt (H : Hp) (a : Addr) (bk : List PartD) : Prop := ∃ ts : List Addr, H a = some (.lst (ts.map V.ref)) ∧ Paired (PartAt H) ts bk
theorem RowsAt.same {H H' : Hp} {us : List Addr} {rs : List RowD} (h : RowsAt H us rs) (s : Same H H') : RowsAt H' us rs := paired_mono (fun _ _ e => s _ _ e) h
theorem LstAt.same {H H' : Hp} {a : Addr} {rs : List RowD} (h : LstAt H a rs) (s : Same H H') : LstAt H' a rs := by
  obtain ⟨us, e, p⟩ := h
  exact ⟨us, s _ _ e, p.same s⟩
theorem PartAt.same {H H' : Hp} {t : Addr} {p : PartD} (h : PartAt H t p) (s : Same H H') : PartAt H' t p := by
  obtain ⟨ra, e, q⟩ := h
  exact ⟨ra, s _ _ e, q.same s⟩
theorem PartsAt.same {H H' : Hp} {a : Addr} {bk : List PartD} (h : PartsAt H a bk) (s : Same H H') : PartsAt H' a bk := by
  obtain ⟨ts, e, p⟩ := h
  exact ⟨ts, s _ _ e, paired_mono (fun _ _ z => z.same s) p⟩
section
variable {P : Program} {w : World} {K : PySem.W.Frag} {mg : Str → Option Value} {base : Heap}
end
end Pn

namespace Pn
open PySem L2 TL
abbrev sIsSeq : Stmt := top 5
/-! ### a sequence, and which of its things are rows -/
theorem kit_two {K : PySem.W.Frag} {t : String} {a b : Bool} (h1 : kitB t "list" = some a) (h2 : kitB t "tuple" = some b) : PySem.W.kitAny K (.type t) [.type "list", .type "tuple"] = some (a || b) := by
  cases a
  · refine kitAny_cons (kit_ty h1) (fun _ => kitAny_cons (kit_ty h2) (fun z => ?_) (fun z => ?_)) (fun z => nomatch z)
    · rw [z]; exact kitAny_nil
    · rw [z]; rfl
  · exact kitAny_cons (kit_ty h1) (fun z => nomatch z) (fun _ => rfl)
theorem sql_ty {K : PySem.W.Frag} {H : Hp} {p : Addr} {xs : List V} (h : SqL K H p xs) : TyX K H (.ref p) (.type "list") := by
  rcases h with (s | ⟨o, s⟩) | ⟨o, _, _, e, c, _⟩
  · exact .base (.lst s)
  · exact .base (.frz s)
  · exact .kList e c
theorem sqt_ty {K : PySem.W.Frag} {H : Hp} {p : Addr} {xs : List V} (h : SqT K H p xs) : TyX K H (.ref p) (.type "tuple") := by
  rcases h with (s | ⟨o, s⟩) | ⟨o, _, _, e, c, _⟩
  · exact .base (.tup s)
  · exact .fTuple s
  · exact .kTuple e c
theorem sqt_ins {K : PySem.W.Frag} {H : Hp} {x C dx p : Addr} {fs : List (Str × V)} {o : HO} {xs : List V} (hx : H x = some (.ins C dx fs)) (h : SqT K H p xs) : SqT K (upd H x o) p xs := by
  rcases h with (s | ⟨u, s⟩) | s
  · exact .inl (.inl (by rw [upd_ne (fun z => by rw [z, hx] at s; cases s)]; exact s))
  · exact .inl (.inr ⟨u, by rw [upd_ne (fun z => by rw [z, hx] at s; cases s)]; exact s⟩)
  · exact .inr s
section
variable {X : Cx} {tg : Expr}
/-- for x in a list or a tuple: whichever it is known to be -/
def iSeq (K : PySem.W.Frag) (tl : TE) : TI := fun σ H R => iList K tl σ H R ∨ iTup K tl σ H R
theorem pi_seq {l : Expr} {tl : TE} (hl : PE X l tl) : PI X tg l (iSeq X.K tl) :=
  ⟨fun pins s σ H R I h => h.elim (fun a => (pi_list hl).run pins s σ H R I a) fun a => (pi_tup hl).run pins s σ H R I a⟩
end
section
variable {P : Program} {w : World} {K : PySem.W.Frag} {mg : Str → Option Value} {base : Heap}
/-- a method of an own class -/
structure TMeth (K : PySem.W.Frag) (C : Addr) (nm qual : Str) (st : Stmt) (ps : List Str) : Type where
  f : Addr
  fd : FuncData
  F : Fun K nm qual st f fd
  b : Binds K fd ps []
  hs : PySem.W.findIn K (.ref C) nm = some (some (.ref f))
  hf : PySem.W.isFn K (.ref f) = true
def spIsSeq (K : PySem.W.Frag) : Sp := fun vs H Q _ => ∃ (v : V) (t : Value) (b : Bool), vs = [v] ∧ TyX K H v t ∧ PySem.W.kitAny K t [.type "list", .type "tuple"] = some b ∧ (∀ H', Same H H' → TyX K H' v t) ∧ ∀ H', Same H H' → Mo H H' → Q (.bl b) H'
theorem scIsSeq : FnScope ["value"] ["value"] (defScope sIsSeq) := ⟨rfl, rfl, rfl, by decide +kernel, rfl, by decide +kernel, by decide +kernel⟩
theorem ok_isSeq {f : Addr} {fd : FuncData} (F : Fun K "is_sequence" "is_sequence" sIsSeq f fd) (mIsi : mg "isinstance" = none) (mL : mg "list" = none) (mT : mg "tuple" = none) : FnOk P w K mg base CX0 1 f fd ["value"] (spIsSeq K) := by
  refine F.ok scIsSeq (fun vs H Q E h => ?_) (fun cdv A outer s H vs Q E hr h => ?_)
  · obtain ⟨v, t, b, rfl, _⟩ := h
    rfl
  · obtain ⟨v, t, b, rfl, ht, hk, hS, q⟩ := h
    refine ⟨_, pss_one (ps_ret (pe_callB call_isiT (by rfl) mIsi (by decide +kernel) (pa_cons (pv 0) (pa_cons (pe_tup (pa_cons (pe_bltn (v := .ty "list") (by rfl) mL (by decide +kernel) rfl) (pa_cons (pe_bltn (v := .ty "tuple") (by rfl) mT (by decide +kernel) rfl) pa_nil))) pa_nil)))), ?_⟩
    refine ⟨_, rfl, (by show 2 ≤ sizeLine; decide), fun p hp => ?_⟩
    exact ⟨v, p, _, t, _, b, rfl, upd_same, .cons (.ty _) (.cons (.ty _) .nil), hS _ (Same.new hp), hk, q _ (Same.new hp) Mo.upd⟩
end
end Pn

namespace Pn
open PySem L2 TL
section
variable {P : Program} {w : World} {K : PySem.W.Frag} {mg : Str → Option Value} {base : Heap}
end
end Pn

namespace Pn
open PySem PySem.Spec PyProof.Rows PySem.Froz
/-! ### sets of texts: which are in it, and a table that can be walked -/
/-- the texts of a list, each once -/
def uniq (l : List Str) : List Str := l.foldl (fun acc x => if x ∈ acc then acc else x :: acc) []
/-- at a stands the set of the texts l -/
def TxtSet (P : Program) (w : World) (h : Heap) (a : Addr) (l : List Str) : Prop :=
  ∃ D : SD, h.get? a = some (sObj "set" D) ∧ TxOk P w D l ∧ L2.Ris D.2.2.place.toList ∧ (w.params.followText "set-order" = true ∨ D.2.2.led = true) ∧ l.Nodup
theorem TxtSet.keep {P : Program} {w : World} {h h' : Heap} {a : Addr} {l : List Str} (R : TxtSet P w h a l) (k : ∀ o, h.get? a = some o → h'.get? a = some o) : TxtSet P w h' a l := by
  obtain ⟨D, ho, r⟩ := R
  exact ⟨D, k _ ho, r⟩
section
variable {P : Program} {w : World} {A : Around} {E : Value → Shared → Prop} {s : Shared}
/-- the new set, empty -/
abbrev bare (w : World) : Obj := sObj "set" (#[], 0, .fresh 0 0 (!w.params.followText "set-order"))
end
end Pn

namespace Pn
open PySem L2
/-! ### sets of texts as rules: set(xs), len(s), sorted(s) -/
section
variable {X : Cx}
end
end Pn

namespace Pn
open PySem L2 TL
/-! ### books: what is asked of counters and parts, and the unrolled text -/
def putsOf (rs : List RowD) : List Str := rs.filterMap fun r => match r with | .put z => some z | _ => none
def reachStep (p : PartD) (ns : List Str) : List Str := if p.1 ∈ ns then ns ++ putsOf p.2 else ns
def reach (l : List PartD) (ns : List Str) : List Str := l.foldr reachStep ns
end Pn

namespace Pn
open PySem L2 TL
/-! ### drawn books -/
/-- the heap but for two places -/
def zz (H : Hp) (b p : Addr) : Hp := hid (hid H b) p
theorem BoxAt.upd {b p : Addr} {H : Hp} {o : HO} (h : BoxAt H b) (n : p ≠ b) : BoxAt (L2.upd H p o) b := by
  obtain ⟨x, y, e, g⟩ := h
  exact ⟨x, y, e, by rw [upd_ne n.symm]; exact g⟩
section
variable {P : Program} {w : World} {K : PySem.W.Frag} {mg : Str → Option Value} {base : Heap}
end
end Pn

namespace Pn
open PySem PySem.Spec PyProof.Rows L2
/-! ### enumerate(tuple) -/
section
open AutoSeq1 (wpAny_loadPart')
set_option maxHeartbeats 2000000 in
theorem enum_newT (t : Addr) (its : Array Value) (n : Nat) (dct : Option Addr) (sl : Array (Option Value)) :
    Meets (Builtin.«enumerate.__new__» ⟨[.type "enumerate", .ref t], []⟩) (fun _ R s => s.heap.get? t = some { cls := .type "tuple", dict := dct, data := .seq its n, slots := sl } ∧
      R (.ok (.ret (.ref (s.heap.push { cls := .type "tuple_iterator", data := .fields #[.ref t, .int 0 0] }).objs.size)))
        { s with heap := (s.heap.push { cls := .type "tuple_iterator", data := .fields #[.ref t, .int 0 0] }).push { cls := .type "enumerate", data := .fields #[.none, .bool false, .ref s.heap.objs.size, rawInt 0, .none, .none] } }) :=
  .of_wp fun prog w A R s h => by
    obtain ⟨hp, g, d, tk, os⟩ := s
    obtain ⟨ht, h⟩ := h
    have e1 := sub_enumerate
    have hL : Heap.IsTuple (Shared.heap ⟨hp, g, d, tk, os⟩) t its := ⟨_, ht, rfl, n, rfl⟩
    wp_walk using wpAny_loadPart' ht
    refine wpAny_stack_any fun st => wpAny_pure ?_
    split
    · rename_i c _ _ _ _ _
      cases (c == Value.type "enumerate") <;> (wp_walk using wpAny_loadPart' ht, wpAny_pyIter_tuple hL; exact ⟨_, rfl, h⟩)
    · wp_walk using wpAny_loadPart' ht, wpAny_pyIter_tuple hL
      exact ⟨_, rfl, h⟩
end
section
variable {prog : Program} {w : World} {A : Around} {E : Value → Shared → Prop} {s : Shared}
theorem enum_callT {t : Addr} {its : Array Value} {Q : Value → Shared → Prop} (hL : s.heap.IsTuple t its)
    (h : ∀ h', IsEnum h' (s.heap.objs.size + 1) s.heap.objs.size 0 .none → h'.IsTupleIter s.heap.objs.size t 0 → h'.objs.size = s.heap.objs.size + 2 →
      (∀ b o, s.heap.get? b = some o → h'.get? b = some o) → Q (.ref (s.heap.objs.size + 1)) { s with heap := h' }) :
    wpAny (model prog w) A (call (.type "enumerate") [.ref t]) Q E s := by
  obtain ⟨⟨c, dct, dt, sl⟩, hl, hc, n, hd⟩ := hL
  simp only at hc hd
  subst hc hd
  refine callType_new F.called_enumerate (by decide) (F.typeCall_enumerate_1 _) (F.newCall_enumerate_1 _) (fun z => F.args_object_init_2 z _) F.entry_enumerate_new (enum_newT t its n dct sl) ⟨hl, ?_⟩
  have hz : (s.heap.push { cls := .type "tuple_iterator", data := .fields #[.ref t, .int 0 0] }).objs.size = s.heap.objs.size + 1 := Heap.size_push ..
  show _ ∧ _
  rw [hz]
  have he : IsEnum ((s.heap.push { cls := .type "tuple_iterator", data := .fields #[.ref t, .int 0 0] }).push { cls := .type "enumerate", data := .fields #[.none, .bool false, .ref s.heap.objs.size, rawInt 0, .none, .none] })
      (s.heap.objs.size + 1) s.heap.objs.size 0 .none := by
    have q := Heap.get?_push_size (s.heap.push { cls := .type "tuple_iterator", data := .fields #[.ref t, .int 0 0] }) (o := { cls := .type "enumerate", data := .fields #[.none, .bool false, .ref s.heap.objs.size, rawInt 0, .none, .none] }) rfl
    rw [hz] at q
    exact q
  exact ⟨⟨_, he, rfl⟩, h _ he ⟨_, Heap.get?_push_of_some _ (Heap.get?_push_size _ rfl), rfl, rfl⟩ (by rw [Heap.size_push, hz]) fun b o x => Heap.get?_push_of_some _ (Heap.get?_push_of_some _ x)⟩
end
section
variable {prog : Program} {w : World} {A : Around} {E : Value → Shared → Prop} {s : Shared}
theorem enum_outT {e it t : Addr} {its : Array Value} {i : Nat} {old : Value} {Q : Option Value → Shared → Prop} (hh : A.handled = none) (he : IsEnum s.heap e it ((i : Nat) : Int) old) (hit : s.heap.IsTupleIter it t i) (hp : s.heap.IsTuple t its) (hi : its.size ≤ i)
    (hQ : ∀ h', Heap.ExtBut it s.heap h' → Q none { s with heap := h' }) : wpAny (model prog w) A (pyNext (.ref e)) Q E s := by
  have D : Draws prog w A.in1 it [it, t] i (fun _ _ => False) (fun j h => j = i ∧ h.IsTupleIter it t i ∧ h.IsTuple t its) := {
    live := fun _ _ st => by obtain ⟨_, ⟨o, ho, _⟩, _⟩ := st; exact ⟨o, ho⟩
    frame := fun _ _ _ st hk => ⟨st.1, st.2.1.at fun o e => hk it (by simp) o e, st.2.2.at fun o e => hk t (by simp) o e⟩
    item := fun j s Q E hj st _ => absurd st.1 (Nat.ne_of_lt hj)
    done := fun s Q E st hE => wpAny_nextOf_tuple_end hh st.2.1 st.2.2 (by simp [hi]) hE }
  exact wpAny_pyNext_enum_endD D he ⟨rfl, hit, hp⟩ hQ
end
/-- the things of the tuple at t with their numbers, each in a new pair -/
def IteT (K : PySem.W.Frag) (t : Addr) : It :=
  ⟨fun i H => ∃ (xs : List V) (x : V), SqT K H t xs ∧ xs[i]? = some x, fun i H v H' => ∃ T x, v = .ref T ∧ H T = none ∧ H' = upd H T (.tup [.int (i : Nat), x]) ∧ ∀ xs, SqT K H t xs → xs[i]? = some x, fun i H => ∃ xs : List V, SqT K H t xs ∧ xs.length ≤ i⟩
theorem tup_apart {h : Heap} {t e it : Addr} {its : Array Value} {i : Nat} {c : Int} {old : Value} (p : h.IsTuple t its) (he : IsEnum h e it c old) (hit : h.IsTupleIter it t i) : t ≠ it ∧ t ≠ e := by
  obtain ⟨o, ho, hc, _⟩ := p
  constructor
  · intro z
    subst z
    obtain ⟨o2, ho2, hc2, _⟩ := hit
    rw [ho] at ho2
    cases Option.some.inj ho2
    rw [hc] at hc2
    exact absurd hc2 (by decide)
  · intro z
    subst z
    have q : h.get? t = some _ := he
    rw [ho] at q
    have e2 := Option.some.inj q
    rw [e2] at hc
    have e3 : Value.type "enumerate" = Value.type "tuple" := hc
    exact absurd e3 (by decide)
theorem turn_enumT {P : Program} {w : World} {K : PySem.W.Frag} {elts : List Expr} {kk : Nat} {tpos : Pos} (t e it : Addr) :
    Turn P w K (.Tuple elts kk tpos) (IteT K t) [e, it] e (fun i h => (∃ old, IsEnum h e it ((i : Nat) : Int) old) ∧ h.IsTupleIter it t i ∧ e ≠ it) where
  mem := by simp
  obj := fun i h st b hb => by
    obtain ⟨⟨old, he⟩, ⟨o, ho, hc, hd⟩, _⟩ := st
    have e' : b = e ∨ b = it := by simpa using hb
    rcases e' with z | z
    · rw [z]; exact ⟨_, he, fun v q => nomatch q⟩
    · rw [z]; exact ⟨o, ho, fun v q => by rw [hd] at q; cases q⟩
  keep := fun i h h' st k => by
    obtain ⟨⟨old, he⟩, hi, hne⟩ := st
    exact ⟨⟨old, k e (by simp) _ he⟩, hi.at fun o q => k it (by simp) o q, hne⟩
  item := by
    intro X hP hw hK hc i pins s σ H E I hf st hg
    subst hP hw hK
    obtain ⟨⟨old, he⟩, hit, hne⟩ := st
    obtain ⟨xs, x, hq, hx⟩ := hg
    obtain ⟨its, rv, p, hz⟩ := I.tuple hq
    obtain ⟨u, hu, ru⟩ := rv.get hx
    obtain ⟨n1, n2⟩ := tup_apart p he hit
    have hel : e < s.heap.objs.size := Heap.lt_size he
    have hil : it < s.heap.objs.size := by
      obtain ⟨_, q, _⟩ := hit
      exact Heap.lt_size q
    have hn : i < its.toArray.size := by
      rw [List.size_toArray]
      exact (List.getElem?_eq_some_iff.mp hu).1
    refine wpAny_pyNext_enum_itemD (Draws.tuple (prog := X.prog) (w := X.w) (A := X.A.in1) (I.ok.hd hc) it t n1 its.toArray) he ⟨hit, p⟩ hn hne (by simp [hne, Ne.symm n2]) fun y h' tk hy ho hs hT hsz hk => ?_
    have ey : y = u := by
      rw [List.getElem?_toArray, hu] at hy
      exact (Option.some.inj hy).symm
    subst ey
    refine ⟨_, rfl, wpAny_letOwnedTupleGo_enum (s := { s with heap := h', toks := tk + 1 }) ho fun h'' he' sb => ?_⟩
    have hT2 : h''.get? s.heap.objs.size = some { cls := .type "tuple", data := .seq #[.int i tk, y] } := (sb.2 _ (Nat.ne_of_gt hel)).trans hT
    have new : ObjOk X.prog X.w (upd H s.heap.objs.size (.tup [.int (i : Nat), x])) h'' s.heap.objs.size (.tup [.int (i : Nat), x]) :=
      ⟨by show 2 ≤ sizeLine; decide, [.int i tk, y], .cons ⟨_, rfl⟩ (.cons ru .nil), ⟨_, hT2, rfl, _, rfl⟩⟩
    have I1 : Inv X pins σ (upd H s.heap.objs.size (.tup [.int (i : Nat), x])) { s with heap := h'', toks := tk + 1 } :=
      I.turnedNew (ch := [e, it]) (fun b ob hb q => by
        have b1 : b ≠ e := fun z => hb (by simp [z])
        have b2 : b ≠ it := fun z => hb (by simp [z])
        exact (sb.2 b b1).trans (hk b ob b1 b2 q)) hf (Nat.le_refl _) new
    refine ⟨.ref s.heap.objs.size, _, I1, rfl, ⟨_, x, rfl, I.hok.fresh (Nat.le_refl _), rfl, fun ys hy2 => by rw [I.tuple_inj hy2 hq]; exact hx⟩, ⟨⟨y, ?_⟩, hs.1.at fun o q => (sb.2 it (Ne.symm hne)).trans q, hne⟩, fun b hb => ?_⟩
    · rw [show ((i + 1 : Nat) : Int) = (i : Int) + 1 by omega]
      exact he'
    · have hb' : b < s.heap.objs.size := by
        have e2 : b = e ∨ b = it := by simpa using hb
        rcases e2 with rfl | rfl
        · exact hel
        · exact hil
      rw [upd_ne (Nat.ne_of_lt hb')]
      exact (hf b hb).1
  done := by
    intro X hP hw hK hc i pins s σ H E I hf st hg
    subst hP hw hK
    obtain ⟨⟨old, he⟩, hit, hne⟩ := st
    obtain ⟨xs, hq, hx⟩ := hg
    obtain ⟨its, rv, p, hz⟩ := I.tuple hq
    obtain ⟨n1, n2⟩ := tup_apart p he hit
    obtain ⟨f0, f1, f2, f3, f4, f5⟩ := hf it (by simp)
    have D := Draws.tuple (prog := X.prog) (w := X.w) (A := X.A.in1) (I.ok.hd hc) it t n1 its.toArray
    exact enum_outT (A := X.A) (I.ok.hd hc) he hit p (by rw [List.size_toArray, ← rv.length]; exact hx) fun h' eb => ⟨rfl, I.turned (t' := s.toks) (fun b o hb q => eb b o hb q) f0 f1 f3 f4 f5⟩
  self := fun A i s Q E st h => by
    obtain ⟨⟨_, he⟩, _⟩ := st
    exact wpAny_pyIter_enum he h
def iEnumT (K : PySem.W.Frag) (ta : TA) : TI := fun σ H R => ta σ H fun vs H1 => ∃ t xs, vs = [.ref t] ∧ SqT K H1 t xs ∧ R (IteT K t) H1
theorem pi_enumT {X : Cx} {e : Expr} {ta : TA} {p pos tpos : Pos} {elts : List Expr} {kk : Nat} (hg : Gl X "enumerate") (hm : X.mg "enumerate" = none) (ha : PA X [e] ta) (hs : starEach [e] X.env = [(false, eval e X.env)] := by rfl) :
    PI X (.Tuple elts kk tpos) (.Call (.Name "enumerate" p) [e] [] pos) (iEnumT X.K ta) := by
  refine ⟨fun pins s σ H R I h => ?_⟩
  refine Call_ (ld_blt I hg hm boot_enumerate (PyProof.Rows.callWith_type1 (thn (ha.run pos pins s σ H _ I h) fun us s1 hu => ?_) hs rfl))
  obtain ⟨vs, H1, I1, r1, t, xs, rfl, hq, q⟩ := hu
  cases r1 with
  | cons r rr =>
    cases rr
    cases r
    obtain ⟨its, rv, p', hz⟩ := I1.tuple hq
    refine enum_callT p' fun h' he hit hsz hk => wpAny_pyIter_enum he ?_
    have I2 : Inv X pins σ H1 { s1 with heap := h' } := I1.kept (t' := s1.toks) hk
    refine ⟨s1.heap.objs.size + 1, [s1.heap.objs.size + 1, s1.heap.objs.size], _, _, H1, rfl, I2, turn_enumT t (s1.heap.objs.size + 1) s1.heap.objs.size, ⟨⟨.none, he⟩, hit, Nat.succ_ne_self _⟩, fun b hb => ?_, q⟩
    have hle : s1.heap.objs.size ≤ b := by
      have e2 : b = s1.heap.objs.size + 1 ∨ b = s1.heap.objs.size := by simpa using hb
      rcases e2 with rfl | rfl
      · exact Nat.le_succ _
      · exact Nat.le_refl _
    exact I1.fpOk hle (I1.hok.fresh hle)
theorem walk_enumT {K : PySem.W.Frag} {t : Addr} {xs : List V} : Walk (IteT K t) xs.length (fun H => SqT K H t xs) (YPair (fun i => some (.int (i : Nat))) (fun i => xs[i]?)) :=
  ⟨fun i _ hi q => ⟨xs, xs[i], q, by simp [hi]⟩, fun _ q => ⟨xs, q, Nat.le_refl _⟩, fun i H v H' _ q y => by
    obtain ⟨T, x, h1, h2, h3, h4⟩ := y
    exact ⟨T, .int (i : Nat), x, h1, h2, h3, rfl, h4 xs q⟩⟩
end Pn

namespace Pn
open PySem L2
/-! ### comprehensions that keep what stands: what each turn puts out -/
section
variable {K : PySem.W.Frag} {tl : TE} {g : TG} {tt : TT} {te : TE} {vs : List Nat} {σ : L2.St} {H : Hp} {Q : VK} {p : Addr} {xs : List V}
/-- one turn of a comprehension that puts out what out says -/
def LcTurn (xs : List V) (H : Hp) (g : TG) (tt : TT) (te : TE) (vs : List Nat) (σ : L2.St) (out : Nat → Option V) : Prop :=
  ∀ (i : Nat) (x : V) (Hi : Hp) (S : Hp → Prop) (Y : VK), xs[i]? = some x → Same H Hi → (out i = none → ∀ H', Same Hi H' → S H') → (∀ v, out i = some v → ∀ H', Same Hi H' → Y v H') →
    g x (wipe σ vs) Hi fun σ2 H2 => wipe σ2 vs = wipe σ vs ∧ tt σ2 H2 fun b H3 => if b = true then te σ2 H3 Y else S H3
theorem range_out (out : Nat → Option V) (i : Nat) : (List.range (i + 1)).filterMap out = (List.range i).filterMap out ++ (match out i with | none => [] | some v => [v]) := by
  rw [List.range_succ, List.filterMap_append]
  cases h : out i with
  | none => simp [h]
  | some v => simp [h]
theorem lc_keep (hl : xs.length ≤ 10000) {out : Nat → Option V} (turn : LcTurn xs H g tt te vs σ out) {D : Addr} (hD : H D = none) (i : Nat) (x : V) (Hi : Hp) (hx : xs[i]? = some x) (hP : Same H Hi ∧ Hi D = some (.lst ((List.range i).filterMap out))) :
    g x (wipe σ vs) Hi fun σ2 H2 => wipe σ2 vs = wipe σ vs ∧ tt σ2 H2 fun b H3 =>
      if b = true then te σ2 H3 fun y H4 => ∃ acc, H4 D = some (.lst acc) ∧ acc.length < sizeLine ∧ (Same H (upd H4 D (.lst (acc ++ [y]))) ∧ upd H4 D (.lst (acc ++ [y])) D = some (.lst ((List.range (i + 1)).filterMap out)))
      else (Same H H3 ∧ H3 D = some (.lst ((List.range (i + 1)).filterMap out))) := by
  obtain ⟨s, hd⟩ := hP
  have hi : i < xs.length := (List.getElem?_eq_some_iff.mp hx).1
  refine turn i x Hi (fun H3 => Same H H3 ∧ H3 D = some (.lst ((List.range (i + 1)).filterMap out))) _ hx s (fun h0 H' s' => ⟨s.trans s', ?_⟩) (fun v hv H' s' => ⟨_, s' _ _ hd, ?_, ?_, ?_⟩)
  · rw [range_out, h0, List.append_nil]
    exact s' _ _ hd
  · have h1 : ((List.range i).filterMap out).length ≤ (List.range i).length := List.length_filterMap_le _ _
    rw [List.length_range] at h1
    have h2 : (10001 : Nat) ≤ sizeLine := by decide
    omega
  · exact fun a o e => by
      rw [upd_ne (ne_of_none e hD)]
      exact s' _ _ (s _ _ e)
  · rw [upd_same, range_out, hv]
theorem lcw_tup (h0 : ∀ R : VK, R (.ref p) H → tl σ H R) (hp : SqT K H p xs) (hl : xs.length ≤ 10000) {out : Nat → Option V} (turn : LcTurn xs H g tt te vs σ out)
    (fin : ∀ (D : Addr) (H' : Hp), H D = none → Same H H' → H' D = some (.lst ((List.range xs.length).filterMap out)) → Q (.ref D) H') : tLc (iTup K tl) g tt te vs σ H Q :=
  h0 _ ⟨p, rfl, ⟨_, hp⟩, fun D hD => lc_tup (xs := xs) (fun i Hi => Same H Hi ∧ Hi D = some (.lst ((List.range i).filterMap out))) ⟨Same.new hD, upd_same⟩ (fun _ _ _ hP => Same.sqt hP.1 hp) (lc_keep hl turn hD) (fun Hi hP => fin D Hi hD hP.1 hP.2)⟩
/-- what is put out, by a list beside -/
theorem out_map {α β : Type} {l : List α} {f : α → β} : (List.range l.length).filterMap (fun i => (l[i]?).map f) = l.map f := by
  induction l with
  | nil => rfl
  | cons a l ih =>
    rw [List.length_cons, List.range_succ_eq_map, List.filterMap_cons]
    simp only [List.getElem?_cons_zero, Option.map_some, List.filterMap_map, List.map_cons]
    congr 1
theorem out_filter {α β : Type} {l : List α} {f : α → Option β} : (List.range l.length).filterMap (fun i => (l[i]?).bind f) = l.filterMap f := by
  induction l with
  | nil => rfl
  | cons a l ih =>
    have e : (List.range l.length).filterMap ((fun i => ((a :: l)[i]?).bind f) ∘ Nat.succ) = l.filterMap f := by
      rw [← ih]
      rfl
    rw [List.length_cons, List.range_succ_eq_map, List.filterMap_cons, List.filterMap_map, e, List.filterMap_cons]
    rfl
end
end Pn

namespace Pn
open PySem L2 TL
section
variable {P : Program} {w : World} {K : PySem.W.Frag} {mg : Str → Option Value} {base : Heap}
/-- a list or a tuple -/
def Sq (K : PySem.W.Frag) (H : Hp) (p : Addr) (xs : List V) : Prop := SqL K H p xs ∨ SqT K H p xs
theorem Sq.same {H H' : Hp} {p : Addr} {xs : List V} (h : Sq K H p xs) (s : Same H H') : Sq K H' p xs := h.elim (fun h => .inl (s.seq h)) (fun h => .inr (Same.sqt s h))
def CsArg (K : PySem.W.Frag) (H : Hp) (cu : V) (cs : List (Str × Str)) : Prop := ∃ p ts, cu = .ref p ∧ Sq K H p (ts.map V.ref) ∧ Paired (fun t (c : Str × Str) => SqT K H t [.str c.1, .str c.2]) ts cs
theorem CsArg.same {H H' : Hp} {cu : V} {cs : List (Str × Str)} (h : CsArg K H cu cs) (s : Same H H') : CsArg K H' cu cs := by
  obtain ⟨p, ts, e, h1, h2⟩ := h
  exact ⟨p, ts, e, h1.same s, paired_mono (fun _ _ z => Same.sqt s z) h2⟩
/-! ### parts -/
end
end Pn

namespace Pn
open PySem L2 TL
section
variable {P : Program} {w : World} {K : PySem.W.Frag} {mg : Str → Option Value} {base : Heap}
/-! ### the attributes of rows -/
/-! ### names_put -/
/-! ### puts_are_earlier -/
/-! ### refs_are_known -/
/-! ### counters_are_known -/
end
end Pn

namespace Pn
open PySem L2 TL
section
variable {P : Program} {w : World} {K : PySem.W.Frag} {mg : Str → Option Value} {base : Heap}
/-! ### the last part -/
/-! ### names_reached -/
end
end Pn

namespace Pn
open PySem L2 TL
section
variable {P : Program} {w : World} {K : PySem.W.Frag} {mg : Str → Option Value} {base : Heap}
/-! ### unroll -/
/-! ### unrolled_text -/
end
end Pn

namespace Pn
open PySem L2
/-! ### tuple(list), of which it is known that it keeps no own attributes, and dict(..) of such a tuple of pairs -/
def TupX (H : Hp) (a : Addr) (xs : List V) : Prop := ∃ o : Obj, o.dict = none ∧ H a = some (.frz o (.tup xs))
theorem TupX.same {H H' : Hp} {a : Addr} {xs : List V} (h : TupX H a xs) (s : Same H H') : TupX H' a xs := by
  obtain ⟨o, d, e⟩ := h
  exact ⟨o, d, s _ _ e⟩
theorem TupX.sqt {K : PySem.W.Frag} {H : Hp} {a : Addr} {xs : List V} (h : TupX H a xs) : SqT K H a xs := by
  obtain ⟨o, _, e⟩ := h
  exact .inl (.inr ⟨o, e⟩)
/-! ### what such a dict holds -/
end Pn

namespace Pn
open PySem L2 TL
/-! ### chains -/
section
variable {P : Program} {w : World} {K : PySem.W.Frag} {mg : Str → Option Value} {base : Heap}
structure TPr (K : PySem.W.Frag) (C : Addr) (nm qual : Str) (st : Stmt) : Type where
  p : Addr
  g : Addr
  fd : FuncData
  F : Fun K nm qual st g fd
  b : Binds K fd ["self"] []
  P : PropOf K C nm p g
def CsIn (K : PySem.W.Frag) (H : Hp) (ts : List Addr) (cs : List (Str × Str)) : Prop := Paired (fun t (c : Str × Str) => SqT K H t [.str c.1, .str c.2]) ts cs
theorem CsIn.same {H H' : Hp} {ts : List Addr} {cs : List (Str × Str)} (h : CsIn K H ts cs) (s : Same H H') : CsIn K H' ts cs := paired_mono (fun _ _ z => Same.sqt s z) h
/-! ### Book(counters, parts) -/
end
end Pn

namespace Pn
open PySem L2 TL
section
variable {P : Program} {w : World} {K : PySem.W.Frag} {mg : Str → Option Value} {base : Heap}
/-! ### names, tops, unrolled -/
end
end Pn

namespace Pn
open PySem L2 TL
section
variable {P : Program} {w : World} {K : PySem.W.Frag} {mg : Str → Option Value} {base : Heap}
end
end Pn

namespace Pn
open PySem L2 TL
section
variable {P : Program} {w : World} {K : PySem.W.Frag} {mg : Str → Option Value} {base : Heap}
/-! ### len(book) -/
end
end Pn

namespace Pn
open PySem L2 TL
/-! ### sorted texts: one order alone -/
def leS (a b : Str) : Prop := a.cps.toList ≤ b.cps.toList
theorem leS_of {a b : Str} (h : (!PySem.Spec.ltCps b.cps.toList a.cps.toList) = true) : leS a b := by
  rw [PyProof.Rows.ltCps_eq, Bool.not_eq_true', decide_eq_false_iff_not] at h
  exact h
theorem rising_pw : ∀ (p : Str) (l : List Str), PyProof.Rows.risingS p l = true → (p :: l).Pairwise leS
  | p, [], _ => List.pairwise_singleton _ _
  | p, x :: r, h => by
    have h : (!PySem.Spec.ltCps x.cps.toList p.cps.toList && PyProof.Rows.risingS x r) = true := h
    rw [Bool.and_eq_true] at h
    have ih := rising_pw x r h.2
    have h1 := leS_of h.1
    refine List.pairwise_cons.mpr ⟨fun y hy => ?_, ih⟩
    rcases List.mem_cons.mp hy with rfl | hy
    · exact h1
    · exact List.le_trans h1 ((List.pairwise_cons.mp ih).1 y hy)
theorem sorted_pw : ∀ (l : List Str), PyProof.Rows.sortedS l = true → l.Pairwise leS
  | [], _ => .nil
  | x :: r, h => rising_pw x r h
/-! ### equality of tuples and lists of texts that are the same -/
section
variable {P : Program} {w : World} {K : PySem.W.Frag} {mg : Str → Option Value} {base : Heap}
end
end Pn

namespace Pn
open PySem PySem.Spec PyProof.Rows L2
/-! ### comprehensions that make objects; what stands although lists change -/
def SameN (H H' : Hp) : Prop := ∀ a o, H a = some o → (∀ xs, o ≠ HO.lst xs) → H' a = some o
theorem SameN.of {H H' : Hp} (s : Same H H') : SameN H H' := fun a o e _ => s a o e
theorem SameN.trans {H H1 H2 : Hp} (s : SameN H H1) (t : SameN H1 H2) : SameN H H2 := fun a o e n => t a o (s a o e n) n
theorem SameN.upd {H : Hp} {D : Addr} {xs : List V} {o : HO} (h : H D = some (.lst xs)) : SameN H (upd H D o) := fun a u e n => by
  rw [upd_ne (fun z => by rw [z, h] at e; cases e; exact n _ rfl)]
  exact e
theorem lcw_objs {K : PySem.W.Frag} {tl : TE} {g : TG} {tt : TT} {te : TE} {vs : List Nat} {σ : L2.St} {H : Hp} {Q : VK} {p : Addr} {xs : List V} {α : Type} {R : Hp → Addr → α → Prop} {cs : List α} (hR : ∀ {H H' : Hp} {t : Addr} {c : α}, SameN H H' → R H t c → R H' t c)
    (h0 : ∀ R : VK, R (.ref p) H → tl σ H R) (hp : SqL K H p xs) (hl : xs.length ≤ 1000) (hc : xs.length = cs.length)
    (turn : ∀ (i : Nat) (x : V) (c : α) (Hi : Hp) (S : Hp → Prop) (Y : VK), xs[i]? = some x → cs[i]? = some c → Same H Hi → (∀ t H', Same Hi H' → R H' t c → Y (.ref t) H') → g x (wipe σ vs) Hi fun σ2 H2 => wipe σ2 vs = wipe σ vs ∧ tt σ2 H2 fun b H3 => if b = true then te σ2 H3 Y else S H3)
    (fin : ∀ (D : Addr) (H' : Hp) (ts : List Addr), H D = none → Same H H' → H' D = some (.lst (ts.map V.ref)) → Paired (R H') ts cs → Q (.ref D) H') : tLc (iList K tl) g tt te vs σ H Q := by
  refine h0 _ ⟨p, rfl, ⟨_, hp⟩, fun D hD => lc_list (xs := xs) (fun i Hi => Same H Hi ∧ ∃ ts : List Addr, Hi D = some (.lst (ts.map V.ref)) ∧ ts.length ≤ i ∧ Paired (R Hi) ts (cs.take i)) ⟨Same.new hD, [], upd_same, Nat.le_refl _, .nil⟩ (fun _ _ _ hP => hP.1.seq hp) (fun i x Hi hx hP => ?_) (fun Hi hP => ?_)⟩
  · obtain ⟨s, ts, hd, hn, pd⟩ := hP
    have hi : i < xs.length := (List.getElem?_eq_some_iff.mp hx).1
    have hi2 : i < cs.length := by omega
    have hc2 : cs[i]? = some cs[i] := List.getElem?_eq_getElem hi2
    refine turn i x _ Hi _ _ hx hc2 s fun t H' s' r => ⟨_, s' _ _ hd, small1000 (by rw [List.length_map]; omega), (fun a o e => ?_), ts ++ [t], by rw [upd_same, List.map_append]; rfl, by rw [List.length_append]; exact Nat.add_le_add_right hn 1, ?_⟩
    · rw [upd_ne (ne_of_none e hD)]
      exact s' _ _ (s _ _ e)
    · have n2 : SameN H' (upd H' D (.lst (ts.map V.ref ++ [V.ref t]))) := SameN.upd (s' _ _ hd)
      rw [List.take_add_one, hc2]
      exact paired_snoc (hR n2 r) (paired_mono (fun _ _ z => hR ((SameN.of s').trans n2) z) pd)
  · obtain ⟨s, ts, hd, _, pd⟩ := hP
    rw [hc, List.take_length] at pd
    exact fin D Hi ts hD s hd pd
end Pn

namespace Pn
open PySem L2 TL
/-! ### which values can stand in a filling -/
section
variable {P : Program} {w : World} {K : PySem.W.Frag} {mg : Str → Option Value} {base : Heap}
end
end Pn

namespace Pn
open PySem PySem.Spec PyProof.Rows L2 TL
/-! ### Filling.__init__: what is made, what is refused -/
def rTupO (K : PySem.W.Frag) : List V → Hp → VK → Prop := fun xs H Q => ∃ (p : Addr) (ys : List V), xs = [.ref p] ∧ ((SqL K H p ys ∧ ∀ l, H l = none → Q (.ref l) (upd H l (.tup ys))) ∨ (SqT K H p ys ∧ Q (.ref p) H))
theorem call_tupO {X : Cx} : CallR X (.type "tuple") (rTupO X.K) := call_tuple_of
/-- the empty tuple that stands in the written part, and keeps no own attributes -/
def TupB (K : PySem.W.Frag) (a : Addr) : Prop := ∃ (o : Obj) (n : Nat), K.lookup a = some o ∧ o.cls = .type "tuple" ∧ o.dict = none ∧ o.data = .seq #[] n
theorem TupB.sqt {K : PySem.W.Frag} {H : Hp} {a : Addr} (h : TupB K a) : SqT K H a [] := by
  obtain ⟨o, n, hk, hc, _, hd⟩ := h
  exact .inr ⟨o, #[], n, hk, hc, hd, Nat.zero_le _, .nil⟩
/-- a tuple to make a dict of -/
def TupY (K : PySem.W.Frag) (H : Hp) (a : Addr) (xs : List V) : Prop := TupX H a xs ∨ (TupB K a ∧ xs = [])
theorem TupY.sqt {K : PySem.W.Frag} {H : Hp} {a : Addr} {xs : List V} (h : TupY K H a xs) : SqT K H a xs := by
  rcases h with h | ⟨h, rfl⟩
  · exact h.sqt
  · exact h.sqt
theorem TupY.same {K : PySem.W.Frag} {H H' : Hp} {a : Addr} {xs : List V} (h : TupY K H a xs) (s : Same H H') : TupY K H' a xs := h.imp (fun z => z.same s) id
section
variable {P : Program} {w : World} {K : PySem.W.Frag} {mg : Str → Option Value} {base : Heap}
/-! ### names, each once -/
theorem kind_seq {K : PySem.W.Frag} {H : Hp} {p : Addr} {xs : List V} (hp : SqL K H p xs ∨ SqT K H p xs) : ∃ t, PySem.W.kitAny K t [.type "list", .type "tuple"] = some true ∧ TyX K H (.ref p) t ∧ ∀ H', Same H H' → TyX K H' (.ref p) t := by
  rcases hp with hp | hp
  · exact ⟨_, kit_two (by decide +kernel : kitB "list" "list" = some true) (by decide +kernel : kitB "list" "tuple" = some false), sql_ty hp, fun H' s' => sql_ty (s'.seq hp)⟩
  · exact ⟨_, kit_two (by decide +kernel : kitB "tuple" "list" = some false) (by decide +kernel : kitB "tuple" "tuple" = some true), sqt_ty hp, fun H' s' => sqt_ty (Same.sqt s' hp)⟩
theorem sqt_sameN {K : PySem.W.Frag} {H H' : Hp} {a : Addr} {xs : List V} (s : SameN H H') (h : SqT K H a xs) : SqT K H' a xs := by
  rcases h with (e | ⟨o, e⟩) | e
  · exact .inl (.inl (s _ _ e fun _ z => nomatch z))
  · exact .inl (.inr ⟨o, s _ _ e fun _ z => nomatch z⟩)
  · exact .inr e
end
end Pn

namespace Pn
open PySem PySem.Spec PyProof.Rows L2 TL
/-! ### expressions that keep what stands; what they give is told of what is new since B -/
def Gv (te : TE) (σ : L2.St) (P : Hp → V → Prop) : Prop := ∀ (B H : Hp) (R : VK), Mo B H → (∀ v H', Same H H' → P (dif B H') v → R v H') → te σ H R
def StP (P : Hp → V → Prop) : Prop := ∀ (H H' : Hp) (v : V), Same H H' → P H v → P H' v
theorem Gv.imp {te : TE} {σ : L2.St} {P P' : Hp → V → Prop} (g : Gv te σ P) (h : ∀ H v, P H v → P' H v) : Gv te σ P' := fun B H R m k => g B H R m fun v H' s p => k v H' s (h _ _ p)
section
variable {K : PySem.W.Frag} {mg : Str → Option Value} {σ : L2.St}
/-- things of one sort, so many -/
def AllP (P : Hp → V → Prop) (n : Nat) : Hp → List V → Prop := fun H vs => vs.length = n ∧ ∀ v ∈ vs, P H v
theorem AllP.st {P : Hp → V → Prop} {n : Nat} (st : StP P) {H H' : Hp} {vs : List V} (s : Same H H') (h : AllP P n H vs) : AllP P n H' vs := ⟨h.1, fun v hv => st _ _ _ s (h.2 v hv)⟩
/-! ### rows -/
end
end Pn

namespace Pn
open PySem PySem.W PyProof.Rows
/-! ### a text == an own instance: the text declines, the instance is asked -/
end Pn

namespace Pn
open PySem L2
section
variable {X : Cx} {CX : CXT} {k : Nat} {f : Addr} {fd : FuncData} {ps : List Str} {sp : Sp} {E : XK}
end
end Pn

namespace Pn
open PySem L2 TL
/-! ### what the lines of a book's text tell -/
/-! ### a book's own text -/
end Pn

namespace Pn
open PySem PySem.Spec PyProof.Rows L2 TL
/-! ### comprehensions over a dict, which stays as it is -/
theorem upd_frz {H : Hp} {p : Addr} {o : HO} : Same (hid H p) (upd H p o) := fun a u e => by
  rw [upd_ne (hid_ne e)]
  exact hid_sub _ _ e
theorem unlock_same {H Hi : Hp} {p : Addr} {od : Obj} {u : HO} (hp : H p = some u) (s : Same (upd H p (.frz od u)) Hi) : Same H (upd Hi p u) := fun a o e => by
  by_cases h : a = p
  · subst h
    rw [hp] at e
    cases e
    exact upd_same
  · rw [upd_ne h]
    exact s _ _ (by rw [upd_ne h]; exact e)
section
variable {K : PySem.W.Frag} {tl : TE} {g : TG} {tt : TT} {te : TE} {vs : List Nat} {σ : L2.St} {H : Hp} {Q : VK} {p : Addr} {kvs : List (Key × V)}
end
end Pn

namespace Pn
open PySem L2 SeqAt
open MeetsSeq MeetsSeq2 MeetsSeq3 SeqRoads2
open AutoSeq1 (wpAny_loadPart')
/-! ### == and != of tuples whose things are compared by an own == -/
section
variable {prog : Program} {w : World} {A : Around} {R : Result → Shared → Prop}
end
section
variable {prog : Program} {w : World} {A : Around} {E : Value → Shared → Prop}
end
/-! ### .. as rules -/
/-- X, one call deeper -/
def deeper (X : Cx) : Cx := { X with A := X.A.in1 }
section
variable {X : Cx} {pins : List (Addr × Obj)} {σ : St} {H : Hp} {s : Shared}
end
end Pn

namespace Pn
open PySem L2 SeqAt
open MeetsSeq MeetsSeq2 MeetsSeq3 SeqRoads2
open AutoSeq1 (wpAny_loadPart')
/-! ### != of two lists whose things are told to be equal by their own == -/
section
variable {prog : Program} {w : World} {A : Around} {R : Result → Shared → Prop}
theorem lne_walk {p q : Addr} {us ws : Array Value} {J : Shared → Prop} (same : us.size = ws.size) (atp : ∀ s, J s → s.heap.IsList p us) (atq : ∀ s, J s → s.heap.IsList q ws)
    (step : ∀ i (h1 : i < us.size) (h2 : i < ws.size) s', J s' → wpAny (model prog w) A.in1 (eqBool us[i] ws[i]) (fun r s2 => r = true ∧ J s2) (fun x s2 => R (.error x) s2) s')
    (fin : ∀ s', J s' → R (.ok (.ret (.bool false))) s') (left : Nat) : ∀ (i : Nat) (s : Shared), us.size - i = left → J s →
      wpAny (model prog w) A.in1 (Builtin.«list.__eq__.loop» ⟨[.ref p, .ref q, rawInt i, rawInt 3], []⟩) (GQ.FinOf prog w A R) (fun x s2 => R (.error x) s2) s := by
  induction left with
  | zero =>
    intro i s hi js
    have end_ := fin s js
    obtain ⟨⟨c1, d1, data1, s1⟩, hp, e1, n1, f1⟩ := atp s js
    obtain ⟨⟨c2, d2, data2, s2⟩, hq, e2, n2, f2⟩ := atq s js
    simp only at e1 f1 e2 f2
    subst e1 f1 e2 f2
    obtain ⟨hh, g, d, tk, os⟩ := s
    wp_walk using wpAny_loadPart' hp, wpAny_loadPart' hq
    have no1 : us[((i : Nat) : Int).toNat]? = none := by
      simp
      omega
    have no2 : ws[((i : Nat) : Int).toNat]? = none := by
      simp
      omega
    rw [no1, no2]
    wp_walk using wpAny_loadPart' hp, wpAny_loadPart' hq
    show R (.ok (.ret (.bool (us.size != ws.size)))) _
    rw [same]
    simpa using end_
  | succ left ih =>
    intro i s hi js
    have k1 : i < us.size := by omega
    have k2 : i < ws.size := by omega
    have one := step i k1 k2 s js
    obtain ⟨⟨c1, d1, data1, s1⟩, hp, e1, n1, f1⟩ := atp s js
    obtain ⟨⟨c2, d2, data2, s2⟩, hq, e2, n2, f2⟩ := atq s js
    simp only at e1 f1 e2 f2
    subst e1 f1 e2 f2
    obtain ⟨hh, g, d, tk, os⟩ := s
    wp_walk using wpAny_loadPart' hp, wpAny_loadPart' hq
    have is1 : us[((i : Nat) : Int).toNat]? = some us[i] := by
      simp [k1]
    have is2 : ws[((i : Nat) : Int).toNat]? = some ws[i] := by
      simp [k2]
    rw [is1, is2]
    refine wpAny_bind (wpAny_mono one (fun r s3 hr => ?_) fun _ _ x => x)
    obtain ⟨rfl, j3⟩ := hr
    wp_walk
    rw [show ((i : Int) + 1) = ((i + 1 : Nat) : Int) by push_cast; rfl]
    refine ⟨plainId_quiet plain_eq_loop _, codeAny_builtin entry_eq_loop ?_⟩
    rw [Around.under_plainId plain_eq_loop _]
    exact ih (i + 1) s3 (by omega) j3
theorem lne_own {p q : Addr} {us ws : Array Value} {J : Shared → Prop} {s : Shared} (same : us.size = ws.size) (atp : ∀ s, J s → s.heap.IsList p us) (atq : ∀ s, J s → s.heap.IsList q ws)
    (step : ∀ i (h1 : i < us.size) (h2 : i < ws.size) s', J s' → wpAny (model prog w) A.in1 (eqBool us[i] ws[i]) (fun r s2 => r = true ∧ J s2) (fun x s2 => R (.error x) s2) s')
    (fin : ∀ s', J s' → R (.ok (.ret (.bool false))) s') (js : J s) : wpAny (model prog w) A.in1 (Builtin.«list.__ne__» ⟨[.ref p, .ref q], []⟩) (GQ.FinOf prog w A R) (fun x s2 => R (.error x) s2) s := by
  have f3 := AutoSeq1.sub_list_list
  have eqs : ¬ (us.size != ws.size) = true := by
    simp [same]
  have walk := fun s js => lne_walk (prog := prog) (w := w) (A := A) (R := R) same atp atq step fin us.size 0 s rfl js
  obtain ⟨⟨c1, d1, data1, s1⟩, hp, e1, n1, f1⟩ := atp s js
  obtain ⟨⟨c2, d2, data2, s2⟩, hq, e2, n2, f2⟩ := atq s js
  simp only at e1 f1 e2 f2
  subst e1 f1 e2 f2
  obtain ⟨hh, g, d, tk, os⟩ := s
  wp_walk using wpAny_loadPart' hp, wpAny_loadPart' hq
  refine ⟨plainId_quiet plain_eq_loop _, codeAny_builtin entry_eq_loop ?_⟩
  rw [Around.under_plainId plain_eq_loop _]
  exact walk _ js
end
section
variable {prog : Program} {w : World} {A : Around} {E : Value → Shared → Prop}
theorem rc_lstsN {p q : Addr} {us ws : Array Value} {J : Shared → Prop} {s : Shared} {Q : Value → Shared → Prop} (hu : A.units < PySem.cLine) (same : us.size = ws.size) (atp : ∀ s, J s → s.heap.IsList p us) (atq : ∀ s, J s → s.heap.IsList q ws)
    (step : ∀ i (h1 : i < us.size) (h2 : i < ws.size) s', J s' → wpAny (model prog w) A.in1 (eqBool us[i] ws[i]) (fun r s2 => r = true ∧ J s2) E s')
    (fin : ∀ s', J s' → Q (.bool false) s') (js : J s) : wpAny (model prog w) A (richCompare .NotEq (.ref p) (.ref q)) Q E s := by
  obtain ⟨o1, hp, e1, _⟩ := atp s js
  obtain ⟨o2, hq, e2, _⟩ := atq s js
  exact wpAny_richCompare_same_room (op := .NotEq) ⟨_, hp, e1⟩ ⟨_, hq, e2⟩ F.slot_list_ne (GQ.call_here F.slot_list_ne ⟨_, hp, e1⟩ F.entry_list_ne (F.args_list_ne_2 _ _)
    (lne_own (R := wants (fun v s' => v ≠ .notImplemented ∧ Q v s') E) same atp atq step (fun s' h => ⟨(fun x => nomatch x), fin s' h⟩) js)) hu
end
end Pn

namespace Pn
open PySem L2 SeqAt
open MeetsSeq MeetsSeq2 MeetsSeq3 SeqRoads2
open AutoSeq1 (wpAny_loadPart')
/-! ### a list != [] -/
section
variable {prog : Program} {w : World} {A : Around} {R : Result → Shared → Prop}
theorem lne_nil {p q : Addr} {us : Array Value} {s : Shared} (differ : us.size ≠ 0) (atp : s.heap.IsList p us) (atq : s.heap.IsList q #[])
    (fin : R (.ok (.ret (.bool true))) s) : wpAny (model prog w) A.in1 (Builtin.«list.__ne__» ⟨[.ref p, .ref q], []⟩) (GQ.FinOf prog w A R) (fun x s2 => R (.error x) s2) s := by
  have f3 := AutoSeq1.sub_list_list
  have eqs : (us.size != (#[] : Array Value).size) = true := by
    simpa using differ
  obtain ⟨⟨c1, d1, data1, s1⟩, hp, e1, n1, f1⟩ := atp
  obtain ⟨⟨c2, d2, data2, s2⟩, hq, e2, n2, f2⟩ := atq
  simp only at e1 f1 e2 f2
  subst e1 f1 e2 f2
  obtain ⟨hh, g, d, tk, os⟩ := s
  wp_walk using wpAny_loadPart' hp, wpAny_loadPart' hq
  exact fin
end
section
variable {prog : Program} {w : World} {A : Around} {E : Value → Shared → Prop}
theorem rc_lstNil {p q : Addr} {us : Array Value} {s : Shared} {Q : Value → Shared → Prop} (hu : A.units < PySem.cLine) (differ : us.size ≠ 0) (atp : s.heap.IsList p us) (atq : s.heap.IsList q #[])
    (fin : Q (.bool true) s) : wpAny (model prog w) A (richCompare .NotEq (.ref p) (.ref q)) Q E s := by
  obtain ⟨o1, hp, e1, _⟩ := id atp
  obtain ⟨o2, hq, e2, _⟩ := id atq
  exact wpAny_richCompare_same_room (op := .NotEq) ⟨_, hp, e1⟩ ⟨_, hq, e2⟩ F.slot_list_ne (GQ.call_here F.slot_list_ne ⟨_, hp, e1⟩ F.entry_list_ne (F.args_list_ne_2 _ _)
    (lne_nil (R := wants (fun v s' => v ≠ .notImplemented ∧ Q v s') E) differ atp atq ⟨(fun x => nomatch x), fin⟩)) hu
end
/-- xs != [] -/
def rNilNe (K : PySem.W.Frag) : R2 := fun x y H Q => ∃ (p q : Addr) (xs : List V), x = .ref p ∧ y = .ref q ∧ SqL K H p xs ∧ SqL K H q [] ∧ Q (.bl (!xs.isEmpty)) H
theorem op_nilNe {X : Cx} (hu : X.A.units < PySem.cLine) : OpR X (compareOp .NotEq) (rNilNe X.K) := by
  intro pins s σ H x y v u Q I rx ry h
  obtain ⟨p, q, xs, rfl, rfl, hp, hq, k⟩ := h
  cases rx
  cases ry
  obtain ⟨us, r1, p1, _⟩ := I.list hp
  obtain ⟨ws, r2, p2, _⟩ := I.list hq
  cases r2
  cases xs with
  | nil =>
    cases r1
    exact rc_lstsN (J := fun s' => s' = s) hu rfl (fun s' e => by subst e; exact p1.isList) (fun s' e => by subst e; exact p2.isList) (fun i h1 => absurd h1 (Nat.not_lt_zero _)) (fun s' e => by subst e; exact ⟨.bl false, H, I, rfl, k⟩) rfl
  | cons a xs =>
    refine rc_lstNil hu ?_ p1.isList p2.isList ⟨.bl true, H, I, rfl, k⟩
    rw [List.size_toArray, ← r1.length]
    exact Nat.succ_ne_zero _
end Pn

namespace Pn
open PySem PySem.Spec PyProof.Rows L2 TL
/-! ### walks over a dict whose keys are tuples -/
section
variable {K : PySem.W.Frag} {tl : TE} {g : TG} {tt : TT} {te : TE} {vs : List Nat} {σ : L2.St} {H : Hp} {Q : VK} {p : Addr} {kvs : List (List Key × V)}
/-- [e for k in d if ..] -/
theorem lcw_keysT {α : Type} {R : Hp → V → α → Prop} {sel : Nat → Option α} (hR : ∀ {H H' : Hp} {t : V} {c : α}, SameN H H' → R H t c → R H' t c)
    (hF : ∀ {H : Hp} {t : V} {c : α} {od : Obj} {o : HO}, H p = some (.frz od (.dT kvs)) → R H t c → R (upd H p o) t c)
    (h0 : ∀ (H : Hp) (R : VK), R (.ref p) H → tl σ H R) (hp : H p = some (.dT kvs)) (hl : kvs.length ≤ 900)
    (turn : ∀ (Hf : Hp) (od : Obj), Same (hid H p) Hf → Hf p = some (.frz od (.dT kvs)) → ∀ (i : Nat) (k : List Key) (v : V) (q : Addr) (Hi : Hp) (S : Hp → Prop) (Y : VK), kvs[i]? = some (k, v) → Hi q = some (.tup (k.map kV)) → Same Hf Hi →
      (sel i = none → ∀ H', Same Hi H' → S H') → (∀ c, sel i = some c → ∀ t H', Same Hi H' → R H' t c → Y t H') → g (.ref q) (wipe σ vs) Hi fun σ2 H2 => wipe σ2 vs = wipe σ vs ∧ tt σ2 H2 fun b H3 => if b = true then te σ2 H3 Y else S H3)
    (fin : ∀ (D : Addr) (H' : Hp) (ts : List V), H D = none → Same H H' → H' D = some (.lst ts) → Paired (R H') ts ((List.range kvs.length).filterMap sel) → Q (.ref D) H') : tLockE (tLc (iKeys tl) g tt te vs) σ H Q := by
  refine ⟨p, _, hp, trivial, fun od => ?_⟩
  have eH : (upd H p (.frz od (.dT kvs))) p = some (.frz od (.dT kvs)) := upd_same
  refine h0 _ _ ⟨p, od, rfl, .inr ⟨kvs, eH, fun D hD => ?_⟩⟩
  have nD : D ≠ p := fun z => by rw [z, eH] at hD; cases hD
  have hD0 : H D = none := by rw [upd_ne nD] at hD; exact hD
  refine ⟨fun i m Hi => m = kvs.length - i ∧ i ≤ kvs.length ∧ Same (upd H p (.frz od (.dT kvs))) Hi ∧ ∃ ts : List V, Hi D = some (.lst ts) ∧ ts.length ≤ i ∧ Paired (R Hi) ts ((List.range i).filterMap sel), ⟨_, rfl, Nat.zero_le _, Same.new hD, [], upd_same, Nat.le_refl _, .nil⟩, ?_⟩
  rintro i m Hi ⟨rfl, hi, s, ts, hd, hn, pd⟩
  by_cases lt : i < kvs.length
  · refine .inr ⟨⟨s _ _ eH, lt⟩, fun H' => Same (upd H p (.frz od (.dT kvs))) H' ∧ ∃ ts : List V, H' D = some (.lst ts) ∧ ts.length ≤ i + 1 ∧ Paired (R H') ts ((List.range (i + 1)).filterMap sel), fun H' z => ⟨kvs.length - (i + 1), by omega, rfl, lt, z.1, z.2⟩, fun x H' y => ?_⟩
    obtain ⟨rfl, k, v, q, hk, rfl, hq⟩ := y
    refine turn _ od upd_frz eH i k v q _ _ _ hk hq s (fun e H' s' => ⟨s.trans s', ts, s' _ _ hd, Nat.le_succ_of_le hn, ?_⟩) fun c e t H' s' r => ⟨_, s' _ _ hd, small1000 (by omega), (fun a o e => ?_), ts ++ [t], upd_same, by rw [List.length_append]; exact Nat.add_le_add_right hn 1, ?_⟩
    · rw [List.range_succ, List.filterMap_append]
      simp only [List.filterMap_cons, e, List.filterMap_nil, List.append_nil]
      exact paired_mono (fun _ _ z => hR (SameN.of s') z) pd
    · rw [upd_ne (ne_of_none e hD)]
      exact s' _ _ (s _ _ e)
    · have n2 : SameN H' (upd H' D (.lst (ts ++ [t]))) := SameN.upd (s' _ _ hd)
      rw [List.range_succ, List.filterMap_append]
      simp only [List.filterMap_cons, e, List.filterMap_nil]
      exact paired_snoc (hR n2 r) (paired_mono (fun _ _ z => hR ((SameN.of s').trans n2) z) pd)
  · obtain rfl : i = kvs.length := by omega
    exact .inl ⟨⟨s _ _ eH, Nat.le_refl _⟩, s _ _ eH, fin D _ ts hD0 (unlock_same hp s) (by rw [upd_ne nD]; exact hd) (paired_mono (fun _ _ z => hF (s _ _ eH) z) pd)⟩
end
/-! ### tables: words by pairs -/
abbrev KP : Type := Str × Str
def keyT (k : KP) : List Key := [.inr k.1, .inr k.2]
theorem keyT_inj {a b : KP} (h : keyT a = keyT b) : a = b := by
  obtain ⟨a1, a2⟩ := a
  obtain ⟨b1, b2⟩ := b
  injection h with h1 h
  injection h with h2 _
  injection h1 with h1
  injection h2 with h2
  have h1 : a1 = b1 := h1
  have h2 : a2 = b2 := h2
  rw [h1, h2]
def entT2 (e : KP × Str) : List Key × V := (keyT e.1, .str e.2)
abbrev Tab : Type := List (KP × Str)
def TabAt (H : Hp) (a : Addr) (T : Tab) : Prop := H a = some (.dT (T.map entT2))
/-- the table tells the words of f: each pair whose word is not empty, once -/
def Rep (T : Tab) (f : KP → Str) : Prop := (T.map (·.1)).Nodup ∧ ∀ k w, (k, w) ∈ T ↔ f k = w ∧ w ≠ ""
theorem rep_nil : Rep [] fun _ => "" := ⟨.nil, fun k w => ⟨(fun z => nomatch z), fun z => absurd z.1.symm z.2⟩⟩
theorem tab_val (k : KP) : ∀ T : Tab, valV (T.map entT2) (keyT k) = ((T.find? fun e => decide (e.1 = k)).map fun e => V.str e.2)
  | [] => rfl
  | e :: T => by
    rw [List.map_cons]
    by_cases h : e.1 = k
    · rw [valV_pos (show (entT2 e).1 = keyT k by show keyT e.1 = _; rw [h]), List.find?_cons_of_pos (by simpa using h)]
      rfl
    · rw [valV_neg (fun z => h (keyT_inj z)), tab_val k T, List.find?_cons_of_neg (by simpa using h)]
theorem rep_get {T : Tab} {f : KP → Str} (h : Rep T f) (k : KP) : valV (T.map entT2) (keyT k) = if f k = "" then none else some (.str (f k)) := by
  rw [tab_val]
  cases e : T.find? fun e => decide (e.1 = k) with
  | none =>
    have n := List.find?_eq_none.mp e
    rw [if_pos]
    · rfl
    · by_cases hz : f k = ""
      · exact hz
      · exact absurd (decide_eq_true rfl) (n _ ((h.2 k (f k)).mpr ⟨rfl, hz⟩))
  | some x =>
    have hx := List.mem_of_find?_eq_some e
    have hk : x.1 = k := of_decide_eq_true (List.find?_some (p := fun e : KP × Str => decide (e.1 = k)) e)
    obtain ⟨x1, x2⟩ := x
    have hk : x1 = k := hk
    subst hk
    obtain ⟨h1, h2⟩ := (h.2 _ _).mp hx
    rw [if_neg (by rw [h1]; exact h2), h1]
    rfl
def putT (T : Tab) (k : KP) (w : Str) : Tab := if (T.any fun e => decide (e.1 = k)) = true then T.map (fun e => if e.1 = k then (e.1, w) else e) else T ++ [(k, w)]
theorem putT_map (T : Tab) (k : KP) (w : Str) : (putT T k w).map entT2 = putK (T.map entT2) (keyT k) (.str w) := by
  have e1 : ((T.map entT2).any fun kv => decide (kv.1 = keyT k)) = T.any fun e => decide (e.1 = k) := by
    rw [List.any_map]
    congr 1
    funext e
    show decide (keyT e.1 = keyT k) = _
    by_cases h : e.1 = k
    · rw [h, decide_eq_true rfl, decide_eq_true rfl]
    · rw [decide_eq_false h, decide_eq_false fun z => h (keyT_inj z)]
  unfold putT putK
  rw [e1]
  by_cases a : (T.any fun e => decide (e.1 = k)) = true
  · rw [if_pos a, if_pos a, List.map_map, List.map_map]
    congr 1
    funext e
    show entT2 (if e.1 = k then (e.1, w) else e) = if keyT e.1 = keyT k then (keyT e.1, V.str w) else entT2 e
    by_cases h : e.1 = k
    · rw [if_pos h, if_pos (by rw [h])]
      rfl
    · rw [if_neg h, if_neg fun z => h (keyT_inj z)]
  · rw [if_neg a, if_neg a, List.map_append]
    rfl
theorem rep_put {T : Tab} {f : KP → Str} (h : Rep T f) (k : KP) {w : Str} (hw : w ≠ "") : Rep (putT T k w) fun j => if j = k then w else f j := by
  unfold putT
  by_cases a : (T.any fun e => decide (e.1 = k)) = true
  · rw [if_pos a]
    have ek : (T.map (fun e => if e.1 = k then (e.1, w) else e)).map (·.1) = T.map (·.1) := by
      rw [List.map_map]
      congr 1
      funext e
      show (if e.1 = k then (e.1, w) else e).1 = e.1
      split <;> rfl
    refine ⟨by rw [ek]; exact h.1, fun j v => ?_⟩
    rw [List.mem_map]
    show _ ↔ (if j = k then w else f j) = v ∧ v ≠ ""
    constructor
    · rintro ⟨e, he, e2⟩
      by_cases hk : e.1 = k
      · rw [if_pos hk] at e2
        cases e2
        exact ⟨if_pos hk, hw⟩
      · rw [if_neg hk] at e2
        subst e2
        have z := (h.2 _ _).mp he
        exact ⟨(if_neg hk).trans z.1, z.2⟩
    · rintro ⟨h1, h2⟩
      by_cases hj : j = k
      · rw [if_pos hj] at h1
        obtain ⟨e, he, e2⟩ := List.any_eq_true.mp a
        have e2 : e.1 = k := of_decide_eq_true e2
        exact ⟨e, he, by rw [if_pos e2, h1, e2, hj]⟩
      · rw [if_neg hj] at h1
        exact ⟨(j, v), (h.2 _ _).mpr ⟨h1, h2⟩, if_neg hj⟩
  · rw [if_neg a]
    have nk : ∀ v, (k, v) ∉ T := fun v hv => a (List.any_eq_true.mpr ⟨_, hv, decide_eq_true rfl⟩)
    refine ⟨?_, fun j v => ?_⟩
    · rw [List.map_append, List.nodup_append]
      refine ⟨h.1, by simp, fun x hx y hy => ?_⟩
      obtain ⟨e, he, rfl⟩ := List.mem_map.mp hx
      rw [List.mem_singleton.mp hy]
      intro z
      exact a (List.any_eq_true.mpr ⟨e, he, decide_eq_true z⟩)
    · rw [List.mem_append, List.mem_singleton, h.2]
      show _ ↔ (if j = k then w else f j) = v ∧ v ≠ ""
      constructor
      · rintro (⟨h1, h2⟩ | e)
        · have hj : ¬ j = k := fun z => nk v (by rw [← z]; exact (h.2 _ _).mpr ⟨h1, h2⟩)
          rw [if_neg hj]
          exact ⟨h1, h2⟩
        · cases e
          exact ⟨if_pos rfl, hw⟩
      · rintro ⟨h1, h2⟩
        by_cases hj : j = k
        · rw [if_pos hj] at h1
          exact .inr (by rw [hj, h1])
        · rw [if_neg hj] at h1
          exact .inl ⟨h1, h2⟩
theorem putT_keys {T : Tab} {k : KP} {w : Str} {G : KP → Prop} (h : ∀ e ∈ T, G e.1) (hk : G k) : ∀ e ∈ putT T k w, G e.1 := by
  intro e he
  unfold putT at he
  split at he
  · obtain ⟨x, hx, rfl⟩ := List.mem_map.mp he
    split
    · exact h x hx
    · exact h x hx
  · rcases List.mem_append.mp he with he | he
    · exact h e he
    · rw [List.mem_singleton.mp he]
      exact hk
end Pn

namespace Pn
open PySem PySem.Spec PyProof.Rows L2
/-! ### drawn data is told in few letters -/
def Told (B : Nat) (d : PyData) : Prop := PyData.showable d = true ∧ PyData.hasDict d = false ∧ (PyData.shown d).length ≤ B
theorem Told.mono {B B' : Nat} {d : PyData} (h : Told B d) (l : B ≤ B') : Told B' d := ⟨h.1, h.2.1, Nat.le_trans h.2.2 l⟩
theorem tell_all {B : Nat} : ∀ ds : List PyData, (∀ e ∈ ds, Told B e) → PyData.showableAll ds = true ∧ PyData.hasDictAll ds = false ∧ ((PyData.shownAll ds).map (·.length)).sum ≤ ds.length * B
  | [], _ => by simp [PyData.showableAll, PyData.hasDictAll, PyData.shownAll]
  | d :: ds, h => by
    obtain ⟨a, b, c⟩ := tell_all ds fun e he => h e (List.mem_cons_of_mem _ he)
    obtain ⟨a1, b1, c1⟩ := h d List.mem_cons_self
    refine ⟨by simp [PyData.showableAll, a, a1], by simp [PyData.hasDictAll, b, b1], ?_⟩
    have e : (d :: ds).length * B = ds.length * B + B := by rw [List.length_cons, Nat.add_mul, Nat.one_mul]
    simp only [PyData.shownAll, List.map_cons, List.sum_cons]
    omega
theorem tell_tup {B : Nat} {ds : List PyData} (h : ∀ e ∈ ds, Told B e) : Told (ds.length * B + 2 * ds.length + 3) (.tuple ds) := by
  obtain ⟨a, b, c⟩ := tell_all ds h
  have l := tupleText_len_le (PyData.shownAll ds)
  have n := PyData.shownAll_length ds
  refine ⟨by simpa only [PyData.showable] using a, by simpa only [PyData.hasDict] using b, ?_⟩
  simp only [PyData.shown]
  omega
end Pn

namespace Pn
open PySem PySem.Spec PyProof.Rows L2
/-! ### sets of tuples whose items are keys of any kind (texts): searched, added to -/
/-- what the table's words ask of an item -/
structure ItemOk {P : Program} {w : World} {K : Type} [DecidableEq K] (kk : KeyKind P w K) : Prop where
  cls : ∀ (n : Nat) (k : K) (v : Value), kk.is k v = true → ofAClassStatement n v = pure false
  val : ∀ (n : Nat) (k : K) (v : Value), kk.is k v = true → ∃ b, hashByValue n v = pure b
theorem str_itemOk (P : Program) (w : World) : ItemOk (PySem.strKind P w) where
  cls := fun n k v h => by
    obtain ⟨t, rfl⟩ := Value.isStrOf_shape h
    cases n <;> rfl
  val := fun n k v h => by
    obtain ⟨t, rfl⟩ := Value.isStrOf_shape h
    exact ⟨false, by cases n <;> rfl⟩
section
variable {P : Program} {w : World} {K : Type} [DecidableEq K] {kk : KeyKind P w K} {A : Around} {E : Value → Shared → Prop} {s : Shared}
theorem items_are {ks : List K} {vs : List Value} (h : ItemsAre kk ks vs) : ∀ v ∈ vs, ∃ k, kk.is k v = true := by
  induction h with
  | nil => exact fun v z => nomatch z
  | cons h1 _ ih => exact fun v z => (List.mem_cons.mp z).elim (fun e => ⟨_, e ▸ h1⟩) (ih v)
theorem noClass_tup (O : ItemOk kk) {ks : List K} {b : Addr} {Q : Bool → Shared → Prop} (hk : IsTupleKey kk s.heap ks b) (q : Q false s) : wpAny (model P w) A (ofAClassStatement 8 (.ref b)) Q E s := by
  have ty := hk.typeIs
  obtain ⟨o, items, n, ho, _, hd, hi⟩ := hk
  unfold ofAClassStatement
  refine wpAny_bind (wpAny_typeOf ty ?_)
  dsimp only
  have et : (("tuple" : String) == "tuple") = true := by decide
  simp only [et, if_true, Bool.not_true, Bool.false_eq_true, if_false]
  try refine wpAny_bind (wpAny_pure ?_)
  try simp only [Bool.not_true, Bool.false_eq_true, if_false]
  show wpAny _ _ (seqItems? (.ref b) >>= _) _ _ s
  refine wpAny_bind (wpAny_seqItems ho hd ?_)
  refine wpAny_bind ?_
  show wpAny _ _ (forIn items _ _) _ _ s
  rw [← Array.forIn_toList]
  refine wpAny_forIn_list _ (fun rest r s' => r.1 = none ∧ s' = s ∧ ∀ v ∈ rest, ∃ k, kk.is k v = true) _ (fun v rest r s' => ?_) (fun r s' => ?_) _ _ ⟨rfl, rfl, items_are hi⟩
  · rintro ⟨hr, rfl, all⟩
    obtain ⟨k, hv⟩ := all v List.mem_cons_self
    rw [O.cls _ k v hv]
    refine wpAny_bind (wpAny_pure ?_)
    simp only [Bool.false_eq_true, if_false]
    exact wpAny_pure ⟨rfl, rfl, fun u z => all u (List.mem_cons_of_mem _ z)⟩
  · obtain ⟨r1, r2⟩ := r
    rintro ⟨hr, rfl, _⟩
    have hr : r1 = none := hr
    subst hr
    exact wpAny_pure q
theorem byVal_tup (O : ItemOk kk) {ks : List K} {b : Addr} {Q : Bool → Shared → Prop} (hk : IsTupleKey kk s.heap ks b) (q : ∀ z, Q z s) : wpAny (model P w) A (hashByValue 8 (.ref b)) Q E s := by
  have ty := hk.typeIs
  obtain ⟨o, items, n, ho, _, hd, hi⟩ := hk
  unfold hashByValue
  refine wpAny_bind (wpAny_specialOf ty F.slot_tuple_hash.lookup ?_)
  show wpAny _ _ (seqItems? (.ref b) >>= _) _ _ s
  refine wpAny_bind (wpAny_seqItems ho hd ?_)
  refine wpAny_bind ?_
  show wpAny _ _ (forIn items _ _) _ _ s
  rw [← Array.forIn_toList]
  refine wpAny_forIn_list _ (fun rest r s' => s' = s ∧ ∀ v ∈ rest, ∃ k, kk.is k v = true) _ (fun v rest r s' => ?_) (fun r s' => ?_) _ _ ⟨rfl, items_are hi⟩
  · rintro ⟨rfl, all⟩
    obtain ⟨k, hv⟩ := all v List.mem_cons_self
    obtain ⟨z, ez⟩ := O.val 7 k v hv
    rw [ez]
    refine wpAny_bind (wpAny_pure ?_)
    cases z with
    | true =>
      simp only [Bool.not_true, Bool.false_eq_true, if_false]
      exact wpAny_pure ⟨rfl, fun u y => all u (List.mem_cons_of_mem _ y)⟩
    | false =>
      simp only [Bool.not_false, if_true]
      exact wpAny_pure (wpAny_pure (q _))
  · obtain ⟨r1, r2⟩ := r
    rintro ⟨rfl, _⟩
    cases r1 with
    | none => exact wpAny_pure (q _)
    | some z => exact wpAny_pure (q _)
end
end Pn
namespace Pn
open PySem PySem.Spec PyProof.Rows L2
section
variable {P : Program} {w : World} {K : Type} [DecidableEq K] {kk : KeyKind P w K} {A : Around} {E : Value → Shared → Prop} {s : Shared}
/-- a search among such tuples shows nothing of the table -/
theorem unseen_tup (O : ItemOk kk) {ks : List K} {b : Addr} {Q : Bool → Shared → Prop} (hk : IsTupleKey kk s.heap ks b) {ys : List Value} (hy : ∀ y ∈ ys, ∃ k' c, y = Value.ref c ∧ IsTupleKey kk s.heap k' c) (q : Q false s) :
    wpAny (model P w) A (searchCouldBeSeen (.ref b) ys) Q E s := by
  unfold searchCouldBeSeen
  refine wpAny_bind ?_
  refine wpAny_forIn_list _ (fun rest r s' => r.1 = none ∧ s' = s ∧ ∀ y ∈ rest, ∃ k' c, y = Value.ref c ∧ IsTupleKey kk s.heap k' c) _ (fun v rest r s' => ?_) (fun r s' => ?_) _ _ ⟨rfl, rfl, hy⟩
  · rintro ⟨hr, rfl, all⟩
    obtain ⟨k', c, rfl, hc⟩ := all v List.mem_cons_self
    have more : ∀ y ∈ rest, ∃ k' c, y = Value.ref c ∧ IsTupleKey kk s'.heap k' c := fun u z => all u (List.mem_cons_of_mem _ z)
    dsimp only
    refine (Classical.em ((b == c || (carriedByValue (.ref b) && carriedByValue (.ref c))) = true)).elim (fun hv => wp_if_pos hv (wpAny_pure ⟨rfl, rfl, more⟩)) fun hv => wp_if_neg hv ?_
    refine wpAny_bind (wpAny_eqIsQuiet_tuple hk ?_)
    simp only [Bool.not_true, Bool.false_eq_true, if_false]
    refine wpAny_bind (wpAny_eqIsQuiet_tuple hc ?_)
    simp only [Bool.not_true, Bool.false_eq_true, if_false]
    refine wpAny_bind (noClass_tup O hk ?_)
    simp only [Bool.false_eq_true, if_false]
    refine wpAny_bind (noClass_tup O hc ?_)
    simp only [Bool.false_eq_true, if_false]
    exact wpAny_pure ⟨rfl, rfl, more⟩
  · obtain ⟨r1, r2⟩ := r
    rintro ⟨hr, rfl, _⟩
    have hr : r1 = none := hr
    subst hr
    exact wpAny_pure q
/-- the entries of a set: hash and tuple -/
def entK (kk : KeyKind P w K) (L : List (Addr × List K)) : List (Int × Value) := L.map fun p => (tupleKeyHash kk p.2, Value.ref p.1)
def hsK (kk : KeyKind P w K) (L : List (Addr × List K)) : List Int := L.map fun p => tupleKeyHash kk p.2
theorem entK_len {L : List (Addr × List K)} {es : Array (Int × Value)} (h : es.toList = entK kk L) : es.size = L.length := by
  have e := congrArg List.length h
  rw [Array.length_toList] at e
  exact e.trans (List.length_map _)
theorem entK_get {L : List (Addr × List K)} {es : Array (Int × Value)} (h : es.toList = entK kk L) {i : Nat} {p : Addr × List K} (hp : L[i]? = some p) : es[i]? = some (tupleKeyHash kk p.2, Value.ref p.1) := by
  have e : es.toList[i]? = some (tupleKeyHash kk p.2, Value.ref p.1) := by
    rw [h]
    show (L.map _)[i]? = _
    rw [List.getElem?_map, hp]
    rfl
  rw [← e, Array.getElem?_toList]
/-- the set at a holds the tuples L, each key once -/
structure TpSet (kk : KeyKind P w K) (h : Heap) (a : Addr) (L : List (Addr × List K)) (es : Array (Int × Value)) (ep : Nat) (t : SetTable) : Prop where
  ob : ∃ o, h.get? a = some o ∧ o.ExactSet ∧ o.data = .set es ep t
  en : es.toList = entK kk L
  tab : TabOk t (hsK kk L)
  nd : (L.map (·.2)).Nodup
  led : w.params.followText "set-order" = true ∨ t.led = true
  room : L.length * 5 < t.mask * 3
  few : L.length < 64
/-- .. and its tuples stand -/
def TupsIn (kk : KeyKind P w K) (h : Heap) (L : List (Addr × List K)) : Prop := ∀ p ∈ L, IsTupleKey kk h p.2 p.1
variable {a : Addr} {L : List (Addr × List K)} {es : Array (Int × Value)} {ep : Nat} {t : SetTable}
theorem TpSet.psz {h : Heap} (R : TpSet kk h a L es ep t) : t.place.size = L.length := R.tab.sz.trans (List.length_map _)
theorem TpSet.fits {h : Heap} (R : TpSet kk h a L es ep t) : t.fits es.size = true := by
  have h1 := R.psz
  have h2 := entK_len R.en
  have h3 := R.room
  unfold SetTable.fits SetTable.fill
  rw [R.tab.dm, Bool.and_eq_true, beq_iff_eq, decide_eq_true_eq]
  show t.place.size = es.size ∧ t.place.size + 0 ≤ t.mask
  omega
theorem noGap {h : Heap} (R : TpSet kk h a L es ep t) : ¬ t.gaveWay = true := by
  unfold SetTable.gaveWay
  rw [mask_odd R.tab.mok]
  decide
/-- the probe that stands at the c-th step of the way of a hash -/
def stepP (t : SetTable) (h : Int) (c : Nat) : SetTable.Probe := nth t.mask (runAt t.mask (SetTable.bits h % (t.mask + 1)) (SetTable.bits h)) c
theorem stepP_fresh (t : SetTable) (h : Int) (c : Nat) : (stepP t h c).dummy = none := by
  have go : ∀ (n : Nat) (p : SetTable.Probe), p.dummy = none → (nth t.mask p n).dummy = none := fun n => by
    induction n with
    | zero => exact fun p z => z
    | succ n ih =>
      intro p z
      refine ih (adv t.mask p) ?_
      unfold adv
      split <;> exact z
  exact go c _ rfl
theorem stepP_on (t : SetTable) (h : Int) (c q : Nat) : nth t.mask (stepP t h c) q = stepP t h (c + q) := (nth_add t.mask c _ q).symm
theorem stepP_j (t : SetTable) (h : Int) (c q : Nat) : (nth t.mask (stepP t h c) q).j = way t.mask h (c + q) := congrArg SetTable.Probe.j (stepP_on t h c q)
end
end Pn

namespace Pn
open PySem PySem.Spec PyProof.Rows L2
section
variable {P : Program} {w : World} {K : Type} [DecidableEq K] {kk : KeyKind P w K} {A : Around} {E : Value → Shared → Prop} {s : Shared} {a : Addr} {L : List (Addr × List K)} {es : Array (Int × Value)} {ep : Nat} {t : SetTable}
/-- what waits for the key k on the way from step c on: each entry of k stands there, ahead of step Z -/
def Ahead (t : SetTable) (h : Int) (L : List (Addr × List K)) (k : List K) (Z c : Nat) : Prop := ∀ (i : Nat) p, L[i]? = some p → p.2 = k → ∃ c', c ≤ c' ∧ c' < Z ∧ t.place.toList[i]? = some (way t.mask h c')
theorem find_tup (O : ItemOk kk) (R : TpSet kk s.heap a L es ep t) (T : TupsIn kk s.heap L) {x : Addr} {k : List K} (hx : IsTupleKey kk s.heap k x) (hu : A.units < PySem.cLine) {Z : Nat} {h : Int} (eh : h = tupleKeyHash kk k)
    (hZ : way t.mask h Z ∉ t.place.toList) (hb : ∀ c, c < Z → way t.mask h c ∈ t.place.toList) (hZf : Z < 10 * SetTable.turns t.mask) {Q : SetFound → Shared → Prop}
    (yes : k ∈ L.map (·.2) → Q (.there none) s) (no : k ∉ L.map (·.2) → Q (.free (way t.mask h Z) false) s) :
    ∀ (f c : Nat) (stand : Option SetTable.Probe), stand.getD (t.probeStart h) = stepP t h c → c ≤ Z → Z < c + f → Ahead t h L k Z c → wpAny (model P w) A (setSearchFrom a (.ref x) h true f stand) Q E s := by
  intro f
  induction f with
  | zero => exact fun c stand _ h1 h2 _ => absurd h2 (by omega)
  | succ f ih =>
    intro c stand hst hc hf ahead
    obtain ⟨o, ho, hex, hd⟩ := R.ob
    rw [setSearchFrom_succ]
    refine wpAny_bind (wpAny_setState_of ho hd R.fits ?_)
    dsimp only
    refine wp_if_neg (noGap R) ?_
    try refine wpAny_bind (wpAny_pure ?_)
    have hashes : ∀ (i : Nat) p, L[i]? = some p → (es[i]?.map (·.1)).getD 0 = tupleKeyHash kk p.2 := fun i p hp => by
      rw [entK_get R.en hp]
      rfl
    have told := go_spec t R.tab.ris R.tab.dm (fun i => (es[i]?.map (·.1)).getD 0) h (10 * SetTable.turns t.mask) (Z - c) (stepP t h c) (stepP_fresh t h c) (by omega)
      (fun q hq => by rw [stepP_j]; exact hb (c + q) (by omega)) (by rw [stepP_j, Nat.add_sub_cancel' hc]; exact hZ)
    have probe_ : t.probe (fun i => (es[i]?.map (·.1)).getD 0) h (stand.getD (t.probeStart h)) = SetTable.probe.go t (fun i => (es[i]?.map (·.1)).getD 0) h (10 * SetTable.turns t.mask) (stepP t h c) := by
      rw [hst]
      rfl
    rw [probe_]
    rcases told with ⟨q, i, hq, hi, hh, first_, e⟩ | ⟨none_, e⟩
    · -- an entry of this hash
      rw [e]
      dsimp only
      rw [stepP_j] at hi
      have il : i < L.length := by
        have h1 := (List.getElem?_eq_some_iff.mp hi).1
        rw [Array.length_toList, R.psz] at h1
        exact h1
      obtain ⟨p, hp⟩ : ∃ p, L[i]? = some p := ⟨_, List.getElem?_eq_getElem il⟩
      have pm := List.mem_of_getElem? hp
      rw [stepP_j, stepP_on]
      have rest : wpAny (model P w) A (searchRest a (.ref x) h true f es t (way t.mask h (c + q)) i (stepP t h (c + (q + 1)))) Q E s := by
        unfold searchRest
        rw [entK_get R.en hp]
        dsimp only
        refine wpAny_bind (wpAny_holding (wpAny_eqBool_tuple hu (T p pm) hx ?_))
        refine wpAny_bind (wpAny_setState_of ho hd R.fits ?_)
        dsimp only
        by_cases same : p.2 = k
        · exact wp_if_pos (by simp [same]) (wpAny_pure (yes (List.mem_map.mpr ⟨p, pm, same⟩)))
        · refine wp_if_neg (by simp [same]) ?_
          try refine wpAny_bind (wpAny_pure ?_)
          rw [sameMem]
          dsimp only
          have live : t.slot (way t.mask h (c + q)) = .live i := slot_live R.tab.ris hi
          simp only [if_true, live, entK_get R.en hp]
          refine wpAny_bind (wpAny_isSame_ref_self (wpAny_bind (wpAny_pure ?_)))
          simp only [if_true]
          refine wp_if_neg (by simp [same]) (ih (c + (q + 1)) _ rfl (by omega) (by omega) fun i0 p0 h0 k0 => ?_)
          obtain ⟨c', a1, a2, a3⟩ := ahead i0 p0 h0 k0
          refine ⟨c', ?_, a2, a3⟩
          have eh0 : (es[i0]?.map (·.1)).getD 0 = h := by rw [hashes i0 p0 h0, k0, eh]
          rcases Nat.lt_trichotomy c' (c + q) with y | y | y
          · exact absurd eh0 (first_ (c' - c) i0 (by omega) (by rw [stepP_j, Nat.add_sub_cancel' a1]; exact a3))
          · subst y
            have l0 := slot_live R.tab.ris a3
            rw [live] at l0
            injection l0 with l0
            subst l0
            rw [hp] at h0
            cases h0
            exact absurd k0 same
          · omega
      by_cases hl : t.led = true
      · refine wp_if_neg (by simp [hl]) ?_
        try refine wpAny_bind (wpAny_pure ?_)
        exact rest
      · refine wp_if_pos (by simp [hl]) (wpAny_bind (unseen_tup O hx (fun y hy => ?_) ?_))
        · obtain ⟨e0, he0, ey⟩ := List.mem_map.mp hy
          have he1 : e0 ∈ es ∧ e0.1 = h := by simpa using he0
          have he2 : e0 ∈ es.toList := by simpa using he1.1
          rw [R.en] at he2
          obtain ⟨p2, hp2, e2⟩ := List.mem_map.mp he2
          exact ⟨p2.2, p2.1, by rw [← ey, ← e2], T p2 hp2⟩
        · refine wp_if_neg (by decide) ?_
          try refine wpAny_bind (wpAny_pure ?_)
          exact rest
    · -- the empty slot
      rw [e, stepP_j, Nat.add_sub_cancel' hc]
      dsimp only
      refine wpAny_pure (no fun hm => ?_)
      obtain ⟨p0, m0, k0⟩ := List.mem_map.mp hm
      obtain ⟨i0, l0, e0⟩ := List.getElem_of_mem m0
      have h0 : L[i0]? = some p0 := by rw [List.getElem?_eq_getElem l0, e0]
      obtain ⟨c', a1, a2, a3⟩ := ahead i0 p0 h0 k0
      exact none_ (c' - c) i0 (by omega) (by rw [stepP_j, Nat.add_sub_cancel' a1]; exact a3) (by rw [hashes i0 p0 h0, k0, eh])
/-- the search, as adding asks for it -/
theorem seek_tup (O : ItemOk kk) (R : TpSet kk s.heap a L es ep t) (T : TupsIn kk s.heap L) {x : Addr} {k : List K} (hx : IsTupleKey kk s.heap k x) (hu : A.units < PySem.cLine) {Q : SetFound → Shared → Prop}
    (yes : k ∈ L.map (·.2) → Q (.there none) s)
    (no : ∀ Z, k ∉ L.map (·.2) → way t.mask (tupleKeyHash kk k) Z ∉ t.place.toList → (∀ c, c < Z → way t.mask (tupleKeyHash kk k) c ∈ t.place.toList) → Q (.free (way t.mask (tupleKeyHash kk k) Z) false) s) :
    wpAny (model P w) A (setSearch a (.ref x) (tupleKeyHash kk k) true) Q E s := by
  have room := R.room
  obtain ⟨Z, hf, hZ, hb⟩ := R.tab.first (by show (L.map _).length ≤ _; rw [List.length_map]; omega) (tupleKeyHash kk k)
  have turns : 10 * SetTable.turns t.mask ≤ 1420 := by
    unfold SetTable.turns
    rcases R.tab.mok with e | e | e <;> omega
  unfold setSearch
  refine find_tup O R T hx hu rfl hZ hb hf yes (fun n => no Z n hZ hb) 100000 0 none rfl (Nat.zero_le _) (by omega) fun i p hp hk => ?_
  have hi : (hsK kk L)[i]? = some (tupleKeyHash kk k) := by
    show (L.map _)[i]? = _
    rw [List.getElem?_map, hp, ← hk]
    rfl
  have il : i < t.place.toList.length := by
    rw [Array.length_toList, R.psz]
    exact (List.getElem?_eq_some_iff.mp hp).1
  have hj := List.getElem?_eq_getElem il
  obtain ⟨c, hc, e⟩ := R.tab.before hZ hi hj
  exact ⟨c, Nat.zero_le _, hc, by rw [hj, e]⟩
end
end Pn

namespace Pn
open PySem PySem.Spec PyProof.Rows L2
section
variable {P : Program} {w : World} {K : Type} [DecidableEq K] {kk : KeyKind P w K} {A : Around} {E : Value → Shared → Prop} {s : Shared} {a : Addr} {L : List (Addr × List K)} {es : Array (Int × Value)} {ep : Nat} {t : SetTable}
theorem keyStays {h h' : Heap} {k : List K} {b : Addr} (x : IsTupleKey kk h k b) (q : ∀ c o, h.get? c = some o → h'.get? c = some o) : IsTupleKey kk h' k b := by
  obtain ⟨o, items, n, ho, r⟩ := x
  exact ⟨o, items, n, q b o ho, r⟩
theorem keyBeside {h h' : Heap} {k : List K} {b : Addr} {o : Obj} (x : IsTupleKey kk h k b) (ho : h.get? a = some o) (hd : o.data = .set es ep t) (q : Heap.SameBut a h h') : IsTupleKey kk h' k b := by
  obtain ⟨o', items, n, ho', hc, hd', hi⟩ := x
  refine ⟨o', items, n, (q.2 b fun e => ?_).trans ho', hc, hd', hi⟩
  subst e
  rw [ho] at ho'
  cases ho'
  rw [hd] at hd'
  cases hd'
theorem entK_put (L : List (Addr × List K)) (p : Nat) (x : Addr × List K) : entK kk (L.take p ++ x :: L.drop p) = (entK kk L).take p ++ (tupleKeyHash kk x.2, Value.ref x.1) :: (entK kk L).drop p := by
  unfold entK
  rw [List.map_append, List.map_cons, List.map_take, List.map_drop]
theorem hsK_put (L : List (Addr × List K)) (p : Nat) (x : Addr × List K) : hsK kk (L.take p ++ x :: L.drop p) = (hsK kk L).take p ++ tupleKeyHash kk x.2 :: (hsK kk L).drop p := by
  unfold hsK
  rw [List.map_append, List.map_cons, List.map_take, List.map_drop]
theorem pick_all {α : Type} (L : List α) : (List.range L.length).filterMap (fun i => L[i]?) = L := by
  have h : ∀ n, n ≤ L.length → (List.range n).filterMap (fun i => L[i]?) = L.take n := fun n => by
    induction n with
    | zero => exact fun _ => rfl
    | succ n ih =>
      intro hn
      rw [List.range_succ, List.filterMap_append, ih (Nat.le_of_lt hn), List.take_succ, List.getElem?_eq_getElem hn, List.filterMap_cons_some (List.getElem?_eq_getElem hn)]
      rfl
  rw [h _ (Nat.le_refl _), List.take_length]
/-- the entries in another order -/
theorem entK_order {order : Array Nat} (he : es.toList = entK kk L) (hp : order.toList.Perm (List.range L.length)) :
    ∃ L2, (order.filterMap (es[·]?)).toList = entK kk L2 ∧ L2.Perm L ∧ hsK kk L2 = order.toList.map fun i => (es.map (·.1)).getD i 0 := by
  have go : ∀ l : List Nat, (∀ i ∈ l, i < L.length) → l.filterMap (fun i => es[i]?) = entK kk (l.filterMap fun i => L[i]?) ∧ hsK kk (l.filterMap fun i => L[i]?) = l.map fun i => (es.map (·.1)).getD i 0 := fun l => by
    induction l with
    | nil => exact fun _ => ⟨rfl, rfl⟩
    | cons i l ih =>
      intro hl
      have hi := hl i List.mem_cons_self
      obtain ⟨e1, e2⟩ := ih fun j hj => hl j (List.mem_cons_of_mem _ hj)
      have g := List.getElem?_eq_getElem hi
      have ge := entK_get he g
      rw [List.filterMap_cons_some g, List.filterMap_cons_some ge]
      refine ⟨?_, ?_⟩
      · rw [e1]
        rfl
      · rw [List.map_cons, ← e2]
        show tupleKeyHash kk (L[i]).2 :: _ = _
        have e5 : (es.map (·.1))[i]? = some (tupleKeyHash kk (L[i]).2) := by
          rw [Array.getElem?_map, ge]
          rfl
        have e4 : (es.map (·.1)).getD i 0 = tupleKeyHash kk (L[i]).2 := by simp [Array.getD_eq_getD_getElem?, e5]
        rw [e4]
        rfl
  obtain ⟨e1, e2⟩ := go order.toList fun i hi => List.mem_range.mp (hp.mem_iff.mp hi)
  refine ⟨_, by first | (rw [Array.toList_filterMap]; exact e1) | simpa using e1, ?_, e2⟩
  have h := hp.filterMap fun i => L[i]?
  rw [pick_all] at h
  exact h
/-- the table laid anew, larger -/
theorem relay_tup {o : Obj} (ho : s.heap.get? a = some o) (hex : o.ExactSet) (hd : o.data = .set es ep t) (en : es.toList = entK kk L) (tab : TabOk t (hsK kk L)) (nd : (L.map (·.2)).Nodup) (led : w.params.followText "set-order" = true ∨ t.led = true) (few : L.length < 64) (fill : L.length ≤ t.mask)
    {wanted M : Nat} (hw : SetTable.sizeAbove wanted - 1 = M) (hM : MaskOk M) (hw2 : SetTable.sizeAbove wanted ≤ 128) (room : L.length * 5 < M * 3) {Q : Unit → Shared → Prop}
    (q : ∀ h' L' es' ep' t', Heap.SameBut a s.heap h' → TpSet kk h' a L' es' ep' t' → L'.Perm L → Q () { s with heap := h' }) : wpAny (model P w) A (setRelay a wanted) Q E s := by
  have sz := entK_len en
  have psz : t.place.size = L.length := tab.sz.trans (List.length_map _)
  have fits : t.fits es.size = true := by
    unfold SetTable.fits SetTable.fill
    rw [tab.dm, Bool.and_eq_true, beq_iff_eq, decide_eq_true_eq]
    show t.place.size = es.size ∧ t.place.size + 0 ≤ t.mask
    omega
  have m3 : M = 7 ∨ M = 31 ∨ M = 127 := hM
  obtain ⟨t', order, e, hp, T, em, el, _, ed⟩ := relaid_ok t (hs := es.map (·.1)) (wanted := wanted) hw hM (by rw [Array.size_map, sz]; omega)
  rw [Array.size_map, sz] at hp
  obtain ⟨L2, r1, r2, r3⟩ := entK_order en hp
  rw [← r3] at T
  have sz2 : (order.filterMap (es[·]?)).size = es.size := by rw [entK_len r1, r2.length_eq, sz]
  rw [setRelay_eq]
  refine wpAny_bind (wpAny_setState_of ho hd fits ?_)
  dsimp only
  refine wp_if_neg (by rw [sizeLine_eq]; omega) ?_
  try refine wpAny_bind (wpAny_pure ?_)
  rw [e]
  dsimp only
  refine wpAny_bind ?_
  refine wp_if_neg (by rw [sz2]; simp) ?_
  try refine wpAny_bind (wpAny_pure ?_)
  refine wpAny_pure ?_
  dsimp only
  refine wpAny_storeSet_of ho hd ?_ (by rw [sz2, sz, sizeLine_eq]; omega)
  refine q _ L2 (order.filterMap (es[·]?)) (ep + 1) t' (Heap.SameBut.update ..) ⟨⟨_, store_at ho hd, ⟨hex.1, hex.2.1, hex.2.2⟩, rfl⟩, r1, T, (r2.map (·.2)).nodup_iff.mpr nd, by rw [el]; exact led, by rw [r2.length_eq, em]; exact room, by rw [r2.length_eq]; exact few⟩ r2
theorem mask_cases {m n : Nat} (hm : MaskOk m) (r : n * 5 < m * 3) (f : (n + 1) * 5 ≥ m * 3) (few : n < 63) : (m = 7 ∧ n = 4) ∨ (m = 31 ∧ n = 18) := by
  rcases hm with e | e | e <;> subst e <;> omega
/-- adding -/
theorem add_tup (O : ItemOk kk) (R : TpSet kk s.heap a L es ep t) (T : TupsIn kk s.heap L) {x : Addr} {k : List K} (hx : IsTupleKey kk s.heap k x) (hu : A.units < PySem.cLine) (few : L.length + 1 < 64) {Q : Bool → Shared → Prop}
    (q : ∀ b h' L' es' ep' t', Heap.SameBut a s.heap h' → TpSet kk h' a L' es' ep' t' → (∀ (k' : List K) (c : Addr), IsTupleKey kk s.heap k' c → IsTupleKey kk h' k' c) → (k ∈ L.map (·.2) → L' = L) → (k ∉ L.map (·.2) → L'.Perm ((x, k) :: L)) → Q b { s with heap := h' }) :
    wpAny (model P w) A (setAddHashed a (.ref x) (tupleKeyHash kk k)) Q E s := by
  obtain ⟨o, ho, hex, hd⟩ := R.ob
  have sz := entK_len R.en
  have room := R.room
  unfold setAddHashed
  refine wpAny_holding ?_
  rw [show (100000 : Nat) = 99999 + 1 from rfl, setAddHashedIn_succ]
  refine wpAny_bind (wpAny_setState_of ho hd R.fits ?_)
  dsimp only
  refine wp_if_neg (by simp [byScan, Value.scannable]) ?_
  try refine wpAny_bind (wpAny_pure ?_)
  refine wpAny_bind (seek_tup O R T hx hu (fun hm => wpAny_pure (q false s.heap L es ep t (Heap.SameBut.refl a s.heap) R (fun _ _ z => z) (fun _ => rfl) fun z => absurd hm z)) fun Z hm hZ hb => ?_)
  dsimp only
  refine wpAny_bind (wpAny_setState_of ho hd R.fits ?_)
  dsimp only
  obtain ⟨q1, q2, q3, q4, q5, _, _, _, q9⟩ := R.tab.put hZ hb
  generalize hpt : t.put (way t.mask (tupleKeyHash kk k) Z) = pt at q1 q3 q4 q5 q9 ⊢
  obtain ⟨t1, p1⟩ := pt
  dsimp only at q1 q3 q4 q5 q9 ⊢
  subst q1
  generalize hpp : SetTable.below t.place (way t.mask (tupleKeyHash kk k) Z) = p at q2 q3 ⊢
  have pm := put_perm L p (x, k)
  have hlen : (L.take p ++ (x, k) :: L.drop p).length = L.length + 1 := pm.length_eq
  rw [← hsK_put L p (x, k)] at q3
  have en1 : (SetTable.insertAt es p (tupleKeyHash kk k, Value.ref x)).toList = entK kk (L.take p ++ (x, k) :: L.drop p) := by
    rw [SetTable.toList_insertAt, entK_put, R.en]
  have nd1 : ((L.take p ++ (x, k) :: L.drop p).map (·.2)).Nodup := (pm.map (·.2)).nodup_iff.mpr (by rw [List.map_cons]; exact List.nodup_cons.mpr ⟨hm, R.nd⟩)
  have hes : (SetTable.insertAt es p (tupleKeyHash kk k, Value.ref x)).size = L.length + 1 := (entK_len en1).trans hlen
  generalize SetTable.insertAt es p (tupleKeyHash kk k, Value.ref x) = es1 at en1 hes ⊢
  generalize L.take p ++ (x, k) :: L.drop p = L1 at pm hlen q3 nd1 en1
  -- what is left, with whatever the table says of its values
  have rest : ∀ t2 : SetTable, TabOk t2 (hsK kk L1) → t2.mask = t.mask → t2.led = t.led → t2.fill = (hsK kk L).length + 1 →
      wpAny (model P w) A (do
        storeSet a es1 t2
        if !false && t2.tooFull then setRelay a (SetTable.grown (es.size + 1))
        return true : Sem Bool) Q E s := by
    intro t2 tab2 em el ef
    refine wpAny_bind (wpAny_storeSet_of ho hd ?_ (by rw [hes, sizeLine_eq]; omega))
    have sb : Heap.SameBut a s.heap (s.heap.update a (Obj.putSet es1 t2)) := Heap.SameBut.update ..
    have ho1 := store_at (es' := es1) (t' := t2) ho hd
    generalize s.heap.update a (Obj.putSet es1 t2) = h1 at sb ho1 ⊢
    have keys1 : ∀ (k' : List K) (c : Addr), IsTupleKey kk s.heap k' c → IsTupleKey kk h1 k' c := fun k' c z => keyBeside z ho hd sb
    have led2 : w.params.followText "set-order" = true ∨ t2.led = true := by rw [el]; exact R.led
    have ef2 : t2.fill = L.length + 1 := ef.trans (congrArg (· + 1) (List.length_map _))
    by_cases hf : t2.tooFull = true
    · have full : (L.length + 1) * 5 ≥ t.mask * 3 := by
        have h := hf
        unfold SetTable.tooFull at h
        rw [decide_eq_true_eq, ef2, em] at h
        exact h
      have two := mask_cases R.tab.mok room full (by omega)
      have go : ∀ M, SetTable.sizeAbove (SetTable.grown (L.length + 1)) - 1 = M → MaskOk M → SetTable.sizeAbove (SetTable.grown (L.length + 1)) ≤ 128 → (L.length + 1) * 5 < M * 3 →
          wpAny (model P w) A (setRelay a (SetTable.grown (L.length + 1))) (fun _ s' => wpAny (model P w) A (pure true) Q E s') E { s with heap := h1 } := fun M h1' h2' h3' h4' =>
        relay_tup (kk := kk) (s := { s with heap := h1 }) ho1 ⟨hex.1, hex.2.1, hex.2.2⟩ rfl en1 tab2 nd1 led2 (by rw [hlen]; exact few) (by rw [hlen, em]; rcases two with ⟨e, e2⟩ | ⟨e, e2⟩ <;> omega) h1' h2' h3' (by rw [hlen]; exact h4')
          fun h2 L2 es2 ep2 t3 sb2 R2 pm2 => wpAny_pure (q true h2 L2 es2 ep2 t3 (sb.trans sb2) R2 (fun k' c z => keyBeside (keys1 k' c z) ho1 rfl sb2) (fun z => absurd z hm) fun _ => pm2.trans pm)
      rw [sz]
      first
        | (refine wpAny_bind ?_; refine wp_if_pos (by simp [hf]) ?_)
        | (refine wp_if_pos (by simp [hf]) ?_; refine wpAny_bind ?_)
      rcases two with ⟨_, e2⟩ | ⟨_, e2⟩
      · exact go 31 (by rw [e2, size_20]) (.inr (.inl rfl)) (by rw [e2, size_20]; decide) (by omega)
      · exact go 127 (by rw [e2, size_76]) (.inr (.inr rfl)) (by rw [e2, size_76]; decide) (by omega)
    · first
        | refine wp_if_neg (by simp [hf]) ?_
        | (refine wpAny_bind ?_; refine wp_if_neg (by simp [hf]) ?_; refine wpAny_pure ?_)
      refine wpAny_pure (q true h1 L1 es1 (ep + 1) t2 sb ⟨⟨_, ho1, ⟨hex.1, hex.2.1, hex.2.2⟩, rfl⟩, en1, tab2, nd1, led2, ?_, by rw [hlen]; exact few⟩ keys1 (fun z => absurd z hm) fun _ => pm)
      have h := hf
      unfold SetTable.tooFull at h
      rw [decide_eq_true_eq, ef2] at h
      rw [hlen]
      omega
  have either : ∀ z : Bool, wpAny (model P w) A (do
        storeSet a es1 (if z then t1 else { t1 with plain := false })
        if !false && (if z then t1 else { t1 with plain := false }).tooFull then setRelay a (SetTable.grown (es.size + 1))
        return true : Sem Bool) Q E s := fun z => by
    cases z with
    | true => exact rest t1 q3 q4 q5 q9
    | false => exact rest { t1 with plain := false } ⟨q3.ris, q3.dm, q3.sz, q3.mok, q3.bd, q3.reach⟩ q4 q5 q9
  by_cases hpl : t1.plain = true
  · first
      | (refine wpAny_bind ?_; refine wp_if_pos hpl ?_; exact byVal_tup O hx either)
      | exact wp_if_pos hpl (wpAny_bind (byVal_tup O hx either))
  · first
      | (refine wpAny_bind ?_; refine wp_if_neg hpl ?_; exact wpAny_pure (either true))
      | exact wp_if_neg hpl (wpAny_bind (wpAny_pure (either true)))
      | exact wp_if_neg hpl (either true)
end
end Pn

namespace Pn
open PySem PySem.Spec PyProof.Rows L2
/-- what the first i of the tuples leave in a set -/
structure Gained {K : Type} (ks : List (Addr × List K)) (i : Nat) (L : List (Addr × List K)) : Prop where
  of : ∀ p ∈ L, p ∈ ks.take i
  all : ∀ p ∈ ks.take i, p.2 ∈ L.map (·.2)
  len : L.length ≤ i
theorem gained_nil {K : Type} (ks : List (Addr × List K)) : Gained ks 0 [] := ⟨(fun _ z => nomatch z), (fun p z => by simp at z), Nat.le_refl _⟩
theorem gained_next {K : Type} {ks L L' : List (Addr × List K)} {i : Nat} {x : Addr × List K} (g : Gained ks i L) (hx : ks[i]? = some x) (c1 : x.2 ∈ L.map (·.2) → L' = L) (c2 : x.2 ∉ L.map (·.2) → L'.Perm (x :: L)) : Gained ks (i + 1) L' := by
  have e : ks.take (i + 1) = ks.take i ++ [x] := by
    rw [List.take_add_one, hx]
    rfl
  rcases Classical.em (x.2 ∈ L.map (·.2)) with m | m
  · rw [c1 m]
    refine ⟨fun p hp => by rw [e]; exact List.mem_append_left _ (g.of p hp), fun p hp => ?_, Nat.le_succ_of_le g.len⟩
    rw [e] at hp
    rcases List.mem_append.mp hp with z | z
    · exact g.all p z
    · rw [List.mem_singleton.mp z]
      exact m
  · have pm := c2 m
    refine ⟨fun p hp => ?_, fun p hp => (pm.map (·.2)).mem_iff.mpr ?_, by rw [pm.length_eq]; exact Nat.succ_le_succ g.len⟩
    · rw [e]
      rcases List.mem_cons.mp (pm.mem_iff.mp hp) with z | z
      · exact List.mem_append_right _ (List.mem_singleton.mpr z)
      · exact List.mem_append_left _ (g.of p z)
    · rw [e] at hp
      rw [List.map_cons]
      rcases List.mem_append.mp hp with z | z
      · exact List.mem_cons_of_mem _ (g.all p z)
      · rw [List.mem_singleton.mp z]
        exact List.mem_cons_self
/-- a set of tuples, whatever its table -/
def TupSet {P : Program} {w : World} {K : Type} [DecidableEq K] (kk : KeyKind P w K) (h : Heap) (a : Addr) (L : List (Addr × List K)) : Prop := ∃ es ep t, TpSet kk h a L es ep t
section
variable {P : Program} {w : World} {K : Type} [DecidableEq K] {kk : KeyKind P w K} {A : Around} {E : Value → Shared → Prop} {s : Shared}
theorem TupSet.keep {h h' : Heap} {a : Addr} {L : List (Addr × List K)} (R : TupSet kk h a L) (q : ∀ o, h.get? a = some o → h'.get? a = some o) : TupSet kk h' a L := by
  obtain ⟨es, ep, t, R⟩ := R
  obtain ⟨o, ho, r⟩ := R.ob
  exact ⟨es, ep, t, ⟨o, q o ho, r⟩, R.en, R.tab, R.nd, R.led, R.room, R.few⟩
/-- the new set, empty -/
abbrev bareT (w : World) : Obj := { cls := .type "set", dict := none, data := .set #[] 0 (.fresh 0 0 (!w.params.followText "set-order")) }
theorem tupset_new {h : Heap} {a : Addr} (ho : h.get? a = some (bareT w)) : TupSet kk h a [] :=
  ⟨#[], 0, _, ⟨_, ho, ⟨rfl, rfl, rfl⟩, rfl⟩, rfl, ⟨List.Pairwise.nil, rfl, rfl, .inl rfl, (fun x hx => nomatch hx), (fun i h j hi => by simp [hsK] at hi)⟩, List.nodup_nil, (by
    show _ ∨ (!w.params.followText "set-order") = true
    cases w.params.followText "set-order" <;> simp), (by show 0 * 5 < 7 * 3; decide), (by show 0 < 64; decide)⟩
/-- few different keys -/
def LowT (ks : List (Addr × List K)) : Prop := ∃ B : List (List K), B.length < 63 ∧ ∀ p ∈ ks, p.2 ∈ B
theorem nodup_few {α : Type} [DecidableEq α] : ∀ {l B : List α}, l.Nodup → (∀ x ∈ l, x ∈ B) → l.length ≤ B.length
  | [], _, _, _ => Nat.zero_le _
  | x :: l, B, nd, h => by
    obtain ⟨n1, n2⟩ := List.nodup_cons.mp nd
    have hx := h x List.mem_cons_self
    have q := nodup_few (l := l) (B := B.erase x) n2 fun y hy => (List.mem_erase_of_ne (fun e => n1 (by rw [← e]; exact hy))).mpr (h y (List.mem_cons_of_mem _ hy))
    rw [List.length_erase_of_mem hx] at q
    have hp := List.length_pos_of_mem hx
    rw [List.length_cons]
    omega
theorem few_low {ks L : List (Addr × List K)} (nd : (L.map (·.2)).Nodup) (low : LowT ks) (h : ∀ q ∈ L, q ∈ ks) : L.length + 1 < 64 := by
  obtain ⟨B, hB, hk⟩ := low
  have q := nodup_few (B := B) nd fun y hy => by
    obtain ⟨p, hp, rfl⟩ := List.mem_map.mp hy
    exact hk p (h p hp)
  rw [List.length_map] at q
  omega
theorem loop_tups (O : ItemOk kk) {I : Addr} {fp wr : List Addr} {G : Array GenState → Array GenState → Prop} {n : Nat} {Pv : Nat → Value → Prop} {St : Nat → Shared → Prop} {R : Result → Shared → Prop} (W : WalksS P w A.in1 I fp wr G n Pv St)
    (S : Addr) (out : S ∉ fp) (ks : List (Addr × List K)) (hn : n = ks.length) (low : LowT ks) (hv : ∀ i v, Pv i v → ∃ p, ks[i]? = some p ∧ v = .ref p.1) (free : ∀ p ∈ ks, p.1 ∉ wr) (hu : A.in1.units < PySem.cLine) :
    ∀ (k i : Nat) (s : Shared), n - i = k → i ≤ n → St i s → TupsIn kk s.heap ks → (∃ L, TupSet kk s.heap S L ∧ Gained ks i L) →
      (∀ s' L, Moved (S :: wr) G s s' → TupSet kk s'.heap S L → Gained ks n L → R (.ok (.ret .none)) s') → codeAny (model P w) A (.builtin "set.update.loop" ⟨[.ref S, .ref I], []⟩) R s := by
  have outW : S ∉ wr := fun h => out (W.sub _ h)
  have more : ∀ b ∈ wr, b ∈ S :: wr := fun b h => List.mem_cons_of_mem _ h
  have keys : ∀ {s s' : Shared}, Moved wr G s s' → TupsIn kk s.heap ks → TupsIn kk s'.heap ks := fun mv T p hp => by
    obtain ⟨o, items, m, ho, r⟩ := T p hp
    exact ⟨o, items, m, mv.heap p.1 o (free p hp) ho, r⟩
  intro k
  induction k with
  | zero =>
    intro i s e1 e2 st T X fin
    obtain rfl : i = n := by omega
    obtain ⟨L, X, g⟩ := X
    refine codeAny_builtin PyProof.Rows.F.entry_set_update_loop ?_
    rw [Around.under_plainId PyProof.Rows.F.plain_set_update_loop _]
    show wpAny _ A.in1 (pyNext (.ref I) >>= _) _ _ s
    exact wpAny_bind (W.done s _ _ st fun s' mv => wpAny_pure (fin s' L (mv.mono more) (X.keep fun o e => mv.heap S o outW e) g))
  | succ k ih =>
    intro i s e1 e2 st T X fin
    obtain ⟨L, X, g⟩ := X
    have lt : i < n := by omega
    refine codeAny_builtin PyProof.Rows.F.entry_set_update_loop ?_
    rw [Around.under_plainId PyProof.Rows.F.plain_set_update_loop _]
    show wpAny _ A.in1 (pyNext (.ref I) >>= _) _ _ s
    refine wpAny_bind (W.item i s _ _ lt st fun v s1 pv st1 mv => ?_)
    obtain ⟨p, hp, rfl⟩ := hv i v pv
    have T1 := keys mv T
    obtain ⟨es, ep, t, X1⟩ := X.keep (h' := s1.heap) fun o e => mv.heap S o outW e
    have hx := T1 p (List.mem_of_getElem? hp)
    show wpAny _ A.in1 (holding [Value.ref p.1] (setAdd S (.ref p.1)) >>= _) _ _ s1
    refine wpAny_bind (wpAny_holding ?_)
    unfold setAdd
    refine wpAny_holding (wpAny_bind (wpAny_pyHash_tuple hu hx ?_))
    refine add_tup (s := { s1 with toks := s1.toks + (p.2.length + 1) }) O X1 (fun q hq => T1 q (List.mem_of_mem_take (g.of q hq))) hx hu (few_low X1.nd low fun q hq => List.mem_of_mem_take (g.of q hq)) fun b h' L' es' ep' t' sb X2 kept c1 c2 => ?_
    refine wpAny_pure ⟨plainId_quiet PyProof.Rows.F.plain_set_update_loop _, ih (i + 1) _ (by omega) lt (W.frame (i + 1) s1 h' (s1.toks + (p.2.length + 1)) st1 (Nat.le_add_right _ _) fun c hc o e => ?_) (fun q hq => kept _ _ (T1 q hq)) ⟨L', ⟨es', ep', t', X2⟩, gained_next g hp c1 c2⟩
      fun s2 L2 mv2 X3 g3 => fin s2 L2 (Moved.trans W.gtrans ((mv.mono more).then_heap (Nat.le_add_right _ _) fun c o hc e => ?_) mv2) X3 g3⟩
    · exact (sb.2 c fun z => out (z ▸ hc)).trans e
    · exact (sb.2 c fun z => hc (z ▸ List.mem_cons_self)).trans e
set_option maxHeartbeats 3200000 in
/-- set(xs), xs a list of tuples -/
theorem set_of_tups (O : ItemOk kk) {l : Addr} {items : Array Value} {ks : List (Addr × List K)} {Q : Value → Shared → Prop} (calm : A.handled = none) (hl : s.heap.IsList l items) (hx : items.toList = ks.map fun p => Value.ref p.1) (T : TupsIn kk s.heap ks) (low : LowT ks) (hu : A.units + 3 < PySem.cLine)
    (h : ∀ (h' : Heap) (tk : Nat) L, TupSet kk h' s.heap.objs.size L → Gained ks ks.length L → (∀ b o, s.heap.get? b = some o → h'.get? b = some o) → Q (.ref s.heap.objs.size) { s with heap := h', toks := tk }) : wpAny (model P w) A (call (.type "set") [.ref l]) Q E s := by
  have sz : items.size = ks.length := by
    have q := congrArg List.length hx
    rw [Array.length_toList, List.length_map] at q
    exact q
  obtain ⟨mc, mt, mro⟩ := PySem.F.called_set.mro
  have made := PySem.F.called_set.made
  have sub := PySem.F.called_set.sub
  have notT := PySem.F.called_set.notType
  have can := PySem.F.called_set.canCreate
  have chk := PySem.F.typeCall_set_1 (.ref l)
  refine wpAny_call (codeAny_of_tree (show wpAny _ _ (callAny (.type "set") _) _ _ _ from wpAny_pure ⟨Code.quiet_builtin _ (by decide +kernel), codeAny_builtin PySem.F.entry_type_call ?_⟩))
  rw [Around.under_plain (weight_type_call_type "set" [.ref l] []) rfl]
  repeat (any_goals (first | assumption | wp_step))
  let S := s.heap.objs.size
  let H1 := s.heap.push (bareT w)
  refine codeAny_mono (L2.code_set_led1 (.ref l) (E := E) (Q₁ := fun v s1 => v = .ref S ∧ s1 = { s with heap := H1 }) ⟨rfl, rfl⟩) fun r s1 hr => ?_
  match r, hr with
  | .error e, hr => exact hr
  | .ok .next, hr => exact hr.elim
  | .ok .brk, hr => exact hr.elim
  | .ok .cont, hr => exact hr.elim
  | .ok (.ret v), ⟨e1, e2⟩ =>
    subst e1
    subst e2
    have there : H1.get? S = some (bareT w) := Heap.get?_push_size _ rfl
    have ty : Shared.TypeIs { s with heap := H1 } (.ref S) "set" := ⟨_, there, rfl⟩
    have look := PySem.F.called_set.init.lookup
    have bnd := PySem.F.called_set.init.bind (.ref S)
    repeat (any_goals (first | assumption | wp_step))
    refine codeAny_mono (codeAny_call_builtin (R := wants (fun v s2 => v = .none ∧ ∃ h' tk L, s2 = { s with heap := h', toks := tk } ∧ TupSet kk h' S L ∧ Gained ks ks.length L ∧ ∀ b o, s.heap.get? b = some o → h'.get? b = some o) E)
      PySem.F.called_set.init.plain PySem.F.entry_set_init (check_set_init_1 ty ?_)) fun r2 s2 hr2 => ?_
    · obtain ⟨⟨kc, kd, kt, ks2⟩, ol, c1, nl, c2⟩ := hl
      simp only at c1 c2
      subst c1
      subst c2
      have ol1 : H1.get? l = some { cls := .type "list", dict := kd, data := .seq items nl, slots := ks2 } := Heap.get?_push_of_some _ ol
      have l1 : H1.IsList l items := ⟨_, ol1, rfl, nl, rfl⟩
      have f1 := PySem.F.sub_list_set
      have f2 := PySem.F.sub_list_frozenset
      have f3 : (Value.type "list" == Value.type "dict") = false := by decide
      unfold Builtin.«set.__init__» noKeywords Builtin.Frozenset.updateFrom
      generalize hp : pyIter = PI
      wp_walk
      subst hp
      refine wpAny_pyIter_list l1 (wpAny_bind (wpAny_runValue ?_))
      have lS : l < S := Heap.lt_size ol
      have zz : H1.objs.size = S + 1 := size_push' _ _
      have calm3 : A.in1.in1.in1.handled = none := by simp [calm]
      have nI : l ≠ H1.objs.size := by rw [zz]; exact Nat.ne_of_lt (Nat.lt_succ_of_lt lS)
      have outS : S ∉ [H1.objs.size, l] := by
        rw [zz]
        intro z
        rcases List.mem_cons.mp z with z | z
        · exact absurd z (Nat.ne_of_lt (Nat.lt_succ_self _))
        · exact absurd (List.mem_singleton.mp z) (Nat.ne_of_gt lS)
      refine loop_tups O (Walks.list calm3 _ l nI items).toS S outS ks sz low (fun i v pv => ?_) (fun p hp z => ?_) hu (items.size - 0) 0 _ (by omega) (Nat.zero_le _) ⟨⟨_, Heap.get?_push_size _ rfl, rfl, rfl⟩, l1.push _⟩ (fun p hp => keyStays (T p hp) fun b o e => Heap.get?_push_of_some _ (Heap.get?_push_of_some _ e))
        ⟨[], tupset_new (Heap.get?_push_of_some _ there), gained_nil ks⟩ (fun s' L mv X g => ?_)
      · have pv' : items.toList[i]? = some v := by rw [Array.getElem?_toList]; exact pv
        rw [hx, List.getElem?_map] at pv'
        obtain ⟨p, hp, e⟩ := Option.map_eq_some_iff.mp pv'
        exact ⟨p, hp, e.symm⟩
      · obtain ⟨o, _, _, ho, _⟩ := T p hp
        have lb := Heap.lt_size ho
        have e2 := List.mem_singleton.mp z
        rw [zz] at e2
        exact absurd e2 (Nat.ne_of_lt (Nat.lt_succ_of_lt lb))
      · obtain ⟨h', g', d', tk', os'⟩ := s'
        obtain rfl : g' = s.gens := mv.gens
        obtain rfl : d' = s.drawn := mv.drawn
        obtain rfl : os' = s.os := mv.os
        show wpAny _ _ _ _ _ _
        refine wpAny_pure ?_
        show wpAny _ _ (ret Value.none) _ _ _
        rw [sz] at g
        refine wpAny_pure ⟨rfl, h', tk', L, rfl, X, g, fun b o e => ?_⟩
        have lb : b < S := Heap.lt_size e
        refine mv.heap b o (fun z => ?_) (Heap.get?_push_of_some _ (Heap.get?_push_of_some _ e))
        rcases List.mem_cons.mp z with z | z
        · exact absurd z (Nat.ne_of_lt lb)
        · have e2 := List.mem_singleton.mp z
          rw [zz] at e2
          exact absurd e2 (Nat.ne_of_lt (Nat.lt_succ_of_lt lb))
    · match r2, hr2 with
      | .error e, hr2 => exact hr2
      | .ok .next, hr2 => exact hr2.elim
      | .ok .brk, hr2 => exact hr2.elim
      | .ok .cont, hr2 => exact hr2.elim
      | .ok (.ret v), ⟨e1, h', tk, L, e2, X, g, old⟩ =>
        subst e1
        subst e2
        repeat (any_goals (first | assumption | wp_step))
        exact h _ _ L X g old
end
end Pn

namespace Pn
open PySem PySem.Spec PyProof.Rows L2
/-! ### sets of tuples of texts as rules: set(xs), sorted(s) -/
def keyI (k : List Str) : List (Int ⊕ List Nat) := k.map fun z => Sum.inr z.cps.toList
/-- the order of tuples of texts -/
def ltT (a b : List Str) : Bool := lexLt itemOrd (keyI a) (keyI b)
theorem str_ext {x y : Str} (h : x.cps.toList = y.cps.toList) : x = y := by
  obtain ⟨a⟩ := x
  obtain ⟨b⟩ := y
  have e : a = b := Array.toList_inj.mp h
  rw [e]
theorem keyI_inj : ∀ {a b : List Str}, keyI a = keyI b → a = b
  | [], [], _ => rfl
  | [], _ :: _, h => nomatch h
  | _ :: _, [], h => nomatch h
  | x :: a, y :: b, h => by
    injection h with h1 h2
    injection h1 with h1
    rw [str_ext h1, keyI_inj (a := a) (b := b) h2]
theorem ltT_irrefl (a : List Str) : ltT a a = false := lex_irrefl _
theorem ltT_trans {a b c : List Str} (h1 : ltT a b = true) (h2 : ltT b c = true) : ltT a c = true := lex_trans _ _ _ h1 h2
theorem ltT_total {a b : List Str} (h1 : ltT a b = false) (h2 : ltT b a = false) : a = b := keyI_inj (lex_total _ _ h1 h2)
section
variable {P : Program} {w : World}
theorem strItems : ∀ {k : List Str} {us : List Value}, Vals (k.map V.str) us → ItemsAre (PySem.strKind P w) k us
  | [], _, .nil => .nil
  | z :: k, _, .cons r t => by
    obtain ⟨tk, rfl⟩ := r
    exact .cons (show Value.isStrOf z (.str z tk) = true by simp [Value.isStrOf]) (strItems t)
theorem tupItems_str {sh : Nat → Bool} (hsh : ∀ i, sh i = true) {k : List Str} {us : List Value} (h : ItemsAre (PySem.strKind P w) k us) : ∀ i, tupItems sh i us = some (keyI k) := by
  induction h with
  | nil => exact fun _ => rfl
  | @cons z v k us h1 _ ih =>
    intro i
    obtain ⟨t, rfl⟩ := Value.isStrOf_shape h1
    show (if sh i = true then (tupItems sh (i + 1) us).map (Sum.inr z.cps.toList :: ·) else none) = _
    rw [if_pos (hsh i), ih (i + 1)]
    rfl
abbrev allStr : Nat → Bool := fun _ => true
theorem key_of_tup {h : Heap} {k : List Str} {a : Addr} (x : IsTupleKey (PySem.strKind P w) h k a) : PyProof.Rows.G.tupKeyC h allStr (.ref a) = some (keyI k) := by
  obtain ⟨o, items, n, ho, hc, hd, hi⟩ := x
  unfold PyProof.Rows.G.tupKeyC
  have e1 : PyProof.Rows.G.isTupObj h (.ref a) = true := by simp [PyProof.Rows.G.isTupObj, ho, hc]
  rw [if_pos e1]
  simp only [tupKey, ho, hd]
  exact tupItems_str (fun _ => rfl) hi 0
theorem tupsOf_keys {h : Heap} : ∀ {L : List (Addr × List Str)}, (∀ p ∈ L, IsTupleKey (PySem.strKind P w) h p.2 p.1 ∧ p.2 ≠ []) → ∃ fs, TupsOf h allStr (L.map fun p => Value.ref p.1) fs
  | [], _ => ⟨[], .nil⟩
  | p :: L, H => by
    obtain ⟨fs, r⟩ := tupsOf_keys fun q hq => H q (List.mem_cons_of_mem _ hq)
    obtain ⟨⟨o, items, n, ho, hc, hd, hi⟩, ne⟩ := H p List.mem_cons_self
    obtain ⟨f, hf, t, ef⟩ : ∃ f, items[0]? = some f ∧ ∃ t x, f = .str x t := by
      cases hp : p.2 with
      | nil => exact absurd hp ne
      | cons z k =>
        rw [hp] at hi
        cases hl : items.toList with
        | nil => rw [hl] at hi; cases hi
        | cons v us =>
          rw [hl] at hi
          cases hi with
          | cons h1 _ =>
            obtain ⟨t, e⟩ := Value.isStrOf_shape h1
            exact ⟨v, by rw [← Array.getElem?_toList, hl]; rfl, t, z, e⟩
    obtain ⟨x, ef⟩ := ef
    exact ⟨f :: fs, .cons ⟨p.1, o, items, n, rfl, ho, hc, hd, hf, (fun z => nomatch z), fun _ => ⟨x, t, ef⟩⟩ r⟩
variable {A : Around} {E : Value → Shared → Prop} {s : Shared}
/-- sorted(s), s a set of tuples of texts -/
theorem sorted_set_tups {a : Addr} {L : List (Addr × List Str)} {Q : Value → Shared → Prop} (R : TupSet (PySem.strKind P w) s.heap a L) (T : ∀ p ∈ L, IsTupleKey (PySem.strKind P w) s.heap p.2 p.1 ∧ p.2 ≠ []) (calm : A.handled = none)
    (q : ∀ s' p (out : Array Value) (c : Nat) (L' : List (Addr × List Str)), (∀ b o, s.heap.get? b = some o → s'.heap.get? b = some o) → s'.gens = s.gens → s'.os = s.os → s.heap.objs.size ≤ p →
      s'.heap.get? p = some (seqObj "list" out c) → out.toList = L'.map (fun q => Value.ref q.1) → L'.Perm L → (L'.map (·.2)).Pairwise (fun x y => ltT x y = true) → Q (.ref p) s') :
    wpAny (model P w) A (call (.builtin "sorted") [.ref a]) Q E s := by
  obtain ⟨es, ep, t, R⟩ := R
  obtain ⟨o, ho, hex, hd⟩ := R.ob
  have sz := entK_len R.en
  have few := R.few
  refine Calls.call_function_entry kind_sorted plain_sorted entry_sorted (args_sorted1 _) ?_
  unfold Builtin.«sorted»
  refine wpAny_bind (m := checkCount "sorted" 1 1 _) (wpAny_pure ?_)
  refine wpAny_bind (collect_set (A := A.in1) calm ⟨o, ho, hex.1, hd⟩ R.fits (by unfold scanBound; omega) R.tab.ris R.led fun s1 vs k1 hz g1 o1 pm => ?_)
  have hes : es.toList.map (·.2) = L.map fun q => Value.ref q.1 := by
    rw [R.en]
    show (L.map _).map _ = _
    rw [List.map_map]
    rfl
  rw [hes] at pm
  obtain ⟨L1, p1, e1⟩ := perm_lift (fun q : Addr × List Str => Value.ref q.1) pm L rfl
  have vl : vs.length = L.length := by rw [pm.length_eq, List.length_map]
  refine wpAny_bind (wpAny_newList ?_ (by rw [vl, sizeLine_eq]; omega))
  have hoL : (s1.heap.push (seqObj "list" vs.toArray 0)).get? s1.heap.objs.size = some (seqObj "list" vs.toArray 0) := Heap.get?_push_size _ rfl
  have T1 : ∀ p ∈ L1, IsTupleKey (PySem.strKind P w) (s1.heap.push (seqObj "list" vs.toArray 0)) p.2 p.1 ∧ p.2 ≠ [] := fun p hp => by
    obtain ⟨x, y⟩ := T p (p1.mem_iff.mp hp)
    exact ⟨keyStays x fun b u e => Heap.get?_push_of_some _ (k1 b u e), y⟩
  obtain ⟨fs, hfs⟩ := tupsOf_keys T1
  rw [e1] at hfs
  have nd1 : (L1.map (·.2)).Nodup := (p1.map (·.2)).nodup_iff.mpr R.nd
  refine wpAny_bind (wpAny_holding (wpAny_call_entry slot_list_sort ⟨_, hoL, rfl⟩ entry_list_sort (PyProof.Rows.G.list_sort_tups (s := { s1 with heap := s1.heap.push (seqObj "list" vs.toArray 0) }) hoL hfs (fun v hv => ?_) (by rw [vl, sizeLine_eq]; omega) fun st hp hs _ => ⟨_, rfl, ?_⟩) (args_list_sort _)))
  · rw [← e1] at hv
    obtain ⟨p, hp, rfl⟩ := List.mem_map.mp hv
    exact ⟨_, key_of_tup (T1 p hp).1⟩
  · have hp2 : (arrOf st).toList.Perm (vs.zip vs) := by
      have z := Array.perm_iff_toList_perm.mp hp
      rw [pairsOf_toList] at z
      exact z
    have ez : vs.zip vs = L1.map fun q => (Value.ref q.1, Value.ref q.1) := by
      rw [← e1, List.zip_map']
    rw [ez] at hp2
    obtain ⟨L2, p2, e2⟩ := perm_lift (fun q : Addr × List Str => (Value.ref q.1, Value.ref q.1)) hp2 L1 rfl
    obtain ⟨c, hc⟩ := sortedHeap_at (vs := vs) (out := (arrOf st).map (·.2)) hoL
    have hout : ((arrOf st).map (·.2)).toList = L2.map fun q => Value.ref q.1 := by
      rw [Array.toList_map, ← e2, List.map_map]
      rfl
    have nd2 : (L2.map (·.2)).Nodup := (p2.map (·.2)).nodup_iff.mpr nd1
    refine wpAny_pure ⟨_, rfl, q _ s1.heap.objs.size _ c L2 (fun b u e => ?_) g1 o1 hz hc hout (p2.trans p1) ?_⟩
    · have z := k1 b u e
      have lt := Heap.lt_size z
      show (sortedHeap (s1.heap.push (seqObj "list" vs.toArray 0)) s1.heap.objs.size vs ((arrOf st).map (·.2))).get? b = some u
      rw [sortedHeap_old (Nat.ne_of_lt lt) (by rw [size_push']; exact Nat.lt_succ_of_lt lt)]
      exact Heap.get?_push_of_some _ z
    · rw [List.pairwise_iff_getElem]
      intro i j hi hj hij
      rw [List.length_map] at hi hj
      have kk : ∀ i (h : i < L2.length), KK (PyProof.Rows.G.tupKindC (s1.heap.push (seqObj "list" vs.toArray 0)) allStr) (arrOf st) i = keyI (L2[i]).2 := fun i h => by
        have g : (arrOf st)[i]? = some (Value.ref (L2[i]).1, Value.ref (L2[i]).1) := by
          rw [← Array.getElem?_toList, ← e2, List.getElem?_map, List.getElem?_eq_getElem h]
          rfl
        unfold KK
        rw [g]
        show ((PyProof.Rows.G.tupKeyC _ allStr (Value.ref (L2[i]).1)).getD []) = _
        rw [key_of_tup (T1 _ (p2.mem_iff.mp (List.getElem_mem h))).1]
        rfl
      have psz : (pairsOf vs).size = L2.length := by rw [pairsOf_size, ← e1, List.length_map, p2.length_eq]
      have z := hs i j (Nat.le_of_lt hij) (by rw [psz]; exact hj)
      rw [kk i hi, kk j hj] at z
      have z : ltT (L2[j]).2 (L2[i]).2 = false := z
      rw [List.getElem_map, List.getElem_map]
      cases y : ltT (L2[i]).2 (L2[j]).2 with
      | true => rfl
      | false =>
        have e := ltT_total y z
        have ne := List.pairwise_iff_getElem.mp nd2 i j (by rw [List.length_map]; exact hi) (by rw [List.length_map]; exact hj) hij
        rw [List.getElem_map, List.getElem_map] at ne
        exact absurd e ne
end
end Pn

namespace Pn
open PySem PySem.Spec PyProof.Rows L2
def SetTp (P : Program) (w : World) (a : Addr) (L : List (Addr × List Str)) : HO := .ext fun h => TupSet (PySem.strKind P w) h a L
theorem setTp_new {P : Program} {w : World} {H : Hp} {h : Heap} {a : Addr} {L : List (Addr × List Str)} (R : TupSet (PySem.strKind P w) h a L) : ObjOk P w H h a (SetTp P w a L) := by
  have ⟨es, ep, t, R2⟩ := R
  obtain ⟨o, ho, _⟩ := R2.ob
  exact ⟨R, ⟨o, ho⟩, fun h1 h2 p k => TupSet.keep p k⟩
theorem refVals : ∀ {ks : List (Addr × List Str)} {us : List Value}, Vals (ks.map fun p => V.ref p.1) us → us = ks.map fun p => Value.ref p.1
  | [], _, .nil => rfl
  | p :: ks, _, .cons r t => by
    cases r
    rw [refVals t]
    rfl
theorem valRefs : ∀ (ks : List (Addr × List Str)), Vals (ks.map fun p => V.ref p.1) (ks.map fun p => Value.ref p.1)
  | [] => .nil
  | p :: ks => .cons rfl (valRefs ks)
section
variable {X : Cx}
theorem inv_key {pins : List (Addr × Obj)} {σ : L2.St} {H : Hp} {s : Shared} {b : Addr} {k : List Str} (I : Inv X pins σ H s) (h : SqT X.K H b (k.map V.str)) : IsTupleKey (PySem.strKind X.prog X.w) s.heap k b := by
  obtain ⟨its, r, ⟨o, ho, hc, n, hd⟩, _⟩ := I.tuple h
  exact ⟨o, its.toArray, n, ho, hc, hd, by simpa using strItems r⟩
/-- set(xs), xs a list of tuples of texts -/
def rSetTp (K : PySem.W.Frag) (P : Program) (w : World) : List V → Hp → VK → Prop := fun xs H Q => ∃ (l : Addr) (ks : List (Addr × List Str)), xs = [.ref l] ∧ SqL K H l (ks.map fun p => V.ref p.1) ∧ (∀ p ∈ ks, SqT K H p.1 (p.2.map V.str)) ∧ LowT ks ∧
  ∀ a L, H a = none → (∀ p ∈ L, p ∈ ks) → (∀ p ∈ ks, p.2 ∈ L.map (·.2)) → Q (.ref a) (upd H a (SetTp P w a L))
theorem cr_setTp (hc : X.calm = true) (hu : X.A.units + 64 < PySem.cLine) : CallR X (.type "set") (rSetTp X.K X.prog X.w) := by
  intro pins s σ H xs us Q I r h
  obtain ⟨l, ks, rfl, hl, hk, hf, q⟩ := h
  rw [Vals.ref1 r]
  obtain ⟨its, rv, pl, hz⟩ := I.list hl
  refine set_of_tups (str_itemOk X.prog X.w) (ks := ks) (I.ok.hd hc) pl.isList (by simpa using refVals rv) (fun p hp => inv_key I (hk p hp)) hf (by omega) fun h' tk L R g k => ?_
  exact ⟨.ref s.heap.objs.size, upd H s.heap.objs.size (SetTp X.prog X.w s.heap.objs.size L), I.laid (t' := tk) k (Nat.le_refl _) (setTp_new R), rfl, q _ L (I.hok.fresh (Nat.le_refl _)) (fun p hp => List.mem_of_mem_take (g.of p hp)) fun p hp => g.all p (by rw [List.take_length]; exact hp)⟩
/-- sorted(s), s such a set -/
def rSortTp (K : PySem.W.Frag) (P : Program) (w : World) : List V → Hp → VK → Prop := fun vs H Q => ∃ (a : Addr) (L : List (Addr × List Str)), vs = [.ref a] ∧ H a = some (SetTp P w a L) ∧ (∀ p ∈ L, SqT K H p.1 (p.2.map V.str) ∧ p.2 ≠ []) ∧
  ∀ (L' : List (Addr × List Str)) (p : Addr), L'.Perm L → (L'.map (·.2)).Pairwise (fun x y => ltT x y = true) → H p = none → Q (.ref p) (upd H p (.lst (L'.map fun q => V.ref q.1)))
theorem cr_sortTp (hc : X.calm = true) : CallR X (.builtin "sorted") (rSortTp X.K X.prog X.w) := by
  intro pins s σ H vs us Q I r h
  obtain ⟨a, L, rfl, ha, hk, q⟩ := h
  have R : TupSet (PySem.strKind X.prog X.w) s.heap a L := (I.hok a _ ha).1
  have few : L.length < 64 := by
    obtain ⟨_, _, _, R⟩ := R
    exact R.few
  rw [Vals.ref1 r]
  refine sorted_set_tups R (fun p hp => ⟨inv_key I (hk p hp).1, (hk p hp).2⟩) (I.ok.hd hc) fun s' p out c L' k g o hp hg hout pm pw => ?_
  have hlen : (L'.map fun q => V.ref q.1).length ≤ sizeLine := by rw [List.length_map, pm.length_eq, sizeLine_eq]; omega
  have hn : H p = none := I.hok.fresh hp
  have hv : Vals (L'.map fun q => V.ref q.1) out.toList := by rw [hout]; exact valRefs L'
  have J : Inv X pins σ (upd H p (.lst (L'.map fun q => V.ref q.1))) { s with heap := s'.heap, gens := s'.gens, drawn := s'.drawn, toks := s'.toks } :=
    I.call (ch := []) (Un.laid k hp hn) (I.hok.laid k hp ⟨hlen, out.toList, c, hv, hg⟩) (by rw [g]; exact I.bare) (fun _ z => nomatch z)
  have e : s' = { s with heap := s'.heap, gens := s'.gens, drawn := s'.drawn, toks := s'.toks } := by
    obtain ⟨_, _, _, _, _⟩ := s'
    obtain ⟨_, _, _, _, _⟩ := s
    cases o
    rfl
  rw [e]
  exact ⟨.ref p, _, J, rfl, q L' p pm pw hn⟩
end
end Pn

namespace Pn
open PySem L2
theorem iteTB {c : Bool} {A B : Prop} (hc : c = true) (h : A) : if c = true then A else B := by
  rw [if_pos hc]
  exact h
theorem iteFB {c : Bool} {A B : Prop} (hc : c = false) (h : B) : if c = true then A else B := by
  rw [hc, if_neg Bool.false_ne_true]
  exact h
abbrev sDeal : Stmt := top 17
abbrev sDraw : Stmt := top 18
abbrev sPick : Stmt := top 19
/-! ### draws out of a deal: a dict of a list of great numbers and three numbers -/
def deal4 (g : Addr) (n m t : Int) : List (Key × V) := [(.inr "great", .ref g), (.inr "now", .int n), (.inr "mixed", .int m), (.inr "turn", .int t)]
theorem deal4_get {g : Addr} {n m t : Int} : valV (deal4 g n m t) (.inr "great") = some (.ref g) ∧ valV (deal4 g n m t) (.inr "now") = some (.int n) ∧ valV (deal4 g n m t) (.inr "mixed") = some (.int m) ∧ valV (deal4 g n m t) (.inr "turn") = some (.int t) := by
  have e1 : ¬ (.inr "great" : Key) = .inr "now" := by decide +kernel
  have e4 : ¬ (.inr "great" : Key) = .inr "mixed" := by decide +kernel
  have e5 : ¬ (.inr "now" : Key) = .inr "mixed" := by decide +kernel
  have e7 : ¬ (.inr "great" : Key) = .inr "turn" := by decide +kernel
  have e8 : ¬ (.inr "now" : Key) = .inr "turn" := by decide +kernel
  have e9 : ¬ (.inr "mixed" : Key) = .inr "turn" := by decide +kernel
  refine ⟨?_, ?_, ?_, ?_⟩
  · exact valV_pos rfl
  · exact (valV_neg e1).trans (valV_pos rfl)
  · exact (valV_neg e4).trans ((valV_neg e5).trans (valV_pos rfl))
  · exact (valV_neg e7).trans ((valV_neg e8).trans ((valV_neg e9).trans (valV_pos rfl)))
theorem deal4_put {g : Addr} {n m t x : Int} : putK (deal4 g n m t) (.inr "now") (.int x) = deal4 g x m t ∧ putK (deal4 g n m t) (.inr "mixed") (.int x) = deal4 g n x t ∧ putK (deal4 g n m t) (.inr "turn") (.int x) = deal4 g n m x := by
  have e1 : ((.inr "great" : Key) = .inr "now") = False := eq_false (by decide +kernel)
  have e2 : ((.inr "mixed" : Key) = .inr "now") = False := eq_false (by decide +kernel)
  have e3 : ((.inr "turn" : Key) = .inr "now") = False := eq_false (by decide +kernel)
  have e4 : ((.inr "great" : Key) = .inr "mixed") = False := eq_false (by decide +kernel)
  have e5 : ((.inr "now" : Key) = .inr "mixed") = False := eq_false (by decide +kernel)
  have e6 : ((.inr "turn" : Key) = .inr "mixed") = False := eq_false (by decide +kernel)
  have e7 : ((.inr "great" : Key) = .inr "turn") = False := eq_false (by decide +kernel)
  have e8 : ((.inr "now" : Key) = .inr "turn") = False := eq_false (by decide +kernel)
  have e9 : ((.inr "mixed" : Key) = .inr "turn") = False := eq_false (by decide +kernel)
  refine ⟨?_, ?_, ?_⟩ <;> unfold putK deal4 <;> simp [e1, e2, e3, e4, e5, e6, e7, e8, e9]
/-- the heap but for a deal -/
def hh (H : Hp) (d g : Addr) : Hp := hid (hid H d) g
def DealAt (H : Hp) (d g : Addr) : Prop := d ≠ g ∧ ∃ (xs : List Int) (n m t : Int), H d = some (.dK (deal4 g n m t)) ∧ H g = some (.lst (xs.map V.int)) ∧ xs.length ≤ 63
theorem hh_ne {H : Hp} {d g a : Addr} {o : HO} (h : hh H d g a = some o) : a ≠ d ∧ a ≠ g ∧ H a = some o := by
  unfold hh hid at h
  by_cases h1 : a = g
  · rw [if_pos h1] at h; cases h
  · rw [if_neg h1] at h
    by_cases h2 : a = d
    · rw [if_pos h2] at h; cases h
    · rw [if_neg h2] at h; exact ⟨h2, h1, h⟩
theorem hh_get {H : Hp} {d g a : Addr} {o : HO} (h : H a = some o) (n1 : a ≠ d) (n2 : a ≠ g) : hh H d g a = some o := hid_get (hid_get h n1) n2
theorem hh_sub {H : Hp} {d g : Addr} : Same (hh H d g) H := fun _ _ e => (hh_ne e).2.2
theorem hh_same {H H' : Hp} {d g : Addr} (s : Same H H') : Same (hh H d g) (hh H' d g) := fun _ _ e => by
  obtain ⟨n1, n2, e⟩ := hh_ne e
  exact hh_get (s _ _ e) n1 n2
theorem hh_d {H : Hp} {d g : Addr} {o : HO} : Same (hh H d g) (hh (upd H d o) d g) := fun _ _ e => by
  obtain ⟨n1, n2, e⟩ := hh_ne e
  exact hh_get (by rw [upd_ne n1]; exact e) n1 n2
theorem hh_g {H : Hp} {d g : Addr} {o : HO} : Same (hh H d g) (hh (upd H g o) d g) := fun _ _ e => by
  obtain ⟨n1, n2, e⟩ := hh_ne e
  exact hh_get (by rw [upd_ne n2]; exact e) n1 n2
theorem DealAt.there {H : Hp} {d g : Addr} (h : DealAt H d g) : H d ≠ none ∧ H g ≠ none := by
  obtain ⟨_, xs, n, m, t, e1, e2, _⟩ := h
  refine ⟨fun z => ?_, fun z => ?_⟩
  · rw [e1] at z; cases z
  · rw [e2] at z; cases z
theorem DealAt.new {H : Hp} {d g p : Addr} {o : HO} (h : DealAt H d g) (hp : H p = none) : DealAt (upd H p o) d g := by
  obtain ⟨ne, xs, n, m, t, e1, e2, r⟩ := h
  exact ⟨ne, xs, n, m, t, by rw [upd_ne (ne_of_none e1 hp)]; exact e1, by rw [upd_ne (ne_of_none e2 hp)]; exact e2, r⟩
theorem DealAt.same {H H' : Hp} {d g : Addr} (h : DealAt H d g) (s : Same H H') : DealAt H' d g := by
  obtain ⟨ne, xs, n, m, t, e1, e2, r⟩ := h
  exact ⟨ne, xs, n, m, t, s _ _ e1, s _ _ e2, r⟩
theorem DealAt.upd {H : Hp} {d g p : Addr} {o : HO} (h : DealAt H d g) (n1 : p ≠ d) (n2 : p ≠ g) : DealAt (upd H p o) d g := by
  obtain ⟨ne, xs, n, m, t, e1, e2, r⟩ := h
  exact ⟨ne, xs, n, m, t, by rw [upd_ne n1.symm]; exact e1, by rw [upd_ne n2.symm]; exact e2, r⟩
/-- what is new beside a deal -/
theorem DealAt.nd {H : Hp} {d g p : Addr} (h : DealAt H d g) (hp : H p = none) : p ≠ d ∧ p ≠ g := ⟨fun z => h.there.1 (z ▸ hp), fun z => h.there.2 (z ▸ hp)⟩
theorem hh_new {H : Hp} {d g p : Addr} {o : HO} (hp : H p = none) : Same (hh H d g) (hh (upd H p o) d g) := hh_same (Same.new hp)
theorem hh_at {H : Hp} {d g p : Addr} {o : HO} (h : DealAt H d g) (hp : H p = none) : hh (upd H p o) d g p = some o := hh_get upd_same (h.nd hp).1 (h.nd hp).2
section
variable {P : Program} {w : World} {K : PySem.W.Frag} {mg : Str → Option Value} {base : Heap}
def spDraw : Sp := fun vs H Q _ => ∃ (d g : Addr) (m : Int), vs = [.ref d, .int m] ∧ DealAt H d g ∧ 0 < m ∧ m < 2147483648 ∧ ∀ (r : Int) (H' : Hp), 0 ≤ r → r < m → DealAt H' d g → Same (hh H d g) (hh H' d g) → Mo H H' → Q (.int r) H'
theorem scDraw : FnScope ["_law_deal_here", "_law_many", "_law_digit", "_law_first", "_law_second"] ["_law_deal_here", "_law_many"] (defScope sDraw) := ⟨rfl, rfl, rfl, by decide +kernel, rfl, by decide +kernel, by decide +kernel⟩
/-- a deal and what it holds, beside what stood ahead -/
structure DL (H0 H : Hp) (d g : Addr) (xs : List Int) (n m t : Int) : Prop where
  ne : d ≠ g
  hd : H d = some (.dK (deal4 g n m t))
  hg : H g = some (.lst (xs.map V.int))
  len : xs.length ≤ 63
  s : Same (hh H0 d g) (hh H d g)
  mo : Mo H0 H
theorem putD_new {kvs : List (Key × V)} {k : Key} {v : V} (h : k ∉ kvs.map (·.1)) : putK kvs k v = kvs ++ [(k, v)] := by
  unfold putK
  rw [if_neg]
  rw [List.any_eq_true]
  rintro ⟨kv, hm, e⟩
  exact h (List.mem_map.mpr ⟨kv, hm, of_decide_eq_true e⟩)
theorem mergeD_new : ∀ (l acc : List (Key × V)), (acc.map (·.1) ++ l.map (·.1)).Nodup → mergeK acc l = acc ++ l
  | [], acc, _ => by rw [List.append_nil]; rfl
  | kv :: l, acc, h => by
    have hk : kv.1 ∉ acc.map (·.1) := fun hm => (List.nodup_append.mp h).2.2 _ hm _ List.mem_cons_self rfl
    show mergeK (putK acc kv.1 kv.2) l = _
    rw [putD_new hk, mergeD_new l _ (by rw [List.map_append, List.append_assoc]; exact h), List.append_assoc]
    rfl
theorem roomDl {k : Nat} {A : Around} (r : Room k A) : A.units + 1 < PySem.cLine := by have := r.un; omega
theorem DL.setG {H0 H : Hp} {d g : Addr} {xs ys : List Int} {n m t : Int} (D : DL H0 H d g xs n m t) (hl : ys.length ≤ 63) : DL H0 (upd H g (.lst (ys.map V.int))) d g ys n m t :=
  ⟨D.ne, by rw [upd_ne D.ne]; exact D.hd, upd_same, hl, D.s.trans hh_g, D.mo.trans Mo.upd⟩
theorem DL.setD {H0 H : Hp} {d g : Addr} {xs : List Int} {n m t : Int} (n2 m2 t2 : Int) (D : DL H0 H d g xs n m t) : DL H0 (upd H d (.dK (deal4 g n2 m2 t2))) d g xs n2 m2 t2 :=
  ⟨D.ne, upd_same, by rw [upd_ne D.ne.symm]; exact D.hg, D.len, D.s.trans hh_d, D.mo.trans Mo.upd⟩
theorem DL.at {H0 H : Hp} {d g : Addr} {xs : List Int} {n m t : Int} (D : DL H0 H d g xs n m t) : DealAt H d g := ⟨D.ne, xs, n, m, t, D.hd, D.hg, D.len⟩
theorem DL.great {H0 H : Hp} {d g : Addr} {xs : List Int} {n m t : Int} (D : DL H0 H d g xs n m t) : DGet H d (.str "great") (some (.ref g)) := .inl ⟨_, .inr "great", .inl D.hd, rfl, deal4_get.1.symm⟩
theorem DL.now {H0 H : Hp} {d g : Addr} {xs : List Int} {n m t : Int} (D : DL H0 H d g xs n m t) : DGet H d (.str "now") (some (.int n)) := .inl ⟨_, .inr "now", .inl D.hd, rfl, deal4_get.2.1.symm⟩
theorem DL.mixed {H0 H : Hp} {d g : Addr} {xs : List Int} {n m t : Int} (D : DL H0 H d g xs n m t) : DGet H d (.str "mixed") (some (.int m)) := .inl ⟨_, .inr "mixed", .inl D.hd, rfl, deal4_get.2.2.1.symm⟩
theorem DL.turn {H0 H : Hp} {d g : Addr} {xs : List Int} {n m t : Int} (D : DL H0 H d g xs n m t) : DGet H d (.str "turn") (some (.int t)) := .inl ⟨_, .inr "turn", .inl D.hd, rfl, deal4_get.2.2.2.symm⟩
theorem d4small (g : Addr) (n m t : Int) : (deal4 g n m t).length < sizeLine := by show 4 < sizeLine; decide
theorem DL.pNow {H0 H : Hp} {d g : Addr} {xs : List Int} {n m t x : Int} (D : DL H0 H d g xs n m t) : DPut H d (.str "now") (.int x) (upd H d (.dK (deal4 g x m t))) := .inl ⟨_, .inr "now", D.hd, rfl, d4small .., by rw [deal4_put.1]⟩
theorem DL.pMixed {H0 H : Hp} {d g : Addr} {xs : List Int} {n m t x : Int} (D : DL H0 H d g xs n m t) : DPut H d (.str "mixed") (.int x) (upd H d (.dK (deal4 g n x t))) := .inl ⟨_, .inr "mixed", D.hd, rfl, d4small .., by rw [deal4_put.2.1]⟩
theorem DL.pTurn {H0 H : Hp} {d g : Addr} {xs : List Int} {n m t x : Int} (D : DL H0 H d g xs n m t) : DPut H d (.str "turn") (.int x) (upd H d (.dK (deal4 g n m x))) := .inl ⟨_, .inr "turn", D.hd, rfl, d4small .., by rw [deal4_put.2.2]⟩
theorem ok_draw {f : Addr} {fd : FuncData} (F : Fun K "_law_draw" "_law_draw" sDraw f fd) (mI : mg "int" = none) (mL : mg "len" = none) : FnOk P w K mg base CX0 1 f fd ["_law_deal_here", "_law_many"] spDraw := by
  refine F.ok scDraw (fun vs H Q E h => ?_) (fun cdv A outer s H vs Q E hr h => ?_)
  · obtain ⟨d, g, m, rfl, _⟩ := h
    rfl
  · obtain ⟨d, g, many, rfl, hD, h0, h1, k⟩ := h
    have dg : ∀ {X : Cx} {e : Expr} {te : TE} {pos p : Pos} {j : Nat} {z : Str}, X.A.units + 1 < PySem.cLine → PE X e te → PE X (.Subscript e (.Constant (.str z) j p) pos) (tDGet te (tC (.str z))) := fun hu h => pe_dget hu h pe_str (fun _ _ => rfl)
    refine ⟨_, pss_cons (ps_while PassesOwn.never (PW.pt (pw_and (pt_cmpR op_eq (dg (roomDl hr) (pv 0)) pe_int (nomark _)) (pw_and1 (pt_cmpR op_gt (pe_callB call_len_seq (by rfl) mL PySem.boot_len (pa_cons (dg (roomDl hr) (pv 0)) pa_nil)) pe_int (nomark _)))))
        (pss_one (ps_asg (pe_bm0 PySem.F.plainAttrs_list PySem.F.slot_list_pop PySem.F.type_list_pop mt_pop (dg (roomDl hr) (pv 0))) (pg_sub (pv 0) pe_str (set_dict (roomDl hr))))))
      (pss_cons (ps_if (pt_cmpR op_gt (dg (roomDl hr) (pv 0)) pe_int (nomark _))
        (pss_cons (ps_set (i := 2) scDraw.nd rfl (Or.inl rfl) (pe_op op_mod (pe_callTy call_int1 (by rfl) mI (by decide +kernel) (pa_cons (dg (roomDl hr) (pv 0)) pa_nil)) (pv 1)))
        (pss_cons (ps_asg (pe_op op_fdivW (dg (roomDl hr) (pv 0)) (pv 1)) (pg_sub (pv 0) pe_str (set_dict (roomDl hr))))
        (pss_one (ps_ret (pv 2))))) pss_nil)
      (pss_cons (ps_asg (pe_op op_add (dg (roomDl hr) (pv 0)) pe_int) (pg_sub (pv 0) pe_str (set_dict (roomDl hr))))
      (pss_cons (ps_set (i := 3) scDraw.nd rfl (Or.inl rfl) (pe_op op_mod (pe_callTy call_int1 (by rfl) mI (by decide +kernel) (pa_cons (pe_op op_add (pe_op op_mul (dg (roomDl hr) (pv 0)) pe_int) (pe_op op_mul (dg (roomDl hr) (pv 0)) pe_int)) pa_nil)) pe_int))
      (pss_cons (ps_set (i := 4) scDraw.nd rfl (Or.inl rfl) (pe_op op_mod (pe_callTy call_int1 (by rfl) mI (by decide +kernel) (pa_cons (pe_op op_add (pe_op op_mul (pv 3) (pv 3)) (pe_op op_mul (dg (roomDl hr) (pv 0)) pe_int)) pa_nil)) pe_int))
      (pss_cons (ps_asg (pe_op op_add (pe_op op_mod (pe_callTy call_int1 (by rfl) mI (by decide +kernel) (pa_cons (pe_op op_add (pe_op op_mul (pv 4) pe_int) (pv 3)) pa_nil)) pe_int) pe_int) (pg_sub (pv 0) pe_str (set_dict (roomDl hr))))
      (pss_one (ps_ret (pe_op op_mod (pe_callTy call_int1 (by rfl) mI (by decide +kernel) (pa_cons (pe_op op_add (pe_op op_fdiv (pv 4) pe_int) (pv 3)) pa_nil)) (pv 1))))))))), ?_⟩
    obtain ⟨ne, xs0, n0, m0, t0, e1, e2, e3⟩ := hD
    refine ⟨fun c σ Hc => ∃ (xs : List Int) (n : Int), σ = [some (.ref d), some (.int many), none, none, none] ∧ xs.length = c ∧ DL H Hc d g xs n m0 t0, ⟨_, xs0, n0, rfl, rfl, ne, e1, e2, e3, Same.refl _, Mo.refl _⟩, fun c σ Hc hP => ?_⟩
    obtain ⟨xs, n, rfl, hn, D⟩ := hP
    have hx : ∀ (l : List Int) (x : Int), atI ((l ++ [x]).map V.int) (-1) = some (.int x) := fun l x => by rw [List.map_append]; exact atI_last _ _
    have rev2 : ∀ (l : List Int) (x : Int), ((l ++ [x]).map V.int).dropLast = l.map V.int := fun l x => by rw [List.map_append]; exact List.dropLast_concat
    have lst2 : ∀ (l : List Int) (x : Int), ((l ++ [x]).map V.int)[((l ++ [x]).map V.int).length - 1]? = some (.int x) := fun l x => by
      rw [List.map_append, List.length_append]
      show (l.map V.int ++ [V.int x])[(l.map V.int).length + 1 - 1]? = _
      rw [Nat.add_sub_cancel, List.getElem?_append_right (Nat.le_refl _), Nat.sub_self]
      rfl
    refine ⟨_, rfl, d, _, rfl, D.now, rfl, _, rfl, ?_⟩
    by_cases hz : n = 0
    · subst hz
      refine iteTB (by simp) ?_
      refine ⟨_, rfl, d, _, rfl, D.great, g, _, rfl, .inl (SqL.of D.hg), _, _, rfl, rfl, _, rfl, ?_⟩
      rcases List.eq_nil_or_concat xs with hxs | ⟨l, x, hxs⟩
      · subst hxs
        refine iteFB rfl ?_
        refine ⟨_, rfl, d, _, rfl, D.now, _, _, rfl, rfl, _, rfl, iteF ?_⟩
        refine ⟨_, rfl, d, _, rfl, D.turn, _, _, rfl, rfl, _, rfl, d, _, rfl, D.pTurn, ?_⟩
        have D1 := D.setD 0 m0 (t0 + 1)
        generalize upd Hc d (.dK (deal4 g 0 m0 (t0 + 1))) = H1 at D1 ⊢
        refine ⟨_, rfl, d, _, rfl, D1.mixed, _, _, rfl, rfl, .inr ⟨by decide, by decide⟩, _, rfl, d, _, rfl, D1.turn, _, _, rfl, rfl, .inr ⟨by decide, by decide⟩, _, _, rfl, rfl, .inl ⟨_, rfl, _, _, rfl, rfl, (by show (0 : Int) < 2147483629; decide), ?_⟩⟩
        have f0 := Int.emod_nonneg (m0 * 48271 + (t0 + 1) * 69621) (show (2147483629 : Int) ≠ 0 by decide)
        have f1 := Int.emod_lt_of_pos (m0 * 48271 + (t0 + 1) * 69621) (show (0 : Int) < 2147483629 by decide)
        unfold gName
        dsimp only
        generalize (m0 * 48271 + (t0 + 1) * 69621) % 2147483629 = fi at f0 f1 ⊢
        refine ⟨_, rfl, _, rfl, _, _, rfl, rfl, .inl ⟨by omega, by omega⟩, _, rfl, d, _, rfl, D1.turn, _, _, rfl, rfl, .inr ⟨by decide, by decide⟩, _, _, rfl, rfl, .inl ⟨_, rfl, _, _, rfl, rfl, (by show (0 : Int) < 2147483563; decide), ?_⟩⟩
        dsimp only
        generalize (fi * fi + (t0 + 1) * 7919) % 2147483563 = se
        refine ⟨_, rfl, _, _, rfl, rfl, .inr ⟨by decide, by decide⟩, _, rfl, _, _, rfl, rfl, .inl ⟨_, rfl, _, _, rfl, rfl, (by show (0 : Int) < 2147483647; decide), _, _, rfl, rfl, _, rfl, d, _, rfl, D1.pMixed, ?_⟩⟩
        have D2 := D1.setD 0 ((se * 40692 + fi) % 2147483647 + 1) (t0 + 1)
        refine ⟨_, rfl, _, _, rfl, rfl, ⟨by decide, by decide⟩, _, rfl, _, _, rfl, rfl, .inl ⟨_, rfl, _, rfl, _, _, rfl, rfl, h0, ?_⟩⟩
        exact k _ _ (Int.emod_nonneg _ (by omega)) (Int.emod_lt_of_pos _ h0) D2.at D2.s D2.mo
      · rw [List.concat_eq_append] at hxs
        subst hxs
        refine iteTB (by simp) ?_
        refine ⟨fun σ' H' => ∃ (xs : List Int) (n : Int), σ' = [some (.ref d), some (.int many), none, none, none] ∧ xs.length = l.length ∧ DL H H' d g xs n m0 t0, fun σ' H' q => ⟨l.length, by rw [← hn, List.length_append]; exact Nat.lt_succ_self _, q⟩, ?_⟩
        refine ⟨_, rfl, d, _, rfl, D.great, .inl ⟨rfl, _, SqL.of D.hg⟩, g, _, _, rfl, rfl, D.hg, lst2 l x, ?_⟩
        rw [rev2]
        have D1 := D.setG (ys := l) (by have := D.len; rw [List.length_append] at this; omega)
        exact ⟨_, rfl, d, _, rfl, D1.pNow, l, x, rfl, rfl, D1.setD x m0 t0⟩
    · refine iteFB (by simp [hz]) ?_
      refine ⟨_, rfl, d, _, rfl, D.now, _, _, rfl, rfl, _, rfl, ?_⟩
      by_cases hp : 0 < n
      · refine iteTB (decide_eq_true hp) ?_
        refine ⟨_, rfl, d, _, rfl, D.now, .inl ⟨_, rfl, _, rfl, _, _, rfl, rfl, h0, ?_⟩⟩
        unfold gName
        dsimp only
        refine ⟨_, rfl, d, _, rfl, D.now, _, rfl, _, _, rfl, rfl, wide_div (b := 40) h0 (by omega) (by decide) (by decide), _, rfl, d, _, rfl, D.pNow, ?_⟩
        have D2 := D.setD (n / many) m0 t0
        exact ⟨_, rfl, k _ _ (Int.emod_nonneg _ (by omega)) (Int.emod_lt_of_pos _ h0) D2.at D2.s D2.mo⟩
      · refine iteFB (decide_eq_false hp) ?_
        refine ⟨_, rfl, d, _, rfl, D.turn, _, _, rfl, rfl, _, rfl, d, _, rfl, D.pTurn, ?_⟩
        have D1 := D.setD n m0 (t0 + 1)
        generalize upd Hc d (.dK (deal4 g n m0 (t0 + 1))) = H1 at D1 ⊢
        refine ⟨_, rfl, d, _, rfl, D1.mixed, _, _, rfl, rfl, .inr ⟨by decide, by decide⟩, _, rfl, d, _, rfl, D1.turn, _, _, rfl, rfl, .inr ⟨by decide, by decide⟩, _, _, rfl, rfl, .inl ⟨_, rfl, _, _, rfl, rfl, (by show (0 : Int) < 2147483629; decide), ?_⟩⟩
        have f0 := Int.emod_nonneg (m0 * 48271 + (t0 + 1) * 69621) (show (2147483629 : Int) ≠ 0 by decide)
        have f1 := Int.emod_lt_of_pos (m0 * 48271 + (t0 + 1) * 69621) (show (0 : Int) < 2147483629 by decide)
        unfold gName
        dsimp only
        generalize (m0 * 48271 + (t0 + 1) * 69621) % 2147483629 = fi at f0 f1 ⊢
        refine ⟨_, rfl, _, rfl, _, _, rfl, rfl, .inl ⟨by omega, by omega⟩, _, rfl, d, _, rfl, D1.turn, _, _, rfl, rfl, .inr ⟨by decide, by decide⟩, _, _, rfl, rfl, .inl ⟨_, rfl, _, _, rfl, rfl, (by show (0 : Int) < 2147483563; decide), ?_⟩⟩
        dsimp only
        generalize (fi * fi + (t0 + 1) * 7919) % 2147483563 = se
        refine ⟨_, rfl, _, _, rfl, rfl, .inr ⟨by decide, by decide⟩, _, rfl, _, _, rfl, rfl, .inl ⟨_, rfl, _, _, rfl, rfl, (by show (0 : Int) < 2147483647; decide), _, _, rfl, rfl, _, rfl, d, _, rfl, D1.pMixed, ?_⟩⟩
        have D2 := D1.setD n ((se * 40692 + fi) % 2147483647 + 1) (t0 + 1)
        refine ⟨_, rfl, _, _, rfl, rfl, ⟨by decide, by decide⟩, _, rfl, _, _, rfl, rfl, .inl ⟨_, rfl, _, rfl, _, _, rfl, rfl, h0, ?_⟩⟩
        exact k _ _ (Int.emod_nonneg _ (by omega)) (Int.emod_lt_of_pos _ h0) D2.at D2.s D2.mo
def spPick (K : PySem.W.Frag) : Sp := fun vs H Q _ => ∃ (d g a : Addr) (xs : List V), vs = [.ref d, .ref a] ∧ DealAt H d g ∧ SqL K (hh H d g) a xs ∧ 0 < xs.length ∧ xs.length < 1000000 ∧ ∀ (v : V) (H' : Hp), v ∈ xs → DealAt H' d g → Same (hh H d g) (hh H' d g) → Mo H H' → Q v H'
theorem scPick : FnScope ["_law_deal_here", "_law_some"] ["_law_deal_here", "_law_some"] (defScope sPick) := ⟨rfl, rfl, rfl, by decide +kernel, rfl, by decide +kernel, by decide +kernel⟩
theorem ok_pick {f : Addr} {fd : FuncData} (F : Fun K "_law_pick" "_law_pick" sPick f fd) (mL : mg "len" = none) (D : At K mg "_law_draw" sDraw ["_law_deal_here", "_law_many"]) (mI : mg "int" = none) : FnOk P w K mg base CX0 2 f fd ["_law_deal_here", "_law_some"] (spPick K) := by
  refine F.ok scPick (fun vs H Q E h => ?_) (fun cdv A outer s H vs Q E hr h => ?_)
  · obtain ⟨d, g, a, xs, rfl, _⟩ := h
    rfl
  · obtain ⟨d, g, a, xs, rfl, hD, hS, h0, h1, q⟩ := h
    refine ⟨_, pss_one (ps_ret (pe_ix ix_list (pv 1) (pe_call (ok_draw D.F mI mL) hr rfl D.m D.F.kp D.b .nil pass0 (pa_cons (pv 0) (pa_cons (pe_callB call_len_seq (by rfl) mL PySem.boot_len (pa_cons (pv 1) pa_nil)) pa_nil))) (fun _ _ => rfl))), ?_⟩
    refine ⟨_, rfl, _, rfl, _, rfl, _, _, rfl, .inl (hh_sub.seq hS), ?_⟩
    refine ⟨d, g, _, rfl, hD, by omega, by omega, fun r H' r0 r1 hD' hs hm => ?_⟩
    obtain ⟨i, rfl⟩ : ∃ i : Nat, r = (i : Int) := ⟨r.toNat, by omega⟩
    have hi : i < xs.length := by omega
    exact ⟨_, _, _, _, rfl, rfl, hh_sub.seq (hs.seq hS), atI_nat (List.getElem?_eq_getElem hi), q _ _ (List.getElem_mem hi) hD' hs hm⟩
def absI (x : Int) : Int := if x < 0 then -x else x
theorem cut_ints (ns : List Int) (lo hi : Option Int) : ∃ us : List Int, cutV (ns.map V.int) lo hi = us.map V.int ∧ us.length ≤ ns.length := by
  refine ⟨(ns.drop (HT.sIx (ns.map V.int).length 0 lo)).take (HT.sIx (ns.map V.int).length (ns.map V.int).length hi - HT.sIx (ns.map V.int).length 0 lo), ?_, ?_⟩
  · unfold cutV
    rw [List.map_take, List.map_drop]
  · rw [List.length_take, List.length_drop]
    omega
def spDeal (K : PySem.W.Frag) : Sp := fun vs H Q _ => ∃ (a : Addr) (b : Int) (ns : List Int), vs = [.ref a, .int b] ∧ SqL K H a (ns.map V.int) ∧ ns.length ≤ 63 ∧ ∀ (d g : Addr) (H' : Hp), DealAt H' d g → Same H (hh H' d g) → Q (.ref d) H'
theorem scDeal : FnScope ["_law_script", "_law_base", "_law_cell", "_law_cells", "_law_mixed_here", "_law_great"] ["_law_script", "_law_base"] (defScope sDeal) := ⟨rfl, rfl, rfl, by decide +kernel, rfl, by decide +kernel, by decide +kernel⟩
theorem ok_deal {f : Addr} {fd : FuncData} (F : Fun K "_law_deal" "_law_deal" sDeal f fd) (mI : mg "int" = none) (mA : mg "abs" = none) : FnOk P w K mg base CX0 1 f fd ["_law_script", "_law_base"] (spDeal K) := by
  refine F.ok scDeal (fun vs H Q E h => ?_) (fun cdv A outer s H vs Q E hr h => ?_)
  · obtain ⟨a, b, ns, rfl, _⟩ := h
    rfl
  · obtain ⟨a, b, ns, rfl, hS, hl, q⟩ := h
    refine ⟨_, pss_cons (ps_setLc (i := 3) (own := [("_law_cell", 2)]) (g := gName 2) (tt := tYes) (by rfl) scDeal.nd rfl rfl (sw_true rfl rfl rfl (by decide +kernel)) (pi_list (pe_slice sl_list (pv 0) (po_some (pv 1)) (po_some pe_int)))
          (blkOk_by (N := ["_law_script", "_law_base", "_law_cell", "_law_cells", "_law_mixed_here", "_law_great"]) (sc := defScope sDeal) (by decide +kernel)) (fun _ _ _ _ _ => pg_name (i := 2) scDeal.nd rfl (Or.inl rfl)) (fun _ _ _ _ _ => pts_nil)
          (fun _ _ _ _ _ => pe_callB call_abs (by rfl) mA (by decide +kernel) (pa_cons (pv 2) pa_nil)))
      (pss_cons (ps_set (i := 4) scDeal.nd rfl (Or.inl rfl) (pe_op op_add pe_int (pv 1)))
      (pss_cons (ps_for PassesOwn.never rfl (pi_list (pv 3)) (pg_name (i := 2) scDeal.nd rfl (Or.inl rfl))
        (pss_one (ps_set (i := 4) scDeal.nd rfl (Or.inl rfl) (pe_op op_mod (pe_callTy call_int1 (by rfl) mI (by decide +kernel) (pa_cons (pe_op op_add (pe_op op_mul (pv 4) pe_int) (pv 2)) pa_nil)) pe_int))))
      (pss_cons (ps_setLc (i := 5) (own := [("_law_cell", 2)]) (g := gName 2) (by rfl) scDeal.nd rfl rfl (sw_true rfl rfl rfl (by decide +kernel)) (pi_list (pv 3))
          (blkOk_by (N := ["_law_script", "_law_base", "_law_cell", "_law_cells", "_law_mixed_here", "_law_great"]) (sc := defScope sDeal) (by decide +kernel)) (fun _ _ _ _ _ => pg_name (i := 2) scDeal.nd rfl (Or.inl rfl)) (fun _ _ _ _ _ => pts_one (pt_cmpR op_ge (pv 2) (pe_op op_pow pe_int pe_int) (nomark _)))
          (fun _ _ _ _ _ => pv 2))
      (pss_one (ps_ret (pe_disp (pps_cons pe_str (pe_revL (pv 5)) (pps_cons pe_str pe_int (pps_cons pe_str (pe_op op_add (pv 4) pe_int) (pps_cons pe_str pe_int pps_nil)))) (by rfl) (by rfl) (by intro z; cases z) (by decide))))))), ?_⟩
    obtain ⟨us, hu, hul⟩ := cut_ints ns (some b) (some 63)
    refine ⟨_, rfl, _, rfl, b, rfl, 63, rfl, a, _, rfl, hS, fun p hp => ?_⟩
    rw [hu]
    have s1 : Same H (upd H p (.lst (us.map V.int))) := Same.new hp
    have hp1 : upd H p (.lst (us.map V.int)) p = some (.lst (us.map V.int)) := upd_same
    generalize upd H p (.lst (us.map V.int)) = H1 at s1 hp1 ⊢
    refine ⟨p, rfl, ⟨_, SqL.of hp1⟩, fun D hD => lc_it (walk_list (xs := us.map V.int)) (fun i Hi => Hi D = some (.lst (((us.take i).map absI).map V.int)) ∧ Same H1 Hi) ⟨upd_same, Same.new hD⟩ (fun i Hi _ hP => SqL.of (hP.2 _ _ hp1)) (fun i x Hi Hj hi hP hY => ?turn1) (fun Hi hP => ?done1)⟩
    case turn1 =>
      obtain ⟨rfl, hx⟩ := hY
      obtain ⟨hDi, hs⟩ := hP
      rw [List.getElem?_map] at hx
      cases hxi : us[i]? with
      | none => rw [hxi] at hx; cases hx
      | some u =>
      rw [hxi] at hx
      cases hx
      have hi2 : i < us.length := by rw [List.length_map] at hi; exact hi
      refine ⟨rfl, _, rfl, _, rfl, _, hDi, small1000 (by rw [List.length_map, List.length_map]; have := List.length_take_le i us; omega), ?_, fun b o e => ?_⟩
      · rw [upd_same, List.take_add_one, hxi, List.map_append, List.map_append]
        rfl
      · rw [upd_ne (ne_of_none e hD)]
        exact hs _ _ e
    case done1 =>
      obtain ⟨hD1, hs⟩ := hP
      rw [List.length_map, List.take_length] at hD1
      have hcl : (us.map absI).length ≤ 63 := by rw [List.length_map]; omega
      generalize us.map absI = cs at hD1 hcl
      have s2 := s1.trans hs
      refine ⟨_, rfl, _, _, rfl, rfl, ?_⟩
      refine ⟨_, rfl, D, rfl, ⟨_, SqL.of hD1⟩, for_list (xs := cs.map V.int) (fun i σ Hc => ∃ (x2 : Option V) (m : Int), σ = [some (.ref a), some (.int b), x2, some (.ref D), some (.int m), none] ∧ Hc = Hi) ⟨none, 15485863 + b, rfl, rfl⟩ (fun i σ Hc _ hP => by obtain ⟨_, _, _, rfl⟩ := hP; exact SqL.of hD1) (fun i x σ Hc hx hP => ?turn2) (fun σ Hc hP => ?done2)⟩
      case turn2 =>
        obtain ⟨x2, m, rfl, rfl⟩ := hP
        rw [List.getElem?_map] at hx
        cases hxi : cs[i]? with
        | none => rw [hxi] at hx; cases hx
        | some c =>
        rw [hxi] at hx
        cases hx
        refine ⟨_, rfl, _, _, rfl, rfl, .inr ⟨by decide, by decide⟩, _, rfl, _, _, rfl, rfl, .inl ⟨_, rfl, _, _, rfl, rfl, (by show (0 : Int) < 2147483647; decide), ?_⟩⟩
        exact ⟨_, _, rfl, rfl⟩
      case done2 =>
        obtain ⟨x2, m, rfl, rfl⟩ := hP
        refine ⟨_, rfl, D, rfl, ⟨_, SqL.of hD1⟩, fun D2 hD2 => lc_it (walk_list (xs := cs.map V.int)) (fun i Hi2 => ∃ l : List Int, l.length ≤ i ∧ Hi2 D2 = some (.lst (l.map V.int)) ∧ Same Hc Hi2) ⟨[], Nat.le_refl _, upd_same, Same.new hD2⟩ (fun i Hi2 _ hP => by obtain ⟨_, _, _, h⟩ := hP; exact SqL.of (h _ _ hD1)) (fun i x Hi2 Hj hi hP hY => ?turn3) (fun Hi2 hP => ?done3)⟩
        case turn3 =>
          obtain ⟨rfl, hx⟩ := hY
          obtain ⟨l, l1, l3, l4⟩ := hP
          rw [List.getElem?_map] at hx
          cases hxi : cs[i]? with
          | none => rw [hxi] at hx; cases hx
          | some c =>
          rw [hxi] at hx
          cases hx
          have hi2 : i < cs.length := by rw [List.length_map] at hi; exact hi
          refine ⟨rfl, _, rfl, _, _, rfl, rfl, ⟨by decide, by decide, by decide⟩, _, _, rfl, rfl, _, rfl, ?_⟩
          refine ite2 (fun _ => ?_) (fun _ => ?_)
          · refine ⟨_, rfl, _, l3, small1000 (by rw [List.length_map]; omega), l ++ [c], by rw [List.length_append]; exact Nat.add_le_add_right l1 1, by rw [upd_same, List.map_append]; rfl, fun b o e => ?_⟩
            rw [upd_ne (ne_of_none e hD2)]
            exact l4 _ _ e
          · exact ⟨l, by omega, l3, l4⟩
        case done3 =>
          obtain ⟨l, l1, l3, l4⟩ := hP
          have s3 : Same H Hi2 := s2.trans l4
          dsimp only
          intro d hd
          have ndD : d ≠ D2 := fun z => by rw [z, l3] at hd; cases hd
          refine ⟨_, rfl, D2, _, rfl, SqL.of (by rw [upd_ne ndD.symm]; exact l3), fun g hg => ?_⟩
          have ngd : g ≠ d := fun z => by rw [z, upd_same] at hg; cases hg
          have hd0 : H d = none := s3.free hd
          have hg0 : H g = none := s3.free ((Same.new hd).free hg)
          refine ⟨_, rfl, _, _, rfl, rfl, ?_⟩
          refine ⟨by rw [upd_ne ngd.symm]; exact upd_same, deal4 g 0 (m + 1) 0, rfl, by show 4 ≤ 15; decide, ?_⟩
          rw [mergeD_new (deal4 g 0 (m + 1) 0) [] (show ([.inr "great", .inr "now", .inr "mixed", .inr "turn"] : List Key).Nodup by decide +kernel)]
          refine q d g _ ⟨ngd.symm, l.reverse, 0, m + 1, 0, upd_same, by rw [upd_ne ngd, upd_same, List.map_reverse], by rw [List.length_reverse]; rw [List.length_map] at l1; omega⟩ fun b o e => hh_get ?_ (ne_of_none e hd0) (ne_of_none e hg0)
          rw [upd_ne (ne_of_none e hd0), upd_ne (ne_of_none e hg0), upd_ne (ne_of_none e hd0)]
          exact s3 _ _ e
end
end Pn

namespace Pn
open PySem L2 TL
abbrev sMixed : Stmt := top 20
/-! ### a list of names in another order, its first names -/
theorem perm_erase {α : Type} : ∀ {l : List α} {k : Nat} {y : α}, l[k]? = some y → (y :: l.eraseIdx k).Perm l
  | [], k, y, h => by simp at h
  | a :: l, 0, y, h => by
    simp only [List.getElem?_cons_zero, Option.some.injEq] at h
    subst h
    exact .refl _
  | a :: l, k + 1, y, h => by
    rw [List.getElem?_cons_succ] at h
    rw [List.eraseIdx_cons_succ]
    exact (List.Perm.swap a y _).trans (.cons a (perm_erase h))
structure TDealM (K : PySem.W.Frag) (mg : Str → Option Value) : Type where
  mI : mg "int" = none
  mA : mg "abs" = none
  mL : mg "len" = none
  mLs : mg "list" = none
  deal : At K mg "_law_deal" sDeal ["_law_script", "_law_base"]
  draw : At K mg "_law_draw" sDraw ["_law_deal_here", "_law_many"]
  mixed : At K mg "_law_mixed" sMixed ["_law_deal_here", "_law_some"]
section
variable {P : Program} {w : World} {K : PySem.W.Frag} {mg : Str → Option Value} {base : Heap}
theorem TDealM.okDraw (T : TDealM K mg) : FnOk P w K mg base CX0 1 T.draw.f T.draw.fd ["_law_deal_here", "_law_many"] spDraw := ok_draw T.draw.F T.mI T.mL
theorem TDealM.okDeal (T : TDealM K mg) : FnOk P w K mg base CX0 1 T.deal.f T.deal.fd ["_law_script", "_law_base"] (spDeal K) := ok_deal T.deal.F T.mI T.mA
end
end Pn

namespace Pn
open PySem PySem.Spec PyProof.Rows L2 TL
theorem cut_toF (xs : List V) (i : Nat) : cutV xs none (some (i : Int)) = xs.take i := by
  unfold cutV
  rw [HT.sIx_none, HT.sIx_nat, List.drop_zero, Nat.sub_zero]
  rcases Nat.le_total i xs.length with h | h
  · rw [Nat.min_eq_left h]
  · rw [Nat.min_eq_right h, List.take_of_length_le (Nat.le_refl _), List.take_of_length_le h]
theorem slTo_go {K : PySem.W.Frag} {H : Hp} {a : Addr} {xs : List V} {m : Nat} {Q : VK} (h : SqT K H a xs) (q : ∀ (b : Addr) (H' : Hp), Same H H' → SqT K H' b (xs.take m) → Q (.ref b) H') : rSlA K (.ref a) none (some (m : Int)) H Q := by
  refine ⟨a, xs, rfl, h, fun hw => q a H (Same.refl _) ?_, fun _ p hp => q p _ (Same.new hp) ?_⟩
  · have e := hw.2
    rw [HT.sIx_nat] at e
    rw [List.take_of_length_le (by omega)]
    exact h
  · rw [← cut_toF]
    exact SqT.of upd_same
end Pn

namespace Pn
open PySem PySem.Spec PyProof.Rows L2 TL
/-! ### the heap but for a deal and one list more -/
def hhL (H : Hp) (d g L : Addr) : Hp := hid (hh H d g) L
theorem hhL_ne {H : Hp} {d g L a : Addr} {o : HO} (h : hhL H d g L a = some o) : a ≠ L ∧ a ≠ d ∧ a ≠ g ∧ H a = some o := by
  have n := hid_ne h
  obtain ⟨n1, n2, e⟩ := hh_ne (hid_sub _ _ h)
  exact ⟨n, n1, n2, e⟩
theorem hhL_get {H : Hp} {d g L a : Addr} {o : HO} (h : H a = some o) (n : a ≠ L) (n1 : a ≠ d) (n2 : a ≠ g) : hhL H d g L a = some o := hid_get (hh_get h n1 n2) n
theorem hhL_sub {H : Hp} {d g L : Addr} : Same (hhL H d g L) H := fun _ _ e => (hhL_ne e).2.2.2
theorem hhL_hh {H : Hp} {d g L : Addr} : Same (hhL H d g L) (hh H d g) := fun _ _ e => hid_sub _ _ e
theorem hhL_same {A B : Hp} {d g L : Addr} (s : Same (hh A d g) (hh B d g)) : Same (hhL A d g L) (hhL B d g L) := fun a o e => by
  have n := hid_ne e
  exact hid_get (s _ _ (hid_sub _ _ e)) n
theorem hhL_put {H : Hp} {d g L : Addr} {o : HO} : Same (hhL H d g L) (hhL (upd H L o) d g L) := fun _ _ e => by
  obtain ⟨n, n1, n2, e⟩ := hhL_ne e
  exact hhL_get (by rw [upd_ne n]; exact e) n n1 n2
theorem hhL_first {H : Hp} {d g L : Addr} {o : HO} (h : H L = none) : Same (hh H d g) (hhL (upd H L o) d g L) := fun _ _ e => by
  obtain ⟨n1, n2, e⟩ := hh_ne e
  have n := ne_of_none e h
  exact hhL_get (by rw [upd_ne n]; exact e) n n1 n2
section
variable {P : Program} {w : World} {K : PySem.W.Frag} {mg : Str → Option Value} {base : Heap}
/-! ### drawn counters -/
def TupsAt (H : Hp) (ts : List Addr) (cs : List (Str × Str)) : Prop := Paired (fun t (p : Str × Str) => H t = some (.tup [.str p.1, .str p.2])) ts cs
theorem TupsAt.same {A B : Hp} {ts : List Addr} {cs : List (Str × Str)} (s : Same A B) (h : TupsAt A ts cs) : TupsAt B ts cs := paired_mono (fun _ _ e => s _ _ e) h
end
end Pn

namespace Pn
open PySem PySem.W PyProof.Rows
/-! ### an operator of an own class, both sides of this class; in place by the same method -/
section
variable {M : Model} {prog : Program} {w : World} {A : Around} {E : Value → Shared → Prop} {s : Shared} {K : Frag} {x C L f : Addr} {h₀ : Heap} {m : Str → Option Value} {ox : Obj} {od : Option Obj} {nm : String}
end
end Pn
namespace Pn
open PySem L2
section
variable {X : Cx} {CX : CXT} {k : Nat} {f C : Addr} {fd : FuncData} {ps : List Str} {sp : Sp} {E : XK}
end
end Pn

namespace Pn
open PySem L2
/-! ### <= and >= of own instances whose class has these of its own -/
section
variable {X : Cx} {CX : CXT} {k : Nat} {f C : Addr} {fd : FuncData} {ps : List Str} {sp : Sp} {E : XK}
end
end Pn

namespace Pn
open PySem PySem.Spec PyProof.Rows L2 TL
structure TRowz (K : PySem.W.Frag) (mg : Str → Option Value) : Type where
  N : TChk K mg
structure TFilz {K : PySem.W.Frag} {mg : Str → Option Value} (R : TRowz K mg) : Type where
  cN : PySem.W.specialIn K (.builtin "object.__class__") "__get__" = some (some (.builtin "getset_descriptor.__get__"))
  cT : PySem.W.takesIn K (.builtin "object.__class__") = some true
  mList : mg "list" = none
  mTup : mg "tuple" = none
  mSet : mg "set" = none
  mSorted : mg "sorted" = none
  isSeq : At K mg "is_sequence" sIsSeq ["value"]
end Pn

namespace Pn
open PySem PySem.Spec PyProof.Rows L2 TL
abbrev sIsTri : Stmt := top 11
abbrev sNeedT : Stmt := top 12
abbrev sRights : Stmt := top 13
abbrev sLInit : Stmt := inClass (top 15) 0
/-! ### triples, rights, Leaves.__init__ of triples -/
abbrev Tri : Type := Str × Str × Str
def tl3 (t : Tri) : List Str := [t.1, t.2.1, t.2.2]
theorem tl3_inj {a b : Tri} (h : tl3 a = tl3 b) : a = b := by
  obtain ⟨a1, a2, a3⟩ := a
  obtain ⟨b1, b2, b3⟩ := b
  injection h with h1 h
  injection h with h2 h
  injection h with h3 h
  have h1 : a1 = b1 := h1
  have h2 : a2 = b2 := h2
  have h3 : a3 = b3 := h3
  rw [h1, h2, h3]
def triB (t : Tri) : Bool := nameS t.1 && (nameS t.2.1 && (decide (t.2.2 = "on") || decide (t.2.2 = "any")))
theorem triB_len {t : Tri} (h : triB t = true) : t.1.length ≤ 900 ∧ t.2.1.length ≤ 900 := by
  unfold triB at h
  rw [Bool.and_eq_true, Bool.and_eq_true] at h
  exact ⟨Nat.le_trans (name_ok h.1).2 (by decide), Nat.le_trans (name_ok h.2.1).2 (by decide)⟩
/-- triples as they stand -/
abbrev TriAt (K : PySem.W.Frag) (H : Hp) (a : Addr) (t : Tri) : Prop := SqT K H a [.str t.1, .str t.2.1, .str t.2.2]
abbrev TrisIn (K : PySem.W.Frag) (H : Hp) (as : List Addr) (ts : List Tri) : Prop := Paired (TriAt K H) as ts
theorem TrisIn.same {K : PySem.W.Frag} {H H' : Hp} {as : List Addr} {ts : List Tri} (h : TrisIn K H as ts) (s : Same H H') : TrisIn K H' as ts := paired_mono (fun _ _ z => Same.sqt s z) h
def going (t : Tri) : Tri := (t.1, t.2.1, "on")
/-- few different triples -/
def FewT (ts : List Tri) : Prop := ts.length ≤ 100 ∧ ∃ B : List (List Str), B.length < 63 ∧ ∀ t ∈ ts, tl3 t ∈ B ∧ tl3 (going t) ∈ B
theorem FewT.of {ts : List Tri} (h : 2 * ts.length < 62) : FewT ts := ⟨by omega, ts.map tl3 ++ (ts.map going).map tl3, by rw [List.length_append, List.length_map, List.length_map, List.length_map]; omega, fun t ht => ⟨List.mem_append_left _ (List.mem_map_of_mem ht), List.mem_append_right _ (List.mem_map_of_mem (List.mem_map_of_mem ht))⟩⟩
theorem FewT.sub {ts us : List Tri} (h : FewT ts) (s : ∀ t ∈ us, t ∈ ts) (hl : us.length ≤ 100) : FewT us := by
  obtain ⟨_, B, hB, hk⟩ := h
  exact ⟨hl, B, hB, fun t ht => hk t (s t ht)⟩
/-! rights: the triples ascending, each once -/
def insT (x : Tri) : List Tri → List Tri
  | [] => [x]
  | y :: l => if ltT (tl3 x) (tl3 y) = true then x :: y :: l else if x = y then y :: l else y :: insT x l
def sortT : List Tri → List Tri
  | [] => []
  | x :: l => insT x (sortT l)
def UpT (l : List Tri) : Prop := l.Pairwise fun x y => ltT (tl3 x) (tl3 y) = true
theorem mem_insT {x z : Tri} : ∀ {l : List Tri}, z ∈ insT x l ↔ z = x ∨ z ∈ l
  | [] => by simp [insT]
  | y :: l => by
    unfold insT
    split
    · simp
    · split
      · rename_i h
        rw [h]
        simp
      · rw [List.mem_cons, mem_insT, List.mem_cons]
        constructor
        · rintro (h | h | h)
          · exact .inr (.inl h)
          · exact .inl h
          · exact .inr (.inr h)
        · rintro (h | h | h)
          · exact .inr (.inl h)
          · exact .inl h
          · exact .inr (.inr h)
theorem mem_sortT {z : Tri} : ∀ {l : List Tri}, z ∈ sortT l ↔ z ∈ l
  | [] => Iff.rfl
  | x :: l => by
    show z ∈ insT x (sortT l) ↔ _
    rw [mem_insT, mem_sortT, List.mem_cons]
theorem up_insT {x : Tri} : ∀ {l : List Tri}, UpT l → UpT (insT x l)
  | [], _ => List.pairwise_singleton _ _
  | y :: l, h => by
    have h' := List.pairwise_cons.mp h
    unfold insT
    split
    · rename_i lt
      exact List.pairwise_cons.mpr ⟨fun z hz => by
        rcases List.mem_cons.mp hz with rfl | hz
        · exact lt
        · exact ltT_trans lt (h'.1 z hz), h⟩
    · rename_i nlt
      split
      · exact h
      · rename_i ne
        refine List.pairwise_cons.mpr ⟨fun z hz => ?_, up_insT h'.2⟩
        rcases mem_insT.mp hz with rfl | hz
        · cases e : ltT (tl3 y) (tl3 z) with
          | true => rfl
          | false => exact absurd (tl3_inj (ltT_total (by simpa using nlt) e)) ne
        · exact h'.1 z hz
theorem up_sortT : ∀ l : List Tri, UpT (sortT l)
  | [] => .nil
  | x :: l => up_insT (up_sortT l)
theorem up_nodup {l : List Tri} (h : UpT l) : l.Nodup := List.Pairwise.imp (fun {a b} h e => by rw [e, ltT_irrefl] at h; cases h) h
/-- two ascending lists of the same triples are one -/
theorem up_uniq : ∀ {l m : List Tri}, UpT l → UpT m → (∀ z, z ∈ l ↔ z ∈ m) → l = m
  | [], [], _, _, _ => rfl
  | [], y :: m, _, _, h => absurd ((h y).mpr List.mem_cons_self) (by simp)
  | x :: l, [], _, _, h => absurd ((h x).mp List.mem_cons_self) (by simp)
  | x :: l, y :: m, hl, hm, h => by
    obtain ⟨l1, l2⟩ := List.pairwise_cons.mp hl
    obtain ⟨m1, m2⟩ := List.pairwise_cons.mp hm
    have e : x = y := by
      rcases List.mem_cons.mp ((h x).mp List.mem_cons_self) with e | hx
      · exact e
      · rcases List.mem_cons.mp ((h y).mpr List.mem_cons_self) with e | hy
        · exact e.symm
        · have z := ltT_trans (l1 y hy) (m1 x hx)
          rw [ltT_irrefl] at z
          cases z
    subst e
    have nl : ∀ z, z ∈ l → ¬ z = x := fun z hz e => by have q := l1 z hz; rw [e, ltT_irrefl] at q; cases q
    have nm : ∀ z, z ∈ m → ¬ z = x := fun z hz e => by have q := m1 z hz; rw [e, ltT_irrefl] at q; cases q
    rw [up_uniq l2 m2 fun z => ⟨fun hz => ((List.mem_cons.mp ((h z).mp (List.mem_cons_of_mem _ hz))).resolve_left (nl z hz)), fun hz => ((List.mem_cons.mp ((h z).mpr (List.mem_cons_of_mem _ hz))).resolve_left (nm z hz))⟩]
def rightsM (ts : List Tri) : List Tri := sortT (ts ++ ts.map going)
section
variable {K : PySem.W.Frag} {tl : TE} {g : TG} {tt : TT} {te : TE} {vs : List Nat} {σ : L2.St} {H : Hp} {Q : VK} {p : Addr} {xs : List V}
theorem lcw_objsTL {α : Type} {R : Hp → Addr → α → Prop} {cs : List α} (hR : ∀ {H H' : Hp} {t : Addr} {c : α}, SameN H H' → R H t c → R H' t c)
    (h0 : ∀ R : VK, R (.ref p) H → tl σ H R) (hp : SqT K H p xs) (hl : xs.length ≤ 1000) (hc : xs.length = cs.length)
    (turn : ∀ (i : Nat) (x : V) (c : α) (Hi : Hp) (S : Hp → Prop) (Y : VK), xs[i]? = some x → cs[i]? = some c → Same H Hi → (∀ t H', Same Hi H' → R H' t c → Y (.ref t) H') → g x (wipe σ vs) Hi fun σ2 H2 => wipe σ2 vs = wipe σ vs ∧ tt σ2 H2 fun b H3 => if b = true then te σ2 H3 Y else S H3)
    (fin : ∀ (D : Addr) (H' : Hp) (ts : List Addr), H D = none → Same H H' → H' D = some (.lst (ts.map V.ref)) → Paired (R H') ts cs → Q (.ref D) H') : tLc (iTup K tl) g tt te vs σ H Q := by
  refine h0 _ ⟨p, rfl, ⟨_, hp⟩, fun D hD => lc_tup (xs := xs) (fun i Hi => Same H Hi ∧ ∃ ts : List Addr, Hi D = some (.lst (ts.map V.ref)) ∧ ts.length ≤ i ∧ Paired (R Hi) ts (cs.take i)) ⟨Same.new hD, [], upd_same, Nat.le_refl _, .nil⟩ (fun _ _ _ hP => Same.sqt hP.1 hp) (fun i x Hi hx hP => ?_) (fun Hi hP => ?_)⟩
  · obtain ⟨s, ts, hd, hn, pd⟩ := hP
    have hi : i < xs.length := (List.getElem?_eq_some_iff.mp hx).1
    have hi2 : i < cs.length := by omega
    have hc2 : cs[i]? = some cs[i] := List.getElem?_eq_getElem hi2
    refine turn i x _ Hi _ _ hx hc2 s fun t H' s' r => ⟨_, s' _ _ hd, small1000 (by rw [List.length_map]; omega), (fun a o e => ?_), ts ++ [t], by rw [upd_same, List.map_append]; rfl, by rw [List.length_append]; exact Nat.add_le_add_right hn 1, ?_⟩
    · rw [upd_ne (ne_of_none e hD)]
      exact s' _ _ (s _ _ e)
    · have n2 : SameN H' (upd H' D (.lst (ts.map V.ref ++ [V.ref t]))) := SameN.upd (s' _ _ hd)
      rw [List.take_add_one, hc2]
      exact paired_snoc (hR n2 r) (paired_mono (fun _ _ z => hR ((SameN.of s').trans n2) z) pd)
  · obtain ⟨s, ts, hd, _, pd⟩ := hP
    rw [hc, List.take_length] at pd
    exact fin D Hi ts hD s hd pd
/-- objects made in a comprehension over a list or a tuple -/
theorem lcw_objsS {α : Type} {R : Hp → Addr → α → Prop} {cs : List α} (hR : ∀ {H H' : Hp} {t : Addr} {c : α}, SameN H H' → R H t c → R H' t c)
    (h0 : ∀ R : VK, R (.ref p) H → tl σ H R) (hp : SqL K H p xs ∨ SqT K H p xs) (hl : xs.length ≤ 1000) (hc : xs.length = cs.length)
    (turn : ∀ (i : Nat) (x : V) (c : α) (Hi : Hp) (S : Hp → Prop) (Y : VK), xs[i]? = some x → cs[i]? = some c → Same H Hi → (∀ t H', Same Hi H' → R H' t c → Y (.ref t) H') → g x (wipe σ vs) Hi fun σ2 H2 => wipe σ2 vs = wipe σ vs ∧ tt σ2 H2 fun b H3 => if b = true then te σ2 H3 Y else S H3)
    (fin : ∀ (D : Addr) (H' : Hp) (ts : List Addr), H D = none → Same H H' → H' D = some (.lst (ts.map V.ref)) → Paired (R H') ts cs → Q (.ref D) H') : tLc (iSeq K tl) g tt te vs σ H Q :=
  hp.elim (fun h => .inl (lcw_objs (R := R) (cs := cs) (fun s r => hR s r) h0 h hl hc turn fin)) fun h => .inr (lcw_objsTL (R := R) (cs := cs) (fun s r => hR s r) h0 h hl hc turn fin)
end
section
variable {P : Program} {w : World} {K : PySem.W.Frag} {mg : Str → Option Value} {base : Heap} {R : TRowz K mg}
theorem roomLv {k : Nat} {A : Around} (r : Room k A) : A.units + 64 < PySem.cLine := by have := r.un; omega
theorem pi_enumS {X : Cx} {e : Expr} {p pos tpos : Pos} {elts : List Expr} {kk : Nat} {i1 i2 : TI} (h1 : PI X (.Tuple elts kk tpos) (.Call (.Name "enumerate" p) [e] [] pos) i1) (h2 : PI X (.Tuple elts kk tpos) (.Call (.Name "enumerate" p) [e] [] pos) i2) :
    PI X (.Tuple elts kk tpos) (.Call (.Name "enumerate" p) [e] [] pos) (fun σ H R => i1 σ H R ∨ i2 σ H R) :=
  ⟨fun pins s σ H R I h => h.elim (fun a => h1.run pins s σ H R I a) fun a => h2.run pins s σ H R I a⟩
/-- what Leaves(..) wants -/
structure TLv {K : PySem.W.Frag} {mg : Str → Option Value} {R : TRowz K mg} (F : TFilz R) : Type where
  mEn : mg "enumerate" = none
  lw : Addr
  mLW : mg "LEAVE_WORDS" = some (.ref lw)
  hLW : ∀ H, SqT K H lw [.str "on", .str "any"]
  isTri : At K mg "is_triple" sIsTri ["value"]
  needT : At K mg "need_triples" sNeedT ["items"]
  rights : At K mg "rights_of" sRights ["triples"]
  C : Addr
  mC : mg "Leaves" = some (.ref C)
  fI : Addr
  fdI : FuncData
  dP : Addr
  hP : ∀ H, SqT K H dP []
  FI : FunD K "__init__" "Leaves.__init__" (defArgs sLInit) (defBody sLInit) (defScope sLInit) [.ref dP] [] fI fdI
  bI : Binds K fdI ["self", "items"] []
  M : Mk K C fI
  cl : Cls K C
  noR : NoAttr K C "rights"
variable {F : TFilz R}
def spIsTri (K : PySem.W.Frag) : Sp := fun vs H Q _ => ∃ (a : Addr) (t : Tri), vs = [.ref a] ∧ TriAt K H a t ∧ t.1.length ≤ 900 ∧ t.2.1.length ≤ 900 ∧ ∀ H', Same H H' → Q (.bl (triB t)) H'
theorem scIsTri : FnScope ["value"] ["value"] (defScope sIsTri) := ⟨rfl, rfl, rfl, by decide +kernel, rfl, by decide +kernel, by decide +kernel⟩
theorem ok_isTri (Y : TLv F) : FnOk P w K mg base CX0 2 Y.isTri.f Y.isTri.fd ["value"] (spIsTri K) := by
  refine Y.isTri.F.ok scIsTri (fun vs H Q E h => ?_) (fun cdv A outer s H vs Q E hr h => ?_)
  · obtain ⟨a, t, rfl, _⟩ := h
    rfl
  · obtain ⟨a, t, rfl, hT, l1, l2, q⟩ := h
    refine ⟨_, (pss_cons (ps_if (PW.pt (pw_or (pt_not (pt_val (pe_callB call_isi (by rfl) R.N.mIsi (by decide +kernel) (pa_cons (pv 0) (pa_cons (pe_bltn (v := .ty "tuple") (by rfl) F.mTup (by decide +kernel) rfl) pa_nil))))) (pw_or1 (pt_cmpR op_ne (pe_callB call_len_seq (by rfl) R.N.mLen PySem.boot_len (pa_cons (pv 0) pa_nil)) pe_int (nomark _))))) (pss_one (ps_ret pe_bl)) pss_nil)
(pss_one (ps_ret (pe_and (pe_call R.N.okName (hr.mono (by decide)) rfl R.N.isName.m R.N.isName.F.kp R.N.isName.b .nil pass0 (pa_cons (pe_ix ix_tup (pv 0) pe_int (fun _ _ => rfl)) pa_nil)) (pe_and (pe_call R.N.okName (hr.mono (by decide)) rfl R.N.isName.m R.N.isName.F.kp R.N.isName.b .nil pass0 (pa_cons (pe_ix ix_tup (pv 0) pe_int (fun _ _ => rfl)) pa_nil)) (pe_one (pe_cmpR op_in_seq (pe_ix ix_tup (pv 0) pe_int (fun _ _ => rfl)) (pe_glob (v := .ref Y.lw) (by rfl) Y.mLW rfl) rfl))))))), ?_⟩
    refine ⟨_, rfl, _, .ty "tuple", _, _, true, rfl, .ty _, sqt_ty hT, kit_ty (by decide +kernel : kitB "tuple" "tuple" = some true), _, rfl, iteF ?_⟩
    refine ⟨_, rfl, _, _, rfl, .inr hT, rfl, _, rfl, iteFD rfl ?_⟩
    refine ⟨_, rfl, a, _, 0, _, rfl, rfl, hT, rfl, .str t.1, .str t.1, rfl, .str _, l1, fun H1 s1 _ => ?_⟩
    have q' : Q (.bl (nameS t.1 && (nameS t.2.1 && (decide (t.2.2 = "on") || decide (t.2.2 = "any"))))) H1 := q _ s1
    refine ⟨_, rfl, ?_⟩
    cases n1 : nameS t.1 with
    | false =>
      rw [n1] at q'
      exact iteFB (show nameD (.str t.1) = false from n1) q'
    | true =>
    rw [n1, Bool.true_and] at q'
    refine iteTB (show nameD (.str t.1) = true from n1) ?_
    refine ⟨_, rfl, a, _, 1, _, rfl, rfl, Same.sqt s1 hT, rfl, .str t.2.1, .str t.2.1, rfl, .str _, l2, fun H2 s2 _ => ⟨_, rfl, ?_⟩⟩
    have q2 : Q (.bl (nameS t.2.1 && (decide (t.2.2 = "on") || decide (t.2.2 = "any")))) H2 := by
      have z := q H2 (s1.trans s2)
      unfold triB at z
      rw [n1, Bool.true_and] at z
      exact z
    cases n2 : nameS t.2.1 with
    | false =>
      rw [n2] at q2
      exact iteFB (show nameD (.str t.2.1) = false from n2) q2
    | true =>
    rw [n2, Bool.true_and] at q2
    refine iteTB (show nameD (.str t.2.1) = true from n2) ?_
    refine ⟨_, rfl, a, _, 2, _, rfl, rfl, Same.sqt (s1.trans s2) hT, rfl, Y.lw, _, rfl, .inr (Y.hLW _), rfl, rfl, ?_⟩
    have e : inV (.str t.2.2) [.str "on", .str "any"] = (decide (t.2.2 = "on") || decide (t.2.2 = "any")) := by
      have e1 : ∀ x : Str, (x == t.2.2) = decide (t.2.2 = x) := fun x => by
        by_cases h : t.2.2 = x
        · rw [decide_eq_true h, beq_iff_eq]; exact h.symm
        · rw [decide_eq_false h, beq_eq_false_iff_ne]; exact fun z => h z.symm
      show (("on" : Str) == t.2.2 || (("any" : Str) == t.2.2 || false)) = _
      rw [Bool.or_false, e1, e1]
    show Q (.bl (inV (.str t.2.2) [.str "on", .str "any"])) H2
    rw [e]
    exact q2
/-- triples in a list or a tuple -/
def TriSeq (K : PySem.W.Frag) (H : Hp) (v : V) (ts : List Tri) : Prop := ∃ (p : Addr) (as : List Addr), v = .ref p ∧ (SqL K H p (as.map V.ref) ∨ SqT K H p (as.map V.ref)) ∧ TrisIn K H as ts
theorem TriSeq.same {H H' : Hp} {v : V} {ts : List Tri} (h : TriSeq K H v ts) (s : Same H H') : TriSeq K H' v ts := by
  obtain ⟨p, as, e, hp, hT⟩ := h
  exact ⟨p, as, e, hp.imp s.seq (Same.sqt s), hT.same s⟩
def spNeedT (K : PySem.W.Frag) : Sp := fun vs H Q _ => ∃ (v : V) (ts : List Tri), vs = [v] ∧ TriSeq K H v ts ∧ (∀ t ∈ ts, triB t = true) ∧ ∀ H', Same H H' → Q .non H'
theorem scNeedT : FnScope ["items", "at", "triple"] ["items"] (defScope sNeedT) := ⟨rfl, rfl, rfl, by decide +kernel, rfl, by decide +kernel, by decide +kernel⟩
theorem ok_needT (Y : TLv F) : FnOk P w K mg base CX0 3 Y.needT.f Y.needT.fd ["items"] (spNeedT K) := by
  refine Y.needT.F.ok scNeedT (fun vs H Q E h => ?_) (fun cdv A outer s H vs Q E hr h => ?_)
  · obtain ⟨v, ts, rfl, _⟩ := h
    rfl
  · obtain ⟨v, ts, rfl, hS, hok, q⟩ := h
    refine ⟨_, (pss_cons (ps_if (pt_not (pt_val (pe_call (ok_isSeq F.isSeq.F R.N.mIsi F.mList F.mTup) (hr.mono (by decide)) rfl F.isSeq.m F.isSeq.F.kp F.isSeq.b .nil pass0 (pa_cons (pv 0) pa_nil)))) pss_never pss_nil)
(pss_one (ps_for PassesOwn.never rfl (pi_enumS (pi_enum (by rfl) Y.mEn (pa_cons (pv 0) pa_nil)) (pi_enumT (by rfl) Y.mEn (pa_cons (pv 0) pa_nil))) (pg_tup (by rfl) (pgs_cons (pg_name (i := 1) scNeedT.nd rfl (Or.inl rfl)) (pgs_cons (pg_name (i := 2) scNeedT.nd rfl (Or.inl rfl)) pgs_nil)))
(pss_one (ps_if (pt_not (pt_val (pe_call (ok_isTri Y) (hr.mono (by decide)) rfl Y.isTri.m Y.isTri.F.kp Y.isTri.b .nil pass0 (pa_cons (pv 2) pa_nil)))) pss_never pss_nil))))), ?_⟩
    obtain ⟨p, as, rfl, hp, hT⟩ := hS
    obtain ⟨ty, hk, hty, hty2⟩ := kind_seq hp
    refine ⟨_, rfl, .ref p, ty, true, rfl, hty, hk, hty2, fun H1 s1 _ => ⟨_, rfl, iteF ?_⟩⟩
    rcases hp with hp | hp
    · refine .inl ?_
      refine ⟨_, rfl, p, _, rfl, s1.seq hp, for_it (n := (as.map V.ref).length) walk_enum (fun i σ Hi => ∃ x1 x2, σ = [some (.ref p), x1, x2] ∧ Same H Hi) ⟨none, none, rfl, s1⟩ (fun i σ Hi _ hP => by obtain ⟨_, _, _, s⟩ := hP; exact s.seq hp) (fun i x σ Hi Hi' hi hP hY => ?_) (fun σ Hi hP => ?_)⟩
      · obtain ⟨x1, x2, rfl, si⟩ := hP
        obtain ⟨T', xx, yy, rfl, hT', rfl, e1, e2⟩ := hY
        obtain rfl : V.int (i : Nat) = xx := Option.some.inj e1
        have e2 : (as.map V.ref)[i]? = some yy := e2
        rw [List.getElem?_map] at e2
        obtain ⟨a, ha, rfl⟩ := Option.map_eq_some_iff.mp e2
        obtain ⟨t, ht, hat⟩ := paired_at hT ha
        have ht2 := hok t (List.mem_of_getElem? ht)
        refine ⟨T', _, rfl, SqT.of upd_same, rfl, _, _, rfl, _, _, rfl, rfl, ?_⟩
        have s2 := si.trans (Same.new (o := .tup [.int (i : Nat), .ref a]) hT')
        refine ⟨_, rfl, a, t, rfl, Same.sqt s2 hat, (triB_len ht2).1, (triB_len ht2).2, fun H2 s3 => ⟨_, rfl, ?_⟩⟩
        rw [ht2]
        exact iteF ⟨_, _, rfl, s2.trans s3⟩
      · obtain ⟨x1, x2, rfl, si⟩ := hP
        exact q _ si
    · refine .inr ?_
      refine ⟨_, rfl, p, _, rfl, Same.sqt s1 hp, for_it (n := (as.map V.ref).length) walk_enumT (fun i σ Hi => ∃ x1 x2, σ = [some (.ref p), x1, x2] ∧ Same H Hi) ⟨none, none, rfl, s1⟩ (fun i σ Hi _ hP => by obtain ⟨_, _, _, s⟩ := hP; exact Same.sqt s hp) (fun i x σ Hi Hi' hi hP hY => ?_) (fun σ Hi hP => ?_)⟩
      · obtain ⟨x1, x2, rfl, si⟩ := hP
        obtain ⟨T', xx, yy, rfl, hT', rfl, e1, e2⟩ := hY
        obtain rfl : V.int (i : Nat) = xx := Option.some.inj e1
        have e2 : (as.map V.ref)[i]? = some yy := e2
        rw [List.getElem?_map] at e2
        obtain ⟨a, ha, rfl⟩ := Option.map_eq_some_iff.mp e2
        obtain ⟨t, ht, hat⟩ := paired_at hT ha
        have ht2 := hok t (List.mem_of_getElem? ht)
        refine ⟨T', _, rfl, SqT.of upd_same, rfl, _, _, rfl, _, _, rfl, rfl, ?_⟩
        have s2 := si.trans (Same.new (o := .tup [.int (i : Nat), .ref a]) hT')
        refine ⟨_, rfl, a, t, rfl, Same.sqt s2 hat, (triB_len ht2).1, (triB_len ht2).2, fun H2 s3 => ⟨_, rfl, ?_⟩⟩
        rw [ht2]
        exact iteF ⟨_, _, rfl, s2.trans s3⟩
      · obtain ⟨x1, x2, rfl, si⟩ := hP
        exact q _ si
def keysT : List Addr → List Tri → List (Addr × List Str)
  | a :: as, t :: ts => (a, tl3 t) :: keysT as ts
  | _, _ => []
theorem keysT_refs {H : Hp} : ∀ {as : List Addr} {ts : List Tri}, TrisIn K H as ts → (keysT as ts).map (fun p => V.ref p.1) = as.map V.ref
  | _, _, .nil => rfl
  | _, _, .cons _ r => congrArg (_ :: ·) (keysT_refs r)
theorem keysT_at {H : Hp} : ∀ {as : List Addr} {ts : List Tri}, TrisIn K H as ts → ∀ p ∈ keysT as ts, ∃ t ∈ ts, p.2 = tl3 t ∧ TriAt K H p.1 t
  | _, _, .nil, p, hp => nomatch hp
  | _, _, .cons a r, p, hp => by
    rcases List.mem_cons.mp hp with rfl | hp
    · exact ⟨_, List.mem_cons_self, rfl, a⟩
    · obtain ⟨t, h1, h2⟩ := keysT_at r p hp
      exact ⟨t, List.mem_cons_of_mem _ h1, h2⟩
theorem keysT_has {H : Hp} : ∀ {as : List Addr} {ts : List Tri}, TrisIn K H as ts → ∀ t ∈ ts, ∃ p ∈ keysT as ts, p.2 = tl3 t
  | _, _, .nil, t, ht => nomatch ht
  | _, _, .cons a r, t, ht => by
    rcases List.mem_cons.mp ht with rfl | ht
    · exact ⟨_, List.mem_cons_self, rfl⟩
    · obtain ⟨p, h1, h2⟩ := keysT_has r t ht
      exact ⟨p, List.mem_cons_of_mem _ h1, h2⟩
theorem mem_rights {ts : List Tri} {z : Tri} : z ∈ rightsM ts ↔ z ∈ ts ∨ ∃ t ∈ ts, going t = z := by
  unfold rightsM
  rw [mem_sortT, List.mem_append, List.mem_map]
/-- tuples that are the keys of the rights, ascending -/
theorem rights_of_keys {H : Hp} {ts : List Tri} : ∀ {L : List (Addr × List Str)}, (∀ p ∈ L, ∃ t, (t ∈ ts ∨ t ∈ ts.map going) ∧ p.2 = tl3 t ∧ TriAt K H p.1 t) → (L.map (·.2)).Pairwise (fun x y => ltT x y = true) →
    ∃ rs : List Tri, TrisIn K H (L.map (·.1)) rs ∧ UpT rs ∧ (∀ z ∈ rs, z ∈ ts ∨ z ∈ ts.map going) ∧ L.map (·.2) = rs.map tl3
  | [], _, _ => ⟨[], .nil, .nil, (fun _ z => nomatch z), rfl⟩
  | p :: L, h, up => by
    obtain ⟨u1, u2⟩ := List.pairwise_cons.mp up
    obtain ⟨rs, r1, r2, r3, r4⟩ := rights_of_keys (fun q hq => h q (List.mem_cons_of_mem _ hq)) u2
    obtain ⟨t, t1, t2, t3⟩ := h p List.mem_cons_self
    refine ⟨t :: rs, .cons t3 r1, List.pairwise_cons.mpr ⟨fun z hz => ?_, r2⟩, fun z hz => ?_, by rw [List.map_cons, List.map_cons, r4, t2]⟩
    · rw [← t2]
      exact u1 _ (by rw [r4]; exact List.mem_map_of_mem hz)
    · rcases List.mem_cons.mp hz with rfl | hz
      · exact t1
      · exact r3 z hz
theorem keysT_low {H : Hp} {as gs : List Addr} {ts : List Tri} (h : FewT ts) (ha : TrisIn K H as ts) (hg : TrisIn K H gs (ts.map going)) : LowT (keysT as ts ++ keysT gs (ts.map going)) := by
  obtain ⟨_, B, hB, hk⟩ := h
  refine ⟨B, hB, fun p hp => ?_⟩
  rcases List.mem_append.mp hp with hp | hp
  · obtain ⟨t, h1, h2, _⟩ := keysT_at ha p hp
    rw [h2]
    exact (hk t h1).1
  · obtain ⟨t, h1, h2, _⟩ := keysT_at hg p hp
    obtain ⟨u, hu, rfl⟩ := List.mem_map.mp h1
    rw [h2]
    exact (hk u hu).2
def spRights (K : PySem.W.Frag) : Sp := fun vs H Q _ => ∃ (v : V) (ts : List Tri), vs = [v] ∧ TriSeq K H v ts ∧ FewT ts ∧ ∀ (p : Addr) (bs : List Addr) (H' : Hp), Same H H' → SqT K H' p (bs.map V.ref) → TrisIn K H' bs (rightsM ts) → Q (.ref p) H'
theorem scRights : FnScope ["triples", "going", "name", "counter", "word"] ["triples"] (defScope sRights) := ⟨rfl, rfl, rfl, by decide +kernel, rfl, by decide +kernel, by decide +kernel⟩
theorem ok_rights (Y : TLv F) : FnOk P w K mg base CX0 1 Y.rights.f Y.rights.fd ["triples"] (spRights K) := by
  refine Y.rights.F.ok scRights (fun vs H Q E h => ?_) (fun cdv A outer s H vs Q E hr h => ?_)
  · obtain ⟨v, ts, rfl, _⟩ := h
    rfl
  · obtain ⟨v, ts, rfl, hS, hf, q⟩ := h
    refine ⟨_, (pss_cons (ps_setLc (i := 1) (own := [("name", 2), ("counter", 3), ("word", 4)]) (g := gTup K 3 (gCons (gName 2) (gCons (gName 3) (gCons (gName 4) gNil)))) (tt := tYes) (by rfl) scRights.nd rfl rfl (sw_true rfl rfl rfl (by decide +kernel)) (pi_seq (pv 0))
 (blkOk_by (N := ["triples", "going", "name", "counter", "word"]) (sc := defScope sRights) (by decide +kernel)) (fun _ _ _ _ _ => (pg_tup (by rfl) (pgs_cons (pg_name (i := 2) scRights.nd rfl (Or.inl rfl)) (pgs_cons (pg_name (i := 3) scRights.nd rfl (Or.inl rfl)) (pgs_cons (pg_name (i := 4) scRights.nd rfl (Or.inl rfl)) pgs_nil))))) (fun _ _ _ _ _ => pts_nil) (fun _ _ _ _ _ => (pe_tup (pa_cons (pv 2) (pa_cons (pv 3) (pa_cons pe_str pa_nil))))))
(pss_one (ps_ret (pe_callTy (show CallR _ (.type "tuple") (rTupO K) from call_tupO) (by rfl) F.mTup (by decide +kernel) (pa_cons (pe_callB (show CallR _ (.builtin "sorted") (rSortTp K P w) from cr_sortTp rfl) (by rfl) F.mSorted (by decide +kernel) (pa_cons (pe_callTy (show CallR _ (.type "set") (rSetTp K P w) from cr_setTp rfl (roomLv hr)) (by rfl) F.mSet (by decide +kernel) (pa_cons (pe_lst (StX.pa_star (pv 0) (StX.pa_star (pv 1) pa_nil))) pa_nil)) pa_nil)) pa_nil))))), ?_⟩
    obtain ⟨p, as, rfl, hp, hT⟩ := hS
    have hl := paired_len hT
    have h100 := hf.1
    refine stepSet (fun v H' => ∃ (D : Addr) (gs : List Addr), v = .ref D ∧ Same H H' ∧ H' D = some (.lst (gs.map V.ref)) ∧ TrisIn K H' gs (ts.map going)) (fun Q' hQ => ?c1) (fun v H1 hC => ?r1)
    case c1 =>
      refine lcw_objsS (K := K) (tl := tVar 0) (p := p) (xs := as.map V.ref) (cs := ts.map going) (R := fun H t c => TriAt K H t c) (fun s z => sqt_sameN s z) (fun R' z => ⟨_, rfl, z⟩) hp (by rw [List.length_map, hl]; omega) (by rw [List.length_map, List.length_map, hl]) ?tn ?fn
      case tn =>
        intro i x c Hi S Y hx hc sI k
        rw [List.getElem?_map] at hx hc
        obtain ⟨a, ha, rfl⟩ := Option.map_eq_some_iff.mp hx
        obtain ⟨t, ht, rfl⟩ := Option.map_eq_some_iff.mp hc
        obtain ⟨t', ht', hat⟩ := paired_at hT ha
        rw [ht] at ht'
        cases ht'
        refine ⟨a, _, rfl, Same.sqt sI hat, rfl, _, _, rfl, _, _, rfl, _, _, rfl, rfl, rfl, ?_⟩
        refine ⟨_, rfl, _, rfl, (by show 3 ≤ sizeLine; decide), fun b hb => ?_⟩
        exact k b _ (Same.new hb) (SqT.of upd_same)
      case fn =>
        intro D H' gs hD sD hDl pd
        exact hQ _ _ ⟨D, gs, rfl, sD, hDl, pd⟩
    case r1 =>
    obtain ⟨D, gs, rfl, s1, hD, hG⟩ := hC
    have hp1 := hp.imp s1.seq (Same.sqt s1)
    have hT1 := hT.same s1
    have hgl := paired_len hG
    rw [List.length_map] at hgl
    try dsimp only [List.set]
    refine ⟨_, rfl, p, _, rfl, hp1.symm, _, rfl, D, _, rfl, .inr (SqL.of hD), ?_⟩
    refine ⟨by rw [List.append_nil, List.length_append, List.length_map, List.length_map, hl, hgl]; exact Nat.le_trans (show ts.length + ts.length ≤ 200 by omega) (by decide), fun l hln => ?_⟩
    rw [List.append_nil]
    have s2 := s1.trans (Same.new (o := .lst (as.map V.ref ++ gs.map V.ref)) hln)
    have hT2 := hT1.same (Same.new (o := .lst (as.map V.ref ++ gs.map V.ref)) hln)
    have hG2 := hG.same (Same.new (o := .lst (as.map V.ref ++ gs.map V.ref)) hln)
    have hl2 : upd H1 l (.lst (as.map V.ref ++ gs.map V.ref)) l = some (.lst (as.map V.ref ++ gs.map V.ref)) := upd_same
    generalize upd H1 l (.lst (as.map V.ref ++ gs.map V.ref)) = H2 at s2 hT2 hG2 hl2 ⊢
    have kat : ∀ p ∈ keysT as ts ++ keysT gs (ts.map going), ∃ t, (t ∈ ts ∨ t ∈ ts.map going) ∧ p.2 = tl3 t ∧ TriAt K H2 p.1 t := fun p hp => by
      rcases List.mem_append.mp hp with hp | hp
      · obtain ⟨t, h1, h2, h3⟩ := keysT_at hT2 p hp
        exact ⟨t, .inl h1, h2, h3⟩
      · obtain ⟨t, h1, h2, h3⟩ := keysT_at hG2 p hp
        exact ⟨t, .inr h1, h2, h3⟩
    have sq3 : ∀ {H : Hp} {p : Addr × List Str} {t : Tri}, p.2 = tl3 t → TriAt K H p.1 t → SqT K H p.1 (p.2.map V.str) := fun e h => by rw [e]; exact h
    refine ⟨l, keysT as ts ++ keysT gs (ts.map going), rfl, SqL.of (by rw [hl2, List.map_append, keysT_refs hT2, keysT_refs hG2]), fun p hp => ?_, keysT_low hf hT2 hG2, fun a L ha hL1 hL2 => ?_⟩
    · obtain ⟨t, _, h2, h3⟩ := kat p hp
      exact sq3 h2 h3
    have s3 := s2.trans (Same.new (o := SetTp P w a L) ha)
    have kat2 : ∀ p ∈ L, ∃ t, (t ∈ ts ∨ t ∈ ts.map going) ∧ p.2 = tl3 t ∧ TriAt K (upd H2 a (SetTp P w a L)) p.1 t := fun p hp => by
      obtain ⟨t, h1, h2, h3⟩ := kat p (hL1 p hp)
      exact ⟨t, h1, h2, Same.sqt (Same.new ha) h3⟩
    refine ⟨a, L, rfl, upd_same, fun p hp => ?_, fun L' p perm up hpn => ?_⟩
    · obtain ⟨t, _, h2, h3⟩ := kat2 p hp
      exact ⟨sq3 h2 h3, by rw [h2]; exact fun z => nomatch z⟩
    have s4 := s3.trans (Same.new (o := .lst (L'.map fun q => V.ref q.1)) hpn)
    have e4 : (L'.map fun q => V.ref q.1) = (L'.map (·.1)).map V.ref := by rw [List.map_map]; rfl
    rw [e4] at s4 ⊢
    have hp4 : upd (upd H2 a (SetTp P w a L)) p (.lst ((L'.map (·.1)).map V.ref)) p = some (.lst ((L'.map (·.1)).map V.ref)) := upd_same
    obtain ⟨rs, r1, r2, r3, r4⟩ := rights_of_keys (K := K) (H := upd H2 a (SetTp P w a L)) (ts := ts) (L := L') (fun q hq => kat2 q (perm.mem_iff.mp hq)) up
    have r5 : rs = rightsM ts := by
      refine up_uniq r2 (up_sortT _) fun z => ⟨fun hz => ?_, fun hz => ?_⟩
      · exact mem_rights.mpr ((r3 z hz).imp id List.mem_map.mp)
      · have hz2 : z ∈ ts ∨ z ∈ ts.map going := (mem_rights.mp hz).imp id List.mem_map.mpr
        have hk : ∃ p ∈ keysT as ts ++ keysT gs (ts.map going), p.2 = tl3 z := by
          rcases hz2 with hz2 | hz2
          · obtain ⟨p, h1, h2⟩ := keysT_has hT2 z hz2
            exact ⟨p, List.mem_append_left _ h1, h2⟩
          · obtain ⟨p, h1, h2⟩ := keysT_has hG2 z hz2
            exact ⟨p, List.mem_append_right _ h1, h2⟩
        obtain ⟨p, h1, h2⟩ := hk
        have h3 := hL2 p h1
        rw [h2, ← (perm.map (·.2)).mem_iff, r4] at h3
        obtain ⟨t, h4, h5⟩ := List.mem_map.mp h3
        rw [← tl3_inj h5]
        exact h4
    rw [r5] at r1
    refine ⟨p, _, rfl, .inl ⟨SqL.of hp4, fun b hb => ?_⟩⟩
    exact q b _ _ (s4.trans (Same.new hb)) (SqT.of upd_same) ((r1.same (Same.new hpn)).same (Same.new hb))
def insLv (C dx : Addr) (u : V) : HO := .ins C dx (putF "rights" u [])
/-- leaves with these rights -/
def LvAt (Y : TLv F) (H : Hp) (x : Addr) (rs : List Tri) : Prop := ∃ (dx p : Addr) (as : List Addr), H x = some (insLv Y.C dx (.ref p)) ∧ SqT K H p (as.map V.ref) ∧ TrisIn K H as rs ∧ UpT rs ∧ (∀ t ∈ rs, triB t = true) ∧ rs.length ≤ 1000
theorem LvAt.same {Y : TLv F} {H H' : Hp} {x : Addr} {rs : List Tri} (h : LvAt Y H x rs) (s : Same H H') : LvAt Y H' x rs := by
  obtain ⟨dx, p, as, h1, h2, h3, h4⟩ := h
  exact ⟨dx, p, as, s _ _ h1, Same.sqt s h2, h3.same s, h4⟩
theorem rights_ok {ts : List Tri} (h : ∀ t ∈ ts, triB t = true) : ∀ t ∈ rightsM ts, triB t = true := fun t ht => by
  rcases mem_rights.mp ht with ht | ⟨u, hu, rfl⟩
  · exact h t ht
  · have z := h u hu
    unfold triB at z ⊢
    rw [Bool.and_eq_true, Bool.and_eq_true] at z ⊢
    exact ⟨z.1, z.2.1, rfl⟩
theorem insT_len (x : Tri) : ∀ l : List Tri, (insT x l).length ≤ l.length + 1
  | [] => Nat.le_refl _
  | y :: l => by
    unfold insT
    split
    · exact Nat.le_refl _
    · split
      · exact Nat.le_succ _
      · exact Nat.succ_le_succ (insT_len x l)
theorem sortT_len : ∀ l : List Tri, (sortT l).length ≤ l.length
  | [] => Nat.le_refl _
  | x :: l => Nat.le_trans (insT_len x (sortT l)) (Nat.succ_le_succ (sortT_len l))
theorem rights_len (ts : List Tri) : (rightsM ts).length ≤ 2 * ts.length := by
  have := sortT_len (ts ++ ts.map going)
  rw [List.length_append, List.length_map] at this
  unfold rightsM
  omega
def spLInit (Y : TLv F) : Sp := fun vs H Q _ => ∃ (x dx : Addr) (v : V) (ts : List Tri), vs = [.ref x, v] ∧ H x = some (.ins Y.C dx []) ∧ TriSeq K (hid H x) v ts ∧ (∀ t ∈ ts, triB t = true) ∧ FewT ts ∧ ∀ H', KpI x H H' → LvAt Y H' x (rightsM ts) → Q .non H'
theorem scLInit : FnScope ["self", "items"] ["self", "items"] (defScope sLInit) := ⟨rfl, rfl, rfl, by decide +kernel, rfl, by decide +kernel, by decide +kernel⟩
theorem ok_lInit (Y : TLv F) : FnOk P w K mg base CX0 4 Y.fI Y.fdI ["self", "items"] (spLInit Y) := by
  refine Y.FI.ok scLInit (fun vs H Q E h => ?_) (fun cdv A outer s H vs Q E hr h => ?_)
  · obtain ⟨x, dx, v, ts, rfl, _⟩ := h
    rfl
  · obtain ⟨x, dx, v, ts, rfl, hx, hS, hok, hf, q⟩ := h
    refine ⟨_, (pss_cons (ps_expr (pe_call (ok_needT Y) (hr.mono (by decide)) rfl Y.needT.m Y.needT.F.kp Y.needT.b .nil pass0 (pa_cons (pv 1) pa_nil)))
(pss_one (ps_fld (pv 0) (pe_call (ok_rights Y) (hr.mono (by decide)) rfl Y.rights.m Y.rights.F.kp Y.rights.b .nil pass0 (pa_cons (pv 1) pa_nil)) rfl))), ?_⟩
    have hS1 : TriSeq K H v ts := hS.same hid_sub
    refine ⟨_, rfl, v, ts, rfl, hS1, hok, fun H1 s1 => ?_⟩
    refine ⟨_, rfl, v, ts, rfl, hS1.same s1, hf, fun p bs H2 s2 hp hB => ?_⟩
    have hx2 := s2 _ _ (s1 _ _ hx)
    refine ⟨_, rfl, x, Y.C, dx, _, rfl, hx2, Y.cl, Y.noR, (by show 0 < 1000; decide), ?_⟩
    refine q _ (fun b o e n => by rw [upd_ne n]; exact s2 _ _ (s1 _ _ e)) ⟨dx, p, bs, upd_same, sqt_ins hx2 hp, paired_mono (fun _ _ z => sqt_ins hx2 z) hB, up_sortT _, rights_ok hok, ?_⟩
    have := rights_len ts
    have := hf.1
    omega
end
end Pn

namespace Pn
open PySem PySem.Spec PyProof.Rows L2 TL
abbrev sLEq : Stmt := inClass (top 15) 11
/-! ### leaves compared and put together -/
def triD (t : Tri) : PyData := .tuple [.str t.1, .str t.2.1, .str t.2.2]
theorem tri_strOk {t : Tri} (h : triB t = true) : PyData.strOk t.1 = true ∧ PyData.strOk t.2.1 = true ∧ PyData.strOk t.2.2 = true := by
  unfold triB at h
  rw [Bool.and_eq_true, Bool.and_eq_true, Bool.or_eq_true] at h
  obtain ⟨h1, h2, h3⟩ := h
  refine ⟨(name_ok h1).1, (name_ok h2).1, ?_⟩
  rcases h3 with h3 | h3
  · rw [of_decide_eq_true h3]; decide +kernel
  · rw [of_decide_eq_true h3]; decide +kernel
def triS (t : Tri) : Prop := PyData.strOk t.1 = true ∧ PyData.strOk t.2.1 = true ∧ PyData.strOk t.2.2 = true
theorem tri_lay {t : Tri} (h : triS t) : PyData.canLay0 (triD t) = true ∧ PyData.depth (triD t) ≤ 1 := by
  obtain ⟨a, b, c⟩ := h
  constructor
  · unfold triD
    simp only [PyData.canLay0, PyData.canLayAll0, a, b, c, Bool.and_self]
  · unfold triD
    simp [PyData.depth, PyData.depthAll]
theorem tris_lay : ∀ {l : List Tri}, (∀ t ∈ l, triS t) → PyData.canLayAll0 (l.map triD) = true ∧ PyData.depthAll (l.map triD) ≤ 1
  | [], _ => ⟨by simp only [List.map_nil, PyData.canLayAll0], by simp [PyData.depthAll]⟩
  | t :: l, h => by
    obtain ⟨a, b⟩ := tri_lay (h t List.mem_cons_self)
    obtain ⟨c, d⟩ := tris_lay fun z hz => h z (List.mem_cons_of_mem _ hz)
    refine ⟨by simp only [List.map_cons, PyData.canLayAll0, a, c, Bool.and_self], ?_⟩
    simp only [List.map_cons, PyData.depthAll]
    omega
theorem tri_shaped {t : Tri} (h : triS t) : SeqAt.shaped (triD t) = true := by
  obtain ⟨a, b⟩ := tri_lay h
  unfold SeqAt.shaped
  rw [a, Bool.true_and]
  exact decide_eq_true (by omega)
theorem tris_shaped {l : List Tri} (h : ∀ t ∈ l, triS t) : SeqAt.shaped (.tuple (l.map triD)) = true := by
  obtain ⟨a, b⟩ := tris_lay h
  unfold SeqAt.shaped
  simp only [PyData.canLay0, PyData.depth, a, Bool.true_and]
  exact decide_eq_true (by omega)
theorem tri_eqv (a b : Tri) : PyData.eqv (triD a) (triD b) = decide (a = b) := by
  have e : ∀ x y : Str, PyData.eqv (.str x) (.str y) = decide (x = y) := fun x y => by
    by_cases h : x = y <;> simp [PyData.eqv, h]
  unfold triD
  simp only [PyData.eqv, PyData.eqvAll]
  obtain ⟨a1, a2, a3⟩ := a
  obtain ⟨b1, b2, b3⟩ := b
  by_cases h1 : a1 = b1 <;> by_cases h2 : a2 = b2 <;> by_cases h3 : a3 = b3 <;> simp [h1, h2, h3]
theorem tris_eqv : ∀ l m : List Tri, PyData.eqvAll (l.map triD) (m.map triD) = decide (l = m)
  | [], [] => by simp [PyData.eqvAll]
  | [], _ :: _ => by simp [PyData.eqvAll]
  | _ :: _, [] => by simp [PyData.eqvAll]
  | a :: l, b :: m => by
    simp only [List.map_cons, PyData.eqvAll, tri_eqv, tris_eqv l m]
    by_cases h1 : a = b <;> by_cases h2 : l = m <;> simp [h1, h2]
theorem tris_any (l : List Tri) (t : Tri) : ((l.map triD).any fun z => PyData.eqv z (triD t)) = decide (t ∈ l) := by
  induction l with
  | nil => simp
  | cons a l ih =>
    rw [List.map_cons, List.any_cons, ih, tri_eqv]
    by_cases h : a = t
    · simp [h]
    · have h' : ¬ t = a := fun z => h z.symm
      by_cases h2 : t ∈ l <;> simp [h, h', h2]
section
variable {P : Program} {w : World} {K : PySem.W.Frag} {mg : Str → Option Value} {base : Heap} {R : TRowz K mg} {F : TFilz R}
theorem tri_dp {H : Hp} {a : Addr} {t : Tri} (h : TriAt K H a t) : Dp K H (.ref a) (triD t) := .tup h (.cons (.str _) (.cons (.str _) (.cons (.str _) .nil)))
theorem tris_dp {H : Hp} : ∀ {as : List Addr} {ts : List Tri}, TrisIn K H as ts → DpAll K H (as.map V.ref) (ts.map triD)
  | _, _, .nil => .nil
  | _, _, .cons a r => .cons (tri_dp a) (tris_dp r)
theorem roomTr {k : Nat} {A : Around} (r : Room k A) : A.units + 65 < PySem.cLine := by have := r.un; omega
theorem lv_r {u : V} : (putF "rights" u ([] : List (Str × V))).lookup ("rights" : Str) = some u := by rw [lookup_putF, if_pos rfl]
/-- what leaves are compared by -/
structure TLvE (Y : TLv F) : Type where
  cA : PySem.W.findIn K (.ref Y.C) "__class__" = some (some (.builtin "object.__class__"))
  cM : PySem.W.mroIn K Y.C (.type "object") = some true
  kC : PySem.W.kitOne K (.ref Y.C) (.ref Y.C) = some true
  eq : TMeth K Y.C "__eq__" "Leaves.__eq__" sLEq ["self", "other"]
variable {Y : TLv F}
theorem lv_ty (Z : TLvE Y) {H : Hp} {x : Addr} {rs : List Tri} (h : LvAt Y H x rs) : TyX K H (.ref x) (.ref Y.C) := by
  obtain ⟨dx, p, as, h1, _⟩ := h
  exact .base (.ins h1 Y.cl Z.cA F.cN F.cT Z.cM)
def spLEq (Y : TLv F) : Sp := fun vs H Q _ => ∃ (x y : Addr) (rs qs : List Tri), vs = [.ref x, .ref y] ∧ LvAt Y H x rs ∧ LvAt Y H y qs ∧ Q (.bl (decide (rs = qs))) H
theorem scLEq : FnScope ["self", "other"] ["self", "other"] (defScope sLEq) := ⟨rfl, rfl, rfl, by decide +kernel, rfl, by decide +kernel, by decide +kernel⟩
theorem ok_lEq (Z : TLvE Y) : FnOk P w K mg base CX0 2 Z.eq.f Z.eq.fd ["self", "other"] (spLEq Y) := by
  refine Z.eq.F.ok scLEq (fun vs H Q E h => ?_) (fun cdv A outer s H vs Q E hr h => ?_)
  · obtain ⟨x, y, rs, qs, rfl, _⟩ := h
    rfl
  · obtain ⟨x, y, rs, qs, rfl, hx, hy, q⟩ := h
    refine ⟨_, (pss_one (ps_ret (pe_and (pe_callB call_isi (by rfl) R.N.mIsi (by decide +kernel) (pa_cons (pv 1) (pa_cons (pe_glob (v := .ref Y.C) (by rfl) Y.mC rfl) pa_nil))) (pe_one (pe_cmpR (op_eqD (roomLv hr)) (pe_fld (pv 0) rfl) (pe_fld (pv 1) rfl) (nomark _)))))), ?_⟩
    refine ⟨_, rfl, .ref y, .ref Y.C, _, _, true, rfl, .own _, lv_ty Z hy, Z.kC, _, rfl, iteT ?_⟩
    obtain ⟨dx, p, as, h1, h2, h3, _, h5, _⟩ := hx
    obtain ⟨dy, p', bs, g1, g2, g3, _, g5, _⟩ := hy
    refine ⟨_, rfl, x, Y.C, dx, _, .ref p, rfl, h1, Y.cl, Y.noR, lv_r, _, rfl, y, Y.C, dy, _, .ref p', rfl, g1, Y.cl, Y.noR, lv_r, ?_⟩
    refine ⟨.tuple (rs.map triD), .tuple (qs.map triD), .tup h2 (tris_dp h3), .tup g2 (tris_dp g3), tris_shaped fun t ht => tri_strOk (h5 t ht), tris_shaped fun t ht => tri_strOk (g5 t ht), ?_⟩
    have e : PyData.eqv (.tuple (rs.map triD)) (.tuple (qs.map triD)) = decide (rs = qs) := by
      rw [← tris_eqv]
      simp only [PyData.eqv]
    rw [e]
    exact q
end
end Pn

namespace Pn
open PySem PySem.Spec PyProof.Rows L2 TL
/-! ### leaves made, put together; a row let in -/
section
variable {P : Program} {w : World} {K : PySem.W.Frag} {mg : Str → Option Value} {base : Heap} {R : TRowz K mg} {F : TFilz R} {Y : TLv F}
variable {Z : TLvE Y}
theorem lv_made (Y : TLv F) {H : Hp} {v : V} {ts : List Tri} (hS : TriSeq K H v ts) (hok : ∀ t ∈ ts, triB t = true) (hf : FewT ts) {RR : Addr → Hp → Prop} (k : ∀ x H', Same H H' → LvAt Y H' x (rightsM ts) → RR x H') :
    ∀ x dx, H x = none → H dx = none → dx ≠ x → spLInit Y [.ref x, v] (upd (upd H dx (.own x)) x (.ins Y.C dx [])) (fun u H2 => u = .non ∧ RR x H2) E0 := fun x dx hx hdx ne => by
  have s1 : Same H (upd (upd H dx (.own x)) x (.ins Y.C dx [])) := ins_same2 hx hdx
  refine ⟨x, dx, v, ts, rfl, upd_same, hS.same fun b o e => hid_get (s1 _ _ e) (ne_of_none e hx), hok, hf, fun H' kp hL => ⟨rfl, k x H' (kpi_same2 hx hdx kp) hL⟩⟩
theorem tris_kept {H : Hp} (p : Tri → Bool) : ∀ {as : List Addr} {rs : List Tri}, TrisIn K H as rs → ∃ bs : List Addr, TrisIn K H bs (rs.filter p) ∧ bs.map V.ref = (as.zip rs).filterMap fun z => if p z.2 = true then some (V.ref z.1) else none
  | _, _, .nil => ⟨[], .nil, rfl⟩
  | a :: as, t :: rs, .cons h r => by
    obtain ⟨bs, h1, h2⟩ := tris_kept p r
    by_cases hp : p t = true
    · refine ⟨a :: bs, ?_, ?_⟩
      · rw [List.filter_cons_of_pos hp]
        exact .cons h h1
      · rw [List.zip_cons_cons, List.filterMap_cons, if_pos hp, List.map_cons, h2]
    · refine ⟨bs, ?_, ?_⟩
      · rw [List.filter_cons_of_neg hp]
        exact h1
      · rw [List.zip_cons_cons, List.filterMap_cons, if_neg hp]
        exact h2
end
end Pn

namespace Pn
open PySem PySem.Spec PyProof.Rows L2 TL
abbrev sLPairs : Stmt := inClass (top 15) 1
abbrev sLStr : Stmt := inClass (top 15) 10
/-! ### the pairs of leaves, their text -/
def freeM (rs : List Tri) : List (Str × Str) := rs.filterMap fun t => if t.2.2 = ("any" : Str) then some (t.1, t.2.1) else none
def pairB (rs : List Tri) (t : Tri) : Bool := decide (t.2.2 = ("any" : Str)) || !decide ((t.1, t.2.1) ∈ freeM rs)
def pairsM (rs : List Tri) : List Tri := rs.filter (pairB rs)
def leavT (rs : List Tri) : Str := if rs = [] then "-" else Txt.join "; " ((pairsM rs).map fun t => Txt.join " " (tl3 t))
def prD (t : Str × Str) : PyData := .tuple [.str t.1, .str t.2]
theorem pr_lay {t : Str × Str} (h : PyData.strOk t.1 = true ∧ PyData.strOk t.2 = true) : PyData.canLay0 (prD t) = true ∧ PyData.depth (prD t) ≤ 1 := by
  obtain ⟨a, b⟩ := h
  constructor
  · unfold prD
    simp only [PyData.canLay0, PyData.canLayAll0, a, b, Bool.and_self]
  · unfold prD
    simp [PyData.depth, PyData.depthAll]
theorem prs_lay : ∀ {l : List (Str × Str)}, (∀ t ∈ l, PyData.strOk t.1 = true ∧ PyData.strOk t.2 = true) → PyData.canLayAll0 (l.map prD) = true ∧ PyData.depthAll (l.map prD) ≤ 1
  | [], _ => ⟨by simp only [List.map_nil, PyData.canLayAll0], by simp [PyData.depthAll]⟩
  | t :: l, h => by
    obtain ⟨a, b⟩ := pr_lay (h t List.mem_cons_self)
    obtain ⟨c, d⟩ := prs_lay fun z hz => h z (List.mem_cons_of_mem _ hz)
    refine ⟨by simp only [List.map_cons, PyData.canLayAll0, a, c, Bool.and_self], ?_⟩
    simp only [List.map_cons, PyData.depthAll]
    omega
theorem pr_eqv (a b : Str × Str) : PyData.eqv (prD a) (prD b) = decide (a = b) := by
  have e : ∀ x y : Str, PyData.eqv (.str x) (.str y) = decide (x = y) := fun x y => by
    by_cases h : x = y <;> simp [PyData.eqv, h]
  unfold prD
  simp only [PyData.eqv, PyData.eqvAll]
  obtain ⟨a1, a2⟩ := a
  obtain ⟨b1, b2⟩ := b
  by_cases h1 : a1 = b1 <;> by_cases h2 : a2 = b2 <;> simp [h1, h2]
theorem prs_any (l : List (Str × Str)) (t : Str × Str) : ((l.map prD).any fun z => PyData.eqv z (prD t)) = decide (t ∈ l) := by
  induction l with
  | nil => simp
  | cons a l ih =>
    rw [List.map_cons, List.any_cons, ih, pr_eqv]
    by_cases h : a = t
    · simp [h]
    · have h' : ¬ t = a := fun z => h z.symm
      by_cases h2 : t ∈ l <;> simp [h, h', h2]
section
variable {P : Program} {w : World} {K : PySem.W.Frag} {mg : Str → Option Value} {base : Heap} {R : TRowz K mg} {F : TFilz R} {Y : TLv F}
abbrev PrAt (K : PySem.W.Frag) (H : Hp) (a : Addr) (t : Str × Str) : Prop := SqT K H a [.str t.1, .str t.2]
theorem prs_dp {H : Hp} : ∀ {as : List Addr} {ts : List (Str × Str)}, Paired (PrAt K H) as ts → DpAll K H (as.map V.ref) (ts.map prD)
  | _, _, .nil => .nil
  | _, _, .cons a r => .cons (.tup a (.cons (.str _) (.cons (.str _) .nil))) (prs_dp r)
def rNotPr (K : PySem.W.Frag) : R2 := fun x y H Q => ∃ (a p : Addr) (t : Str × Str) (as : List Addr) (rs : List (Str × Str)), x = .ref a ∧ PrAt K H a t ∧ y = .ref p ∧ SqL K H p (as.map V.ref) ∧ Paired (PrAt K H) as rs ∧
  (PyData.strOk t.1 = true ∧ PyData.strOk t.2 = true) ∧ (∀ t ∈ rs, PyData.strOk t.1 = true ∧ PyData.strOk t.2 = true) ∧ Q (.bl (!decide (t ∈ rs))) H
theorem op_notPr {X : Cx} (hu : X.A.units + 65 < PySem.cLine) : OpR X (compareOp .NotIn) (rNotPr X.K) := by
  intro pins s σ H x y v u Q I rx ry h
  obtain ⟨a, p, t, as, rs, rfl, ha, rfl, hp, hr, ht, hrs, q⟩ := h
  obtain ⟨as1, r1⟩ := Dp.reads I (prD t) (.ref a) v (.tup ha (.cons (.str _) (.cons (.str _) .nil))) rx
  obtain ⟨bs1, r2⟩ := Dp.reads I (.list (rs.map prD)) (.ref p) u (.lst hp (prs_dp hr)) ry
  have se := prs_lay hrs
  have sd := pr_lay ht
  rw [← prs_any] at q
  exact SeqAt.notIn_list_reads r2 r1 se.1 sd.1 (by have := Nat.min_le_right (PyData.depthAll (rs.map prD)) (prD t).depth; omega) ⟨.bl _, H, I, rfl, q⟩
/-- objects made in a comprehension over a tuple, some turns left out -/
theorem lcw_objsF {α : Type} {tl : TE} {g : TG} {tt : TT} {te : TE} {vs : List Nat} {σ : L2.St} {H : Hp} {Q : VK} {p : Addr} {xs : List V} {R : Hp → Addr → α → Prop} {sel : Nat → Option α} (hR : ∀ {H H' : Hp} {t : Addr} {c : α}, SameN H H' → R H t c → R H' t c)
    (h0 : ∀ R : VK, R (.ref p) H → tl σ H R) (hp : SqT K H p xs) (hl : xs.length ≤ 1000)
    (turn : ∀ (i : Nat) (x : V) (Hi : Hp) (S : Hp → Prop) (Y : VK), xs[i]? = some x → Same H Hi → (sel i = none → ∀ H', Same Hi H' → S H') → (∀ c, sel i = some c → ∀ t H', Same Hi H' → R H' t c → Y (.ref t) H') → g x (wipe σ vs) Hi fun σ2 H2 => wipe σ2 vs = wipe σ vs ∧ tt σ2 H2 fun b H3 => if b = true then te σ2 H3 Y else S H3)
    (fin : ∀ (D : Addr) (H' : Hp) (ts : List Addr), H D = none → Same H H' → H' D = some (.lst (ts.map V.ref)) → Paired (R H') ts ((List.range xs.length).filterMap sel) → Q (.ref D) H') : tLc (iTup K tl) g tt te vs σ H Q := by
  refine h0 _ ⟨p, rfl, ⟨_, hp⟩, fun D hD => lc_tup (xs := xs) (fun i Hi => Same H Hi ∧ ∃ ts : List Addr, Hi D = some (.lst (ts.map V.ref)) ∧ ts.length ≤ i ∧ Paired (R Hi) ts ((List.range i).filterMap sel)) ⟨Same.new hD, [], upd_same, Nat.le_refl _, .nil⟩ (fun _ _ _ hP => Same.sqt hP.1 hp) (fun i x Hi hx hP => ?_) (fun Hi hP => ?_)⟩
  · obtain ⟨s, ts, hd, hn, pd⟩ := hP
    have hi : i < xs.length := (List.getElem?_eq_some_iff.mp hx).1
    refine turn i x Hi _ _ hx s (fun e H' s' => ⟨s.trans s', ts, s' _ _ hd, Nat.le_succ_of_le hn, ?_⟩) fun c e t H' s' r => ⟨_, s' _ _ hd, small1000 (by rw [List.length_map]; omega), (fun a o e => ?_), ts ++ [t], by rw [upd_same, List.map_append]; rfl, by rw [List.length_append]; exact Nat.add_le_add_right hn 1, ?_⟩
    · rw [List.range_succ, List.filterMap_append]
      simp only [List.filterMap_cons, e, List.filterMap_nil, List.append_nil]
      exact paired_mono (fun _ _ z => hR (SameN.of s') z) pd
    · rw [upd_ne (ne_of_none e hD)]
      exact s' _ _ (s _ _ e)
    · have n2 : SameN H' (upd H' D (.lst (ts.map V.ref ++ [V.ref t]))) := SameN.upd (s' _ _ hd)
      rw [List.range_succ, List.filterMap_append]
      simp only [List.filterMap_cons, e, List.filterMap_nil]
      exact paired_snoc (hR n2 r) (paired_mono (fun _ _ z => hR ((SameN.of s').trans n2) z) pd)
  · obtain ⟨s, ts, hd, _, pd⟩ := hP
    exact fin D Hi ts hD s hd pd
/-- what the pairs and the text of leaves want -/
structure TLvP (Y : TLv F) : Type where
  pairs : TPr K Y.C "pairs" "Leaves.pairs" sLPairs
  str : TMeth K Y.C "__str__" "Leaves.__str__" sLStr ["self"]
def spLPairs (Y : TLv F) : Sp := fun vs H Q _ => ∃ (x : Addr) (rs : List Tri), vs = [.ref x] ∧ LvAt Y H x rs ∧ ∀ (p : Addr) (as : List Addr) (H' : Hp), Same H H' → SqT K H' p (as.map V.ref) → TrisIn K H' as (pairsM rs) → Q (.ref p) H'
theorem scLPairs : FnScope ["self", "free", "name", "counter", "word", "one"] ["self"] (defScope sLPairs) := ⟨rfl, rfl, rfl, by decide +kernel, rfl, by decide +kernel, by decide +kernel⟩
theorem pr_sameN {H H' : Hp} {t : Addr} {c : Str × Str} (s : SameN H H') (h : PrAt K H t c) : PrAt K H' t c := sqt_sameN s h
theorem ok_lPairs (Z : TLvP Y) : FnOk P w K mg base CX0 1 Z.pairs.g Z.pairs.fd ["self"] (spLPairs Y) := by
  refine Z.pairs.F.ok scLPairs (fun vs H Q E h => ?_) (fun cdv A outer s H vs Q E hr h => ?_)
  · obtain ⟨x, rs, rfl, _⟩ := h
    rfl
  · obtain ⟨x, rs, rfl, hL, q⟩ := h
    refine ⟨_, (pss_cons (ps_set (i := 1) scLPairs.nd rfl (Or.inr rfl) (pe_lc (own := [("name", 2), ("counter", 3), ("word", 4)]) (g := gTup K 3 (gCons (gName 2) (gCons (gName 3) (gCons (gName 4) gNil)))) (by rfl) scLPairs.nd (pi_tup (pe_fld (pv 0) rfl))
 (blkOk_by (N := ["self", "free", "name", "counter", "word", "one"]) (sc := defScope sLPairs) (by decide +kernel)) (fun _ _ _ _ _ => (pg_tup (by rfl) (pgs_cons (pg_name (i := 2) scLPairs.nd rfl (Or.inl rfl)) (pgs_cons (pg_name (i := 3) scLPairs.nd rfl (Or.inl rfl)) (pgs_cons (pg_name (i := 4) scLPairs.nd rfl (Or.inl rfl)) pgs_nil))))) (fun _ _ _ _ _ => pts_one (pt_cmpR op_eq (pv 4) pe_str (nomark _))) (fun _ _ _ _ _ => (pe_tup (pa_cons (pv 2) (pa_cons (pv 3) pa_nil))))))
(pss_one (ps_ret (pe_callTy (show CallR _ (.type "tuple") (rTupO K) from call_tupO) (by rfl) F.mTup (by decide +kernel) (pa_cons (pe_lc (own := [("one", 5)]) (g := gName 5) (by rfl) scLPairs.nd (pi_tup (pe_fld (pv 0) rfl))
 (blkOk_by (N := ["self", "free", "name", "counter", "word", "one"]) (sc := defScope sLPairs) (by decide +kernel)) (fun _ _ _ _ _ => (pg_name (i := 5) scLPairs.nd rfl (Or.inl rfl))) (fun _ _ _ _ _ => pts_one (PW.pt (pw_or (pt_cmpR op_eq (pe_ix (show IxR _ (rIxT K) from ix_tup) (pv 5) pe_int (fun _ _ => rfl)) pe_str (nomark _)) (pw_or1 (pt_cmpR (show OpR _ (compareOp .NotIn) (rNotPr K) from op_notPr (roomTr hr)) (pe_slice (show SlR _ (rSlA K) from sl_tupA) (pv 5) po_none (po_some pe_int)) (pv 1) rfl))))) (fun _ _ _ _ _ => (pv 5))) pa_nil))))), ?_⟩
    obtain ⟨dx, p, as, h1, h2, h3, _, h5, h6⟩ := hL
    have l1 := paired_len h3
    have lz : (as.zip rs).length = as.length := by rw [List.length_zip, l1, Nat.min_self]
    have hlen : (as.map V.ref).length = rs.length := by rw [List.length_map, l1]
    unfold tSeq tAsg
    refine lcw_objsF (K := K) (R := PrAt K) (sel := fun i => (rs[i]?).bind fun t => if t.2.2 = ("any" : Str) then some (t.1, t.2.1) else none) (tl := tFld K (tVar 0) "rights") (p := p) (xs := as.map V.ref) (fun s h => pr_sameN s h) (fun R r => ⟨_, rfl, x, Y.C, dx, _, .ref p, rfl, h1, Y.cl, Y.noR, lv_r, r⟩) h2 (by rw [hlen]; exact h6) (fun i v Hi S YY hv si hS hY => ?t1) (fun D H2 ts hD s2 hD2 hfr => ?_)
    case t1 =>
      rw [List.getElem?_map] at hv
      obtain ⟨a, ha, rfl⟩ := Option.map_eq_some_iff.mp hv
      obtain ⟨t, ht, hat⟩ := paired_at h3 ha
      have hb : (rs[i]?).bind (fun t : Tri => if t.2.2 = ("any" : Str) then some (t.1, t.2.1) else none) = if t.2.2 = ("any" : Str) then some (t.1, t.2.1) else none := by rw [ht]; rfl
      refine ⟨a, _, rfl, Same.sqt si hat, rfl, _, _, rfl, _, _, rfl, _, _, rfl, rfl, rfl, ?_⟩
      refine ⟨_, rfl, rfl, _, rfl, ?_⟩
      by_cases hw : t.2.2 = ("any" : Str)
      · refine iteTD (decide_eq_true (congrArg V.str hw)) ?_
        refine ⟨_, rfl, _, rfl, (by show 2 ≤ sizeLine; decide), fun u hu => ?_⟩
        exact hY _ (hb.trans (if_pos hw)) u _ (Same.new hu) (SqT.of upd_same)
      · refine iteFD (decide_eq_false fun z => hw (V.str.inj z)) (hS (hb.trans (if_neg hw)) _ (Same.refl _))
    have hfr2 : Paired (PrAt K H2) ts (freeM rs) := by
      have e : (List.range (as.map V.ref).length).filterMap (fun i => (rs[i]?).bind fun t : Tri => if t.2.2 = ("any" : Str) then some (t.1, t.2.1) else none) = freeM rs := by
        rw [hlen, out_filter]
        rfl
      rw [e] at hfr
      exact hfr
    unfold gName
    dsimp only
    unfold tRet tCB tCons
    dsimp only
    have hok : ∀ t ∈ rs, triS t := fun t ht => tri_strOk (h5 t ht)
    have hfo : ∀ c ∈ freeM rs, PyData.strOk c.1 = true ∧ PyData.strOk c.2 = true := fun c hc => by
      obtain ⟨t, ht, e⟩ := List.mem_filterMap.mp hc
      by_cases hw : t.2.2 = ("any" : Str)
      · rw [if_pos hw] at e
        cases e
        exact ⟨(hok t ht).1, (hok t ht).2.1⟩
      · rw [if_neg hw] at e
        cases e
    refine lcw_tup (K := K) (tl := tFld K (tVar 0) "rights") (p := p) (xs := as.map V.ref) (fun R r => ⟨_, rfl, x, Y.C, dx, _, .ref p, rfl, s2 _ _ h1, Y.cl, Y.noR, lv_r, r⟩) (Same.sqt s2 h2) (by rw [hlen]; omega) (out := fun i => ((as.zip rs)[i]?).bind fun z => if pairB rs z.2 = true then some (V.ref z.1) else none) (fun i v Hi S YY hv si hS hY => ?_) (fun D2 H3 hD2 s3 hD3 => ?_)
    · rw [List.getElem?_map] at hv
      obtain ⟨a, ha, rfl⟩ := Option.map_eq_some_iff.mp hv
      obtain ⟨t, ht, hat⟩ := paired_at h3 ha
      have hz : (as.zip rs)[i]? = some (a, t) := List.getElem?_zip_eq_some.mpr ⟨ha, ht⟩
      have hb : ((as.zip rs)[i]?).bind (fun z => if pairB rs z.2 = true then some (V.ref z.1) else none) = if pairB rs t = true then some (V.ref a) else none := by rw [hz]; rfl
      have hat2 := Same.sqt (s2.trans si) hat
      refine ⟨rfl, ?_⟩
      refine ⟨_, rfl, a, _, 2, _, rfl, rfl, hat2, rfl, rfl, _, rfl, ?_⟩
      by_cases hw : t.2.2 = ("any" : Str)
      · have hp : pairB rs t = true := by unfold pairB; rw [decide_eq_true hw]; rfl
        refine iteTD (decide_eq_true (congrArg V.str hw)) (iteT ?_)
        exact ⟨_, rfl, hY _ (hb.trans (if_pos hp)) _ (Same.refl _)⟩
      · have hp : pairB rs t = !decide ((t.1, t.2.1) ∈ freeM rs) := by unfold pairB; rw [decide_eq_false hw, Bool.false_or]
        refine iteFD (decide_eq_false fun z => hw (V.str.inj z)) ?_
        refine ⟨_, rfl, _, rfl, slTo_go (m := 2) hat2 fun b H4 s4 hb4 => ?_⟩
        have hD4 : H4 D = some (.lst (ts.map V.ref)) := s4 _ _ (si _ _ hD2)
        refine ⟨_, rfl, b, D, (t.1, t.2.1), ts, freeM rs, rfl, hb4, rfl, SqL.of hD4, paired_mono (fun _ _ z => Same.sqt (si.trans s4) z) hfr2, ⟨(hok t (List.mem_of_getElem? ht)).1, (hok t (List.mem_of_getElem? ht)).2.1⟩, hfo, _, rfl, ?_⟩
        rw [← hp]
        cases hpp : pairB rs t with
        | true => exact iteT ⟨_, rfl, hY _ (hb.trans (if_pos hpp)) _ s4⟩
        | false => exact iteF (hS (hb.trans (if_neg (by simp [hpp]))) _ s4)
    · obtain ⟨cs, c1, c2⟩ := tris_kept (pairB rs) h3
      have hD4 : H3 D2 = some (.lst (cs.map V.ref)) := by rw [hD3, List.length_map, ← lz, out_filter, c2]
      refine ⟨D2, _, rfl, .inl ⟨SqL.of hD4, fun l hl => ?_⟩⟩
      have s4 := Same.new (o := .tup (cs.map V.ref)) hl
      exact q l cs _ ((s2.trans s3).trans s4) (SqT.of upd_same) (TrisIn.same c1 ((s2.trans s3).trans s4))
theorem sum_leL {α : Type} {f : α → Nat} {k : Nat} : ∀ {l : List α}, (∀ x ∈ l, f x ≤ k) → (l.map f).sum ≤ k * l.length
  | [], _ => Nat.le_refl _
  | x :: l, h => by
    have q := sum_leL (l := l) fun y hy => h y (List.mem_cons_of_mem _ hy)
    have r := h x List.mem_cons_self
    rw [List.map_cons, List.sum_cons, List.length_cons, Nat.mul_add]
    omega
theorem join3_len {t : Tri} (h : t.1.length ≤ 100 ∧ t.2.1.length ≤ 100 ∧ t.2.2.length ≤ 3) : (Txt.join " " (tl3 t)).length ≤ 300 := by
  have e : tl (Txt.join " " (tl3 t)) = joinL (tl " ") ((tl3 t).map tl) := by rw [join_eq]; exact tl_join " " (tl3 t)
  rw [len_tl, e]
  show (tl t.1 ++ (tl " " ++ (tl t.2.1 ++ (tl " " ++ tl t.2.2)))).length ≤ _
  rw [List.length_append, List.length_append, List.length_append, List.length_append, ← len_tl, ← len_tl, ← len_tl, ← len_tl, show (" " : Str).length = 1 from by decide +kernel]
  omega
def tJoinL (K : PySem.W.Frag) (to te : TE) : TE := tM1 (fun x xs H Q => ∃ a p, ∃ ys : List Str, x = .str a ∧ xs = [.ref p] ∧ (SqL K H p (ys.map V.str) ∨ SqT K H p (ys.map V.str)) ∧ (ys.map (·.length)).sum + ys.length * a.length ≤ 16777216 ∧ Q (.str (Txt.join a ys)) H) to te
theorem pe_joinL {X : Cx} {o e : Expr} {to te : TE} {apos pos : Pos} (hK : X.K = K) (ho : PE X o to) (he : PE X e te) (hs : starEach [e] X.env = [(false, eval e X.env)] := by rfl) (hbase : attributeBase o "join" X.env (eval o X.env) = eval o X.env := by rfl) (hline : (apos.endLine == pos.line) = true := by rfl) :
    PE X (.Call (.Attribute o "join" apos) [e] [] pos) (tJoinL K to te) := by
  subst hK
  exact pe_join ho he hs hbase hline
def rStrLeaves (Y : TLv F) : List V → Hp → VK → Prop := fun xs H Q => ∃ (x : Addr) (rs : List Tri), xs = [.ref x] ∧ LvAt Y H x rs ∧ rs.length ≤ 100 ∧ ∀ H', Same H H' → Q (.str (leavT rs)) H'
def spLStr (Y : TLv F) : Sp := fun vs H Q _ => rStrLeaves Y vs H Q
theorem scLStr : FnScope ["self", "one"] ["self"] (defScope sLStr) := ⟨rfl, rfl, rfl, by decide +kernel, rfl, by decide +kernel, by decide +kernel⟩
theorem triB_300 {t : Tri} (h : triB t = true) : t.1.length ≤ 100 ∧ t.2.1.length ≤ 100 ∧ t.2.2.length ≤ 3 := by
  unfold triB at h
  rw [Bool.and_eq_true, Bool.and_eq_true, Bool.or_eq_true] at h
  obtain ⟨h1, h2, h3⟩ := h
  refine ⟨Nat.le_trans (name_ok h1).2 (by decide), Nat.le_trans (name_ok h2).2 (by decide), ?_⟩
  rcases h3 with h3 | h3
  · rw [of_decide_eq_true h3]; decide +kernel
  · rw [of_decide_eq_true h3]; decide +kernel
theorem ok_lStr (Z : TLvP Y) : FnOk P w K mg base CX0 3 Z.str.f Z.str.fd ["self"] (spLStr Y) := by
  refine Z.str.F.ok scLStr (fun vs H Q E h => ?_) (fun cdv A outer s H vs Q E hr h => ?_)
  · obtain ⟨x, rs, rfl, _⟩ := h
    rfl
  · obtain ⟨x, rs, rfl, hL, hlen, q⟩ := h
    refine ⟨_, (pss_cons (ps_if (pt_cmpR op_eq (pe_callB call_len_seq (by rfl) R.N.mLen PySem.boot_len (pa_cons (pe_fld (pv 0) rfl) pa_nil)) pe_int (nomark _)) (pss_one (ps_ret pe_str)) pss_nil)
(pss_one (ps_ret (pe_joinL (K := K) rfl pe_str (pe_lc (own := [("one", 1)]) (g := gName 1) (tt := tYes) (by rfl) scLStr.nd (pi_tup (pe_prop (pv 0) Y.cl Z.pairs.P (ok_lPairs Z) (hr.mono (by decide)) Z.pairs.b .nil pass0 rfl))
 (blkOk_by (N := ["self", "one"]) (sc := defScope sLStr) (by decide +kernel)) (fun _ _ _ _ _ => (pg_name (i := 1) scLStr.nd rfl (Or.inl rfl))) (fun _ _ _ _ _ => pts_nil) (fun _ _ _ _ _ => (pe_joinL (K := K) rfl pe_str (pv 1)))))))), ?_⟩
    obtain ⟨dx, p, as, h1, h2, h3, _, h5, h6⟩ := id hL
    have l1 := paired_len h3
    refine ⟨_, rfl, x, Y.C, dx, _, .ref p, rfl, h1, Y.cl, Y.noR, lv_r, p, _, rfl, .inr h2, rfl, _, rfl, ?_⟩
    have e0 : (as.map V.ref).length = rs.length := by rw [List.length_map, l1]
    by_cases hz : rs = []
    · have e1 : leavT rs = "-" := if_pos hz
      refine iteTD (decide_eq_true (by rw [e0, hz]; rfl)) ?_
      rw [e1] at q
      exact q _ (Same.refl _)
    · have hne : rs.length ≠ 0 := fun z => hz (List.length_eq_zero_iff.mp z)
      refine iteFD (decide_eq_false fun z => hne (by injection z with z; rw [e0] at z; exact_mod_cast z)) ?_
      have e1 : leavT rs = Txt.join "; " ((pairsM rs).map fun t => Txt.join " " (tl3 t)) := if_neg hz
      rw [e1] at q
      have hpl : (pairsM rs).length ≤ 100 := Nat.le_trans (List.length_filter_le _ _) hlen
      have hpB : ∀ t ∈ pairsM rs, triB t = true := fun t ht => h5 t (List.mem_filter.mp ht).1
      have t300 : ∀ t ∈ pairsM rs, (Txt.join " " (tl3 t)).length ≤ 300 := fun t ht => join3_len (triB_300 (hpB t ht))
      unfold tNext
      dsimp only
      refine ⟨⟨_, rfl⟩, _, rfl, x, dx, _, rfl, h1, x, rs, rfl, hL, fun p2 cs H2 s2 hp2 hc2 => ⟨p2, rfl, ⟨_, hp2⟩, fun D hD => ?_⟩⟩
      have lc := paired_len hc2
      have hl2 : (cs.map V.ref).length = (pairsM rs).length := by rw [List.length_map, lc]
      refine lc_tup (xs := cs.map V.ref) (fun i Hi => Same H2 Hi ∧ Hi D = some (.lst ((List.range i).filterMap fun i => ((pairsM rs)[i]?).map fun t => V.str (Txt.join " " (tl3 t))))) ⟨Same.new hD, upd_same⟩ (fun _ _ _ hP => Same.sqt hP.1 hp2) (lc_keep (by omega) (fun i v Hi S YY hv si hS hY => ?_) hD) (fun Hi hP => ?_)
      · rw [List.getElem?_map] at hv
        obtain ⟨a, ha, rfl⟩ := Option.map_eq_some_iff.mp hv
        obtain ⟨t, ht, hat⟩ := paired_at hc2 ha
        have hb := triB_300 (hpB t (List.mem_of_getElem? ht))
        refine ⟨rfl, ?_⟩
        unfold tYes
        refine iteT ?_
        refine ⟨⟨_, rfl⟩, _, rfl, " ", a, tl3 t, rfl, rfl, .inr (Same.sqt si hat), ?_, ?_⟩
        · show (t.1.length + (t.2.1.length + (t.2.2.length + 0))) + 3 * (" " : Str).length ≤ _
          have e2 : (" " : Str).length = 1 := by decide +kernel
          rw [e2]
          omega
        · exact hY _ (by show ((pairsM rs)[i]?).map _ = _; rw [ht]; rfl) _ (Same.refl _)
      · obtain ⟨s3, hD3⟩ := hP
        rw [hl2, out_map] at hD3
        refine ⟨"; ", D, (pairsM rs).map fun t => Txt.join " " (tl3 t), rfl, rfl, .inl (SqL.of (by rw [hD3, List.map_map]; rfl)), ?_, q _ (s2.trans s3)⟩
        have e2 : ("; " : Str).length = 2 := by decide +kernel
        have := sum_leL (l := pairsM rs) (f := fun t => (Txt.join " " (tl3 t)).length) (k := 300) t300
        rw [e2, List.length_map, List.map_map]
        show ((pairsM rs).map fun t => (Txt.join " " (tl3 t)).length).sum + _ ≤ _
        omega
end
end Pn

namespace Pn
open PySem PySem.Spec PyProof.Rows L2 TL
/-! ### |, &, != of leaves, str(leaves) as rules -/
section
variable {K : PySem.W.Frag} {mg : Str → Option Value} {R : TRowz K mg} {F : TFilz R}
structure TLvR {Y : TLv F} (Z : TLvE Y) : Type where
  sf : PySem.W.selfFirst K Y.C = true
  nC : PySem.W.notFirst K Y.C (.ref Y.C) = true
  ne : PySem.W.findIn K (.ref Y.C) "__ne__" = some (some (.builtin "object.__ne__"))
def rNeLv (Y : TLv F) : R2 := fun x y H Q => ∃ (a b : Addr) (rs qs : List Tri), x = .ref a ∧ y = .ref b ∧ LvAt Y H a rs ∧ LvAt Y H b qs ∧ Q (.bl (!decide (rs = qs))) H
theorem op_neLv {X : Cx} (hK : X.K = K) (hm : X.mg = mg) {Y : TLv F} {Z : TLvE Y} (RR : TLvR Z) (hr : Room 3 X.A) : OpR X (compareOp .NotEq) (rNeLv Y) := by
  subst hK
  subst hm
  intro pins s σ H x y v u Q I rx ry h
  obtain ⟨a, b, rs, qs, rfl, rfl, ha, hb, q⟩ := h
  obtain ⟨dx, _, _, hx, _⟩ := id ha
  obtain ⟨dy, _, _, hy, _⟩ := id hb
  exact op_neIns (ok_lEq Z) Z.eq.hf hr Z.eq.b pass0 pins s σ H _ _ v u Q I rx ry ⟨a, _, dx, _, rfl, hx, Z.eq.hs, RR.ne, Z.cM, .inr ⟨b, _, dy, _, rfl, hy, RR.nC⟩, a, b, rs, qs, rfl, ha, hb, _, rfl, q⟩
theorem call_strLv {X : Cx} (hK : X.K = K) (hm : X.mg = mg) {Y : TLv F} (ZP : TLvP Y) (hr : Room 5 X.A) : CallR X (.type "str") (rStrLeaves Y) := by
  subst hK
  subst hm
  intro pins s σ H xs us Q I r h
  obtain ⟨a, rs, rfl, ha, hl, q⟩ := h
  obtain ⟨dx, _, _, hx, _⟩ := id ha
  exact call_strIns (ok_lStr ZP) ZP.str.hf hr ZP.str.b pass0 pins s σ H _ us Q I r ⟨a, _, dx, _, rfl, hx, ZP.str.hs, a, rs, rfl, ha, hl, fun H' s' => ⟨_, rfl, q H' s'⟩⟩
end
end Pn

namespace Pn
open PySem PySem.Spec PyProof.Rows L2
/-! ### repr of any data, where no repr is under way -/
section
variable {X : Cx} {pins : List (Addr × Obj)} {σ : L2.St} {H : Hp} {s : Shared}
mutual
theorem dp_reads (I : Inv X pins σ H s) : ∀ (d : PyData) (v : V) (u : Value), Dp X.K H v d → RelV v u → ∃ as, Reads s.heap u d as
  | .none, _, u, h, r => by
    cases h
    cases (show u = Value.none from r)
    exact ⟨_, .none⟩
  | .bool b, _, u, h, r => by
    cases h
    cases (show u = Value.bool b from r)
    exact ⟨_, .bool b⟩
  | .int i, _, u, h, r => by
    cases h
    obtain ⟨t, rfl⟩ := r
    exact ⟨_, .int i t⟩
  | .str x, _, u, h, r => by
    cases h
    obtain ⟨t, rfl⟩ := r
    exact ⟨_, .str x t⟩
  | .list ds, _, u, h, r => by
    cases h with
    | @lst a vs _ sq al =>
      cases (show u = Value.ref a from r)
      obtain ⟨its, rv, ⟨o, n, e, c, dn, dd⟩, _⟩ := I.list sq
      obtain ⟨as, ra⟩ := dpAll_reads I ds _ _ al rv
      exact ⟨_, .list e c dd (by simpa using ra)⟩
  | .tuple ds, _, u, h, r => by
    cases h with
    | @tup a vs _ sq al =>
      cases (show u = Value.ref a from r)
      obtain ⟨its, rv, ⟨o, ho, hcl, n, hd⟩, _⟩ := I.tuple sq
      obtain ⟨as, ra⟩ := dpAll_reads I ds _ _ al rv
      exact ⟨_, .tuple ho hcl hd (by simpa using ra)⟩
  | .dict _, _, _, h, _ => by cases h
theorem dpAll_reads (I : Inv X pins σ H s) : ∀ (ds : List PyData) (vs : List V) (us : List Value), DpAll X.K H vs ds → Vals vs us → ∃ as, ReadsAll s.heap us ds as
  | [], _, us, h, r => by
    cases h
    cases r
    exact ⟨_, .nil⟩
  | d :: ds, _, us, h, r => by
    cases h with
    | cons a b =>
      cases r with
      | cons r1 r2 =>
        obtain ⟨as, x⟩ := dp_reads I d _ _ a r1
        obtain ⟨bs, y⟩ := dpAll_reads I ds _ _ b r2
        exact ⟨_, .cons x y⟩
end
end
section
variable {X : Cx}
/-- data whose repr is told -/
structure Telling (d : PyData) : Prop where
  sh : PyData.showable d = true
  nd : PyData.hasDict d = false
  dp : PyData.depth d ≤ 10
  len : (PyData.shown d).length ≤ sizeLine
@[irreducible] def rReprD (K : PySem.W.Frag) : List V → Hp → VK → Prop := fun xs H Q => ∃ (a : Addr) (d : PyData), xs = [.ref a] ∧ Dp K H (.ref a) d ∧ Telling d ∧ Q (.str (PyData.shown d)) H
theorem call_reprD (hg : X.A.guards = some []) {k : Nat} (hr : Room k X.A) : CallR X (.builtin "repr") (rReprD X.K) := by
  intro pins s σ H xs us Q I r h
  unfold rReprD at h
  obtain ⟨a, d, rfl, hd, T, q⟩ := h
  obtain ⟨u, rfl, ru⟩ := r.one
  cases (show u = Value.ref a from ru)
  obtain ⟨as, rd⟩ := dp_reads I d _ _ hd (show RelV (.ref a) (Value.ref a) from rfl)
  have hu := hr.units
  have dp := T.dp
  refine repr_of_reads' (h₀ := s.heap) (d := d) (as := as) rd T.sh (fun e => by rw [T.nd] at e; cases e) hg (by omega) (fun _ _ e => e) (fun h' u tk hk => ?_) T.len
  exact ⟨.str _, H, I.kept hk, ⟨u, rfl⟩, q⟩
theorem reprD_go {K : PySem.W.Frag} {H : Hp} {a : Addr} {d : PyData} {Q : VK} (hd : Dp K H (.ref a) d) (T : Telling d) (q : Q (.str (PyData.shown d)) H) : rReprD K [.ref a] H Q := by
  unfold rReprD
  exact ⟨a, d, rfl, hd, T, q⟩
end
end Pn

namespace Pn
open PySem PySem.Spec PyProof.Rows L2 TL
theorem stepPar {i j : Nat} {ta : TA} {B : TS} {D : Ends} {σ : L2.St} {H : Hp} (C : V → V → Hp → Prop) (h1 : ∀ Q' : List V → Hp → Prop, (∀ v w H', C v w H' → Q' [v, w] H') → ta σ H Q') (h2 : ∀ v w H', C v w H' → B D ((σ.set i (some v)).set j (some w)) H') : tSeq (tPar i j ta) B D σ H := h1 _ fun v w H' c => ⟨v, w, rfl, h2 v w H' c⟩
theorem rNe_same {v : V} {H : Hp} {Q : VK} (hs : scal v v = true) (q : Q (.bl false) H) : rNe v v H Q := ⟨hs, by rw [decide_eq_true rfl]; exact q⟩
end Pn

namespace Pn
open PySem L2
/-! ### len(x) of an own instance -/
def rLenOwn (C : Addr) (sp : Sp) (E : XK) : List V → Hp → VK → Prop := fun xs H Q => ∃ (a dx : Addr) (fs : List (Str × V)), xs = [V.ref a] ∧ H a = some (.ins C dx fs) ∧ sp [.ref a] H (fun z H' => ∃ n : Nat, z = .int (n : Int) ∧ n < 2 ^ 60 ∧ Q z H') E
theorem call_lenOwn {X : Cx} {CX : CXT} {k : Nat} {f C : Addr} {fd : FuncData} {ps : List Str} {sp : Sp} {E : XK} (F : FnOk X.prog X.w X.K X.mg X.base CX k f fd ps sp) (hs : PySem.W.findIn X.K (.ref C) "__len__" = some (some (.ref f))) (hf : PySem.W.isFn X.K (.ref f) = true)
    (hr : Room (k + 1) X.A) (hb : Binds X.K fd ps []) (hx : Passes CX X E) : CallR X (.builtin "len") (rLenOwn C sp E) := by
  intro pins s σ H xs us Q I r h
  obtain ⟨a, dx, fs, rfl, ha, q⟩ := h
  obtain ⟨u, rfl, ru⟩ := r.one
  cases (show u = Value.ref a from ru)
  obtain ⟨mA, O, _⟩ := ins_get I.hok ha
  obtain ⟨od, J, _⟩ := O.look
  obtain ⟨m, hF⟩ := I.fr
  refine PySem.W.len_K hF I.ok.mod.kin J hs hf (wpAny_mono (run_fnA F (Room.in1 hr) I.env0.in1 hb hx I (.cons (show RelV (.ref a) (Value.ref a) from rfl) .nil) q) (fun w s' z => ?_) fun _ _ x => x)
  obtain ⟨z', H', I', rz, n, ez, hn, qz⟩ := z
  subst ez
  obtain ⟨t, e⟩ := (show ∃ t, w = Value.int (n : Int) t from rz)
  subst e
  refine ⟨⟨Int.natCast_nonneg n, by have : ((2 : Int) ^ 63) = 9223372036854775808 := by decide
                                    rw [this]; have h2 : (2 : Nat) ^ 60 = 1152921504606846976 := by decide
                                    rw [h2] at hn; omega⟩, .int (n : Int), H', I'.kept (t' := s'.toks + 1) (fun _ _ z => z), ⟨_, rfl⟩, qz⟩
end Pn

namespace Pn
open PySem PySem.Spec PyProof.Rows L2 TL
abbrev sValue : Stmt := top 21
/-! ### any values, drawn out of a deal that is a dict -/
def leafW : List V := [.int 0, .int 1, .int (-7), .int 100000000000000000000, .non, .bl true, .bl false, .str "", .str "on", .str "any", .str "x", .str "note", .str "open x", .str "c", .str "x y"]
def leafWD : List PyData := leafW.filterMap pd
theorem leafW_pd : ∀ v ∈ leafW, ∃ d, pd v = some d ∧ d ∈ leafWD := fun v hv => by
  have h : ∀ u ∈ leafW, (pd u).isSome = true := List.all_eq_true.mp (by decide +kernel)
  obtain ⟨d, e⟩ := Option.isSome_iff_exists.mp (h v hv)
  exact ⟨d, e, List.mem_filterMap.mpr ⟨v, hv, e⟩⟩
/-- data nested at most n deep over these -/
def Vt : Nat → PyData → Prop
  | 0, d => d ∈ leafWD
  | n + 1, d => d ∈ leafWD ∨ ∃ ds : List PyData, ds.length ≤ 3 ∧ (∀ e ∈ ds, Vt n e) ∧ (d = .list ds ∨ d = .tuple ds)
theorem Vt.leaf {n : Nat} {d : PyData} (h : d ∈ leafWD) : Vt n d := by
  cases n with
  | zero => exact h
  | succ n => exact .inl h
theorem Vt.up {d : PyData} : ∀ {n m : Nat}, n ≤ m → Vt n d → Vt m d
  | 0, _, _, h => Vt.leaf h
  | n + 1, 0, l, _ => absurd l (by omega)
  | n + 1, m + 1, l, h => by
    rcases h with h | ⟨ds, h1, h2, h3⟩
    · exact .inl h
    · exact .inr ⟨ds, h1, fun e he => Vt.up (Nat.le_of_succ_le_succ l) (h2 e he), h3⟩
theorem mo_of {H H' : Hp} {d g : Addr} (hD : DealAt H' d g) (s : Same (hh H d g) (hh H' d g)) : Mo H H' := fun a z => by
  cases q : H a with
  | none => rfl
  | some u =>
    by_cases n1 : a = d
    · exact absurd (by rw [n1] at z; exact z) hD.there.1
    by_cases n2 : a = g
    · exact absurd (by rw [n2] at z; exact z) hD.there.2
    have := hh_sub _ _ (s _ _ (hh_get q n1 n2))
    rw [z] at this
    cases this
section
variable {P : Program} {w : World} {K : PySem.W.Frag} {mg : Str → Option Value} {base : Heap}
structure TVal (K : PySem.W.Frag) (mg : Str → Option Value) : Type where
  mI : mg "int" = none
  mA : mg "abs" = none
  mL : mg "len" = none
  mR : mg "range" = none
  mTup : mg "tuple" = none
  deal : At K mg "_law_deal" sDeal ["_law_script", "_law_base"]
  draw : At K mg "_law_draw" sDraw ["_law_deal_here", "_law_many"]
  pick : At K mg "_law_pick" sPick ["_law_deal_here", "_law_some"]
  val : At K mg "_law_value" sValue ["_law_deal_here", "_law_deep"]
theorem TVal.okDraw (T : TVal K mg) : FnOk P w K mg base CX0 1 T.draw.f T.draw.fd ["_law_deal_here", "_law_many"] spDraw := ok_draw T.draw.F T.mI T.mL
theorem TVal.okDeal (T : TVal K mg) : FnOk P w K mg base CX0 1 T.deal.f T.deal.fd ["_law_script", "_law_base"] (spDeal K) := ok_deal T.deal.F T.mI T.mA
theorem TVal.okPick (T : TVal K mg) : FnOk P w K mg base CX0 2 T.pick.f T.pick.fd ["_law_deal_here", "_law_some"] (spPick K) := ok_pick T.pick.F T.mL T.draw T.mI
def spValue (K : PySem.W.Frag) (n : Nat) : Sp := fun vs H Q _ => ∃ (d g : Addr) (k : Int), vs = [.ref d, .int k] ∧ 0 ≤ k ∧ k ≤ (n : Int) ∧ DealAt H d g ∧
  ∀ (v : V) (e : PyData) (H' : Hp), DealAt H' d g → Same (hh H d g) (hh H' d g) → Dp K (dif H H') v e → Vt n e → Q v H'
theorem scValue : FnScope ["_law_deal_here", "_law_deep", "_law_form", "_law_some", "_law_k"] ["_law_deal_here", "_law_deep"] (defScope sValue) := ⟨rfl, rfl, rfl, by decide +kernel, rfl, by decide +kernel, by decide +kernel⟩
/-- what a comprehension has made so far, over what stood ahead of it -/
def MadeV (K : PySem.W.Frag) (d g D : Addr) (H0 : Hp) (n i : Nat) (H : Hp) : Prop := Same (hhL H0 d g D) (hhL H d g D) ∧ DealAt H d g ∧
  ∃ (acc : List V) (ds : List PyData), H D = some (.lst acc) ∧ acc.length = i ∧ ds.length = i ∧ DpAll K (dif H0 H) acc ds ∧ ∀ e ∈ ds, Vt n e
theorem madeV_turn {d g D : Addr} {H0 H H1 : Hp} {n i : Nat} {v : V} {e : PyData} {o1 : HO} (hD0 : DealAt H0 d g) (hDD : H0 D = some o1) (n1 : D ≠ d) (n2 : D ≠ g) (h : MadeV K d g D H0 n i H) (hB : DealAt H1 d g) (s : Same (hh H d g) (hh H1 d g)) (hv : Dp K (dif H H1) v e) (he : Vt n e) :
    ∃ acc, H1 D = some (.lst acc) ∧ acc.length = i ∧ MadeV K d g D H0 n (i + 1) (upd H1 D (.lst (acc ++ [v]))) := by
  obtain ⟨s1, hDe, acc, ds, eD, l1, l2, hA, hT⟩ := h
  have eD1 : H1 D = some (.lst acc) := hh_sub _ _ (s _ _ (hh_get eD n1 n2))
  have mo : Mo H0 H := fun a z => by
    by_cases e1 : a = d
    · exact absurd (by rw [e1] at z; exact z) hDe.there.1
    by_cases e2 : a = g
    · exact absurd (by rw [e2] at z; exact z) hDe.there.2
    by_cases e3 : a = D
    · rw [e3, eD] at z
      cases z
    cases q : H0 a with
    | none => rfl
    | some u =>
      have := hhL_sub _ _ (s1 _ _ (hhL_get q e3 e1 e2))
      rw [z] at this
      cases this
  have toN : ∀ {a : Addr} {u : HO}, H0 a = none → H1 a = some u → dif H0 (upd H1 D (.lst (acc ++ [v]))) a = some u := fun {a u} e0 e1 => by
    refine dif_new e0 ?_
    rw [upd_ne (fun y => by rw [y, hDD] at e0; cases e0)]
    exact e1
  refine ⟨acc, eD1, l1, (s1.trans (hhL_same s)).trans hhL_put, hB.upd n1 n2, acc ++ [v], ds ++ [e], upd_same, by rw [List.length_append, l1]; rfl, by rw [List.length_append, l2]; rfl, ?_, ?_⟩
  · refine dpAll_append (dpAll_same (fun a u q => ?_) _ _ hA) (.cons (dp_same (fun a u q => ?_) _ _ hv) .nil)
    · obtain ⟨e0, e1⟩ := dif_eq.mp q
      have m1 : a ≠ d := fun y => hD0.there.1 (by rw [← y]; exact e0)
      have m2 : a ≠ g := fun y => hD0.there.2 (by rw [← y]; exact e0)
      exact toN e0 (hh_sub _ _ (s _ _ (hh_get e1 m1 m2)))
    · obtain ⟨e0, e1⟩ := dif_eq.mp q
      exact toN (mo a e0) e1
  · intro e' he'
    rcases List.mem_append.mp he' with q | q
    · exact hT e' q
    · rw [List.mem_singleton.mp q]
      exact he
theorem pick_leaf {d g : Addr} {n : Nat} {H Ha : Hp} {xs : List V} {Q : VK} (hx : ∀ v ∈ xs, v ∈ leafW) (h0 : 0 < xs.length) (h1 : xs.length ≤ 10) (hD : DealAt Ha d g) (s : Same (hh H d g) (hh Ha d g))
    (q : ∀ (v : V) (e : PyData) (H' : Hp), DealAt H' d g → Same (hh H d g) (hh H' d g) → Dp K (dif H H') v e → Vt n e → Q v H') : xs.length ≤ sizeLine ∧ ∀ l, Ha l = none → spPick K [.ref d, .ref l] (upd Ha l (.lst xs)) Q E0 := by
  have big : (1000 : Nat) ≤ sizeLine := by decide
  refine ⟨by omega, fun l hl => ⟨d, g, l, xs, rfl, hD.new hl, SqL.of (hh_at hD hl), h0, by omega, fun v H' hv hD' s' _ => ?_⟩⟩
  obtain ⟨e, he, hm⟩ := leafW_pd v (hx v hv)
  exact q v e H' hD' ((s.trans (hh_new hl)).trans s') (pd_dp he) (Vt.leaf hm)
theorem TVal.okValue (T : TVal K mg) : ∀ n : Nat, FnOk P w K mg base CX0 (n + 3) T.val.f T.val.fd ["_law_deal_here", "_law_deep"] (spValue K n) := by
  intro n
  induction n with
  | zero =>
    refine T.val.F.ok scValue (fun vs H Q E h => ?_) (fun cdv A outer s H vs Q E hr h => ?_)
    · obtain ⟨d, g, k, rfl, _⟩ := h
      rfl
    · obtain ⟨d, g, k, rfl, k0, k1, hD, q⟩ := h
      obtain rfl : k = 0 := by omega
      refine ⟨_, (pss_cons (ps_set (i := 2) scValue.nd rfl (Or.inl rfl) (pe_call T.okDraw (hr.mono (by omega)) rfl T.draw.m T.draw.F.kp T.draw.b .nil pass0 (pa_cons (pv 0) (pa_cons (pe_ifExp (pt_cmpR op_gt (pv 1) pe_int (nomark _)) pe_int pe_int) pa_nil))))
(pss_cons (ps_if (pt_cmpR op_eq (pv 2) pe_int (nomark _)) (pss_one (ps_ret (pe_call T.okPick (hr.mono (by omega)) rfl T.pick.m T.pick.F.kp T.pick.b .nil pass0 (pa_cons (pv 0) (pa_cons (pe_lst (pa_cons pe_int (pa_cons pe_int (pa_cons (pe_op op_sub pe_int pe_int) (pa_cons (pe_op op_pow pe_int pe_int) pa_nil))))) pa_nil))))) pss_nil)
(pss_cons (ps_if (pt_cmpR op_eq (pv 2) pe_int (nomark _)) (pss_one (ps_ret (pe_call T.okPick (hr.mono (by omega)) rfl T.pick.m T.pick.F.kp T.pick.b .nil pass0 (pa_cons (pv 0) (pa_cons (pe_lst (pa_cons pe_non (pa_cons pe_bl (pa_cons pe_bl pa_nil)))) pa_nil))))) pss_nil)
(pss_cons (ps_if (pt_cmpR op_lt (pv 2) pe_int (nomark _)) (pss_one (ps_ret (pe_call T.okPick (hr.mono (by omega)) rfl T.pick.m T.pick.F.kp T.pick.b .nil pass0 (pa_cons (pv 0) (pa_cons (pe_lst (pa_cons pe_str (pa_cons pe_str (pa_cons pe_str (pa_cons pe_str (pa_cons pe_str (pa_cons pe_str (pa_cons pe_str (pa_cons pe_str pa_nil))))))))) pa_nil))))) pss_nil)
pss_never)))), ?_⟩
      refine ⟨_, rfl, _, rfl, _, _, rfl, rfl, _, rfl, iteF ?_⟩
      refine ⟨d, g, 4, rfl, hD, by decide, by decide, fun r H1 r0 r1 hD1 s1 m1 => ?_⟩
      try dsimp only [List.set]
      refine ⟨_, rfl, rfl, _, rfl, ?_⟩
      by_cases c0 : r = 0
      · refine iteTD (decide_eq_true (by rw [c0])) ?_
        refine ⟨_, rfl, _, _, rfl, rfl, _, _, rfl, rfl, ⟨by decide, by decide, by decide⟩, ?_⟩
        exact pick_leaf (n := 0) (xs := [.int 0, .int 1, .int (-7), .int 100000000000000000000]) (by decide) (by decide) (by decide) hD1 s1 q
      refine iteFD (decide_eq_false fun z => c0 (V.int.inj z)) ?_
      refine ⟨_, rfl, rfl, _, rfl, ?_⟩
      by_cases c1 : r = 1
      · refine iteTD (decide_eq_true (by rw [c1])) ?_
        refine ⟨_, rfl, ?_⟩
        exact pick_leaf (n := 0) (xs := [.non, .bl true, .bl false]) (by decide) (by decide) (by decide) hD1 s1 q
      refine iteFD (decide_eq_false fun z => c1 (V.int.inj z)) ?_
      refine ⟨_, rfl, _, _, rfl, rfl, _, rfl, ?_⟩
      refine iteTD (decide_eq_true (by omega)) ?_
      refine ⟨_, rfl, ?_⟩
      exact pick_leaf (n := 0) (xs := [.str "", .str "on", .str "any", .str "x", .str "note", .str "open x", .str "c", .str "x y"]) (by decide) (by decide) (by decide) hD1 s1 q
  | succ n ih =>
    refine T.val.F.ok scValue (fun vs H Q E h => ?_) (fun cdv A outer s H vs Q E hr h => ?_)
    · obtain ⟨d, g, k, rfl, _⟩ := h
      rfl
    · obtain ⟨d, g, k, rfl, k0, k1, hD, q⟩ := h
      refine ⟨_, (pss_cons (ps_set (i := 2) scValue.nd rfl (Or.inl rfl) (pe_call T.okDraw (hr.mono (by omega)) rfl T.draw.m T.draw.F.kp T.draw.b .nil pass0 (pa_cons (pv 0) (pa_cons (pe_ifExp (pt_cmpR op_gt (pv 1) pe_int (nomark _)) pe_int pe_int) pa_nil))))
(pss_cons (ps_if (pt_cmpR op_eq (pv 2) pe_int (nomark _)) (pss_one (ps_ret (pe_call T.okPick (hr.mono (by omega)) rfl T.pick.m T.pick.F.kp T.pick.b .nil pass0 (pa_cons (pv 0) (pa_cons (pe_lst (pa_cons pe_int (pa_cons pe_int (pa_cons (pe_op op_sub pe_int pe_int) (pa_cons (pe_op op_pow pe_int pe_int) pa_nil))))) pa_nil))))) pss_nil)
(pss_cons (ps_if (pt_cmpR op_eq (pv 2) pe_int (nomark _)) (pss_one (ps_ret (pe_call T.okPick (hr.mono (by omega)) rfl T.pick.m T.pick.F.kp T.pick.b .nil pass0 (pa_cons (pv 0) (pa_cons (pe_lst (pa_cons pe_non (pa_cons pe_bl (pa_cons pe_bl pa_nil)))) pa_nil))))) pss_nil)
(pss_cons (ps_if (pt_cmpR op_lt (pv 2) pe_int (nomark _)) (pss_one (ps_ret (pe_call T.okPick (hr.mono (by omega)) rfl T.pick.m T.pick.F.kp T.pick.b .nil pass0 (pa_cons (pv 0) (pa_cons (pe_lst (pa_cons pe_str (pa_cons pe_str (pa_cons pe_str (pa_cons pe_str (pa_cons pe_str (pa_cons pe_str (pa_cons pe_str (pa_cons pe_str pa_nil))))))))) pa_nil))))) pss_nil)
(pss_cons (ps_setLc (i := 3) (own := [("_law_k", 4)]) (g := gName 4) (tt := tYes) (by rfl) scValue.nd rfl rfl (sw_true rfl rfl rfl (by decide +kernel)) (pi_range1 (by rfl) T.mR (pa_cons (pe_call T.okDraw (hr.mono (by omega)) rfl T.draw.m T.draw.F.kp T.draw.b .nil pass0 (pa_cons (pv 0) (pa_cons pe_int pa_nil))) pa_nil))
 (blkOk_by (N := ["_law_deal_here", "_law_deep", "_law_form", "_law_some", "_law_k"]) (sc := defScope sValue) (by decide +kernel)) (fun _ _ _ _ _ => (pg_name (i := 4) scValue.nd rfl (Or.inl rfl))) (fun _ _ _ _ _ => pts_nil) (fun _ _ _ _ _ => (pe_call ih hr rfl T.val.m T.val.F.kp T.val.b .nil pass0 (pa_cons (pv 0) (pa_cons (pe_op op_sub (pv 1) pe_int) pa_nil)))))
(pss_one (ps_ret (pe_ifExp (pt_cmpR op_eq (pv 2) pe_int (nomark _)) (pv 3) (pe_callTy (show CallR _ (.type "tuple") (rTupO K) from call_tupO) (by rfl) T.mTup (by decide +kernel) (pa_cons (pv 3) pa_nil)))))))))), ?_⟩
      refine ⟨_, rfl, _, rfl, _, _, rfl, rfl, _, rfl, ?_⟩
      refine ite2 (fun hc => ?_) (fun hc => ?_)
      · have hk : 0 < k := of_decide_eq_true hc
        refine ⟨d, g, 7, rfl, hD, by decide, by decide, fun r H1 r0 r1 hD1 s1 m1 => ?_⟩
        try dsimp only [List.set]
        refine ⟨_, rfl, rfl, _, rfl, ?_⟩
        by_cases c0 : r = 0
        · refine iteTD (decide_eq_true (by rw [c0])) ?_
          refine ⟨_, rfl, _, _, rfl, rfl, _, _, rfl, rfl, ⟨by decide, by decide, by decide⟩, ?_⟩
          exact pick_leaf (n := (n + 1)) (xs := [.int 0, .int 1, .int (-7), .int 100000000000000000000]) (by decide) (by decide) (by decide) hD1 s1 q
        refine iteFD (decide_eq_false fun z => c0 (V.int.inj z)) ?_
        refine ⟨_, rfl, rfl, _, rfl, ?_⟩
        by_cases c1 : r = 1
        · refine iteTD (decide_eq_true (by rw [c1])) ?_
          refine ⟨_, rfl, ?_⟩
          exact pick_leaf (n := (n + 1)) (xs := [.non, .bl true, .bl false]) (by decide) (by decide) (by decide) hD1 s1 q
        refine iteFD (decide_eq_false fun z => c1 (V.int.inj z)) ?_
        refine ⟨_, rfl, _, _, rfl, rfl, _, rfl, ?_⟩
        by_cases c4 : r < 4
        · refine iteTD (decide_eq_true c4) ?_
          refine ⟨_, rfl, ?_⟩
          exact pick_leaf (n := (n + 1)) (xs := [.str "", .str "on", .str "any", .str "x", .str "note", .str "open x", .str "c", .str "x y"]) (by decide) (by decide) (by decide) hD1 s1 q
        refine iteFD (decide_eq_false c4) ?_
        refine ⟨_, rfl, d, g, 4, rfl, hD1, by decide, by decide, fun m H2 m0 m1 hD2 s2 mm2 => ?_⟩
        have s12 := s1.trans s2
        refine ⟨_, rfl, by omega, by omega, fun D hD0 => lc_range (lo := 0) (n := m.toNat) (fun i Hi => MadeV K d g D (upd H2 D (.lst [])) n i Hi) ?_ (fun i Hi hi hM => ?_) (fun Hi hM => ?_)⟩
        · exact ⟨Same.refl _, hD2.new hD0, [], [], upd_same, rfl, rfl, .nil, fun _ z => absurd z List.not_mem_nil⟩
        · have nD := hD2.nd hD0
          refine ⟨rfl, _, rfl, _, rfl, _, _, rfl, rfl, d, g, k - 1, rfl, by omega, by omega, hM.2.1, fun v e H' hD' s' hv he => ?_⟩
          obtain ⟨acc, e1, e2, e3⟩ := madeV_turn (hD2.new hD0) upd_same nD.1 nD.2 hM hD' s' hv he
          exact ⟨acc, e1, small1000 (by omega), e3⟩
        · have nD := hD2.nd hD0
          obtain ⟨sm, hDi, acc, ds, e, l1, l2, hA, hT⟩ := hM
          have sH : Same (hh H d g) (hh Hi d g) := ((s12.trans (hhL_first hD0)).trans sm).trans hhL_hh
          have mo : Mo H H2 := mo_of hD2 s12
          have hA2 : DpAll K (dif H Hi) acc ds := dpAll_same (dif_mo (mo.trans Mo.upd)) _ _ hA
          have hDH : H D = none := mo D hD0
          refine ⟨_, rfl, rfl, _, rfl, ?_⟩
          by_cases c5 : r = 4
          · refine iteTD (decide_eq_true (by rw [c5])) ?_
            exact ⟨_, rfl, q _ (.list ds) _ hDi sH (.lst (SqL.of (dif_new hDH e)) hA2) (.inr ⟨ds, by omega, hT, .inl rfl⟩)⟩
          · refine iteFD (decide_eq_false fun z => c5 (V.int.inj z)) ?_
            refine ⟨_, rfl, D, acc, rfl, .inl ⟨SqL.of e, fun t ht => ?_⟩⟩
            have hto : H t = none := mo_of hDi sH t ht
            have hA3 : DpAll K (dif H (upd Hi t (.tup acc))) acc ds := dpAll_same (fun a u z => dif_new (dif_eq.mp z).1 (Same.new ht a u (dif_eq.mp z).2)) _ _ hA2
            exact q _ (.tuple ds) _ (hDi.new ht) (sH.trans (hh_new ht)) (.tup (SqT.of (dif_new hto upd_same)) hA3) (.inr ⟨ds, by omega, hT, .inr rfl⟩)
      · refine ⟨d, g, 4, rfl, hD, by decide, by decide, fun r H1 r0 r1 hD1 s1 m1 => ?_⟩
        try dsimp only [List.set]
        refine ⟨_, rfl, rfl, _, rfl, ?_⟩
        by_cases c0 : r = 0
        · refine iteTD (decide_eq_true (by rw [c0])) ?_
          refine ⟨_, rfl, _, _, rfl, rfl, _, _, rfl, rfl, ⟨by decide, by decide, by decide⟩, ?_⟩
          exact pick_leaf (n := (n + 1)) (xs := [.int 0, .int 1, .int (-7), .int 100000000000000000000]) (by decide) (by decide) (by decide) hD1 s1 q
        refine iteFD (decide_eq_false fun z => c0 (V.int.inj z)) ?_
        refine ⟨_, rfl, rfl, _, rfl, ?_⟩
        by_cases c1 : r = 1
        · refine iteTD (decide_eq_true (by rw [c1])) ?_
          refine ⟨_, rfl, ?_⟩
          exact pick_leaf (n := (n + 1)) (xs := [.non, .bl true, .bl false]) (by decide) (by decide) (by decide) hD1 s1 q
        refine iteFD (decide_eq_false fun z => c1 (V.int.inj z)) ?_
        refine ⟨_, rfl, _, _, rfl, rfl, _, rfl, ?_⟩
        refine iteTD (decide_eq_true (by omega)) ?_
        refine ⟨_, rfl, ?_⟩
        exact pick_leaf (n := (n + 1)) (xs := [.str "", .str "on", .str "any", .str "x", .str "note", .str "open x", .str "c", .str "x y"]) (by decide) (by decide) (by decide) hD1 s1 q
end
end Pn

namespace Pn
open PySem PySem.Spec PyProof.Rows L2 TL
abbrev sItems : Stmt := top 22
abbrev sTable : Stmt := top 23
abbrev sTrips : Stmt := top 24
/-! ### drawn triples, their table -/
def poolN : List Str := ["x", "y", "zzzz", "on", "c"]
def poolC : List Str := ["c", "f", "any", "x", "abcd"]
def goodK (k : KP) : Prop := k.1 ∈ poolN ∧ k.2 ∈ poolC
def keyOf (t : Tri) : KP := (t.1, t.2.1)
def goodW (t : Tri) : Prop := t.2.2 = "on" ∨ t.2.2 = "any"
def goodT (t : Tri) : Prop := goodK (keyOf t) ∧ goodW t
theorem pool_names : (∀ n ∈ poolN, nameS n = true) ∧ ∀ c ∈ poolC, nameS c = true := by decide +kernel
theorem goodT_B {t : Tri} (h : goodT t) : triB t = true := by
  obtain ⟨⟨h1, h2⟩, h3⟩ := h
  have h1 := pool_names.1 _ h1
  have h2 := pool_names.2 _ h2
  obtain ⟨a, b, c⟩ := t
  have h1 : nameS a = true := h1
  have h2 : nameS b = true := h2
  have h3 : c = "on" ∨ c = "any" := h3
  show (nameS a && (nameS b && (decide (c = "on") || decide (c = "any")))) = true
  rw [h1, h2]
  rcases h3 with rfl | rfl <;> decide +kernel
def triK (k : KP) (w : Str) : Tri := (k.1, k.2, w)
theorem triK_of (t : Tri) : triK (keyOf t) t.2.2 = t := rfl
theorem triK_inj {k j : KP} {v w : Str} (h : triK k v = triK j w) : k = j ∧ v = w := by
  obtain ⟨k1, k2⟩ := k
  obtain ⟨j1, j2⟩ := j
  injection h with h1 h
  injection h with h2 h3
  have h1 : k1 = j1 := h1
  have h2 : k2 = j2 := h2
  exact ⟨by rw [h1, h2], h3⟩
/-- the word of a pair -/
def wordM (ts : List Tri) (k : KP) : Str := if triK k "any" ∈ ts then "any" else if triK k "on" ∈ ts then "on" else ""
theorem wds : ("any" : Str) ≠ "" ∧ ("on" : Str) ≠ "" ∧ ("any" : Str) ≠ "on" := by decide +kernel
theorem word_cases (ts : List Tri) (k : KP) : wordM ts k = "any" ∨ wordM ts k = "on" ∨ wordM ts k = "" := by
  unfold wordM
  by_cases h : triK k "any" ∈ ts
  · exact .inl (if_pos h)
  · rw [if_neg h]
    by_cases h2 : triK k "on" ∈ ts
    · exact .inr (.inl (if_pos h2))
    · exact .inr (.inr (if_neg h2))
theorem word_any {ts : List Tri} {k : KP} : wordM ts k = "any" ↔ triK k "any" ∈ ts := by
  unfold wordM
  by_cases h : triK k "any" ∈ ts
  · rw [if_pos h]
    exact ⟨fun _ => h, fun _ => rfl⟩
  · rw [if_neg h]
    refine ⟨fun z => ?_, fun z => absurd z h⟩
    by_cases h2 : triK k "on" ∈ ts
    · rw [if_pos h2] at z
      exact absurd z.symm wds.2.2
    · rw [if_neg h2] at z
      exact absurd z.symm wds.1
theorem word_some {ts : List Tri} {k : KP} : wordM ts k ≠ "" ↔ triK k "any" ∈ ts ∨ triK k "on" ∈ ts := by
  unfold wordM
  by_cases h : triK k "any" ∈ ts
  · rw [if_pos h]
    exact ⟨fun _ => .inl h, fun _ => wds.1⟩
  · rw [if_neg h]
    by_cases h2 : triK k "on" ∈ ts
    · rw [if_pos h2]
      exact ⟨fun _ => .inr h2, fun _ => wds.2.1⟩
    · rw [if_neg h2]
      exact ⟨fun z => absurd rfl z, fun z => absurd z (by rintro (z | z); exact h z; exact h2 z)⟩
/-- what a triple more makes of a pair's word -/
def moreW (f : KP → Str) (t : Tri) : Str := if f (keyOf t) = "any" ∨ t.2.2 = "any" then "any" else "on"
theorem moreW_ne {f : KP → Str} {t : Tri} : moreW f t ≠ "" := by
  unfold moreW
  split
  · exact wds.1
  · exact wds.2.1
/-- one triple more -/
theorem word_snoc {ts : List Tri} {t : Tri} (h : goodW t) : wordM (ts ++ [t]) = fun k => if k = keyOf t then moreW (wordM ts) t else wordM ts k := by
  funext k
  by_cases hk : k = keyOf t
  · subst hk
    rw [if_pos rfl]
    unfold moreW
    have et : ∀ v : Str, triK (keyOf t) v ∈ ts ++ [t] ↔ triK (keyOf t) v ∈ ts ∨ v = t.2.2 := fun v => by
      rw [List.mem_append, List.mem_singleton]
      refine or_congr Iff.rfl ⟨fun z => ?_, fun z => by rw [z]; exact triK_of t⟩
      rw [← triK_of t] at z
      exact (triK_inj z).2
    by_cases hc : wordM ts (keyOf t) = "any" ∨ t.2.2 = "any"
    · rw [if_pos hc]
      refine word_any.mpr ((et _).mpr ?_)
      rcases hc with hc | hc
      · exact .inl (word_any.mp hc)
      · exact .inr hc.symm
    · rw [if_neg hc]
      have hon : t.2.2 = "on" := h.resolve_right fun z => hc (.inr z)
      have n1 : ¬ wordM (ts ++ [t]) (keyOf t) = "any" := fun z => by
        rcases (et _).mp (word_any.mp z) with z | z
        · exact hc (.inl (word_any.mpr z))
        · exact hc (.inr z.symm)
      have n2 : wordM (ts ++ [t]) (keyOf t) ≠ "" := word_some.mpr (.inr ((et _).mpr (.inr hon.symm)))
      rcases word_cases (ts ++ [t]) (keyOf t) with z | z | z
      · exact absurd z n1
      · exact z
      · exact absurd z n2
  · rw [if_neg hk]
    have e : ∀ v : Str, triK k v ∈ ts ++ [t] ↔ triK k v ∈ ts := fun v => by
      rw [List.mem_append, List.mem_singleton]
      refine ⟨fun z => z.resolve_right fun z => hk ?_, .inl⟩
      rw [← triK_of t] at z
      exact (triK_inj z).1
    unfold wordM
    simp only [e]
structure TDealP (K : PySem.W.Frag) (mg : Str → Option Value) : Type where
  mI : mg "int" = none
  mA : mg "abs" = none
  mL : mg "len" = none
  mR : mg "range" = none
  deal : At K mg "_law_deal" sDeal ["_law_script", "_law_base"]
  draw : At K mg "_law_draw" sDraw ["_law_deal_here", "_law_many"]
  pick : At K mg "_law_pick" sPick ["_law_deal_here", "_law_some"]
structure TItm (K : PySem.W.Frag) (mg : Str → Option Value) : Type extends TDealP K mg where
  items : At K mg "_law_items" sItems ["_law_deal_here", "_law_many"]
structure TTab (K : PySem.W.Frag) (mg : Str → Option Value) : Type extends TItm K mg where
  mStr : mg "str" = none
  mSorted : mg "sorted" = none
  mTup : mg "tuple" = none
  table : At K mg "_law_table" sTable ["_law_items_here"]
  trips : At K mg "_law_triples" sTrips ["_law_table_here"]
section
variable {P : Program} {w : World} {K : PySem.W.Frag} {mg : Str → Option Value} {base : Heap}
theorem TDealP.okDraw (T : TDealP K mg) : FnOk P w K mg base CX0 1 T.draw.f T.draw.fd ["_law_deal_here", "_law_many"] spDraw := ok_draw T.draw.F T.mI T.mL
theorem TDealP.okDeal (T : TDealP K mg) : FnOk P w K mg base CX0 1 T.deal.f T.deal.fd ["_law_script", "_law_base"] (spDeal K) := ok_deal T.deal.F T.mI T.mA
theorem TDealP.okPick (T : TDealP K mg) : FnOk P w K mg base CX0 2 T.pick.f T.pick.fd ["_law_deal_here", "_law_some"] (spPick K) := ok_pick T.pick.F T.mL T.draw T.mI
theorem DealAt.ndL {H : Hp} {d g p : Addr} (h : DealAt H d g) {ss : List Str} (e : H p = some (.lst (ss.map V.str))) (h0 : 0 < ss.length) : p ≠ d ∧ p ≠ g := by
  obtain ⟨_, xs, n, m, t, e1, e2, _⟩ := h
  refine ⟨fun z => ?_, fun z => ?_⟩
  · rw [z, e1] at e
    cases e
  · rw [z, e2] at e
    cases ss with
    | nil => simp at h0
    | cons a l => cases xs <;> cases e
def spItems (K : PySem.W.Frag) : Sp := fun vs H Q _ => ∃ (d g : Addr) (m : Nat), vs = [.ref d, .int (m : Int)] ∧ DealAt H d g ∧ m ≤ 30 ∧
  ∀ (l : Addr) (as : List Addr) (ts : List Tri) (H' : Hp), DealAt H' d g → Same (hh H d g) (hh H' d g) → Mo H H' → hh H' d g l = some (.lst (as.map V.ref)) → TrisIn K (hh H' d g) as ts → ts.length ≤ m → (∀ t ∈ ts, goodT t) → Q (.ref l) H'
theorem scItems : FnScope ["_law_deal_here", "_law_many", "_law_found", "_law_turn", "_law_names", "_law_counters"] ["_law_deal_here", "_law_many"] (defScope sItems) := ⟨rfl, rfl, rfl, by decide +kernel, rfl, by decide +kernel, by decide +kernel⟩
theorem TItm.okItems (T : TItm K mg) : FnOk P w K mg base CX0 3 T.items.f T.items.fd ["_law_deal_here", "_law_many"] (spItems K) := by
  refine T.items.F.ok scItems (fun vs H Q E h => ?_) (fun cdv A outer s H vs Q E hr h => ?_)
  · obtain ⟨d, g, m, rfl, _⟩ := h
    rfl
  · obtain ⟨d, g, m, rfl, hD, hm, q⟩ := h
    refine ⟨_, (pss_cons (ps_par (i := 4) (j := 5) (by rfl) scItems.nd rfl rfl (by decide) rfl rfl (pa_cons (pe_lst (pa_cons pe_str (pa_cons pe_str (pa_cons pe_str (pa_cons pe_str (pa_cons pe_str pa_nil)))))) (pa_cons (pe_lst (pa_cons pe_str (pa_cons pe_str (pa_cons pe_str (pa_cons pe_str (pa_cons pe_str pa_nil)))))) pa_nil)) (by rfl))
(pss_cons (ps_set (i := 2) scItems.nd rfl (Or.inl rfl) (pe_lst pa_nil))
(pss_cons (ps_for PassesOwn.never rfl (pi_range1 (by rfl) T.mR (pa_cons (pe_call T.okDraw (hr.mono (by decide)) rfl T.draw.m T.draw.F.kp T.draw.b .nil pass0 (pa_cons (pv 0) (pa_cons (pe_op op_add (pv 1) pe_int) pa_nil))) pa_nil)) (pg_name (i := 3) scItems.nd rfl (Or.inl rfl))
(pss_one (ps_expr (pe_bm PySem.F.plainAttrs_list PySem.F.slot_list_append PySem.F.type_list_append mt_append (pv 2) (pa_cons (pe_tup (pa_cons (pe_call T.okPick (hr.mono (by decide)) rfl T.pick.m T.pick.F.kp T.pick.b .nil pass0 (pa_cons (pv 0) (pa_cons (pv 4) pa_nil))) (pa_cons (pe_call T.okPick (hr.mono (by decide)) rfl T.pick.m T.pick.F.kp T.pick.b .nil pass0 (pa_cons (pv 0) (pa_cons (pv 5) pa_nil))) (pa_cons (pe_call T.okPick (hr.mono (by decide)) rfl T.pick.m T.pick.F.kp T.pick.b .nil pass0 (pa_cons (pv 0) (pa_cons (pe_lst (pa_cons pe_str (pa_cons pe_str (pa_cons pe_str pa_nil)))) pa_nil))) pa_nil)))) pa_nil)))))
(pss_one (ps_ret (pv 2)))))), ?_⟩
    have five : 5 ≤ sizeLine := by decide
    have three : 3 ≤ sizeLine := by decide
    have big : (1000 : Nat) ≤ sizeLine := by decide
    refine stepPar (fun v v2 H' => ∃ A B, v = .ref A ∧ v2 = .ref B ∧ DealAt H' d g ∧ Same (hh H d g) (hh H' d g) ∧ Mo H H' ∧ H' A = some (.lst (poolN.map V.str)) ∧ H' B = some (.lst (poolC.map V.str))) (fun Q' hQ => ?p1) (fun v v2 H1 hC => ?p2)
    case p1 =>
      refine ⟨five, fun A hA => ⟨five, fun B hB => hQ _ _ _ ⟨A, B, rfl, rfl, (hD.new hA).new hB, (hh_new hA).trans (hh_new hB), Mo.upd.trans Mo.upd, Same.new hB _ _ upd_same, upd_same⟩⟩⟩
    case p2 =>
    obtain ⟨A, B, rfl, rfl, hD1, s1, m1, eA, eB⟩ := hC
    try dsimp only [List.set]
    refine ⟨Nat.zero_le _, fun L hL => ?_⟩
    have nL := hD1.nd hL
    have nAL := ne_of_none eA hL
    have nBL := ne_of_none eB hL
    have nA := hD1.ndL eA (by decide)
    have nB := hD1.ndL eB (by decide)
    have hD3 := hD1.new (o := .lst []) hL
    have s3 : Same (hh H d g) (hhL (upd H1 L (.lst [])) d g L) := s1.trans (hhL_first hL)
    have e3 : upd H1 L (.lst []) L = some (.lst []) := upd_same
    have m3 : Mo H (upd H1 L (.lst [])) := m1.trans Mo.upd
    have eA3 : hhL (upd H1 L (.lst [])) d g L A = some (.lst (poolN.map V.str)) := hhL_get (Same.new hL _ _ eA) nAL nA.1 nA.2
    have eB3 : hhL (upd H1 L (.lst [])) d g L B = some (.lst (poolC.map V.str)) := hhL_get (Same.new hL _ _ eB) nBL nB.1 nB.2
    generalize upd H1 L (.lst []) = H3 at hD3 s3 e3 m3 eA3 eB3 ⊢
    try dsimp only [List.set]
    refine ⟨_, rfl, _, rfl, _, _, rfl, rfl, d, g, (m : Int) + 1, rfl, hD3, by omega, by omega, fun r H4 r0 r1 hD4 s4 m4 => ?_⟩
    obtain ⟨n, rfl⟩ : ∃ n : Nat, r = (n : Int) := ⟨r.toNat, by omega⟩
    have hn : n ≤ m := by omega
    have e4 : H4 L = some (.lst []) := hh_sub _ _ (s4 _ _ (hh_get e3 nL.1 nL.2))
    refine ⟨(n : Int), rfl, by omega, by omega, for_range (lo := 0) (n := (n : Int).toNat) (fun i σ Hx => ∃ (y3 : Option V) (as : List Addr) (ts : List Tri), σ = [some (.ref d), some (.int (m : Int)), some (.ref L), y3, some (.ref A), some (.ref B)] ∧ DealAt Hx d g ∧ Mo H Hx ∧ Same (hhL H3 d g L) (hhL Hx d g L) ∧ Hx L = some (.lst (as.map V.ref)) ∧ TrisIn K (hhL Hx d g L) as ts ∧ ts.length = i ∧ ∀ t ∈ ts, goodT t)
      ⟨_, [], [], rfl, hD4, m3.trans m4, hhL_same s4, e4, .nil, rfl, (fun t ht => nomatch ht)⟩ (fun i σ Hx hi hP => ?turn) (fun σ Hx hP => ?fin)⟩
    case fin =>
      obtain ⟨y3, as, ts, rfl, hDx, mx, sx, eL, hT, hl, hg⟩ := hP
      exact ⟨_, rfl, q L as ts Hx hDx ((s3.trans sx).trans hhL_hh) mx (hh_get eL nL.1 nL.2) (hT.same hhL_hh) (by omega) hg⟩
    case turn =>
      obtain ⟨y3, as, ts, rfl, hDx, mx, sx, eL, hT, hl, hg⟩ := hP
      have hal := paired_len hT
      try dsimp only [List.set]
      have eAx := hhL_hh _ _ (sx _ _ eA3)
      refine ⟨_, rfl, .inl ⟨rfl, _, SqL.of eL⟩, ?_⟩
      refine ⟨_, rfl, _, rfl, d, g, A, _, rfl, hDx, SqL.of eAx, by decide, by decide, fun v1 Ha hv1 hDa sa ma => ?_⟩
      have sxa := sx.trans (hhL_same sa)
      have eBa := hhL_hh _ _ (sxa _ _ eB3)
      refine ⟨_, rfl, _, rfl, d, g, B, _, rfl, hDa, SqL.of eBa, by decide, by decide, fun v2 Hb hv2 hDb sb mb => ?_⟩
      refine ⟨_, rfl, three, fun W hW => ?_⟩
      have hDw := hDb.new (o := .lst [.str "on", .str "on", .str "any"]) hW
      refine ⟨d, g, W, [.str "on", .str "on", .str "any"], rfl, hDw, SqL.of (hh_at hDb hW), by decide, by decide, fun v3 Hc hv3 hDc sc mc => ?_⟩
      obtain ⟨z1, hz1, rfl⟩ := List.mem_map.mp hv1
      obtain ⟨z2, hz2, rfl⟩ := List.mem_map.mp hv2
      obtain ⟨z3, hz3, rfl⟩ : ∃ z : Str, (z = "on" ∨ z = "any") ∧ v3 = .str z := by
        simp only [List.mem_cons, List.not_mem_nil, or_false] at hv3
        rcases hv3 with rfl | rfl | rfl
        · exact ⟨_, .inl rfl, rfl⟩
        · exact ⟨_, .inl rfl, rfl⟩
        · exact ⟨_, .inr rfl, rfl⟩
      refine ⟨three, fun t ht => ?_⟩
      have sab : Same (hh Hx d g) (hh Hc d g) := ((sa.trans sb).trans (hh_new hW)).trans sc
      have eLc : Hc L = some (.lst (as.map V.ref)) := hh_sub _ _ (sab _ _ (hh_get eL nL.1 nL.2))
      have ntL : t ≠ L := fun e => by rw [e, eLc] at ht; cases ht
      refine ⟨L, _, _, rfl, rfl, by rw [upd_ne ntL.symm]; exact eLc, by rw [List.length_map]; omega, ?_⟩
      have s5 : Same (hhL Hx d g L) (hhL (upd (upd Hc t (.tup [.str z1, .str z2, .str z3])) L (.lst (as.map V.ref ++ [V.ref t]))) d g L) := ((hhL_same sab).trans (hhL_same (hh_new ht))).trans hhL_put
      refine ⟨_, as ++ [t], ts ++ [(z1, z2, z3)], rfl, (hDc.new ht).upd nL.1 nL.2, ((((mx.trans ma).trans mb).trans Mo.upd).trans mc).trans (Mo.upd.trans Mo.upd), sx.trans s5, by rw [upd_same, List.map_append]; rfl, ?_, by rw [List.length_append, hl]; rfl, fun u hu => ?_⟩
      · refine paired_snoc ?_ (hT.same s5)
        exact SqT.of (hhL_get (by rw [upd_ne ntL]; exact upd_same) ntL (hDc.nd ht).1 (hDc.nd ht).2)
      · rcases List.mem_append.mp hu with hu | hu
        · exact hg u hu
        · rw [List.mem_singleton.mp hu]
          exact ⟨⟨hz1, hz2⟩, hz3⟩
/-- the table of drawn triples -/
def spTable (K : PySem.W.Frag) : Sp := fun vs H Q _ => ∃ (l : Addr) (as : List Addr) (ts : List Tri), vs = [.ref l] ∧ SqL K H l (as.map V.ref) ∧ TrisIn K H as ts ∧ ts.length ≤ 100 ∧ (∀ t ∈ ts, goodT t) ∧
  ∀ (a : Addr) (T : Tab) (H' : Hp), Same H H' → TabAt H' a T → Rep T (wordM ts) → (∀ e ∈ T, goodK e.1) → Q (.ref a) H'
theorem scTable : FnScope ["_law_items_here", "_law_found", "_law_name", "_law_counter", "_law_word"] ["_law_items_here"] (defScope sTable) := ⟨rfl, rfl, rfl, by decide +kernel, rfl, by decide +kernel, by decide +kernel⟩
theorem TTab.okTable (T : TTab K mg) : FnOk P w K mg base CX0 1 T.table.f T.table.fd ["_law_items_here"] (spTable K) := by
  refine T.table.F.ok scTable (fun vs H Q E h => ?_) (fun cdv A outer s H vs Q E hr h => ?_)
  · obtain ⟨l, as, ts, rfl, _⟩ := h
    rfl
  · obtain ⟨l, as, ts, rfl, hl, hT, hlen, hg, q⟩ := h
    refine ⟨_, (pss_cons (ps_set (i := 1) scTable.nd rfl (Or.inl rfl) pe_dnewT)
(pss_cons (ps_for PassesOwn.never rfl (pi_list (pv 0)) (pg_tup (by rfl) (pgs_cons (pg_name (i := 2) scTable.nd rfl (Or.inl rfl)) (pgs_cons (pg_name (i := 3) scTable.nd rfl (Or.inl rfl)) (pgs_cons (pg_name (i := 4) scTable.nd rfl (Or.inl rfl)) pgs_nil))))
(pss_one (ps_dput (roomDl hr) (pv 1) (pe_tup (pa_cons (pv 2) (pa_cons (pv 3) pa_nil))) (pe_ifExp (PW.pt (pw_or (pt_cmpR op_eq (pe_dget2 (roomDl hr) (pv 1) (pe_tup (pa_cons (pv 2) (pa_cons (pv 3) pa_nil))) pe_str (by constructor <;> rfl)) pe_str (nomark _)) (pw_or1 (pt_cmpR op_eq (pv 4) pe_str (nomark _))))) pe_str pe_str) (by rfl))))
(pss_one (ps_ret (pv 1))))), ?_⟩
    intro D hD
    try dsimp only [List.set]
    have two : 2 ≤ sizeLine := by decide
    have big : (1000 : Nat) ≤ sizeLine := by decide
    refine ⟨_, rfl, l, rfl, ⟨_, Same.seq (Same.new hD) hl⟩, for_list (xs := as.map V.ref) (fun i σ Hx => ∃ (y2 y3 y4 : Option V) (T : Tab), σ = [some (.ref l), some (.ref D), y2, y3, y4] ∧ Same H Hx ∧ TabAt Hx D T ∧ Rep T (wordM (ts.take i)) ∧ (∀ e ∈ T, goodK e.1) ∧ T.length ≤ i)
      ⟨_, _, _, [], rfl, Same.new hD, upd_same, rep_nil, (fun e he => nomatch he), Nat.le_refl _⟩ (fun i σ Hx _ hP => ?stay) (fun i x σ Hx hx hP => ?turn) (fun σ Hx hP => ?fin)⟩
    case stay =>
      obtain ⟨_, _, _, _, _, s, _⟩ := hP
      exact s.seq hl
    case fin =>
      obtain ⟨_, _, _, T, rfl, s, hTb, hR, hK, _⟩ := hP
      have el := paired_len hT
      rw [List.length_map, el, List.take_length] at hR
      exact ⟨_, rfl, q D T Hx s hTb hR hK⟩
    case turn =>
      obtain ⟨y2, y3, y4, T', rfl, s, hTb, hR, hK, hTl⟩ := hP
      rw [List.getElem?_map] at hx
      obtain ⟨t, ht, rfl⟩ := Option.map_eq_some_iff.mp hx
      obtain ⟨u, hu, hat⟩ := paired_at hT ht
      have hi : i < ts.length := (List.getElem?_eq_some_iff.mp hu).1
      refine ⟨t, _, rfl, Same.sqt s hat, rfl, _, _, rfl, _, _, rfl, _, _, rfl, rfl, ?_⟩
      try dsimp only [List.set]
      refine ⟨_, rfl, D, rfl, .inr ⟨_, .inl hTb⟩, _, rfl, _, rfl, two, fun kt hkt => ⟨_, DGet.t (k := keyT (keyOf u)) (Same.new hkt _ _ hTb) upd_same, ?_⟩⟩
      rw [rep_get hR]
      have hi2 : ts.take (i + 1) = ts.take i ++ [u] := by rw [List.take_add_one, hu]; rfl
      have gu := hg u (List.mem_of_getElem? hu)
      have nxt : ∀ (Hy : Hp) (k2 : Addr) (w : Str) (o : HO), Same Hx Hy → Hy k2 = none → w = moreW (wordM (ts.take i)) u → ∃ (y2 y3 y4 : Option V) (T : Tab), [some (V.ref l), some (V.ref D), some (V.str u.1), some (V.str u.2.1), some (V.str u.2.2)] = [some (V.ref l), some (V.ref D), y2, y3, y4] ∧
          Same H (upd (upd Hy k2 o) D (.dT (putK (T'.map entT2) (keyT (keyOf u)) (.str w)))) ∧ TabAt (upd (upd Hy k2 o) D (.dT (putK (T'.map entT2) (keyT (keyOf u)) (.str w)))) D T ∧ Rep T (wordM (ts.take (i + 1))) ∧ (∀ e ∈ T, goodK e.1) ∧ T.length ≤ i + 1 := fun Hy k2 w o s2 h2 hw => by
        refine ⟨_, _, _, putT T' (keyOf u) w, rfl, fun a b e => ?_, ?_, ?_, putT_keys hK gu.1, ?_⟩
        · rw [upd_ne (ne_of_none e hD)]
          exact Same.new h2 _ _ (s2 _ _ (s _ _ e))
        · unfold TabAt
          rw [upd_same, putT_map]
        · rw [hi2, word_snoc gu.2, hw]
          exact rep_put hR _ moreW_ne
        · have := length_putK (T'.map entT2) (keyT (keyOf u)) (V.str w)
          rw [← putT_map, List.length_map, List.length_map] at this
          omega
      have small : (T'.map entT2).length < sizeLine := by rw [List.length_map]; omega
      have ev : (if wordM (ts.take i) (keyOf u) = "" then none else some (V.str (wordM (ts.take i) (keyOf u)))).getD (.str "on") = V.str (if wordM (ts.take i) (keyOf u) = "" then "on" else wordM (ts.take i) (keyOf u)) := by split <;> rfl
      have s1 : Same Hx (upd Hx kt (.tup [.str u.1, .str u.2.1])) := Same.new hkt
      rw [ev]
      refine ⟨rfl, _, rfl, ?_⟩
      by_cases ha : wordM (ts.take i) (keyOf u) = "any"
      · have hm : moreW (wordM (ts.take i)) u = "any" := if_pos (.inl ha)
        refine iteTD (decide_eq_true (congrArg V.str (by rw [if_neg (by rw [ha]; exact wds.1)]; exact ha))) ?_
        exact ⟨_, rfl, _, rfl, _, rfl, two, fun k2 hk2 => ⟨D, _, rfl, DPut.t (k := keyT (keyOf u)) (Same.new hk2 _ _ (s1 _ _ hTb)) upd_same small, nxt _ _ _ _ s1 hk2 hm.symm⟩⟩
      · have hb : ¬ (if wordM (ts.take i) (keyOf u) = "" then ("on" : Str) else wordM (ts.take i) (keyOf u)) = "any" := by
          split
          · exact fun z => wds.2.2 z.symm
          · exact ha
        refine iteFD (decide_eq_false fun z => hb (V.str.inj z)) ?_
        refine ⟨_, rfl, rfl, _, rfl, ?_⟩
        by_cases hc : u.2.2 = "any"
        · have hm : moreW (wordM (ts.take i)) u = "any" := if_pos (.inr hc)
          refine iteTD (decide_eq_true (congrArg V.str hc)) ?_
          exact ⟨_, rfl, _, rfl, _, rfl, two, fun k2 hk2 => ⟨D, _, rfl, DPut.t (k := keyT (keyOf u)) (Same.new hk2 _ _ (s1 _ _ hTb)) upd_same small, nxt _ _ _ _ s1 hk2 hm.symm⟩⟩
        · have hm : moreW (wordM (ts.take i)) u = "on" := if_neg (by rintro (z | z); exact ha z; exact hc z)
          refine iteFD (decide_eq_false fun z => hc (V.str.inj z)) ?_
          exact ⟨_, rfl, _, rfl, _, rfl, two, fun k2 hk2 => ⟨D, _, rfl, DPut.t (k := keyT (keyOf u)) (Same.new hk2 _ _ (s1 _ _ hTb)) upd_same small, nxt _ _ _ _ s1 hk2 hm.symm⟩⟩
end
end Pn

namespace Pn
open PySem PySem.Spec PyProof.Rows L2 TL
/-! ### the triples of a table, ascending -/
def txtK (k : KP) : Str := k.1 ++ " " ++ k.2
def poolK : List KP := poolN.flatMap fun n => poolC.map fun c => (n, c)
theorem mem_poolK {k : KP} : k ∈ poolK ↔ goodK k := by
  unfold poolK goodK
  rw [List.mem_flatMap]
  constructor
  · rintro ⟨n, hn, h⟩
    obtain ⟨c, hc, rfl⟩ := List.mem_map.mp h
    exact ⟨hn, hc⟩
  · rintro ⟨h1, h2⟩
    exact ⟨k.1, h1, List.mem_map.mpr ⟨k.2, h2, rfl⟩⟩
theorem tab_few {T : Tab} {f : KP → Str} (h : Rep T f) (hk : ∀ e ∈ T, goodK e.1) : T.length ≤ 25 := by
  have q := nodup_few (B := poolK) h.1 fun k hk2 => by
    obtain ⟨e, he, rfl⟩ := List.mem_map.mp hk2
    exact mem_poolK.mpr (hk e he)
  rw [List.length_map] at q
  exact q
theorem split_all : (poolK.all fun k => decide (Txt.split (txtK k) " " = [k.1, k.2])) = true := by decide +kernel
theorem split_txt {k : KP} (h : goodK k) : Txt.split (txtK k) " " = [k.1, k.2] := of_decide_eq_true (List.all_eq_true.mp split_all k (mem_poolK.mpr h))
theorem txt_len : ∀ k ∈ poolK, (txtK k).length ≤ 20 := by decide +kernel
def w2 : List Str := ["on", "any"]
theorem ord_all : (poolK.all fun k => poolK.all fun j => decide (k = j) || PySem.Spec.ltCps (txtK j).cps.toList (txtK k).cps.toList || (w2.all fun v => w2.all fun w => ltT [k.1, k.2, v] [j.1, j.2, w])) = true := by decide +kernel
theorem ord_txt {k j : KP} {v w : Str} (hk : goodK k) (hj : goodK j) (hv : v ∈ w2) (hw : w ∈ w2) (h : leS (txtK k) (txtK j)) (ne : k ≠ j) : ltT (tl3 (triK k v)) (tl3 (triK j w)) = true := by
  have z := List.all_eq_true.mp (List.all_eq_true.mp ord_all k (mem_poolK.mpr hk)) j (mem_poolK.mpr hj)
  rw [Bool.or_eq_true, Bool.or_eq_true] at z
  rcases z with (z | z) | z
  · exact absurd (of_decide_eq_true z) ne
  · rw [PyProof.Rows.ltCps_eq] at z
    exact absurd (of_decide_eq_true z) (List.not_lt.mpr h)
  · exact List.all_eq_true.mp (List.all_eq_true.mp z v hv) w hw
/-- the pairs in the order of their texts -/
theorem txt_keys {l : List KP} (hl : ∀ k ∈ l, goodK k) (nd : l.Nodup) {ys : List Str} (pm : ys.Perm (l.map txtK)) (so : sortedS ys = true) :
    ∃ ks : List KP, ys = ks.map txtK ∧ ks.Perm l ∧ ks.Pairwise (fun k j => leS (txtK k) (txtK j) ∧ k ≠ j) := by
  let un : Str → KP := fun y => ((Txt.split y " ").getD 0 "", (Txt.split y " ").getD 1 "")
  have e1 : ∀ k, goodK k → un (txtK k) = k := fun k hk => by
    show (((Txt.split (txtK k) " ").getD 0 "", (Txt.split (txtK k) " ").getD 1 "") : KP) = k
    rw [split_txt hk]
    rfl
  have e2 : (l.map txtK).map un = l := by
    rw [List.map_map]
    conv => rhs; rw [← List.map_id l]
    exact List.map_congr_left fun k hk => e1 k (hl k hk)
  have e3 : (ys.map un).map txtK = ys := by
    rw [List.map_map]
    conv => rhs; rw [← List.map_id ys]
    refine List.map_congr_left fun y hy => ?_
    obtain ⟨k, hk, rfl⟩ := List.mem_map.mp (pm.mem_iff.mp hy)
    show txtK (un (txtK k)) = txtK k
    rw [e1 k (hl k hk)]
  have pk : (ys.map un).Perm l := by
    have := pm.map un
    rw [e2] at this
    exact this
  have nk : (ys.map un).Nodup := pk.nodup_iff.mpr nd
  refine ⟨ys.map un, e3.symm, pk, ?_⟩
  have pw := sorted_pw ys so
  rw [← e3, List.pairwise_map] at pw
  exact List.Pairwise.and pw nk
section
variable {P : Program} {w : World} {K : PySem.W.Frag} {mg : Str → Option Value} {base : Heap}
def spTrips (K : PySem.W.Frag) : Sp := fun vs H Q _ => ∃ (a : Addr) (T : Tab) (f : KP → Str), vs = [.ref a] ∧ TabAt H a T ∧ Rep T f ∧ (∀ e ∈ T, goodK e.1) ∧ (∀ e ∈ T, e.2 ∈ w2) ∧
  ∀ (p : Addr) (as : List Addr) (us : List Tri) (H' : Hp), Same H H' → SqT K H' p (as.map V.ref) → TrisIn K H' as us → UpT us → (∀ k v, triK k v ∈ us ↔ f k = v ∧ v ≠ "") → Q (.ref p) H'
theorem scTrips : FnScope ["_law_table_here", "_law_texts", "_law_found", "_law_text", "_law_name", "_law_counter"] ["_law_table_here"] (defScope sTrips) := ⟨rfl, rfl, rfl, by decide +kernel, rfl, by decide +kernel, by decide +kernel⟩
theorem TTab.okTrips (T : TTab K mg) : FnOk P w K mg base CX0 1 T.trips.f T.trips.fd ["_law_table_here"] (spTrips K) := by
  refine T.trips.F.ok scTrips (fun vs H Q E h => ?_) (fun cdv A outer s H vs Q E hr h => ?_)
  · obtain ⟨a, _, _, rfl, _⟩ := h
    rfl
  · obtain ⟨a, tb, f, rfl, hTb, hR, hK, hW, q⟩ := h
    refine ⟨_, (pss_cons (ps_set (i := 1) scTrips.nd rfl (Or.inl rfl) (pe_callB (show CallR _ (.builtin "sorted") (rSortedS K) from cr_sortedS) (by rfl) T.mSorted (by decide +kernel) (pa_cons (pe_lock (pe_lc (own := [("_law_name", 4), ("_law_counter", 5)]) (g := gTup K 2 (gCons (gName 4) (gCons (gName 5) gNil))) (tt := tYes) (by rfl) scTrips.nd (pi_keys (pv 0))
 (blkOk_by (N := ["_law_table_here", "_law_texts", "_law_found", "_law_text", "_law_name", "_law_counter"]) (sc := defScope sTrips) (by decide +kernel)) (fun _ _ _ _ _ => (pg_tup (by rfl) (pgs_cons (pg_name (i := 4) scTrips.nd rfl (Or.inl rfl)) (pgs_cons (pg_name (i := 5) scTrips.nd rfl (Or.inl rfl)) pgs_nil)))) (fun _ _ _ _ _ => pts_nil) (fun _ _ _ _ _ => (pe_callTy (show CallR _ (.type "str") rStrF from call_strF) (by rfl) T.mStr (by decide +kernel) (pa_cons (pe_op op_add_str (pe_op op_add_str (pv 4) pe_str) (pv 5)) pa_nil))))) pa_nil)))
(pss_cons (ps_set (i := 2) scTrips.nd rfl (Or.inl rfl) (pe_lst pa_nil))
(pss_cons (ps_for PassesOwn.never rfl (pi_list (pv 1)) (pg_name (i := 3) scTrips.nd rfl (Or.inl rfl))
(pss_cons (ps_asg (pe_split (pv 3) pe_str) (pg_lst (by rfl) (pgs_cons (pg_name (i := 4) scTrips.nd rfl (Or.inl rfl)) (pgs_cons (pg_name (i := 5) scTrips.nd rfl (Or.inl rfl)) pgs_nil))))
(pss_one (ps_expr (pe_bm PySem.F.plainAttrs_list PySem.F.slot_list_append PySem.F.type_list_append mt_append (pv 2) (pa_cons (pe_tup (pa_cons (pv 4) (pa_cons (pv 5) (pa_cons (pe_dget (roomDl hr) (pv 0) (pe_tup (pa_cons (pv 4) (pa_cons (pv 5) pa_nil))) (fun _ _ => rfl)) pa_nil)))) pa_nil))))))
(pss_one (ps_ret (pe_callTy (show CallR _ (.type "tuple") (rTupO K) from call_tupO) (by rfl) T.mTup (by decide +kernel) (pa_cons (pv 2) pa_nil))))))), ?_⟩
    have two : 2 ≤ sizeLine := by decide
    have three : 3 ≤ sizeLine := by decide
    have big : (1000 : Nat) ≤ sizeLine := by decide
    have few := tab_few hR hK
    have hl1 : ∀ k ∈ tb.map (·.1), goodK k := fun k hk => by
      obtain ⟨e, he, rfl⟩ := List.mem_map.mp hk
      exact hK e he
    refine stepSet (fun v H' => ∃ (l : Addr) (ks : List KP), v = .ref l ∧ Same H H' ∧ H' l = some (.lst ((ks.map txtK).map V.str)) ∧ ks.Perm (tb.map (·.1)) ∧ ks.Pairwise (fun k j => leS (txtK k) (txtK j) ∧ k ≠ j)) (fun Q' hQ => ?c1) (fun v H1 hC => ?r1)
    case c1 =>
      refine lcw_keysT (p := a) (tl := tVar 0) (kvs := tb.map entT2) (R := fun _ v (c : Str) => v = .str c) (sel := fun i => (tb[i]?).map fun e => txtK e.1) (fun _ h => h) (fun _ h => h) (fun H R z => ⟨_, rfl, z⟩) hTb (by rw [List.length_map]; omega) (fun Hf od sf ef i k v qk Hi S Y hkv hq sI h0 h1 => ?tn) (fun D H2 ts hD s2 hDl pd => ?fn)
      case tn =>
        rw [List.getElem?_map] at hkv
        obtain ⟨e, he, ek⟩ := Option.map_eq_some_iff.mp hkv
        cases ek
        have gk := hK e (List.mem_of_getElem? he)
        have len := txt_len _ (mem_poolK.mpr gk)
        have e0 : (e.1.1 ++ " " ++ e.1.2 : Str).length ≤ 20 := len
        rw [strLen_append, strLen_append] at e0
        refine ⟨qk, [.str e.1.1, .str e.1.2], rfl, SqT.of hq, rfl, _, _, rfl, _, _, rfl, rfl, rfl, ?_⟩
        unfold tYes
        refine iteT ?_
        refine ⟨_, rfl, _, _, rfl, rfl, by omega, _, rfl, _, _, rfl, rfl, by rw [strLen_append]; omega, ?_⟩
        refine .inl ⟨txtK e.1, rfl, ?_⟩
        exact h1 (txtK e.1) (by show (tb[i]?).map _ = _; rw [he]; rfl) _ _ (Same.refl _) rfl
      case fn =>
        have ets : ts = ((tb.map (·.1)).map txtK).map V.str := by
          rw [List.length_map, out_map] at pd
          rw [List.map_map, List.map_map]
          have : ∀ {us : List V} {cs : List Str}, Paired (fun v c => v = V.str c) us cs → us = cs.map V.str := fun h => by
            induction h with
            | nil => rfl
            | cons h _ ih => rw [h, ih]; rfl
          rw [this pd, List.map_map]
          rfl
        subst ets
        refine ⟨D, _, rfl, SqL.of hDl, by rw [List.length_map, List.length_map]; omega, fun ys p pm so hp => ?_⟩
        obtain ⟨ks, rfl, pk, pw⟩ := txt_keys hl1 hR.1 pm so
        exact hQ _ _ ⟨p, ks, rfl, s2.trans (Same.new hp), upd_same, pk, pw⟩
    case r1 =>
    obtain ⟨l, ks, rfl, s1, hl, pm, pw⟩ := hC
    have gks : ∀ k ∈ ks, goodK k := fun k hk => hl1 k (pm.mem_iff.mp hk)
    have lks : ks.length ≤ 25 := by rw [pm.length_eq, List.length_map]; exact few
    have fks : ∀ k ∈ ks, f k ∈ w2 ∧ f k ≠ "" := fun k hk => by
      obtain ⟨e, he, rfl⟩ := List.mem_map.mp (pm.mem_iff.mp hk)
      obtain ⟨h1, h2⟩ := (hR.2 _ _).mp he
      rw [h1]
      exact ⟨hW e he, h2⟩
    try dsimp only [List.set]
    refine ⟨Nat.zero_le _, fun D hD => ?_⟩
    try dsimp only [List.set]
    have s2 : Same H (upd H1 D (.lst [])) := s1.trans (Same.new hD)
    have hl2 := Same.new (o := .lst []) hD _ _ hl
    have nlD := ne_of_none hl hD
    have eD : upd H1 D (.lst []) D = some (.lst []) := upd_same
    have hD0 := s1.free hD
    generalize upd H1 D (.lst []) = H2 at s2 hl2 eD ⊢
    refine ⟨_, rfl, l, rfl, ⟨_, SqL.of hl2⟩, for_list (xs := (ks.map txtK).map V.str) (fun i σ Hx => ∃ (y3 y4 y5 : Option V) (as : List Addr), σ = [some (.ref a), some (.ref l), some (.ref D), y3, y4, y5] ∧ Same (hid H2 D) (hid Hx D) ∧ Hx D = some (.lst (as.map V.ref)) ∧ TrisIn K (hid Hx D) as ((ks.take i).map fun k => triK k (f k)))
      ⟨_, _, _, [], rfl, Same.refl _, eD, .nil⟩ (fun i σ Hx _ hP => ?stay) (fun i x σ Hx hx hP => ?turn) (fun σ Hx hP => ?fin)⟩
    case stay =>
      obtain ⟨_, _, _, _, _, s, _⟩ := hP
      exact SqL.of (hid_sub _ _ (s _ _ (hid_get hl2 nlD)))
    case fin =>
      obtain ⟨y3, y4, y5, as, rfl, s, eDx, hT⟩ := hP
      rw [List.length_map, List.length_map, List.take_length] at hT
      refine ⟨_, rfl, D, _, rfl, .inl ⟨SqL.of eDx, fun p hp => ?_⟩⟩
      have sx : Same H Hx := fun b o e => hid_sub _ _ (s _ _ (hid_get (s2 _ _ e) (ne_of_none e hD0)))
      refine q p as _ _ (sx.trans (Same.new hp)) (SqT.of upd_same) ((hT.same hid_sub).same (Same.new hp)) ?_ fun k v => ?_
      · unfold UpT
        rw [List.pairwise_map]
        refine List.Pairwise.imp_of_mem (fun {k j} hk hj h => ?_) pw
        exact ord_txt (gks k hk) (gks j hj) (fks k hk).1 (fks j hj).1 h.1 h.2
      · rw [List.mem_map]
        constructor
        · rintro ⟨j, hj, e⟩
          obtain ⟨rfl, rfl⟩ := triK_inj e
          exact ⟨rfl, (fks j hj).2⟩
        · rintro ⟨h1, h2⟩
          have hm := (hR.2 k v).mpr ⟨h1, h2⟩
          exact ⟨k, pm.mem_iff.mpr (List.mem_map.mpr ⟨_, hm, rfl⟩), by rw [h1]⟩
    case turn =>
      obtain ⟨y3, y4, y5, as, rfl, s, eDx, hT⟩ := hP
      rw [List.getElem?_map, List.getElem?_map] at hx
      obtain ⟨z, hz, rfl⟩ := Option.map_eq_some_iff.mp hx
      obtain ⟨k, hk, rfl⟩ := Option.map_eq_some_iff.mp hz
      have hi : i < ks.length := (List.getElem?_eq_some_iff.mp hk).1
      have gk := gks k (List.mem_of_getElem? hk)
      have len := txt_len _ (mem_poolK.mpr gk)
      have hal := paired_len hT
      rw [List.length_map, List.length_take] at hal
      try dsimp only [List.set]
      refine ⟨_, rfl, ⟨_, rfl⟩, txtK k, " ", rfl, rfl, by decide +kernel, Nat.le_trans (Nat.add_le_add_right len 2) (by decide), fun p hp => ?_⟩
      rw [split_txt gk]
      have fk := (fks k (List.mem_of_getElem? hk)).2
      have npD := ne_of_none eDx hp
      have tb2 : TabAt (hid Hx D) a tb := s _ _ (hid_get (s2 _ _ hTb) (ne_of_none hTb hD0))
      refine ⟨p, [.str k.1, .str k.2], rfl, SqL.of upd_same, rfl, _, _, rfl, _, _, rfl, rfl, ?_⟩
      try dsimp only [List.set]
      have eDp := Same.new (o := .lst [.str k.1, .str k.2]) hp _ _ eDx
      refine ⟨_, rfl, .inl ⟨rfl, _, SqL.of eDp⟩, _, rfl, _, rfl, _, rfl, _, rfl, _, rfl, two, fun k2 hk2 => ?_⟩
      have hTx := Same.new (o := .tup [.str k.1, .str k.2]) hk2 _ _ (Same.new (o := .lst [.str k.1, .str k.2]) hp _ _ (hid_sub _ _ tb2))
      refine ⟨a, .str (f k), rfl, ?_, three, fun t3 ht3 => ?_⟩
      · have g := DGet.t (k := keyT k) (b := k2) hTx (by exact upd_same)
        rw [rep_get hR, if_neg fk] at g
        exact g
      have eD3 : upd (upd (upd Hx p (.lst [.str k.1, .str k.2])) k2 (.tup [.str k.1, .str k.2])) t3 (.tup [.str k.1, .str k.2, .str (f k)]) D = some (.lst (as.map V.ref)) := Same.new ht3 _ _ (Same.new hk2 _ _ eDp)
      have nt3 : t3 ≠ D := fun e => by rw [e, Same.new hk2 _ _ eDp] at ht3; cases ht3
      refine ⟨D, _, _, rfl, rfl, eD3, by rw [List.length_map]; omega, ?_⟩
      have s4 : Same Hx (upd (upd (upd Hx p (.lst [.str k.1, .str k.2])) k2 (.tup [.str k.1, .str k.2])) t3 (.tup [.str k.1, .str k.2, .str (f k)])) := (Same.new hp).trans ((Same.new hk2).trans (Same.new ht3))
      have s5 : Same (hid Hx D) (hid (upd (upd (upd (upd Hx p (.lst [.str k.1, .str k.2])) k2 (.tup [.str k.1, .str k.2])) t3 (.tup [.str k.1, .str k.2, .str (f k)])) D (.lst (as.map V.ref ++ [V.ref t3]))) D) := fun b o e => by
        have n := hid_ne e
        exact hid_get (by rw [upd_ne n]; exact s4 _ _ (hid_sub _ _ e)) n
      refine ⟨_, _, _, as ++ [t3], rfl, s.trans s5, by rw [upd_same, List.map_append]; rfl, ?_⟩
      rw [List.take_add_one, hk, List.map_append]
      refine paired_snoc ?_ (hT.same s5)
      exact SqT.of (hid_get (by rw [upd_ne nt3]; exact upd_same) nt3)
end
end Pn

namespace Pn
open PySem PySem.Spec PyProof.Rows L2 TL
/-! ### tables put together, compared -/
def minW (f g : KP → Str) (k : KP) : Str := if f k = "" ∨ g k = "" then "" else if f k = "any" ∧ g k = "any" then "any" else "on"
def W3 (f : KP → Str) : Prop := ∀ k, f k = "any" ∨ f k = "on" ∨ f k = ""
section
variable {P : Program} {w : World} {K : PySem.W.Frag} {mg : Str → Option Value} {base : Heap}
end
end Pn

namespace Pn
open PySem PySem.Spec PyProof.Rows L2 TL
/-! ### what leaves hold, told by the word of each pair -/
structure RRep (rs : List Tri) (f : KP → Str) : Prop where
  up : UpT rs
  w3 : W3 f
  any : ∀ k, triK k "any" ∈ rs ↔ f k = "any"
  on : ∀ k, triK k "on" ∈ rs ↔ f k ≠ ""
  ok : ∀ t ∈ rs, goodT t
theorem word_W3 (ts : List Tri) : W3 (wordM ts) := fun k => word_cases ts k
def poolT : List Tri := poolK.flatMap fun k => [triK k "on", triK k "any"]
theorem mem_poolT {t : Tri} (h : goodT t) : t ∈ poolT := by
  unfold poolT
  rw [List.mem_flatMap]
  refine ⟨keyOf t, mem_poolK.mpr h.1, ?_⟩
  rcases h.2 with z | z
  · exact List.mem_cons.mpr (.inl (by rw [← z]; rfl))
  · exact List.mem_cons.mpr (.inr (List.mem_singleton.mpr (by rw [← z]; rfl)))
theorem few_pool {ts : List Tri} (h : ∀ t ∈ ts, goodT t) (hl : ts.length ≤ 100) : FewT ts := by
  refine ⟨hl, poolT.map tl3, by decide +kernel, fun t ht => ⟨List.mem_map_of_mem (mem_poolT (h t ht)), List.mem_map_of_mem (mem_poolT ⟨(h t ht).1, .inl rfl⟩)⟩⟩
theorem RRep.len {rs : List Tri} {f : KP → Str} (h : RRep rs f) : rs.length ≤ 50 := by
  have q := nodup_few (B := poolT) (up_nodup h.up) fun t ht => mem_poolT (h.ok t ht)
  have e : poolT.length = 50 := by decide +kernel
  omega
theorem RRep.few {rs : List Tri} {f : KP → Str} (h : RRep rs f) : FewT rs := few_pool h.ok (by have := h.len; omega)
theorem rights_good {ts : List Tri} (h : ∀ t ∈ ts, goodT t) : ∀ t ∈ rightsM ts, goodT t := fun t ht => by
  rcases mem_rights.mp ht with ht | ⟨u, hu, rfl⟩
  · exact h t ht
  · exact ⟨(h u hu).1, .inl rfl⟩
theorem mem_any {ts : List Tri} {k : KP} : triK k "any" ∈ rightsM ts ↔ triK k "any" ∈ ts := by
  rw [mem_rights]
  refine ⟨fun z => z.elim id fun ⟨t, _, e⟩ => ?_, .inl⟩
  have e : triK (keyOf t) "on" = triK k "any" := e
  exact absurd (triK_inj e).2.symm wds.2.2
theorem mem_on {ts : List Tri} {k : KP} (h : ∀ t ∈ ts, goodT t) : triK k "on" ∈ rightsM ts ↔ triK k "any" ∈ ts ∨ triK k "on" ∈ ts := by
  rw [mem_rights]
  constructor
  · rintro (z | ⟨t, ht, e⟩)
    · exact .inr z
    · have e : triK (keyOf t) "on" = triK k "on" := e
      have ek := (triK_inj e).1
      rcases (h t ht).2 with w | w
      · exact .inr (by rw [← ek, ← w, triK_of]; exact ht)
      · exact .inl (by rw [← ek, ← w, triK_of]; exact ht)
  · rintro (z | z)
    · exact .inr ⟨_, z, rfl⟩
    · exact .inl z
theorem rrep_rights {ts : List Tri} (h : ∀ t ∈ ts, goodT t) : RRep (rightsM ts) (wordM ts) :=
  ⟨up_sortT _, word_W3 ts, fun k => mem_any.trans word_any.symm, fun k => (mem_on h).trans word_some.symm, rights_good h⟩
def maxW (f g : KP → Str) (k : KP) : Str := if f k = "any" ∨ g k = "any" then "any" else if f k = "" ∧ g k = "" then "" else "on"
theorem maxW_any {f g : KP → Str} {k : KP} : maxW f g k = "any" ↔ f k = "any" ∨ g k = "any" := by
  unfold maxW
  by_cases h : f k = "any" ∨ g k = "any"
  · rw [if_pos h]; exact ⟨fun _ => h, fun _ => rfl⟩
  · rw [if_neg h]
    refine ⟨fun z => ?_, fun z => absurd z h⟩
    by_cases h2 : f k = "" ∧ g k = ""
    · rw [if_pos h2] at z; exact absurd z.symm wds.1
    · rw [if_neg h2] at z; exact absurd z.symm wds.2.2
theorem maxW_ne {f g : KP → Str} {k : KP} : maxW f g k ≠ "" ↔ f k ≠ "" ∨ g k ≠ "" := by
  unfold maxW
  by_cases h : f k = "any" ∨ g k = "any"
  · rw [if_pos h]
    refine ⟨fun _ => ?_, fun _ => wds.1⟩
    rcases h with h | h
    · exact .inl (by rw [h]; exact wds.1)
    · exact .inr (by rw [h]; exact wds.1)
  · rw [if_neg h]
    by_cases h2 : f k = "" ∧ g k = ""
    · rw [if_pos h2]
      exact ⟨fun z => absurd rfl z, fun z => by rcases z with z | z; exact absurd h2.1 z; exact absurd h2.2 z⟩
    · rw [if_neg h2]
      refine ⟨fun _ => ?_, fun _ => wds.2.1⟩
      by_cases h3 : f k = ""
      · exact .inr fun z => h2 ⟨h3, z⟩
      · exact .inl h3
theorem maxW_W3 (f g : KP → Str) : W3 (maxW f g) := fun k => by
  unfold maxW
  split
  · exact .inl rfl
  · split
    · exact .inr (.inr rfl)
    · exact .inr (.inl rfl)
theorem minW_any {f g : KP → Str} {k : KP} : minW f g k = "any" ↔ f k = "any" ∧ g k = "any" := by
  unfold minW
  by_cases h : f k = "" ∨ g k = ""
  · rw [if_pos h]
    refine ⟨fun z => absurd z.symm wds.1, fun z => ?_⟩
    rcases h with h | h
    · exact absurd (z.1.symm.trans h) wds.1
    · exact absurd (z.2.symm.trans h) wds.1
  · rw [if_neg h]
    by_cases h2 : f k = "any" ∧ g k = "any"
    · rw [if_pos h2]; exact ⟨fun _ => h2, fun _ => rfl⟩
    · rw [if_neg h2]; exact ⟨fun z => absurd z.symm wds.2.2, fun z => absurd z h2⟩
theorem minW_some {f g : KP → Str} {k : KP} : minW f g k ≠ "" ↔ f k ≠ "" ∧ g k ≠ "" := by
  unfold minW
  by_cases h : f k = "" ∨ g k = ""
  · rw [if_pos h]
    refine ⟨fun z => absurd rfl z, fun z => ?_⟩
    rcases h with h | h
    · exact absurd h z.1
    · exact absurd h z.2
  · rw [if_neg h]
    refine ⟨fun _ => ⟨fun z => h (.inl z), fun z => h (.inr z)⟩, fun _ => ?_⟩
    split
    · exact wds.1
    · exact wds.2.1
theorem minW_W3 (f g : KP → Str) : W3 (minW f g) := fun k => by
  unfold minW
  split
  · exact .inr (.inr rfl)
  · split
    · exact .inl rfl
    · exact .inr (.inl rfl)
theorem RRep.or {rs qs : List Tri} {f g : KP → Str} (h : RRep rs f) (h2 : RRep qs g) : RRep (rightsM (rs ++ qs)) (maxW f g) := by
  have ok : ∀ t ∈ rs ++ qs, goodT t := fun t ht => (List.mem_append.mp ht).elim (h.ok t) (h2.ok t)
  refine ⟨up_sortT _, maxW_W3 _ _, fun k => ?_, fun k => ?_, rights_good ok⟩
  · rw [mem_any, List.mem_append, maxW_any, h.any, h2.any]
  · rw [mem_on ok, List.mem_append, List.mem_append, maxW_ne, h.any, h2.any, h.on, h2.on]
    have e : ∀ {v : Str}, v = "any" → v ≠ "" := fun e => by rw [e]; exact wds.1
    constructor
    · rintro ((a | a) | (a | a))
      · exact .inl (e a)
      · exact .inr (e a)
      · exact .inl a
      · exact .inr a
    · rintro (a | a)
      · exact .inr (.inl a)
      · exact .inr (.inr a)
theorem RRep.and {rs qs : List Tri} {f g : KP → Str} (h : RRep rs f) (h2 : RRep qs g) : RRep (rightsM (rs.filter fun t => decide (t ∈ qs))) (minW f g) := by
  have ok : ∀ t ∈ rs.filter fun t => decide (t ∈ qs), goodT t := fun t ht => h.ok t (List.mem_filter.mp ht).1
  have mf : ∀ t, t ∈ rs.filter (fun t => decide (t ∈ qs)) ↔ t ∈ rs ∧ t ∈ qs := fun t => by rw [List.mem_filter, decide_eq_true_iff]
  refine ⟨up_sortT _, minW_W3 _ _, fun k => ?_, fun k => ?_, rights_good ok⟩
  · rw [mem_any, mf, minW_any, h.any, h2.any]
  · rw [mem_on ok, mf, mf, minW_some, h.any, h2.any, h.on, h2.on]
    have e : ∀ {v : Str}, v = "any" → v ≠ "" := fun e => by rw [e]; exact wds.1
    constructor
    · rintro (⟨a, b⟩ | a)
      · exact ⟨e a, e b⟩
      · exact a
    · exact .inr
theorem RRep.mem {rs : List Tri} {f : KP → Str} (h : RRep rs f) (k : KP) (v : Str) : triK k v ∈ rs ↔ (v = "any" ∧ f k = "any") ∨ (v = "on" ∧ f k ≠ "") := by
  constructor
  · intro z
    rcases (h.ok _ z).2 with w | w
    · have w : v = "on" := w
      subst w
      exact .inr ⟨rfl, (h.on k).mp z⟩
    · have w : v = "any" := w
      subst w
      exact .inl ⟨rfl, (h.any k).mp z⟩
  · rintro (⟨rfl, z⟩ | ⟨rfl, z⟩)
    · exact (h.any k).mpr z
    · exact (h.on k).mpr z
theorem RRep.uniq {rs qs : List Tri} {f : KP → Str} (h : RRep rs f) (h2 : RRep qs f) : rs = qs := up_uniq h.up h2.up fun z => by rw [← triK_of z, h.mem, h2.mem]
theorem free_mem {rs : List Tri} {k : KP} : k ∈ freeM rs ↔ triK k "any" ∈ rs := by
  unfold freeM
  rw [List.mem_filterMap]
  constructor
  · rintro ⟨t, ht, e⟩
    by_cases hw : t.2.2 = ("any" : Str)
    · rw [if_pos hw] at e
      cases e
      rw [← hw]
      exact ht
    · rw [if_neg hw] at e
      cases e
  · exact fun z => ⟨_, z, if_pos rfl⟩
theorem RRep.pairs {rs : List Tri} {f : KP → Str} (h : RRep rs f) (k : KP) (v : Str) : triK k v ∈ pairsM rs ↔ f k = v ∧ v ≠ "" := by
  unfold pairsM
  rw [List.mem_filter, h.mem]
  have pb : pairB rs (triK k v) = true ↔ v = "any" ∨ f k ≠ "any" := by
    unfold pairB
    rw [Bool.or_eq_true, Bool.not_eq_true', decide_eq_true_iff, decide_eq_false_iff_not]
    exact or_congr Iff.rfl (not_congr (free_mem.trans (h.any k)))
  rw [pb]
  constructor
  · rintro ⟨⟨rfl, a⟩ | ⟨rfl, a⟩, b⟩
    · exact ⟨a, wds.1⟩
    · refine ⟨?_, wds.2.1⟩
      rcases h.w3 k with z | z | z
      · exact absurd z (b.resolve_left fun y => wds.2.2 y.symm)
      · exact z
      · exact absurd z a
  · rintro ⟨rfl, a⟩
    rcases h.w3 k with z | z | z
    · exact ⟨.inl ⟨z, z⟩, .inl z⟩
    · exact ⟨.inr ⟨z, a⟩, .inr fun y => wds.2.2 (y.symm.trans z)⟩
    · exact absurd z a
theorem RRep.pairs_eq {rs us : List Tri} {f : KP → Str} (h : RRep rs f) (up : UpT us) (m : ∀ k v, triK k v ∈ us ↔ f k = v ∧ v ≠ "") : pairsM rs = us := by
  refine up_uniq (List.Pairwise.filter _ h.up) up fun z => ?_
  rw [← triK_of z, m]
  exact h.pairs _ _
section
variable {P : Program} {w : World} {K : PySem.W.Frag} {mg : Str → Option Value} {base : Heap}
end
end Pn

namespace Pn
open PySem PySem.Spec PyProof.Rows L2 TL
/-! ### first items; the same triples compared -/
section
variable {K : PySem.W.Frag}
end
theorem rep_w2 {T : Tab} {f : KP → Str} (h : Rep T f) (w : W3 f) : ∀ e ∈ T, e.2 ∈ w2 := fun e he => by
  obtain ⟨h1, h2⟩ := (h.2 e.1 e.2).mp he
  rcases w e.1 with z | z | z
  · rw [← h1, z]; decide
  · rw [← h1, z]; decide
  · exact absurd (h1.symm.trans z) h2
end Pn

namespace Pn
open PySem L2 TL
section
variable {P : Program} {w : World} {K : PySem.W.Frag} {mg : Str → Option Value} {base : Heap}
/-! ### a list of anything in another order -/
def spMixedV (K : PySem.W.Frag) : Sp := fun vs H Q _ => ∃ (d g a : Addr) (ss : List V), vs = [.ref d, .ref a] ∧ DealAt H d g ∧ SqL K (hh H d g) a ss ∧ ss.length ≤ 100 ∧
  ∀ (l : Addr) (zs : List V) (H' : Hp), zs.Perm ss → DealAt H' d g → Same (hh H d g) (hh H' d g) → Mo H H' → hh H' d g l = some (.lst zs) → Q (.ref l) H'
theorem scMixedV : FnScope ["_law_deal_here", "_law_some", "_law_left", "_law_found"] ["_law_deal_here", "_law_some"] (defScope sMixed) := ⟨rfl, rfl, rfl, by decide +kernel, rfl, by decide +kernel, by decide +kernel⟩
theorem TDealM.okMixedV (T : TDealM K mg) : FnOk P w K mg base CX0 2 T.mixed.f T.mixed.fd ["_law_deal_here", "_law_some"] (spMixedV K) := by
  refine T.mixed.F.ok scMixedV (fun vs H Q E h => ?_) (fun cdv A outer s H vs Q E hr h => ?_)
  · obtain ⟨d, g, a, ss, rfl, _⟩ := h
    rfl
  · obtain ⟨d, g, a, ss, rfl, hD, hS, hl, q⟩ := h
    refine ⟨_, (pss_cons (ps_par (i := 2) (j := 3) (by rfl) scMixedV.nd rfl rfl (by decide) rfl rfl (pa_cons (pe_callTy call_list_of (by rfl) T.mLs (by decide +kernel) (pa_cons (pv 1) pa_nil)) (pa_cons (pe_lst pa_nil) pa_nil)) (by rfl))
(pss_cons (ps_while PassesOwn.never (pt_cmpR (op_nilNe hr.units0) (pv 2) (pe_lst pa_nil) (nomark _))
(pss_one (ps_expr (pe_bm PySem.F.plainAttrs_list PySem.F.slot_list_append PySem.F.type_list_append mt_append (pv 3) (pa_cons (pe_bm PySem.F.plainAttrs_list PySem.F.slot_list_pop PySem.F.type_list_pop mt_popAt (pv 2) (pa_cons (pe_call T.okDraw (hr.mono (by decide)) rfl T.draw.m T.draw.F.kp T.draw.b .nil pass0 (pa_cons (pv 0) (pa_cons (pe_callB call_len_seq (by rfl) T.mL PySem.boot_len (pa_cons (pv 2) pa_nil)) pa_nil))) pa_nil)) pa_nil)))))
(pss_one (ps_ret (pv 3))))), ?_⟩
    refine ⟨_, rfl, a, _, rfl, .inl (hh_sub.seq hS), fun L hL => ?_⟩
    refine ⟨(by show 0 ≤ sizeLine; decide), fun F hF => ?_⟩
    have n1 := hD.nd hL
    have hD1 := hD.new (o := .lst ss) hL
    have n2 := hD1.nd hF
    have hD2 := hD1.new (o := .lst []) hF
    have s2 : Same (hh H d g) (hh (upd (upd H L (.lst ss)) F (.lst [])) d g) := (hh_new hL).trans (hh_new hF)
    have m2 : Mo H (upd (upd H L (.lst ss)) F (.lst [])) := Mo.upd.trans Mo.upd
    have nLF : L ≠ F := fun z => by rw [← z, upd_same] at hF; cases hF
    have eL : (upd (upd H L (.lst ss)) F (.lst [])) L = some (.lst ss) := by rw [upd_ne nLF]; exact upd_same
    have eF : (upd (upd H L (.lst ss)) F (.lst [])) F = some (.lst []) := upd_same
    have hFn : H F = none := by rw [upd_ne nLF.symm] at hF; exact hF
    generalize upd (upd H L (.lst ss)) F (.lst []) = H2 at hD2 s2 m2 eL eF ⊢
    refine ⟨_, _, rfl, ?_⟩
    try dsimp only [List.set]
    refine ⟨fun n σ Hc => ∃ (ls fs : List V), σ = [some (.ref d), some (.ref a), some (.ref L), some (.ref F)] ∧ ls.length = n ∧ (fs ++ ls).Perm ss ∧ DealAt Hc d g ∧ Same (hh H d g) (hh Hc d g) ∧ Mo H Hc ∧ Hc L = some (.lst ls) ∧ Hc F = some (.lst fs),
      ⟨_, ss, [], rfl, rfl, .refl _, hD2, s2, m2, eL, eF⟩, fun n σ Hc hP => ?_⟩
    obtain ⟨ls, fs, rfl, hn, perm, hDc, sc, mc, hLc, hFc⟩ := hP
    have len1 : fs.length + ls.length = ss.length := by rw [← List.length_append]; exact perm.length_eq
    refine ⟨_, rfl, (by show 0 ≤ sizeLine; decide), fun p hp => ?_⟩
    have hLp := Same.new (o := .lst []) hp _ _ hLc
    refine ⟨L, p, ls, rfl, rfl, SqL.of hLp, SqL.of upd_same, _, rfl, ?_⟩
    have hDp := hDc.new (o := .lst []) hp
    have np := hDc.nd hp
    have sp := sc.trans (hh_new (o := .lst []) hp)
    have mp : Mo H (upd Hc p (.lst [])) := mc.trans Mo.upd
    have hFp := Same.new (o := .lst []) hp _ _ hFc
    generalize upd Hc p (.lst []) = Hp at hDp sp mp hLp hFp ⊢
    cases ls with
    | nil =>
      refine iteFB rfl ?_
      refine ⟨_, rfl, ?_⟩
      rw [List.append_nil] at perm
      exact q F fs Hp perm hDp sp mp (hh_get hFp n2.1 n2.2)
    | cons z0 ls0 =>
      refine iteTB rfl ?_
      have ll : (z0 :: ls0).length ≤ 100 := by omega
      refine ⟨fun σ' H' => ∃ (ls fs : List V), σ' = [some (.ref d), some (.ref a), some (.ref L), some (.ref F)] ∧ ls.length = ls0.length ∧ (fs ++ ls).Perm ss ∧ DealAt H' d g ∧ Same (hh H d g) (hh H' d g) ∧ Mo H H' ∧ H' L = some (.lst ls) ∧ H' F = some (.lst fs),
        fun σ' H' q => ⟨ls0.length, by rw [← hn]; exact Nat.lt_succ_self _, q⟩, ?_⟩
      refine ⟨_, rfl, .inl ⟨rfl, _, SqL.of hFp⟩, ?_⟩
      refine ⟨_, rfl, .inl ⟨rfl, _, SqL.of hLp⟩, ?_⟩
      refine ⟨_, rfl, _, rfl, L, _, rfl, .inl (SqL.of hLp), ?_⟩
      refine ⟨d, g, _, rfl, hDp, by simp, by omega, fun r H' r0 r1 hD' hs hm => ?_⟩
      obtain ⟨k, rfl⟩ : ∃ k : Nat, r = (k : Int) := ⟨r.toNat, by omega⟩
      have hk : k < (z0 :: ls0).length := by omega
      have hL' := hh_sub _ _ (hs _ _ (hh_get hLp n1.1 n1.2))
      have hF' := hh_sub _ _ (hs _ _ (hh_get hFp n2.1 n2.2))
      have gy : (z0 :: ls0)[k]? = some (z0 :: ls0)[k] := List.getElem?_eq_getElem hk
      refine ⟨L, _, _, k, (z0 :: ls0)[k], rfl, rfl, hL', by omega, by omega, ?sq, gy, ?_⟩
      case sq =>
        have e := PySem.StrLaws.seqIndex_nonneg (i := (k : Int)) (n := (z0 :: ls0).length) (by omega) (by omega)
        rw [Int.toNat_natCast] at e
        exact e
      refine ⟨F, _, _, rfl, rfl, by rw [upd_ne nLF.symm]; exact hF', small1000 (by omega), ?_⟩
      refine ⟨(z0 :: ls0).eraseIdx k, fs ++ [(z0 :: ls0)[k]], rfl, by rw [List.length_eraseIdx_of_lt hk]; rfl, ?_, (hD'.upd n1.1 n1.2).upd n2.1 n2.2, ?_, ?_, ?_, ?_⟩
      · refine List.Perm.trans ?_ perm
        rw [List.append_assoc]
        exact List.Perm.append_left _ (perm_erase gy)
      · intro c o e
        have e1 := hs _ _ (sp _ _ e)
        obtain ⟨c1, c2, c3⟩ := hh_ne e1
        obtain ⟨_, _, e0⟩ := hh_ne e
        exact hh_get (by rw [upd_ne (ne_of_none e0 hFn), upd_ne (ne_of_none e0 hL)]; exact c3) c1 c2
      · exact ((mp.trans hm).trans Mo.upd).trans Mo.upd
      · rw [upd_ne nLF, upd_same]
      · rw [upd_same]
end
end Pn

namespace Pn
open PySem PySem.Spec PyProof.Rows L2 TL
/-! ### triples among any values; Leaves.__init__: what is made, what is refused -/
section
variable {P : Program} {w : World} {K : PySem.W.Frag} {mg : Str → Option Value} {base : Heap} {R : TRowz K mg} {F : TFilz R}
variable {Y : TLv F}
/-- a list or a tuple of data -/
def SeqD (K : PySem.W.Frag) (H : Hp) (v : V) (ds : List PyData) : Prop := ∃ (p : Addr) (vs : List V), v = .ref p ∧ (SqL K H p vs ∨ SqT K H p vs) ∧ DpAll K H vs ds
theorem SeqD.same {H H' : Hp} {v : V} {ds : List PyData} (h : SeqD K H v ds) (s : Same H H') : SeqD K H' v ds := by
  obtain ⟨p, vs, e, hp, hT⟩ := h
  exact ⟨p, vs, e, hp.imp s.seq (Same.sqt s), dpAll_same s _ _ hT⟩
end
end Pn

namespace Pn
open PySem PySem.Spec PyProof.Rows L2
/-! ### a new instance, where what its making raises is wished for at the slots -/
section
variable {X : Cx} {CX : CXT} {k : Nat} {f C : Addr} {fd : FuncData} {ps : List Str} {sp : Sp} {dvs : List V} {ds : List Value} {E : L2.St → XK} {x : Str} {p pos : Pos} {e : Expr} {es : List Expr} {t : TA}
end
end Pn

namespace Pn
open PySem PySem.Spec PyProof.Rows L2 TL
/-! ### what the law asks of any values -/
section
variable {P : Program} {w : World} {K : PySem.W.Frag} {mg : Str → Option Value} {base : Heap}
end
end Pn

namespace Pn
open PySem PySem.Spec PyProof.Rows L2 TL
/-! ### odd things: what the law puts among the triples -/
def dlenB : PyData → Bool
  | .str z => decide (z.length ≤ 900)
  | _ => true
theorem dlenB_ok {d : PyData} (h : dlenB d = true) : dlen d := by
  cases d with
  | str z => exact (of_decide_eq_true (p := z.length ≤ 900) h)
  | _ => trivial
theorem leafW_ok : ∀ d ∈ leafWD, dlenB d = true ∧ PyData.canLay0 d = true ∧ PyData.depth d = 0 ∧ (match d with | .tuple _ => false | _ => true) = true := by
  have h : (leafWD.all fun d => dlenB d && (PyData.canLay0 d && (decide (PyData.depth d = 0) && (match d with | .tuple _ => false | _ => true)))) = true := by decide +kernel
  intro d hd
  have z := List.all_eq_true.mp h d hd
  rw [Bool.and_eq_true, Bool.and_eq_true, Bool.and_eq_true, decide_eq_true_iff] at z
  exact ⟨z.1, z.2.1, z.2.2.1, z.2.2.2⟩
theorem lays : ∀ {ds : List PyData} {n : Nat}, (∀ e ∈ ds, PyData.canLay0 e = true ∧ PyData.depth e ≤ n) → PyData.canLayAll0 ds = true ∧ PyData.depthAll ds ≤ n
  | [], n, _ => ⟨by simp only [PyData.canLayAll0], by simp [PyData.depthAll]⟩
  | d :: ds, n, h => by
    obtain ⟨a, b⟩ := h d List.mem_cons_self
    obtain ⟨c, e⟩ := lays (ds := ds) (n := n) fun x hx => h x (List.mem_cons_of_mem _ hx)
    refine ⟨by simp only [PyData.canLayAll0, a, c, Bool.and_self], ?_⟩
    simp only [PyData.depthAll]
    omega
theorem Vt.lay : ∀ {n : Nat} {d : PyData}, Vt n d → PyData.canLay0 d = true ∧ PyData.depth d ≤ n ∧ dlen d
  | 0, d, h => by
    obtain ⟨a, b, c, _⟩ := leafW_ok d h
    exact ⟨b, by omega, dlenB_ok a⟩
  | n + 1, d, h => by
    rcases h with h | ⟨ds, _, h2, h3⟩
    · obtain ⟨a, b, c, _⟩ := leafW_ok d h
      exact ⟨b, by omega, dlenB_ok a⟩
    · obtain ⟨l1, l2⟩ := lays (ds := ds) (n := n) fun e he => ⟨(Vt.lay (h2 e he)).1, (Vt.lay (h2 e he)).2.1⟩
      rcases h3 with rfl | rfl
      · exact ⟨by simp only [PyData.canLay0, l1], by simp only [PyData.depth]; omega, trivial⟩
      · exact ⟨by simp only [PyData.canLay0, l1], by simp only [PyData.depth]; omega, trivial⟩
theorem Vt.shaped {n : Nat} {d : PyData} (h : Vt n d) (hn : n ≤ 60) : SeqAt.shaped d = true := by
  obtain ⟨a, b, _⟩ := h.lay
  unfold SeqAt.shaped
  rw [a, Bool.true_and]
  exact decide_eq_true (by omega)
section
variable {P : Program} {w : World} {K : PySem.W.Frag} {mg : Str → Option Value} {base : Heap} {σ : L2.St}
end
end Pn

namespace Pn
open PySem PySem.SeqAt
open MeetsSeq MeetsSeq2 MeetsSeq3 SeqRoads2
open AutoSeq1 (wpAny_loadPart')
/-! ### `in` of a tuple of tuples of texts, where the first thing of what is looked for has a == of its own (or is a list) -/
section
variable {prog : Program} {w : World} {A : Around} {R : Result → Shared → Prop}
theorem str_eq_ins (b : Str) (u : Tok) (l C dx : Addr) :
    Meets (Builtin.«str.__eq__» ⟨[.str b u, .ref l], []⟩) (fun _ R s => s.heap.get? l = some (PySem.W.instObj C dx) ∧ R (.ok (.ret .notImplemented)) s) :=
  .of_wp fun prog w A R s h => by obtain ⟨hp, g, d, tk, os⟩ := s; obtain ⟨hl, h⟩ := h; wp_walk using wpAny_loadPart' hl, wpAny_load hl; exact ⟨_, rfl, h⟩
theorem tuple_noG (l : Addr) (items : Array Value) (n : Nat) (dd : Option Addr) (sl : Array (Option Value)) (x : Value) {J : Shared → Prop}
    (step : ∀ y, y ∈ items → ∀ s', J s' → wpAny (model prog w) A.in1 (eqBool y x) (fun r s2 => r = false ∧ J s2) (fun e s2 => R (.error e) s2) s') (fin : ∀ s', J s' → R (.ok (.ret (.bool false))) s')
    {s : Shared} (hl : s.heap.get? l = some { cls := .type "tuple", dict := dd, data := .seq items n, slots := sl }) (h : J s) :
    wpAny (model prog w) A.in1 (Builtin.«tuple.__contains__» ⟨[.ref l, x], []⟩) (GQ.FinOf prog w A R) (fun e s' => R (.error e) s') s := by
  have h0 := h
  obtain ⟨hp, g, d, tk, os⟩ := s
  wp_walk using wpAny_loadPart' hl, wpAny_forIn_array _ (fun rest b s' => b.1 = none ∧ (∀ y, y ∈ rest → y ∈ items) ∧ J s') _
  case turn =>
    rintro y rest b s' ⟨hb, hmem, hJ⟩
    refine wpAny_bind (wpAny_mono (step y (hmem y (List.mem_cons_self ..)) s' hJ) (fun r s2 q => ?_) fun _ _ x => x)
    obtain ⟨rfl, j2⟩ := q
    wp_walk
    exact ⟨rfl, fun z hz => hmem z (List.mem_cons_of_mem _ hz), j2⟩
  case fin =>
    rintro ⟨b1, b2⟩ s' ⟨hb, -, hJ⟩
    simp only at hb
    subst hb
    have := fin s' hJ
    wp_walk
    exact this
  case h =>
    exact ⟨rfl, fun y hy => by simpa using hy, h0⟩
theorem tuple_headG (l b : Addr) (items items2 : Array Value) (n n2 : Nat) (dd dd2 : Option Addr) (sl sl2 : Array (Option Value)) (k1 : 0 < items.size) (k2 : 0 < items2.size) {s : Shared}
    (one : wpAny (model prog w) A.in1 (eqBool items[0] items2[0]) (fun r s' => r = false ∧ R (.ok (.ret (.bool false))) s') (fun e s' => R (.error e) s') s)
    (hl1 : s.heap.get? l = some { cls := .type "tuple", dict := dd, data := .seq items n, slots := sl }) (hb1 : s.heap.get? b = some { cls := .type "tuple", dict := dd2, data := .seq items2 n2, slots := sl2 }) :
    wpAny (model prog w) A.in1 (Builtin.«tuple.__eq__» ⟨[.ref l, .ref b], []⟩) (GQ.FinOf prog w A R) (fun e s' => R (.error e) s') s := by
  have f2 := AutoSeq1.sub_tuple_tuple
  obtain ⟨y, ys, hy⟩ : ∃ y ys, items.toList = y :: ys := by
    cases e : items.toList with
    | nil => rw [← Array.length_toList, e] at k1; cases k1
    | cons y ys => exact ⟨y, ys, rfl⟩
  obtain ⟨x, xs, hx⟩ : ∃ x xs, items2.toList = x :: xs := by
    cases e : items2.toList with
    | nil => rw [← Array.length_toList, e] at k2; cases k2
    | cons y ys => exact ⟨y, ys, rfl⟩
  have ey : items[0] = y := by
    have : items.toList[0]? = some y := by rw [hy]; rfl
    rw [Array.getElem?_toList, Array.getElem?_eq_getElem k1] at this
    exact Option.some.inj this
  have ex : items2[0] = x := by
    have : items2.toList[0]? = some x := by rw [hx]; rfl
    rw [Array.getElem?_toList, Array.getElem?_eq_getElem k2] at this
    exact Option.some.inj this
  rw [ey, ex] at one
  obtain ⟨hp, g, d, tk, os⟩ := s
  wp_walk using wpAny_loadPart' hl1, wpAny_loadPart' hb1, wpAny_forIn_list _ (fun rest b s' => (b.1 = none ∧ rest = (y, x) :: ys.zip xs ∧ s' = ⟨hp, g, d, tk, os⟩) ∨ False) _
  case turn =>
    rintro ⟨y', x'⟩ rest b s' (⟨hb', hz, rfl⟩ | hf)
    · injection hz with h1 h2
      injection h1 with h3 h4
      subst h3 h4
      refine wpAny_bind (wpAny_mono one (fun r s2 q2 => ?_) fun _ _ x => x)
      obtain ⟨rfl, q2⟩ := q2
      wp_walk
      exact q2
    · exact hf.elim
  case fin =>
    rintro ⟨b1, b2⟩ s' (⟨hb', hz, rfl⟩ | hf)
    · cases hz
    · exact hf.elim
  case h =>
    exact .inl ⟨rfl, by rw [hy, hx]; rfl, rfl⟩
end
section
variable {prog : Program} {w : World} {A : Around} {E : Value → Shared → Prop} {s : Shared}
/-- a text == an own instance: the text declines, the own == answers -/
theorem rc_str_own {K : PySem.W.Frag} {L x C dx f : Addr} {h₀ : Heap} {m : Str → Option Value} {t : Str} {u : Tok} {od : Option Obj} {Q : Value → Shared → Prop} (hu : A.units < cLine) (FF : PyProof.Rows.Fr h₀ L s.heap m) (X₀ : K.In h₀)
    (I : PySem.W.InstAt s.heap x (PySem.W.instObj C dx) C od) (hsub : PySem.W.mroIn K C (.type "str") = some false)
    (hs : PySem.W.findIn K (.ref C) "__eq__" = some (some (.ref f))) (hf : PySem.W.isFn K (.ref f) = true)
    (h : wpAny (model prog w) A (call (.ref f) [.ref x, .str t u]) (PySem.W.CmpBack Q) E s) : wpAny (model prog w) A (richCompare .Eq (.str t u) (.ref x)) Q E s := by
  have X := X₀.keeps FF.keep
  have ha := PySem.typeIs_str s t u
  have two : wpAny (model prog w) A (tryCompare (.ref x) "__eq__" (.str t u)) (fun r s' => ∃ v, r = some v ∧ Q v s') E s := by
    unfold tryCompare
    refine wpAny_bind (PySem.W.ifBound_K X I hs hf (wpAny_mono h (fun v s' hv => ?_) fun _ _ e => e))
    cases v <;> first | exact hv.elim | exact wpAny_pure ⟨_, rfl, hv⟩
  unfold richCompare
  simp only [ha.oneThing_none]
  refine wpAny_holding (wpAny_bind (wpAny_cRoomFor hu ?_))
  refine wpAny_bind (wpAny_typeOf ha (wpAny_bind (I.type.here ?_)))
  rw [if_pos (by rfl)]
  have e : PySem.W.subIn K (.ref C) (.type "str") = some false := hsub
  refine wpAny_bind ((PySem.W.looks_subIn X e).here ?_)
  simp only [Bool.false_eq_true, if_false, Bool.not_false, if_true]
  refine wpAny_bind (m := tryCompare (.str t u) "__eq__" (.ref x)) (wpAny_tryCompare_declines ha F.slot_str_eq (call_meets F.slot_str_eq ha F.entry_str_eq (F.args_str_eq_2 _ _) (str_eq_ins t u x C dx) ⟨I.at_, rfl, ?_⟩))
  refine wpAny_bind (m := tryCompare (.ref x) "__eq__" (.str t u)) (wpAny_mono two (fun r s' z => ?_) fun _ _ e => e)
  obtain ⟨v, rfl, hq⟩ := z
  exact wpAny_pure hq
theorem rc_tup_head {l b : Addr} {items items2 : Array Value} {Q : Value → Shared → Prop} (k1 : 0 < items.size) (k2 : 0 < items2.size) (hu : A.units < cLine) (hl : s.heap.IsTuple l items) (hb : s.heap.IsTuple b items2)
    (one : wpAny (model prog w) A.in1 (eqBool items[0] items2[0]) (fun r s' => r = false ∧ Q (.bool false) s') E s) : wpAny (model prog w) A (richCompare .Eq (.ref l) (.ref b)) Q E s := by
  obtain ⟨⟨cls, dd, data, sl⟩, ho, hc, n, hd⟩ := id hl
  obtain ⟨⟨cls2, dd2, data2, sl2⟩, ho2, hc2, n2, hd2⟩ := id hb
  simp only at hc hd hc2 hd2
  subst hc hd hc2 hd2
  refine wpAny_richCompare_same_room (op := .Eq) ⟨_, ho, rfl⟩ ⟨_, ho2, rfl⟩ F.slot_tuple_eq (GQ.call_here F.slot_tuple_eq ⟨_, ho, rfl⟩ F.entry_tuple_eq (F.args_tuple_eq_2 _ _) ?_) hu
  exact tuple_headG (R := wants (fun v s' => v ≠ .notImplemented ∧ Q v s') E) l b items items2 n n2 dd dd2 sl sl2 k1 k2 (wpAny_mono one (fun r s' q => ⟨q.1, (fun x => nomatch x), q.2⟩) fun _ _ x => x) ho ho2
end
end Pn

namespace Pn
open PySem PySem.Spec PyProof.Rows L2 TL
/-- == gives False for what D says, and only makes objects -/
def NeG (X : Cx) (n : Nat) (D : Eqv) : Prop :=
  ∀ (A : Around) (pins : List (Addr × Obj)) (s : Shared) (σ : L2.St) (H : Hp) (x y : V) (u v : Value), Sub X n A → Inv X pins σ H s → RelV x u → RelV y v → D x y H →
    wpAny (model X.prog X.w) A (eqBool u v) (fun r s' => r = false ∧ ∃ H', Inv X pins σ H' s' ∧ Ext H H') X.xe s
section
variable {X : Cx} {n m : Nat} {D D' : Eqv}
theorem NeG.mono (h : NeG X n D) (hn : n ≤ m) : NeG X m D := fun A pins s σ H x y u v sb => h A pins s σ H x y u v (sb.mono hn)
theorem NeG.or (h : NeG X n D) (h' : NeG X n D') : NeG X n (fun x y H => D x y H ∨ D' x y H) := fun A pins s σ H x y u v sb I rx ry d => by
  rcases d with d | d
  · exact h A pins s σ H x y u v sb I rx ry d
  · exact h' A pins s σ H x y u v sb I rx ry d
/-- a text beside an instance of the class at C -/
def DStrOwn (C : Addr) : Eqv := fun x y H => ∃ t b dx fs, x = .str t ∧ y = .ref b ∧ H b = some (.ins C dx fs)
theorem mon_strOwn {C : Addr} : Mon (DStrOwn C) := fun x y H H' e d => by
  obtain ⟨t, b, dx, fs, h1, h2, h3⟩ := d
  exact ⟨t, b, dx, fs, h1, h2, e _ _ h3⟩
def spEqNo (C : Addr) : Sp := fun vs H Q _ => ∃ b t dx fs, vs = [.ref b, .str t] ∧ H b = some (.ins C dx fs) ∧ ∀ H', Ext H H' → Q (.bl false) H'
theorem neG_strOwn {CX : CXT} {C f : Addr} {fd : FuncData} {ps : List Str} {E : XK} (F : FnOk X.prog X.w X.K X.mg X.base CX n f fd ps (spEqNo C))
    (hs : PySem.W.findIn X.K (.ref C) "__eq__" = some (some (.ref f))) (hf : PySem.W.isFn X.K (.ref f) = true) (hsub : PySem.W.mroIn X.K C (.type "str") = some false) (hb : Binds X.K fd ps []) (hx : Passes CX X E) : NeG X n (DStrOwn C) := by
  intro A pins s σ H x y u v sb I rx ry d
  obtain ⟨t, b, dx, fs, rfl, rfl, hb'⟩ := d
  obtain ⟨tk, rfl⟩ := rx
  cases ry
  obtain ⟨mB, J', _⟩ := ins_get I.hok hb'
  obtain ⟨od', J', _⟩ := J'.look
  obtain ⟨m, hF⟩ := I.fr
  have hsp : spEqNo C [.ref b, .str t] H (fun v H' => v = .bl false ∧ Ext H H') E := ⟨b, t, dx, fs, rfl, hb', fun H' e => ⟨rfl, e⟩⟩
  have e0 : Env0 X.prog X.w X.K X.mg X.base A X.stack s H := by
    have e := I.env0
    exact ⟨by rw [sb.fr]; exact e.frames, e.mod, e.bs, e.bsz, e.funs, e.frf, e.hok, e.bare⟩
  have hl := F.len _ _ _ _ hsp
  have r2 : Vals [V.ref b, V.str t] [Value.ref b, Value.str t tk] := .cons rfl (.cons ⟨tk, rfl⟩ .nil)
  have rc : wpAny (model X.prog X.w) A (richCompare .Eq (.str t tk) (.ref b)) (fun r s' => r = .bool false ∧ ∃ H', Inv X pins σ H' s' ∧ Ext H H') X.xe s := by
    refine rc_str_own sb.room.units0 hF I.ok.mod.kin J' hsub hs hf ?_
    refine wpAny_call (codeAny_mono (F.run A X.stack s H ⟨[.ref b, .str t tk], []⟩ [.ref b, .str t tk] [.ref b, .str t] _ E sb.room e0 (by
      have := hb s [.ref b, .str t tk] I.kIn (by simpa using hl)
      simpa using this) r2 hsp) fun r s' hq => ?_)
    cases r with
    | error e => exact hx pins σ H s e s' I hq
    | ok fl =>
      cases fl with
      | ret w =>
        obtain ⟨z, H', I', rz, ez, ex⟩ := I.after hq
        subst ez
        cases rz
        exact ⟨rfl, H', I', ex⟩
      | next => exact False.elim hq
      | brk => exact False.elim hq
      | cont => exact False.elim hq
  unfold eqBool
  refine wpAny_holding ?_
  refine wpAny_ite_split (fun hab => absurd (eq_of_beq hab) nofun) (fun _ => ?_)
  refine wpAny_bind (wpAny_mono rc (fun v s' hv => ?_) fun _ _ x => x)
  obtain ⟨rfl, q⟩ := hv
  exact wpAny_truthy_bool ⟨rfl, q⟩
/-- a text beside a list -/
def DStrLst : Eqv := fun x y H => ∃ t b xs, x = .str t ∧ y = .ref b ∧ H b = some (.lst xs)
theorem mon_strLst : Mon DStrLst := fun x y H H' e d => by
  obtain ⟨t, b, xs, h1, h2, h3⟩ := d
  exact ⟨t, b, xs, h1, h2, e _ _ h3⟩
theorem neG_strLst : NeG X 0 DStrLst := by
  intro A pins s σ H x y u v sb I rx ry d
  obtain ⟨t, b, xs, rfl, rfl, hb⟩ := d
  obtain ⟨tk, rfl⟩ := rx
  cases ry
  obtain ⟨its, r, pl, hz⟩ := I.list (SqL.of hb)
  exact SeqAt.EqAt.str_list t tk pl.isList sb.room.units0 X.prog X.w X.xe _ ⟨rfl, H, I, Ext.rfl'⟩
/-- two tuples whose first things differ -/
def DHead (K : PySem.W.Frag) (D : Eqv) : Eqv := fun x y H => ∃ a b x0 xs y0 ys, x = .ref a ∧ y = .ref b ∧ SqT K H a (x0 :: xs) ∧ SqT K H b (y0 :: ys) ∧ D x0 y0 H
theorem mon_head {K : PySem.W.Frag} (hD : Mon D) : Mon (DHead K D) := fun x y H H' e d => by
  obtain ⟨a, b, x0, xs, y0, ys, h1, h2, h4, h5, h6⟩ := d
  exact ⟨a, b, x0, xs, y0, ys, h1, h2, h4.ext e, h5.ext e, hD _ _ _ _ e h6⟩
theorem neG_head (h : NeG X n D) (sep : ∀ x y H v, D x y H → RelV x v → RelV y v → False) : NeG X (n + 1) (DHead X.K D) := by
  intro A pins s σ H x y u v sb I rx ry d
  obtain ⟨a, b, x0, xs, y0, ys, rfl, rfl, ha, hb, d0⟩ := d
  cases rx
  cases ry
  obtain ⟨its, r, e, z⟩ := I.tuple ha
  obtain ⟨its2, r2, e2, z2⟩ := I.tuple hb
  cases r with
  | cons q r =>
  cases r2 with
  | cons q2 r2 =>
  have ne : a ≠ b := fun z => by
    subst z
    obtain ⟨⟨c1, d1, t1, s1⟩, ho, hc, n1, hd⟩ := id e
    obtain ⟨⟨c2, d2, t2, s2⟩, ho2, hc2, n2, hd2⟩ := id e2
    rw [ho] at ho2
    injection ho2 with ho2
    injection ho2 with _ _ h3 _
    simp only at hd hd2
    rw [← h3, hd] at hd2
    injection hd2 with h4 _
    have h5 := congrArg Array.toList h4
    simp only at h5
    injection h5 with h6 _
    subst h6
    exact sep _ _ _ _ d0 q q2
  refine GQ.eqBool_refG ne ?_
  refine rc_tup_head (by simp) (by simp) sb.room.units0 e e2 ?_
  exact wpAny_mono (h A.in1 pins s σ H x0 y0 _ _ sb.in1 I q q2 d0) (fun r s' z => ⟨z.1, false, rfl, rfl, z.2⟩) fun _ _ x => x
def rInNo (K : PySem.W.Frag) (D : Eqv) : R2 := fun x y H Q => ∃ p xs, y = .ref p ∧ SqT K H p xs ∧ (∀ z ∈ xs, D z x H) ∧ ∀ H', Ext H H' → Q (.bl false) H'
theorem op_inNo (hD : Mon D) (h : NeG X n D) (hr : Room (n + 1) X.A) : OpR X (compareOp .In) (rInNo X.K D) := by
  intro pins s σ H x y v u Q I rx ry hq
  obtain ⟨p, xs, rfl, hp, hd, q⟩ := hq
  cases ry
  have hr' : Sub X n X.A.in1 := ⟨hr.in1, rfl⟩
  obtain ⟨its, r, e, z⟩ := I.tuple hp
  obtain ⟨⟨cls, dd, data, sl⟩, ho, hc, n', hdt⟩ := id e
  simp only at hc hdt
  subst hc hdt
  show wpAny (model X.prog X.w) X.A (do return .bool (← contains (.ref p) v)) (EP X pins σ Q) X.xe s
  refine wpAny_bind (wpAny_contains_slot (T := "tuple") ⟨_, ho, rfl⟩ F.slot_tuple_contains (GQ.call_here F.slot_tuple_contains ⟨_, ho, rfl⟩ F.entry_tuple_contains (F.args_tuple_contains_2 _ _) ?_))
  refine tuple_noG p its.toArray n' dd sl v (J := fun s' => ∃ H', Inv X pins σ H' s' ∧ Ext H H') (fun y hy s' j => ?_) (fun s' j => ?_) ho ⟨H, I, Ext.rfl'⟩
  · obtain ⟨H1, I1, e1⟩ := j
    obtain ⟨i, hi, rfl⟩ := List.getElem_of_mem (show y ∈ its by simpa using hy)
    have hl := r.length
    have hi2 : i < xs.length := by rw [hl]; exact hi
    obtain ⟨u2, hu2, ry⟩ := r.get (List.getElem?_eq_getElem hi2)
    rw [List.getElem?_eq_getElem hi] at hu2
    cases hu2
    exact wpAny_mono (h X.A.in1 pins s' σ H1 xs[i] x _ v ⟨hr'.room, rfl⟩ I1 ry rx (hD _ _ _ _ e1 (hd _ (List.getElem_mem hi2)))) (fun r s2 z => ⟨z.1, z.2.choose, z.2.choose_spec.1, e1.trans z.2.choose_spec.2⟩) fun _ _ x => x
  · obtain ⟨H1, I1, e1⟩ := j
    exact wpAny_truthy_bool (wpAny_pure ⟨.bl false, H1, I1, rfl, q _ e1⟩)
end
end Pn

namespace Pn
open PySem PySem.Spec PyProof.Rows L2 TL
abbrev sWordOf : Stmt := inClass (top 15) 2
abbrev sLLen : Stmt := inClass (top 15) 9
/-! ### leaves beside anything, the word of a pair of anything, how many -/
section
variable {X : Cx} {CX : CXT} {k : Nat} {f C : Addr} {fd : FuncData} {ps : List Str} {sp : Sp} {E : XK}
/-- an own instance with an __eq__ of its own == data -/
def rEqOD (K : PySem.W.Frag) (f : Addr) (sp : Sp) (E : XK) : R2 := fun x y H Q => ∃ (a C dx : Addr) (fs : List (Str × V)) (d : PyData), x = .ref a ∧ H a = some (.ins C dx fs) ∧ PySem.W.findIn K (.ref C) "__eq__" = some (some (.ref f)) ∧ Dp K H y d ∧ PySem.W.notFirst K C (.type (tyD d)) = true ∧ sp [x, y] H Q E
theorem op_eqOD (F : FnOk X.prog X.w X.K X.mg X.base CX k f fd ps sp) (hf : PySem.W.isFn X.K (.ref f) = true) (hr : Room k X.A) (hb : Binds X.K fd ps []) (hx : Passes CX X E) : OpR X (compareOp .Eq) (rEqOD X.K f sp E) := by
  intro pins s σ H x y v u Q I rx ry h
  obtain ⟨a, C, dx, fs, d, rfl, ha, hs, hd, hn, q⟩ := h
  cases rx
  obtain ⟨mA, O, _⟩ := ins_get I.hok ha
  obtain ⟨od, J, _⟩ := O.look
  obtain ⟨m, hF⟩ := I.fr
  show wpAny (model X.prog X.w) X.A (richCompare .Eq (.ref a) u) (EP X pins σ Q) X.xe s
  have hl : PySem.W.Looks (model X.prog X.w) s.heap (typeOf u) (.type (tyD d)) := by
    cases hd with
    | non => cases (show u = Value.none from ry); exact PySem.W.Looks.of_pure rfl
    | bl b => cases (show u = Value.bool b from ry); exact PySem.W.Looks.of_pure rfl
    | int i => obtain ⟨t, rfl⟩ := (show ∃ t, u = Value.int i t from ry); exact PySem.W.Looks.of_pure rfl
    | str z => obtain ⟨t, rfl⟩ := (show ∃ t, u = Value.str z t from ry); exact PySem.W.Looks.of_pure rfl
    | lst sq al =>
      cases ry
      obtain ⟨its, rv, ⟨o, n, e, c, dn, dd⟩, _⟩ := I.list sq
      exact fun A Q E s k q => wpAny_typeOf_ref (k _ _ e) (by rw [c]; exact q)
    | tup sq al =>
      cases ry
      obtain ⟨its, rv, ⟨o, ho, hcl, n, hd⟩, _⟩ := I.tuple sq
      exact fun A Q E s k q => wpAny_typeOf_ref (k _ _ ho) (by rw [hcl]; exact q)
  refine PySem.W.cmp_K (op := .Eq) (tb := .type (tyD d)) hr.units0 hF I.ok.mod.kin J hl hn hs hf ?_
  refine wpAny_mono (run_fnA F hr I.env0 hb hx I (.cons (show RelV (.ref a) (Value.ref a) from rfl) (.cons ry .nil)) q) (fun w s' z => ?_) fun _ _ x => x
  obtain ⟨z', H', I', rz, qz⟩ := z
  exact SlX.cmpback rz ⟨z', H', I', rz, qz⟩
end
section
variable {P : Program} {w : World} {K : PySem.W.Frag} {mg : Str → Option Value} {base : Heap} {R : TRowz K mg} {F : TFilz R} {Y : TLv F}
structure TLvW {Y : TLv F} (Z : TLvE Y) (ZP : TLvP Y) : Type where
  word : TMeth K Y.C "word_of" "Leaves.word_of" sWordOf ["self", "name", "counter"]
  len : TMeth K Y.C "__len__" "Leaves.__len__" sLLen ["self"]
  hsub : PySem.W.mroIn K Y.C (.type "str") = some false
  kD : ∀ d : PyData, PySem.W.kitOne K (.type (tyD d)) (.ref Y.C) = some false
  nD : ∀ d : PyData, PySem.W.notFirst K Y.C (.type (tyD d)) = true
/-- leaves == what is none -/
def spLEqN (Y : TLv F) : Sp := fun vs H Q _ => ∃ (x dx : Addr) (fs : List (Str × V)) (v : V) (d : PyData), vs = [.ref x, v] ∧ H x = some (.ins Y.C dx fs) ∧ Dp K H v d ∧ Q (.bl false) H
theorem ok_lEqN {Z : TLvE Y} {ZP : TLvP Y} (W : TLvW Z ZP) : FnOk P w K mg base CX0 2 Z.eq.f Z.eq.fd ["self", "other"] (spLEqN Y) := by
  refine Z.eq.F.ok scLEq (fun vs H Q E h => ?_) (fun cdv A outer s H vs Q E hr h => ?_)
  · obtain ⟨x, dx, fs, v, d, rfl, _⟩ := h
    rfl
  · obtain ⟨x, dx, fs, v, d, rfl, hx, hd, q⟩ := h
    refine ⟨_, (pss_one (ps_ret (pe_and (pe_callB call_isi (by rfl) R.N.mIsi (by decide +kernel) (pa_cons (pv 1) (pa_cons (pe_glob (v := .ref Y.C) (by rfl) Y.mC rfl) pa_nil))) (pe_one (pe_cmpR (op_eqD (roomLv hr)) (pe_fld (pv 0) rfl) (pe_fld (pv 1) rfl) (nomark _)))))), ?_⟩
    exact ⟨_, rfl, v, .ref Y.C, _, _, false, rfl, .own _, dp_ty hd, W.kD d, _, rfl, iteF q⟩
/-- two texts that are not the same -/
def DStrNe : Eqv := fun x y _ => ∃ t z : Str, x = .str t ∧ y = .str z ∧ t ≠ z
theorem mon_strNe : Mon DStrNe := fun x y H H' e d => d
theorem neG_strNe {X : Cx} {n : Nat} : NeG X n DStrNe := by
  intro A pins s σ H x y u v sb I rx ry d
  obtain ⟨t, z, rfl, rfl, ne⟩ := d
  obtain ⟨tk, rfl⟩ := rx
  obtain ⟨tk2, rfl⟩ := ry
  exact SeqAt.EqAt.str_str t tk z tk2 X.prog X.w X.xe _ ⟨by simpa using ne, H, I, Ext.rfl'⟩
def DOdd (C : Addr) : Eqv := fun x y H => (DStrOwn C x y H ∨ DStrLst x y H) ∨ DStrNe x y H
theorem mon_odd {C : Addr} : Mon (DOdd C) := (mon_strOwn.or mon_strLst).or mon_strNe
theorem sep_odd {C : Addr} : ∀ x y H v, DOdd C x y H → RelV x v → RelV y v → False := fun x y H v d rx ry => by
  rcases d with (⟨t, b, dx, fs, rfl, rfl, _⟩ | ⟨t, b, xs, rfl, rfl, _⟩) | ⟨t, z, rfl, rfl, ne⟩
  · obtain ⟨tk, rfl⟩ := rx
    cases ry
  · obtain ⟨tk, rfl⟩ := rx
    cases ry
  · obtain ⟨tk, rfl⟩ := rx
    obtain ⟨tk2, e⟩ := ry
    injection e with e _
    exact ne e
def rInW (Y : TLv F) : R2 := fun x y H Q => ∃ (p : Addr) (as : List Addr) (rs : List Tri), y = .ref p ∧ SqT K H p (as.map V.ref) ∧ TrisIn K H as rs ∧ (∀ t ∈ rs, triS t) ∧
  ((∃ d, Dp K H x d ∧ SeqAt.shaped d = true ∧ Q (.bl ((rs.map triD).any fun z => PyData.eqv z d)) H) ∨ ∃ (a : Addr) (v : V) (ys : List V), x = .ref a ∧ SqT K H a (v :: ys) ∧ (∀ t ∈ rs, DOdd Y.C (.str t.1) v H) ∧ ∀ H', Same H H' → Q (.bl false) H')
theorem op_inW {X : Cx} (hK : X.K = K) (hm : X.mg = mg) {Z : TLvE Y} {ZP : TLvP Y} (W : TLvW Z ZP) (hu : X.A.units + 65 < PySem.cLine) (hr : Room 4 X.A) : OpR X (compareOp .In) (rInW Y) := by
  subst hK
  subst hm
  intro pins s σ H x y v u Q I rx ry h
  obtain ⟨p, as, rs, rfl, hp, hT, hS, h⟩ := h
  rcases h with ⟨d, hd, sd, q⟩ | ⟨a, v0, ys, rfl, ha, ho, q⟩
  · obtain ⟨as1, r1⟩ := Dp.reads I d x v hd rx
    obtain ⟨bs1, r2⟩ := Dp.reads I (.tuple (rs.map triD)) (.ref p) u (.tup hp (tris_dp hT)) ry
    have se := tris_shaped hS
    have z := SeqAt.depth_of_shaped sd
    exact SeqAt.in_tuple_reads r2 r1 (SeqAt.canLay_of_shaped se) (SeqAt.canLay_of_shaped sd) (by have := Nat.min_le_right (PyData.depthAll (rs.map triD)) d.depth; omega) ⟨.bl _, H, I, rfl, q⟩
  · have F2 : FnOk X.prog X.w X.K X.mg X.base CX0 2 Z.eq.f Z.eq.fd ["self", "other"] (spEqNo Y.C) := (ok_lEqN W).imp fun vs H Q E h => by
      obtain ⟨b, t, dx, fs, rfl, hb, q⟩ := h
      exact ⟨b, dx, fs, .str t, .str t, rfl, hb, .str t, q H fun _ _ e => e⟩
    have N1 := neG_strOwn (E := E0) F2 Z.eq.hs Z.eq.hf W.hsub Z.eq.b pass0
    have N : NeG X 2 (DOdd Y.C) := (N1.or (neG_strLst.mono (by decide))).or neG_strNe
    refine op_inNo (mon_head mon_odd) (neG_head N sep_odd) hr pins s σ H _ _ v u Q I rx ry ⟨p, as.map V.ref, rfl, hp, fun z hz => ?_, fun H' e => q H' e⟩
    obtain ⟨b, hb, rfl⟩ := List.mem_map.mp hz
    obtain ⟨i, hi⟩ := List.getElem?_of_mem hb
    obtain ⟨t, ht, hbt⟩ := paired_at hT hi
    exact ⟨b, a, _, _, v0, ys, rfl, rfl, hbt, ha, ho t (List.mem_of_getElem? ht)⟩
def rEqLv (Y : TLv F) : R2 := fun x y H Q => ∃ (a b : Addr) (rs qs : List Tri), x = .ref a ∧ y = .ref b ∧ LvAt Y H a rs ∧ LvAt Y H b qs ∧ Q (.bl (decide (rs = qs))) H
theorem op_eqLv {X : Cx} (hK : X.K = K) (hm : X.mg = mg) {Z : TLvE Y} (RR : TLvR Z) (hr : Room 2 X.A) : OpR X (compareOp .Eq) (rEqLv Y) := by
  subst hK
  subst hm
  intro pins s σ H x y v u Q I rx ry h
  obtain ⟨a, b, rs, qs, rfl, rfl, ha, hb, q⟩ := h
  obtain ⟨dx, _, _, hx, _⟩ := id ha
  obtain ⟨dy, _, _, hy, _⟩ := id hb
  exact op_eqIns (ok_lEq Z) Z.eq.hf hr Z.eq.b pass0 pins s σ H _ _ v u Q I rx ry ⟨a, _, dx, _, rfl, hx, Z.eq.hs, .inr ⟨b, _, dy, _, rfl, hy, RR.nC⟩, a, b, rs, qs, rfl, ha, hb, q⟩
def rEqOth (Y : TLv F) : R2 := fun x y H Q => ∃ (a : Addr) (rs : List Tri) (d : PyData), x = .ref a ∧ LvAt Y H a rs ∧ Dp K H y d ∧ Q (.bl false) H
theorem op_eqOth {X : Cx} (hK : X.K = K) (hm : X.mg = mg) {Z : TLvE Y} {ZP : TLvP Y} (W : TLvW Z ZP) (hr : Room 2 X.A) : OpR X (compareOp .Eq) (rEqOth Y) := by
  subst hK
  subst hm
  intro pins s σ H x y v u Q I rx ry h
  obtain ⟨a, rs, d, rfl, ha, hd, q⟩ := h
  obtain ⟨dx, _, _, hx, _⟩ := id ha
  exact op_eqOD (ok_lEqN W) Z.eq.hf hr Z.eq.b pass0 pins s σ H _ _ v u Q I rx ry ⟨a, _, dx, _, d, rfl, hx, Z.eq.hs, hd, W.nD d, a, dx, _, y, d, rfl, hx, hd, q⟩
def spLLen (Y : TLv F) : Sp := fun vs H Q _ => ∃ (x : Addr) (rs : List Tri), vs = [.ref x] ∧ LvAt Y H x rs ∧ ∀ H', Same H H' → Q (.int ((pairsM rs).length : Int)) H'
theorem scLLen : FnScope ["self"] ["self"] (defScope sLLen) := ⟨rfl, rfl, rfl, by decide +kernel, rfl, by decide +kernel, by decide +kernel⟩
theorem ok_lLen {Z : TLvE Y} {ZP : TLvP Y} (W : TLvW Z ZP) : FnOk P w K mg base CX0 3 W.len.f W.len.fd ["self"] (spLLen Y) := by
  refine W.len.F.ok scLLen (fun vs H Q E h => ?_) (fun cdv A outer s H vs Q E hr h => ?_)
  · obtain ⟨x, rs, rfl, _⟩ := h
    rfl
  · obtain ⟨x, rs, rfl, hL, q⟩ := h
    refine ⟨_, (pss_one (ps_ret (pe_callB call_len_seq (by rfl) R.N.mLen PySem.boot_len (pa_cons (pe_prop (pv 0) Y.cl ZP.pairs.P (ok_lPairs ZP) (hr.mono (by decide)) ZP.pairs.b .nil pass0 rfl) pa_nil)))), ?_⟩
    obtain ⟨dx, _, _, h1, _⟩ := id hL
    refine ⟨_, rfl, x, dx, _, rfl, h1, x, rs, rfl, hL, fun p cs H2 s2 hp hc => ?_⟩
    refine ⟨p, _, rfl, .inr hp, ?_⟩
    rw [List.length_map, paired_len hc]
    exact q _ s2
def rLenLv (Y : TLv F) : List V → Hp → VK → Prop := fun xs H Q => ∃ (x : Addr) (rs : List Tri), xs = [.ref x] ∧ LvAt Y H x rs ∧ ∀ H', Same H H' → Q (.int ((pairsM rs).length : Int)) H'
theorem call_lenLv {X : Cx} (hK : X.K = K) (hm : X.mg = mg) {Z : TLvE Y} {ZP : TLvP Y} (W : TLvW Z ZP) (hr : Room 4 X.A) : CallR X (.builtin "len") (rLenLv Y) := by
  subst hK
  subst hm
  intro pins s σ H xs us Q I r h
  obtain ⟨x, rs, rfl, hL, q⟩ := h
  obtain ⟨dx, _, _, h1, _, _, _, _, h6⟩ := id hL
  refine call_lenOwn (ok_lLen W) W.len.hs W.len.hf hr W.len.b pass0 pins s σ H _ us Q I r ⟨x, dx, _, rfl, h1, x, rs, rfl, hL, fun H' s' => ⟨_, rfl, ?_, q H' s'⟩⟩
  exact Nat.lt_of_le_of_lt (Nat.le_trans (List.length_filter_le _ _) h6) (by decide)
/-- the word of a pair of data -/
def hasTriD (rs : List Tri) (d1 d2 : PyData) (w : Str) : Bool := (rs.map triD).any fun z => PyData.eqv z (.tuple [d1, d2, .str w])
def wdOfD (rs : List Tri) (d1 d2 : PyData) : Str := if hasTriD rs d1 d2 "any" = true then "any" else if hasTriD rs d1 d2 "on" = true then "on" else ""
def spWordOf (Y : TLv F) : Sp := fun vs H Q _ => ∃ (x : Addr) (rs : List Tri) (v1 v2 : V), vs = [.ref x, v1, v2] ∧ LvAt Y H x rs ∧
  ((∃ d1 d2, Dp K H v1 d1 ∧ Dp K H v2 d2 ∧ (∀ w : Str, PyData.strOk w = true → SeqAt.shaped (.tuple [d1, d2, .str w]) = true) ∧ ∀ H', Same H H' → Q (.str (wdOfD rs d1 d2)) H') ∨ ((∀ t ∈ rs, DOdd Y.C (.str t.1) v1 H) ∧ ∀ H', Same H H' → Q (.str "") H'))
theorem scWordOf : FnScope ["self", "name", "counter"] ["self", "name", "counter"] (defScope sWordOf) := ⟨rfl, rfl, rfl, by decide +kernel, rfl, by decide +kernel, by decide +kernel⟩
theorem ok_wordOf {Z : TLvE Y} {ZP : TLvP Y} (W : TLvW Z ZP) : FnOk P w K mg base CX0 5 W.word.f W.word.fd ["self", "name", "counter"] (spWordOf Y) := by
  refine W.word.F.ok scWordOf (fun vs H Q E h => ?_) (fun cdv A outer s H vs Q E hr h => ?_)
  · obtain ⟨x, rs, v1, v2, rfl, _⟩ := h
    rfl
  · obtain ⟨x, rs, v1, v2, rfl, hL, h⟩ := h
    refine ⟨_, (pss_cons (ps_if (pt_cmpR (op_inW (K := K) (mg := mg) rfl rfl W (roomTr hr) (hr.mono (by decide))) (pe_tup (pa_cons (pv 1) (pa_cons (pv 2) (pa_cons pe_str pa_nil)))) (pe_fld (pv 0) rfl) rfl) (pss_one (ps_ret pe_str)) pss_nil)
      (pss_cons (ps_if (pt_cmpR (op_inW (K := K) (mg := mg) rfl rfl W (roomTr hr) (hr.mono (by decide))) (pe_tup (pa_cons (pv 1) (pa_cons (pv 2) (pa_cons pe_str pa_nil)))) (pe_fld (pv 0) rfl) rfl) (pss_one (ps_ret pe_str)) pss_nil)
      (pss_one (ps_ret pe_str)))), ?_⟩
    obtain ⟨dx, p, as, h1, h2, h3, _, h5, h6⟩ := id hL
    have three : 3 ≤ sizeLine := by decide
    have hS : ∀ t ∈ rs, triS t := fun t ht => tri_strOk (h5 t ht)
    have so : PyData.strOk "any" = true ∧ PyData.strOk "on" = true := by decide +kernel
    refine ⟨_, rfl, _, rfl, three, fun a1 ha1 => ?_⟩
    have s1 := Same.new (o := .tup [v1, v2, .str "any"]) ha1
    have e1 : upd H a1 (.tup [v1, v2, .str "any"]) a1 = some (.tup [v1, v2, .str "any"]) := upd_same
    generalize upd H a1 (.tup [v1, v2, .str "any"]) = H1 at s1 e1 ⊢
    refine ⟨_, rfl, x, Y.C, dx, _, .ref p, rfl, s1 _ _ h1, Y.cl, Y.noR, lv_r, p, as, rs, rfl, Same.sqt s1 h2, h3.same s1, hS, ?_⟩
    rcases h with ⟨d1, d2, hd1, hd2, sh, q⟩ | ⟨ho, q⟩
    · refine .inl ⟨_, .tup (SqT.of e1) (.cons (dp_same s1 _ _ hd1) (.cons (dp_same s1 _ _ hd2) (.cons (.str _) .nil))), sh _ so.1, ?_⟩
      by_cases c1 : hasTriD rs d1 d2 "any" = true
      · refine ⟨_, rfl, iteTD c1 ?_⟩
        have e : wdOfD rs d1 d2 = "any" := if_pos c1
        rw [e] at q
        exact q _ s1
      · refine ⟨_, rfl, iteFD (Bool.eq_false_iff.mpr c1) ?_⟩
        refine ⟨_, rfl, _, rfl, three, fun a2 ha2 => ?_⟩
        have s2 := s1.trans (Same.new (o := .tup [v1, v2, .str "on"]) ha2)
        have e2 : upd H1 a2 (.tup [v1, v2, .str "on"]) a2 = some (.tup [v1, v2, .str "on"]) := upd_same
        generalize upd H1 a2 (.tup [v1, v2, .str "on"]) = H2 at s2 e2 ⊢
        refine ⟨_, rfl, x, Y.C, dx, _, .ref p, rfl, s2 _ _ h1, Y.cl, Y.noR, lv_r, p, as, rs, rfl, Same.sqt s2 h2, h3.same s2, hS, ?_⟩
        refine .inl ⟨_, .tup (SqT.of e2) (.cons (dp_same s2 _ _ hd1) (.cons (dp_same s2 _ _ hd2) (.cons (.str _) .nil))), sh _ so.2, ?_⟩
        by_cases c2 : hasTriD rs d1 d2 "on" = true
        · refine ⟨_, rfl, iteTD c2 ?_⟩
          have e : wdOfD rs d1 d2 = "on" := (if_neg c1).trans (if_pos c2)
          rw [e] at q
          exact q _ s2
        · refine ⟨_, rfl, iteFD (Bool.eq_false_iff.mpr c2) ?_⟩
          have e : wdOfD rs d1 d2 = "" := (if_neg c1).trans (if_neg c2)
          rw [e] at q
          exact q _ s2
    · refine .inr ⟨a1, v1, _, rfl, SqT.of e1, fun t ht => mon_odd _ _ _ _ s1 (ho t ht), fun Ha sa => ?_⟩
      refine ⟨_, rfl, iteFD rfl ?_⟩
      refine ⟨_, rfl, _, rfl, three, fun a2 ha2 => ?_⟩
      have s2 := (s1.trans sa).trans (Same.new (o := .tup [v1, v2, .str "on"]) ha2)
      have e2 : upd Ha a2 (.tup [v1, v2, .str "on"]) a2 = some (.tup [v1, v2, .str "on"]) := upd_same
      generalize upd Ha a2 (.tup [v1, v2, .str "on"]) = H2 at s2 e2 ⊢
      refine ⟨_, rfl, x, Y.C, dx, _, .ref p, rfl, s2 _ _ h1, Y.cl, Y.noR, lv_r, p, as, rs, rfl, Same.sqt s2 h2, h3.same s2, hS, ?_⟩
      refine .inr ⟨a2, v1, _, rfl, SqT.of e2, fun t ht => mon_odd _ _ _ _ s2 (ho t ht), fun Hb sb => ?_⟩
      refine ⟨_, rfl, iteFD rfl ?_⟩
      exact q _ (s2.trans sb)
end
end Pn

namespace Pn
open PySem PySem.Spec PyProof.Rows L2 TL
/-! ### leaves told by their text, words of pairs -/
def txt3 (t : Tri) : Str := Txt.join " " (tl3 t)
theorem pool_txt : (poolT.all fun t => decide (59 ∉ tl (txt3 t)) && (decide (txt3 t ≠ "-") && decide (Txt.split (txt3 t) " " = tl3 t))) = true := by decide +kernel
theorem good_txt {t : Tri} (h : goodT t) : 59 ∉ tl (txt3 t) ∧ txt3 t ≠ "-" ∧ Txt.split (txt3 t) " " = tl3 t := by
  have q := List.all_eq_true.mp pool_txt t (mem_poolT h)
  rw [Bool.and_eq_true, Bool.and_eq_true, decide_eq_true_iff, decide_eq_true_iff, decide_eq_true_iff] at q
  exact q
theorem tl3_same {a b : Tri} (h : tl3 a = tl3 b) : a = b := by
  obtain ⟨a1, a2, a3⟩ := a
  obtain ⟨b1, b2, b3⟩ := b
  injection h with h1 h
  injection h with h2 h
  injection h with h3 _
  have h1 : a1 = b1 := h1
  have h2 : a2 = b2 := h2
  have h3 : a3 = b3 := h3
  rw [h1, h2, h3]
theorem map_inj_on {α β : Type} {f : α → β} : ∀ {l m : List α}, (∀ a ∈ l, ∀ b ∈ m, f a = f b → a = b) → l.map f = m.map f → l = m
  | [], [], _, _ => rfl
  | [], _ :: _, _, h => nomatch h
  | _ :: _, [], _, h => nomatch h
  | a :: l, b :: m, hi, h => by
    injection h with h1 h2
    rw [hi a List.mem_cons_self b List.mem_cons_self h1, map_inj_on (fun x hx y hy => hi x (List.mem_cons_of_mem _ hx) y (List.mem_cons_of_mem _ hy)) h2]
def partsT (rs : List Tri) : List Str := if rs = [] then [("-" : Str)] else (pairsM rs).map txt3
theorem RRep.pairs_nil {rs : List Tri} {f : KP → Str} (h : RRep rs f) (e : pairsM rs = []) : rs = [] := by
  cases hr : rs with
  | nil => rfl
  | cons t l =>
    have ht : triK (keyOf t) t.2.2 ∈ rs := by rw [triK_of, hr]; exact List.mem_cons_self
    have hf : f (keyOf t) ≠ "" := by
      rcases (h.mem _ _).mp ht with ⟨_, z⟩ | ⟨_, z⟩
      · rw [z]; decide
      · exact z
    have := (h.pairs (keyOf t) _).mpr ⟨rfl, hf⟩
    rw [e] at this
    cases this
theorem pairs_good {rs : List Tri} {f : KP → Str} (h : RRep rs f) : ∀ t ∈ pairsM rs, goodT t := fun t ht => h.ok t (List.mem_filter.mp ht).1
theorem leav_split {rs : List Tri} {f : KP → Str} (h : RRep rs f) : Txt.split (leavT rs) "; " = partsT rs := by
  by_cases hz : rs = []
  · have e1 : leavT rs = "-" := if_pos hz
    have e2 : partsT rs = [("-" : Str)] := if_pos hz
    rw [e1, e2]
    decide +kernel
  · have e1 : leavT rs = Txt.join "; " ((pairsM rs).map txt3) := if_neg hz
    have e2 : partsT rs = (pairsM rs).map txt3 := if_neg hz
    rw [e1, e2]
    refine split_join (s := 59) (S := [32]) (by decide +kernel) (by decide +kernel) (fun z => hz (h.pairs_nil (List.map_eq_nil_iff.mp z))) fun p hp => ?_
    obtain ⟨t, ht, rfl⟩ := List.mem_map.mp hp
    exact (good_txt (pairs_good h t ht)).1
theorem leav_inj {rs qs : List Tri} {f g : KP → Str} (h : RRep rs f) (h2 : RRep qs g) (e : leavT rs = leavT qs) : rs = qs := by
  have ep : partsT rs = partsT qs := by rw [← leav_split h, ← leav_split h2, e]
  have one : ∀ {us : List Tri} {k : KP → Str}, RRep us k → [("-" : Str)] = (pairsM us).map txt3 → False := fun {us k} hu z => by
    have : ("-" : Str) ∈ (pairsM us).map txt3 := by rw [← z]; exact List.mem_cons_self
    obtain ⟨t, ht, e⟩ := List.mem_map.mp this
    exact (good_txt (pairs_good hu t ht)).2.1 e
  unfold partsT at ep
  by_cases h1 : rs = []
  · by_cases h3 : qs = []
    · rw [h1, h3]
    · rw [if_pos h1, if_neg h3] at ep
      exact (one h2 ep).elim
  · by_cases h3 : qs = []
    · rw [if_neg h1, if_pos h3] at ep
      exact (one h ep.symm).elim
    · rw [if_neg h1, if_neg h3] at ep
      have epairs : pairsM rs = pairsM qs := map_inj_on (fun a ha b hb z => tl3_same (by rw [← (good_txt (pairs_good h a ha)).2.2, ← (good_txt (pairs_good h2 b hb)).2.2, z])) ep
      have ef : f = g := funext fun k => by
        by_cases hk : f k = ""
        · by_cases hg : g k = ""
          · rw [hk, hg]
          · have := (h2.pairs k _).mpr ⟨rfl, hg⟩
            rw [← epairs] at this
            exact ((h.pairs k _).mp this).1
        · have := (h.pairs k _).mpr ⟨rfl, hk⟩
          rw [epairs] at this
          exact ((h2.pairs k _).mp this).1.symm
      subst ef
      exact h.uniq h2
theorem has_txt (rs : List Tri) (n c w : Str) : hasTriD rs (.str n) (.str c) w = decide ((n, c, w) ∈ rs) := tris_any rs (n, c, w)
theorem word_texts {ts : List Tri} (g : ∀ t ∈ ts, goodT t) (n c : Str) : wdOfD (rightsM ts) (.str n) (.str c) = wordM ts (n, c) := by
  unfold wdOfD wordM
  rw [has_txt, has_txt]
  have ea : (n, c, ("any" : Str)) ∈ rightsM ts ↔ triK (n, c) "any" ∈ ts := mem_any (k := (n, c))
  have eo : (n, c, ("on" : Str)) ∈ rightsM ts ↔ triK (n, c) "any" ∈ ts ∨ triK (n, c) "on" ∈ ts := mem_on (k := (n, c)) g
  by_cases h1 : triK (n, c) "any" ∈ ts
  · rw [if_pos h1, if_pos (decide_eq_true (ea.mpr h1))]
  · rw [if_neg h1, if_neg (by rw [decide_eq_true_iff, ea]; exact h1)]
    by_cases h2 : triK (n, c) "on" ∈ ts
    · rw [if_pos h2, if_pos (decide_eq_true (eo.mpr (.inr h2)))]
    · rw [if_neg h2, if_neg (by rw [decide_eq_true_iff, eo]; exact fun z => z.elim h1 h2)]
theorem word_none {rs : List Tri} {d1 : PyData} (h : ∀ t ∈ rs, t.2.1 ≠ "qq") : wdOfD rs d1 (.str "qq") = "" := by
  have e : ∀ w, hasTriD rs d1 (.str "qq") w = false := fun w => by
    unfold hasTriD
    rw [List.any_eq_false]
    intro z hz
    obtain ⟨t, ht, rfl⟩ := List.mem_map.mp hz
    have n := h t ht
    have e2 : PyData.eqv (.str t.2.1) (.str "qq") = false := by simp [PyData.eqv, n]
    have e3 : PyData.eqv (triD t) (.tuple [d1, .str "qq", .str w]) = PyData.eqvAll [.str t.1, .str t.2.1, .str t.2.2] [d1, .str "qq", .str w] := by
      unfold triD
      rw [PyData.eqv]
    rw [e3, PyData.eqvAll, PyData.eqvAll, e2, Bool.false_and, Bool.and_false]
    exact Bool.false_ne_true
  unfold wdOfD
  rw [e, e]
  rfl
theorem good_noqq {t : Tri} (h : goodT t) : t.1 ≠ "qq" ∧ t.2.1 ≠ "qq" := by
  have h1 : ∀ n ∈ poolN, n ≠ "qq" := by decide
  have h2 : ∀ n ∈ poolC, n ≠ "qq" := by decide
  exact ⟨h1 _ h.1.1, h2 _ h.1.2⟩
/-! ### all but lists and dicts of texts -/
def Cut (A B : Hp) : Prop := ∀ a o, A a = some o → (∀ xs, o ≠ .lst xs) → (∀ kvs, o ≠ .dK kvs) → B a = some o
theorem cut_hhL {H : Hp} {d g L : Addr} {xs : List V} (hD : DealAt H d g) (hL : H L = some (.lst xs)) : Cut H (hhL H d g L) := fun a o e n1 n2 => by
  obtain ⟨_, ys, n, m, t, ed, eg, _⟩ := hD
  refine hhL_get e (fun z => ?_) (fun z => ?_) (fun z => ?_)
  · rw [z, hL] at e; cases e; exact n1 _ rfl
  · rw [z, ed] at e; cases e; exact n2 _ rfl
  · rw [z, eg] at e; cases e; exact n1 _ rfl
theorem cut_hh {H : Hp} {d g : Addr} (hD : DealAt H d g) : Cut H (hh H d g) := fun a o e n1 n2 => by
  obtain ⟨_, ys, n, m, t, ed, eg, _⟩ := hD
  refine hh_get e (fun z => ?_) (fun z => ?_)
  · rw [z, ed] at e; cases e; exact n2 _ rfl
  · rw [z, eg] at e; cases e; exact n1 _ rfl
section
variable {K : PySem.W.Frag} {mg : Str → Option Value} {R : TRowz K mg} {F : TFilz R}
theorem cut_sqt {A B : Hp} {a : Addr} {xs : List V} (c : Cut A B) (h : SqT K A a xs) : SqT K B a xs := by
  rcases h with (s | ⟨o, s⟩) | s
  · exact .inl (.inl (c _ _ s (fun _ z => nomatch z) (fun _ z => nomatch z)))
  · exact .inl (.inr ⟨o, c _ _ s (fun _ z => nomatch z) (fun _ z => nomatch z)⟩)
  · exact .inr s
theorem cut_tris {A B : Hp} {as : List Addr} {ts : List Tri} (c : Cut A B) (h : TrisIn K A as ts) : TrisIn K B as ts := paired_mono (fun _ _ e => cut_sqt c e) h
theorem cut_lv {Y : TLv F} {A B : Hp} {x : Addr} {rs : List Tri} (c : Cut A B) (h : LvAt Y A x rs) : LvAt Y B x rs := by
  obtain ⟨dx, p, as, h1, h2, h3, h4⟩ := h
  exact ⟨dx, p, as, c _ _ h1 (fun _ z => nomatch z) (fun _ z => nomatch z), cut_sqt c h2, cut_tris c h3, h4⟩
end
/-- triples in another order -/
theorem tris_perm {K : PySem.W.Frag} {H : Hp} {as : List Addr} {ts : List Tri} (h : TrisIn K H as ts) {zs : List V} (p : zs.Perm (as.map V.ref)) : ∃ (bs : List Addr) (us : List Tri), zs = bs.map V.ref ∧ TrisIn K H bs us ∧ us.Perm ts := by
  have key : ∀ {xs ys : List V}, xs.Perm ys → ∀ {as : List Addr} {ts : List Tri}, ys = as.map V.ref → TrisIn K H as ts → ∃ (bs : List Addr) (us : List Tri), xs = bs.map V.ref ∧ TrisIn K H bs us ∧ us.Perm ts := by
    intro xs ys p
    induction p with
    | nil => intro as ts e h; exact ⟨as, ts, e, h, .refl _⟩
    | cons x _ ih =>
      intro as ts e h
      cases h with
      | nil => cases e
      | cons h1 h2 =>
        injection e with e1 e2
        obtain ⟨bs, us, e3, h3, p3⟩ := ih e2 h2
        exact ⟨_ :: bs, _ :: us, by rw [List.map_cons, e1, e3], .cons h1 h3, .cons _ p3⟩
    | swap x y l =>
      intro as ts e h
      cases h with
      | nil => cases e
      | cons h1 h2 =>
        cases h2 with
        | nil => cases e
        | cons h3 h4 =>
          injection e with e1 e2
          injection e2 with e3 e4
          exact ⟨_ :: _ :: _, _ :: _ :: _, by rw [List.map_cons, List.map_cons, e1, e3, e4], .cons h3 (.cons h1 h4), List.Perm.swap _ _ _⟩
    | trans _ _ ih1 ih2 =>
      intro as ts e h
      obtain ⟨bs, us, e2, h2, p2⟩ := ih2 e h
      obtain ⟨cs, vs, e3, h3, p3⟩ := ih1 e2 h2
      exact ⟨cs, vs, e3, h3, p3.trans p2⟩
  exact key p rfl h
theorem tri_told {t : Tri} (h : goodT t) : Told 40 (triD t) := by
  have q : (poolT.all fun t => PyData.showable (triD t) && (!PyData.hasDict (triD t) && decide ((PyData.shown (triD t)).length ≤ 40))) = true := by decide +kernel
  have z := List.all_eq_true.mp q t (mem_poolT h)
  rw [Bool.and_eq_true, Bool.and_eq_true, decide_eq_true_iff] at z
  exact ⟨z.1, by simpa using z.2.1, z.2.2⟩
theorem tris_tell {us : List Tri} (h : ∀ t ∈ us, goodT t) (l : us.length ≤ 50) : Telling (.tuple (us.map triD)) := by
  have q := tell_tup (B := 40) (ds := us.map triD) fun e he => by
    obtain ⟨t, ht, rfl⟩ := List.mem_map.mp he
    exact tri_told (h t ht)
  rw [List.length_map] at q
  have dd := (tris_lay fun t ht => tri_strOk (goodT_B (h t ht))).2
  refine ⟨q.1, q.2.1, ?_, Nat.le_trans q.2.2 (Nat.le_trans (m := 3000) (by omega) (by decide))⟩
  simp only [PyData.depth]
  omega
theorem sh_qq {e : PyData} (h1 : PyData.canLay0 e = true) (h2 : PyData.depth e ≤ 60) : ∀ w : Str, PyData.strOk w = true → SeqAt.shaped (.tuple [e, .str "qq", .str w]) = true := fun w hw => by
  have hq : PyData.strOk "qq" = true := by decide +kernel
  unfold SeqAt.shaped
  rw [Bool.and_eq_true]
  refine ⟨by simp only [PyData.canLay0, PyData.canLayAll0, h1, hq, hw, Bool.and_self], decide_eq_true ?_⟩
  simp only [PyData.depth, PyData.depthAll]
  omega
end Pn

namespace Pn
open PySem PySem.Spec PyProof.Rows L2 TL
abbrev sLaw31 : Stmt := top 25
section
variable {P : Program} {w : World} {K : PySem.W.Frag} {mg : Str → Option Value} {base : Heap}
structure TK31 (K : PySem.W.Frag) (mg : Str → Option Value) : Type where
  D : TTab K mg
  M : TDealM K mg
  VA : TVal K mg
  R : TRowz K mg
  F : TFilz R
  Y : TLv F
  Z : TLvE Y
  ZP : TLvP Y
  RR : TLvR Z
  W : TLvW Z ZP
  dL : List Value
  vL : Vals [V.ref Y.dP] dL
  bL : Binds K Y.fdI ["self", "items"] dL
  mRepr : mg "repr" = none
def spLaw31 (K : PySem.W.Frag) : Sp := fun vs H Q _ => ∃ (a : Addr) (ns : List Int), vs = [.ref a] ∧ SqL K H a (ns.map V.int) ∧ ns.length ≤ 63 ∧ ∀ H', Q (.bl true) H'
theorem scLaw31 : FnScope ["_law_script", "_law_deal_here", "_law_turn", "_law_items_here", "_law_others", "_law_table_here", "_law_given", "_law_made", "_law_due", "_law_name", "_law_counter", "_law_value_here", "_law_near", "_law_item", "_law_thing"] ["_law_script"] (defScope sLaw31) := ⟨rfl, rfl, rfl, by decide +kernel, rfl, by decide +kernel, by decide +kernel⟩
theorem ok_law31 (T : TK31 K mg) {f : Addr} {fd : FuncData} (F : Fun K "law" "law" sLaw31 f fd) {A : Around} (hrA : Room 15 A) (hgA : A.guards = some []) : RunAt P w K mg base A f fd ["_law_script"] (spLaw31 K) := by
  refine fun_at (k := 14) F scLaw31 hrA (fun vs H Q E h => ?_) (fun cdv s H vs Q E hr h => ?_)
  · obtain ⟨a, ns, rfl, _⟩ := h
    rfl
  · obtain ⟨a, ns, rfl, hS, hl, q⟩ := h
    have hgd : (A.deeper (PyProof.Rows.envOfC "law" (defScope sLaw31) s.heap.objs.size f cdv)).guards = some [] := hgA
    refine ⟨_, (pss_cons (ps_set (i := 1) scLaw31.nd rfl (Or.inl rfl) (pe_call T.D.okDeal (hr.mono (by decide)) rfl T.D.deal.m T.D.deal.F.kp T.D.deal.b .nil pass0 (pa_cons (pv 0) (pa_cons pe_int pa_nil))))
(pss_cons (ps_for PassesOwn.never rfl (pi_range1 (by rfl) T.D.mR (pa_cons pe_int pa_nil)) (pg_name (i := 2) scLaw31.nd rfl (Or.inl rfl))
(pss_cons (ps_par (i := 3) (j := 4) (by rfl) scLaw31.nd rfl rfl (by decide) rfl rfl (pa_cons (pe_call T.D.okItems (hr.mono (by decide)) rfl T.D.items.m T.D.items.F.kp T.D.items.b .nil pass0 (pa_cons (pv 1) (pa_cons pe_int pa_nil))) (pa_cons (pe_call T.D.okItems (hr.mono (by decide)) rfl T.D.items.m T.D.items.F.kp T.D.items.b .nil pass0 (pa_cons (pv 1) (pa_cons pe_int pa_nil))) pa_nil)) (by rfl))
(pss_cons (ps_par (i := 5) (j := 6) (by rfl) scLaw31.nd rfl rfl (by decide) rfl rfl (pa_cons (pe_call T.D.okTable (hr.mono (by decide)) rfl T.D.table.m T.D.table.F.kp T.D.table.b .nil pass0 (pa_cons (pv 3) pa_nil)) (pa_cons (pe_callTy call_list_of (by rfl) T.M.mLs (by decide +kernel) (pa_cons (pv 3) pa_nil)) pa_nil)) (by rfl))
(pss_cons (ps_set (i := 7) scLaw31.nd rfl (Or.inr rfl) (pe_make T.Y.M (ok_lInit T.Y) (hr.mono (by decide)) rfl T.Y.mC T.Y.bI .nil pass0 (pa_cons (pe_ifExp (pt_cmpR op_eq (pe_call T.D.okDraw (hr.mono (by decide)) rfl T.D.draw.m T.D.draw.F.kp T.D.draw.b .nil pass0 (pa_cons (pv 1) (pa_cons pe_int pa_nil))) pe_int (nomark _)) (pv 6) (pe_callTy (show CallR _ (.type "tuple") (rTupO K) from call_tupO) (by rfl) T.F.mTup (by decide +kernel) (pa_cons (pv 6) pa_nil))) pa_nil)))
(pss_cons (ps_expr (pe_bm PySem.F.plainAttrs_list PySem.F.slot_list_append PySem.F.type_list_append mt_append (pv 6) (pa_cons (pe_tup (pa_cons pe_str (pa_cons pe_str (pa_cons pe_str pa_nil)))) pa_nil)))
(pss_cons (ps_set (i := 8) scLaw31.nd rfl (Or.inl rfl) (pe_call T.D.okTrips (hr.mono (by decide)) rfl T.D.trips.m T.D.trips.F.kp T.D.trips.b .nil pass0 (pa_cons (pv 5) pa_nil)))
(pss_cons (ps_if (PW.pt (pw_or (pt_cmpR op_ne (pe_callB (call_reprD hgd hr) (by rfl) T.mRepr (by decide +kernel) (pa_cons (pe_prop (pv 7) T.Y.cl T.ZP.pairs.P (ok_lPairs T.ZP) (hr.mono (by decide)) T.ZP.pairs.b .nil pass0 rfl) pa_nil)) (pe_callB (call_reprD hgd hr) (by rfl) T.mRepr (by decide +kernel) (pa_cons (pv 8) pa_nil)) (nomark _)) (pw_or1 (pt_cmpR op_ne (pe_callB (call_lenLv (K := K) (mg := mg) rfl rfl T.W (hr.mono (by decide))) (by rfl) T.D.mL PySem.boot_len (pa_cons (pv 7) pa_nil)) (pe_callB call_len_seq (by rfl) T.D.mL PySem.boot_len (pa_cons (pv 8) pa_nil)) (nomark _))))) (pss_one (ps_ret pe_bl)) pss_nil)
(pss_cons (ps_if (pt_cmpR op_ne (pe_callTy (call_strLv (K := K) (mg := mg) rfl rfl T.ZP (hr.mono (by decide))) (by rfl) T.R.N.mStr (by decide +kernel) (pa_cons (pv 7) pa_nil)) (pe_ifExp (pt_cmpR (op_neD (roomLv hr)) (pv 8) (pe_tup pa_nil) (nomark _)) (pe_joinL (K := K) rfl pe_str (pe_lc (own := [("_law_item", 13)]) (g := gName 13) (tt := tYes) (by rfl) scLaw31.nd (pi_tup (pv 8))
 (blkOk_by (N := ["_law_script", "_law_deal_here", "_law_turn", "_law_items_here", "_law_others", "_law_table_here", "_law_given", "_law_made", "_law_due", "_law_name", "_law_counter", "_law_value_here", "_law_near", "_law_item", "_law_thing"]) (sc := defScope sLaw31) (by decide +kernel)) (fun _ _ _ _ _ => (pg_name (i := 13) scLaw31.nd rfl (Or.inl rfl))) (fun _ _ _ _ _ => pts_nil) (fun _ _ _ _ _ => (pe_joinL (K := K) rfl pe_str (pv 13))))) pe_str) (nomark _)) (pss_one (ps_ret pe_bl)) pss_nil)
(pss_cons (ps_for PassesOwn.never rfl (pi_list (pe_lst (pa_cons pe_str (pa_cons pe_str (pa_cons pe_str (pa_cons pe_str (pa_cons pe_str (pa_cons pe_str (pa_cons pe_str pa_nil))))))))) (pg_name (i := 9) scLaw31.nd rfl (Or.inl rfl))
(pss_one (ps_for PassesOwn.never rfl (pi_list (pe_lst (pa_cons pe_str (pa_cons pe_str (pa_cons pe_str (pa_cons pe_str (pa_cons pe_str (pa_cons pe_str pa_nil)))))))) (pg_name (i := 10) scLaw31.nd rfl (Or.inl rfl))
(pss_one (ps_if (pt_cmpR op_ne (pe_callB (show CallR _ (.builtin "repr") rReprF from call_reprF) (by rfl) T.mRepr (by decide +kernel) (pa_cons (pe_meth (pv 7) T.Y.cl ⟨T.W.word.hs, T.W.word.hf, T.W.word.F.kp⟩ (ok_wordOf T.W) (hr.mono (by decide)) T.W.word.b .nil pass0 (pa_cons (pv 9) (pa_cons (pv 10) pa_nil))) pa_nil)) (pe_callB (show CallR _ (.builtin "repr") rReprF from call_reprF) (by rfl) T.mRepr (by decide +kernel) (pa_cons (pe_dget2 (roomDl hr) (pv 5) (pe_tup (pa_cons (pv 9) (pa_cons (pv 10) pa_nil))) pe_str (by constructor <;> rfl)) pa_nil)) (nomark _)) (pss_one (ps_ret pe_bl)) pss_nil)))))
(pss_cons (ps_for PassesOwn.never rfl (pi_tup (pe_tup (pa_cons pe_non (pa_cons pe_int (pa_cons (pe_lst (pa_cons pe_str pa_nil)) (pa_cons (pe_tup (pa_cons pe_str (pa_cons pe_str pa_nil))) (pa_cons (pv 7) (pa_cons (pe_call (T.VA.okValue 3) (hr.mono (by decide)) rfl T.VA.val.m T.VA.val.F.kp T.VA.val.b .nil pass0 (pa_cons (pv 1) (pa_cons pe_int pa_nil))) pa_nil)))))))) (pg_name (i := 11) scLaw31.nd rfl (Or.inl rfl))
(pss_cons (ps_if (PW.pt (pw_or (pt_cmpR op_ne (pe_meth (pv 7) T.Y.cl ⟨T.W.word.hs, T.W.word.hf, T.W.word.F.kp⟩ (ok_wordOf T.W) (hr.mono (by decide)) T.W.word.b .nil pass0 (pa_cons (pv 11) (pa_cons pe_str pa_nil))) pe_str (nomark _)) (pw_or1 (pt_cmpR op_ne (pe_meth (pv 7) T.Y.cl ⟨T.W.word.hs, T.W.word.hf, T.W.word.F.kp⟩ (ok_wordOf T.W) (hr.mono (by decide)) T.W.word.b .nil pass0 (pa_cons pe_str (pa_cons (pv 11) pa_nil))) pe_str (nomark _))))) (pss_one (ps_ret pe_bl)) pss_nil)
(pss_one (ps_if (pt_cmpR op_ne (pe_meth (pv 7) T.Y.cl ⟨T.W.word.hs, T.W.word.hf, T.W.word.F.kp⟩ (ok_wordOf T.W) (hr.mono (by decide)) T.W.word.b .nil pass0 (pa_cons (pe_lst (pa_cons (pv 11) pa_nil)) (pa_cons (pe_lst (pa_cons (pv 11) pa_nil)) pa_nil))) pe_str (nomark _)) (pss_one (ps_ret pe_bl)) pss_nil))))
(pss_cons (ps_set (i := 12) scLaw31.nd rfl (Or.inl rfl) (pe_make T.Y.M (ok_lInit T.Y) (hr.mono (by decide)) rfl T.Y.mC T.Y.bI .nil pass0 (pa_cons (pe_ifExp (pt_cmpR op_eq (pe_call T.D.okDraw (hr.mono (by decide)) rfl T.D.draw.m T.D.draw.F.kp T.D.draw.b .nil pass0 (pa_cons (pv 1) (pa_cons pe_int pa_nil))) pe_int (nomark _)) (pe_call T.M.okMixedV (hr.mono (by decide)) rfl T.M.mixed.m T.M.mixed.F.kp T.M.mixed.b .nil pass0 (pa_cons (pv 1) (pa_cons (pv 3) pa_nil))) (pv 4)) pa_nil)))
(pss_cons (ps_if (PW.pt (pw_or (pt_cmpR op_ne (pe_cmpR (op_eqLv (K := K) (mg := mg) rfl rfl T.RR (hr.mono (by decide))) (pv 7) (pv 12) (nomark _)) (pe_cmpR op_eq (pe_callTy (call_strLv (K := K) (mg := mg) rfl rfl T.ZP (hr.mono (by decide))) (by rfl) T.R.N.mStr (by decide +kernel) (pa_cons (pv 7) pa_nil)) (pe_callTy (call_strLv (K := K) (mg := mg) rfl rfl T.ZP (hr.mono (by decide))) (by rfl) T.R.N.mStr (by decide +kernel) (pa_cons (pv 12) pa_nil)) (nomark _)) (nomark _)) (pw_or1 (pt_cmpR op_eq (pe_cmpR (op_neLv (K := K) (mg := mg) rfl rfl T.RR (hr.mono (by decide))) (pv 7) (pv 12) (nomark _)) (pe_cmpR (op_eqLv (K := K) (mg := mg) rfl rfl T.RR (hr.mono (by decide))) (pv 7) (pv 12) (nomark _)) (nomark _))))) (pss_one (ps_ret pe_bl)) pss_nil)
(pss_one (ps_if (pt_cmpR (op_neD (roomLv hr)) (pe_lc (own := [("_law_thing", 14)]) (g := gName 14) (by rfl) scLaw31.nd (pi_tup (pe_tup (pa_cons (pv 8) (pa_cons (pe_callTy (call_strLv (K := K) (mg := mg) rfl rfl T.ZP (hr.mono (by decide))) (by rfl) T.R.N.mStr (by decide +kernel) (pa_cons (pv 7) pa_nil)) (pa_cons pe_non (pa_cons (pe_call (T.VA.okValue 2) (hr.mono (by decide)) rfl T.VA.val.m T.VA.val.F.kp T.VA.val.b .nil pass0 (pa_cons (pv 1) (pa_cons pe_int pa_nil))) pa_nil))))))
 (blkOk_by (N := ["_law_script", "_law_deal_here", "_law_turn", "_law_items_here", "_law_others", "_law_table_here", "_law_given", "_law_made", "_law_due", "_law_name", "_law_counter", "_law_value_here", "_law_near", "_law_item", "_law_thing"]) (sc := defScope sLaw31) (by decide +kernel)) (fun _ _ _ _ _ => (pg_name (i := 14) scLaw31.nd rfl (Or.inl rfl))) (fun _ _ _ _ _ => pts_one (pt_cmpR (op_eqOth (K := K) (mg := mg) rfl rfl T.W (hr.mono (by decide))) (pv 7) (pv 14) (nomark _))) (fun _ _ _ _ _ => (pv 14))) (pe_lst pa_nil) (nomark _)) (pss_one (ps_ret pe_bl)) pss_nil))))))))))))))
(pss_one (ps_ret (pe_and (pe_cmpR (op_eqD (roomLv hr)) (pe_prop (pe_make0 T.Y.M (ok_lInit T.Y) (hr.mono (by decide)) rfl T.Y.mC T.bL T.vL pass0) T.Y.cl T.ZP.pairs.P (ok_lPairs T.ZP) (hr.mono (by decide)) T.ZP.pairs.b .nil pass0 rfl) (pe_tup pa_nil) (nomark _)) (pe_and (pe_cmpR op_eq (pe_callTy (call_strLv (K := K) (mg := mg) rfl rfl T.ZP (hr.mono (by decide))) (by rfl) T.R.N.mStr (by decide +kernel) (pa_cons (pe_make T.Y.M (ok_lInit T.Y) (hr.mono (by decide)) rfl T.Y.mC T.Y.bI .nil pass0 (pa_cons (pe_lst pa_nil) pa_nil)) pa_nil)) pe_str (nomark _)) (pe_one (pe_cmpR op_eq (pe_callB (call_lenLv (K := K) (mg := mg) rfl rfl T.W (hr.mono (by decide))) (by rfl) T.D.mL PySem.boot_len (pa_cons (pe_make T.Y.M (ok_lInit T.Y) (hr.mono (by decide)) rfl T.Y.mC T.Y.bI .nil pass0 (pa_cons (pe_tup pa_nil) pa_nil)) pa_nil)) pe_int (nomark _))))))))), ?_⟩
    have zero : 0 ≤ sizeLine := by decide
    have one : 1 ≤ sizeLine := by decide
    have two : 2 ≤ sizeLine := by decide
    have three : 3 ≤ sizeLine := by decide
    have four : 4 ≤ sizeLine := by decide
    have big : (1000 : Nat) ≤ sizeLine := by decide
    refine stepSet (fun v H' => ∃ d g, v = .ref d ∧ DealAt H' d g) (fun Q' hQ => ⟨_, rfl, a, 0, ns, rfl, hS, hl, fun d g H' hD _ => hQ _ _ ⟨d, g, rfl, hD⟩⟩) (fun v H1 hC => ?r1)
    case r1 =>
    obtain ⟨d, g, rfl, hD1⟩ := hC
    try dsimp only [List.set]
    refine ⟨_, rfl, by decide, by decide, for_range (lo := 0) (n := 8) (fun j σ Hc => ∃ y2 y3 y4 y5 y6 y7 y8 y9 y10 y11 y12 y13 y14, σ = [some (.ref a), some (.ref d), y2, y3, y4, y5, y6, y7, y8, y9, y10, y11, y12, y13, y14] ∧ DealAt Hc d g) ⟨_, _, _, _, _, _, _, _, _, _, _, _, _, rfl, hD1⟩ (fun j σ Hc hj hP => ?turn) (fun σ Hc hP => ?fin)⟩
    case fin =>
      obtain ⟨_, _, _, _, _, _, _, _, _, _, _, _, _, rfl, _⟩ := hP
      have gno : ∀ t ∈ ([] : List Tri), goodT t := fun t ht => nomatch ht
      have r0 : rightsM [] = [] := by decide +kernel
      have few0 := few_pool gno (by show 0 ≤ 100; decide)
      refine lv_made T.Y (ts := []) ⟨T.Y.dP, [], rfl, .inr (T.Y.hP _), .nil⟩ (fun t ht => nomatch ht) few0 fun p1 Ha sa h1 => ?_
      obtain ⟨dx1, _, _, in1, _⟩ := id h1
      refine ⟨p1, dx1, _, rfl, in1, p1, _, rfl, h1, fun pp cp Hb sb hpp hcp => ⟨zero, fun e he => ?_⟩⟩
      have hpp := Same.sqt (Same.new (o := .tup []) he) hpp
      have hcp := hcp.same (Same.new (o := .tup []) he)
      rw [r0] at hcp
      have hcp : TrisIn K _ cp [] := hcp
      cases hcp
      refine ⟨.tuple [], .tuple [], .tup hpp .nil, .tup (SqT.of upd_same) .nil, by decide +kernel, by decide +kernel, ?_⟩
      rw [show PyData.eqv (.tuple []) (.tuple []) = true by simp [PyData.eqv, PyData.eqvAll]]
      refine ⟨_, rfl, iteT ?_⟩
      refine ⟨zero, fun l0 hl0 => ?_⟩
      refine lv_made T.Y (ts := []) ⟨l0, [], rfl, .inl (SqL.of upd_same), .nil⟩ (fun t ht => nomatch ht) few0 fun p2 Hd sd h2 => ?_
      have el0 : leavT (rightsM []) = "-" := by rw [r0]; exact if_pos rfl
      refine ⟨p2, _, rfl, h2, by rw [r0]; exact Nat.zero_le _, fun Hf sf => ?_⟩
      rw [el0]
      refine ⟨rfl, ?_⟩
      rw [decide_eq_true rfl]
      refine ⟨_, rfl, iteT ?_⟩
      refine ⟨zero, fun t0 ht0 => ?_⟩
      refine lv_made T.Y (ts := []) ⟨t0, [], rfl, .inr (SqT.of upd_same), .nil⟩ (fun t ht => nomatch ht) few0 fun p3 Hg sg h3 => ?_
      have ep0 : (((pairsM (rightsM [])).length : Nat) : Int) = 0 := by rw [r0]; rfl
      refine ⟨p3, _, rfl, h3, fun Hh sh => ?_⟩
      rw [ep0]
      refine ⟨rfl, ?_⟩
      rw [decide_eq_true rfl]
      exact q _
    case turn =>
    obtain ⟨y2, y3, y4, y5, y6, y7, y8, y9, y10, y11, y12, y13, y14, rfl, hDc⟩ := hP
    try dsimp only [List.set]
    refine stepPar (fun v v2 H' => ∃ (l1 l2 : Addr) (as1 as2 : List Addr) (ts1 ts2 : List Tri), v = .ref l1 ∧ v2 = .ref l2 ∧ DealAt H' d g ∧ hh H' d g l1 = some (.lst (as1.map V.ref)) ∧ TrisIn K (hh H' d g) as1 ts1 ∧ ts1.length ≤ 12 ∧ (∀ t ∈ ts1, goodT t) ∧ hh H' d g l2 = some (.lst (as2.map V.ref)) ∧ TrisIn K (hh H' d g) as2 ts2 ∧ ts2.length ≤ 4 ∧ ∀ t ∈ ts2, goodT t) (fun Q' hQ => ?c2) (fun v v2 H2 hC => ?r2)
    case c2 =>
      refine ⟨_, rfl, d, g, 12, rfl, hDc, by decide, fun l1 as1 ts1 Ha hDa sa ma e1 hT1 n1 g1 => ?_⟩
      refine ⟨_, rfl, d, g, 4, rfl, hDa, by decide, fun l2 as2 ts2 Hb hDb sb mb e2 hT2 n2 g2 => ?_⟩
      exact hQ _ _ _ ⟨l1, l2, as1, as2, ts1, ts2, rfl, rfl, hDb, sb _ _ e1, hT1.same sb, n1, g1, e2, hT2, n2, g2⟩
    case r2 =>
    obtain ⟨l1, l2, as1, as2, ts1, ts2, rfl, rfl, hD2, e1, hT1, n1, g1, e2, hT2, n2, g2⟩ := hC
    try dsimp only [List.set]
    have hal1 := paired_len hT1
    refine stepPar (fun v v2 H' => ∃ (t1 L : Addr) (T1 : Tab), v = .ref t1 ∧ v2 = .ref L ∧ DealAt H' d g ∧ Same (hh H2 d g) (hhL H' d g L) ∧ TabAt (hhL H' d g L) t1 T1 ∧ Rep T1 (wordM ts1) ∧ (∀ e ∈ T1, goodK e.1) ∧ hh H' d g L = some (.lst (as1.map V.ref))) (fun Q' hQ => ?c3) (fun v v2 H3 hC => ?r3)
    case c3 =>
      refine ⟨_, rfl, l1, as1, ts1, rfl, SqL.of (hh_sub _ _ e1), hT1.same hh_sub, by omega, g1, fun t1 T1 Ha sa hA rA kA => ?_⟩
      have hDa := hD2.same sa
      have na : t1 ≠ d ∧ t1 ≠ g := by
        obtain ⟨ndg, xs, n, m, t, ed, eg, _⟩ := hDa
        constructor
        · intro z
          subst z
          rw [show Ha t1 = some (.dT (T1.map entT2)) from hA] at ed
          cases ed
        · intro z
          subst z
          rw [show Ha t1 = some (.dT (T1.map entT2)) from hA] at eg
          cases eg
      refine ⟨_, rfl, l1, _, rfl, .inl (SqL.of (sa _ _ (hh_sub _ _ e1))), fun L hL => ?_⟩
      have f1 := hhL_first (d := d) (g := g) (o := .lst (as1.map V.ref)) hL
      exact hQ _ _ _ ⟨t1, L, T1, rfl, rfl, hDa.new hL, (hh_same sa).trans f1, f1 _ _ (hh_get hA na.1 na.2), rA, kA, hh_at hDa hL⟩
    case r3 =>
    obtain ⟨t1, L, T1, rfl, rfl, hD3, s3, hA, rA, kA, eL⟩ := hC
    have e1 := s3 _ _ e1
    have hT1 := hT1.same s3
    have e2 := s3 _ _ e2
    have hT2 := hT2.same s3
    clear s3 hD2
    try dsimp only [List.set]
    have rr1 := rrep_rights g1
    refine stepSet (fun v H' => ∃ p, v = .ref p ∧ DealAt H' d g ∧ Same (hhL H3 d g L) (hhL H' d g L) ∧ LvAt T.Y (hhL H' d g L) p (rightsM ts1) ∧ hh H' d g L = some (.lst (as1.map V.ref))) (fun Q' hQ => ?c4) (fun v H4 hC => ?r4)
    case c4 =>
      refine ⟨_, rfl, d, g, 2, rfl, hD3, by decide, by decide, fun r Ha r0 r1 hDa sa ma => ⟨rfl, _, rfl, ite2 (fun hz => ?_) (fun hz => ?_)⟩⟩
      · refine ⟨_, rfl, ?_⟩
        refine lv_made T.Y (ts := ts1) ⟨L, as1, rfl, .inl (SqL.of (hh_sub _ _ (sa _ _ eL))), ((hT1.same hhL_hh).same sa).same hh_sub⟩ (fun t ht => goodT_B (g1 t ht)) (few_pool g1 (by omega)) fun p Hb sb hp => ?_
        exact hQ _ _ ⟨p, rfl, hDa.same sb, hhL_same (sa.trans (hh_same sb)), cut_lv (cut_hhL (hDa.same sb) (sb _ _ (hh_sub _ _ (sa _ _ eL)))) hp, hh_same sb _ _ (sa _ _ eL)⟩
      · refine ⟨_, rfl, L, _, rfl, .inl ⟨SqL.of (hh_sub _ _ (sa _ _ eL)), fun t2 ht2 => ?_⟩⟩
        have sn := Same.new (o := .tup (as1.map V.ref)) ht2
        refine lv_made T.Y (ts := ts1) ⟨t2, as1, rfl, .inr (SqT.of upd_same), (((hT1.same hhL_hh).same sa).same hh_sub).same sn⟩ (fun t ht => goodT_B (g1 t ht)) (few_pool g1 (by omega)) fun p Hb sb hp => ?_
        have sb := sn.trans sb
        exact hQ _ _ ⟨p, rfl, hDa.same sb, hhL_same (sa.trans (hh_same sb)), cut_lv (cut_hhL (hDa.same sb) (sb _ _ (hh_sub _ _ (sa _ _ eL)))) hp, hh_same sb _ _ (sa _ _ eL)⟩
    case r4 =>
    obtain ⟨pm, rfl, hD4, s4, hm, eL⟩ := hC
    have e1 := s4 _ _ e1
    have hT1 := hT1.same s4
    have e2 := s4 _ _ e2
    have hT2 := hT2.same s4
    have hA : TabAt (hhL H4 d g L) t1 T1 := s4 _ _ hA
    clear s4 hD3
    try dsimp only [List.set]
    -- given.append
    refine ⟨_, rfl, .inl ⟨rfl, _, SqL.of (hh_sub _ _ eL)⟩, three, fun q1 hq1 => ?_⟩
    have nL := hh_ne eL
    refine ⟨L, _, _, rfl, rfl, Same.new hq1 _ _ nL.2.2, (by rw [List.length_map]; omega), ?_⟩
    have s5 : Same (hhL H4 d g L) (hh (upd (upd H4 q1 (.tup [.str "q", .str "q", .str "any"])) L (.lst (as1.map V.ref ++ [.ref q1]))) d g) := (hhL_same (hh_new hq1)).trans (hhL_put.trans hhL_hh)
    have hD5 := (hD4.new (o := .tup [.str "q", .str "q", .str "any"]) hq1).upd (o := .lst (as1.map V.ref ++ [.ref q1])) nL.1 nL.2.1
    generalize upd (upd H4 q1 (.tup [.str "q", .str "q", .str "any"])) L (.lst (as1.map V.ref ++ [.ref q1])) = H5 at s5 hD5 ⊢
    have e1 := s5 _ _ e1
    have hT1 := hT1.same s5
    have e2 := s5 _ _ e2
    have hT2 := hT2.same s5
    have hA : TabAt (hh H5 d g) t1 T1 := s5 _ _ hA
    have hm := hm.same s5
    clear s5 hD4 eL nL hq1
    try dsimp only
    -- due
    refine stepSet (fun v H' => ∃ (pd : Addr) (cs : List Addr), v = .ref pd ∧ Same H5 H' ∧ SqT K H' pd (cs.map V.ref) ∧ TrisIn K H' cs (pairsM (rightsM ts1))) (fun Q' hQ => ?c6) (fun v H6 hC => ?r6)
    case c6 =>
      refine ⟨_, rfl, t1, T1, _, rfl, hh_sub _ _ hA, rA, kA, rep_w2 rA (word_W3 _), fun p3 as3 us He se hp3 has up m => ?_⟩
      have eu := rr1.pairs_eq up m
      subst eu
      exact hQ _ _ ⟨p3, as3, rfl, se, hp3, has⟩
    case r6 =>
    obtain ⟨pd, cs, rfl, s6, hpd, hcs⟩ := hC
    have hD6 := hD5.same s6
    have e1 := hh_same s6 _ _ e1
    have hT1 := hT1.same (hh_same s6)
    have e2 := hh_same s6 _ _ e2
    have hT2 := hT2.same (hh_same s6)
    have hA : TabAt (hh H6 d g) t1 T1 := hh_same s6 _ _ hA
    have hm := hm.same (hh_same s6)
    have hpd := cut_sqt (cut_hh hD6) hpd
    have hcs := cut_tris (cut_hh hD6) hcs
    clear s6 hD5
    try dsimp only [List.set]
    have lus : (pairsM (rightsM ts1)).length ≤ 50 := Nat.le_trans (List.length_filter_le _ _) rr1.len
    have tel := tris_tell (pairs_good rr1) lus
    refine stepNo (fun H' => Same H6 H') (fun Q' hQ => ?c7) (fun H7 s7 => ?r7)
    case c7 =>
      obtain ⟨dm, _, _, inm, _⟩ := id hm
      refine ⟨_, rfl, pm, dm, _, rfl, hh_sub _ _ inm, pm, _, rfl, hm.same hh_sub, fun pp cp Hb sb hpp hcp => ?_⟩
      refine reprD_go (d := .tuple ((pairsM (rightsM ts1)).map triD)) (.tup hpp (tris_dp hcp)) tel ?_
      refine ⟨_, rfl, ?_⟩
      refine reprD_go (d := .tuple ((pairsM (rightsM ts1)).map triD)) (.tup (Same.sqt (hh_sub.trans sb) hpd) (tris_dp (hcs.same (hh_sub.trans sb)))) tel ?_
      refine rNe_same rfl ⟨false, rfl, iteFB rfl ?_⟩
      refine ⟨_, rfl, pm, _, rfl, hm.same (hh_sub.trans sb), fun Hd sd => ?_⟩
      have hpd' := Same.sqt (hh_sub.trans (sb.trans sd)) hpd
      refine ⟨_, rfl, pd, _, rfl, .inr hpd', ?_⟩
      rw [List.length_map, paired_len hcs]
      exact rNe_same rfl ⟨false, rfl, hQ _ (sb.trans sd)⟩
    case r7 =>
    have hD7 := hD6.same s7
    have e1 := hh_same s7 _ _ e1
    have hT1 := hT1.same (hh_same s7)
    have e2 := hh_same s7 _ _ e2
    have hT2 := hT2.same (hh_same s7)
    have hA : TabAt (hh H7 d g) t1 T1 := hh_same s7 _ _ hA
    have hm := hm.same (hh_same s7)
    have hpd := Same.sqt (hh_same s7) hpd
    have hcs := hcs.same (hh_same s7)
    clear s7 hD6
    try dsimp only
    refine stepNo (fun H' => Same H7 H') (fun Q' hQ => ?c8) (fun H8 s8 => ?r8)
    case c8 =>
      refine ⟨_, rfl, pm, _, rfl, hm.same hh_sub, Nat.le_trans rr1.len (by decide), fun Hb sb => ?_⟩
      refine ⟨_, rfl, zero, fun e he => ?_⟩
      have sc := (hh_sub (d := d) (g := g)).trans (sb.trans (Same.new (o := .tup []) he))
      refine ⟨.tuple ((pairsM (rightsM ts1)).map triD), .tuple [], .tup (Same.sqt sc hpd) (tris_dp (hcs.same sc)), .tup (SqT.of upd_same) .nil, tris_shaped fun t ht => tri_strOk (goodT_B (pairs_good rr1 t ht)), by decide +kernel, _, rfl, ?_⟩
      have ev : ∀ l : List Tri, PyData.eqv (.tuple (l.map triD)) (.tuple []) = l.isEmpty := fun l => by cases l <;> simp [PyData.eqv, PyData.eqvAll]
      rw [ev]
      by_cases hz : rightsM ts1 = []
      · have ep : pairsM (rightsM ts1) = [] := by rw [hz]; rfl
        have e0 : leavT (rightsM ts1) = "-" := if_pos hz
        rw [e0, ep]
        refine ⟨rfl, ?_⟩
        rw [decide_eq_true rfl]
        exact ⟨false, rfl, hQ _ (sb.trans (Same.new he))⟩
      · have ne : (pairsM (rightsM ts1)).isEmpty = false := by
          cases ep : pairsM (rightsM ts1) with
          | nil => exact absurd (rr1.pairs_nil ep) hz
          | cons _ _ => rfl
        rw [ne]
        have e1' : leavT (rightsM ts1) = Txt.join "; " ((pairsM (rightsM ts1)).map fun t => Txt.join " " (tl3 t)) := if_neg hz
        rw [e1']
        have hpB : ∀ t ∈ pairsM (rightsM ts1), triB t = true := fun t ht => goodT_B (pairs_good rr1 t ht)
        have t300 : ∀ t ∈ pairsM (rightsM ts1), (Txt.join " " (tl3 t)).length ≤ 300 := fun t ht => join3_len (triB_300 (hpB t ht))
        have hpd2 := Same.sqt sc hpd
        have hcs2 := hcs.same sc
        generalize hHe : upd Hb e (.tup []) = He at sc hpd2 hcs2 ⊢
        have s8e : Same H7 He := by rw [← hHe]; exact sb.trans (Same.new he)
        have lc := paired_len hcs2
        have hl2 : (cs.map V.ref).length = (pairsM (rightsM ts1)).length := by rw [List.length_map, lc]
        refine ⟨⟨_, rfl⟩, _, rfl, pd, rfl, ⟨_, hpd2⟩, fun D hD => ?_⟩
        refine lc_tup (xs := cs.map V.ref) (fun i Hi => Same He Hi ∧ Hi D = some (.lst ((List.range i).filterMap fun i => ((pairsM (rightsM ts1))[i]?).map fun t => V.str (Txt.join " " (tl3 t))))) ⟨Same.new hD, upd_same⟩ (fun _ _ _ hP => Same.sqt hP.1 hpd2) (lc_keep (by omega) (fun i v Hi S YY hv si hS hY => ?_) hD) (fun Hi hP => ?_)
        · rw [List.getElem?_map] at hv
          obtain ⟨b, hb, rfl⟩ := Option.map_eq_some_iff.mp hv
          obtain ⟨t, ht, hat⟩ := paired_at hcs2 hb
          have h3 := triB_300 (hpB t (List.mem_of_getElem? ht))
          refine ⟨rfl, ?_⟩
          unfold tYes
          refine iteT ?_
          refine ⟨⟨_, rfl⟩, _, rfl, " ", b, tl3 t, rfl, rfl, .inr (Same.sqt si hat), ?_, ?_⟩
          · show (t.1.length + (t.2.1.length + (t.2.2.length + 0))) + 3 * (" " : Str).length ≤ _
            have e2 : (" " : Str).length = 1 := by decide +kernel
            rw [e2]
            omega
          · exact hY _ (by show ((pairsM (rightsM ts1))[i]?).map _ = _; rw [ht]; rfl) _ (Same.refl _)
        · obtain ⟨s3, hD3'⟩ := hP
          rw [hl2, out_map] at hD3'
          refine ⟨"; ", D, (pairsM (rightsM ts1)).map fun t => Txt.join " " (tl3 t), rfl, rfl, .inl (SqL.of (by rw [hD3', List.map_map]; rfl)), ?_, ?_⟩
          · have e2 : ("; " : Str).length = 2 := by decide +kernel
            have := sum_leL (l := pairsM (rightsM ts1)) (f := fun t => (Txt.join " " (tl3 t)).length) (k := 300) t300
            rw [e2, List.length_map, List.map_map]
            show ((pairsM (rightsM ts1)).map fun t => (Txt.join " " (tl3 t)).length).sum + _ ≤ _
            omega
          · exact rNe_same rfl ⟨false, rfl, hQ _ (s8e.trans s3)⟩
    case r8 =>
    have hD8 := hD7.same s8
    have e1 := hh_same s8 _ _ e1
    have hT1 := hT1.same (hh_same s8)
    have e2 := hh_same s8 _ _ e2
    have hT2 := hT2.same (hh_same s8)
    have hA : TabAt (hh H8 d g) t1 T1 := hh_same s8 _ _ hA
    have hm := hm.same (hh_same s8)
    have hpd := Same.sqt (hh_same s8) hpd
    have hcs := hcs.same (hh_same s8)
    clear s8 hD7
    try dsimp only
    have seven : 7 ≤ sizeLine := by decide
    have six : 6 ≤ sizeLine := by decide
    obtain ⟨dm, rp, ras, inm, hrp, hras, upm, tbm, lnm⟩ := id hm
    have inm8 := hh_sub _ _ inm
    have hm8 := hm.same hh_sub
    have hA8 : TabAt H8 t1 T1 := hh_sub _ _ hA
    have shT : ∀ (n c w : Str), PyData.strOk n = true → PyData.strOk c = true → PyData.strOk w = true → SeqAt.shaped (.tuple [.str n, .str c, .str w]) = true := fun n c w h1 h2 h3 => tri_shaped (t := (n, c, w)) ⟨h1, h2, h3⟩
    refine ⟨seven, fun pn hpn => ⟨pn, rfl, ⟨_, SqL.of upd_same⟩, for_list (xs := ([("x" : Str), "y", "zzzz", "on", "c", "q", ""]).map V.str) (fun i σ Hi => ∃ z9 z10, σ = [some (.ref a), some (.ref d), some (.int (0 + (j : Int))), some (.ref l1), some (.ref l2), some (.ref t1), some (.ref L), some (.ref pm), some (.ref pd), z9, z10, y11, y12, y13, y14] ∧ Same H8 Hi ∧ Hi pn = some (.lst (([("x" : Str), "y", "zzzz", "on", "c", "q", ""]).map V.str)))
      ⟨_, _, rfl, Same.new hpn, upd_same⟩ (fun i σ Hi _ hP => by obtain ⟨_, _, _, _, s⟩ := hP; exact SqL.of s) (fun i x σ Hi hx hP => ?turnN) (fun σ Hi hP => ?finN)⟩⟩
    case turnN =>
      obtain ⟨z9, z10, rfl, sI, ePn⟩ := hP
      rw [List.getElem?_map] at hx
      obtain ⟨n, hn, rfl⟩ := Option.map_eq_some_iff.mp hx
      have okn : PyData.strOk n = true := List.all_eq_true.mp (show ([("x" : Str), "y", "zzzz", "on", "c", "q", ""]).all (fun n => PyData.strOk n) = true by decide +kernel) n (List.mem_of_getElem? hn)
      try dsimp only [List.set]
      refine ⟨six, fun pc hpc => ⟨pc, rfl, ⟨_, SqL.of upd_same⟩, for_list (xs := ([("c" : Str), "f", "any", "x", "abcd", "q"]).map V.str) (fun i σ Hj => ∃ z10, σ = [some (.ref a), some (.ref d), some (.int (0 + (j : Int))), some (.ref l1), some (.ref l2), some (.ref t1), some (.ref L), some (.ref pm), some (.ref pd), some (.str n), z10, y11, y12, y13, y14] ∧ Same Hi Hj ∧ Hj pc = some (.lst (([("c" : Str), "f", "any", "x", "abcd", "q"]).map V.str)))
        ⟨_, rfl, Same.new hpc, upd_same⟩ (fun i σ Hi _ hP => by obtain ⟨_, _, _, s⟩ := hP; exact SqL.of s) (fun i2 x2 σ Hj hx2 hP => ?turnC) (fun σ Hj hP => ?finC)⟩⟩
      case finC =>
        obtain ⟨z10, rfl, sJ, _⟩ := hP
        exact ⟨_, _, rfl, sI.trans sJ, sJ _ _ ePn⟩
      case turnC =>
        obtain ⟨z10, rfl, sJ, ePc⟩ := hP
        rw [List.getElem?_map] at hx2
        obtain ⟨c, hc, rfl⟩ := Option.map_eq_some_iff.mp hx2
        have okc : PyData.strOk c = true := List.all_eq_true.mp (show ([("c" : Str), "f", "any", "x", "abcd", "q"]).all (fun n => PyData.strOk n) = true by decide +kernel) c (List.mem_of_getElem? hc)
        have sIJ := sI.trans sJ
        try dsimp only [List.set]
        refine ⟨_, rfl, pm, dm, _, rfl, sIJ _ _ inm8, (by rw [lookup_putF, if_neg (by decide +kernel)]; rfl), _, rfl, _, rfl, pm, _, .str n, .str c, rfl, hm8.same sIJ, .inl ⟨.str n, .str c, .str _, .str _, fun w hw => shT n c w okn okc hw, fun Hc sc => ?_⟩⟩
        rw [word_texts g1]
        have wl : (wordM ts1 (n, c)).length ≤ 1000 ∧ PyData.strOk (wordM ts1 (n, c)) = true := by
          rcases word_cases ts1 (n, c) with z | z | z
          · rw [z]; decide +kernel
          · rw [z]; decide +kernel
          · rw [z]; decide +kernel
        refine .inl ⟨_, rfl, wl.1, wl.2, ?_⟩
        have hAc : TabAt Hc t1 T1 := sc _ _ (sIJ _ _ hA8)
        refine ⟨_, rfl, t1, rfl, .inr ⟨_, .inl hAc⟩, _, rfl, _, rfl, two, fun kt hkt => ⟨_, DGet.t (k := keyT (n, c)) (Same.new hkt _ _ hAc) upd_same, ?_⟩⟩
        rw [rep_get rA]
        have ev : (if wordM ts1 (n, c) = "" then none else some (V.str (wordM ts1 (n, c)))).getD (.str "") = V.str (wordM ts1 (n, c)) := by
          split
          · rename_i z; rw [z]; rfl
          · rfl
        rw [ev]
        refine .inl ⟨_, rfl, wl.1, wl.2, ?_⟩
        refine rNe_same rfl ⟨false, rfl, iteFB rfl ?_⟩
        exact ⟨_, rfl, sJ.trans (sc.trans (Same.new hkt)), Same.new hkt _ _ (sc _ _ ePc)⟩
    case finN =>
    obtain ⟨z9, z10, rfl, sN, _⟩ := hP
    have hD9 := hD8.same sN
    have e1 := hh_same sN _ _ e1
    have hT1 := hT1.same (hh_same sN)
    have e2 := hh_same sN _ _ e2
    have hT2 := hT2.same (hh_same sN)
    have hm := hm.same (hh_same sN)
    have hpd := Same.sqt (hh_same sN) hpd
    have hcs := hcs.same (hh_same sN)
    have inm := hh_same sN _ _ inm
    clear hA8 inm8 hm8 hA hrp hras sN hD8
    try dsimp only
    refine ⟨one, fun lx hlx => ?_⟩
    have sl := Same.new (o := .lst [.str "x"]) hlx
    have hDl := hD9.new (o := .lst [.str "x"]) hlx
    have elx := hh_at (o := .lst [.str "x"]) hD9 hlx
    generalize upd Hi lx (.lst [.str "x"]) = Hl at sl hDl elx ⊢
    refine ⟨two, fun tx htx => ?_⟩
    have st := sl.trans (Same.new (o := .tup [.str "x", .str "c"]) htx)
    have hDt := hDl.new (o := .tup [.str "x", .str "c"]) htx
    have etx := hh_at (o := .tup [.str "x", .str "c"]) hDl htx
    have elx := hh_same (Same.new (o := .tup [.str "x", .str "c"]) htx) _ _ elx
    generalize upd Hl tx (.tup [.str "x", .str "c"]) = Ht at st hDt etx elx ⊢
    refine ⟨_, rfl, _, rfl, d, g, 3, rfl, by decide, by decide, hDt, fun v ev Hv hDv sv dpv vtv => ⟨six, fun tp htp => ⟨tp, rfl, ⟨_, SqT.of upd_same⟩, ?_⟩⟩⟩
    have sH : Same (hh Hi d g) (hh Hv d g) := (hh_same st).trans sv
    have e1 := sH _ _ e1
    have hT1 := hT1.same sH
    have e2 := sH _ _ e2
    have hT2 := hT2.same sH
    have hm := hm.same sH
    have hpd := Same.sqt sH hpd
    have hcs := hcs.same sH
    have inm := sH _ _ inm
    have elx := hh_sub _ _ (sv _ _ elx)
    have etx := hh_sub _ _ (sv _ _ etx)
    clear sH sv sl st hDt hDl hD9
    have snew := Same.new (o := .tup [V.non, .int 3, .ref lx, .ref tx, .ref pm, v]) htp
    have hDw := hDv.new (o := .tup [V.non, .int 3, .ref lx, .ref tx, .ref pm, v]) htp
    have etp : upd Hv tp (.tup [V.non, .int 3, .ref lx, .ref tx, .ref pm, v]) tp = some (.tup [V.non, .int 3, .ref lx, .ref tx, .ref pm, v]) := upd_same
    have dpv : Dp K (upd Hv tp (.tup [V.non, .int 3, .ref lx, .ref tx, .ref pm, v])) v ev := dp_same (dif_sub.trans snew) _ _ dpv
    generalize upd Hv tp (.tup [V.non, .int 3, .ref lx, .ref tx, .ref pm, v]) = Hw at snew hDw etp dpv ⊢
    have e1 := hh_same snew _ _ e1
    have hT1 := hT1.same (hh_same snew)
    have e2 := hh_same snew _ _ e2
    have hT2 := hT2.same (hh_same snew)
    have hm := hm.same (hh_same snew)
    have hpd := Same.sqt (hh_same snew) hpd
    have hcs := hcs.same (hh_same snew)
    have inm := hh_sub _ _ (hh_same snew _ _ inm)
    have elx := snew _ _ elx
    have etx := snew _ _ etx
    clear snew hDv htp
    have hmw := hm.same hh_sub
    have noqq : ∀ t ∈ rightsM ts1, t.1 ≠ "qq" ∧ t.2.1 ≠ "qq" := fun t ht => good_noqq (rr1.ok t ht)
    have items : ∀ (i : Nat) (x : V), [V.non, .int 3, .ref lx, .ref tx, .ref pm, v][i]? = some x → (∃ e, Dp K Hw x e ∧ PyData.canLay0 e = true ∧ PyData.depth e ≤ 60) ∨ x = .ref pm := fun i x hx => by
      match i, hx with
      | 0, h => cases h; exact .inl ⟨_, .non, by decide +kernel, by decide +kernel⟩
      | 1, h => cases h; exact .inl ⟨_, .int 3, by decide +kernel, by decide +kernel⟩
      | 2, h => cases h; exact .inl ⟨.list [.str "x"], .lst (SqL.of elx) (.cons (.str _) .nil), by decide +kernel, by decide +kernel⟩
      | 3, h => cases h; exact .inl ⟨.tuple [.str "x", .str "c"], .tup (SqT.of etx) (.cons (.str _) (.cons (.str _) .nil)), by decide +kernel, by decide +kernel⟩
      | 4, h => cases h; exact .inr rfl
      | 5, h => cases h; exact .inl ⟨ev, dpv, vtv.lay.1, Nat.le_trans vtv.lay.2.1 (by decide)⟩
      | n + 6, h => simp at h
    refine for_tup (xs := [V.non, .int 3, .ref lx, .ref tx, .ref pm, v]) (fun i σ Hx => ∃ z11, σ = [some (.ref a), some (.ref d), some (.int (0 + (j : Int))), some (.ref l1), some (.ref l2), some (.ref t1), some (.ref L), some (.ref pm), some (.ref pd), z9, z10, z11, y12, y13, y14] ∧ Same Hw Hx)
      ⟨_, rfl, Same.refl _⟩ (fun i σ Hx _ hP => by obtain ⟨_, _, s⟩ := hP; exact SqT.of (s _ _ etp)) (fun i x σ Hx hx hP => ?turnV) (fun σ Hx hP => ?finV)
    case turnV =>
      obtain ⟨z11, rfl, sx⟩ := hP
      have hit := items i x hx
      try dsimp only [List.set]
      have hmx := hmw.same sx
      have inx := sx _ _ inm
      refine stepNo (fun H' => Same Hx H') (fun Q' hQ => ?w12) (fun Hy sy => ?w3)
      case w12 =>
        rcases hit with ⟨e, he, h1, h2⟩ | rfl
        · refine ⟨_, rfl, pm, dm, _, rfl, inx, (by rw [lookup_putF, if_neg (by decide +kernel)]; rfl), _, rfl, pm, _, _, _, rfl, hmx, .inl ⟨e, .str "qq", dp_same sx _ _ he, .str _, sh_qq h1 h2, fun Hc sc => ?_⟩⟩
          rw [word_none fun t ht => (noqq t ht).2]
          refine ⟨rfl, ?_⟩
          rw [decide_eq_true rfl]
          refine ⟨false, rfl, iteFB rfl ?_⟩
          refine ⟨_, rfl, pm, dm, _, rfl, sc _ _ inx, (by rw [lookup_putF, if_neg (by decide +kernel)]; rfl), _, rfl, pm, _, _, _, rfl, hmx.same sc, .inr ⟨fun t ht => .inr ⟨t.1, "qq", rfl, rfl, (noqq t ht).1⟩, fun Hd sd => ?_⟩⟩
          refine ⟨rfl, ?_⟩
          rw [decide_eq_true rfl]
          refine ⟨false, rfl, ?_⟩
          exact hQ _ (sc.trans sd)
        · refine ⟨_, rfl, pm, dm, _, rfl, inx, (by rw [lookup_putF, if_neg (by decide +kernel)]; rfl), _, rfl, pm, _, _, _, rfl, hmx, .inr ⟨fun t ht => .inl (.inl ⟨t.1, pm, dm, _, rfl, rfl, inx⟩), fun Hc sc => ?_⟩⟩
          refine ⟨rfl, ?_⟩
          rw [decide_eq_true rfl]
          refine ⟨false, rfl, iteFB rfl ?_⟩
          refine ⟨_, rfl, pm, dm, _, rfl, sc _ _ inx, (by rw [lookup_putF, if_neg (by decide +kernel)]; rfl), _, rfl, pm, _, _, _, rfl, hmx.same sc, .inr ⟨fun t ht => .inr ⟨t.1, "qq", rfl, rfl, (noqq t ht).1⟩, fun Hd sd => ?_⟩⟩
          refine ⟨rfl, ?_⟩
          rw [decide_eq_true rfl]
          refine ⟨false, rfl, ?_⟩
          exact hQ _ (sc.trans sd)
      case w3 =>
        refine ⟨_, rfl, pm, dm, _, rfl, sy _ _ inx, (by rw [lookup_putF, if_neg (by decide +kernel)]; rfl), _, rfl, one, fun la hla => ⟨_, rfl, one, fun lb hlb => ?_⟩⟩
        have sz := sy.trans ((Same.new (o := .lst [x]) hla).trans (Same.new (o := .lst [x]) hlb))
        refine ⟨pm, _, _, _, rfl, hmx.same sz, .inr ⟨fun t ht => .inl (.inr ⟨t.1, la, _, rfl, rfl, Same.new hlb _ _ upd_same⟩), fun Hd sd => ?_⟩⟩
        refine ⟨rfl, ?_⟩
        rw [decide_eq_true rfl]
        refine ⟨false, rfl, iteFB rfl ?_⟩
        exact ⟨_, rfl, sx.trans (sz.trans sd)⟩
    case finV =>
    obtain ⟨z11, rfl, sV⟩ := hP
    have hDx := hDw.same sV
    have e1 := hh_same sV _ _ e1
    have hT1 := hT1.same (hh_same sV)
    have e2 := hh_same sV _ _ e2
    have hT2 := hT2.same (hh_same sV)
    have hm := hm.same (hh_same sV)
    have hpd := Same.sqt (hh_same sV) hpd
    have hcs := hcs.same (hh_same sV)
    clear hmw inm elx etx items dpv sV hDw
    try dsimp only
    refine stepSet (fun v H' => ∃ (p : Addr) (ts3 : List Tri), v = .ref p ∧ DealAt H' d g ∧ Same (hh Hx d g) (hh H' d g) ∧ LvAt T.Y (hh H' d g) p (rightsM ts3) ∧ ∀ t ∈ ts3, goodT t) (fun Q' hQ => ?c11) (fun v Hn hC => ?r11)
    case c11 =>
      refine ⟨_, rfl, d, g, 2, rfl, hDx, by decide, by decide, fun r Ha r0 r1 hDa sa ma => ⟨rfl, _, rfl, ite2 (fun hz => ?_) (fun hz => ?_)⟩⟩
      · refine ⟨_, rfl, _, rfl, d, g, l1, as1.map V.ref, rfl, hDa, SqL.of (sa _ _ e1), (by rw [List.length_map]; omega), fun l zs Hb pz hDb sb mb eb => ?_⟩
        obtain ⟨bs, us, rfl, hus, pu⟩ := tris_perm (hT1.same (sa.trans sb)) pz
        have gu : ∀ t ∈ us, goodT t := fun t ht => g1 t (pu.mem_iff.mp ht)
        refine lv_made T.Y (ts := us) ⟨l, bs, rfl, .inl (SqL.of (hh_sub _ _ eb)), hus.same hh_sub⟩ (fun t ht => goodT_B (gu t ht)) (few_pool gu (by rw [pu.length_eq]; omega)) fun p Hd sd hp => ?_
        exact hQ _ _ ⟨p, us, rfl, hDb.same sd, (sa.trans sb).trans (hh_same sd), cut_lv (cut_hh (hDb.same sd)) hp, gu⟩
      · refine ⟨_, rfl, ?_⟩
        refine lv_made T.Y (ts := ts2) ⟨l2, as2, rfl, .inl (SqL.of (hh_sub _ _ (sa _ _ e2))), (hT2.same sa).same hh_sub⟩ (fun t ht => goodT_B (g2 t ht)) (few_pool g2 (by omega)) fun p Hd sd hp => ?_
        exact hQ _ _ ⟨p, ts2, rfl, hDa.same sd, sa.trans (hh_same sd), cut_lv (cut_hh (hDa.same sd)) hp, g2⟩
    case r11 =>
    obtain ⟨pq, ts3, rfl, hDn, sn, hq3, g3⟩ := hC
    have hm := hm.same sn
    have hpd := Same.sqt sn hpd
    have hcs := hcs.same sn
    have rr3 := rrep_rights g3
    clear sn hDx e1 e2 hT1 hT2
    try dsimp only [List.set]
    have eb : decide (V.str (leavT (rightsM ts1)) = V.str (leavT (rightsM ts3))) = decide (rightsM ts1 = rightsM ts3) := by
      by_cases h : rightsM ts1 = rightsM ts3
      · rw [h, decide_eq_true rfl, decide_eq_true rfl]
      · rw [decide_eq_false h, decide_eq_false fun z => h (leav_inj rr1 rr3 (V.str.inj z))]
    refine stepNo (fun H' => Same Hn H') (fun Q' hQ => ?c12) (fun Hr sr => ?r12)
    case c12 =>
      have hm := hm.same hh_sub
      have hq3 := hq3.same hh_sub
      refine ⟨_, rfl, _, rfl, pm, pq, _, _, rfl, rfl, hm, hq3, ?_⟩
      refine ⟨_, rfl, pm, _, rfl, hm, Nat.le_trans rr1.len (by decide), fun Hb sb => ⟨_, rfl, pq, _, rfl, hq3.same sb, Nat.le_trans rr3.len (by decide), fun Hc sc => ⟨rfl, ?_⟩⟩⟩
      rw [eb]
      have sbc := sb.trans sc
      refine rNe_same (by cases decide (rightsM ts1 = rightsM ts3) <;> rfl) ⟨false, rfl, iteFB rfl ?_⟩
      refine ⟨_, rfl, _, rfl, pm, pq, _, _, rfl, rfl, hm.same sbc, hq3.same sbc, ?_⟩
      refine ⟨_, rfl, _, rfl, pm, pq, _, _, rfl, rfl, hm.same sbc, hq3.same sbc, ?_⟩
      cases decide (rightsM ts1 = rightsM ts3) with
      | true => exact ⟨rfl, false, rfl, hQ _ sbc⟩
      | false => exact ⟨rfl, false, rfl, hQ _ sbc⟩
    case r12 =>
    have hDr := hDn.same sr
    have hm := hm.same (hh_same sr)
    have hpd := Same.sqt (hh_same sr) hpd
    have hcs := hcs.same (hh_same sr)
    clear hq3 hDn sr
    try dsimp only
    refine ⟨_, rfl, _, rfl, pm, _, rfl, hm.same hh_sub, Nat.le_trans rr1.len (by decide), fun Hb sb => ?_⟩
    have hDb := hDr.same sb
    refine ⟨_, rfl, d, g, 2, rfl, by decide, by decide, hDb, fun v ev Hv hDv sv dpv vtv => ⟨four, fun tp htp => ⟨tp, rfl, ⟨_, SqT.of upd_same⟩, fun D hD => ?_⟩⟩⟩
    have sH := (hh_same sb).trans sv
    have snew := Same.new (o := .tup [V.ref pd, .str (leavT (rightsM ts1)), .non, v]) htp
    have etp : upd Hv tp (.tup [V.ref pd, .str (leavT (rightsM ts1)), .non, v]) tp = some (.tup [V.ref pd, .str (leavT (rightsM ts1)), .non, v]) := upd_same
    have dpw : Dp K (upd Hv tp (.tup [V.ref pd, .str (leavT (rightsM ts1)), .non, v])) v ev := dp_same (dif_sub.trans snew) _ _ dpv
    have hDw := hDv.new (o := .tup [V.ref pd, .str (leavT (rightsM ts1)), .non, v]) htp
    have sHw := sH.trans (hh_same snew)
    generalize upd Hv tp (.tup [V.ref pd, .str (leavT (rightsM ts1)), .non, v]) = Hw at snew etp dpw hDw sHw hD ⊢
    have hm := (hm.same sHw).same hh_sub
    have hpd := Same.sqt (sHw.trans hh_sub) hpd
    have hcs := hcs.same (sHw.trans hh_sub)
    have items : ∀ (i : Nat) (x : V), [V.ref pd, .str (leavT (rightsM ts1)), .non, v][i]? = some x → ∃ e, Dp K Hw x e := fun i x hx => by
      match i, hx with
      | 0, h => cases h; exact ⟨_, .tup hpd (tris_dp hcs)⟩
      | 1, h => cases h; exact ⟨_, .str _⟩
      | 2, h => cases h; exact ⟨_, .non⟩
      | 3, h => cases h; exact ⟨ev, dpw⟩
      | n + 4, h => simp at h
    refine lc_tup (xs := [V.ref pd, .str (leavT (rightsM ts1)), .non, v]) (fun i Hi => Same Hw Hi ∧ Hi D = some (.lst [])) ⟨Same.new hD, upd_same⟩ (fun _ _ _ hP => SqT.of (hP.1 _ _ etp)) (fun i x Hi hx hP => ?turnL) (fun Hi hP => ?finL)
    case turnL =>
      obtain ⟨si, eD⟩ := hP
      obtain ⟨e, he⟩ := items i x hx
      exact ⟨rfl, _, rfl, _, rfl, pm, _, e, rfl, hm.same si, dp_same si _ _ he, false, rfl, iteFB rfl ⟨si, eD⟩⟩
    case finL =>
      obtain ⟨si, eD⟩ := hP
      refine ⟨zero, fun e he => ?_⟩
      refine ⟨.list [], .list [], .lst (SqL.of (Same.new he _ _ eD)) .nil, .lst (SqL.of upd_same) .nil, by decide +kernel, by decide +kernel, _, rfl, ?_⟩
      refine iteFB (by simp [PyData.eqv, PyData.eqvAll]) ?_
      exact ⟨_, _, _, _, _, _, _, _, _, _, _, _, _, rfl, (hDw.same si).new he⟩
end
end Pn

namespace Pn
open PySem PySem.Spec PyProof.Rows L2
/-- the goal that the short head leaves, from the law's promise at callerA -/
theorem walk_gE {l : PySem.W.OpenLaw} {n : Nat} {q : Program} {loose : List Str} {XP : (Str → Option Value) → Heap → Prop} {YP : World → Heap → Prop} {d : DefRec} {x : Str}
    (hn : l.most = some n) (hn2 : n ≤ sizeLine) (hdf : d.params.defaults = [])
    (F : ∀ (w : World) (mg : Str → Option Value) (fa : Addr) (h : Heap), YP w h → h.Ns mainGlobals mg → mg d.name = some (.ref fa) →
      ∃ (K : PySem.W.Frag) (fd : FuncData) (sp : Sp), K.In h ∧ (∀ (s : Shared) (u : Value), BindsTo s fd ⟨[u], []⟩ [(x, u)]) ∧
        (∀ (H : Hp) (a : Addr) (ns : List Int), ns.length ≤ n → SqL K H a (ns.map V.int) → sp [.ref a] H (fun v _ => v = .bl true) fun _ _ _ => False) ∧
        ∀ base : Heap, K.In base → base.Ns mainGlobals mg → RunAt l.prog w K mg base callerA fa fd [x] sp) :
    PySem.W.WalkO q loose XP YP l.row.toRowW d [] (fun f vs => PySem.call f vs) := by
  refine Att.attach_call hn hdf fun w s₀ s₁ mg mb fa o pm cd doc a vs ns G Y ho hd hcd hmg hobj hints hlen hg => ?_
  obtain ⟨K, fd, sp, KX, hb, hsp, hF⟩ := F w mg fa _ Y G.T.g hmg
  obtain ⟨H, hO, hS, hok, hA⟩ := law_track (P := l.prog) (w := w) KX hobj hints (Nat.le_trans hlen hn2)
  obtain ⟨kin, hns, e0⟩ := law_env KX G.T.g G.T.b G.T.builtins G.T.nolimit hg hobj hok hA
  refine codeAny_mono (hF _ kin hns s₁ H [.ref a] [.ref a] (fun v _ => v = .bl true) (fun _ _ _ => False) e0 (hb s₁ (.ref a)) (.cons rfl .nil) (hsp H a ns hlen hS)) fun r s' h => ?_
  cases r with
  | error e => exact False.elim h
  | ok fl =>
    cases fl with
    | next => exact False.elim h
    | brk => exact False.elim h
    | cont => exact False.elim h
    | ret u =>
      obtain ⟨v, H', os, bare, un, hok', rv, hv⟩ := h
      cases (show v = V.bl true from hv)
      cases (show u = Value.bool true from rv)
      refine ⟨rfl, OldK.of_keep fun b o e => ?_, os, bare⟩
      rcases hO b with z | ⟨ob, xs, z⟩
      · exact un.keep b o e z (by intro z; cases (show b ∈ ([] : List Addr) from z)) (by simp)
      · obtain ⟨e1, _⟩ := hok b _ z
        obtain ⟨e2, _⟩ := hok' b _ (un.frzs b ob _ z)
        cases e.symm.trans e1
        exact e2
end Pn

namespace Pn
open PySem PySem.Spec PyProof.Rows L2 TL
theorem tupBQ_ok {K : PySem.W.Frag} {a : Addr} (h : tupBQ K a = true) : TupB K a := by
  unfold tupBQ at h
  split at h
  · rename_i o ho
    rw [Bool.and_eq_true, Bool.and_eq_true] at h
    obtain ⟨h1, h2, h3⟩ := h
    split at h3
    · rename_i its n hd
      have e : its = #[] := Array.eq_empty_of_size_eq_zero (by simpa using h3)
      subst e
      exact ⟨o, n, ho, of_decide_eq_true h1, Option.isNone_iff_eq_none.mp h2, hd⟩
    · cases h3
  · cases h
end Pn

namespace Pn
open PySem PySem.Spec PyProof.Rows L2
theorem facts {P : Program} {w : World} {K : PySem.W.Frag} {h : Heap} {mg : Str → Option Value} {fa : Addr} (X : K.In h) (G : h.Ns mainGlobals mg) (hfa : mg ("law" : Str) = some (.ref fa)) (c : askQ fnQ exQ K = toldQ fnQ) :
    ∃ fd : FuncData, (∀ (s : Shared) (v : Value), BindsTo s fd ⟨[v], []⟩ [("_law_script", v)]) ∧ ∀ base : Heap, K.In base → base.Ns mainGlobals mg → RunAt P w K mg base callerA fa fd ["_law_script"] (spLaw31 K) := by
  have zint : PySem.W.nsIn K mainGlobals "int" = some none := of_decide_eq_true (told_at c 0 0)
  have zstr : PySem.W.nsIn K mainGlobals "str" = some none := of_decide_eq_true (told_at c 0 1)
  have zisinstance : PySem.W.nsIn K mainGlobals "isinstance" = some none := of_decide_eq_true (told_at c 0 2)
  have zlen : PySem.W.nsIn K mainGlobals "len" = some none := of_decide_eq_true (told_at c 0 3)
  have zall : PySem.W.nsIn K mainGlobals "all" = some none := of_decide_eq_true (told_at c 0 4)
  have zabs : PySem.W.nsIn K mainGlobals "abs" = some none := of_decide_eq_true (told_at c 0 5)
  have zrange : PySem.W.nsIn K mainGlobals "range" = some none := of_decide_eq_true (told_at c 0 6)
  have zlist : PySem.W.nsIn K mainGlobals "list" = some none := of_decide_eq_true (told_at c 0 7)
  have ztuple : PySem.W.nsIn K mainGlobals "tuple" = some none := of_decide_eq_true (told_at c 0 8)
  have zset : PySem.W.nsIn K mainGlobals "set" = some none := of_decide_eq_true (told_at c 0 9)
  have zsorted : PySem.W.nsIn K mainGlobals "sorted" = some none := of_decide_eq_true (told_at c 1 0)
  have zenumerate : PySem.W.nsIn K mainGlobals "enumerate" = some none := of_decide_eq_true (told_at c 1 1)
  have zrepr : PySem.W.nsIn K mainGlobals "repr" = some none := of_decide_eq_true (told_at c 1 2)
  have aROWWORDS : PySem.W.nsIn K mainGlobals "ROW_WORDS" = some (some (.ref (He.ga K "ROW_WORDS"))) := of_decide_eq_true (told_at c 1 3)
  have SROWWORDS : ∀ H : Hp, SqT K H (He.ga K "ROW_WORDS") [.str "note", .str "skip", .str "set", .str "keep", .str "back", .str "ref", .str "put", .str "open", .str "part"] := fun H => He.tupB_ok (x := "ROW_WORDS") (vs := [.str "note", .str "skip", .str "set", .str "keep", .str "back", .str "ref", .str "put", .str "open", .str "part"]) (told_at c 1 4) H
  obtain ⟨tkLONGESTNAME, ILONGESTNAME⟩ := He.int_ok X G (x := "LONGEST_NAME") (i := 4) (told_at c 1 5)
  have aisname : PySem.W.nsIn K mainGlobals "is_name" = some (some (.ref (He.ga K "is_name"))) := of_decide_eq_true (told_at c 1 6)
  obtain ⟨fdisname, Yisname⟩ := told_fn c 0
  have Xisname : Fun K "is_name" "is_name" sIsName (He.ga K "is_name") fdisname := fun_of Yisname
  have aissequence : PySem.W.nsIn K mainGlobals "is_sequence" = some (some (.ref (He.ga K "is_sequence"))) := of_decide_eq_true (told_at c 1 7)
  obtain ⟨fdissequence, Yissequence⟩ := told_fn c 1
  have Xissequence : Fun K "is_sequence" "is_sequence" sIsSeq (He.ga K "is_sequence") fdissequence := fun_of Yissequence
  have aLEAVEWORDS : PySem.W.nsIn K mainGlobals "LEAVE_WORDS" = some (some (.ref (He.ga K "LEAVE_WORDS"))) := of_decide_eq_true (told_at c 1 8)
  have SLEAVEWORDS : ∀ H : Hp, SqT K H (He.ga K "LEAVE_WORDS") [.str "on", .str "any"] := fun H => He.tupB_ok (x := "LEAVE_WORDS") (vs := [.str "on", .str "any"]) (told_at c 1 9) H
  have aistriple : PySem.W.nsIn K mainGlobals "is_triple" = some (some (.ref (He.ga K "is_triple"))) := of_decide_eq_true (told_at c 2 0)
  obtain ⟨fdistriple, Yistriple⟩ := told_fn c 2
  have Xistriple : Fun K "is_triple" "is_triple" sIsTri (He.ga K "is_triple") fdistriple := fun_of Yistriple
  have aneedtriples : PySem.W.nsIn K mainGlobals "need_triples" = some (some (.ref (He.ga K "need_triples"))) := of_decide_eq_true (told_at c 2 1)
  obtain ⟨fdneedtriples, Yneedtriples⟩ := told_fn c 3
  have Xneedtriples : Fun K "need_triples" "need_triples" sNeedT (He.ga K "need_triples") fdneedtriples := fun_of Yneedtriples
  have arightsof : PySem.W.nsIn K mainGlobals "rights_of" = some (some (.ref (He.ga K "rights_of"))) := of_decide_eq_true (told_at c 2 2)
  obtain ⟨fdrightsof, Yrightsof⟩ := told_fn c 4
  have Xrightsof : Fun K "rights_of" "rights_of" sRights (He.ga K "rights_of") fdrightsof := fun_of Yrightsof
  have aLeaves : PySem.W.nsIn K mainGlobals "Leaves" = some (some (.ref (He.ga K "Leaves"))) := of_decide_eq_true (told_at c 2 3)
  have inLeaves : PySem.W.findIn K (.ref (He.ga K "Leaves")) "__init__" = some (some (.ref (He.ma K (He.ga K "Leaves") "__init__"))) := of_decide_eq_true (told_at c 2 4)
  have iLeaves : PySem.W.isFn K (.ref (He.ma K (He.ga K "Leaves") "__init__")) = true := (told_at c 2 5)
  have SDLeaves : ∀ H : Hp, SqT K H (He.dflAt ("Leaves", some "__init__") 0 K) [] := fun H => tupQ_ok (vs := []) (told_at c 2 6) H
  obtain ⟨fdLeaves, YLeaves⟩ := told_fn c 5
  have FLeaves : FunD K "__init__" "Leaves.__init__" (defArgs sLInit) (defBody sLInit) (defScope sLInit) [.ref (He.dflAt ("Leaves", some "__init__") 0 K)] [] (He.ma K (He.ga K "Leaves") "__init__") fdLeaves := YLeaves
  have pgLeaves : PySem.W.plainGet K (He.ga K "Leaves") Str.empty = true := (told_at c 2 7)
  have hdLeaves : PySem.W.hasDictIn K (He.ga K "Leaves") = true := (told_at c 2 8)
  have poLeaves : PySem.W.plainOver K (He.ga K "Leaves") = true := (told_at c 2 9)
  have saLeaves : PySem.W.findIn K (.ref (He.ga K "Leaves")) "__setattr__" = some (some (.builtin "object.__setattr__")) := of_decide_eq_true (told_at c 3 0)
  have mkLeaves : PySem.W.makesIn K (He.ga K "Leaves") = true := (told_at c 3 1)
  have kcLeaves : PySem.W.keepIn K (.ref (He.ga K "Leaves")) = true := (told_at c 3 2)
  have nLeaves0 : PySem.W.findIn K (.ref (He.ga K "Leaves")) "rights" = some none := of_decide_eq_true (told_at c 3 3)
  have ineqLeaves : PySem.W.findIn K (.ref (He.ga K "Leaves")) "__eq__" = some (some (.ref (He.ma K (He.ga K "Leaves") "__eq__"))) := of_decide_eq_true (told_at c 3 4)
  have ieqLeaves : PySem.W.isFn K (.ref (He.ma K (He.ga K "Leaves") "__eq__")) = true := (told_at c 3 5)
  obtain ⟨fdeqLeaves, YeqLeaves⟩ := told_fn c 6
  have XeqLeaves : Fun K "__eq__" "Leaves.__eq__" sLEq (He.ma K (He.ga K "Leaves") "__eq__") fdeqLeaves := fun_of YeqLeaves
  have instrLeaves : PySem.W.findIn K (.ref (He.ga K "Leaves")) "__str__" = some (some (.ref (He.ma K (He.ga K "Leaves") "__str__"))) := of_decide_eq_true (told_at c 3 6)
  have istrLeaves : PySem.W.isFn K (.ref (He.ma K (He.ga K "Leaves") "__str__")) = true := (told_at c 3 7)
  obtain ⟨fdstrLeaves, YstrLeaves⟩ := told_fn c 7
  have XstrLeaves : Fun K "__str__" "Leaves.__str__" sLStr (He.ma K (He.ga K "Leaves") "__str__") fdstrLeaves := fun_of YstrLeaves
  obtain ⟨fdpairsLeaves, YpairsLeaves⟩ := told_fn c 8
  have XpairsLeaves : Fun K "pairs" "Leaves.pairs" sLPairs (getterQ K (He.ma K (He.ga K "Leaves") "pairs")) fdpairsLeaves := fun_of YpairsLeaves
  have inword_ofLeaves : PySem.W.findIn K (.ref (He.ga K "Leaves")) "word_of" = some (some (.ref (He.ma K (He.ga K "Leaves") "word_of"))) := of_decide_eq_true (told_at c 3 9)
  have iword_ofLeaves : PySem.W.isFn K (.ref (He.ma K (He.ga K "Leaves") "word_of")) = true := (told_at c 4 0)
  obtain ⟨fdword_ofLeaves, Yword_ofLeaves⟩ := told_fn c 9
  have Xword_ofLeaves : Fun K "word_of" "Leaves.word_of" sWordOf (He.ma K (He.ga K "Leaves") "word_of") fdword_ofLeaves := fun_of Yword_ofLeaves
  have inlenLeaves : PySem.W.findIn K (.ref (He.ga K "Leaves")) "__len__" = some (some (.ref (He.ma K (He.ga K "Leaves") "__len__"))) := of_decide_eq_true (told_at c 4 1)
  have ilenLeaves : PySem.W.isFn K (.ref (He.ma K (He.ga K "Leaves") "__len__")) = true := (told_at c 4 2)
  obtain ⟨fdlenLeaves, YlenLeaves⟩ := told_fn c 10
  have XlenLeaves : Fun K "__len__" "Leaves.__len__" sLLen (He.ma K (He.ga K "Leaves") "__len__") fdlenLeaves := fun_of YlenLeaves
  have alawdeal : PySem.W.nsIn K mainGlobals "_law_deal" = some (some (.ref (He.ga K "_law_deal"))) := of_decide_eq_true (told_at c 4 3)
  obtain ⟨fdlawdeal, Ylawdeal⟩ := told_fn c 11
  have Xlawdeal : Fun K "_law_deal" "_law_deal" sDeal (He.ga K "_law_deal") fdlawdeal := fun_of Ylawdeal
  have alawdraw : PySem.W.nsIn K mainGlobals "_law_draw" = some (some (.ref (He.ga K "_law_draw"))) := of_decide_eq_true (told_at c 4 4)
  obtain ⟨fdlawdraw, Ylawdraw⟩ := told_fn c 12
  have Xlawdraw : Fun K "_law_draw" "_law_draw" sDraw (He.ga K "_law_draw") fdlawdraw := fun_of Ylawdraw
  have alawpick : PySem.W.nsIn K mainGlobals "_law_pick" = some (some (.ref (He.ga K "_law_pick"))) := of_decide_eq_true (told_at c 4 5)
  obtain ⟨fdlawpick, Ylawpick⟩ := told_fn c 13
  have Xlawpick : Fun K "_law_pick" "_law_pick" sPick (He.ga K "_law_pick") fdlawpick := fun_of Ylawpick
  have alawmixed : PySem.W.nsIn K mainGlobals "_law_mixed" = some (some (.ref (He.ga K "_law_mixed"))) := of_decide_eq_true (told_at c 4 6)
  obtain ⟨fdlawmixed, Ylawmixed⟩ := told_fn c 14
  have Xlawmixed : Fun K "_law_mixed" "_law_mixed" sMixed (He.ga K "_law_mixed") fdlawmixed := fun_of Ylawmixed
  have alawvalue : PySem.W.nsIn K mainGlobals "_law_value" = some (some (.ref (He.ga K "_law_value"))) := of_decide_eq_true (told_at c 4 7)
  obtain ⟨fdlawvalue, Ylawvalue⟩ := told_fn c 15
  have Xlawvalue : Fun K "_law_value" "_law_value" sValue (He.ga K "_law_value") fdlawvalue := fun_of Ylawvalue
  have alawitems : PySem.W.nsIn K mainGlobals "_law_items" = some (some (.ref (He.ga K "_law_items"))) := of_decide_eq_true (told_at c 4 8)
  obtain ⟨fdlawitems, Ylawitems⟩ := told_fn c 16
  have Xlawitems : Fun K "_law_items" "_law_items" sItems (He.ga K "_law_items") fdlawitems := fun_of Ylawitems
  have alawtable : PySem.W.nsIn K mainGlobals "_law_table" = some (some (.ref (He.ga K "_law_table"))) := of_decide_eq_true (told_at c 4 9)
  obtain ⟨fdlawtable, Ylawtable⟩ := told_fn c 17
  have Xlawtable : Fun K "_law_table" "_law_table" sTable (He.ga K "_law_table") fdlawtable := fun_of Ylawtable
  have alawtriples : PySem.W.nsIn K mainGlobals "_law_triples" = some (some (.ref (He.ga K "_law_triples"))) := of_decide_eq_true (told_at c 5 0)
  obtain ⟨fdlawtriples, Ylawtriples⟩ := told_fn c 18
  have Xlawtriples : Fun K "_law_triples" "_law_triples" sTrips (He.ga K "_law_triples") fdlawtriples := fun_of Ylawtriples
  have alaw : PySem.W.nsIn K mainGlobals "law" = some (some (.ref (He.ga K "law"))) := of_decide_eq_true (told_at c 5 1)
  obtain ⟨fdlaw, Ylaw⟩ := told_fn c 19
  have Xlaw : Fun K "law" "law" sLaw31 (He.ga K "law") fdlaw := fun_of Ylaw
  have sfLeaves : PySem.W.selfFirst K (He.ga K "Leaves") = true := (told_at c 5 2)
  have kCLeaves : PySem.W.kitOne K (.ref (He.ga K "Leaves")) (.ref (He.ga K "Leaves")) = some true := of_decide_eq_true (told_at c 5 3)
  have nCLeaves : PySem.W.notFirst K (He.ga K "Leaves") (.ref (He.ga K "Leaves")) = true := (told_at c 5 4)
  have cALeaves : PySem.W.findIn K (.ref (He.ga K "Leaves")) "__class__" = some (some (.builtin "object.__class__")) := of_decide_eq_true (told_at c 5 5)
  have cMLeaves : PySem.W.mroIn K (He.ga K "Leaves") (.type "object") = some true := of_decide_eq_true (told_at c 5 6)
  have neLeaves : PySem.W.findIn K (.ref (He.ga K "Leaves")) "__ne__" = some (some (.builtin "object.__ne__")) := of_decide_eq_true (told_at c 5 7)
  have hnGet : PySem.W.specialIn K (.builtin "object.__class__") "__get__" = some (some (.builtin "getset_descriptor.__get__")) := of_decide_eq_true (told_at c 5 8)
  have htGet : PySem.W.takesIn K (.builtin "object.__class__") = some true := of_decide_eq_true (told_at c 5 9)
  have hsLeaves : PySem.W.mroIn K (He.ga K "Leaves") (.type "str") = some false := of_decide_eq_true (told_at c 6 0)
  have kLDNoneType : PySem.W.kitOne K (.type "NoneType") (.ref (He.ga K "Leaves")) = some false := of_decide_eq_true (told_at c 6 1)
  have kLDbool : PySem.W.kitOne K (.type "bool") (.ref (He.ga K "Leaves")) = some false := of_decide_eq_true (told_at c 6 2)
  have kLDint : PySem.W.kitOne K (.type "int") (.ref (He.ga K "Leaves")) = some false := of_decide_eq_true (told_at c 6 3)
  have kLDstr : PySem.W.kitOne K (.type "str") (.ref (He.ga K "Leaves")) = some false := of_decide_eq_true (told_at c 6 4)
  have kLDlist : PySem.W.kitOne K (.type "list") (.ref (He.ga K "Leaves")) = some false := of_decide_eq_true (told_at c 6 5)
  have kLDtuple : PySem.W.kitOne K (.type "tuple") (.ref (He.ga K "Leaves")) = some false := of_decide_eq_true (told_at c 6 6)
  have kLDdict : PySem.W.kitOne K (.type "dict") (.ref (He.ga K "Leaves")) = some false := of_decide_eq_true (told_at c 6 7)
  have nLDNoneType : PySem.W.notFirst K (He.ga K "Leaves") (.type "NoneType") = true := (told_at c 6 8)
  have nLDbool : PySem.W.notFirst K (He.ga K "Leaves") (.type "bool") = true := (told_at c 6 9)
  have nLDint : PySem.W.notFirst K (He.ga K "Leaves") (.type "int") = true := (told_at c 7 0)
  have nLDstr : PySem.W.notFirst K (He.ga K "Leaves") (.type "str") = true := (told_at c 7 1)
  have nLDlist : PySem.W.notFirst K (He.ga K "Leaves") (.type "list") = true := (told_at c 7 2)
  have nLDtuple : PySem.W.notFirst K (He.ga K "Leaves") (.type "tuple") = true := (told_at c 7 3)
  have nLDdict : PySem.W.notFirst K (He.ga K "Leaves") (.type "dict") = true := (told_at c 7 4)
  have e := hfa.symm.trans (PySem.W.mg_of X G alaw)
  cases e
  have Mint : mg "int" = none := PySem.W.mg_none_of X G zint
  have Mstr : mg "str" = none := PySem.W.mg_none_of X G zstr
  have Misinstance : mg "isinstance" = none := PySem.W.mg_none_of X G zisinstance
  have Mlen : mg "len" = none := PySem.W.mg_none_of X G zlen
  have Mall : mg "all" = none := PySem.W.mg_none_of X G zall
  have Mabs : mg "abs" = none := PySem.W.mg_none_of X G zabs
  have Mrange : mg "range" = none := PySem.W.mg_none_of X G zrange
  have Mlist : mg "list" = none := PySem.W.mg_none_of X G zlist
  have Mtuple : mg "tuple" = none := PySem.W.mg_none_of X G ztuple
  have Mset : mg "set" = none := PySem.W.mg_none_of X G zset
  have Msorted : mg "sorted" = none := PySem.W.mg_none_of X G zsorted
  have Menumerate : mg "enumerate" = none := PySem.W.mg_none_of X G zenumerate
  have Mrepr : mg "repr" = none := PySem.W.mg_none_of X G zrepr
  let Disname : At K mg "is_name" sIsName ["value"] := ⟨(He.ga K "is_name"), _, Xisname, Xisname.binds (ps := ["value"]) fun _ _ _ _ _ _ us hl => match us, hl with | [_], _ => rfl, PySem.W.mg_of X G aisname⟩
  let Dissequence : At K mg "is_sequence" sIsSeq ["value"] := ⟨(He.ga K "is_sequence"), _, Xissequence, Xissequence.binds (ps := ["value"]) fun _ _ _ _ _ _ us hl => match us, hl with | [_], _ => rfl, PySem.W.mg_of X G aissequence⟩
  let Distriple : At K mg "is_triple" sIsTri ["value"] := ⟨(He.ga K "is_triple"), _, Xistriple, Xistriple.binds (ps := ["value"]) fun _ _ _ _ _ _ us hl => match us, hl with | [_], _ => rfl, PySem.W.mg_of X G aistriple⟩
  let Dneedtriples : At K mg "need_triples" sNeedT ["items"] := ⟨(He.ga K "need_triples"), _, Xneedtriples, Xneedtriples.binds (ps := ["items"]) fun _ _ _ _ _ _ us hl => match us, hl with | [_], _ => rfl, PySem.W.mg_of X G aneedtriples⟩
  let Drightsof : At K mg "rights_of" sRights ["triples"] := ⟨(He.ga K "rights_of"), _, Xrightsof, Xrightsof.binds (ps := ["triples"]) fun _ _ _ _ _ _ us hl => match us, hl with | [_], _ => rfl, PySem.W.mg_of X G arightsof⟩
  obtain ⟨dsLeaves0, vLeaves0, bLeaves0⟩ := FLeaves.binds1 (ps := ["self", "items"]) 1 0 (by simp) rfl fun _ _ _ _ _ _ _ us its hl hi => match us, its, hl, hi with | [_], [_], _, _ => ⟨_, rfl, rfl⟩
  obtain ⟨dsLeaves1, vLeaves1, bLeaves1⟩ := FLeaves.binds1 (ps := ["self", "items"]) 2 1 (by simp) rfl fun _ _ _ _ _ _ _ us its hl hi => match us, its, hl, hi with | [_, _], [_], _, _ => ⟨_, rfl, rfl⟩
  have eLeaves : dsLeaves1 = [] := by cases vLeaves1; rfl
  subst eLeaves
  let MeqLeaves : TMeth K (He.ga K "Leaves") "__eq__" "Leaves.__eq__" sLEq ["self", "other"] := ⟨(He.ma K (He.ga K "Leaves") "__eq__"), _, XeqLeaves, XeqLeaves.binds (ps := ["self", "other"]) fun _ _ _ _ _ _ us hl => match us, hl with | [_, _], _ => rfl, ineqLeaves, ieqLeaves⟩
  let MstrLeaves : TMeth K (He.ga K "Leaves") "__str__" "Leaves.__str__" sLStr ["self"] := ⟨(He.ma K (He.ga K "Leaves") "__str__"), _, XstrLeaves, XstrLeaves.binds (ps := ["self"]) fun _ _ _ _ _ _ us hl => match us, hl with | [_], _ => rfl, instrLeaves, istrLeaves⟩
  let MpairsLeaves : TPr K (He.ga K "Leaves") "pairs" "Leaves.pairs" sLPairs := ⟨(He.ma K (He.ga K "Leaves") "pairs"), (getterQ K (He.ma K (He.ga K "Leaves") "pairs")), _, XpairsLeaves, XpairsLeaves.binds (ps := ["self"]) fun _ _ _ _ _ _ us hl => match us, hl with | [_], _ => rfl, propQ_ok (told_at c 3 8)⟩
  let Mword_ofLeaves : TMeth K (He.ga K "Leaves") "word_of" "Leaves.word_of" sWordOf ["self", "name", "counter"] := ⟨(He.ma K (He.ga K "Leaves") "word_of"), _, Xword_ofLeaves, Xword_ofLeaves.binds (ps := ["self", "name", "counter"]) fun _ _ _ _ _ _ us hl => match us, hl with | [_, _, _], _ => rfl, inword_ofLeaves, iword_ofLeaves⟩
  let MlenLeaves : TMeth K (He.ga K "Leaves") "__len__" "Leaves.__len__" sLLen ["self"] := ⟨(He.ma K (He.ga K "Leaves") "__len__"), _, XlenLeaves, XlenLeaves.binds (ps := ["self"]) fun _ _ _ _ _ _ us hl => match us, hl with | [_], _ => rfl, inlenLeaves, ilenLeaves⟩
  let Dlawdeal : At K mg "_law_deal" sDeal ["_law_script", "_law_base"] := ⟨(He.ga K "_law_deal"), _, Xlawdeal, Xlawdeal.binds (ps := ["_law_script", "_law_base"]) fun _ _ _ _ _ _ us hl => match us, hl with | [_, _], _ => rfl, PySem.W.mg_of X G alawdeal⟩
  let Dlawdraw : At K mg "_law_draw" sDraw ["_law_deal_here", "_law_many"] := ⟨(He.ga K "_law_draw"), _, Xlawdraw, Xlawdraw.binds (ps := ["_law_deal_here", "_law_many"]) fun _ _ _ _ _ _ us hl => match us, hl with | [_, _], _ => rfl, PySem.W.mg_of X G alawdraw⟩
  let Dlawpick : At K mg "_law_pick" sPick ["_law_deal_here", "_law_some"] := ⟨(He.ga K "_law_pick"), _, Xlawpick, Xlawpick.binds (ps := ["_law_deal_here", "_law_some"]) fun _ _ _ _ _ _ us hl => match us, hl with | [_, _], _ => rfl, PySem.W.mg_of X G alawpick⟩
  let Dlawmixed : At K mg "_law_mixed" sMixed ["_law_deal_here", "_law_some"] := ⟨(He.ga K "_law_mixed"), _, Xlawmixed, Xlawmixed.binds (ps := ["_law_deal_here", "_law_some"]) fun _ _ _ _ _ _ us hl => match us, hl with | [_, _], _ => rfl, PySem.W.mg_of X G alawmixed⟩
  let Dlawvalue : At K mg "_law_value" sValue ["_law_deal_here", "_law_deep"] := ⟨(He.ga K "_law_value"), _, Xlawvalue, Xlawvalue.binds (ps := ["_law_deal_here", "_law_deep"]) fun _ _ _ _ _ _ us hl => match us, hl with | [_, _], _ => rfl, PySem.W.mg_of X G alawvalue⟩
  let Dlawitems : At K mg "_law_items" sItems ["_law_deal_here", "_law_many"] := ⟨(He.ga K "_law_items"), _, Xlawitems, Xlawitems.binds (ps := ["_law_deal_here", "_law_many"]) fun _ _ _ _ _ _ us hl => match us, hl with | [_, _], _ => rfl, PySem.W.mg_of X G alawitems⟩
  let Dlawtable : At K mg "_law_table" sTable ["_law_items_here"] := ⟨(He.ga K "_law_table"), _, Xlawtable, Xlawtable.binds (ps := ["_law_items_here"]) fun _ _ _ _ _ _ us hl => match us, hl with | [_], _ => rfl, PySem.W.mg_of X G alawtable⟩
  let Dlawtriples : At K mg "_law_triples" sTrips ["_law_table_here"] := ⟨(He.ga K "_law_triples"), _, Xlawtriples, Xlawtriples.binds (ps := ["_law_table_here"]) fun _ _ _ _ _ _ us hl => match us, hl with | [_], _ => rfl, PySem.W.mg_of X G alawtriples⟩
  let NZ : TChk K mg := { mStr := Mstr, mIsi := Misinstance, mLen := Mlen, mAll := Mall, words := (He.ga K "ROW_WORDS"), mWords := PySem.W.mg_of X G aROWWORDS, hWords := SROWWORDS, tok := tkLONGESTNAME, mLong := ILONGESTNAME, isName := Disname }
  let RZ : TRowz K mg := { N := NZ }
  let FZ : TFilz RZ := { cN := hnGet, cT := htGet, mList := Mlist, mTup := Mtuple, mSet := Mset, mSorted := Msorted, isSeq := Dissequence }
  let YY : TLv FZ := { mEn := Menumerate, lw := (He.ga K "LEAVE_WORDS"), mLW := PySem.W.mg_of X G aLEAVEWORDS, hLW := SLEAVEWORDS, isTri := Distriple, needT := Dneedtriples, rights := Drightsof, C := (He.ga K "Leaves"), mC := PySem.W.mg_of X G aLeaves, fI := (He.ma K (He.ga K "Leaves") "__init__"), fdI := _, dP := (He.dflAt ("Leaves", some "__init__") 0 K), hP := SDLeaves, FI := FLeaves, bI := bLeaves1, M := ⟨mkLeaves, inLeaves, iLeaves, kcLeaves⟩, cl := ⟨pgLeaves, hdLeaves, poLeaves, saLeaves⟩, noR := nLeaves0 }
  let YE : TLvE YY := { cA := cALeaves, cM := cMLeaves, kC := kCLeaves, eq := MeqLeaves }
  let YP : TLvP YY := { pairs := MpairsLeaves, str := MstrLeaves }
  let YR : TLvR YE := { sf := sfLeaves, nC := nCLeaves, ne := neLeaves }
  let YW : TLvW YE YP := { word := Mword_ofLeaves, len := MlenLeaves, hsub := hsLeaves, kD := fun d => match d with | .none => kLDNoneType | .bool _ => kLDbool | .int _ => kLDint | .str _ => kLDstr | .list _ => kLDlist | .tuple _ => kLDtuple | .dict _ => kLDdict, nD := fun d => match d with | .none => nLDNoneType | .bool _ => nLDbool | .int _ => nLDint | .str _ => nLDstr | .list _ => nLDlist | .tuple _ => nLDtuple | .dict _ => nLDdict }
  let D2 : TTab K mg := { mI := Mint, mA := Mabs, mL := Mlen, mR := Mrange, deal := Dlawdeal, draw := Dlawdraw, pick := Dlawpick, mStr := Mstr, mSorted := Msorted, mTup := Mtuple, items := Dlawitems, table := Dlawtable, trips := Dlawtriples }
  let DC : TDealM K mg := { mI := Mint, mA := Mabs, mL := Mlen, mLs := Mlist, deal := Dlawdeal, draw := Dlawdraw, mixed := Dlawmixed }
  let DV : TVal K mg := { mI := Mint, mA := Mabs, mL := Mlen, mR := Mrange, mTup := Mtuple, deal := Dlawdeal, draw := Dlawdraw, pick := Dlawpick, val := Dlawvalue }
  let T : TK31 K mg := { D := D2, M := DC, VA := DV, R := RZ, F := FZ, Y := YY, Z := YE, ZP := YP, RR := YR, W := YW, dL := dsLeaves0, vL := vLeaves0, bL := bLeaves0, mRepr := Mrepr }
  have Flaw : FunD K "law" "law" (defArgs sLaw31) (defBody sLaw31) (defScope sLaw31) [] [] (He.ga K "law") fdlaw := Ylaw
  have blaw := FunD.bindsA (ps := ["_law_script"]) Flaw fun _ _ _ _ _ _ us hl => match us, hl with | [_], _ => rfl
  exact ⟨_, fun s v => blaw s [v] rfl, fun base _ _ => ok_law31 T (Xlaw) ⟨rfl, by decide, by decide⟩ rfl⟩
end Pn

open PySem PySem.W PySem.Calls PyProof.Rows
theorem PySem.Challenge.cw_partnotes_k31_leaves_made_holds : PySem.Challenge.rw_partnotes_k31_leaves_made.Holds := by
  w_on; o_law
  refine HandSHeadRun.head_any (M := 20000) (r := Pn.rowQ) (q := Pn.progQ) (H := Pn.hookQ 5 Pn.fnQ Pn.exQ) (ob := Pn.seenQ 5 Pn.fnQ Pn.exQ) (loose := Pn.namesQ) (kwd := []) (d := HandSHeadRun.topDef Pn.rowQ.prog 25) (Pn.seenQ_eq 5 Pn.fnQ Pn.exQ)
    (by kernel_rfl) (fun z => by kernel_rfl) Pn.runQ (by kernel_rfl) (by kernel_rfl) (by kernel_rfl) (by rfl) (by first | assumption | decide +kernel) (by decide +kernel) ⟨rfl, rfl, rfl, rfl, rfl, by decide +kernel⟩ ?hw ?hc
  case hw => w_witness2
  case hc =>
    refine Pn.walk_gE (l := PySem.Challenge.rw_partnotes_k31_leaves_made) (n := 63) (x := "_law_script") rfl (by decide) (by kernel_rfl) ?F
    intro w mg fa h Y G hm
    obtain ⟨K, KX, c⟩ := Y
    have hg : mg ("law" : PySem.Str) = some (.ref fa) := by
      have e : (HandSHeadRun.topDef Pn.rowQ.prog 25).name = ("law" : PySem.Str) := by kernel_rfl
      rw [← e]; exact hm
    obtain ⟨fd, hb, hF⟩ := Pn.facts (P := (PySem.Challenge.rw_partnotes_k31_leaves_made).prog) (w := w) KX G hg c
    exact ⟨K, fd, Pn.spLaw31 K, KX, hb, fun H a ns hl hS => ⟨a, ns, rfl, hS, hl, fun _ => rfl⟩, hF⟩
