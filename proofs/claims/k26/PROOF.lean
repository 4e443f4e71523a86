import PyProof.Rows.All
import Wide.All
import OpenK.AllK
import Wide.FinOn
import HandS.ForMost
import HandS.Wide
import KE.KStateDown
import HandS.Head0
import HandS.Head1
import HandS.Head2
import HandS.HeadEnd
import HandS.HeadHook1
import HandS.HeadHook2
import HandS.Property
import HandS.ClsMeth
import HandS.IsInst
import HandS.Walk
import HandS.Text
import HandS.Exc
import HandS.ExcInit
import HandS.ExcField
import HandS.ExcIs
import HandS.WordsExc
import HandS.TryOnly
import KE.KExcIs
import HandS.ExcCtx
import HandS.ExcInitHot
import HandS.SuiteRaise
import HandS.RaiseFrom
import HandS.Defaults
import HandS.FStr
import KE.KCallOwn
import Flt.Len
import KE.IntTextLaws
import KE.IntTextText
import HandS.HotCalls
import HandS.TupLe
import HandS.RaiseMore
import HandS.OwnEq
import HandS.SlotsOwn
import HandS.NamedTupSort
import HandS.Ends
import HandS.Dict
import HandS.WordsDict
import HandS.Star
import HandS.SetTxt0
import HandS.SetFor
import PyProof.Rows.SortStr
import HandS.SetKeys
import HandS.Strs
import HandS.Comp
import PyProof.NeKinds
import HandS.Rev
import KE.KDictPairs
import HandS.Style
import KE.GoesMore
import HandS.Zip
import HandS.Flow
import HandS.More
import HandS.TupAny
import HandS.DictComp
import HandS.ListItems
import KE.KOpsOwn
import PyProof.ReprLen
import PySem.Challenge.RW_partnotes_k26_maps_of_parts
set_option Elab.async false
set_option maxRecDepth 100000
set_option maxHeartbeats 4000000
namespace Pn
open PySem L2
/-! the text by places -/
def top (i : Nat) : Stmt := PySem.Challenge.pw_partnotes_k26_maps_of_parts.main.body.getD i (.Pass ⟨0, 0, 0, 0⟩)
/-- a def of the top: where it stands, what binds its arguments -/
structure At (K : PySem.W.Frag) (mg : Str → Option Value) (x : Str) (st : Stmt) (ps : List Str) : Type where
  f : Addr
  fd : FuncData
  F : Fun K x x st f fd
  b : Binds K fd ps []
  m : mg x = some (.ref f)
/-- all but what stands at b is as it was -/
def Kp (b : Addr) (H H' : Hp) : Prop := ∀ a o, H a = some o → a ≠ b → H' a = some o
theorem Kp.refl (b : Addr) (H : Hp) : Kp b H H := fun _ _ h _ => h
theorem Kp.trans {b : Addr} {H H1 H2 : Hp} (h : Kp b H H1) (g : Kp b H1 H2) : Kp b H H2 := fun a o e n => g a o (h a o e n) n
theorem Kp.new {b p : Addr} {H H1 : Hp} {o : HO} (h : Kp b H H1) (hp : H1 p = none) : Kp b H (upd H1 p o) := fun a u e n => by
  have z := h a u e n
  rw [upd_ne (ne_of_none z hp)]
  exact z
theorem Kp.box {b : Addr} {H H1 : Hp} {o : HO} (h : Kp b H H1) : Kp b H (upd H1 b o) := fun a u e n => by
  rw [upd_ne n]
  exact h a u e n
theorem Kp.sql {K : PySem.W.Frag} {b a : Addr} {xs : List V} {H H1 : Hp} (h : Kp b H H1) (n : a ≠ b) (s : SqL K H a xs) : SqL K H1 a xs := by
  rcases s with (s | ⟨o, s⟩) | s
  · exact .inl (.inl (h _ _ s n))
  · exact .inl (.inr ⟨o, h _ _ s n⟩)
  · exact .inr s
theorem Kp.sqt {K : PySem.W.Frag} {b a : Addr} {xs : List V} {H H1 : Hp} (h : Kp b H H1) (n : a ≠ b) (s : SqT K H a xs) : SqT K H1 a xs := by
  rcases s with (s | ⟨o, s⟩) | s
  · exact .inl (.inl (h _ _ s n))
  · exact .inl (.inr ⟨o, h _ _ s n⟩)
  · exact .inr s
theorem Kp.same {b : Addr} {H H1 : Hp} (h : Same H H1) : Kp b H H1 := fun a o e _ => h a o e
/-- the heap but for what stands at b -/
def hid (H : Hp) (b : Addr) : Hp := fun a => if a = b then none else H a
theorem hid_sub {H : Hp} {b : Addr} : Same (hid H b) H := fun a o e => by
  unfold hid at e
  by_cases h : a = b
  · rw [if_pos h] at e
    cases e
  · rw [if_neg h] at e
    exact e
theorem hid_kp {b : Addr} {H H1 : Hp} (h : Kp b H H1) : Same (hid H b) (hid H1 b) := fun a o e => by
  unfold hid at e ⊢
  by_cases n : a = b
  · rw [if_pos n] at e
    cases e
  · rw [if_neg n] at e ⊢
    exact h a o e n
theorem hid_get {b a : Addr} {H : Hp} {o : HO} (h : H a = some o) (n : a ≠ b) : hid H b a = some o := by
  unfold hid
  rw [if_neg n]
  exact h
theorem Same.sqt {K : PySem.W.Frag} {H H' : Hp} {a : Addr} {xs : List V} (e : Same H H') (h : SqT K H a xs) : SqT K H' a xs := by
  rcases h with (h | ⟨o, h⟩) | h
  · exact .inl (.inl (e _ _ h))
  · exact .inl (.inr ⟨o, e _ _ h⟩)
  · exact .inr h
theorem Same.new {H : Hp} {p : Addr} {o : HO} (h : H p = none) : Same H (upd H p o) := fun a u e => by
  rw [upd_ne (ne_of_none e h)]
  exact e
/-- what is new in H' -/
def dif (H H' : Hp) : Hp := fun a => match H a with
  | none => H' a
  | some _ => none
theorem dif_eq {H H' : Hp} {a : Addr} {o : HO} : dif H H' a = some o ↔ H a = none ∧ H' a = some o := by
  unfold dif
  cases h : H a with
  | none => exact ⟨fun e => ⟨rfl, e⟩, fun e => e.2⟩
  | some u => exact ⟨fun e => (nomatch (show (none : Option HO) = some o from e)), fun e => by cases e.1⟩
theorem dif_sub {H H' : Hp} : Same (dif H H') H' := fun _ _ e => (dif_eq.mp e).2
theorem dif_new {H H' : Hp} {a : Addr} {o : HO} (h : H a = none) (h' : H' a = some o) : dif H H' a = some o := dif_eq.mpr ⟨h, h'⟩
/-- what is tracked stays tracked -/
def Mo (H H' : Hp) : Prop := ∀ a, H' a = none → H a = none
theorem Mo.refl (H : Hp) : Mo H H := fun _ h => h
theorem Mo.trans {H H1 H2 : Hp} (h : Mo H H1) (g : Mo H1 H2) : Mo H H2 := fun a e => h a (g a e)
theorem Mo.upd {H : Hp} {p : Addr} {o : HO} : Mo H (upd H p o) := fun a e => by
  by_cases h : a = p
  · subst h
    rw [upd_same] at e
    cases e
  · rw [upd_ne h] at e
    exact e
theorem Kp.mo {b : Addr} {H H' : Hp} {o : HO} (h : Kp b H H') (hb : H' b = some o) : Mo H H' := fun a e => by
  cases q : H a with
  | none => rfl
  | some u =>
    have n : a ≠ b := fun z => by rw [z, hb] at e; cases e
    rw [h a u q n] at e
    cases e
/-- what was new stays: all of H1 but b, which stood in H -/
theorem dif_kp {b : Addr} {H H1 H2 : Hp} {o : HO} (hb : H b = some o) (k : Kp b H1 H2) : Same (dif H H1) (dif H H2) := fun a u e => by
  obtain ⟨e1, e2⟩ := dif_eq.mp e
  exact dif_new e1 (k a u e2 (fun z => by rw [z, hb] at e1; cases e1))
theorem dif_mo {H0 H H1 : Hp} (m : Mo H0 H) : Same (dif H H1) (dif H0 H1) := fun a u e => by
  obtain ⟨e1, e2⟩ := dif_eq.mp e
  exact dif_new (m a e1) e2
mutual
theorem dp_same {K : PySem.W.Frag} {H H' : Hp} (e : Same H H') : ∀ (d : PyData) (v : V), Dp K H v d → Dp K H' v d
  | .none, _, h => by cases h; exact .non
  | .bool _, _, h => by cases h; exact .bl _
  | .int _, _, h => by cases h; exact .int _
  | .str _, _, h => by cases h; exact .str _
  | .list ds, _, h => by
    cases h with
    | lst s a => exact .lst (e.seq s) (dpAll_same e ds _ a)
  | .tuple ds, _, h => by
    cases h with
    | tup s a => exact .tup (Same.sqt e s) (dpAll_same e ds _ a)
  | .dict _, _, h => by cases h
theorem dpAll_same {K : PySem.W.Frag} {H H' : Hp} (e : Same H H') : ∀ (ds : List PyData) (vs : List V), DpAll K H vs ds → DpAll K H' vs ds
  | [], _, h => by cases h; exact .nil
  | d :: ds, _, h => by
    cases h with
    | cons a b => exact .cons (dp_same e d _ a) (dpAll_same e ds _ b)
end
theorem dpAll_append {K : PySem.W.Frag} {H : Hp} : ∀ {vs : List V} {ds : List PyData} {ws : List V} {es : List PyData}, DpAll K H vs ds → DpAll K H ws es → DpAll K H (vs ++ ws) (ds ++ es)
  | _, _, _, _, .nil, g => g
  | _, _, _, _, .cons a b, g => .cons a (dpAll_append b g)
end Pn

namespace Pn
open PySem PySem.Spec PyProof.Rows L2
/-! ### what the top leaves: asked in one run -/
/-- a def that is asked for: where it lies, its names, its statement, its defaults -/
structure DefQ where
  loc : PySem.W.Frag → Addr
  nm : Str
  ql : Str
  st : Stmt
  dv : List He.Dv := []
abbrev FnQ : Type := Option (Str × Str × Addr × Addr × Arguments × FuncBody × Scope × List (Str × Addr))
def fnSeen (K : PySem.W.Frag) (a : Addr) : FnQ := match K.lookup a with
  | some ⟨_, _, .func q, _⟩ => some (q.qualname, q.name, q.builtins, q.globals, q.params, q.body, q.scope, q.closure)
  | _ => none
def DefQ.is (d : DefQ) : FnQ := some (d.ql, d.nm, builtinsNs, mainGlobals, defArgs d.st, .stmts (defBody d.st), defScope d.st, [])
def DefQ.vals (d : DefQ) (K : PySem.W.Frag) : List V := d.dv.map (He.Dv.v K)
def DefQ.good (K : PySem.W.Frag) (d : DefQ) : Bool := match K.lookup (d.loc K) with
  | some ⟨_, _, .func q, _⟩ => PySem.W.keepIn K (.ref (d.loc K)) && (PySem.W.codeIn K q.code d.ql && He.dflB K q.defaults (d.vals K))
  | _ => false
theorem DefQ.funD {K : PySem.W.Frag} {d : DefQ} (e : fnSeen K (d.loc K) = d.is) (c : d.good K = true) : ∃ fd, FunD K d.nm d.ql (defArgs d.st) (defBody d.st) (defScope d.st) (d.vals K) [] (d.loc K) fd := by
  unfold DefQ.good at c
  unfold fnSeen at e
  cases hl : K.lookup (d.loc K) with
  | none => rw [hl] at c; cases c
  | some o =>
    obtain ⟨oc, od, dat, sl⟩ := o
    rw [hl] at c e
    cases dat with
    | func q =>
      obtain ⟨a1, a2, a3, a4, a5, a6, a7, a8, a9, b1, b2, b3, b4, b5, b6⟩ := q
      have e2 : (some (a2, a1, b6, a6, a3, a4, a5, a7) : FnQ) = some (d.ql, d.nm, builtinsNs, mainGlobals, defArgs d.st, .stmts (defBody d.st), defScope d.st, []) := e
      injection e2 with e2
      obtain ⟨rfl, rfl, rfl, rfl, rfl, rfl, rfl, rfl⟩ : a2 = d.ql ∧ a1 = d.nm ∧ b6 = builtinsNs ∧ a6 = mainGlobals ∧ a3 = defArgs d.st ∧ a4 = .stmts (defBody d.st) ∧ a5 = defScope d.st ∧ a7 = [] := by simpa using e2
      have c2 : (PySem.W.keepIn K (.ref (d.loc K)) && (PySem.W.codeIn K b4 d.ql && He.dflB K a8 (d.vals K))) = true := c
      rw [Bool.and_eq_true, Bool.and_eq_true] at c2
      exact ⟨_, ⟨oc, od, a8, a9, b1, b2, b3, b4, b5, sl, rfl, hl, c2.2.1, He.dflB_ok c2.2.2, .inl rfl⟩, c2.1⟩
    | _ => cases c
theorem fun_of {K : PySem.W.Frag} {x ql : Str} {st : Stmt} {f : Addr} {fd : FuncData} (F : FunD K x ql (defArgs st) (defBody st) (defScope st) [] [] f fd) : Fun K x ql st f fd := by
  obtain ⟨⟨oc, od, dV, kV, doc, pm, an, cdv, ct, sl, e, hl, hc, hd, _⟩, hk⟩ := F
  rcases hd with ⟨_, rfl⟩ | ⟨h, _⟩
  · exact ⟨⟨oc, od, kV, doc, pm, an, cdv, ct, sl, e, hl, hc⟩, hk⟩
  · exact absurd rfl h
abbrev Ask : Type := PySem.W.Frag → Bool
def askQ (fn : List DefQ) (ex : List (List Ask)) (K : PySem.W.Frag) : Bool × List FnQ := ((fn.all fun d => d.good K) && ex.all fun l => l.all fun f => f K, fn.map fun d => fnSeen K (d.loc K))
def toldQ (fn : List DefQ) : Bool × List FnQ := (true, fn.map DefQ.is)
/-- what an object leads to: a def's code and defaults, a class's own names, what a tuple or a dict holds -/
def leadsQ (o : Obj) : List Addr := match o.data with
  | .func q => He.refV q.code ++ He.refV q.defaults
  | .cls q => [q.ns]
  | .dict es _ => es.toList.flatMap fun z => He.refV z.val
  | .seq us _ => us.toList.flatMap He.refV
  | .fields us => us.toList.flatMap He.refV
  | _ => []
def levQ (g : Addr → Option Obj) : Nat → List Addr → List Addr
  | 0, as => as
  | n + 1, as => as ++ levQ g n (as.flatMap fun a => match g a with
    | some o => leadsQ o
    | none => [])
/-- the part of the heap that is looked at -/
def partQ (n : Nat) (g : Addr → Option Obj) : PySem.W.Frag := He.frG g (cStatics :: levQ g n [mainGlobals])
def hookQ (n : Nat) (fn : List DefQ) (ex : List (List Ask)) : PySem.W.Hook where
  α := Bool × List FnQ
  obs := fun s => askQ fn ex (partQ n s.heap.get?)
  val := fun _ => toldQ fn
  says := fun _ h => ∃ K : PySem.W.Frag, K.In h ∧ askQ fn ex K = toldQ fn
  of := fun _ _ e => ⟨_, He.frG_in, e⟩
  keeps := fun _ _ _ h k => by
    obtain ⟨K, hK, c⟩ := h
    exact ⟨K, PySem.W.Frag.In.keeps hK k, c⟩
def seenQ (n : Nat) (fn : List DefQ) (ex : List (List Ask)) (s : PySem.W.SharedT) : Bool × List FnQ := askQ fn ex (partQ n (HandSHeadRun.getT s))
theorem seenQ_eq (n : Nat) (fn : List DefQ) (ex : List (List Ask)) (s : PySem.W.SharedT) : seenQ n fn ex s = (hookQ n fn ex).obs s.abs := by
  have e : HandSHeadRun.getT s = s.abs.heap.get? := funext (HandSHeadRun.getT_eq s)
  unfold seenQ
  rw [e]
  rfl
section
variable {fn : List DefQ} {ex : List (List Ask)} {K : PySem.W.Frag}
theorem told_at (c : askQ fn ex K = toldQ fn) (i j : Nat) {l : List Ask} {f : Ask} (hl : ex[i]? = some l := by rfl) (hf : l[j]? = some f := by rfl) : f K = true := by
  have h := congrArg (fun z : Bool × List FnQ => z.1) c
  have h2 : ((fn.all fun d => d.good K) && ex.all fun l => l.all fun f => f K) = true := h
  rw [Bool.and_eq_true, List.all_eq_true, List.all_eq_true] at h2
  exact List.all_eq_true.mp (h2.2 l (List.mem_of_getElem? hl)) f (List.mem_of_getElem? hf)
theorem told_fn (c : askQ fn ex K = toldQ fn) (i : Nat) {d : DefQ} (hd : fn[i]? = some d := by rfl) : ∃ fd, FunD K d.nm d.ql (defArgs d.st) (defBody d.st) (defScope d.st) (d.vals K) [] (d.loc K) fd := by
  have h := congrArg (fun z : Bool × List FnQ => z.1) c
  have h2 : ((fn.all fun d => d.good K) && ex.all fun l => l.all fun f => f K) = true := h
  rw [Bool.and_eq_true, List.all_eq_true] at h2
  have h3 : fn.map (fun d => fnSeen K (d.loc K)) = fn.map DefQ.is := congrArg (fun z : Bool × List FnQ => z.2) c
  have h4 := congrArg (fun l : List FnQ => l[i]?) h3
  simp only [List.getElem?_map, hd, Option.map_some] at h4
  exact DefQ.funD (Option.some.inj h4) (h2.1 d (List.mem_of_getElem? hd))
end
/-- an own exception class -/
def excQ (K : PySem.W.Frag) (C : Addr) (nid : String) : Bool := match K.lookup C with
  | some ⟨.type t, _, .cls cd, sl⟩ => decide (t = "type") && (cd.hasDict && (!cd.hasDel && ((match cd.mro with
    | .ref D :: bm => decide (D = C) && PySem.HandSPX.refsVE bm
    | _ => false) && (match sl.toList with
    | [_, _, _, _, some (.builtin n), _] => decide (n = nid)
    | _ => false))))
  | _ => false
theorem excQ_ok {K : PySem.W.Frag} {C : Addr} {nid : String} (h : excQ K C nid = true) : ∃ nm q N bs bm sn sub ab col dd k0 k1 k2 k3 k5, K.lookup C = some (excClassObj nm q C N bs bm true sn sub ab col dd k0 k1 k2 k3 k5 nid) ∧ PySem.HandSPX.refsVE bm = true := by
  unfold excQ at h
  split at h
  · rename_i t dd cd sl hl
    rw [Bool.and_eq_true, Bool.and_eq_true, Bool.and_eq_true, Bool.and_eq_true] at h
    obtain ⟨h1, h2, h3, h4, h5⟩ := h
    split at h4
    · rename_i D bm hm
      split at h5
      · rename_i k0 k1 k2 k3 n k5 hs
        rw [Bool.and_eq_true] at h4
        obtain ⟨h6, h7⟩ := h4
        have e1 := of_decide_eq_true h1
        have e2 := of_decide_eq_true h6
        have e3 := of_decide_eq_true h5
        obtain ⟨nm, bs, mro, ns, qn, hd, sn, sub, ab, col, del⟩ := cd
        simp only at hm h2 h3
        have e4 : del = false := by simpa using h3
        have e5 : sl = #[k0, k1, k2, k3, some (.builtin n), k5] := by
          obtain ⟨l⟩ := sl
          simp only at hs
          rw [hs]
        subst e1 e2 e3 e4 e5 h2 hm
        exact ⟨nm, qn, ns, bs, bm, sn, sub, ab, col, dd, k0, k1, k2, k3, k5, hl, h7⟩
      · cases h5
    · cases h4
  · cases h
/-- a tuple of the written part -/
def tupQ (K : PySem.W.Frag) (a : Addr) (vs : List He.Dv) : Bool := match K.lookup a with
  | some ⟨.type t, _, .seq its _, _⟩ => decide (t = "tuple") && (decide (its.size ≤ sizeLine) && He.relAll (vs.map (He.Dv.v K)) its.toList)
  | _ => false
theorem tupQ_ok {K : PySem.W.Frag} {a : Addr} {vs : List He.Dv} (h : tupQ K a vs = true) (H : Hp) : SqT K H a (vs.map (He.Dv.v K)) := by
  unfold tupQ at h
  split at h
  · rename_i t d its n sl hl
    rw [Bool.and_eq_true, Bool.and_eq_true] at h
    have e := of_decide_eq_true h.1
    subst e
    exact .inr ⟨_, its, n, hl, rfl, rfl, of_decide_eq_true h.2.1, He.relAll_ok h.2.2⟩
  · cases h
/-- the getter of a property -/
def getterQ (K : PySem.W.Frag) (p : Addr) : Addr := match PySem.W.recIn K p "property" with
  | some (.ref g :: _) => g
  | _ => 0
def propQ (K : PySem.W.Frag) (C : Addr) (nm : Str) : Bool := decide (PySem.W.findIn K (.ref C) nm = some (some (.ref (He.ma K C nm)))) && (decide (PySem.W.specialIn K (.ref (He.ma K C nm)) "__get__" = some (some (.builtin "property.__get__"))) && (decide (PySem.W.takesIn K (.ref (He.ma K C nm)) = some true) &&
  (match PySem.W.recIn K (He.ma K C nm) "property" with
  | some (.ref _ :: _) => true
  | _ => false)))
theorem propQ_ok {K : PySem.W.Frag} {C : Addr} {nm : Str} (h : propQ K C nm = true) : PropOf K C nm (He.ma K C nm) (getterQ K (He.ma K C nm)) := by
  unfold propQ at h
  rw [Bool.and_eq_true, Bool.and_eq_true, Bool.and_eq_true] at h
  obtain ⟨h1, h2, h3, h4⟩ := h
  refine ⟨of_decide_eq_true h1, of_decide_eq_true h2, of_decide_eq_true h3, ?_⟩
  unfold getterQ
  split at h4
  · rename_i g r hr
    exact ⟨r, by rw [hr]⟩
  · cases h4
end Pn

namespace Pn
open PySem PySem.Spec PyProof.Rows L2
/-! ### a classmethod, asked in the same run -/
def cgetQ (K : PySem.W.Frag) (p : Addr) : Addr := match PySem.W.recIn K p "classmethod" with
  | some (.ref g :: _) => g
  | _ => 0
def cfndQ (K : PySem.W.Frag) (C : Addr) (nm : Str) : Bool := match PySem.W.findCls K (.ref C) (.type "type") nm with
  | some (.get (.builtin g) (.ref p) .none (.ref D)) => decide (g = "classmethod.__get__") && (decide (p = He.ma K C nm) && decide (D = C))
  | _ => false
def crecQ (K : PySem.W.Frag) (p : Addr) : Bool := match PySem.W.recIn K p "classmethod" with
  | some (.ref _ :: _) => true
  | _ => false
def cmethQ (K : PySem.W.Frag) (C : Addr) (nm : Str) : Bool := PySem.W.readsIn K C (.type "type") && (decide (PySem.W.specialIn K (.ref C) "__getattribute__" = some (some (.builtin "type.__getattribute__"))) && (cfndQ K C nm && (crecQ K (He.ma K C nm) && PySem.W.fnIn K (cgetQ K (He.ma K C nm)))))
theorem cmethQ_ok {K : PySem.W.Frag} {C : Addr} {nm : Str} (h : cmethQ K C nm = true) : ClX.CRead K C (.type "type") ∧ ClX.CMet K C (.type "type") nm (He.ma K C nm) (cgetQ K (He.ma K C nm)) := by
  unfold cmethQ at h
  rw [Bool.and_eq_true, Bool.and_eq_true, Bool.and_eq_true, Bool.and_eq_true] at h
  obtain ⟨h1, h2, h3, h4, h5⟩ := h
  refine ⟨⟨h1, of_decide_eq_true h2⟩, ⟨?_, ?_, h5⟩⟩
  · unfold cfndQ at h3
    split at h3
    · rename_i g p D e
      rw [Bool.and_eq_true, Bool.and_eq_true] at h3
      obtain ⟨a, b, c⟩ := h3
      have a := of_decide_eq_true a
      have b := of_decide_eq_true b
      have c := of_decide_eq_true c
      rw [e, a, b, c]
    · cases h3
  · unfold crecQ at h4
    unfold cgetQ
    split at h4
    · rename_i g r e
      exact ⟨r, by rw [e]⟩
    · cases h4
end Pn

namespace Pn
open PySem PySem.Spec PyProof.Rows L2
/-! ### a module's tuple of two tuples of a text and a number -/
def stayQ (K : PySem.W.Frag) (a : Addr) : Bool := match K.lookup a with
  | some ⟨.type t, _, .seq its _, _⟩ => decide (t = "tuple") && (decide (its.size ≤ sizeLine) && (match its.toList with
    | [.ref b, .ref c] => tupQ K b [.str "now", .int 0] && tupQ K c [.str "box", .int 0]
    | _ => false))
  | _ => false
end Pn

namespace Pn
open PySem PySem.Spec PyProof.Rows L2
def fnQ0 : List DefQ := [
  { loc := fun K => (He.ga K "is_integer"), nm := "is_integer", ql := "is_integer", st := top 4, dv := [] },
  { loc := fun K => (He.ga K "is_number"), nm := "is_number", ql := "is_number", st := top 5, dv := [] },
  { loc := fun K => (He.ga K "is_name"), nm := "is_name", ql := "is_name", st := top 6, dv := [] },
  { loc := fun K => (He.ma K (He.ga K "InvalidRow") "__init__"), nm := "__init__", ql := "InvalidRow.__init__", st := inClass (top 11) 0, dv := [] },
  { loc := fun K => (He.ga K "need_name"), nm := "need_name", ql := "need_name", st := top 22, dv := [] },
  { loc := fun K => (He.ma K (He.ga K "Note") "__init__"), nm := "__init__", ql := "Note.__init__", st := inClass (top 23) 0, dv := [.str ""] },
  { loc := fun K => (He.ma K (He.ga K "Note") "__str__"), nm := "__str__", ql := "Note.__str__", st := inClass (top 23) 1, dv := [] },
  { loc := fun K => (He.ma K (He.ga K "Skip") "__init__"), nm := "__init__", ql := "Skip.__init__", st := inClass (top 24) 0, dv := [] },
  { loc := fun K => (He.ma K (He.ga K "Skip") "__str__"), nm := "__str__", ql := "Skip.__str__", st := inClass (top 24) 1, dv := [] },
  { loc := fun K => (He.ma K (He.ga K "Set") "__init__"), nm := "__init__", ql := "Set.__init__", st := inClass (top 25) 0, dv := [] },
  { loc := fun K => (He.ma K (He.ga K "Set") "__str__"), nm := "__str__", ql := "Set.__str__", st := inClass (top 25) 1, dv := [] },
  { loc := fun K => (He.ma K (He.ga K "Keep") "__init__"), nm := "__init__", ql := "Keep.__init__", st := inClass (top 26) 0, dv := [] }]
def fnQ1 : List DefQ := [
  { loc := fun K => (He.ma K (He.ga K "Keep") "__str__"), nm := "__str__", ql := "Keep.__str__", st := inClass (top 26) 1, dv := [] },
  { loc := fun K => (He.ma K (He.ga K "Back") "__init__"), nm := "__init__", ql := "Back.__init__", st := inClass (top 27) 0, dv := [] },
  { loc := fun K => (He.ma K (He.ga K "Back") "__str__"), nm := "__str__", ql := "Back.__str__", st := inClass (top 27) 1, dv := [] },
  { loc := fun K => (He.ma K (He.ga K "Ref") "__init__"), nm := "__init__", ql := "Ref.__init__", st := inClass (top 28) 0, dv := [] },
  { loc := fun K => (He.ma K (He.ga K "Ref") "__str__"), nm := "__str__", ql := "Ref.__str__", st := inClass (top 28) 1, dv := [] },
  { loc := fun K => (He.ma K (He.ga K "Put") "__init__"), nm := "__init__", ql := "Put.__init__", st := inClass (top 29) 0, dv := [] },
  { loc := fun K => (He.ma K (He.ga K "Put") "__str__"), nm := "__str__", ql := "Put.__str__", st := inClass (top 29) 1, dv := [] },
  { loc := fun K => (He.ma K (He.ga K "Open") "__init__"), nm := "__init__", ql := "Open.__init__", st := inClass (top 30) 0, dv := [] },
  { loc := fun K => (He.ma K (He.ga K "Open") "__str__"), nm := "__str__", ql := "Open.__str__", st := inClass (top 30) 1, dv := [] },
  { loc := fun K => (He.ga K "is_sequence"), nm := "is_sequence", ql := "is_sequence", st := top 7, dv := [] },
  { loc := fun K => (He.ma K (He.ga K "InvalidPart") "__init__"), nm := "__init__", ql := "InvalidPart.__init__", st := inClass (top 12) 0, dv := [] },
  { loc := fun K => (He.ma K (He.ga K "Part") "__init__"), nm := "__init__", ql := "Part.__init__", st := inClass (top 37) 0, dv := [.adr (He.dflAt ("Part", some "__init__") 0)] }]
def fnQ2 : List DefQ := [
  { loc := fun K => (He.ma K (He.ga K "Part") "__str__"), nm := "__str__", ql := "Part.__str__", st := inClass (top 37) 1, dv := [] },
  { loc := fun K => (He.ma K (He.ga K "Part") "__eq__"), nm := "__eq__", ql := "Part.__eq__", st := inClass (top 37) 2, dv := [] },
  { loc := fun K => (He.ga K "is_pair"), nm := "is_pair", ql := "is_pair", st := top 8, dv := [] },
  { loc := fun K => (He.ga K "are_counters"), nm := "are_counters", ql := "are_counters", st := top 38, dv := [] },
  { loc := fun K => (He.ga K "are_parts"), nm := "are_parts", ql := "are_parts", st := top 39, dv := [] },
  { loc := fun K => (He.ga K "counters_are_known"), nm := "counters_are_known", ql := "counters_are_known", st := top 40, dv := [] },
  { loc := fun K => (He.ga K "names_put"), nm := "names_put", ql := "names_put", st := top 41, dv := [] },
  { loc := fun K => (He.ga K "puts_are_earlier"), nm := "puts_are_earlier", ql := "puts_are_earlier", st := top 42, dv := [] },
  { loc := fun K => (He.ga K "names_reached"), nm := "names_reached", ql := "names_reached", st := top 43, dv := [] },
  { loc := fun K => (He.ga K "unroll"), nm := "unroll", ql := "unroll", st := top 44, dv := [] },
  { loc := fun K => (He.ga K "unrolled_text"), nm := "unrolled_text", ql := "unrolled_text", st := top 45, dv := [] },
  { loc := fun K => (He.ga K "refs_are_known"), nm := "refs_are_known", ql := "refs_are_known", st := top 46, dv := [] }]
def fnQ3 : List DefQ := [
  { loc := fun K => (He.ma K (He.ga K "Book") "__init__"), nm := "__init__", ql := "Book.__init__", st := inClass (top 53) 0, dv := [] },
  { loc := fun K => (getterQ K (He.ma K (He.ga K "Book") "names")), nm := "names", ql := "Book.names", st := inClass (top 53) 2, dv := [] },
  { loc := fun K => (getterQ K (He.ma K (He.ga K "Book") "tops")), nm := "tops", ql := "Book.tops", st := inClass (top 53) 3, dv := [] },
  { loc := fun K => (getterQ K (He.ma K (He.ga K "Book") "unrolled")), nm := "unrolled", ql := "Book.unrolled", st := inClass (top 53) 4, dv := [] },
  { loc := fun K => (He.ma K (He.ga K "Book") "chain"), nm := "chain", ql := "Book.chain", st := inClass (top 53) 7, dv := [] },
  { loc := fun K => (He.ga K "going_on"), nm := "going_on", ql := "going_on", st := top 59, dv := [] },
  { loc := fun K => (He.ga K "own_step"), nm := "own_step", ql := "own_step", st := top 60, dv := [] },
  { loc := fun K => (He.ga K "step_of"), nm := "step_of", ql := "step_of", st := top 61, dv := [] },
  { loc := fun K => (He.ga K "reckoned"), nm := "reckoned", ql := "reckoned", st := top 62, dv := [] },
  { loc := fun K => (He.ma K (He.ga K "InvalidMap") "__init__"), nm := "__init__", ql := "InvalidMap.__init__", st := inClass (top 15) 0, dv := [] },
  { loc := fun K => (He.ga K "traced"), nm := "traced", ql := "traced", st := top 63, dv := [] },
  { loc := fun K => (He.ga K "joined"), nm := "joined", ql := "joined", st := top 64, dv := [] }]
def fnQ4 : List DefQ := [
  { loc := fun K => (He.ga K "is_term"), nm := "is_term", ql := "is_term", st := top 66, dv := [] },
  { loc := fun K => (He.ga K "term_text"), nm := "term_text", ql := "term_text", st := top 67, dv := [] },
  { loc := fun K => (He.ma K (He.ga K "Map") "__init__"), nm := "__init__", ql := "Map.__init__", st := inClass (top 68) 0, dv := [.adr (He.dflAt ("Map", some "__init__") 0), .adr (He.dflAt ("Map", some "__init__") 1)] },
  { loc := fun K => (He.ma K (He.ga K "Map") "__call__"), nm := "__call__", ql := "Map.__call__", st := inClass (top 68) 1, dv := [] },
  { loc := fun K => (He.ma K (He.ga K "Map") "__rshift__"), nm := "__rshift__", ql := "Map.__rshift__", st := inClass (top 68) 2, dv := [] },
  { loc := fun K => (He.ma K (He.ga K "Map") "__str__"), nm := "__str__", ql := "Map.__str__", st := inClass (top 68) 4, dv := [] },
  { loc := fun K => (He.ma K (He.ga K "Map") "__eq__"), nm := "__eq__", ql := "Map.__eq__", st := inClass (top 68) 5, dv := [] },
  { loc := fun K => (He.ma K (He.ga K "Book") "number_of"), nm := "number_of", ql := "Book.number_of", st := inClass (top 53) 5, dv := [] },
  { loc := fun K => (He.ga K "step_along"), nm := "step_along", ql := "step_along", st := top 69, dv := [] },
  { loc := fun K => (He.ga K "map_of"), nm := "map_of", ql := "map_of", st := top 70, dv := [] },
  { loc := fun K => (He.ga K "_law_deal"), nm := "_law_deal", ql := "_law_deal", st := top 72, dv := [] },
  { loc := fun K => (He.ga K "_law_draw"), nm := "_law_draw", ql := "_law_draw", st := top 73, dv := [] }]
def fnQ5 : List DefQ := [
  { loc := fun K => (He.ga K "_law_pick"), nm := "_law_pick", ql := "_law_pick", st := top 74, dv := [] },
  { loc := fun K => (He.ga K "_law_mixed"), nm := "_law_mixed", ql := "_law_mixed", st := top 75, dv := [] },
  { loc := fun K => (He.ga K "_law_names"), nm := "_law_names", ql := "_law_names", st := top 76, dv := [] },
  { loc := fun K => (He.ga K "_law_counters"), nm := "_law_counters", ql := "_law_counters", st := top 77, dv := [] },
  { loc := fun K => (He.ga K "_law_row"), nm := "_law_row", ql := "_law_row", st := top 78, dv := [] },
  { loc := fun K => (He.ga K "_law_unrolled"), nm := "_law_unrolled", ql := "_law_unrolled", st := top 80, dv := [] },
  { loc := fun K => (He.ga K "_law_book"), nm := "_law_book", ql := "_law_book", st := top 79, dv := [] },
  { loc := fun K => (He.ga K "_law_row_of"), nm := "_law_row_of", ql := "_law_row_of", st := top 83, dv := [] },
  { loc := fun K => (He.ga K "_law_book_of"), nm := "_law_book_of", ql := "_law_book_of", st := top 84, dv := [] },
  { loc := fun K => (He.ga K "_law_below"), nm := "_law_below", ql := "_law_below", st := top 81, dv := [] },
  { loc := fun K => (He.ga K "_law_done"), nm := "_law_done", ql := "_law_done", st := top 82, dv := [] },
  { loc := fun K => (He.ga K "_law_gone"), nm := "_law_gone", ql := "_law_gone", st := top 85, dv := [] }]
def fnQ6 : List DefQ := [
  { loc := fun K => (He.ga K "law"), nm := "law", ql := "law", st := top 86, dv := [] }]
def fnQ : List DefQ := fnQ0 ++ fnQ1 ++ fnQ2 ++ fnQ3 ++ fnQ4 ++ fnQ5 ++ fnQ6
def exQ0 : List Ask := [
  fun K => decide (PySem.W.nsIn K mainGlobals "int" = some none),
  fun K => decide (PySem.W.nsIn K mainGlobals "bool" = some none),
  fun K => decide (PySem.W.nsIn K mainGlobals "str" = some none),
  fun K => decide (PySem.W.nsIn K mainGlobals "isinstance" = some none),
  fun K => decide (PySem.W.nsIn K mainGlobals "len" = some none),
  fun K => decide (PySem.W.nsIn K mainGlobals "all" = some none),
  fun K => decide (PySem.W.nsIn K mainGlobals "abs" = some none),
  fun K => decide (PySem.W.nsIn K mainGlobals "range" = some none),
  fun K => decide (PySem.W.nsIn K mainGlobals "list" = some none),
  fun K => decide (PySem.W.nsIn K mainGlobals "tuple" = some none)]
def exQ1 : List Ask := [
  fun K => decide (PySem.W.nsIn K mainGlobals "set" = some none),
  fun K => decide (PySem.W.nsIn K mainGlobals "reversed" = some none),
  fun K => decide (PySem.W.nsIn K mainGlobals "sorted" = some none),
  fun K => decide (PySem.W.nsIn K mainGlobals "dict" = some none),
  fun K => decide (PySem.W.nsIn K mainGlobals "enumerate" = some none),
  fun K => decide (PySem.W.nsIn K mainGlobals "repr" = some none),
  fun K => decide (PySem.W.nsIn K mainGlobals "ROW_WORDS" = some (some (.ref (He.ga K "ROW_WORDS")))),
  fun K => He.tupB K "ROW_WORDS" [.str "note", .str "skip", .str "set", .str "keep", .str "back", .str "ref", .str "put", .str "open", .str "part"],
  fun K => (He.Fa.int "LONGEST_NAME" 4).ok K,
  fun K => decide (PySem.W.nsIn K mainGlobals "is_integer" = some (some (.ref (He.ga K "is_integer"))))]
def exQ2 : List Ask := [
  fun K => decide (PySem.W.nsIn K mainGlobals "is_number" = some (some (.ref (He.ga K "is_number")))),
  fun K => decide (PySem.W.nsIn K mainGlobals "is_name" = some (some (.ref (He.ga K "is_name")))),
  fun K => decide (PySem.W.nsIn K mainGlobals "NoteError" = some (some (.ref (He.ga K "NoteError")))),
  fun K => decide (PySem.W.nsIn K mainGlobals "InvalidRow" = some (some (.ref (He.ga K "InvalidRow")))),
  fun K => excQ K (He.ga K "InvalidRow") "ValueError.__new__",
  fun K => decide (PySem.W.findIn K (.ref (He.ga K "InvalidRow")) "__setattr__" = some (some (.builtin "object.__setattr__"))),
  fun K => decide (PySem.W.findIn K (.ref (He.ga K "InvalidRow")) "__getattribute__" = some (some (.builtin "BaseException.__getattribute__"))),
  fun K => decide (PySem.W.findIn K (.ref (He.ga K "InvalidRow")) "__getattr__" = some (none)),
  fun K => decide (PySem.W.findIn K (.ref (He.ga K "InvalidRow")) "word" = some (none)),
  fun K => decide (PySem.W.findIn K (.ref (He.ga K "InvalidRow")) "__init__" = some (some (.ref (He.ma K (He.ga K "InvalidRow") "__init__"))))]
def exQ3 : List Ask := [
  fun K => decide (PySem.W.findIn K (.ref (He.ga K "InvalidRow")) "__class__" = some (some (.builtin "object.__class__"))),
  fun K => decide (PySem.W.typeIn K (.ref (He.ma K (He.ga K "InvalidRow") "__init__")) = some (.type "function")),
  fun K => PySem.W.keepIn K (.ref (He.ga K "InvalidRow")),
  fun K => decide (PySem.W.subIn K (.ref (He.ga K "InvalidRow")) (.type "BaseException") = some true),
  fun K => decide (PySem.W.typeIn K (.ref (He.ga K "InvalidRow")) = some (.type "type")),
  fun K => PySem.W.hasDictIn K (He.ga K "InvalidRow"),
  fun K => PySem.W.isClsIn K (He.ga K "InvalidRow"),
  fun K => decide (PySem.W.subIn K (.ref (He.ga K "InvalidRow")) (.ref (He.ga K "InvalidRow")) = some true),
  fun K => decide (PySem.W.mroIn K (He.ga K "InvalidRow") (.type "object") = some true),
  fun K => decide (PySem.W.nsIn K mainGlobals "need_name" = some (some (.ref (He.ga K "need_name"))))]
def exQ4 : List Ask := [
  fun K => decide (PySem.W.nsIn K mainGlobals "Note" = some (some (.ref (He.ga K "Note")))),
  fun K => decide (PySem.W.findIn K (.ref (He.ga K "Note")) "__init__" = some (some (.ref (He.ma K (He.ga K "Note") "__init__")))),
  fun K => PySem.W.isFn K (.ref (He.ma K (He.ga K "Note") "__init__")),
  fun K => PySem.W.plainGet K (He.ga K "Note") Str.empty,
  fun K => PySem.W.hasDictIn K (He.ga K "Note"),
  fun K => PySem.W.plainOver K (He.ga K "Note"),
  fun K => decide (PySem.W.findIn K (.ref (He.ga K "Note")) "__setattr__" = some (some (.builtin "object.__setattr__"))),
  fun K => PySem.W.makesIn K (He.ga K "Note"),
  fun K => PySem.W.keepIn K (.ref (He.ga K "Note")),
  fun K => decide (PySem.W.findIn K (.ref (He.ga K "Note")) "word" = some none)]
def exQ5 : List Ask := [
  fun K => decide (PySem.W.findIn K (.ref (He.ga K "Note")) "counter" = some none),
  fun K => decide (PySem.W.findIn K (.ref (He.ga K "Note")) "label" = some none),
  fun K => decide (PySem.W.findIn K (.ref (He.ga K "Note")) "__str__" = some (some (.ref (He.ma K (He.ga K "Note") "__str__")))),
  fun K => PySem.W.isFn K (.ref (He.ma K (He.ga K "Note") "__str__")),
  fun K => decide (PySem.W.nsIn K mainGlobals "Skip" = some (some (.ref (He.ga K "Skip")))),
  fun K => decide (PySem.W.findIn K (.ref (He.ga K "Skip")) "__init__" = some (some (.ref (He.ma K (He.ga K "Skip") "__init__")))),
  fun K => PySem.W.isFn K (.ref (He.ma K (He.ga K "Skip") "__init__")),
  fun K => PySem.W.plainGet K (He.ga K "Skip") Str.empty,
  fun K => PySem.W.hasDictIn K (He.ga K "Skip"),
  fun K => PySem.W.plainOver K (He.ga K "Skip")]
def exQ6 : List Ask := [
  fun K => decide (PySem.W.findIn K (.ref (He.ga K "Skip")) "__setattr__" = some (some (.builtin "object.__setattr__"))),
  fun K => PySem.W.makesIn K (He.ga K "Skip"),
  fun K => PySem.W.keepIn K (.ref (He.ga K "Skip")),
  fun K => decide (PySem.W.findIn K (.ref (He.ga K "Skip")) "word" = some none),
  fun K => decide (PySem.W.findIn K (.ref (He.ga K "Skip")) "counter" = some none),
  fun K => decide (PySem.W.findIn K (.ref (He.ga K "Skip")) "by" = some none),
  fun K => decide (PySem.W.findIn K (.ref (He.ga K "Skip")) "__str__" = some (some (.ref (He.ma K (He.ga K "Skip") "__str__")))),
  fun K => PySem.W.isFn K (.ref (He.ma K (He.ga K "Skip") "__str__")),
  fun K => decide (PySem.W.nsIn K mainGlobals "Set" = some (some (.ref (He.ga K "Set")))),
  fun K => decide (PySem.W.findIn K (.ref (He.ga K "Set")) "__init__" = some (some (.ref (He.ma K (He.ga K "Set") "__init__"))))]
def exQ7 : List Ask := [
  fun K => PySem.W.isFn K (.ref (He.ma K (He.ga K "Set") "__init__")),
  fun K => PySem.W.plainGet K (He.ga K "Set") Str.empty,
  fun K => PySem.W.hasDictIn K (He.ga K "Set"),
  fun K => PySem.W.plainOver K (He.ga K "Set"),
  fun K => decide (PySem.W.findIn K (.ref (He.ga K "Set")) "__setattr__" = some (some (.builtin "object.__setattr__"))),
  fun K => PySem.W.makesIn K (He.ga K "Set"),
  fun K => PySem.W.keepIn K (.ref (He.ga K "Set")),
  fun K => decide (PySem.W.findIn K (.ref (He.ga K "Set")) "word" = some none),
  fun K => decide (PySem.W.findIn K (.ref (He.ga K "Set")) "counter" = some none),
  fun K => decide (PySem.W.findIn K (.ref (He.ga K "Set")) "to" = some none)]
def exQ8 : List Ask := [
  fun K => decide (PySem.W.findIn K (.ref (He.ga K "Set")) "__str__" = some (some (.ref (He.ma K (He.ga K "Set") "__str__")))),
  fun K => PySem.W.isFn K (.ref (He.ma K (He.ga K "Set") "__str__")),
  fun K => decide (PySem.W.nsIn K mainGlobals "Keep" = some (some (.ref (He.ga K "Keep")))),
  fun K => decide (PySem.W.findIn K (.ref (He.ga K "Keep")) "__init__" = some (some (.ref (He.ma K (He.ga K "Keep") "__init__")))),
  fun K => PySem.W.isFn K (.ref (He.ma K (He.ga K "Keep") "__init__")),
  fun K => PySem.W.plainGet K (He.ga K "Keep") Str.empty,
  fun K => PySem.W.hasDictIn K (He.ga K "Keep"),
  fun K => PySem.W.plainOver K (He.ga K "Keep"),
  fun K => decide (PySem.W.findIn K (.ref (He.ga K "Keep")) "__setattr__" = some (some (.builtin "object.__setattr__"))),
  fun K => PySem.W.makesIn K (He.ga K "Keep")]
def exQ9 : List Ask := [
  fun K => PySem.W.keepIn K (.ref (He.ga K "Keep")),
  fun K => decide (PySem.W.findIn K (.ref (He.ga K "Keep")) "word" = some none),
  fun K => decide (PySem.W.findIn K (.ref (He.ga K "Keep")) "counter" = some none),
  fun K => decide (PySem.W.findIn K (.ref (He.ga K "Keep")) "__str__" = some (some (.ref (He.ma K (He.ga K "Keep") "__str__")))),
  fun K => PySem.W.isFn K (.ref (He.ma K (He.ga K "Keep") "__str__")),
  fun K => decide (PySem.W.nsIn K mainGlobals "Back" = some (some (.ref (He.ga K "Back")))),
  fun K => decide (PySem.W.findIn K (.ref (He.ga K "Back")) "__init__" = some (some (.ref (He.ma K (He.ga K "Back") "__init__")))),
  fun K => PySem.W.isFn K (.ref (He.ma K (He.ga K "Back") "__init__")),
  fun K => PySem.W.plainGet K (He.ga K "Back") Str.empty,
  fun K => PySem.W.hasDictIn K (He.ga K "Back")]
def exQ10 : List Ask := [
  fun K => PySem.W.plainOver K (He.ga K "Back"),
  fun K => decide (PySem.W.findIn K (.ref (He.ga K "Back")) "__setattr__" = some (some (.builtin "object.__setattr__"))),
  fun K => PySem.W.makesIn K (He.ga K "Back"),
  fun K => PySem.W.keepIn K (.ref (He.ga K "Back")),
  fun K => decide (PySem.W.findIn K (.ref (He.ga K "Back")) "word" = some none),
  fun K => decide (PySem.W.findIn K (.ref (He.ga K "Back")) "counter" = some none),
  fun K => decide (PySem.W.findIn K (.ref (He.ga K "Back")) "__str__" = some (some (.ref (He.ma K (He.ga K "Back") "__str__")))),
  fun K => PySem.W.isFn K (.ref (He.ma K (He.ga K "Back") "__str__")),
  fun K => decide (PySem.W.nsIn K mainGlobals "Ref" = some (some (.ref (He.ga K "Ref")))),
  fun K => decide (PySem.W.findIn K (.ref (He.ga K "Ref")) "__init__" = some (some (.ref (He.ma K (He.ga K "Ref") "__init__"))))]
def exQ11 : List Ask := [
  fun K => PySem.W.isFn K (.ref (He.ma K (He.ga K "Ref") "__init__")),
  fun K => PySem.W.plainGet K (He.ga K "Ref") Str.empty,
  fun K => PySem.W.hasDictIn K (He.ga K "Ref"),
  fun K => PySem.W.plainOver K (He.ga K "Ref"),
  fun K => decide (PySem.W.findIn K (.ref (He.ga K "Ref")) "__setattr__" = some (some (.builtin "object.__setattr__"))),
  fun K => PySem.W.makesIn K (He.ga K "Ref"),
  fun K => PySem.W.keepIn K (.ref (He.ga K "Ref")),
  fun K => decide (PySem.W.findIn K (.ref (He.ga K "Ref")) "word" = some none),
  fun K => decide (PySem.W.findIn K (.ref (He.ga K "Ref")) "label" = some none),
  fun K => decide (PySem.W.findIn K (.ref (He.ga K "Ref")) "__str__" = some (some (.ref (He.ma K (He.ga K "Ref") "__str__"))))]
def exQ12 : List Ask := [
  fun K => PySem.W.isFn K (.ref (He.ma K (He.ga K "Ref") "__str__")),
  fun K => decide (PySem.W.nsIn K mainGlobals "Put" = some (some (.ref (He.ga K "Put")))),
  fun K => decide (PySem.W.findIn K (.ref (He.ga K "Put")) "__init__" = some (some (.ref (He.ma K (He.ga K "Put") "__init__")))),
  fun K => PySem.W.isFn K (.ref (He.ma K (He.ga K "Put") "__init__")),
  fun K => PySem.W.plainGet K (He.ga K "Put") Str.empty,
  fun K => PySem.W.hasDictIn K (He.ga K "Put"),
  fun K => PySem.W.plainOver K (He.ga K "Put"),
  fun K => decide (PySem.W.findIn K (.ref (He.ga K "Put")) "__setattr__" = some (some (.builtin "object.__setattr__"))),
  fun K => PySem.W.makesIn K (He.ga K "Put"),
  fun K => PySem.W.keepIn K (.ref (He.ga K "Put"))]
def exQ13 : List Ask := [
  fun K => decide (PySem.W.findIn K (.ref (He.ga K "Put")) "word" = some none),
  fun K => decide (PySem.W.findIn K (.ref (He.ga K "Put")) "part" = some none),
  fun K => decide (PySem.W.findIn K (.ref (He.ga K "Put")) "__str__" = some (some (.ref (He.ma K (He.ga K "Put") "__str__")))),
  fun K => PySem.W.isFn K (.ref (He.ma K (He.ga K "Put") "__str__")),
  fun K => decide (PySem.W.nsIn K mainGlobals "Open" = some (some (.ref (He.ga K "Open")))),
  fun K => decide (PySem.W.findIn K (.ref (He.ga K "Open")) "__init__" = some (some (.ref (He.ma K (He.ga K "Open") "__init__")))),
  fun K => PySem.W.isFn K (.ref (He.ma K (He.ga K "Open") "__init__")),
  fun K => PySem.W.plainGet K (He.ga K "Open") Str.empty,
  fun K => PySem.W.hasDictIn K (He.ga K "Open"),
  fun K => PySem.W.plainOver K (He.ga K "Open")]
def exQ14 : List Ask := [
  fun K => decide (PySem.W.findIn K (.ref (He.ga K "Open")) "__setattr__" = some (some (.builtin "object.__setattr__"))),
  fun K => PySem.W.makesIn K (He.ga K "Open"),
  fun K => PySem.W.keepIn K (.ref (He.ga K "Open")),
  fun K => decide (PySem.W.findIn K (.ref (He.ga K "Open")) "word" = some none),
  fun K => decide (PySem.W.findIn K (.ref (He.ga K "Open")) "name" = some none),
  fun K => decide (PySem.W.findIn K (.ref (He.ga K "Open")) "__str__" = some (some (.ref (He.ma K (He.ga K "Open") "__str__")))),
  fun K => PySem.W.isFn K (.ref (He.ma K (He.ga K "Open") "__str__")),
  fun K => decide (PySem.W.nsIn K mainGlobals "Row" = some (some (.ref (He.ga K "Row")))),
  fun K => decide (PySem.W.nsIn K mainGlobals "is_sequence" = some (some (.ref (He.ga K "is_sequence")))),
  fun K => decide (PySem.W.nsIn K mainGlobals "InvalidPart" = some (some (.ref (He.ga K "InvalidPart"))))]
def exQ15 : List Ask := [
  fun K => excQ K (He.ga K "InvalidPart") "ValueError.__new__",
  fun K => decide (PySem.W.findIn K (.ref (He.ga K "InvalidPart")) "__setattr__" = some (some (.builtin "object.__setattr__"))),
  fun K => decide (PySem.W.findIn K (.ref (He.ga K "InvalidPart")) "__getattribute__" = some (some (.builtin "BaseException.__getattribute__"))),
  fun K => decide (PySem.W.findIn K (.ref (He.ga K "InvalidPart")) "__getattr__" = some (none)),
  fun K => decide (PySem.W.findIn K (.ref (He.ga K "InvalidPart")) "word" = some (none)),
  fun K => decide (PySem.W.findIn K (.ref (He.ga K "InvalidPart")) "__init__" = some (some (.ref (He.ma K (He.ga K "InvalidPart") "__init__")))),
  fun K => decide (PySem.W.findIn K (.ref (He.ga K "InvalidPart")) "__class__" = some (some (.builtin "object.__class__"))),
  fun K => decide (PySem.W.typeIn K (.ref (He.ma K (He.ga K "InvalidPart") "__init__")) = some (.type "function")),
  fun K => PySem.W.keepIn K (.ref (He.ga K "InvalidPart")),
  fun K => decide (PySem.W.subIn K (.ref (He.ga K "InvalidPart")) (.type "BaseException") = some true)]
def exQ16 : List Ask := [
  fun K => decide (PySem.W.typeIn K (.ref (He.ga K "InvalidPart")) = some (.type "type")),
  fun K => PySem.W.hasDictIn K (He.ga K "InvalidPart"),
  fun K => PySem.W.isClsIn K (He.ga K "InvalidPart"),
  fun K => decide (PySem.W.subIn K (.ref (He.ga K "InvalidPart")) (.ref (He.ga K "InvalidPart")) = some true),
  fun K => decide (PySem.W.mroIn K (He.ga K "InvalidPart") (.type "object") = some true),
  fun K => decide (PySem.W.nsIn K mainGlobals "Part" = some (some (.ref (He.ga K "Part")))),
  fun K => decide (PySem.W.findIn K (.ref (He.ga K "Part")) "__init__" = some (some (.ref (He.ma K (He.ga K "Part") "__init__")))),
  fun K => PySem.W.isFn K (.ref (He.ma K (He.ga K "Part") "__init__")),
  fun K => tupQ K (He.dflAt ("Part", some "__init__") 0 K) [],
  fun K => PySem.W.plainGet K (He.ga K "Part") Str.empty]
def exQ17 : List Ask := [
  fun K => PySem.W.hasDictIn K (He.ga K "Part"),
  fun K => PySem.W.plainOver K (He.ga K "Part"),
  fun K => decide (PySem.W.findIn K (.ref (He.ga K "Part")) "__setattr__" = some (some (.builtin "object.__setattr__"))),
  fun K => PySem.W.makesIn K (He.ga K "Part"),
  fun K => PySem.W.keepIn K (.ref (He.ga K "Part")),
  fun K => decide (PySem.W.findIn K (.ref (He.ga K "Part")) "name" = some none),
  fun K => decide (PySem.W.findIn K (.ref (He.ga K "Part")) "rows" = some none),
  fun K => decide (PySem.W.findIn K (.ref (He.ga K "Part")) "__str__" = some (some (.ref (He.ma K (He.ga K "Part") "__str__")))),
  fun K => PySem.W.isFn K (.ref (He.ma K (He.ga K "Part") "__str__")),
  fun K => decide (PySem.W.findIn K (.ref (He.ga K "Part")) "__eq__" = some (some (.ref (He.ma K (He.ga K "Part") "__eq__"))))]
def exQ18 : List Ask := [
  fun K => PySem.W.isFn K (.ref (He.ma K (He.ga K "Part") "__eq__")),
  fun K => decide (PySem.W.nsIn K mainGlobals "COUNTING_WORDS" = some (some (.ref (He.ga K "COUNTING_WORDS")))),
  fun K => He.tupB K "COUNTING_WORDS" [.str "note", .str "skip", .str "set", .str "keep", .str "back"],
  fun K => decide (PySem.W.nsIn K mainGlobals "is_pair" = some (some (.ref (He.ga K "is_pair")))),
  fun K => decide (PySem.W.nsIn K mainGlobals "are_counters" = some (some (.ref (He.ga K "are_counters")))),
  fun K => decide (PySem.W.nsIn K mainGlobals "are_parts" = some (some (.ref (He.ga K "are_parts")))),
  fun K => decide (PySem.W.nsIn K mainGlobals "counters_are_known" = some (some (.ref (He.ga K "counters_are_known")))),
  fun K => decide (PySem.W.nsIn K mainGlobals "names_put" = some (some (.ref (He.ga K "names_put")))),
  fun K => decide (PySem.W.nsIn K mainGlobals "puts_are_earlier" = some (some (.ref (He.ga K "puts_are_earlier")))),
  fun K => decide (PySem.W.nsIn K mainGlobals "names_reached" = some (some (.ref (He.ga K "names_reached"))))]
def exQ19 : List Ask := [
  fun K => decide (PySem.W.nsIn K mainGlobals "unroll" = some (some (.ref (He.ga K "unroll")))),
  fun K => decide (PySem.W.nsIn K mainGlobals "unrolled_text" = some (some (.ref (He.ga K "unrolled_text")))),
  fun K => decide (PySem.W.nsIn K mainGlobals "refs_are_known" = some (some (.ref (He.ga K "refs_are_known")))),
  fun K => decide (PySem.W.nsIn K mainGlobals "Book" = some (some (.ref (He.ga K "Book")))),
  fun K => decide (PySem.W.findIn K (.ref (He.ga K "Book")) "__init__" = some (some (.ref (He.ma K (He.ga K "Book") "__init__")))),
  fun K => PySem.W.isFn K (.ref (He.ma K (He.ga K "Book") "__init__")),
  fun K => PySem.W.plainGet K (He.ga K "Book") Str.empty,
  fun K => PySem.W.hasDictIn K (He.ga K "Book"),
  fun K => PySem.W.plainOver K (He.ga K "Book"),
  fun K => decide (PySem.W.findIn K (.ref (He.ga K "Book")) "__setattr__" = some (some (.builtin "object.__setattr__")))]
def exQ20 : List Ask := [
  fun K => PySem.W.makesIn K (He.ga K "Book"),
  fun K => PySem.W.keepIn K (.ref (He.ga K "Book")),
  fun K => decide (PySem.W.findIn K (.ref (He.ga K "Book")) "counters" = some none),
  fun K => decide (PySem.W.findIn K (.ref (He.ga K "Book")) "parts" = some none),
  fun K => decide (PySem.W.findIn K (.ref (He.ga K "Book")) "flat" = some none),
  fun K => propQ K (He.ga K "Book") "names",
  fun K => propQ K (He.ga K "Book") "tops",
  fun K => propQ K (He.ga K "Book") "unrolled",
  fun K => decide (PySem.W.findIn K (.ref (He.ga K "Book")) "chain" = some (some (.ref (He.ma K (He.ga K "Book") "chain")))),
  fun K => PySem.W.isFn K (.ref (He.ma K (He.ga K "Book") "chain"))]
def exQ21 : List Ask := [
  fun K => decide (PySem.W.nsIn K mainGlobals "SAME_NUMBER" = some (some (.ref (He.ga K "SAME_NUMBER")))),
  fun K => He.tupB K "SAME_NUMBER" [.str "now", .int 0],
  fun K => decide (PySem.W.nsIn K mainGlobals "SAME_BOX" = some (some (.ref (He.ga K "SAME_BOX")))),
  fun K => He.tupB K "SAME_BOX" [.str "box", .int 0],
  fun K => decide (PySem.W.nsIn K mainGlobals "STAY" = some (some (.ref (He.ga K "STAY")))),
  fun K => stayQ K (He.ga K "STAY"),
  fun K => decide (PySem.W.nsIn K mainGlobals "going_on" = some (some (.ref (He.ga K "going_on")))),
  fun K => decide (PySem.W.nsIn K mainGlobals "own_step" = some (some (.ref (He.ga K "own_step")))),
  fun K => decide (PySem.W.nsIn K mainGlobals "step_of" = some (some (.ref (He.ga K "step_of")))),
  fun K => decide (PySem.W.nsIn K mainGlobals "reckoned" = some (some (.ref (He.ga K "reckoned"))))]
def exQ22 : List Ask := [
  fun K => decide (PySem.W.nsIn K mainGlobals "TERM_WORDS" = some (some (.ref (He.ga K "TERM_WORDS")))),
  fun K => He.tupB K "TERM_WORDS" [.str "now", .str "box", .str "at"],
  fun K => decide (PySem.W.nsIn K mainGlobals "InvalidMap" = some (some (.ref (He.ga K "InvalidMap")))),
  fun K => excQ K (He.ga K "InvalidMap") "ValueError.__new__",
  fun K => decide (PySem.W.findIn K (.ref (He.ga K "InvalidMap")) "__setattr__" = some (some (.builtin "object.__setattr__"))),
  fun K => decide (PySem.W.findIn K (.ref (He.ga K "InvalidMap")) "__getattribute__" = some (some (.builtin "BaseException.__getattribute__"))),
  fun K => decide (PySem.W.findIn K (.ref (He.ga K "InvalidMap")) "__getattr__" = some (none)),
  fun K => decide (PySem.W.findIn K (.ref (He.ga K "InvalidMap")) "word" = some (none)),
  fun K => decide (PySem.W.findIn K (.ref (He.ga K "InvalidMap")) "__init__" = some (some (.ref (He.ma K (He.ga K "InvalidMap") "__init__")))),
  fun K => decide (PySem.W.findIn K (.ref (He.ga K "InvalidMap")) "__class__" = some (some (.builtin "object.__class__")))]
def exQ23 : List Ask := [
  fun K => decide (PySem.W.typeIn K (.ref (He.ma K (He.ga K "InvalidMap") "__init__")) = some (.type "function")),
  fun K => PySem.W.keepIn K (.ref (He.ga K "InvalidMap")),
  fun K => decide (PySem.W.subIn K (.ref (He.ga K "InvalidMap")) (.type "BaseException") = some true),
  fun K => decide (PySem.W.typeIn K (.ref (He.ga K "InvalidMap")) = some (.type "type")),
  fun K => PySem.W.hasDictIn K (He.ga K "InvalidMap"),
  fun K => PySem.W.isClsIn K (He.ga K "InvalidMap"),
  fun K => decide (PySem.W.subIn K (.ref (He.ga K "InvalidMap")) (.ref (He.ga K "InvalidMap")) = some true),
  fun K => decide (PySem.W.mroIn K (He.ga K "InvalidMap") (.type "object") = some true),
  fun K => decide (PySem.W.nsIn K mainGlobals "traced" = some (some (.ref (He.ga K "traced")))),
  fun K => decide (PySem.W.nsIn K mainGlobals "joined" = some (some (.ref (He.ga K "joined"))))]
def exQ24 : List Ask := [
  fun K => decide (PySem.W.nsIn K mainGlobals "is_term" = some (some (.ref (He.ga K "is_term")))),
  fun K => decide (PySem.W.nsIn K mainGlobals "term_text" = some (some (.ref (He.ga K "term_text")))),
  fun K => decide (PySem.W.nsIn K mainGlobals "Map" = some (some (.ref (He.ga K "Map")))),
  fun K => decide (PySem.W.findIn K (.ref (He.ga K "Map")) "__init__" = some (some (.ref (He.ma K (He.ga K "Map") "__init__")))),
  fun K => PySem.W.isFn K (.ref (He.ma K (He.ga K "Map") "__init__")),
  fun K => tupQ K (He.dflAt ("Map", some "__init__") 0 K) [.str "now", .int 0],
  fun K => tupQ K (He.dflAt ("Map", some "__init__") 1 K) [.str "box", .int 0],
  fun K => PySem.W.plainGet K (He.ga K "Map") Str.empty,
  fun K => PySem.W.hasDictIn K (He.ga K "Map"),
  fun K => PySem.W.plainOver K (He.ga K "Map")]
def exQ25 : List Ask := [
  fun K => decide (PySem.W.findIn K (.ref (He.ga K "Map")) "__setattr__" = some (some (.builtin "object.__setattr__"))),
  fun K => PySem.W.makesIn K (He.ga K "Map"),
  fun K => PySem.W.keepIn K (.ref (He.ga K "Map")),
  fun K => decide (PySem.W.findIn K (.ref (He.ga K "Map")) "now" = some none),
  fun K => decide (PySem.W.findIn K (.ref (He.ga K "Map")) "box" = some none),
  fun K => decide (PySem.W.findIn K (.ref (He.ga K "Map")) "__call__" = some (some (.ref (He.ma K (He.ga K "Map") "__call__")))),
  fun K => PySem.W.isFn K (.ref (He.ma K (He.ga K "Map") "__call__")),
  fun K => decide (PySem.W.findIn K (.ref (He.ga K "Map")) "__rshift__" = some (some (.ref (He.ma K (He.ga K "Map") "__rshift__")))),
  fun K => PySem.W.isFn K (.ref (He.ma K (He.ga K "Map") "__rshift__")),
  fun K => decide (PySem.W.findIn K (.ref (He.ga K "Map")) "__str__" = some (some (.ref (He.ma K (He.ga K "Map") "__str__"))))]
def exQ26 : List Ask := [
  fun K => PySem.W.isFn K (.ref (He.ma K (He.ga K "Map") "__str__")),
  fun K => decide (PySem.W.findIn K (.ref (He.ga K "Map")) "__eq__" = some (some (.ref (He.ma K (He.ga K "Map") "__eq__")))),
  fun K => PySem.W.isFn K (.ref (He.ma K (He.ga K "Map") "__eq__")),
  fun K => decide (PySem.W.findIn K (.ref (He.ga K "Book")) "number_of" = some (some (.ref (He.ma K (He.ga K "Book") "number_of")))),
  fun K => PySem.W.isFn K (.ref (He.ma K (He.ga K "Book") "number_of")),
  fun K => decide (PySem.W.nsIn K mainGlobals "step_along" = some (some (.ref (He.ga K "step_along")))),
  fun K => decide (PySem.W.nsIn K mainGlobals "map_of" = some (some (.ref (He.ga K "map_of")))),
  fun K => decide (PySem.W.nsIn K mainGlobals "_law_deal" = some (some (.ref (He.ga K "_law_deal")))),
  fun K => decide (PySem.W.nsIn K mainGlobals "_law_draw" = some (some (.ref (He.ga K "_law_draw")))),
  fun K => decide (PySem.W.nsIn K mainGlobals "_law_pick" = some (some (.ref (He.ga K "_law_pick"))))]
def exQ27 : List Ask := [
  fun K => decide (PySem.W.nsIn K mainGlobals "_law_mixed" = some (some (.ref (He.ga K "_law_mixed")))),
  fun K => decide (PySem.W.nsIn K mainGlobals "_law_names" = some (some (.ref (He.ga K "_law_names")))),
  fun K => decide (PySem.W.nsIn K mainGlobals "_law_counters" = some (some (.ref (He.ga K "_law_counters")))),
  fun K => decide (PySem.W.nsIn K mainGlobals "_law_row" = some (some (.ref (He.ga K "_law_row")))),
  fun K => decide (PySem.W.nsIn K mainGlobals "_law_unrolled" = some (some (.ref (He.ga K "_law_unrolled")))),
  fun K => decide (PySem.W.nsIn K mainGlobals "_law_book" = some (some (.ref (He.ga K "_law_book")))),
  fun K => decide (PySem.W.nsIn K mainGlobals "_law_row_of" = some (some (.ref (He.ga K "_law_row_of")))),
  fun K => decide (PySem.W.nsIn K mainGlobals "_law_book_of" = some (some (.ref (He.ga K "_law_book_of")))),
  fun K => decide (PySem.W.nsIn K mainGlobals "_law_below" = some (some (.ref (He.ga K "_law_below")))),
  fun K => decide (PySem.W.nsIn K mainGlobals "_law_done" = some (some (.ref (He.ga K "_law_done"))))]
def exQ28 : List Ask := [
  fun K => decide (PySem.W.nsIn K mainGlobals "_law_gone" = some (some (.ref (He.ga K "_law_gone")))),
  fun K => decide (PySem.W.nsIn K mainGlobals "law" = some (some (.ref (He.ga K "law")))),
  fun K => decide (PySem.W.specialIn K (.builtin "object.__class__") "__get__" = some (some (.builtin "getset_descriptor.__get__"))),
  fun K => decide (PySem.W.takesIn K (.builtin "object.__class__") = some true),
  fun K => decide (PySem.W.kitOne K (.type "NoneType") (.ref (He.ga K "Row")) = some false),
  fun K => decide (PySem.W.kitOne K (.type "bool") (.ref (He.ga K "Row")) = some false),
  fun K => decide (PySem.W.kitOne K (.type "int") (.ref (He.ga K "Row")) = some false),
  fun K => decide (PySem.W.kitOne K (.type "str") (.ref (He.ga K "Row")) = some false),
  fun K => decide (PySem.W.kitOne K (.type "list") (.ref (He.ga K "Row")) = some false),
  fun K => decide (PySem.W.kitOne K (.type "tuple") (.ref (He.ga K "Row")) = some false)]
def exQ29 : List Ask := [
  fun K => decide (PySem.W.kitOne K (.type "dict") (.ref (He.ga K "Row")) = some false),
  fun K => decide (PySem.W.kitOne K (.ref (He.ga K "Note")) (.ref (He.ga K "Row")) = some true),
  fun K => decide (PySem.W.findIn K (.ref (He.ga K "Note")) "__class__" = some (some (.builtin "object.__class__"))),
  fun K => decide (PySem.W.mroIn K (He.ga K "Note") (.type "object") = some true),
  fun K => decide (PySem.W.kitOne K (.ref (He.ga K "Skip")) (.ref (He.ga K "Row")) = some true),
  fun K => decide (PySem.W.findIn K (.ref (He.ga K "Skip")) "__class__" = some (some (.builtin "object.__class__"))),
  fun K => decide (PySem.W.mroIn K (He.ga K "Skip") (.type "object") = some true),
  fun K => decide (PySem.W.kitOne K (.ref (He.ga K "Set")) (.ref (He.ga K "Row")) = some true),
  fun K => decide (PySem.W.findIn K (.ref (He.ga K "Set")) "__class__" = some (some (.builtin "object.__class__"))),
  fun K => decide (PySem.W.mroIn K (He.ga K "Set") (.type "object") = some true)]
def exQ30 : List Ask := [
  fun K => decide (PySem.W.kitOne K (.ref (He.ga K "Keep")) (.ref (He.ga K "Row")) = some true),
  fun K => decide (PySem.W.findIn K (.ref (He.ga K "Keep")) "__class__" = some (some (.builtin "object.__class__"))),
  fun K => decide (PySem.W.mroIn K (He.ga K "Keep") (.type "object") = some true),
  fun K => decide (PySem.W.kitOne K (.ref (He.ga K "Back")) (.ref (He.ga K "Row")) = some true),
  fun K => decide (PySem.W.findIn K (.ref (He.ga K "Back")) "__class__" = some (some (.builtin "object.__class__"))),
  fun K => decide (PySem.W.mroIn K (He.ga K "Back") (.type "object") = some true),
  fun K => decide (PySem.W.kitOne K (.ref (He.ga K "Ref")) (.ref (He.ga K "Row")) = some true),
  fun K => decide (PySem.W.findIn K (.ref (He.ga K "Ref")) "__class__" = some (some (.builtin "object.__class__"))),
  fun K => decide (PySem.W.mroIn K (He.ga K "Ref") (.type "object") = some true),
  fun K => decide (PySem.W.kitOne K (.ref (He.ga K "Put")) (.ref (He.ga K "Row")) = some true)]
def exQ31 : List Ask := [
  fun K => decide (PySem.W.findIn K (.ref (He.ga K "Put")) "__class__" = some (some (.builtin "object.__class__"))),
  fun K => decide (PySem.W.mroIn K (He.ga K "Put") (.type "object") = some true),
  fun K => decide (PySem.W.kitOne K (.ref (He.ga K "Open")) (.ref (He.ga K "Row")) = some true),
  fun K => decide (PySem.W.findIn K (.ref (He.ga K "Open")) "__class__" = some (some (.builtin "object.__class__"))),
  fun K => decide (PySem.W.mroIn K (He.ga K "Open") (.type "object") = some true),
  fun K => decide (PySem.W.findIn K (.ref (He.ga K "Part")) "__class__" = some (some (.builtin "object.__class__"))),
  fun K => decide (PySem.W.mroIn K (He.ga K "Part") (.type "object") = some true),
  fun K => decide (PySem.W.findIn K (.ref (He.ga K "Part")) "__ne__" = some (some (.builtin "object.__ne__"))),
  fun K => decide (PySem.W.kitOne K (.ref (He.ga K "Part")) (.ref (He.ga K "Part")) = some true),
  fun K => decide (PySem.W.kitOne K (.type "str") (.ref (He.ga K "Part")) = some false)]
def exQ32 : List Ask := [
  fun K => PySem.W.notFirst K (He.ga K "Part") (.ref (He.ga K "Part")),
  fun K => PySem.W.notFirst K (He.ga K "Part") (.type "str"),
  fun K => PySem.W.selfFirst K (He.ga K "Map"),
  fun K => decide (PySem.W.kitOne K (.ref (He.ga K "Map")) (.ref (He.ga K "Map")) = some true),
  fun K => PySem.W.notFirst K (He.ga K "Map") (.ref (He.ga K "Map")),
  fun K => decide (PySem.W.findIn K (.ref (He.ga K "Map")) "__class__" = some (some (.builtin "object.__class__"))),
  fun K => decide (PySem.W.mroIn K (He.ga K "Map") (.type "object") = some true),
  fun K => decide (PySem.W.findIn K (.ref (He.ga K "Map")) "__ne__" = some (some (.builtin "object.__ne__"))),
  fun K => PySem.W.fnIn K (He.ma K (He.ga K "Map") "__call__")]
def exR0 : List (List Ask) := [exQ0, exQ1, exQ2, exQ3, exQ4, exQ5, exQ6, exQ7, exQ8, exQ9, exQ10, exQ11, exQ12, exQ13, exQ14, exQ15, exQ16, exQ17, exQ18, exQ19]
def exR1 : List (List Ask) := [exQ20, exQ21, exQ22, exQ23, exQ24, exQ25, exQ26, exQ27, exQ28, exQ29, exQ30, exQ31, exQ32]
def exQ : List (List Ask) := exR0 ++ exR1
end Pn
namespace Pn
open PySem PySem.W PySem.Calls PyProof.Rows L2
abbrev rowQ : OpenRow := OpenLaw.row PySem.Challenge.rw_partnotes_k26_maps_of_parts
abbrev progQ : Program := view rowQ.prog [86]
def namesQ0 : List PySem.Str := ["_wall", "__name__", "ROW_WORDS", "LONGEST_NAME", "is_integer", "is_number", "is_name", "is_sequence", "is_pair", "NoteError", "InvalidRow", "InvalidPart", "InvalidBook", "InvalidText", "InvalidMap", "Mismatch", "NoName", "MOST_DIGITS", "Row", "same_row", "need_name", "Note", "Skip", "Set", "Keep", "Back", "Ref", "Put", "Open", "read_number"]
def namesQ1 : List PySem.Str := ["row_of_two", "row_of_three", "read_row", "COUNTING_WORDS", "Part", "are_counters", "are_parts", "counters_are_known", "names_put", "puts_are_earlier", "names_reached", "unroll", "unrolled_text", "refs_are_known", "counter_line", "read_counter", "read_counters", "is_part_line", "read_line", "read_parts", "Book", "TERM_WORDS", "SAME_NUMBER", "SAME_BOX", "STAY", "going_on", "own_step", "step_of", "reckoned", "traced"]
def namesQ2 : List PySem.Str := ["joined", "is_term", "term_text", "Map", "step_along", "map_of", "_law_deal", "_law_draw", "_law_pick", "_law_mixed", "_law_names", "_law_counters", "_law_row", "_law_book", "_law_unrolled", "_law_below", "_law_done", "_law_row_of", "_law_book_of", "_law_gone"]
def namesQ : List PySem.Str := namesQ0 ++ namesQ1 ++ namesQ2
theorem runQ (w : World) : HandSHeadRun.RunEq rowQ progQ (hookQ 5 fnQ exQ) (seenQ 5 fnQ exQ) 20000 namesQ w := by
  intro os
  kernel_rfl
end Pn

namespace Pn
open PySem L2
/-! ### one statement, with what it comes to -/
theorem joinOn {t : TE} {σ : L2.St} {H : Hp} {Q : VK} (C : V → Hp → Prop) (h1 : ∀ Q' : VK, (∀ v H', C v H' → Q' v H') → t σ H Q') (h2 : ∀ v H', C v H' → Q v H') : t σ H Q := h1 Q h2
/-- x = e, where what e comes to is said by C -/
theorem stepSet {te : TE} {i : Nat} {B : TS} {D : Ends} {σ : L2.St} {H : Hp} (C : V → Hp → Prop) (h1 : ∀ Q' : VK, (∀ v H', C v H' → Q' v H') → te σ H Q') (h2 : ∀ v H', C v H' → B D (σ.set i (some v)) H') : tSeq (tAsg te (gName i)) B D σ H := h1 _ h2
theorem stepDrop {te : TE} {B : TS} {D : Ends} {σ : L2.St} {H : Hp} (C : Hp → Prop) (h1 : ∀ Q' : VK, (∀ v H', C H' → Q' v H') → te σ H Q') (h2 : ∀ H', C H' → B D σ H') : tSeq (tDrop te) B D σ H := h1 (fun _ H1 => B D σ H1) fun _ H' c => h2 H' c
theorem stepIfF {tt : TT} {A C : TS} {D : Ends} {σ : L2.St} {H : Hp} (h1 : ∀ Q : Bool → Hp → Prop, Q false H → tt σ H Q) (h2 : C D σ H) : tSeq (tIfS tt A tNext) C D σ H := h1 _ (by rw [if_neg Bool.false_ne_true]; exact h2)
theorem stepNo {tt : TT} {A C : TS} {D : Ends} {σ : L2.St} {H : Hp} (G : Hp → Prop) (h1 : ∀ Q : Bool → Hp → Prop, (∀ H', G H' → Q false H') → tt σ H Q) (h2 : ∀ H', G H' → C D σ H') : tSeq (tIfS tt A tNext) C D σ H := h1 _ fun H' g => by
  rw [if_neg Bool.false_ne_true]
  exact h2 H' g
theorem stepYes {tt : TT} {A B C : TS} {D : Ends} {σ : L2.St} {H : Hp} (G : Hp → Prop) (h1 : ∀ Q : Bool → Hp → Prop, (∀ H', G H' → Q true H') → tt σ H Q) (h2 : ∀ H', G H' → A { D with nx := C D } σ H') : tSeq (tIfS tt A B) C D σ H := h1 _ fun H' g => by
  rw [if_pos rfl]
  exact h2 H' g
theorem Same.mo {H H' : Hp} (s : Same H H') : Mo H H' := fun _ e => s.free e
end Pn

namespace Pn
open PySem L2
/-- the two ints of a box of draws -/
def Bx (x y : Int) : Prop := 0 ≤ x ∧ 1 ≤ y ∧ y ≤ 2147483629
def spChoose : Sp := fun vs H Q _ => ∃ (b : Addr) (x y m : Int), vs = [.ref b, .int m] ∧ H b = some (.lst [.int x, .int y]) ∧ Bx x y ∧ 0 < m ∧ m < 1000000 ∧
  ∀ r x' y', 0 ≤ r → r < m → Bx x' y' → Q (.int r) (upd H b (.lst [.int x', .int y']))
section
variable {P : Program} {w : World} {K : PySem.W.Frag} {mg : Str → Option Value} {base : Heap}
/-- the box for a round -/
def spSeed (K : PySem.W.Frag) : Sp := fun vs H Q _ => ∃ (a : Addr) (ns : List Int) (k : Nat), vs = [.ref a, .int k] ∧ SqL K H a (ns.map V.int) ∧ k ≤ 100 ∧
  ∀ (p : Addr) (x y : Int), H p = none → Bx x y → Q (.ref p) (upd H p (.lst [.int x, .int y]))
/-- what a box is, by its place -/
def BoxAt (H : Hp) (b : Addr) : Prop := ∃ x y : Int, Bx x y ∧ H b = some (.lst [.int x, .int y])
theorem sql_upd {H : Hp} {a b : Addr} {o : HO} {xs : List V} (h : SqL K H a xs) (hne : a ≠ b) : SqL K (upd H b o) a xs := by
  rcases h with (h | ⟨u, h⟩) | h
  · exact .inl (.inl (by rw [upd_ne hne]; exact h))
  · exact .inl (.inr ⟨u, by rw [upd_ne hne]; exact h⟩)
  · exact .inr h
theorem sqt_upd {H : Hp} {a b : Addr} {o : HO} {xs : List V} (h : SqT K H a xs) (hne : a ≠ b) : SqT K (upd H b o) a xs := by
  rcases h with (h | ⟨u, h⟩) | h
  · exact .inl (.inl (by rw [upd_ne hne]; exact h))
  · exact .inl (.inr ⟨u, by rw [upd_ne hne]; exact h⟩)
  · exact .inr h
/-- one of several things -/
def spOne (K : PySem.W.Frag) : Sp := fun vs H Q _ => ∃ (b a : Addr) (x y : Int) (xs : List V), vs = [.ref b, .ref a] ∧ H b = some (.lst [.int x, .int y]) ∧ Bx x y ∧ SqL K H a xs ∧ a ≠ b ∧ 0 < xs.length ∧ xs.length < 1000000 ∧
  ∀ (i : Nat) (x' y' : Int) (hi : i < xs.length), Bx x' y' → Q xs[i] (upd H b (.lst [.int x', .int y']))
/-- the same, of a box by its place -/
def spChooseB : Sp := fun vs H Q _ => ∃ (b : Addr) (m : Int), vs = [.ref b, .int m] ∧ BoxAt H b ∧ 0 < m ∧ m < 1000000 ∧ ∀ (r : Int) (H' : Hp), 0 ≤ r → r < m → BoxAt H' b → Kp b H H' → (∀ a, H a = none → H' a = none) → Q (.int r) H'
def spOneB (K : PySem.W.Frag) : Sp := fun vs H Q _ => ∃ (b a : Addr) (xs : List V), vs = [.ref b, .ref a] ∧ BoxAt H b ∧ SqL K H a xs ∧ a ≠ b ∧ 0 < xs.length ∧ xs.length < 1000000 ∧
  ∀ (v : V) (H' : Hp), v ∈ xs → BoxAt H' b → Kp b H H' → (∀ a, H a = none → H' a = none) → Q v H'
end
end Pn

namespace Pn
open PySem L2
abbrev sIsInteger : Stmt := top 4
abbrev sIsNumber : Stmt := top 5
abbrev sIsName : Stmt := top 6
/-! ### what these checks tell of data -/
def rowV : List V := [.str "note", .str "skip", .str "set", .str "keep", .str "back", .str "ref", .str "put", .str "open", .str "part"]
/-- a letter of a name -/
def lok (c : Nat) : Bool := decide (97 ≤ c) && decide (c ≤ 122)
def nameS (z : Str) : Bool := !inV (.str z) rowV && (decide (1 ≤ (z.length : Int)) && decide ((z.length : Int) ≤ 4)) && z.cps.toList.all lok
def nameD : PyData → Bool
  | .str z => nameS z
  | _ => false
def intD : PyData → Bool
  | .int _ => true
  | _ => false
def numD : PyData → Bool
  | .int i => decide (0 ≤ i)
  | _ => false
/-- the type of data -/
def tyD : PyData → String
  | .none => "NoneType"
  | .bool _ => "bool"
  | .int _ => "int"
  | .str _ => "str"
  | .list _ => "list"
  | .tuple _ => "tuple"
  | .dict _ => "dict"
theorem dp_ty {K : PySem.W.Frag} {H : Hp} {v : V} {d : PyData} (h : Dp K H v d) : TyX K H v (.type (tyD d)) := by
  cases h with
  | non => exact .base .non
  | bl b => exact .base (.bl b)
  | int i => exact .base (.int i)
  | str x => exact .base (.str x)
  | lst s _ =>
    rcases s with (s | ⟨o, s⟩) | ⟨o, _, _, e, c, _⟩
    · exact .base (.lst s)
    · exact .base (.frz s)
    · exact .kList e c
  | tup s _ =>
    rcases s with (s | ⟨o, s⟩) | ⟨o, _, _, e, c, _⟩
    · exact .base (.tup s)
    · exact .fTuple s
    · exact .kTuple e c
def strT : PyData → Bool
  | .str _ => true
  | _ => false
def intT : PyData → Bool
  | .bool _ => true
  | .int _ => true
  | _ => false
def boolT : PyData → Bool
  | .bool _ => true
  | _ => false
theorem kit_str : ∀ d : PyData, kitB (tyD d) "str" = some (strT d)
  | .none => (by decide +kernel : kitB "NoneType" "str" = some false)
  | .bool _ => (by decide +kernel : kitB "bool" "str" = some false)
  | .int _ => (by decide +kernel : kitB "int" "str" = some false)
  | .str _ => (by decide +kernel : kitB "str" "str" = some true)
  | .list _ => (by decide +kernel : kitB "list" "str" = some false)
  | .tuple _ => (by decide +kernel : kitB "tuple" "str" = some false)
  | .dict _ => (by decide +kernel : kitB "dict" "str" = some false)
theorem kit_int : ∀ d : PyData, kitB (tyD d) "int" = some (intT d)
  | .none => (by decide +kernel : kitB "NoneType" "int" = some false)
  | .bool _ => (by decide +kernel : kitB "bool" "int" = some true)
  | .int _ => (by decide +kernel : kitB "int" "int" = some true)
  | .str _ => (by decide +kernel : kitB "str" "int" = some false)
  | .list _ => (by decide +kernel : kitB "list" "int" = some false)
  | .tuple _ => (by decide +kernel : kitB "tuple" "int" = some false)
  | .dict _ => (by decide +kernel : kitB "dict" "int" = some false)
theorem kit_bool : ∀ d : PyData, kitB (tyD d) "bool" = some (boolT d)
  | .none => (by decide +kernel : kitB "NoneType" "bool" = some false)
  | .bool _ => (by decide +kernel : kitB "bool" "bool" = some true)
  | .int _ => (by decide +kernel : kitB "int" "bool" = some false)
  | .str _ => (by decide +kernel : kitB "str" "bool" = some false)
  | .list _ => (by decide +kernel : kitB "list" "bool" = some false)
  | .tuple _ => (by decide +kernel : kitB "tuple" "bool" = some false)
  | .dict _ => (by decide +kernel : kitB "dict" "bool" = some false)
/-! ### a comprehension whose items are told by their places -/
theorem lc_step {H1 : Hp} {D : Addr} {f : Nat → V} {i : Nat} (hi : i < 1000) : ∃ acc, (upd H1 D (.lst ((List.range i).map f))) D = some (.lst acc) ∧ acc.length < sizeLine ∧
    upd (upd H1 D (.lst ((List.range i).map f))) D (.lst (acc ++ [f i])) = upd H1 D (.lst ((List.range (i + 1)).map f)) := by
  refine ⟨_, upd_same, by rw [List.length_map, List.length_range]; exact small1000 (by omega), ?_⟩
  rw [List.range_succ, List.map_append]
  funext b
  by_cases e : b = D
  · rw [e, upd_same, upd_same]
    rfl
  · rw [upd_ne e, upd_ne e, upd_ne e]
theorem range_getD {f : Nat → Bool} : ∀ l : List Nat, (((List.range l.length).map fun i => f (l.getD i 0)).all id) = l.all f := by
  intro l
  have e : (List.range l.length).map (fun i => f (l.getD i 0)) = l.map f := by
    apply List.ext_getElem
    · simp
    · intro i h1 h2
      have h3 : i < l.length := by simpa using h2
      simp [List.getD_eq_getElem?_getD, List.getElem?_eq_getElem h3]
  rw [e]
  simp
theorem lt_one {a b : Nat} : decide ([a] < [b]) = decide (a < b) := by
  by_cases h : a < b
  · rw [decide_eq_true h, decide_eq_true]
    exact List.Lex.rel h
  · rw [decide_eq_false h, decide_eq_false]
    intro z
    cases z with
    | rel r => exact h r
    | cons r => cases r
theorem lok_eq (c : Nat) : (if (!decide ([c] < [97])) = true then (!decide ([122] < [c])) else false) = lok c := by
  rw [lt_one, lt_one]
  unfold lok
  by_cases h1 : c < 97
  · rw [decide_eq_true h1, decide_eq_false (show ¬ 97 ≤ c by omega)]
    rfl
  · rw [decide_eq_false h1, decide_eq_true (show 97 ≤ c by omega)]
    by_cases h2 : 122 < c
    · rw [decide_eq_true h2, decide_eq_false (show ¬ c ≤ 122 by omega)]
      rfl
    · rw [decide_eq_false h2, decide_eq_true (show c ≤ 122 by omega)]
      rfl
section
variable {P : Program} {w : World} {K : PySem.W.Frag} {mg : Str → Option Value} {base : Heap}
structure TChk (K : PySem.W.Frag) (mg : Str → Option Value) : Type where
  mInt : mg "int" = none
  mBool : mg "bool" = none
  mStr : mg "str" = none
  mIsi : mg "isinstance" = none
  mLen : mg "len" = none
  mAll : mg "all" = none
  words : Addr
  mWords : mg "ROW_WORDS" = some (.ref words)
  hWords : ∀ H, SqT K H words rowV
  tok : Tok
  mLong : mg "LONGEST_NAME" = some (.int 4 tok)
  isInteger : At K mg "is_integer" sIsInteger ["value"]
  isNumber : At K mg "is_number" sIsNumber ["value"]
  isName : At K mg "is_name" sIsName ["value"]
def spIsInteger (K : PySem.W.Frag) : Sp := fun vs H Q _ => ∃ (v : V) (d : PyData), vs = [v] ∧ Dp K H v d ∧ Q (.bl (intD d)) H
theorem scIsInteger : FnScope ["value"] ["value"] (defScope sIsInteger) := ⟨rfl, rfl, rfl, by decide +kernel, rfl, by decide +kernel, by decide +kernel⟩
theorem TChk.okInteger (T : TChk K mg) : FnOk P w K mg base CX0 1 T.isInteger.f T.isInteger.fd ["value"] (spIsInteger K) := by
  refine T.isInteger.F.ok scIsInteger (fun vs H Q E h => ?_) (fun cdv A outer s H vs Q E hr h => ?_)
  · obtain ⟨v, d, rfl, _⟩ := h
    rfl
  · obtain ⟨v, d, rfl, hd, q⟩ := h
    refine ⟨_, pss_one (ps_ret (pe_and (pe_callB call_isi (by rfl) T.mIsi (by decide +kernel) (pa_cons (pv 0) (pa_cons (pe_bltn (v := .ty "int") (by rfl) T.mInt (by decide +kernel) rfl) pa_nil)))
      (pe_one (pe_not (pe_callB call_isi (by rfl) T.mIsi (by decide +kernel) (pa_cons (pv 0) (pa_cons (pe_bltn (v := .ty "bool") (by rfl) T.mBool (by decide +kernel) rfl) pa_nil))))))), ?_⟩
    refine ⟨_, rfl, v, _, _, _, _, rfl, .ty _, dp_ty hd, kit_ty (kit_int d), _, rfl, ?_⟩
    cases d with
    | none => exact q
    | str z => exact q
    | list ds => exact q
    | tuple ds => exact q
    | dict ds => exact q
    | int i => exact ⟨_, rfl, v, _, _, _, _, rfl, .ty _, dp_ty hd, kit_ty (kit_bool _), _, rfl, q⟩
    | bool i => exact ⟨_, rfl, v, _, _, _, _, rfl, .ty _, dp_ty hd, kit_ty (kit_bool _), _, rfl, q⟩
def spIsNumber (K : PySem.W.Frag) : Sp := fun vs H Q _ => ∃ (v : V) (d : PyData), vs = [v] ∧ Dp K H v d ∧ Q (.bl (numD d)) H
theorem scIsNumber : FnScope ["value"] ["value"] (defScope sIsNumber) := ⟨rfl, rfl, rfl, by decide +kernel, rfl, by decide +kernel, by decide +kernel⟩
theorem TChk.okNumber (T : TChk K mg) : FnOk P w K mg base CX0 2 T.isNumber.f T.isNumber.fd ["value"] (spIsNumber K) := by
  refine T.isNumber.F.ok scIsNumber (fun vs H Q E h => ?_) (fun cdv A outer s H vs Q E hr h => ?_)
  · obtain ⟨v, d, rfl, _⟩ := h
    rfl
  · obtain ⟨v, d, rfl, hd, q⟩ := h
    refine ⟨_, pss_one (ps_ret (pe_and (pe_call T.okInteger hr rfl T.isInteger.m T.isInteger.F.kp T.isInteger.b .nil pass0 (pa_cons (pv 0) pa_nil)) (pe_one (pe_cmpR op_ge (pv 0) pe_int (nomark _))))), ?_⟩
    refine ⟨_, rfl, v, d, rfl, hd, _, rfl, ?_⟩
    cases d with
    | none => exact q
    | str z => exact q
    | list ds => exact q
    | tuple ds => exact q
    | dict ds => exact q
    | bool i => exact q
    | int i =>
      cases hd
      exact ⟨_, rfl, _, _, rfl, rfl, q⟩
def dlen : PyData → Prop
  | .str z => z.length ≤ 900
  | _ => True
def spIsName (K : PySem.W.Frag) : Sp := fun vs H Q _ => ∃ (v : V) (d : PyData), vs = [v] ∧ Dp K H v d ∧ dlen d ∧ ∀ H', Same H H' → Mo H H' → Q (.bl (nameD d)) H'
theorem scIsName : FnScope ["value", "letter"] ["value"] (defScope sIsName) := ⟨rfl, rfl, rfl, by decide +kernel, rfl, by decide +kernel, by decide +kernel⟩
theorem TChk.okName (T : TChk K mg) : FnOk P w K mg base CX0 1 T.isName.f T.isName.fd ["value"] (spIsName K) := by
  refine T.isName.F.ok scIsName (fun vs H Q E h => ?_) (fun cdv A outer s H vs Q E hr h => ?_)
  · obtain ⟨v, d, rfl, _⟩ := h
    rfl
  · obtain ⟨v, d, rfl, hd, hl, q⟩ := h
    refine ⟨_, pss_cons (ps_if (PW.pt (pw_or (pt_not (pt_val (pe_callB call_isi (by rfl) T.mIsi (by decide +kernel) (pa_cons (pv 0) (pa_cons (pe_bltn (v := .ty "str") (by rfl) T.mStr (by decide +kernel) rfl) pa_nil)))))
        (pw_or1 (pt_cmpR op_in_seq (pv 0) (pe_glob (v := .ref T.words) (by rfl) T.mWords rfl) rfl)))) (pss_one (ps_ret pe_bl)) pss_nil)
      (pss_one (ps_ret (pe_and (pe_chain op_le op_le pe_int (pe_callB call_len_str (by rfl) T.mLen PySem.boot_len (pa_cons (pv 0) pa_nil)) (pe_glob (v := .int 4) (by rfl) T.mLong ⟨_, rfl⟩))
        (pe_one (pe_callB (cr_all rfl) (by rfl) T.mAll (by decide +kernel) (pa_cons (pe_lc (own := [("letter", 1)]) (g := gName 1) (tt := tYes) (by rfl) scIsName.nd (pi_str (pv 0))
          (blkOk_by (N := ["value", "letter"]) (sc := defScope sIsName) (by decide +kernel)) (fun _ _ _ _ _ => pg_name (i := 1) scIsName.nd rfl (Or.inl rfl)) (fun _ _ _ _ _ => pts_nil)
          (fun _ _ _ _ _ => pe_chain op_le_str op_le_str pe_str (pv 1) pe_str)) pa_nil)))))), ?_⟩
    refine ⟨_, rfl, v, _, _, _, _, rfl, .ty _, dp_ty hd, kit_ty (kit_str d), _, rfl, ?_⟩
    cases d with
    | str z =>
      cases hd
      refine ⟨_, rfl, T.words, rowV, rfl, .inr (T.hWords H), rfl, rfl, _, rfl, ?_⟩
      have hl' : z.length ≤ 900 := hl
      cases e : inV (.str z) rowV with
      | true =>
        have e2 : nameD (.str z) = false := by show nameS z = false; unfold nameS; rw [e]; rfl
        rw [e2] at q
        refine iteT ?_
        exact q H (Same.refl H) (Mo.refl H)
      | false =>
        refine iteF ?_
        refine ⟨_, rfl, z, rfl, Nat.le_trans hl' (by decide), _, _, rfl, rfl, _, rfl, ?_⟩
        have e2 : nameD (.str z) = ((decide (1 ≤ (z.length : Int)) && decide ((z.length : Int) ≤ 4)) && z.cps.toList.all lok) := by show nameS z = _; unfold nameS; rw [e]; rfl
        rw [e2] at q
        cases h1 : decide (1 ≤ (z.length : Int)) with
        | false =>
          rw [h1] at q
          refine iteF ?_
          exact ⟨false, rfl, iteF (q H (Same.refl H) (Mo.refl H))⟩
        | true =>
          rw [h1] at q
          refine iteT ?_
          refine ⟨_, _, rfl, rfl, _, rfl, ?_⟩
          cases h2 : decide ((z.length : Int) ≤ 4) with
          | false =>
            rw [h2] at q
            exact iteF (q H (Same.refl H) (Mo.refl H))
          | true =>
            rw [h2] at q
            refine iteT ?_
            refine ⟨_, rfl, z, rfl, fun D hD => lc_it walk_str (fun i Hi => Hi = upd H D (.lst ((List.range i).map fun j => .bl (lok (z.cps.toList.getD j 0))))) rfl (fun _ _ _ _ => trivial) (fun i x Hi Hj hi hP hY => ?_) (fun Hi hP => ?_)⟩
            · obtain ⟨rfl, c, hc, rfl⟩ := hY
              subst hP
              have hi2 : i < 1000 := by
                have : z.cps.size = z.length := rfl
                omega
              have hg : z.cps.toList.getD i 0 = c := by
                rw [List.getD_eq_getElem?_getD, Array.getElem?_toList, hc]
                rfl
              have fin := lc_step (H1 := H) (D := D) (f := fun j => .bl (lok (z.cps.toList.getD j 0))) (i := i) hi2
              rw [hg, ← lok_eq] at fin
              refine ⟨rfl, _, rfl, _, _, rfl, rfl, _, rfl, ?_⟩
              cases h3 : (!decide ([c] < [97])) with
              | false =>
                have h4 : (!decide (({ cps := #[c] } : Str).cps.toList < (Str.ofString "a").cps.toList)) = false := h3
                rw [h3] at fin
                rw [h4]
                exact fin
              | true =>
                have h4 : (!decide (({ cps := #[c] } : Str).cps.toList < (Str.ofString "a").cps.toList)) = true := h3
                rw [h3] at fin
                rw [h4]
                exact ⟨_, _, rfl, rfl, fin⟩
            · subst hP
              refine ⟨D, (List.range z.cps.size).map fun j => lok (z.cps.toList.getD j 0), rfl, ?_, ?_⟩
              · refine SqL.of ?_
                rw [upd_same, List.map_map]
                rfl
              · have e3 := range_getD (f := lok) z.cps.toList
                rw [Array.length_toList] at e3
                rw [e3]
                exact q _ (Same.new hD) Mo.upd
    | none => exact q H (Same.refl H) (Mo.refl H)
    | list ds => exact q H (Same.refl H) (Mo.refl H)
    | tuple ds => exact q H (Same.refl H) (Mo.refl H)
    | dict ds => exact q H (Same.refl H) (Mo.refl H)
    | int i => exact q H (Same.refl H) (Mo.refl H)
    | bool i => exact q H (Same.refl H) (Mo.refl H)
end
end Pn

namespace Pn
open PySem L2
theorem iteTD {c : Bool} {A B : Prop} (hc : c = true) (h : A) : if c = true then A else B := by
  rw [if_pos hc]
  exact h
theorem iteFD {c : Bool} {A B : Prop} (hc : c = false) (h : B) : if c = true then A else B := by
  rw [hc, if_neg Bool.false_ne_true]
  exact h
/-! ### own exceptions that keep one thing -/
theorem same_made {H1 : Hp} {a d : Addr} {y : V} {f : Str} {o1 o2 o3 : HO} (ha : H1 a = none) (hd : H1 d = none) : Same H1 (upd (del (upd (upd (upd H1 a o1) d o2) a o3) a) d (.xd [(f, y)])) := fun b o e => by
  have n1 : b ≠ a := ne_of_none e ha
  have n2 : b ≠ d := ne_of_none e hd
  rw [upd_ne n2, del_ne n1, upd_ne n1, upd_ne n2, upd_ne n1]
  exact e
/-- an own exception class of the text whose __init__ keeps one thing under the name fld -/
structure TExc (K : PySem.W.Frag) (mg : Str → Option Value) (x : Str) (qual fld : Str) (st : Stmt) : Type where
  C : Addr
  fI : Addr
  fd : FuncData
  F : Fun K "__init__" qual st fI fd
  b : Binds K fd ["self", fld] []
  m : mg x = some (.ref C)
  O : OexC K C
  iC : PySem.W.findIn K (.ref C) "__init__" = some (some (.ref fI))
  tI : PySem.W.typeIn K (.ref fI) = some (.type "function")
  noF : PySem.W.findIn K (.ref C) fld = some none
  E : ExcC K C
  isC : PySem.W.isClsIn K C = true
  te : PySem.W.exmOne K (.ref C) (.ref C) = some true
  xf : XfC K C
def spXInit (K : PySem.W.Frag) (fld : Str) : Sp := fun vs H Q _ => ∃ (a C : Addr) (v : V), vs = [.ref a, v] ∧ H a = some (exo a C none) ∧ OexC K C ∧ PySem.W.findIn K (.ref C) fld = some none ∧
  ∀ dx, H dx = none → dx ≠ a → Q .non (upd (upd H dx (exd dx [(fld, v)])) a (exo a C (some dx)))
/-- isinstance of the exception that a suite holds -/
def rIsX (K : PySem.W.Frag) (D a : Addr) (cls : Value) (d : Option Addr) : List V → Hp → VK → Prop := fun xs H Q => ∃ (c : V) (cv : Value) (b : Bool) (dd : Addr) (fs : List (Str × V)), xs = [.ref a, c] ∧ cls = .ref D ∧ ClsV c cv ∧ PySem.W.kitOne K (.ref D) cv = some b ∧ d = some dd ∧ H dd = some (.xd fs) ∧ Q (.bl b) H
theorem call_isX {X : Cx} {a D : Addr} {cls : Value} {d : Option Addr} {oe : Obj} {pn : List (Addr × Obj)} (C : ExcC X.K D) (hz : Zc cls d oe) (hf : ∃ vs, oe.data = .fields vs) : CallR (X.suite a ((a, oe) :: pn)) (.builtin "isinstance") (rIsX X.K D a cls d) := by
  intro pins s σ H xs us Q I r h
  obtain ⟨c, cv, b, dd, fs, rfl, rfl, hcv, e, rfl, hdd, q⟩ := h
  obtain ⟨u1, u2, rfl, r1, r2⟩ := vals2 r
  obtain rfl : u1 = Value.ref a := r1
  obtain rfl : u2 = cv := hcv.eq r2
  obtain ⟨hget, _⟩ := I.pin (a, oe) (List.mem_append.mpr (.inl List.mem_cons_self))
  obtain ⟨mA, hns, _⟩ : ObjOk X.prog X.w H s.heap dd (.xd fs) := I.hok dd _ hdd
  obtain ⟨od, ho, _⟩ := lookIn_ns hns
  obtain ⟨vs, hv⟩ := hf
  have J : PySem.W.InstAt s.heap a oe D (some od) := ⟨hget, hz.1, by unfold PySem.W.notCls; rw [hv] <;> rfl, by rw [hz.2]; exact ho⟩
  have hcl : (PySem.W.clsIn X.K D).isSome = true := by
    have q := C.hd
    unfold PySem.W.hasDictIn at q
    cases z : PySem.W.clsIn X.K D with
    | some cd => rfl
    | none => rw [z] at q; cases q
  exact PySem.W.kia_one (PySem.W.kitx_exc hcl C.hg C.hk C.hs C.ha C.hn C.ht C.hm) I.kIn J e (fun z => nomatch z) fun tk => ⟨.bl b, H, I.tok tk, rfl, q⟩
end Pn

namespace Pn
open PySem PySem.Spec PyProof.Rows L2
/-! ### the same exceptions, with what is known of their context -/
section
variable {X : Cx} {CX : CXT} {C fI : Addr} {k : Nat} {fd : FuncData} {ps : List Str} {sp : Sp} {ta : TA}
theorem pmk_oexN {x : Str} {e : Expr} {es : List Expr} {p pos : Pos} (T : OexC X.K C) (iC : PySem.W.findIn X.K (.ref C) "__init__" = some (some (.ref fI))) (tI : PySem.W.typeIn X.K (.ref fI) = some (.type "function"))
    (F1 : FnOk X.prog X.w X.K X.mg X.base CX k fI fd ps sp) (room : Room (k + 1) X.A) (bnd : Binds X.K fd ps []) (noE : Passes CX X (fun _ _ _ => False))
    (gl : Gl X x) (at_ : X.mg x = some (.ref C)) (ha : PA X (e :: es) ta) (hdb : (x == ("__debug__" : Str)) = false := by decide)
    (he : starEach (e :: es) X.env = (false, eval e X.env) :: starEach es X.env := by rfl) (hpl : (backTo pos (starEach es X.env)).any (·.1) = false := by rfl) :
    L2N.PMk X (.Call (.Name x p) (e :: es) [] pos) (tMkO C sp [] ta) := by
  intro pins s σ H Q I want
  rcases T.cls with ⟨c1, c2, c3, c4, mro, c5, c6, c7, c8, c9, d0, d1, d2, d3, d5, look, vet⟩
  apply wpAny_Call_Name_kw
  refine ld_glob I gl at_ ?_ hdb
  refine PySem.W.callWith_K (h₀ := X.base) I.ok.mod.kin T.kC ?_ he hpl
  refine thn (ha.run pos pins s σ H _ I want) ?_
  rintro us ⟨hp, gs, dr, tk, os⟩ ⟨vs, H1, J, rel, few, made⟩
  refine ⟨J.kIn, ?_⟩
  let a := hp.objs.size + 1
  let hp2 := (hp.push (PySem.W.kdv_tup us)).push (PySem.HandSPX.excO C hp.objs.size)
  have old : ∀ b o, hp.get? b = some o → hp2.get? b = some o := fun b o z => Heap.get?_push_of_some _ (Heap.get?_push_of_some _ z)
  have fresh : H1 a = none := J.hok.fresh (Nat.le_succ _)
  have there : hp2.get? a = some (PySem.HandSPX.excO C hp.objs.size) := by
    show ((hp.push (PySem.W.kdv_tup us)).push (PySem.HandSPX.excO C hp.objs.size)).get? (hp.objs.size + 1) = _
    heap_get
  have J2 : Inv X pins σ (upd H1 a (exo a C none)) ⟨hp2, gs, dr, tk, os⟩ := J.laid (t' := tk) (a := a) (o := exo a C none) (h' := hp2) old (Nat.le_succ _) (exo_ok there)
  have go := made a fresh
  rw [List.append_nil] at go
  have rel2 : Vals (V.ref a :: vs) (Value.ref a :: us) := .cons (show RelV (.ref a) (Value.ref a) from rfl) rel
  have cnt : (Value.ref a :: us ++ []).length = ps.length := by
    rw [List.append_nil, ← rel2.length]
    exact F1.len _ _ _ _ go
  have bd := bnd ⟨hp2, gs, dr, tk, os⟩ (Value.ref a :: us) J2.kIn cnt
  rw [List.append_nil] at bd
  have lim : us.length ≤ sizeLine := by
    rw [← Paired.length rel, sizeLine_eq]
    omega
  show wpAny _ _ (call (.ref C) us) _ _ _
  refine wpAny_call (PySem.HandSPX.call_own F.excBase_ValueError (fun Y => PySem.HandSPX.refsVE_contains Y mro vet) (J.kIn _ _ look) (PySem.W.looks_findIn J.kIn iC)
    (fun self => PySem.W.bind_fn J.kIn self tI) lim ?_)
  have ran := F1.run _ X.stack _ _ ⟨Value.ref a :: us, []⟩ (Value.ref a :: us) _ _ (fun _ _ _ => False) (room.make C us []) (J2.env0.make C us []) bd rel2 go
  refine codeAny_mono ran ?_
  intro r s' out
  match r, out with
  | .error er, out => exact noE pins σ _ _ er s' J2 out
  | .ok .next, out => exact False.elim out
  | .ok .brk, out => exact False.elim out
  | .ok .cont, out => exact False.elim out
  | .ok (.ret u), out =>
    obtain ⟨v, H2, osame, bare, un, ok2, rv, rfl, d, fs, ea, ed, dn, fin⟩ := out
    obtain ⟨h2, g2, dr2, t2, os2⟩ := s'
    obtain ⟨t0, G, J3, sub, gone, obj, untr⟩ := mk_end0 (d2 := dr2) (t2 := t2) J (Nat.le_succ _) old un ok2 osame bare ea ed dn
    exact ⟨rv, a, _, _, ⟨G, g2, dr2, t2, os2⟩, _, .ref C, some d, rfl, J3, sub, gone, obj, ⟨rfl, rfl, fun ws z => by cases z; rfl⟩, rfl, rfl, untr, rfl, bare, raises_own T.exC T.tyC, fin⟩
end
section
variable {P : Program} {w : World} {K : PySem.W.Frag} {mg : Str → Option Value} {base : Heap}
theorem funD {x qual : Str} {st : Stmt} {f : Addr} {fd : FuncData} (F : Fun K x qual st f fd) : FunD K x qual (defArgs st) (defBody st) (defScope st) [] [] f fd := by
  obtain ⟨oc, od, kV, doc, pm, an, cdv, ct, osl, e, l, c⟩ := F.ex
  exact ⟨⟨oc, od, _, kV, doc, pm, an, cdv, ct, osl, e, l, c, .inl ⟨rfl, rfl⟩, .inl rfl⟩, F.kp⟩
end
end Pn

namespace Pn
open PySem L2
abbrev sNeedName : Stmt := top 22
abbrev sIRInit : Stmt := inClass (top 11) 0
section
variable {P : Program} {w : World} {K : PySem.W.Frag} {mg : Str → Option Value} {base : Heap}
theorem scIRInit : FnScope ["self", "word"] ["self", "word"] (defScope sIRInit) := ⟨rfl, rfl, rfl, by decide +kernel, rfl, by decide +kernel, by decide +kernel⟩
abbrev TIR (K : PySem.W.Frag) (mg : Str → Option Value) := TExc K mg "InvalidRow" "InvalidRow.__init__" "word" sIRInit
theorem okIRInit (T : TIR K mg) : FnOk P w K mg base CX0 1 T.fI T.fd ["self", "word"] (spXInit K "word") := by
  refine T.F.ok scIRInit (fun vs H Q E h => ?_) (fun cdv A outer s H vs Q E hr h => ?_)
  · obtain ⟨a, C, v, rfl, _⟩ := h
    rfl
  · obtain ⟨a, C, v, rfl, ha, O, no, q⟩ := h
    refine ⟨_, pss_one (ps_ost (pv 0) (pv 1)), ?_⟩
    exact ⟨_, rfl, _, rfl, a, C, rfl, O, no, .inl ⟨ha, fun dx h1 h2 => q dx h1 h2⟩⟩
/-- InvalidRow(wd) leaves the def -/
def RaiseW (C : Addr) (H : Hp) (E : XK) (wd : V) : Prop := ∀ (e : Addr) (H' : Hp), Same H H' → Mo H H' → H e = none → H' e = some (.xd [("word", wd)]) → E (.ref C) (some e) H'
theorem RaiseW.back {C : Addr} {H H1 : Hp} {E : XK} {wd : V} (h : RaiseW C H E wd) (s : Same H H1) (m : Mo H H1) : RaiseW C H1 E wd := fun e H' h1 h2 h3 h4 => h e H' (s.trans h1) (m.trans h2) (m e h3) h4
def spNeed (K : PySem.W.Frag) (C : Addr) : Sp := fun vs H Q E => ∃ (v wd : V) (d : PyData), vs = [v, wd] ∧ Dp K H v d ∧ dlen d ∧ (nameD d = true → ∀ H', Same H H' → Mo H H' → Q .non H') ∧ (nameD d = false → RaiseW C H E wd)
structure TNeed (K : PySem.W.Frag) (mg : Str → Option Value) : Type extends TChk K mg where
  IR : TIR K mg
  need : At K mg "need_name" sNeedName ["value", "word"]
theorem scNeed : FnScope ["value", "word"] ["value", "word"] (defScope sNeedName) := ⟨rfl, rfl, rfl, by decide +kernel, rfl, by decide +kernel, by decide +kernel⟩
/-- a new exception of InvalidRow, as its making leaves it -/
theorem ir_made {C : Addr} {H H1 : Hp} {E : XK} {wd : V} (s : Same H H1) (m : Mo H H1) (h : RaiseW C H E wd) {a : Addr} (ha : H1 a = none) (dx : Addr) (h1 : (upd H1 a (exo a C none)) dx = none) (h2 : dx ≠ a) :
    E (.ref C) (some dx) (upd (del (upd (upd (upd H1 a (exo a C none)) dx (exd dx [("word", wd)])) a (exo a C (some dx))) a) dx (.xd [("word", wd)])) := by
  have hd : H1 dx = none := by rw [upd_ne h2] at h1; exact h1
  refine h dx _ (s.trans (same_made ha hd)) (m.trans fun b e => ?_) (m dx hd) upd_same
  by_cases n2 : b = dx
  · rw [n2]; exact hd
  · by_cases n1 : b = a
    · rw [n1]; exact ha
    · rw [upd_ne n2, del_ne n1, upd_ne n1, upd_ne n2, upd_ne n1] at e
      exact e
theorem okNeed (T : TNeed K mg) : FnOk P w K mg base (L2N.CX P w) 3 T.need.f T.need.fd ["value", "word"] (spNeed K T.IR.C) := by
  refine (funD T.need.F).ok scNeed (fun vs H Q E h => ?_) (fun cdv A outer s H vs Q E hr h => ?_)
  · obtain ⟨v, wd, d, rfl, _⟩ := h
    rfl
  · obtain ⟨v, wd, d, rfl, hd, hl, q1, q2⟩ := h
    refine ⟨_, pss_one (ps_if (pt_not (pt_val (pe_call (T.okName) (hr.mono (by decide)) rfl T.isName.m T.isName.F.kp T.isName.b .nil pass0 (pa_cons (pv 0) pa_nil))))
      (pss_one (L2N.ps_raise rfl (L2N.takes_of rfl rfl rfl rfl) (pmk_oexN T.IR.O T.IR.iC T.IR.tI (okIRInit T.IR) (hr.mono (by decide)) T.IR.b pass0 rfl T.IR.m (pa_cons (pv 1) pa_nil)))) pss_nil), ?_⟩
    refine ⟨_, rfl, v, d, rfl, hd, hl, fun H1 hs hm => ?_⟩
    cases hn : nameD d with
    | true => exact ⟨true, rfl, iteF (q1 hn H1 hs hm)⟩
    | false =>
      refine ⟨false, rfl, iteT ?_⟩
      refine ⟨_, rfl, (by show 1 ≤ 1000; decide), fun a ha => ⟨a, T.IR.C, wd, rfl, upd_same, T.IR.O, T.IR.noF, fun dx h1 h2 => ?_⟩⟩
      have hd1 : H1 dx = none := by rw [upd_ne h2] at h1; exact h1
      exact ⟨rfl, dx, _, upd_same, by rw [upd_ne h2, upd_same], hd1, ir_made hs hm (q2 hn) ha dx h1 h2⟩
/-- an own class with an __init__ -/
structure TCls (K : PySem.W.Frag) (mg : Str → Option Value) (x qual : Str) (st : Stmt) (ps : List Str) : Type where
  C : Addr
  fI : Addr
  fd : FuncData
  F : Fun K "__init__" qual st fI fd
  b : Binds K fd ps []
  m : mg x = some (.ref C)
  M : Mk K C fI
  cl : Cls K C
  noW : NoAttr K C "word"
theorem small2 {f g : Str} {v u : V} : (putF g u (putF f v ([] : List (Str × V)))).length < 1000 := by
  unfold putF putF
  simp only
  split
  · show 1 < 1000
    decide
  · show 2 < 1000
    decide
/-- all but the new instance is as it was -/
def KpI (x : Addr) (H H' : Hp) : Prop := ∀ b o, H b = some o → b ≠ x → H' b = some o
/-! ### Keep -/
abbrev sKeepInit : Stmt := inClass (top 26) 0
theorem scKeepInit : FnScope ["self", "counter"] ["self", "counter"] (defScope sKeepInit) := ⟨rfl, rfl, rfl, by decide +kernel, rfl, by decide +kernel, by decide +kernel⟩
structure TKeep (K : PySem.W.Frag) (mg : Str → Option Value) : Type extends TCls K mg "Keep" "Keep.__init__" sKeepInit ["self", "counter"] where
  noF : NoAttr K C "counter"
def insKeep (C dx : Addr) (v : V) : HO := .ins C dx (putF "counter" v (putF "word" (.str "keep") []))
def spKeepInit (K : PySem.W.Frag) (C CR : Addr) : Sp := fun vs H Q E => ∃ (x dx : Addr) (v : V) (d : PyData), vs = [.ref x, v] ∧ H x = some (.ins C dx []) ∧ Dp K H v d ∧ dlen d ∧
  (nameD d = true → ∀ H', KpI x H H' → Mo H H' → H' x = some (insKeep C dx v) → Q .non H') ∧ (nameD d = false → RaiseW CR H E (.str "counter"))
theorem okKeepInit (T : TKeep K mg) (N : TNeed K mg) : FnOk P w K mg base (L2N.CX P w) 4 T.fI T.fd ["self", "counter"] (spKeepInit K T.C N.IR.C) := by
  refine (funD T.F).ok scKeepInit (fun vs H Q E h => ?_) (fun cdv A outer s H vs Q E hr h => ?_)
  · obtain ⟨x, dx, v, d, rfl, _⟩ := h
    rfl
  · obtain ⟨x, dx, v, d, rfl, hx, hd, hl, q1, q2⟩ := h
    refine ⟨_, pss_cons (ps_expr (pe_callS (okNeed N) hr rfl N.need.m N.need.F.kp N.need.b (fun σ => L2N.passAt (L2N.takes_of rfl rfl rfl rfl) σ) (pa_cons (pv 1) (pa_cons pe_str pa_nil))))
      (pss_cons (ps_fld (pv 0) pe_str rfl) (pss_one (ps_fld (pv 0) (pv 1) rfl))), ?_⟩
    refine ⟨_, rfl, v, _, d, rfl, hd, hl, fun hn H1 hs hm => ?_, fun hn => q2 hn⟩
    refine ⟨_, rfl, x, T.C, dx, [], rfl, hs x _ hx, T.cl, T.noW, (by show 0 < 1000; decide), _, rfl, _, rfl, x, T.C, dx, _, rfl, upd_same, T.cl, T.noF, (by show 1 < 1000; decide), ?_⟩
    refine q1 hn _ (fun b o e n => ?_) (hm.trans (Mo.upd.trans Mo.upd)) upd_same
    rw [upd_ne n, upd_ne n]
    exact hs b o e
/-! ### Back -/
abbrev sBackInit : Stmt := inClass (top 27) 0
theorem scBackInit : FnScope ["self", "counter"] ["self", "counter"] (defScope sBackInit) := ⟨rfl, rfl, rfl, by decide +kernel, rfl, by decide +kernel, by decide +kernel⟩
structure TBack (K : PySem.W.Frag) (mg : Str → Option Value) : Type extends TCls K mg "Back" "Back.__init__" sBackInit ["self", "counter"] where
  noF : NoAttr K C "counter"
def insBack (C dx : Addr) (v : V) : HO := .ins C dx (putF "counter" v (putF "word" (.str "back") []))
def spBackInit (K : PySem.W.Frag) (C CR : Addr) : Sp := fun vs H Q E => ∃ (x dx : Addr) (v : V) (d : PyData), vs = [.ref x, v] ∧ H x = some (.ins C dx []) ∧ Dp K H v d ∧ dlen d ∧
  (nameD d = true → ∀ H', KpI x H H' → Mo H H' → H' x = some (insBack C dx v) → Q .non H') ∧ (nameD d = false → RaiseW CR H E (.str "counter"))
theorem okBackInit (T : TBack K mg) (N : TNeed K mg) : FnOk P w K mg base (L2N.CX P w) 4 T.fI T.fd ["self", "counter"] (spBackInit K T.C N.IR.C) := by
  refine (funD T.F).ok scBackInit (fun vs H Q E h => ?_) (fun cdv A outer s H vs Q E hr h => ?_)
  · obtain ⟨x, dx, v, d, rfl, _⟩ := h
    rfl
  · obtain ⟨x, dx, v, d, rfl, hx, hd, hl, q1, q2⟩ := h
    refine ⟨_, pss_cons (ps_expr (pe_callS (okNeed N) hr rfl N.need.m N.need.F.kp N.need.b (fun σ => L2N.passAt (L2N.takes_of rfl rfl rfl rfl) σ) (pa_cons (pv 1) (pa_cons pe_str pa_nil))))
      (pss_cons (ps_fld (pv 0) pe_str rfl) (pss_one (ps_fld (pv 0) (pv 1) rfl))), ?_⟩
    refine ⟨_, rfl, v, _, d, rfl, hd, hl, fun hn H1 hs hm => ?_, fun hn => q2 hn⟩
    refine ⟨_, rfl, x, T.C, dx, [], rfl, hs x _ hx, T.cl, T.noW, (by show 0 < 1000; decide), _, rfl, _, rfl, x, T.C, dx, _, rfl, upd_same, T.cl, T.noF, (by show 1 < 1000; decide), ?_⟩
    refine q1 hn _ (fun b o e n => ?_) (hm.trans (Mo.upd.trans Mo.upd)) upd_same
    rw [upd_ne n, upd_ne n]
    exact hs b o e
/-! ### Ref -/
abbrev sRefInit : Stmt := inClass (top 28) 0
theorem scRefInit : FnScope ["self", "label"] ["self", "label"] (defScope sRefInit) := ⟨rfl, rfl, rfl, by decide +kernel, rfl, by decide +kernel, by decide +kernel⟩
structure TRef (K : PySem.W.Frag) (mg : Str → Option Value) : Type extends TCls K mg "Ref" "Ref.__init__" sRefInit ["self", "label"] where
  noF : NoAttr K C "label"
def insRef (C dx : Addr) (v : V) : HO := .ins C dx (putF "label" v (putF "word" (.str "ref") []))
def spRefInit (K : PySem.W.Frag) (C CR : Addr) : Sp := fun vs H Q E => ∃ (x dx : Addr) (v : V) (d : PyData), vs = [.ref x, v] ∧ H x = some (.ins C dx []) ∧ Dp K H v d ∧ dlen d ∧
  (nameD d = true → ∀ H', KpI x H H' → Mo H H' → H' x = some (insRef C dx v) → Q .non H') ∧ (nameD d = false → RaiseW CR H E (.str "label"))
theorem okRefInit (T : TRef K mg) (N : TNeed K mg) : FnOk P w K mg base (L2N.CX P w) 4 T.fI T.fd ["self", "label"] (spRefInit K T.C N.IR.C) := by
  refine (funD T.F).ok scRefInit (fun vs H Q E h => ?_) (fun cdv A outer s H vs Q E hr h => ?_)
  · obtain ⟨x, dx, v, d, rfl, _⟩ := h
    rfl
  · obtain ⟨x, dx, v, d, rfl, hx, hd, hl, q1, q2⟩ := h
    refine ⟨_, pss_cons (ps_expr (pe_callS (okNeed N) hr rfl N.need.m N.need.F.kp N.need.b (fun σ => L2N.passAt (L2N.takes_of rfl rfl rfl rfl) σ) (pa_cons (pv 1) (pa_cons pe_str pa_nil))))
      (pss_cons (ps_fld (pv 0) pe_str rfl) (pss_one (ps_fld (pv 0) (pv 1) rfl))), ?_⟩
    refine ⟨_, rfl, v, _, d, rfl, hd, hl, fun hn H1 hs hm => ?_, fun hn => q2 hn⟩
    refine ⟨_, rfl, x, T.C, dx, [], rfl, hs x _ hx, T.cl, T.noW, (by show 0 < 1000; decide), _, rfl, _, rfl, x, T.C, dx, _, rfl, upd_same, T.cl, T.noF, (by show 1 < 1000; decide), ?_⟩
    refine q1 hn _ (fun b o e n => ?_) (hm.trans (Mo.upd.trans Mo.upd)) upd_same
    rw [upd_ne n, upd_ne n]
    exact hs b o e
/-! ### Put -/
abbrev sPutInit : Stmt := inClass (top 29) 0
theorem scPutInit : FnScope ["self", "part"] ["self", "part"] (defScope sPutInit) := ⟨rfl, rfl, rfl, by decide +kernel, rfl, by decide +kernel, by decide +kernel⟩
structure TPut (K : PySem.W.Frag) (mg : Str → Option Value) : Type extends TCls K mg "Put" "Put.__init__" sPutInit ["self", "part"] where
  noF : NoAttr K C "part"
def insPut (C dx : Addr) (v : V) : HO := .ins C dx (putF "part" v (putF "word" (.str "put") []))
def spPutInit (K : PySem.W.Frag) (C CR : Addr) : Sp := fun vs H Q E => ∃ (x dx : Addr) (v : V) (d : PyData), vs = [.ref x, v] ∧ H x = some (.ins C dx []) ∧ Dp K H v d ∧ dlen d ∧
  (nameD d = true → ∀ H', KpI x H H' → Mo H H' → H' x = some (insPut C dx v) → Q .non H') ∧ (nameD d = false → RaiseW CR H E (.str "part"))
theorem okPutInit (T : TPut K mg) (N : TNeed K mg) : FnOk P w K mg base (L2N.CX P w) 4 T.fI T.fd ["self", "part"] (spPutInit K T.C N.IR.C) := by
  refine (funD T.F).ok scPutInit (fun vs H Q E h => ?_) (fun cdv A outer s H vs Q E hr h => ?_)
  · obtain ⟨x, dx, v, d, rfl, _⟩ := h
    rfl
  · obtain ⟨x, dx, v, d, rfl, hx, hd, hl, q1, q2⟩ := h
    refine ⟨_, pss_cons (ps_expr (pe_callS (okNeed N) hr rfl N.need.m N.need.F.kp N.need.b (fun σ => L2N.passAt (L2N.takes_of rfl rfl rfl rfl) σ) (pa_cons (pv 1) (pa_cons pe_str pa_nil))))
      (pss_cons (ps_fld (pv 0) pe_str rfl) (pss_one (ps_fld (pv 0) (pv 1) rfl))), ?_⟩
    refine ⟨_, rfl, v, _, d, rfl, hd, hl, fun hn H1 hs hm => ?_, fun hn => q2 hn⟩
    refine ⟨_, rfl, x, T.C, dx, [], rfl, hs x _ hx, T.cl, T.noW, (by show 0 < 1000; decide), _, rfl, _, rfl, x, T.C, dx, _, rfl, upd_same, T.cl, T.noF, (by show 1 < 1000; decide), ?_⟩
    refine q1 hn _ (fun b o e n => ?_) (hm.trans (Mo.upd.trans Mo.upd)) upd_same
    rw [upd_ne n, upd_ne n]
    exact hs b o e
/-! ### Open -/
abbrev sOpenInit : Stmt := inClass (top 30) 0
theorem scOpenInit : FnScope ["self", "name"] ["self", "name"] (defScope sOpenInit) := ⟨rfl, rfl, rfl, by decide +kernel, rfl, by decide +kernel, by decide +kernel⟩
structure TOpen (K : PySem.W.Frag) (mg : Str → Option Value) : Type extends TCls K mg "Open" "Open.__init__" sOpenInit ["self", "name"] where
  noF : NoAttr K C "name"
def insOpen (C dx : Addr) (v : V) : HO := .ins C dx (putF "name" v (putF "word" (.str "open") []))
def spOpenInit (K : PySem.W.Frag) (C CR : Addr) : Sp := fun vs H Q E => ∃ (x dx : Addr) (v : V) (d : PyData), vs = [.ref x, v] ∧ H x = some (.ins C dx []) ∧ Dp K H v d ∧ dlen d ∧
  (nameD d = true → ∀ H', KpI x H H' → Mo H H' → H' x = some (insOpen C dx v) → Q .non H') ∧ (nameD d = false → RaiseW CR H E (.str "name"))
theorem okOpenInit (T : TOpen K mg) (N : TNeed K mg) : FnOk P w K mg base (L2N.CX P w) 4 T.fI T.fd ["self", "name"] (spOpenInit K T.C N.IR.C) := by
  refine (funD T.F).ok scOpenInit (fun vs H Q E h => ?_) (fun cdv A outer s H vs Q E hr h => ?_)
  · obtain ⟨x, dx, v, d, rfl, _⟩ := h
    rfl
  · obtain ⟨x, dx, v, d, rfl, hx, hd, hl, q1, q2⟩ := h
    refine ⟨_, pss_cons (ps_expr (pe_callS (okNeed N) hr rfl N.need.m N.need.F.kp N.need.b (fun σ => L2N.passAt (L2N.takes_of rfl rfl rfl rfl) σ) (pa_cons (pv 1) (pa_cons pe_str pa_nil))))
      (pss_cons (ps_fld (pv 0) pe_str rfl) (pss_one (ps_fld (pv 0) (pv 1) rfl))), ?_⟩
    refine ⟨_, rfl, v, _, d, rfl, hd, hl, fun hn H1 hs hm => ?_, fun hn => q2 hn⟩
    refine ⟨_, rfl, x, T.C, dx, [], rfl, hs x _ hx, T.cl, T.noW, (by show 0 < 1000; decide), _, rfl, _, rfl, x, T.C, dx, _, rfl, upd_same, T.cl, T.noF, (by show 1 < 1000; decide), ?_⟩
    refine q1 hn _ (fun b o e n => ?_) (hm.trans (Mo.upd.trans Mo.upd)) upd_same
    rw [upd_ne n, upd_ne n]
    exact hs b o e
/-! ### Note, Skip, Set -/
abbrev sNoteInit : Stmt := inClass (top 23) 0
theorem scNoteInit : FnScope ["self", "counter", "label"] ["self", "counter", "label"] (defScope sNoteInit) := ⟨rfl, rfl, rfl, by decide +kernel, rfl, by decide +kernel, by decide +kernel⟩
structure TNote (K : PySem.W.Frag) (mg : Str → Option Value) : Type where
  C : Addr
  fI : Addr
  fd : FuncData
  F : FunD K "__init__" "Note.__init__" (defArgs sNoteInit) (defBody sNoteInit) (defScope sNoteInit) [.str ""] [] fI fd
  b : Binds K fd ["self", "counter", "label"] []
  m : mg "Note" = some (.ref C)
  M : Mk K C fI
  cl : Cls K C
  noW : NoAttr K C "word"
  noC : NoAttr K C "counter"
  noL : NoAttr K C "label"
def insNote (C dx : Addr) (v u : V) : HO := .ins C dx (putF "label" u (putF "counter" v (putF "word" (.str "note") [])))
/-- the label of a note -/
def labD (d : PyData) : Bool := PyData.eqv d (.str "") || nameD d
def spNoteInit (K : PySem.W.Frag) (C CR : Addr) : Sp := fun vs H Q E => ∃ (x dx : Addr) (v u : V) (d e : PyData), vs = [.ref x, v, u] ∧ H x = some (.ins C dx []) ∧ Dp K H v d ∧ dlen d ∧ Dp K H u e ∧ dlen e ∧ SeqAt.shaped e = true ∧
  (nameD d = true → labD e = true → ∀ H', KpI x H H' → Mo H H' → H' x = some (insNote C dx v u) → Q .non H') ∧ (nameD d = false → RaiseW CR H E (.str "counter")) ∧ (nameD d = true → labD e = false → RaiseW CR H E (.str "label"))
theorem okNoteInit (T : TNote K mg) (N : TNeed K mg) : FnOk P w K mg base (L2N.CX P w) 4 T.fI T.fd ["self", "counter", "label"] (spNoteInit K T.C N.IR.C) := by
  refine T.F.ok scNoteInit (fun vs H Q E h => ?_) (fun cdv A outer s H vs Q E hr h => ?_)
  · obtain ⟨x, dx, v, u, d, e, rfl, _⟩ := h
    rfl
  · obtain ⟨x, dx, v, u, d, e, rfl, hx, hd, hl, he, hl2, hsh, q1, q2, q3⟩ := h
    refine ⟨_, pss_cons (ps_expr (pe_callS (okNeed N) hr rfl N.need.m N.need.F.kp N.need.b (fun σ => L2N.passAt (L2N.takes_of rfl rfl rfl rfl) σ) (pa_cons (pv 1) (pa_cons pe_str pa_nil))))
      (pss_cons (ps_if (pt_cmpR (op_neD hr.units) (pv 2) pe_str (nomark _)) (pss_one (ps_expr (pe_callS (okNeed N) hr rfl N.need.m N.need.F.kp N.need.b (fun σ => L2N.passAt (L2N.takes_of rfl rfl rfl rfl) σ) (pa_cons (pv 2) (pa_cons pe_str pa_nil))))) pss_nil)
      (pss_cons (ps_fld (pv 0) pe_str rfl) (pss_cons (ps_fld (pv 0) (pv 1) rfl) (pss_one (ps_fld (pv 0) (pv 2) rfl))))), ?_⟩
    refine ⟨_, rfl, v, _, d, rfl, hd, hl, fun hn H1 hs hm => ?_, fun hn => q2 hn⟩
    refine ⟨_, rfl, e, .str "", dp_same hs e u he, .str "", hsh, (by decide +kernel), _, rfl, ?_⟩
    have fin : ∀ (H2 : Hp) (o1 o2 : HO), labD e = true → Same H H2 → Mo H H2 → Q .non (upd (upd (upd H2 x o1) x o2) x (insNote T.C dx v u)) := fun H2 o1 o2 hlab hs2 hm2 => q1 hn hlab _ (fun b o eb n => by
      rw [upd_ne n, upd_ne n, upd_ne n]
      exact hs2 b o eb) (hm2.trans (Mo.upd.trans (Mo.upd.trans Mo.upd))) upd_same
    cases h1 : PyData.eqv e (.str "") with
    | true =>
      refine iteF ?_
      have hlab : labD e = true := by unfold labD; rw [h1]; rfl
      refine ⟨_, rfl, x, T.C, dx, [], rfl, hs x _ hx, T.cl, T.noW, (by show 0 < 1000; decide), _, rfl, _, rfl, x, T.C, dx, _, rfl, upd_same, T.cl, T.noC, (by show 1 < 1000; decide), _, rfl, _, rfl, x, T.C, dx, _, rfl, upd_same, T.cl, T.noL, ?_, ?_⟩
      · exact small2
      · exact fin H1 _ _ hlab hs hm
    | false =>
      refine iteT ?_
      refine ⟨_, rfl, u, _, e, rfl, dp_same hs e u he, hl2, fun hn2 H2 hs2 hm2 => ?_, fun hn2 => ?_⟩
      · have hlab : labD e = true := by unfold labD; rw [hn2, Bool.or_true]
        refine ⟨_, rfl, x, T.C, dx, [], rfl, hs2 x _ (hs x _ hx), T.cl, T.noW, (by show 0 < 1000; decide), _, rfl, _, rfl, x, T.C, dx, _, rfl, upd_same, T.cl, T.noC, (by show 1 < 1000; decide), _, rfl, _, rfl, x, T.C, dx, _, rfl, upd_same, T.cl, T.noL, ?_, ?_⟩
        · exact small2
        · exact fin H2 _ _ hlab (hs.trans hs2) (hm.trans hm2)
      · have hlab : labD e = false := by unfold labD; rw [h1, hn2]; rfl
        exact (q3 hn hlab).back hs hm
abbrev sSkipInit : Stmt := inClass (top 24) 0
theorem scSkipInit : FnScope ["self", "counter", "by"] ["self", "counter", "by"] (defScope sSkipInit) := ⟨rfl, rfl, rfl, by decide +kernel, rfl, by decide +kernel, by decide +kernel⟩
structure TSkip (K : PySem.W.Frag) (mg : Str → Option Value) : Type extends TCls K mg "Skip" "Skip.__init__" sSkipInit ["self", "counter", "by"] where
  noC : NoAttr K C "counter"
  noF : NoAttr K C "by"
def insSkip (C dx : Addr) (v u : V) : HO := .ins C dx (putF "by" u (putF "counter" v (putF "word" (.str "skip") [])))
def skipD (d : PyData) : Bool := numD d && (match d with | .int i => decide (i ≠ 0) | _ => false)
def spSkipInit (K : PySem.W.Frag) (C CR : Addr) : Sp := fun vs H Q E => ∃ (x dx : Addr) (v u : V) (d e : PyData), vs = [.ref x, v, u] ∧ H x = some (.ins C dx []) ∧ Dp K H v d ∧ dlen d ∧ Dp K H u e ∧
  (nameD d = true → skipD e = true → ∀ H', KpI x H H' → Mo H H' → H' x = some (insSkip C dx v u) → Q .non H') ∧ (nameD d = false → RaiseW CR H E (.str "counter")) ∧ (nameD d = true → skipD e = false → RaiseW CR H E (.str "by"))
theorem okSkipInit (T : TSkip K mg) (N : TNeed K mg) : FnOk P w K mg base (L2N.CX P w) 4 T.fI T.fd ["self", "counter", "by"] (spSkipInit K T.C N.IR.C) := by
  refine (funD T.F).ok scSkipInit (fun vs H Q E h => ?_) (fun cdv A outer s H vs Q E hr h => ?_)
  · obtain ⟨x, dx, v, u, d, e, rfl, _⟩ := h
    rfl
  · obtain ⟨x, dx, v, u, d, e, rfl, hx, hd, hl, he, q1, q2, q3⟩ := h
    refine ⟨_, pss_cons (ps_expr (pe_callS (okNeed N) hr rfl N.need.m N.need.F.kp N.need.b (fun σ => L2N.passAt (L2N.takes_of rfl rfl rfl rfl) σ) (pa_cons (pv 1) (pa_cons pe_str pa_nil))))
      (pss_cons (ps_if (PW.pt (pw_or (pt_not (pt_val (pe_call N.okNumber (hr.mono (by decide)) rfl N.isNumber.m N.isNumber.F.kp N.isNumber.b .nil pass0 (pa_cons (pv 2) pa_nil)))) (pw_or1 (pt_cmpR op_eq (pv 2) pe_int (nomark _)))))
        (pss_one (L2N.ps_raise rfl (L2N.takes_of rfl rfl rfl rfl) (pmk_oexN N.IR.O N.IR.iC N.IR.tI (okIRInit N.IR) (hr.mono (by decide)) N.IR.b pass0 rfl N.IR.m (pa_cons pe_str pa_nil)))) pss_nil)
      (pss_cons (ps_fld (pv 0) pe_str rfl) (pss_cons (ps_fld (pv 0) (pv 1) rfl) (pss_one (ps_fld (pv 0) (pv 2) rfl))))), ?_⟩
    refine ⟨_, rfl, v, _, d, rfl, hd, hl, fun hn H1 hs hm => ?_, fun hn => q2 hn⟩
    have he1 := dp_same hs e u he
    have raises : skipD e = false → ∀ a, H1 a = none → ∀ dx2, (upd H1 a (exo a N.IR.C none)) dx2 = none → dx2 ≠ a → _ := fun hf a ha dx2 h1 h2 => ir_made hs hm (q3 hn hf) ha dx2 h1 h2
    refine ⟨_, rfl, u, e, rfl, he1, ?_⟩
    cases h1 : numD e with
    | false =>
      have hg : skipD e = false := by unfold skipD; rw [h1]; rfl
      refine ⟨_, rfl, ?_⟩
      refine iteT ?_
      refine iteT ?_
      refine ⟨(by show 1 ≤ 1000; decide), fun a ha => ⟨a, N.IR.C, _, rfl, upd_same, N.IR.O, N.IR.noF, fun dx2 h1 h2 => ?_⟩⟩
      have hd1 : H1 dx2 = none := by rw [upd_ne h2] at h1; exact h1
      exact ⟨rfl, dx2, _, upd_same, by rw [upd_ne h2, upd_same], hd1, raises hg a ha dx2 h1 h2⟩
    | true =>
      refine ⟨_, rfl, ?_⟩
      refine iteF ?_
      obtain ⟨i, rfl⟩ : ∃ i : Int, e = .int i := by
        cases e <;> first | exact ⟨_, rfl⟩ | (exact absurd h1 (by decide)) | cases h1
      cases he1
      refine ⟨_, rfl, rfl, _, rfl, ?_⟩
      refine ite2 (fun hz => ?_) (fun hz => ?_)
      · have hz2 : V.int i = V.int 0 := of_decide_eq_true hz
        have hg : skipD (.int i) = false := by
          cases hz2
          rfl
        refine ⟨(by show 1 ≤ 1000; decide), fun a ha => ⟨a, N.IR.C, _, rfl, upd_same, N.IR.O, N.IR.noF, fun dx2 h1 h2 => ?_⟩⟩
        have hd1 : H1 dx2 = none := by rw [upd_ne h2] at h1; exact h1
        exact ⟨rfl, dx2, _, upd_same, by rw [upd_ne h2, upd_same], hd1, raises hg a ha dx2 h1 h2⟩
      · have hz2 : ¬ V.int i = V.int 0 := fun z => hz (decide_eq_true z)
        have hg : skipD (.int i) = true := by
          unfold skipD
          rw [h1]
          exact decide_eq_true (fun z => hz2 (by cases z; rfl))
        refine ⟨_, rfl, x, T.C, dx, [], rfl, hs x _ hx, T.cl, T.noW, (by show 0 < 1000; decide), _, rfl, _, rfl, x, T.C, dx, _, rfl, upd_same, T.cl, T.noC, (by show 1 < 1000; decide), _, rfl, _, rfl, x, T.C, dx, _, rfl, upd_same, T.cl, T.noF, small2, ?_⟩
        refine q1 hn hg _ (fun b o eb n => ?_) (hm.trans (Mo.upd.trans (Mo.upd.trans Mo.upd))) upd_same
        rw [upd_ne n, upd_ne n, upd_ne n]
        exact hs b o eb
abbrev sSetInit : Stmt := inClass (top 25) 0
theorem scSetInit : FnScope ["self", "counter", "to"] ["self", "counter", "to"] (defScope sSetInit) := ⟨rfl, rfl, rfl, by decide +kernel, rfl, by decide +kernel, by decide +kernel⟩
structure TSet (K : PySem.W.Frag) (mg : Str → Option Value) : Type extends TCls K mg "Set" "Set.__init__" sSetInit ["self", "counter", "to"] where
  noC : NoAttr K C "counter"
  noF : NoAttr K C "to"
def insSet (C dx : Addr) (v u : V) : HO := .ins C dx (putF "to" u (putF "counter" v (putF "word" (.str "set") [])))
def setD (d : PyData) : Bool := numD d
def spSetInit (K : PySem.W.Frag) (C CR : Addr) : Sp := fun vs H Q E => ∃ (x dx : Addr) (v u : V) (d e : PyData), vs = [.ref x, v, u] ∧ H x = some (.ins C dx []) ∧ Dp K H v d ∧ dlen d ∧ Dp K H u e ∧
  (nameD d = true → setD e = true → ∀ H', KpI x H H' → Mo H H' → H' x = some (insSet C dx v u) → Q .non H') ∧ (nameD d = false → RaiseW CR H E (.str "counter")) ∧ (nameD d = true → setD e = false → RaiseW CR H E (.str "to"))
theorem okSetInit (T : TSet K mg) (N : TNeed K mg) : FnOk P w K mg base (L2N.CX P w) 4 T.fI T.fd ["self", "counter", "to"] (spSetInit K T.C N.IR.C) := by
  refine (funD T.F).ok scSetInit (fun vs H Q E h => ?_) (fun cdv A outer s H vs Q E hr h => ?_)
  · obtain ⟨x, dx, v, u, d, e, rfl, _⟩ := h
    rfl
  · obtain ⟨x, dx, v, u, d, e, rfl, hx, hd, hl, he, q1, q2, q3⟩ := h
    refine ⟨_, pss_cons (ps_expr (pe_callS (okNeed N) hr rfl N.need.m N.need.F.kp N.need.b (fun σ => L2N.passAt (L2N.takes_of rfl rfl rfl rfl) σ) (pa_cons (pv 1) (pa_cons pe_str pa_nil))))
      (pss_cons (ps_if ((pt_not (pt_val (pe_call N.okNumber (hr.mono (by decide)) rfl N.isNumber.m N.isNumber.F.kp N.isNumber.b .nil pass0 (pa_cons (pv 2) pa_nil)))))
        (pss_one (L2N.ps_raise rfl (L2N.takes_of rfl rfl rfl rfl) (pmk_oexN N.IR.O N.IR.iC N.IR.tI (okIRInit N.IR) (hr.mono (by decide)) N.IR.b pass0 rfl N.IR.m (pa_cons pe_str pa_nil)))) pss_nil)
      (pss_cons (ps_fld (pv 0) pe_str rfl) (pss_cons (ps_fld (pv 0) (pv 1) rfl) (pss_one (ps_fld (pv 0) (pv 2) rfl))))), ?_⟩
    refine ⟨_, rfl, v, _, d, rfl, hd, hl, fun hn H1 hs hm => ?_, fun hn => q2 hn⟩
    have he1 := dp_same hs e u he
    have raises : setD e = false → ∀ a, H1 a = none → ∀ dx2, (upd H1 a (exo a N.IR.C none)) dx2 = none → dx2 ≠ a → _ := fun hf a ha dx2 h1 h2 => ir_made hs hm (q3 hn hf) ha dx2 h1 h2
    refine ⟨_, rfl, u, e, rfl, he1, ?_⟩
    cases hg : setD e with
    | true =>
      have hg2 : numD e = true := hg
      refine ⟨_, by rw [hg2], ?_⟩
      refine iteF ?_
      refine ⟨_, rfl, x, T.C, dx, [], rfl, hs x _ hx, T.cl, T.noW, (by show 0 < 1000; decide), _, rfl, _, rfl, x, T.C, dx, _, rfl, upd_same, T.cl, T.noC, (by show 1 < 1000; decide), _, rfl, _, rfl, x, T.C, dx, _, rfl, upd_same, T.cl, T.noF, small2, ?_⟩
      refine q1 hn hg _ (fun b o eb n => ?_) (hm.trans (Mo.upd.trans (Mo.upd.trans Mo.upd))) upd_same
      rw [upd_ne n, upd_ne n, upd_ne n]
      exact hs b o eb
    | false =>
      have hg2 : numD e = false := hg
      refine ⟨_, by rw [hg2], ?_⟩
      refine iteT ?_
      refine ⟨(by show 1 ≤ 1000; decide), fun a ha => ⟨a, N.IR.C, _, rfl, upd_same, N.IR.O, N.IR.noF, fun dx2 h1 h2 => ?_⟩⟩
      have hd1 : H1 dx2 = none := by rw [upd_ne h2] at h1; exact h1
      exact ⟨rfl, dx2, _, upd_same, by rw [upd_ne h2, upd_same], hd1, raises hg a ha dx2 h1 h2⟩
end
end Pn

namespace Pn
open PySem L2
section
variable {X : Cx} {CX : CXT} {k : Nat} {f C : Addr} {fd : FuncData} {ps : List Str} {sp : Sp} {E : XK}
/-- the run of a def within a deeper around -/
theorem run_fnA {A' : Around} {pins : List (Addr × Obj)} {σ : L2.St} {H : Hp} {s : Shared} {Q : VK} {us : List Value} {vs : List V} (F : FnOk X.prog X.w X.K X.mg X.base CX k f fd ps sp) (hr : Room k A') (e0 : Env0 X.prog X.w X.K X.mg X.base A' X.stack s H) (hb : Binds X.K fd ps []) (hx : Passes CX X E)
    (I : Inv X pins σ H s) (r : Vals vs us) (h : sp vs H Q E) : wpAny (model X.prog X.w) A' (call (.ref f) us) (EP X pins σ Q) X.xe s := by
  have hl : (us ++ []).length = ps.length := by rw [List.append_nil, ← r.length]; exact F.len _ _ _ _ h
  have hbb := hb s us I.kIn hl
  rw [List.append_nil] at hbb
  refine wpAny_call (codeAny_mono (F.run A' X.stack s H ⟨us, []⟩ us vs Q E hr e0 hbb r h) fun x s' hq => ?_)
  cases x with
  | error e => exact hx pins σ H s e s' I hq
  | ok fl =>
    cases fl with
    | ret u => exact I.after hq
    | next => exact hq.elim
    | brk => exact hq.elim
    | cont => exact hq.elim
/-- str(x), x an instance whose class has a __str__ of its own -/
def rStrIns (K : PySem.W.Frag) (f : Addr) (sp : Sp) (E : XK) : List V → Hp → VK → Prop := fun xs H Q => ∃ (a C dx : Addr) (fs : List (Str × V)), xs = [.ref a] ∧ H a = some (.ins C dx fs) ∧ PySem.W.findIn K (.ref C) "__str__" = some (some (.ref f)) ∧ sp [.ref a] H (fun v H' => ∃ z, v = .str z ∧ Q (.str z) H') E
theorem call_strIns (F : FnOk X.prog X.w X.K X.mg X.base CX k f fd ps sp) (hf : PySem.W.isFn X.K (.ref f) = true) (hr : Room (k + 2) X.A) (hb : Binds X.K fd ps []) (hx : Passes CX X E) : CallR X (.type "str") (rStrIns X.K f sp E) := by
  intro pins s σ H xs us Q I r h
  obtain ⟨a, C, dx, fs, rfl, ha, hs, q⟩ := h
  obtain ⟨u, rfl, ru⟩ := r.one
  obtain rfl : u = Value.ref a := ru
  obtain ⟨mA, O, _⟩ := ins_get I.hok ha
  obtain ⟨od, J, _⟩ := O.look
  have hr2 : Room k X.A.in1.in1 := (show Room (k + 1) X.A.in1 from Room.in1 hr).in1
  refine PySem.W.kso_call (by have := hr2.un; omega) I.kIn J hs hf (wpAny_mono (run_fnA F hr2 I.env0.in1.in1 hb hx I (.cons (show RelV (.ref a) (Value.ref a) from rfl) .nil) q) (fun v s' z => ?_) fun _ _ x => x)
  obtain ⟨z', H', I', rz, t, ez, qz⟩ := z
  subst ez
  obtain ⟨tk, e⟩ := (show ∃ tk, v = Value.str t tk from rz)
  cases e
  exact ⟨.str t, H', I', ⟨tk, rfl⟩, qz⟩
end
end Pn

namespace Pn
open PySem L2 TL
/-! ### rows as data -/
inductive RowD where
  | note (c l : Str) | skip (c : Str) (n : Nat) | set (c : Str) (n : Nat) | keep (c : Str) | back (c : Str) | ref (l : Str) | put (p : Str) | opn (x : Str)
structure TRows (K : PySem.W.Frag) (mg : Str → Option Value) : Type where
  N : TNeed K mg
  note : TNote K mg
  skip : TSkip K mg
  set : TSet K mg
  keep : TKeep K mg
  back : TBack K mg
  ref : TRef K mg
  put : TPut K mg
  open_ : TOpen K mg
def numStr (n : Nat) : Str := Str.ofString (toString ((n : Nat) : Int))
/-- the words of a row's text -/
def rowWords : RowD → List Str
  | .note c l => if l = "" then ["note", c] else ["note", c, l]
  | .skip c n => ["skip", c, numStr n]
  | .set c n => ["set", c, numStr n]
  | .keep c => ["keep", c]
  | .back c => ["back", c]
  | .ref l => ["ref", l]
  | .put p => ["put", p]
  | .opn x => ["open", x]
def rowText (r : RowD) : Str := Txt.join " " (rowWords r)
/-- how large the texts and numbers of a row are -/
def rowSmall : RowD → Prop
  | .note c l => c.length ≤ 100 ∧ l.length ≤ 100
  | .skip c n => c.length ≤ 100 ∧ n < 10 ^ 20
  | .set c n => c.length ≤ 100 ∧ n < 10 ^ 20
  | .keep c => c.length ≤ 100
  | .back c => c.length ≤ 100
  | .ref c => c.length ≤ 100
  | .put c => c.length ≤ 100
  | .opn c => c.length ≤ 100
theorem join2 (a b : Str) {ab : Str} (h : tl ab = tl a ++ [32]) : Str.empty ++ ab ++ b = Txt.join " " [a, b] := by
  rw [join_eq]
  apply ext_tl
  rw [tl_join]
  show tl (Str.empty ++ ab ++ b) = tl a ++ (tl (" " : Str) ++ tl b)
  rw [tl_append, tl_append, h]
  show [] ++ (tl a ++ [32]) ++ tl b = tl a ++ ([32] ++ tl b)
  simp
theorem join3 (a b c : Str) {ab s : Str} (h : tl ab = tl a ++ [32]) (hs : s = " ") : Str.empty ++ ab ++ b ++ s ++ c = Txt.join " " [a, b, c] := by
  subst hs
  rw [join_eq]
  apply ext_tl
  rw [tl_join]
  show tl (Str.empty ++ ab ++ b ++ (" " : Str) ++ c) = tl a ++ (tl (" " : Str) ++ (tl b ++ (tl (" " : Str) ++ tl c)))
  rw [tl_append, tl_append, tl_append, tl_append, h]
  show [] ++ (tl a ++ [32]) ++ tl b ++ [32] ++ tl c = tl a ++ ([32] ++ (tl b ++ ([32] ++ tl c)))
  simp
section
variable {P : Program} {w : World} {K : PySem.W.Frag} {mg : Str → Option Value} {base : Heap}
/-- a row's instance -/
def insRow (T : TRows K mg) (dx : Addr) : RowD → HO
  | .note c l => insNote T.note.C dx (.str c) (.str l)
  | .skip c n => insSkip T.skip.C dx (.str c) (.int (n : Int))
  | .set c n => insSet T.set.C dx (.str c) (.int (n : Int))
  | .keep c => insKeep T.keep.C dx (.str c)
  | .back c => insBack T.back.C dx (.str c)
  | .ref c => insRef T.ref.C dx (.str c)
  | .put c => insPut T.put.C dx (.str c)
  | .opn c => insOpen T.open_.C dx (.str c)
def RowAt (T : TRows K mg) (H : Hp) (a : Addr) (r : RowD) : Prop := ∃ dx, H a = some (insRow T dx r)
/-- a method of one argument of an own class -/
structure TStr (K : PySem.W.Frag) (C : Addr) (qual : Str) (st : Stmt) : Type where
  f : Addr
  fd : FuncData
  F : Fun K "__str__" qual st f fd
  b : Binds K fd ["self"] []
  hs : PySem.W.findIn K (.ref C) "__str__" = some (some (.ref f))
  hf : PySem.W.isFn K (.ref f) = true
abbrev sNoteStr : Stmt := inClass (top 23) 1
theorem scNoteStr : FnScope ["self"] ["self"] (defScope sNoteStr) := ⟨rfl, rfl, rfl, by decide +kernel, rfl, by decide +kernel, by decide +kernel⟩
abbrev sSkipStr : Stmt := inClass (top 24) 1
theorem scSkipStr : FnScope ["self"] ["self"] (defScope sSkipStr) := ⟨rfl, rfl, rfl, by decide +kernel, rfl, by decide +kernel, by decide +kernel⟩
abbrev sSetStr : Stmt := inClass (top 25) 1
theorem scSetStr : FnScope ["self"] ["self"] (defScope sSetStr) := ⟨rfl, rfl, rfl, by decide +kernel, rfl, by decide +kernel, by decide +kernel⟩
abbrev sKeepStr : Stmt := inClass (top 26) 1
theorem scKeepStr : FnScope ["self"] ["self"] (defScope sKeepStr) := ⟨rfl, rfl, rfl, by decide +kernel, rfl, by decide +kernel, by decide +kernel⟩
theorem fld_keep {v : V} : (putF "counter" v (putF "word" (.str "keep") [])).lookup ("counter" : Str) = some v := by
  rw [lookup_putF, if_pos rfl]
def spKeepStr (T : TRows K mg) : Sp := fun vs H Q _ => ∃ (a : Addr) (c : Str), vs = [.ref a] ∧ RowAt T H a (.keep c) ∧ c.length ≤ 100 ∧ Q (.str (rowText (.keep c))) H
theorem okKeepStr (T : TRows K mg) (S : TStr K T.keep.C "Keep.__str__" sKeepStr) : FnOk P w K mg base CX0 1 S.f S.fd ["self"] (spKeepStr T) := by
  refine S.F.ok scKeepStr (fun vs H Q E h => ?_) (fun cdv A outer s H vs Q E hr h => ?_)
  · obtain ⟨a, c, rfl, _⟩ := h
    rfl
  · obtain ⟨a, c, rfl, ⟨dx, ha⟩, hl, q⟩ := h
    refine ⟨_, pss_one (ps_ret (pe_joined (.cons pe_str (.cons (pe_fmt (pe_fld (pv 0) rfl)) .nil)))), ?_⟩
    refine ⟨_, rfl, (by decide +kernel), _, rfl, a, T.keep.C, dx, _, .str c, rfl, ha, T.keep.cl, T.keep.noF, fld_keep, .inl ⟨c, rfl, Nat.le_trans hl (by decide), c, rfl, ?_, ?_⟩⟩
    · rw [strLen_append]
      exact Nat.le_trans (Nat.add_le_add_left hl _) (by decide +kernel)
    · rw [join2 "keep" c (by decide +kernel)]
      exact q
abbrev sBackStr : Stmt := inClass (top 27) 1
theorem scBackStr : FnScope ["self"] ["self"] (defScope sBackStr) := ⟨rfl, rfl, rfl, by decide +kernel, rfl, by decide +kernel, by decide +kernel⟩
theorem fld_back {v : V} : (putF "counter" v (putF "word" (.str "back") [])).lookup ("counter" : Str) = some v := by
  rw [lookup_putF, if_pos rfl]
def spBackStr (T : TRows K mg) : Sp := fun vs H Q _ => ∃ (a : Addr) (c : Str), vs = [.ref a] ∧ RowAt T H a (.back c) ∧ c.length ≤ 100 ∧ Q (.str (rowText (.back c))) H
theorem okBackStr (T : TRows K mg) (S : TStr K T.back.C "Back.__str__" sBackStr) : FnOk P w K mg base CX0 1 S.f S.fd ["self"] (spBackStr T) := by
  refine S.F.ok scBackStr (fun vs H Q E h => ?_) (fun cdv A outer s H vs Q E hr h => ?_)
  · obtain ⟨a, c, rfl, _⟩ := h
    rfl
  · obtain ⟨a, c, rfl, ⟨dx, ha⟩, hl, q⟩ := h
    refine ⟨_, pss_one (ps_ret (pe_joined (.cons pe_str (.cons (pe_fmt (pe_fld (pv 0) rfl)) .nil)))), ?_⟩
    refine ⟨_, rfl, (by decide +kernel), _, rfl, a, T.back.C, dx, _, .str c, rfl, ha, T.back.cl, T.back.noF, fld_back, .inl ⟨c, rfl, Nat.le_trans hl (by decide), c, rfl, ?_, ?_⟩⟩
    · rw [strLen_append]
      exact Nat.le_trans (Nat.add_le_add_left hl _) (by decide +kernel)
    · rw [join2 "back" c (by decide +kernel)]
      exact q
abbrev sRefStr : Stmt := inClass (top 28) 1
theorem scRefStr : FnScope ["self"] ["self"] (defScope sRefStr) := ⟨rfl, rfl, rfl, by decide +kernel, rfl, by decide +kernel, by decide +kernel⟩
theorem fld_ref {v : V} : (putF "label" v (putF "word" (.str "ref") [])).lookup ("label" : Str) = some v := by
  rw [lookup_putF, if_pos rfl]
def spRefStr (T : TRows K mg) : Sp := fun vs H Q _ => ∃ (a : Addr) (c : Str), vs = [.ref a] ∧ RowAt T H a (.ref c) ∧ c.length ≤ 100 ∧ Q (.str (rowText (.ref c))) H
theorem okRefStr (T : TRows K mg) (S : TStr K T.ref.C "Ref.__str__" sRefStr) : FnOk P w K mg base CX0 1 S.f S.fd ["self"] (spRefStr T) := by
  refine S.F.ok scRefStr (fun vs H Q E h => ?_) (fun cdv A outer s H vs Q E hr h => ?_)
  · obtain ⟨a, c, rfl, _⟩ := h
    rfl
  · obtain ⟨a, c, rfl, ⟨dx, ha⟩, hl, q⟩ := h
    refine ⟨_, pss_one (ps_ret (pe_joined (.cons pe_str (.cons (pe_fmt (pe_fld (pv 0) rfl)) .nil)))), ?_⟩
    refine ⟨_, rfl, (by decide +kernel), _, rfl, a, T.ref.C, dx, _, .str c, rfl, ha, T.ref.cl, T.ref.noF, fld_ref, .inl ⟨c, rfl, Nat.le_trans hl (by decide), c, rfl, ?_, ?_⟩⟩
    · rw [strLen_append]
      exact Nat.le_trans (Nat.add_le_add_left hl _) (by decide +kernel)
    · rw [join2 "ref" c (by decide +kernel)]
      exact q
abbrev sPutStr : Stmt := inClass (top 29) 1
theorem scPutStr : FnScope ["self"] ["self"] (defScope sPutStr) := ⟨rfl, rfl, rfl, by decide +kernel, rfl, by decide +kernel, by decide +kernel⟩
theorem fld_put {v : V} : (putF "part" v (putF "word" (.str "put") [])).lookup ("part" : Str) = some v := by
  rw [lookup_putF, if_pos rfl]
def spPutStr (T : TRows K mg) : Sp := fun vs H Q _ => ∃ (a : Addr) (c : Str), vs = [.ref a] ∧ RowAt T H a (.put c) ∧ c.length ≤ 100 ∧ Q (.str (rowText (.put c))) H
theorem okPutStr (T : TRows K mg) (S : TStr K T.put.C "Put.__str__" sPutStr) : FnOk P w K mg base CX0 1 S.f S.fd ["self"] (spPutStr T) := by
  refine S.F.ok scPutStr (fun vs H Q E h => ?_) (fun cdv A outer s H vs Q E hr h => ?_)
  · obtain ⟨a, c, rfl, _⟩ := h
    rfl
  · obtain ⟨a, c, rfl, ⟨dx, ha⟩, hl, q⟩ := h
    refine ⟨_, pss_one (ps_ret (pe_joined (.cons pe_str (.cons (pe_fmt (pe_fld (pv 0) rfl)) .nil)))), ?_⟩
    refine ⟨_, rfl, (by decide +kernel), _, rfl, a, T.put.C, dx, _, .str c, rfl, ha, T.put.cl, T.put.noF, fld_put, .inl ⟨c, rfl, Nat.le_trans hl (by decide), c, rfl, ?_, ?_⟩⟩
    · rw [strLen_append]
      exact Nat.le_trans (Nat.add_le_add_left hl _) (by decide +kernel)
    · rw [join2 "put" c (by decide +kernel)]
      exact q
abbrev sOpenStr : Stmt := inClass (top 30) 1
theorem scOpenStr : FnScope ["self"] ["self"] (defScope sOpenStr) := ⟨rfl, rfl, rfl, by decide +kernel, rfl, by decide +kernel, by decide +kernel⟩
theorem fld_open {v : V} : (putF "name" v (putF "word" (.str "open") [])).lookup ("name" : Str) = some v := by
  rw [lookup_putF, if_pos rfl]
def spOpenStr (T : TRows K mg) : Sp := fun vs H Q _ => ∃ (a : Addr) (c : Str), vs = [.ref a] ∧ RowAt T H a (.opn c) ∧ c.length ≤ 100 ∧ Q (.str (rowText (.opn c))) H
theorem okOpenStr (T : TRows K mg) (S : TStr K T.open_.C "Open.__str__" sOpenStr) : FnOk P w K mg base CX0 1 S.f S.fd ["self"] (spOpenStr T) := by
  refine S.F.ok scOpenStr (fun vs H Q E h => ?_) (fun cdv A outer s H vs Q E hr h => ?_)
  · obtain ⟨a, c, rfl, _⟩ := h
    rfl
  · obtain ⟨a, c, rfl, ⟨dx, ha⟩, hl, q⟩ := h
    refine ⟨_, pss_one (ps_ret (pe_joined (.cons pe_str (.cons (pe_fmt (pe_fld (pv 0) rfl)) .nil)))), ?_⟩
    refine ⟨_, rfl, (by decide +kernel), _, rfl, a, T.open_.C, dx, _, .str c, rfl, ha, T.open_.cl, T.open_.noF, fld_open, .inl ⟨c, rfl, Nat.le_trans hl (by decide), c, rfl, ?_, ?_⟩⟩
    · rw [strLen_append]
      exact Nat.le_trans (Nat.add_le_add_left hl _) (by decide +kernel)
    · rw [join2 "open" c (by decide +kernel)]
      exact q
theorem numStr_len {n : Nat} (h : n < 10 ^ 20) : (numStr n).length ≤ 20 := by
  rw [len_tl]
  show (tl (Str.ofString (toString ((n : Nat) : Int)))).length ≤ 20
  rw [tl_num]
  exact numL_len (by decide) h
theorem log_small {n : Nat} (h : n < 10 ^ 20) : (n : Int).natAbs.log2 < 1920 := by
  show n.log2 < 1920
  have : n < 2 ^ 1919 := Nat.lt_trans h (by decide +kernel)
  exact Nat.lt_of_lt_of_le (PySem.Flt.log2_lt_of (k := 1919) (by decide) this) (by decide)
def spNoteStr (T : TRows K mg) : Sp := fun vs H Q _ => ∃ (a : Addr) (c l : Str), vs = [.ref a] ∧ RowAt T H a (.note c l) ∧ c.length ≤ 100 ∧ l.length ≤ 100 ∧ Q (.str (rowText (.note c l))) H
theorem note_counter {c l : V} : (putF "label" l (putF "counter" c (putF "word" (.str "note") []))).lookup ("counter" : Str) = some c := by
  rw [lookup_putF, if_neg (by decide +kernel), lookup_putF, if_pos rfl]
theorem note_label {c l : V} : (putF "label" l (putF "counter" c (putF "word" (.str "note") []))).lookup ("label" : Str) = some l := by
  rw [lookup_putF, if_pos rfl]
theorem len3 {a b c : Str} (ha : a.length ≤ 200) (hb : b.length ≤ 200) (hc : c.length ≤ 200) : (((Str.empty ++ a) ++ b) ++ c).length ≤ sizeLine := by
  rw [strLen_append, strLen_append, strLen_append]
  exact Nat.le_trans (show _ ≤ 600 by have : (Str.empty : Str).length = 0 := rfl; omega) (by decide)
theorem len4 {a b c d : Str} (ha : a.length ≤ 200) (hb : b.length ≤ 200) (hc : c.length ≤ 200) (hd : d.length ≤ 200) : ((((Str.empty ++ a) ++ b) ++ c) ++ d).length ≤ sizeLine := by
  rw [strLen_append, strLen_append, strLen_append, strLen_append]
  exact Nat.le_trans (show _ ≤ 800 by have : (Str.empty : Str).length = 0 := rfl; omega) (by decide)
theorem len2 {a b : Str} (ha : a.length ≤ 200) (hb : b.length ≤ 200) : ((Str.empty ++ a) ++ b).length ≤ sizeLine := by
  rw [strLen_append, strLen_append]
  exact Nat.le_trans (show _ ≤ 400 by have : (Str.empty : Str).length = 0 := rfl; omega) (by decide)
theorem okNoteStr (T : TRows K mg) (S : TStr K T.note.C "Note.__str__" sNoteStr) : FnOk P w K mg base CX0 1 S.f S.fd ["self"] (spNoteStr T) := by
  refine S.F.ok scNoteStr (fun vs H Q E h => ?_) (fun cdv A outer s H vs Q E hr h => ?_)
  · obtain ⟨a, c, l, rfl, _⟩ := h
    rfl
  · obtain ⟨a, c, l, rfl, ⟨dx, ha⟩, hc, hl, q⟩ := h
    refine ⟨_, pss_cons (ps_if (pt_cmpR op_eq (pe_fld (pv 0) rfl) pe_str (nomark _)) (pss_one (ps_ret (pe_joined (.cons pe_str (.cons (pe_fmt (pe_fld (pv 0) rfl)) .nil))))) pss_nil)
      (pss_one (ps_ret (pe_joined (.cons pe_str (.cons (pe_fmt (pe_fld (pv 0) rfl)) (.cons pe_str (.cons (pe_fmt (pe_fld (pv 0) rfl)) .nil))))))), ?_⟩
    refine ⟨_, rfl, a, T.note.C, dx, _, .str l, rfl, ha, T.note.cl, T.note.noL, note_label, rfl, _, rfl, ?_⟩
    have s5 : ("note " : Str).length ≤ 200 := by decide +kernel
    have s1 : (" " : Str).length ≤ 200 := by decide +kernel
    refine ite2 (fun hz => ?_) (fun hz => ?_)
    · have hz2 : l = "" := by
        have := of_decide_eq_true hz
        cases this
        rfl
      have hw : rowText (.note c l) = Txt.join " " ["note", c] := by
        show Txt.join " " (if l = "" then ["note", c] else ["note", c, l]) = _
        rw [if_pos hz2]
      rw [hw] at q
      refine ⟨_, rfl, (by decide +kernel), _, rfl, a, T.note.C, dx, _, .str c, rfl, ha, T.note.cl, T.note.noC, note_counter, .inl ⟨c, rfl, Nat.le_trans hc (by decide), c, rfl, len2 s5 (by omega), ?_⟩⟩
      rw [join2 "note" c (by decide +kernel)]
      exact q
    · have hz2 : ¬ l = "" := fun z => hz (decide_eq_true (by rw [z]))
      have hw : rowText (.note c l) = Txt.join " " ["note", c, l] := by
        show Txt.join " " (if l = "" then ["note", c] else ["note", c, l]) = _
        rw [if_neg hz2]
      rw [hw] at q
      refine ⟨_, rfl, (by decide +kernel), _, rfl, a, T.note.C, dx, _, .str c, rfl, ha, T.note.cl, T.note.noC, note_counter, .inl ⟨c, rfl, Nat.le_trans hc (by decide), c, rfl, len2 s5 (by omega), _, rfl, len3 s5 (by omega) s1, _, rfl, a, T.note.C, dx, _, .str l, rfl, ha, T.note.cl, T.note.noL, note_label, .inl ⟨l, rfl, Nat.le_trans hl (by decide), l, rfl, len4 s5 (by omega) s1 (by omega), ?_⟩⟩⟩
      rw [join3 "note" c l (by decide +kernel) rfl]
      exact q
theorem skip_counter {c l : V} : (putF "by" l (putF "counter" c (putF "word" (.str "skip") []))).lookup ("counter" : Str) = some c := by
  rw [lookup_putF, if_neg (by decide +kernel), lookup_putF, if_pos rfl]
theorem skip_num {c l : V} : (putF "by" l (putF "counter" c (putF "word" (.str "skip") []))).lookup ("by" : Str) = some l := by
  rw [lookup_putF, if_pos rfl]
def spSkipStr (T : TRows K mg) : Sp := fun vs H Q _ => ∃ (a : Addr) (c : Str) (n : Nat), vs = [.ref a] ∧ RowAt T H a (.skip c n) ∧ c.length ≤ 100 ∧ n < 10 ^ 20 ∧ Q (.str (rowText (.skip c n))) H
theorem okSkipStr (T : TRows K mg) (S : TStr K T.skip.C "Skip.__str__" sSkipStr) : FnOk P w K mg base CX0 1 S.f S.fd ["self"] (spSkipStr T) := by
  refine S.F.ok scSkipStr (fun vs H Q E h => ?_) (fun cdv A outer s H vs Q E hr h => ?_)
  · obtain ⟨a, c, n, rfl, _⟩ := h
    rfl
  · obtain ⟨a, c, n, rfl, ⟨dx, ha⟩, hc, hn, q⟩ := h
    refine ⟨_, pss_one (ps_ret (pe_joined (.cons pe_str (.cons (pe_fmt (pe_fld (pv 0) rfl)) (.cons pe_str (.cons (pe_fmt (pe_fld (pv 0) rfl)) .nil)))))), ?_⟩
    have s5 : ("skip " : Str).length ≤ 200 := by decide +kernel
    have s1 : (" " : Str).length ≤ 200 := by decide +kernel
    have sn := numStr_len hn
    refine ⟨_, rfl, (by decide +kernel), _, rfl, a, T.skip.C, dx, _, .str c, rfl, ha, T.skip.cl, T.skip.noC, skip_counter, .inl ⟨c, rfl, Nat.le_trans hc (by decide), c, rfl, len2 s5 (by omega), _, rfl, len3 s5 (by omega) s1, _, rfl, a, T.skip.C, dx, _, .int (n : Int), rfl, ha, T.skip.cl, T.skip.noF, skip_num, .inr ⟨(n : Int), rfl, log_small hn, numStr n, rfl, len4 s5 (by omega) s1 (by omega), ?_⟩⟩⟩
    rw [join3 "skip" c (numStr n) (by decide +kernel) rfl]
    exact q
theorem set_counter {c l : V} : (putF "to" l (putF "counter" c (putF "word" (.str "set") []))).lookup ("counter" : Str) = some c := by
  rw [lookup_putF, if_neg (by decide +kernel), lookup_putF, if_pos rfl]
theorem set_num {c l : V} : (putF "to" l (putF "counter" c (putF "word" (.str "set") []))).lookup ("to" : Str) = some l := by
  rw [lookup_putF, if_pos rfl]
def spSetStr (T : TRows K mg) : Sp := fun vs H Q _ => ∃ (a : Addr) (c : Str) (n : Nat), vs = [.ref a] ∧ RowAt T H a (.set c n) ∧ c.length ≤ 100 ∧ n < 10 ^ 20 ∧ Q (.str (rowText (.set c n))) H
theorem okSetStr (T : TRows K mg) (S : TStr K T.set.C "Set.__str__" sSetStr) : FnOk P w K mg base CX0 1 S.f S.fd ["self"] (spSetStr T) := by
  refine S.F.ok scSetStr (fun vs H Q E h => ?_) (fun cdv A outer s H vs Q E hr h => ?_)
  · obtain ⟨a, c, n, rfl, _⟩ := h
    rfl
  · obtain ⟨a, c, n, rfl, ⟨dx, ha⟩, hc, hn, q⟩ := h
    refine ⟨_, pss_one (ps_ret (pe_joined (.cons pe_str (.cons (pe_fmt (pe_fld (pv 0) rfl)) (.cons pe_str (.cons (pe_fmt (pe_fld (pv 0) rfl)) .nil)))))), ?_⟩
    have s5 : ("set " : Str).length ≤ 200 := by decide +kernel
    have s1 : (" " : Str).length ≤ 200 := by decide +kernel
    have sn := numStr_len hn
    refine ⟨_, rfl, (by decide +kernel), _, rfl, a, T.set.C, dx, _, .str c, rfl, ha, T.set.cl, T.set.noC, set_counter, .inl ⟨c, rfl, Nat.le_trans hc (by decide), c, rfl, len2 s5 (by omega), _, rfl, len3 s5 (by omega) s1, _, rfl, a, T.set.C, dx, _, .int (n : Int), rfl, ha, T.set.cl, T.set.noF, set_num, .inr ⟨(n : Int), rfl, log_small hn, numStr n, rfl, len4 s5 (by omega) s1 (by omega), ?_⟩⟩⟩
    rw [join3 "set" c (numStr n) (by decide +kernel) rfl]
    exact q
end
end Pn

namespace Pn
open PySem L2 TL
/-! ### read_row -/
theorem split_len {z : Str} {ws : List Str} (h : Txt.split z " " = ws) : ∀ x ∈ ws, x.length ≤ z.length ∧ ∀ c ∈ tl x, c ∈ tl z := by
  have e := PySem.StrLaws.join_split z " "
  rw [h] at e
  have key : ∀ (l : List Str) (x : Str), x ∈ l → (tl x).length ≤ (joinL (tl " ") (l.map tl)).length ∧ ∀ c ∈ tl x, c ∈ joinL (tl " ") (l.map tl) := by
    intro l
    induction l with
    | nil => intro x hx; cases hx
    | cons a r ih =>
      intro x hx
      cases r with
      | nil =>
        rw [List.mem_singleton.mp hx]
        exact ⟨Nat.le_refl _, fun c hc => hc⟩
      | cons b r =>
        rcases List.mem_cons.mp hx with rfl | hx
        · exact ⟨by show _ ≤ (tl x ++ (tl " " ++ joinL (tl " ") ((b :: r).map tl))).length; rw [List.length_append]; omega, fun c hc => List.mem_append_left _ hc⟩
        · have q := ih x hx
          refine ⟨?_, fun c hc => List.mem_append_right _ (List.mem_append_right _ (q.2 c hc))⟩
          show _ ≤ (tl a ++ (tl " " ++ joinL (tl " ") ((b :: r).map tl))).length
          rw [List.length_append, List.length_append]
          have := q.1
          omega
  intro x hx
  have q := key ws x hx
  rw [← tl_join, e] at q
  exact ⟨by rw [len_tl, len_tl]; exact q.1, q.2⟩
theorem strOk_tl {z : Str} : PyData.strOk z = true ↔ ∀ c ∈ tl z, c < 0x110000 := by
  unfold PyData.strOk
  simp only [Array.all_eq_true']
  constructor
  · intro h c hc
    exact of_decide_eq_true (h c (by simpa using hc))
  · intro h c hc
    exact decide_eq_true (h c (by simpa using hc))
theorem str_shaped {z : Str} (h : PyData.strOk z = true) : SeqAt.shaped (.str z) = true := by
  show (PyData.strOk z && decide (PyData.depth (.str z) ≤ 64)) = true
  rw [h]
  rfl
/-- len of a list or tuple, the written part by its name -/
def rLenK (K : PySem.W.Frag) : List V → Hp → VK → Prop := fun xs H Q => ∃ p ys, xs = [V.ref p] ∧ (SqL K H p ys ∨ SqT K H p ys) ∧ Q (.int ys.length) H
theorem kpi_same2 {H H1 : Hp} {x dx : Addr} {o o2 : HO} (hx : H x = none) (hdx : H dx = none) (k : KpI x (upd (upd H dx o) x o2) H1) : Same H H1 := fun b u e => by
  have n1 : b ≠ x := ne_of_none e hx
  have n2 : b ≠ dx := ne_of_none e hdx
  exact k b u (by rw [upd_ne n1, upd_ne n2]; exact e) n1
theorem ins_same2 {H : Hp} {x dx : Addr} {o o2 : HO} (hx : H x = none) (hdx : H dx = none) : Same H (upd (upd H dx o) x o2) := fun b u e => by
  rw [upd_ne (ne_of_none e hx), upd_ne (ne_of_none e hdx)]
  exact e
theorem skip_pos {n : Nat} (h : skipD (.int (n : Int)) = true) : n ≠ 0 := fun z => by
  subst z
  exact absurd h (by decide)
theorem skip_of {n : Nat} (h : n ≠ 0) : skipD (.int (n : Int)) = true := by
  show (decide ((0 : Int) ≤ (n : Int)) && decide ((n : Int) ≠ 0)) = true
  rw [decide_eq_true (show (0 : Int) ≤ (n : Int) by omega), decide_eq_true (show (n : Int) ≠ 0 by omega)]
  rfl
theorem set_of {n : Nat} : setD (.int (n : Int)) = true := decide_eq_true (show (0 : Int) ≤ (n : Int) by omega)
end Pn

namespace Pn
open PySem L2
/-- a pool of names: counters, parts, open places, labels -/
structure Pool where
  c : List Str
  p : List Str
  x : List Str
  l : List Str
def poolsD : List Pool := [⟨["c", "f", "r"], ["p", "pic", "fig", "text"], ["x", "y"], ["cat", "dog"]⟩, ⟨["a", "ab", "abc"], ["a", "aa", "ab", "b"], ["b", "bb"], ["a", "z"]⟩, ⟨["n", "nn", "m"], ["z", "y", "x", "w"], ["n", "o"], ["x", "n"]⟩]
structure Pool.Fine (d : Pool) : Prop where
  cl : d.c.length = 3
  pl : d.p.length = 4
  xl : d.x.length = 2
  ll : d.l.length = 2
  cn : d.c.Nodup
  pn : d.p.Nodup
  names : ∀ y ∈ d.c ++ d.p ++ d.x ++ d.l, nameS y = true
theorem pool_fine : ∀ d ∈ poolsD, d.Fine := fun d hd => by
  have h : ∀ d ∈ poolsD, ((decide (d.c.length = 3) && decide (d.p.length = 4) && decide (d.x.length = 2) && decide (d.l.length = 2)) && (decide d.c.Nodup && decide d.p.Nodup)) && (d.c ++ d.p ++ d.x ++ d.l).all nameS = true := List.all_eq_true.mp (by decide +kernel)
  have q := h d hd
  simp only [Bool.and_eq_true, decide_eq_true_eq] at q
  obtain ⟨⟨⟨⟨⟨q1, q2⟩, q3⟩, q4⟩, q5, q6⟩, q7⟩ := q
  exact ⟨q1, q2, q3, q4, q5, q6, List.all_eq_true.mp q7⟩
/-- a pool as it stands -/
def PoolAt (H : Hp) (a : Addr) (d : Pool) : Prop := ∃ a0 a1 a2 a3 : Addr, H a = some (.lst [.ref a0, .ref a1, .ref a2, .ref a3]) ∧ H a0 = some (.lst (d.c.map V.str)) ∧ H a1 = some (.lst (d.p.map V.str)) ∧ H a2 = some (.lst (d.x.map V.str)) ∧ H a3 = some (.lst (d.l.map V.str))
section
variable {P : Program} {w : World} {K : PySem.W.Frag} {mg : Str → Option Value} {base : Heap}
def spPools : Sp := fun vs H Q _ => ∃ b : Addr, vs = [.ref b] ∧ BoxAt H b ∧ ∀ (a : Addr) (d : Pool) (H' : Hp), d ∈ poolsD → BoxAt H' b → Kp b H H' → PoolAt (dif H H') a d → Q (.ref a) H'
end
end Pn

namespace Pn
open PySem L2
/-- counters as they stand: a list of pairs -/
def CsAt (H : Hp) (c : Addr) (cs : List (Str × Str)) : Prop := ∃ ts : List Addr, H c = some (.lst (ts.map V.ref)) ∧ Paired (fun t p => H t = some (.tup [.str p.1, .str p.2])) ts cs
/-- each upper one stands ahead -/
def TreeOk (cs : List (Str × Str)) : Prop := ∀ (i : Nat) (p : Str × Str), cs[i]? = some p → p.2 = "" ∨ p.2 ∈ (cs.take i).map (·.1)
theorem tree_snoc {cs : List (Str × Str)} {p : Str × Str} (h : TreeOk cs) (hp : p.2 = "" ∨ p.2 ∈ cs.map (·.1)) : TreeOk (cs ++ [p]) := fun i q hq => by
  by_cases hi : i < cs.length
  · rw [List.getElem?_append_left hi] at hq
    rcases h i q hq with e | e
    · exact .inl e
    · refine .inr ?_
      rw [List.take_append_of_le_length (by omega)]
      exact e
  · rw [List.getElem?_append_right (by omega)] at hq
    have h0 : i - cs.length = 0 := by
      cases h1 : i - cs.length with
      | zero => rfl
      | succ n => rw [h1] at hq; simp at hq
    rw [h0] at hq
    have e : p = q := by simpa using hq
    subst e
    rcases hp with e | e
    · exact .inl e
    · refine .inr ?_
      rw [show i = cs.length by omega, List.take_left']
      · exact e
      · rfl
theorem paired_mono {α β : Type} {R S : α → β → Prop} (h : ∀ a b, R a b → S a b) : ∀ {l : List α} {m : List β}, Paired R l m → Paired S l m
  | _, _, .nil => .nil
  | _, _, .cons a b => .cons (h _ _ a) (paired_mono h b)
theorem paired_snoc {α β : Type} {R : α → β → Prop} {x : α} {y : β} (h : R x y) : ∀ {l : List α} {m : List β}, Paired R l m → Paired R (l ++ [x]) (m ++ [y])
  | _, _, .nil => .cons h .nil
  | _, _, .cons a b => .cons a (paired_snoc h b)
theorem paired_at {α β : Type} {R : α → β → Prop} : ∀ {l : List α} {m : List β} {i : Nat} {x : α}, Paired R l m → l[i]? = some x → ∃ y, m[i]? = some y ∧ R x y
  | _, _, _, _, .nil, h => by simp at h
  | _, _, 0, _, .cons a _, h => by
    have e := Option.some.inj h
    subst e
    exact ⟨_, rfl, a⟩
  | _, _, i + 1, _, .cons _ b, h => paired_at (i := i) b h
theorem paired_len {α β : Type} {R : α → β → Prop} : ∀ {l : List α} {m : List β}, Paired R l m → l.length = m.length
  | _, _, .nil => rfl
  | _, _, .cons _ b => by rw [List.length_cons, List.length_cons, paired_len b]
section
variable {P : Program} {w : World} {K : PySem.W.Frag} {mg : Str → Option Value} {base : Heap}
def spCounters (K : PySem.W.Frag) : Sp := fun vs H Q _ => ∃ (b p : Addr) (m : Nat) (l : List Str), vs = [.ref b, .ref p, .int (m : Int)] ∧ BoxAt H b ∧ SqL K H p (l.map V.str) ∧ p ≠ b ∧ 0 < m ∧ m ≤ l.length ∧ l.length ≤ 100 ∧
  ∀ (c : Addr) (cs : List (Str × Str)) (H' : Hp), Kp b H H' → BoxAt H' b → CsAt (dif H H') c cs → 0 < cs.length → cs.length ≤ m → cs.map (·.1) = l.take cs.length → TreeOk cs → Q (.ref c) H'
end
end Pn

namespace Pn
open PySem L2
/-- a row as the tuple that the law draws -/
def rowTup : RowD → List V
  | .note c l => [.str "note", .str c, .str l]
  | .skip c n => [.str "skip", .str c, .int (n : Int)]
  | .set c n => [.str "set", .str c, .int (n : Int)]
  | .keep c => [.str "keep", .str c]
  | .back c => [.str "back", .str c]
  | .ref c => [.str "ref", .str c]
  | .put c => [.str "put", .str c]
  | .opn c => [.str "open", .str c]
def rowFine (d : Pool) (cs : List (Str × Str)) (parts : List Str) : RowD → Prop
  | .note c l => c ∈ cs.map (·.1) ∧ (l = "" ∨ l ∈ d.l)
  | .skip c n => c ∈ cs.map (·.1) ∧ 1 ≤ n ∧ n ≤ 3
  | .set c n => c ∈ cs.map (·.1) ∧ n ≤ 3
  | .keep c => c ∈ cs.map (·.1)
  | .back c => c ∈ cs.map (·.1)
  | .ref _ => False
  | .put p => p ∈ parts
  | .opn x => x ∈ d.x
theorem PoolAt.mono {H H' : Hp} {a : Addr} {d : Pool} (s : Same H H') (h : PoolAt H a d) : PoolAt H' a d := by
  obtain ⟨a0, a1, a2, a3, e, e0, e1, e2, e3⟩ := h
  exact ⟨a0, a1, a2, a3, s _ _ e, s _ _ e0, s _ _ e1, s _ _ e2, s _ _ e3⟩
theorem CsAt.mono {H H' : Hp} {a : Addr} {cs : List (Str × Str)} (s : Same H H') (h : CsAt H a cs) : CsAt H' a cs := by
  obtain ⟨ts, e, p⟩ := h
  exact ⟨ts, s _ _ e, paired_mono (fun _ _ z => s _ _ z) p⟩
theorem dif_hid {b : Addr} {H H' : Hp} {o : HO} (hb : H b = some o) : Same (dif H H') (hid H' b) := fun a u e => by
  obtain ⟨e0, e1⟩ := dif_eq.mp e
  exact hid_get e1 (fun z => by rw [z, hb] at e0; cases e0)
theorem hid_ne {H : Hp} {b a : Addr} {o : HO} (h : hid H b a = some o) : a ≠ b := fun z => by
  unfold hid at h
  rw [if_pos z] at h
  cases h
theorem newAt {b t : Addr} {H Hx : Hp} {o : HO} (k : Kp b H Hx) (hx : BoxAt Hx b) (ht : Hx t = none) : dif H (upd Hx t o) t = some o := by
  obtain ⟨_, _, _, g⟩ := hx
  exact dif_new (k.mo g t ht) upd_same
theorem BoxAt.new {b t : Addr} {H : Hp} {o : HO} (h : BoxAt H b) (ht : H t = none) : BoxAt (upd H t o) b := by
  obtain ⟨x, y, e, g⟩ := h
  exact ⟨x, y, e, Same.new ht b _ g⟩
theorem BoxAt.ne {b t : Addr} {H : Hp} (h : BoxAt H b) (ht : H t = none) : t ≠ b := fun z => by
  obtain ⟨x, y, e, g⟩ := h
  rw [z, g] at ht
  cases ht
theorem strsL_nil (l : List Str) : PyData.eqv (.list (l.map PyData.str)) (.list []) = l.isEmpty := by
  cases l <;> simp [PyData.eqv, PyData.eqvAll]
theorem dp_strL {K : PySem.W.Frag} {H : Hp} : ∀ l : List Str, DpAll K H (l.map V.str) (l.map PyData.str)
  | [] => .nil
  | x :: l => .cons (.str x) (dp_strL l)
theorem strL_sh {l : List Str} (h : ∀ x ∈ l, PyData.strOk x = true) : SeqAt.shaped (.list (l.map PyData.str)) = true := by
  have q : ∀ m : List Str, (∀ x ∈ m, PyData.strOk x = true) → PyData.canLayAll0 (m.map PyData.str) = true ∧ PyData.depthAll (m.map PyData.str) = 0 := by
    intro m
    induction m with
    | nil => intro _; exact ⟨by simp [PyData.canLayAll0], by simp [PyData.depthAll]⟩
    | cons x m ih =>
      intro h
      have q := ih fun y hy => h y (List.mem_cons_of_mem _ hy)
      refine ⟨?_, by simp [PyData.depthAll, PyData.depth, q.2]⟩
      show (PyData.strOk x && PyData.canLayAll0 (m.map PyData.str)) = true
      rw [h x List.mem_cons_self, q.1]
      rfl
  have q := q l h
  show (PyData.canLay0 (.list (l.map PyData.str)) && decide (PyData.depth (.list (l.map PyData.str)) ≤ 64)) = true
  rw [Bool.and_eq_true]
  refine ⟨by simp only [PyData.canLay0]; exact q.1, decide_eq_true ?_⟩
  simp only [PyData.depth, q.2]
  decide
theorem name_ok {z : Str} (h : nameS z = true) : PyData.strOk z = true ∧ z.length ≤ 4 := by
  unfold nameS at h
  rw [Bool.and_eq_true, Bool.and_eq_true, Bool.and_eq_true] at h
  obtain ⟨⟨_, h2, h3⟩, h4⟩ := h
  refine ⟨strOk_tl.mpr fun c hc => ?_, by have := of_decide_eq_true h3; omega⟩
  have q := List.all_eq_true.mp h4 c hc
  unfold lok at q
  rw [Bool.and_eq_true] at q
  have := of_decide_eq_true q.2
  omega
section
variable {P : Program} {w : World} {K : PySem.W.Frag} {mg : Str → Option Value} {base : Heap}
def spDRow (K : PySem.W.Frag) : Sp := fun vs H Q _ => ∃ (b pp cc ps : Addr) (d : Pool) (cs : List (Str × Str)) (parts : List Str), vs = [.ref b, .ref pp, .ref cc, .ref ps] ∧ BoxAt H b ∧ PoolAt (hid H b) pp d ∧ d ∈ poolsD ∧ CsAt (hid H b) cc cs ∧ 0 < cs.length ∧ cs.length ≤ 100 ∧
  SqL K H ps (parts.map V.str) ∧ ps ≠ b ∧ parts.length ≤ 100 ∧ (∀ x ∈ parts, nameS x = true) ∧
  ∀ (t : Addr) (r : RowD) (H' : Hp), Kp b H H' → BoxAt H' b → dif H H' t = some (.tup (rowTup r)) → rowFine d cs parts r → Q (.ref t) H'
end
end Pn

namespace Pn
open PySem L2 TL
def rowValid : RowD → Prop
  | .note c l => nameS c = true ∧ (l = "" ∨ nameS l = true)
  | .skip c n => nameS c = true ∧ 1 ≤ n ∧ n < 10 ^ 10
  | .set c n => nameS c = true ∧ n < 10 ^ 10
  | .keep c => nameS c = true
  | .back c => nameS c = true
  | .ref c => nameS c = true
  | .put c => nameS c = true
  | .opn c => nameS c = true
theorem fine_valid {d : Pool} {cs : List (Str × Str)} {parts : List Str} (hd : d.Fine) (hc : ∀ x ∈ cs.map (·.1), nameS x = true) (hp : ∀ x ∈ parts, nameS x = true) : ∀ {r : RowD}, rowFine d cs parts r → rowValid r
  | .note _ _, h => ⟨hc _ h.1, h.2.imp id fun z => hd.names _ (List.mem_append_right _ z)⟩
  | .skip _ _, h => ⟨hc _ h.1, h.2.1, Nat.lt_of_le_of_lt h.2.2 (by decide)⟩
  | .set _ _, h => ⟨hc _ h.1, Nat.lt_of_le_of_lt h.2 (by decide)⟩
  | .keep _, h => hc _ h
  | .back _, h => hc _ h
  | .put _, h => hp _ h
  | .opn _, h => hd.names _ (List.mem_append_left _ (List.mem_append_right _ h))
/-- what a word of a drawn row says in its text -/
def wOf : V → Option Str
  | .str z => if z = "" then none else some z
  | .int i => some (Str.ofString (toString i))
  | _ => none
theorem name_ne {z : Str} (h : nameS z = true) : z ≠ "" := fun e => by
  subst e
  exact absurd h (by decide +kernel)
theorem words_of : ∀ {r : RowD}, rowValid r → (rowTup r).filterMap wOf = rowWords r
  | .note c l, h => by
    have h0 := name_ne h.1
    have k : wOf (.str "note") = some "note" := by decide +kernel
    have kc : wOf (.str c) = some c := if_neg h0
    by_cases hl : l = ""
    · have kl : wOf (.str l) = none := if_pos hl
      show List.filterMap wOf [.str "note", .str c, .str l] = (if l = "" then (["note", c] : List Str) else ["note", c, l])
      rw [if_pos hl]
      simp [k, kc, kl]
    · have kl : wOf (.str l) = some l := if_neg hl
      show List.filterMap wOf [.str "note", .str c, .str l] = (if l = "" then (["note", c] : List Str) else ["note", c, l])
      rw [if_neg hl]
      simp [k, kc, kl]
  | .skip c n, h => by
    have k : wOf (.str "skip") = some "skip" := by decide +kernel
    have kc : wOf (.str c) = some c := if_neg (name_ne h.1)
    show List.filterMap wOf [.str "skip", .str c, .int (n : Int)] = (["skip", c, numStr n] : List Str)
    simp [List.filterMap_cons, k, kc]
    rfl
  | .set c n, h => by
    have k : wOf (.str "set") = some "set" := by decide +kernel
    have kc : wOf (.str c) = some c := if_neg (name_ne h.1)
    show List.filterMap wOf [.str "set", .str c, .int (n : Int)] = (["set", c, numStr n] : List Str)
    simp [List.filterMap_cons, k, kc]
    rfl
  | .keep c, h => by
    have k : wOf (.str "keep") = some "keep" := by decide +kernel
    have kc : wOf (.str c) = some c := if_neg (name_ne h)
    show List.filterMap wOf [.str "keep", .str c] = (["keep", c] : List Str)
    simp [List.filterMap_cons, k, kc]
  | .back c, h => by
    have k : wOf (.str "back") = some "back" := by decide +kernel
    have kc : wOf (.str c) = some c := if_neg (name_ne h)
    show List.filterMap wOf [.str "back", .str c] = (["back", c] : List Str)
    simp [List.filterMap_cons, k, kc]
  | .ref c, h => by
    have k : wOf (.str "ref") = some "ref" := by decide +kernel
    have kc : wOf (.str c) = some c := if_neg (name_ne h)
    show List.filterMap wOf [.str "ref", .str c] = (["ref", c] : List Str)
    simp [List.filterMap_cons, k, kc]
  | .put c, h => by
    have k : wOf (.str "put") = some "put" := by decide +kernel
    have kc : wOf (.str c) = some c := if_neg (name_ne h)
    show List.filterMap wOf [.str "put", .str c] = (["put", c] : List Str)
    simp [List.filterMap_cons, k, kc]
  | .opn c, h => by
    have k : wOf (.str "open") = some "open" := by decide +kernel
    have kc : wOf (.str c) = some c := if_neg (name_ne h)
    show List.filterMap wOf [.str "open", .str c] = (["open", c] : List Str)
    simp [List.filterMap_cons, k, kc]
theorem numStr_small {n : Nat} (h : n < 10 ^ 10) : (numStr n).length ≤ 20 ∧ PyData.strOk (numStr n) = true := by
  refine ⟨numStr_len (Nat.lt_trans h (by decide)), strOk_tl.mpr fun c hc => ?_⟩
  have e : tl (numStr n) = numL n := tl_num n
  rw [e] at hc
  have q := numL_digits n c hc
  omega
/-- the words of a row that stands: few, short, of ordinary signs -/
theorem words_small {r : RowD} (h : rowValid r) : (rowWords r).length ≤ 3 ∧ 2 ≤ (rowWords r).length ∧ ∀ x ∈ rowWords r, x.length ≤ 20 ∧ PyData.strOk x = true := by
  have nm : ∀ {z : Str}, nameS z = true → z.length ≤ 20 ∧ PyData.strOk z = true := fun h => ⟨Nat.le_trans (name_ok h).2 (by decide), (name_ok h).1⟩
  have lit : ∀ z ∈ (["note", "skip", "set", "keep", "back", "ref", "put", "open"] : List Str), z.length ≤ 20 ∧ PyData.strOk z = true := fun z hz => by
    have q : (["note", "skip", "set", "keep", "back", "ref", "put", "open"] : List Str).all (fun z => decide (z.length ≤ 20) && PyData.strOk z) = true := by decide +kernel
    have := List.all_eq_true.mp q z hz
    rw [Bool.and_eq_true] at this
    exact ⟨of_decide_eq_true this.1, this.2⟩
  have two : ∀ {a c : Str}, a ∈ (["note", "skip", "set", "keep", "back", "ref", "put", "open"] : List Str) → nameS c = true → ([a, c] : List Str).length ≤ 3 ∧ 2 ≤ ([a, c] : List Str).length ∧ ∀ x ∈ ([a, c] : List Str), x.length ≤ 20 ∧ PyData.strOk x = true := fun {a c} ha hc =>
    ⟨by show 2 ≤ 3; decide, by show 2 ≤ 2; decide, fun x hx => by
      rcases List.mem_cons.mp hx with rfl | hx
      · exact lit _ ha
      · rw [List.mem_singleton.mp hx]; exact nm hc⟩
  have three : ∀ {a c l : Str}, a ∈ (["note", "skip", "set", "keep", "back", "ref", "put", "open"] : List Str) → nameS c = true → (l.length ≤ 20 ∧ PyData.strOk l = true) → ([a, c, l] : List Str).length ≤ 3 ∧ 2 ≤ ([a, c, l] : List Str).length ∧ ∀ x ∈ ([a, c, l] : List Str), x.length ≤ 20 ∧ PyData.strOk x = true := fun {a c l} ha hc hl =>
    ⟨by show 3 ≤ 3; decide, by show 2 ≤ 3; decide, fun x hx => by
      rcases List.mem_cons.mp hx with rfl | hx
      · exact lit _ ha
      · rcases List.mem_cons.mp hx with rfl | hx
        · exact nm hc
        · rw [List.mem_singleton.mp hx]; exact hl⟩
  cases r with
  | note c l =>
    show (if l = "" then (["note", c] : List Str) else ["note", c, l]).length ≤ 3 ∧ 2 ≤ (if l = "" then (["note", c] : List Str) else ["note", c, l]).length ∧ ∀ x ∈ (if l = "" then (["note", c] : List Str) else ["note", c, l]), _
    by_cases hl : l = ""
    · rw [if_pos hl]
      exact two (by decide +kernel) h.1
    · rw [if_neg hl]
      exact three (by decide +kernel) h.1 (nm (h.2.resolve_left hl))
  | skip c n => exact three (by decide +kernel) h.1 (numStr_small h.2.2)
  | set c n => exact three (by decide +kernel) h.1 (numStr_small h.2)
  | keep c => exact two (by decide +kernel) h
  | back c => exact two (by decide +kernel) h
  | ref c => exact two (by decide +kernel) h
  | put c => exact two (by decide +kernel) h
  | opn c => exact two (by decide +kernel) h
section
variable {P : Program} {w : World} {K : PySem.W.Frag} {mg : Str → Option Value} {base : Heap}
def rStrF : List V → Hp → VK → Prop := fun xs H Q => (∃ a, xs = [.str a] ∧ Q (.str a) H) ∨ ∃ i : Int, xs = [.int i] ∧ i.natAbs.log2 < 1920 ∧ Q (.str (Str.ofString (toString i))) H
theorem call_strF {X : Cx} : CallR X (.type "str") rStrF := fun pins s σ H xs us Q I r h => h.elim (fun h => SkE.call_str_str pins s σ H xs us Q I r h) fun h => call_str_int pins s σ H xs us Q I r h
theorem tup_items {r : RowD} (h : rowValid r) : (rowTup r).length ≤ 3 ∧ ∀ v ∈ rowTup r, (∃ z : Str, v = .str z ∧ PyData.strOk z = true) ∨ ∃ n : Nat, v = .int (n : Int) ∧ n < 10 ^ 10 := by
  have nm : ∀ {z : Str}, nameS z = true → PyData.strOk z = true := fun h => (name_ok h).1
  have l8 : ∀ z ∈ (["note", "skip", "set", "keep", "back", "ref", "put", "open"] : List Str), PyData.strOk z = true := List.all_eq_true.mp (by decide +kernel)
  have two : ∀ {a c : Str}, a ∈ (["note", "skip", "set", "keep", "back", "ref", "put", "open"] : List Str) → nameS c = true → ([.str a, .str c] : List V).length ≤ 3 ∧ ∀ v ∈ ([.str a, .str c] : List V), (∃ z : Str, v = .str z ∧ PyData.strOk z = true) ∨ ∃ n : Nat, v = .int (n : Int) ∧ n < 10 ^ 10 := fun {a c} ha hc =>
    ⟨by show 2 ≤ 3; decide, fun v hv => by
      rcases List.mem_cons.mp hv with rfl | hv
      · exact .inl ⟨a, rfl, l8 a ha⟩
      · rw [List.mem_singleton.mp hv]; exact .inl ⟨c, rfl, nm hc⟩⟩
  have three : ∀ {a c : Str} {u : V}, a ∈ (["note", "skip", "set", "keep", "back", "ref", "put", "open"] : List Str) → nameS c = true → ((∃ z : Str, u = .str z ∧ PyData.strOk z = true) ∨ ∃ n : Nat, u = .int (n : Int) ∧ n < 10 ^ 10) →
      ([.str a, .str c, u] : List V).length ≤ 3 ∧ ∀ v ∈ ([.str a, .str c, u] : List V), (∃ z : Str, v = .str z ∧ PyData.strOk z = true) ∨ ∃ n : Nat, v = .int (n : Int) ∧ n < 10 ^ 10 := fun {a c u} ha hc hu =>
    ⟨by show 3 ≤ 3; decide, fun v hv => by
      rcases List.mem_cons.mp hv with rfl | hv
      · exact .inl ⟨a, rfl, l8 a ha⟩
      · rcases List.mem_cons.mp hv with rfl | hv
        · exact .inl ⟨c, rfl, nm hc⟩
        · rw [List.mem_singleton.mp hv]; exact hu⟩
  cases r with
  | note c l => exact three (by decide +kernel) h.1 (.inl ⟨l, rfl, h.2.elim (fun z => by rw [z]; decide +kernel) nm⟩)
  | skip c n => exact three (by decide +kernel) h.1 (.inr ⟨n, rfl, h.2.2⟩)
  | set c n => exact three (by decide +kernel) h.1 (.inr ⟨n, rfl, h.2⟩)
  | keep c => exact two (by decide +kernel) h
  | back c => exact two (by decide +kernel) h
  | ref c => exact two (by decide +kernel) h
  | put c => exact two (by decide +kernel) h
  | opn c => exact two (by decide +kernel) h
end
end Pn

namespace Pn
open PySem L2 TL
structure TStrs {K : PySem.W.Frag} {mg : Str → Option Value} (T : TRows K mg) : Type where
  note : TStr K T.note.C "Note.__str__" sNoteStr
  skip : TStr K T.skip.C "Skip.__str__" sSkipStr
  set : TStr K T.set.C "Set.__str__" sSetStr
  keep : TStr K T.keep.C "Keep.__str__" sKeepStr
  back : TStr K T.back.C "Back.__str__" sBackStr
  ref : TStr K T.ref.C "Ref.__str__" sRefStr
  put : TStr K T.put.C "Put.__str__" sPutStr
  open_ : TStr K T.open_.C "Open.__str__" sOpenStr
def rStrRow {K : PySem.W.Frag} {mg : Str → Option Value} (T : TRows K mg) : List V → Hp → VK → Prop := fun xs H Q => ∃ (a : Addr) (r : RowD), xs = [.ref a] ∧ RowAt T H a r ∧ rowSmall r ∧ Q (.str (rowText r)) H
theorem call_strRow {X : Cx} (T : TRows X.K X.mg) (S : TStrs T) (hr : Room 3 X.A) : CallR X (.type "str") (rStrRow T) := by
  intro pins s σ H xs us Q I rv h
  obtain ⟨a, r, rfl, ⟨dx, ha⟩, hs, q⟩ := h
  cases r with
  | note c l => exact call_strIns (okNoteStr T S.note) S.note.hf hr S.note.b pass0 pins s σ H _ us Q I rv ⟨a, _, dx, _, rfl, ha, S.note.hs, a, c, l, rfl, ⟨dx, ha⟩, hs.1, hs.2, _, rfl, q⟩
  | skip c n => exact call_strIns (okSkipStr T S.skip) S.skip.hf hr S.skip.b pass0 pins s σ H _ us Q I rv ⟨a, _, dx, _, rfl, ha, S.skip.hs, a, c, n, rfl, ⟨dx, ha⟩, hs.1, hs.2, _, rfl, q⟩
  | set c n => exact call_strIns (okSetStr T S.set) S.set.hf hr S.set.b pass0 pins s σ H _ us Q I rv ⟨a, _, dx, _, rfl, ha, S.set.hs, a, c, n, rfl, ⟨dx, ha⟩, hs.1, hs.2, _, rfl, q⟩
  | keep c => exact call_strIns (okKeepStr T S.keep) S.keep.hf hr S.keep.b pass0 pins s σ H _ us Q I rv ⟨a, _, dx, _, rfl, ha, S.keep.hs, a, c, rfl, ⟨dx, ha⟩, hs, _, rfl, q⟩
  | back c => exact call_strIns (okBackStr T S.back) S.back.hf hr S.back.b pass0 pins s σ H _ us Q I rv ⟨a, _, dx, _, rfl, ha, S.back.hs, a, c, rfl, ⟨dx, ha⟩, hs, _, rfl, q⟩
  | ref c => exact call_strIns (okRefStr T S.ref) S.ref.hf hr S.ref.b pass0 pins s σ H _ us Q I rv ⟨a, _, dx, _, rfl, ha, S.ref.hs, a, c, rfl, ⟨dx, ha⟩, hs, _, rfl, q⟩
  | put c => exact call_strIns (okPutStr T S.put) S.put.hf hr S.put.b pass0 pins s σ H _ us Q I rv ⟨a, _, dx, _, rfl, ha, S.put.hs, a, c, rfl, ⟨dx, ha⟩, hs, _, rfl, q⟩
  | opn c => exact call_strIns (okOpenStr T S.open_) S.open_.hf hr S.open_.b pass0 pins s σ H _ us Q I rv ⟨a, _, dx, _, rfl, ha, S.open_.hs, a, c, rfl, ⟨dx, ha⟩, hs, _, rfl, q⟩
theorem call_strRowK {X : Cx} {K : PySem.W.Frag} {mg : Str → Option Value} (hK : X.K = K) (hm : X.mg = mg) (T : TRows K mg) (S : TStrs T) (hr : Room 3 X.A) : CallR X (.type "str") (rStrRow T) := by
  subst hK
  subst hm
  exact call_strRow T S hr
theorem name_small {z : Str} (h : nameS z = true) : z.length ≤ 100 := Nat.le_trans (name_ok h).2 (by decide)
theorem lab_small {l : Str} (h : labD (.str l) = true) : l = "" ∨ nameS l = true := by
  unfold labD at h
  rw [Bool.or_eq_true] at h
  rcases h with h | h
  · left
    simp only [PyData.eqv] at h
    exact eq_of_beq h
  · exact .inr h
end Pn

namespace Pn
open PySem L2 TL
theorem passN0 {P : Program} {w : World} {X : Cx} : Passes (L2N.CX P w) X E0 := fun _ _ _ _ _ _ _ ⟨_, _, _, _, _, _, _, _, _, _, _, _, h⟩ => h.elim
section
variable {P : Program} {w : World} {K : PySem.W.Frag} {mg : Str → Option Value} {base : Heap}
def spMade (R : TRows K mg) : Sp := fun vs H Q _ => ∃ (t : Addr) (r : RowD), vs = [.ref t] ∧ SqT K H t (rowTup r) ∧ rowValid r ∧ ∀ a H', Same H H' → RowAt R H' a r → Q (.ref a) H'
theorem lab_of {l : Str} (h : l = "" ∨ nameS l = true) : labD (.str l) = true := by
  rcases h with rfl | h
  · decide +kernel
  · show (PyData.eqv (.str l) (.str "") || nameS l) = true
    rw [h, Bool.or_true]
end
end Pn

namespace Pn
open PySem L2
/-! ### == of an own instance whose class has an __eq__ of its own -/
section
variable {X : Cx} {CX : CXT} {k : Nat} {f C : Addr} {fd : FuncData} {ps : List Str} {sp : Sp} {E : XK}
/-- what stands to the right: a text, or an instance whose class is not first asked -/
def Right (K : PySem.W.Frag) (C : Addr) (H : Hp) (y : V) : Prop := (∃ z : Str, y = .str z ∧ PySem.W.notFirst K C (.type "str") = true) ∨ ∃ (b D dy : Addr) (gs : List (Str × V)), y = .ref b ∧ H b = some (.ins D dy gs) ∧ PySem.W.notFirst K C (.ref D) = true
def rOpIns (K : PySem.W.Frag) (nm : Str) (f : Addr) (sp : Sp) (E : XK) : R2 := fun x y H Q => ∃ (a C dx : Addr) (fs : List (Str × V)), x = .ref a ∧ H a = some (.ins C dx fs) ∧ PySem.W.findIn K (.ref C) nm = some (some (.ref f)) ∧ Right K C H y ∧ sp [x, y] H Q E
theorem op_eqIns (F : FnOk X.prog X.w X.K X.mg X.base CX k f fd ps sp) (hf : PySem.W.isFn X.K (.ref f) = true) (hr : Room k X.A) (hb : Binds X.K fd ps []) (hx : Passes CX X E) : OpR X (compareOp .Eq) (rOpIns X.K "__eq__" f sp E) := by
  intro pins s σ H x y v u Q I rx ry h
  obtain ⟨a, C, dx, fs, rfl, ha, hs, hy, q⟩ := h
  cases rx
  obtain ⟨mA, O, _⟩ := ins_get I.hok ha
  obtain ⟨od, J, _⟩ := O.look
  obtain ⟨m, hF⟩ := I.fr
  show wpAny (model X.prog X.w) X.A (richCompare .Eq (.ref a) u) (EP X pins σ Q) X.xe s
  have go : ∀ tb, PySem.W.Looks (model X.prog X.w) s.heap (typeOf u) tb → PySem.W.notFirst X.K C tb = true → wpAny (model X.prog X.w) X.A (richCompare .Eq (.ref a) u) (EP X pins σ Q) X.xe s := fun tb hl hn => by
    refine PySem.W.cmp_K (op := .Eq) (tb := tb) hr.units0 hF I.ok.mod.kin J hl hn hs hf ?_
    refine wpAny_mono (run_fnA F hr I.env0 hb hx I (.cons (show RelV (.ref a) (Value.ref a) from rfl) (.cons ry .nil)) q) (fun w s' z => ?_) fun _ _ x => x
    obtain ⟨z', H', I', rz, qz⟩ := z
    exact SlX.cmpback rz ⟨z', H', I', rz, qz⟩
  rcases hy with ⟨z, rfl, hn⟩ | ⟨b, D, dy, gs, rfl, hb2, hn⟩
  · obtain ⟨t, rfl⟩ := ry
    exact go _ (PySem.W.Looks.of_pure rfl) hn
  · cases ry
    obtain ⟨mB, O2, _⟩ := ins_get I.hok hb2
    obtain ⟨od2, J2, _⟩ := O2.look
    exact go _ J2.type hn
end
end Pn
namespace Pn
open PySem PySem.W PyProof.Rows
section
variable {prog : Program} {w : World} {A : Around} {E : Value → Shared → Prop} {s : Shared} {K : Frag} {x C L f : Addr} {h₀ : Heap} {m : Str → Option Value} {ox : Obj} {od : Option Obj} {b tb : Value}
/-- object.__ne__ asks __eq__ and turns its answer round -/
theorem obj_ne {Q : Fin → Shared → Prop} (hu : A.units < cLine) (X : K.In s.heap) (I : InstAt s.heap x ox C od) (hs : findIn K (.ref C) "__eq__" = some (some (.ref f))) (hf : isFn K (.ref f) = true)
    (h : wpAny (model prog w) A (call (.ref f) [.ref x, b]) (fun v s' => ∃ c, v = .bool c ∧ Q (.done (.ret (.bool (!c)))) s') E s) : wpAny (model prog w) A (Builtin.«object.__ne__» ⟨[.ref x, b], []⟩) Q E s := by
  unfold Builtin.«object.__ne__»
  repeat (first
    | with_reducible refine wpAny_cRoomFor hu ?_
    | (refine wpAny_bind (m := callSpecialIfBound? (.ref x) (Str.ofString "__eq__") [b])
        (ifBound_K X I hs hf (wpAny_mono h (fun v s' hv => by
          obtain ⟨c, rfl, hq⟩ := hv
          repeat (first | exact hq | exact wpAny_pure hq | exact wpAny_truthy_bool hq | (refine wpAny_bind (m := truthy (.bool _)) (wpAny_truthy_bool ?_)) | wp_step)) fun _ _ e => e)))
    | wp_step)
theorem rich_ne {Q : Value → Shared → Prop} (hu : A.units + 1 < cLine) (F : Fr h₀ L s.heap m) (X₀ : K.In h₀) (I : InstAt s.heap x ox C od) (hb : Looks (model prog w) s.heap (typeOf b) tb) (hn : notFirst K C tb = true)
    (hne : findIn K (.ref C) "__ne__" = some (some (.builtin "object.__ne__"))) (ho : mroIn K C (.type "object") = some true) (hs : findIn K (.ref C) "__eq__" = some (some (.ref f))) (hf : isFn K (.ref f) = true)
    (h : wpAny (model prog w) A.in1 (call (.ref f) [.ref x, b]) (fun v s' => ∃ c, v = .bool c ∧ Q (.bool (!c)) s') E s) : wpAny (model prog w) A (richCompare .NotEq (.ref x) b) Q E s := by
  have X := X₀.keeps F.keep
  have one : wpAny (model prog w) A (tryCompare (.ref x) (cmpInfo .NotEq).2.1 b) (fun r s' => ∃ v, r = some v ∧ Q v s') E s := by
    unfold tryCompare
    refine wpAny_bind (NtL.csib (I.type.andThen (looks_findIn X hne)) (PySem.F.slot_object_ne.bind _) (wpAny_call (codeAny_call_builtin PySem.F.slot_object_ne.plain PySem.F.entry_object_ne
      (check_slot (i := "object.__ne__") (owner := "object") (n := "__ne__") (by decide +kernel) (by decide +kernel) (I.type.andThen (looks_mroIn X ho)) (PySem.F.args_object_ne_2 _ _)
        (obj_ne (A := A.in1) hu X I hs hf (wpAny_mono h (fun v s' hv => ?_) fun _ _ e => e))))))
    obtain ⟨c, rfl, hq⟩ := hv
    first | exact ⟨c, rfl, wpAny_pure ⟨_, rfl, hq⟩⟩ | exact ⟨c, rfl, _, rfl, hq⟩ | exact ⟨c, rfl, wpAny_pure (wpAny_pure ⟨_, rfl, hq⟩)⟩
  unfold richCompare
  simp only [oneThing_ref]
  refine wpAny_holding (wpAny_bind (wpAny_cRoomFor (Nat.lt_of_succ_lt hu) ?_))
  refine wpAny_bind (I.type.here (wpAny_bind (hb.here ?_)))
  have last : ∀ {t : Option Value → Sem Value}, (∀ v, t (some v) = pure v) → wpAny (model prog w) A (tryCompare (.ref x) (cmpInfo .NotEq).2.1 b >>= t) Q E s := fun ht => wpAny_bind (wpAny_mono one (fun r s' ⟨v, hr, hq⟩ => by
    subst hr
    rw [ht]
    exact wpAny_pure hq) fun _ _ e => e)
  by_cases hq : tb = .ref C
  · subst hq
    rw [if_neg (by simp)]
    exact wpAny_bind (wpAny_pure (by simp only [Bool.false_eq_true, if_false]; exact last fun v => rfl))
  · have e : subIn K tb (.ref C) = some false := (Bool.or_eq_true_iff.mp hn).elim (fun e => absurd (beq_iff_eq.mp e) hq) beq_iff_eq.mp
    rw [if_pos (by simpa using fun z => hq z.symm)]
    exact wpAny_bind ((looks_subIn X e).here (by simp only [Bool.false_eq_true, if_false]; exact last fun v => rfl))
end
end Pn
namespace Pn
open PySem L2
section
variable {X : Cx} {CX : CXT} {k : Nat} {f C : Addr} {fd : FuncData} {ps : List Str} {sp : Sp} {E : XK}
/-- != of an own instance with an __eq__ of its own and object's __ne__ -/
def rNeIns (K : PySem.W.Frag) (f : Addr) (sp : Sp) (E : XK) : R2 := fun x y H Q => ∃ (a C dx : Addr) (fs : List (Str × V)), x = .ref a ∧ H a = some (.ins C dx fs) ∧ PySem.W.findIn K (.ref C) "__eq__" = some (some (.ref f)) ∧
  PySem.W.findIn K (.ref C) "__ne__" = some (some (.builtin "object.__ne__")) ∧ PySem.W.mroIn K C (.type "object") = some true ∧ Right K C H y ∧ sp [x, y] H (fun v H' => ∃ c, v = .bl c ∧ Q (.bl (!c)) H') E
theorem op_neIns (F : FnOk X.prog X.w X.K X.mg X.base CX k f fd ps sp) (hf : PySem.W.isFn X.K (.ref f) = true) (hr : Room (k + 1) X.A) (hb : Binds X.K fd ps []) (hx : Passes CX X E) : OpR X (compareOp .NotEq) (rNeIns X.K f sp E) := by
  intro pins s σ H x y v u Q I rx ry h
  obtain ⟨a, C, dx, fs, rfl, ha, hs, hne, ho, hy, q⟩ := h
  cases rx
  obtain ⟨mA, O, _⟩ := ins_get I.hok ha
  obtain ⟨od, J, _⟩ := O.look
  obtain ⟨m, hF⟩ := I.fr
  show wpAny (model X.prog X.w) X.A (richCompare .NotEq (.ref a) u) (EP X pins σ Q) X.xe s
  have hr1 : Room k X.A.in1 := Room.in1 hr
  have go : ∀ tb, PySem.W.Looks (model X.prog X.w) s.heap (typeOf u) tb → PySem.W.notFirst X.K C tb = true → wpAny (model X.prog X.w) X.A (richCompare .NotEq (.ref a) u) (EP X pins σ Q) X.xe s := fun tb hl hn => by
    refine rich_ne (hu_of hr) hF I.ok.mod.kin J hl hn hne ho hs hf ?_
    refine wpAny_mono (run_fnA F hr1 I.env0.in1 hb hx I (.cons (show RelV (.ref a) (Value.ref a) from rfl) (.cons ry .nil)) q) (fun w s' z => ?_) fun _ _ x => x
    obtain ⟨z', H', I', rz, c, ez, qz⟩ := z
    subst ez
    cases (show w = Value.bool c from rz)
    exact ⟨c, rfl, .bl (!c), H', I', rfl, qz⟩
  rcases hy with ⟨z, rfl, hn⟩ | ⟨b, D, dy, gs, rfl, hb2, hn⟩
  · obtain ⟨t, rfl⟩ := ry
    exact go _ (PySem.W.Looks.of_pure rfl) hn
  · cases ry
    obtain ⟨mB, O2, _⟩ := ins_get I.hok hb2
    obtain ⟨od2, J2, _⟩ := O2.look
    exact go _ J2.type hn
end
end Pn

namespace Pn
open PySem L2 TL
abbrev sSameRow : Stmt := top 21
abbrev sNoteEq : Stmt := inClass (top 23) 2
abbrev sSkipEq : Stmt := inClass (top 24) 2
abbrev sSetEq : Stmt := inClass (top 25) 2
abbrev sKeepEq : Stmt := inClass (top 26) 2
abbrev sBackEq : Stmt := inClass (top 27) 2
abbrev sRefEq : Stmt := inClass (top 28) 2
abbrev sPutEq : Stmt := inClass (top 29) 2
abbrev sOpenEq : Stmt := inClass (top 30) 2
section
variable {P : Program} {w : World} {K : PySem.W.Frag} {mg : Str → Option Value} {base : Heap}
/-- an __eq__ of an own class -/
structure TEq (K : PySem.W.Frag) (C : Addr) (qual : Str) (st : Stmt) : Type where
  f : Addr
  fd : FuncData
  F : Fun K "__eq__" qual st f fd
  b : Binds K fd ["self", "other"] []
  hs : PySem.W.findIn K (.ref C) "__eq__" = some (some (.ref f))
  hf : PySem.W.isFn K (.ref f) = true
def clsOf (T : TRows K mg) : RowD → Addr
  | .note _ _ => T.note.C
  | .skip _ _ => T.skip.C
  | .set _ _ => T.set.C
  | .keep _ => T.keep.C
  | .back _ => T.back.C
  | .ref _ => T.ref.C
  | .put _ => T.put.C
  | .opn _ => T.open_.C
theorem insRow_ins (T : TRows K mg) (dx : Addr) (r : RowD) : ∃ fs, insRow T dx r = .ins (clsOf T r) dx fs := by cases r <;> exact ⟨_, rfl⟩
theorem cls_of (T : TRows K mg) (r : RowD) : Cls K (clsOf T r) := by
  cases r with
  | note _ _ => exact T.note.cl
  | skip _ _ => exact T.skip.cl
  | set _ _ => exact T.set.cl
  | keep _ => exact T.keep.cl
  | back _ => exact T.back.cl
  | ref _ => exact T.ref.cl
  | put _ => exact T.put.cl
  | opn _ => exact T.open_.cl
structure TSame {K : PySem.W.Frag} {mg : Str → Option Value} (T : TRows K mg) : Type where
  S : TStrs T
  CR : Addr
  mR : mg "Row" = some (.ref CR)
  kS : PySem.W.kitOne K (.type "str") (.ref CR) = some false
  kR : ∀ r, PySem.W.kitOne K (.ref (clsOf T r)) (.ref CR) = some true
  nS : ∀ r, PySem.W.notFirst K (clsOf T r) (.type "str") = true
  nR : ∀ r r', PySem.W.notFirst K (clsOf T r) (.ref (clsOf T r')) = true
  cA : ∀ r, PySem.W.findIn K (.ref (clsOf T r)) "__class__" = some (some (.builtin "object.__class__"))
  cN : PySem.W.specialIn K (.builtin "object.__class__") "__get__" = some (some (.builtin "getset_descriptor.__get__"))
  cT : PySem.W.takesIn K (.builtin "object.__class__") = some true
  cM : ∀ r, PySem.W.mroIn K (clsOf T r) (.type "object") = some true
  ne : ∀ r, PySem.W.findIn K (.ref (clsOf T r)) "__ne__" = some (some (.builtin "object.__ne__"))
  mStr : mg "str" = none
  same : At K mg "same_row" sSameRow ["row", "other"]
  note : TEq K T.note.C "Note.__eq__" sNoteEq
  skip : TEq K T.skip.C "Skip.__eq__" sSkipEq
  set : TEq K T.set.C "Set.__eq__" sSetEq
  keep : TEq K T.keep.C "Keep.__eq__" sKeepEq
  back : TEq K T.back.C "Back.__eq__" sBackEq
  ref : TEq K T.ref.C "Ref.__eq__" sRefEq
  put : TEq K T.put.C "Put.__eq__" sPutEq
  open_ : TEq K T.open_.C "Open.__eq__" sOpenEq
/-- a row beside a text or a row -/
def spSame (T : TRows K mg) : Sp := fun vs H Q _ => ∃ (a : Addr) (y : V) (r : RowD), vs = [.ref a, y] ∧ RowAt T H a r ∧ rowSmall r ∧ ((∃ z, y = .str z ∧ Q (.bl false) H) ∨ ∃ (b : Addr) (r' : RowD), y = .ref b ∧ RowAt T H b r' ∧ rowSmall r' ∧ Q (.bl (decide (rowText r = rowText r'))) H)
theorem scSameRow : FnScope ["row", "other"] ["row", "other"] (defScope sSameRow) := ⟨rfl, rfl, rfl, by decide +kernel, rfl, by decide +kernel, by decide +kernel⟩
theorem ok_same {T : TRows K mg} (S : TSame T) : FnOk P w K mg base CX0 4 S.same.f S.same.fd ["row", "other"] (spSame T) := by
  refine S.same.F.ok scSameRow (fun vs H Q E h => ?_) (fun cdv A outer s H vs Q E hr h => ?_)
  · obtain ⟨a, y, r, rfl, _⟩ := h
    rfl
  · obtain ⟨a, y, r, rfl, ha, hs, q⟩ := h
    refine ⟨_, pss_one (ps_ret (pe_and (pe_callB call_isi (by rfl) T.N.mIsi (by decide +kernel) (pa_cons (pv 1) (pa_cons (pe_glob (v := .ref S.CR) (by rfl) S.mR rfl) pa_nil))) (pe_one (pe_cmpR op_eq (pe_callTy (call_strRowK (K := K) (mg := mg) rfl rfl T S.S hr) (by rfl) S.mStr (by decide +kernel) (pa_cons (pv 0) pa_nil)) (pe_callTy (call_strRowK (K := K) (mg := mg) rfl rfl T S.S hr) (by rfl) S.mStr (by decide +kernel) (pa_cons (pv 1) pa_nil)) (nomark _))))), ?_⟩
    rcases q with ⟨z, rfl, q⟩ | ⟨b, r', rfl, hb, hs', q⟩
    · refine ⟨_, rfl, .str z, .ref S.CR, _, _, false, rfl, .own _, .base (.str z), S.kS, _, rfl, iteF ?_⟩
      exact q
    · obtain ⟨dy, hb2⟩ := id hb
      obtain ⟨gs, eg⟩ := insRow_ins T dy r'
      rw [eg] at hb2
      refine ⟨_, rfl, .ref b, .ref S.CR, _, _, true, rfl, .own _, .base (.ins hb2 (cls_of T r') (S.cA r') S.cN S.cT (S.cM r')), S.kR r', _, rfl, iteT ?_⟩
      refine ⟨_, rfl, a, r, rfl, ha, hs, _, rfl, b, r', rfl, hb, hs', rfl, ?_⟩
      have e : decide (V.str (rowText r) = V.str (rowText r')) = decide (rowText r = rowText r') := by
        by_cases h : rowText r = rowText r'
        · rw [h, decide_eq_true rfl, decide_eq_true rfl]
        · rw [decide_eq_false h, decide_eq_false (fun z => h (V.str.inj z))]
      rw [e]
      exact q
theorem scNoteEq : FnScope ["self", "other"] ["self", "other"] (defScope sNoteEq) := ⟨rfl, rfl, rfl, by decide +kernel, rfl, by decide +kernel, by decide +kernel⟩
theorem ok_NoteEq {T : TRows K mg} (S : TSame T) : FnOk P w K mg base CX0 5 S.note.f S.note.fd ["self", "other"] (spSame T) := by
  refine S.note.F.ok scNoteEq (fun vs H Q E h => ?_) (fun cdv A outer s H vs Q E hr h => ?_)
  · obtain ⟨a, y, r, rfl, _⟩ := h
    rfl
  · obtain ⟨a, y, r, rfl, ha, hs, q⟩ := h
    refine ⟨_, pss_one (ps_ret (pe_call (ok_same S) hr rfl S.same.m S.same.F.kp S.same.b .nil pass0 (pa_cons (pv 0) (pa_cons (pv 1) pa_nil)))), ?_⟩
    exact ⟨_, rfl, _, rfl, a, y, r, rfl, ha, hs, q⟩
theorem scSkipEq : FnScope ["self", "other"] ["self", "other"] (defScope sSkipEq) := ⟨rfl, rfl, rfl, by decide +kernel, rfl, by decide +kernel, by decide +kernel⟩
theorem ok_SkipEq {T : TRows K mg} (S : TSame T) : FnOk P w K mg base CX0 5 S.skip.f S.skip.fd ["self", "other"] (spSame T) := by
  refine S.skip.F.ok scSkipEq (fun vs H Q E h => ?_) (fun cdv A outer s H vs Q E hr h => ?_)
  · obtain ⟨a, y, r, rfl, _⟩ := h
    rfl
  · obtain ⟨a, y, r, rfl, ha, hs, q⟩ := h
    refine ⟨_, pss_one (ps_ret (pe_call (ok_same S) hr rfl S.same.m S.same.F.kp S.same.b .nil pass0 (pa_cons (pv 0) (pa_cons (pv 1) pa_nil)))), ?_⟩
    exact ⟨_, rfl, _, rfl, a, y, r, rfl, ha, hs, q⟩
theorem scSetEq : FnScope ["self", "other"] ["self", "other"] (defScope sSetEq) := ⟨rfl, rfl, rfl, by decide +kernel, rfl, by decide +kernel, by decide +kernel⟩
theorem ok_SetEq {T : TRows K mg} (S : TSame T) : FnOk P w K mg base CX0 5 S.set.f S.set.fd ["self", "other"] (spSame T) := by
  refine S.set.F.ok scSetEq (fun vs H Q E h => ?_) (fun cdv A outer s H vs Q E hr h => ?_)
  · obtain ⟨a, y, r, rfl, _⟩ := h
    rfl
  · obtain ⟨a, y, r, rfl, ha, hs, q⟩ := h
    refine ⟨_, pss_one (ps_ret (pe_call (ok_same S) hr rfl S.same.m S.same.F.kp S.same.b .nil pass0 (pa_cons (pv 0) (pa_cons (pv 1) pa_nil)))), ?_⟩
    exact ⟨_, rfl, _, rfl, a, y, r, rfl, ha, hs, q⟩
theorem scKeepEq : FnScope ["self", "other"] ["self", "other"] (defScope sKeepEq) := ⟨rfl, rfl, rfl, by decide +kernel, rfl, by decide +kernel, by decide +kernel⟩
theorem ok_KeepEq {T : TRows K mg} (S : TSame T) : FnOk P w K mg base CX0 5 S.keep.f S.keep.fd ["self", "other"] (spSame T) := by
  refine S.keep.F.ok scKeepEq (fun vs H Q E h => ?_) (fun cdv A outer s H vs Q E hr h => ?_)
  · obtain ⟨a, y, r, rfl, _⟩ := h
    rfl
  · obtain ⟨a, y, r, rfl, ha, hs, q⟩ := h
    refine ⟨_, pss_one (ps_ret (pe_call (ok_same S) hr rfl S.same.m S.same.F.kp S.same.b .nil pass0 (pa_cons (pv 0) (pa_cons (pv 1) pa_nil)))), ?_⟩
    exact ⟨_, rfl, _, rfl, a, y, r, rfl, ha, hs, q⟩
theorem scBackEq : FnScope ["self", "other"] ["self", "other"] (defScope sBackEq) := ⟨rfl, rfl, rfl, by decide +kernel, rfl, by decide +kernel, by decide +kernel⟩
theorem ok_BackEq {T : TRows K mg} (S : TSame T) : FnOk P w K mg base CX0 5 S.back.f S.back.fd ["self", "other"] (spSame T) := by
  refine S.back.F.ok scBackEq (fun vs H Q E h => ?_) (fun cdv A outer s H vs Q E hr h => ?_)
  · obtain ⟨a, y, r, rfl, _⟩ := h
    rfl
  · obtain ⟨a, y, r, rfl, ha, hs, q⟩ := h
    refine ⟨_, pss_one (ps_ret (pe_call (ok_same S) hr rfl S.same.m S.same.F.kp S.same.b .nil pass0 (pa_cons (pv 0) (pa_cons (pv 1) pa_nil)))), ?_⟩
    exact ⟨_, rfl, _, rfl, a, y, r, rfl, ha, hs, q⟩
theorem scRefEq : FnScope ["self", "other"] ["self", "other"] (defScope sRefEq) := ⟨rfl, rfl, rfl, by decide +kernel, rfl, by decide +kernel, by decide +kernel⟩
theorem ok_RefEq {T : TRows K mg} (S : TSame T) : FnOk P w K mg base CX0 5 S.ref.f S.ref.fd ["self", "other"] (spSame T) := by
  refine S.ref.F.ok scRefEq (fun vs H Q E h => ?_) (fun cdv A outer s H vs Q E hr h => ?_)
  · obtain ⟨a, y, r, rfl, _⟩ := h
    rfl
  · obtain ⟨a, y, r, rfl, ha, hs, q⟩ := h
    refine ⟨_, pss_one (ps_ret (pe_call (ok_same S) hr rfl S.same.m S.same.F.kp S.same.b .nil pass0 (pa_cons (pv 0) (pa_cons (pv 1) pa_nil)))), ?_⟩
    exact ⟨_, rfl, _, rfl, a, y, r, rfl, ha, hs, q⟩
theorem scPutEq : FnScope ["self", "other"] ["self", "other"] (defScope sPutEq) := ⟨rfl, rfl, rfl, by decide +kernel, rfl, by decide +kernel, by decide +kernel⟩
theorem ok_PutEq {T : TRows K mg} (S : TSame T) : FnOk P w K mg base CX0 5 S.put.f S.put.fd ["self", "other"] (spSame T) := by
  refine S.put.F.ok scPutEq (fun vs H Q E h => ?_) (fun cdv A outer s H vs Q E hr h => ?_)
  · obtain ⟨a, y, r, rfl, _⟩ := h
    rfl
  · obtain ⟨a, y, r, rfl, ha, hs, q⟩ := h
    refine ⟨_, pss_one (ps_ret (pe_call (ok_same S) hr rfl S.same.m S.same.F.kp S.same.b .nil pass0 (pa_cons (pv 0) (pa_cons (pv 1) pa_nil)))), ?_⟩
    exact ⟨_, rfl, _, rfl, a, y, r, rfl, ha, hs, q⟩
theorem scOpenEq : FnScope ["self", "other"] ["self", "other"] (defScope sOpenEq) := ⟨rfl, rfl, rfl, by decide +kernel, rfl, by decide +kernel, by decide +kernel⟩
theorem ok_OpenEq {T : TRows K mg} (S : TSame T) : FnOk P w K mg base CX0 5 S.open_.f S.open_.fd ["self", "other"] (spSame T) := by
  refine S.open_.F.ok scOpenEq (fun vs H Q E h => ?_) (fun cdv A outer s H vs Q E hr h => ?_)
  · obtain ⟨a, y, r, rfl, _⟩ := h
    rfl
  · obtain ⟨a, y, r, rfl, ha, hs, q⟩ := h
    refine ⟨_, pss_one (ps_ret (pe_call (ok_same S) hr rfl S.same.m S.same.F.kp S.same.b .nil pass0 (pa_cons (pv 0) (pa_cons (pv 1) pa_nil)))), ?_⟩
    exact ⟨_, rfl, _, rfl, a, y, r, rfl, ha, hs, q⟩
/-- == of a row with a text or a row -/
def rEqRow (T : TRows K mg) : R2 := fun x y H Q => ∃ (a : Addr) (r : RowD), x = .ref a ∧ RowAt T H a r ∧ rowSmall r ∧ ((∃ z, y = .str z ∧ Q (.bl false) H) ∨ ∃ (b : Addr) (r' : RowD), y = .ref b ∧ RowAt T H b r' ∧ rowSmall r' ∧ Q (.bl (decide (rowText r = rowText r'))) H)
theorem op_eqRow {X : Cx} {T : TRows X.K X.mg} (S : TSame T) (hr : Room 5 X.A) : OpR X (compareOp .Eq) (rEqRow T) := by
  intro pins s σ H x y v u Q I rx ry h
  obtain ⟨a, r, rfl, ha, hs, q⟩ := h
  obtain ⟨dx, ha2⟩ := id ha
  have hright : Right X.K (clsOf T r) H y := by
    rcases q with ⟨z, rfl, _⟩ | ⟨b, r', rfl, ⟨dy, hb⟩, _⟩
    · exact .inl ⟨z, rfl, S.nS r⟩
    · obtain ⟨gs, eg⟩ := insRow_ins T dy r'
      rw [eg] at hb
      exact .inr ⟨b, _, dy, gs, rfl, hb, S.nR r r'⟩
  have hsp : spSame T [.ref a, y] H Q E0 := ⟨a, y, r, rfl, ha, hs, q⟩
  cases r with
  | note c n => exact op_eqIns (ok_NoteEq S) S.note.hf hr S.note.b pass0 pins s σ H (.ref a) y v u Q I rx ry ⟨a, _, dx, _, rfl, ha2, S.note.hs, hright, hsp⟩
  | skip c n => exact op_eqIns (ok_SkipEq S) S.skip.hf hr S.skip.b pass0 pins s σ H (.ref a) y v u Q I rx ry ⟨a, _, dx, _, rfl, ha2, S.skip.hs, hright, hsp⟩
  | set c n => exact op_eqIns (ok_SetEq S) S.set.hf hr S.set.b pass0 pins s σ H (.ref a) y v u Q I rx ry ⟨a, _, dx, _, rfl, ha2, S.set.hs, hright, hsp⟩
  | keep c => exact op_eqIns (ok_KeepEq S) S.keep.hf hr S.keep.b pass0 pins s σ H (.ref a) y v u Q I rx ry ⟨a, _, dx, _, rfl, ha2, S.keep.hs, hright, hsp⟩
  | back c => exact op_eqIns (ok_BackEq S) S.back.hf hr S.back.b pass0 pins s σ H (.ref a) y v u Q I rx ry ⟨a, _, dx, _, rfl, ha2, S.back.hs, hright, hsp⟩
  | ref c => exact op_eqIns (ok_RefEq S) S.ref.hf hr S.ref.b pass0 pins s σ H (.ref a) y v u Q I rx ry ⟨a, _, dx, _, rfl, ha2, S.ref.hs, hright, hsp⟩
  | put c => exact op_eqIns (ok_PutEq S) S.put.hf hr S.put.b pass0 pins s σ H (.ref a) y v u Q I rx ry ⟨a, _, dx, _, rfl, ha2, S.put.hs, hright, hsp⟩
  | opn c => exact op_eqIns (ok_OpenEq S) S.open_.hf hr S.open_.b pass0 pins s σ H (.ref a) y v u Q I rx ry ⟨a, _, dx, _, rfl, ha2, S.open_.hs, hright, hsp⟩
/-- != of a row with a text or a row -/
def rNeRow (T : TRows K mg) : R2 := fun x y H Q => ∃ (a : Addr) (r : RowD), x = .ref a ∧ RowAt T H a r ∧ rowSmall r ∧ ((∃ z, y = .str z ∧ Q (.bl true) H) ∨ ∃ (b : Addr) (r' : RowD), y = .ref b ∧ RowAt T H b r' ∧ rowSmall r' ∧ Q (.bl (!decide (rowText r = rowText r'))) H)
theorem op_neRow {X : Cx} {T : TRows X.K X.mg} (S : TSame T) (hr : Room 6 X.A) : OpR X (compareOp .NotEq) (rNeRow T) := by
  intro pins s σ H x y v u Q I rx ry h
  obtain ⟨a, r, rfl, ha, hs, q⟩ := h
  obtain ⟨dx, ha2⟩ := id ha
  have hright : Right X.K (clsOf T r) H y := by
    rcases q with ⟨z, rfl, _⟩ | ⟨b, r', rfl, ⟨dy, hb⟩, _⟩
    · exact .inl ⟨z, rfl, S.nS r⟩
    · obtain ⟨gs, eg⟩ := insRow_ins T dy r'
      rw [eg] at hb
      exact .inr ⟨b, _, dy, gs, rfl, hb, S.nR r r'⟩
  have hsp : spSame T [.ref a, y] H (fun v H' => ∃ c, v = .bl c ∧ Q (.bl (!c)) H') E0 := ⟨a, y, r, rfl, ha, hs, q.elim (fun ⟨z, e, q⟩ => .inl ⟨z, e, _, rfl, q⟩) fun ⟨b, r', e, h1, h2, q⟩ => .inr ⟨b, r', e, h1, h2, _, rfl, q⟩⟩
  have hne := S.ne r
  have hm := S.cM r
  cases r with
  | note c n => exact op_neIns (ok_NoteEq S) S.note.hf hr S.note.b pass0 pins s σ H (.ref a) y v u Q I rx ry ⟨a, _, dx, _, rfl, ha2, S.note.hs, hne, hm, hright, hsp⟩
  | skip c n => exact op_neIns (ok_SkipEq S) S.skip.hf hr S.skip.b pass0 pins s σ H (.ref a) y v u Q I rx ry ⟨a, _, dx, _, rfl, ha2, S.skip.hs, hne, hm, hright, hsp⟩
  | set c n => exact op_neIns (ok_SetEq S) S.set.hf hr S.set.b pass0 pins s σ H (.ref a) y v u Q I rx ry ⟨a, _, dx, _, rfl, ha2, S.set.hs, hne, hm, hright, hsp⟩
  | keep c => exact op_neIns (ok_KeepEq S) S.keep.hf hr S.keep.b pass0 pins s σ H (.ref a) y v u Q I rx ry ⟨a, _, dx, _, rfl, ha2, S.keep.hs, hne, hm, hright, hsp⟩
  | back c => exact op_neIns (ok_BackEq S) S.back.hf hr S.back.b pass0 pins s σ H (.ref a) y v u Q I rx ry ⟨a, _, dx, _, rfl, ha2, S.back.hs, hne, hm, hright, hsp⟩
  | ref c => exact op_neIns (ok_RefEq S) S.ref.hf hr S.ref.b pass0 pins s σ H (.ref a) y v u Q I rx ry ⟨a, _, dx, _, rfl, ha2, S.ref.hs, hne, hm, hright, hsp⟩
  | put c => exact op_neIns (ok_PutEq S) S.put.hf hr S.put.b pass0 pins s σ H (.ref a) y v u Q I rx ry ⟨a, _, dx, _, rfl, ha2, S.put.hs, hne, hm, hright, hsp⟩
  | opn c => exact op_neIns (ok_OpenEq S) S.open_.hf hr S.open_.b pass0 pins s σ H (.ref a) y v u Q I rx ry ⟨a, _, dx, _, rfl, ha2, S.open_.hs, hne, hm, hright, hsp⟩
end
end Pn

namespace Pn
open PySem PySem.Spec PyProof.Rows L2
/-! ### the law's def at the surrounding that the judge calls it from: there no repr is under way -/
section
variable {P : Program} {w : World} {K : PySem.W.Frag} {mg mb : Str → Option Value} {s₁ : Shared} {a : Addr} {vs : List Value} {ns : List Int}
/-- a tracking of the script alone -/
theorem law_track (KX : K.In s₁.heap) (ha : s₁.heap.get? a = some { cls := .type "list", data := .seq vs.toArray }) (hi : IntsAre vs ns) (hl : ns.length ≤ sizeLine) :
    ∃ H : Hp, Only H ∧ SqL K H a (ns.map V.int) ∧ HOk P w H s₁.heap ∧ ∀ b, H b ≠ none → b = a ∧ K.lookup a = none := by
  have rv := vals_ints hi
  cases hk : K.lookup a with
  | some o =>
    have e := (KX a o hk).symm.trans ha
    cases e
    exact ⟨fun _ => none, fun _ => .inl rfl, .inr ⟨_, vs.toArray, _, hk, rfl, rfl, rfl, by rw [List.size_toArray, hi.length]; exact hl, by simpa using rv⟩, fun b u z => (nomatch (show (none : Option HO) = some u from z)), fun b z => absurd rfl z⟩
  | none =>
    let o : HO := .frz { cls := .type "list", data := .seq vs.toArray } (.lst (ns.map V.int))
    have at_ : upd (fun _ => none) a o a = some o := upd_same
    refine ⟨upd (fun _ => none) a o, fun b => ?_, .inl (.inr ⟨_, at_⟩), fun b u z => ?_, fun b z => ⟨?_, rfl⟩⟩
    · by_cases h : b = a
      · exact .inr ⟨_, _, by rw [h]; exact at_⟩
      · exact .inl (by rw [upd_ne h])
    · by_cases h : b = a
      · rw [h, at_] at z
        cases z
        rw [h]
        exact ⟨ha, by rw [List.length_map]; exact hl, vs, _, rv, ha⟩
      · rw [upd_ne h] at z
        cases z
    · by_cases h : b = a
      · exact h
      · rw [upd_ne h] at z
        exact absurd rfl z
/-- what stands behind it is the module's -/
theorem law_env (KX : K.In s₁.heap) (hns : s₁.heap.Ns mainGlobals mg) (hb : s₁.heap.Ns builtinsNs mb) (hbb : ∀ x : Str, x ≠ "__name__" → mb x = bootBuiltins x) (hlim : s₁.heap.NoLimit) (hg : s₁.gens = #[])
    (ha : s₁.heap.get? a = some { cls := .type "list", data := .seq vs.toArray }) {H : Hp} (hok : HOk P w H s₁.heap) (hA : ∀ b, H b ≠ none → b = a ∧ K.lookup a = none) :
    K.In (hidT s₁.heap H) ∧ (hidT s₁.heap H).Ns mainGlobals mg ∧ Env0 P w K mg (hidT s₁.heap H) callerA [] s₁ H := by
  have free : ∀ {b : Addr}, (b = a → K.lookup a = none → False) → H b = none := fun {b} h => by
    cases q : H b with
    | none => rfl
    | some u =>
      obtain ⟨e1, e2⟩ := hA b (by rw [q]; simp)
      exact (h e1 e2).elim
  have ns_ : ∀ {b : Addr} {m : Str → Option Value}, s₁.heap.Ns b m → (hidT s₁.heap H).Ns b m := fun {b m} ⟨o, es, ep, e, d, r⟩ => ⟨o, es, ep, hidT_get e (free fun z _ => by
    rw [z, ha] at e
    cases e
    exact Data.noConfusion d), d, r⟩
  have kin : K.In (hidT s₁.heap H) := fun b o e => hidT_get (KX b o e) (free fun z n => by
    rw [z, n] at e
    cases e)
  obtain ⟨mc, l1, l2⟩ := hlim
  exact ⟨kin, ns_ hns, rfl, ⟨kin, ns_ hns, ⟨mb, ns_ hb, hbb⟩, ⟨mc, ns_ l1, l2⟩⟩, fun b o e => of_hidT e, Nat.le_of_eq (hidT_size _ _), trivial, fun b h => (by cases (show b ∈ ([] : List Addr) from h)), hok, .of_eq hg⟩
end
end Pn
namespace Pn
open PySem PySem.Spec PyProof.Rows L2
section
variable {P : Program} {w : World} {K : PySem.W.Frag} {mg : Str → Option Value} {base : Heap} {A : Around}
/-- a def's promise at one surrounding, with no frame below -/
def RunAt (P : Program) (w : World) (K : PySem.W.Frag) (mg : Str → Option Value) (base : Heap) (A : Around) (f : Addr) (fd : FuncData) (ps : List Str) (sp : Sp) : Prop :=
  ∀ (s : Shared) (H : Hp) (us : List Value) (vs : List V) (Q : VK) (E : XK), Env0 P w K mg base A [] s H → BindsTo s fd ⟨us, []⟩ (ps.zip us) → Vals vs us → sp vs H Q E → codeAny (model P w) A (.call (.ref f) ⟨us, []⟩) (CR CX0 [] P w H s Q E) s
theorem fun_at {x qual : Str} {st : Stmt} {f : Addr} {fd : FuncData} {N ps : List Str} {k : Nat} {sp : Sp} (F : Fun K x qual st f fd) (S : FnScope N ps (defScope st)) (hr : Room (k + 1) A) (len : ∀ vs H Q E, sp vs H Q E → vs.length = ps.length)
    (hbody : ∀ (cdv : Value) (s : Shared) (H : Hp) (vs : List V) (Q : VK) (E : XK), Room k (A.deeper (envOfC qual (defScope st) s.heap.objs.size f cdv)) → sp vs H Q E →
      ∃ t, PSs (cxOf CX0 P w K mg base N qual (defScope st) f cdv A [] s H E).nox (defBody st) t ∧ t { nx := fun _ H' => Q .non H', rt := Q } (L2.start N vs) H) : RunAt P w K mg base A f fd ps sp := by
  obtain ⟨oc, od, kV, doc, pm, an, cdv, ct, osl, rfl, lk, hcd⟩ := F.ex
  intro s H us vs Q E e0 hb r hsp
  have keep : ∀ b o, base.get? b = some o → s.heap.get? b = some o := fun b o e => (e0.bs b o e).1
  have kin := e0.mod.kin.keeps keep
  have par : ∀ y ∈ ps.zip us, (defScope st).names.lookup y.1 = some .local ∨ ((defScope st).names.lookup y.1 = some .cell ∧ ((cellsFrom (s.heap.objs.size + 1) (defScope st).names []).lookup y.1).isSome = true) := fun y hy =>
    (S.par y.1 (List.of_mem_zip (a := y.1) (b := y.2) hy).1).imp id fun q => ⟨q, PySem.W.cellsFrom_some _ _ _ (.inl q)⟩
  refine codeAny_call_function hr.depth (kin _ _ lk) rfl S.co S.gen rfl (PySem.W.codeRec_of kin hcd) (hb _ _ _ _ (wpAny_newFunctionEnv_cells S.kind par fun env he s1 x => ?_))
  subst he
  obtain ⟨t, ht, hq⟩ := hbody cdv s H vs Q E (hr.deeper _) hsp
  refine ⟨(e0.mod.nolimit.keeps keep).keeps x.toInCall.keep, codeAny_func (wpAny_mono (ht.nox.run [] s1 (L2.start N vs) H _ (inv_start S hr.hd e0 (len _ _ _ _ hsp) r x) hq) (fun fl s' hs => ?_) fun e s' hs => hs)⟩
  cases fl with
  | ret u =>
    obtain ⟨v, σ', H', J, rv, q⟩ := hs
    exact ⟨v, H', J.os, J.bare, J.base, J.hok, rv, q⟩
  | next =>
    obtain ⟨σ', H', J, q⟩ := hs
    exact ⟨V.non, H', J.os, J.bare, J.base, J.hok, rfl, q⟩
  | brk =>
    obtain ⟨_, _, _, q⟩ := hs
    exact False.elim q
  | cont =>
    obtain ⟨_, _, _, q⟩ := hs
    exact False.elim q
end
/-- the goal that k_head leaves, from the law's promise at callerA -/
theorem walk_g {l : PySem.W.OpenLaw} {n : Nat} {q : Program} {loose : List Str} {XP : (Str → Option Value) → Heap → Prop} {YP : World → Heap → Prop} {d : DefRec} {K : Params → PySem.W.Frag} {sp : PySem.W.Frag → Sp} {x : Str}
    (hn : l.most = some n) (hn2 : n ≤ sizeLine) (hdf : d.params.defaults = []) (hY : ∀ (w : World) (h : Heap), YP w h → (K w.params).In h)
    (F : ∀ (w : World) (mg : Str → Option Value) (fa : Addr) (h : Heap), (K w.params).In h → h.Ns mainGlobals mg → mg d.name = some (.ref fa) →
      ∃ fd : FuncData, (∀ (s : Shared) (u : Value), BindsTo s fd ⟨[u], []⟩ [(x, u)]) ∧
        ∀ base : Heap, (K w.params).In base → base.Ns mainGlobals mg → RunAt l.prog w (K w.params) mg base callerA fa fd [x] (sp (K w.params)))
    (hsp : ∀ (K : PySem.W.Frag) (H : Hp) (a : Addr) (ns : List Int), ns.length ≤ n → SqL K H a (ns.map V.int) → sp K [.ref a] H (fun v _ => v = .bl true) fun _ _ _ => False) :
    PySem.W.WalkO q loose XP YP l.row.toRowW d [] (fun f vs => PySem.call f vs) := by
  refine Att.attach_call hn hdf fun w s₀ s₁ mg mb fa o pm cd doc a vs ns G Y ho hd hcd hmg hobj hints hlen hg => ?_
  have KX := hY w _ Y
  obtain ⟨fd, hb, hF⟩ := F w mg fa _ KX G.T.g hmg
  obtain ⟨H, hO, hS, hok, hA⟩ := law_track (P := l.prog) (w := w) KX hobj hints (Nat.le_trans hlen hn2)
  obtain ⟨kin, hns, e0⟩ := law_env KX G.T.g G.T.b G.T.builtins G.T.nolimit hg hobj hok hA
  refine codeAny_mono (hF _ kin hns s₁ H [.ref a] [.ref a] (fun v _ => v = .bl true) (fun _ _ _ => False) e0 (hb s₁ (.ref a)) (.cons rfl .nil) (hsp _ H a ns hlen hS)) fun r s' h => ?_
  cases r with
  | error e => exact False.elim h
  | ok fl =>
    cases fl with
    | next => exact False.elim h
    | brk => exact False.elim h
    | cont => exact False.elim h
    | ret u =>
      obtain ⟨v, H', os, bare, un, hok', rv, hv⟩ := h
      cases (show v = V.bl true from hv)
      cases (show u = Value.bool true from rv)
      refine ⟨rfl, OldK.of_keep fun b o e => ?_, os, bare⟩
      rcases hO b with z | ⟨ob, xs, z⟩
      · exact un.keep b o e z (by intro z; cases (show b ∈ ([] : List Addr) from z)) (by simp)
      · obtain ⟨e1, _⟩ := hok b _ z
        obtain ⟨e2, _⟩ := hok' b _ (un.frzs b ob _ z)
        cases e.symm.trans e1
        exact e2
end Pn

namespace Pn
open PySem PySem.Spec PyProof.Rows L2
/-! ### repr of a tuple of texts and integers, where no repr is under way -/
/-- plain items as data -/
inductive Fl : List V → List PyData → Prop where
  | nil : Fl [] []
  | str {vs ds} (z : Str) (r : Fl vs ds) : Fl (.str z :: vs) (.str z :: ds)
  | int {vs ds} (i : Int) (r : Fl vs ds) : Fl (.int i :: vs) (.int i :: ds)
theorem Fl.reads {h : Heap} : ∀ {vs : List V} {ds : List PyData} {us : List Value}, Fl vs ds → Vals vs us → ReadsAll h us ds []
  | _, _, _, .nil, r => by
    cases r
    exact .nil
  | _, _, _, .str z f, r => by
    cases r with
    | cons r1 r2 =>
      obtain ⟨t, rfl⟩ := r1
      exact .cons (.str z t) (f.reads r2)
  | _, _, _, .int i f, r => by
    cases r with
    | cons r1 r2 =>
      obtain ⟨t, rfl⟩ := r1
      exact .cons (.int i t) (f.reads r2)
section
variable {X : Cx}
def rReprT (K : PySem.W.Frag) : List V → Hp → VK → Prop := fun xs H Q => ∃ (a : Addr) (vs : List V) (ds : List PyData), xs = [.ref a] ∧ SqT K H a vs ∧ Fl vs ds ∧ PyData.showable (.tuple ds) = true ∧ PyData.hasDict (.tuple ds) = false ∧ PyData.depth (.tuple ds) ≤ 10 ∧ (PyData.shown (.tuple ds)).length ≤ sizeLine ∧ Q (.str (PyData.shown (.tuple ds))) H
theorem call_reprT (hg : X.A.guards = some []) {k : Nat} (hr : Room k X.A) : CallR X (.builtin "repr") (rReprT X.K) := by
  intro pins s σ H xs us Q I r h
  obtain ⟨a, vs, ds, rfl, ht, hf, h1, h2, h3, h4, q⟩ := h
  obtain ⟨u, rfl, ru⟩ := r.one
  cases (show u = Value.ref a from ru)
  obtain ⟨its, rv, ⟨o, ho, hcl, n, hd⟩, _⟩ := I.tuple ht
  have hu := hr.units
  refine repr_of_reads' (h₀ := s.heap) (d := .tuple ds) (as := []) (.tuple ho hcl hd (hf.reads rv)) h1 (fun e => by rw [h2] at e; cases e) hg (by omega) (fun _ _ e => e) (fun h' u tk hk => ?_) h4
  exact ⟨.str _, H, I.kept hk, ⟨u, rfl⟩, q⟩
end
end Pn

namespace Pn
open PySem L2 TL
/-! ### texts put together of words: their size -/
def sz1 (l : List Str) : Nat := (l.map fun x => x.length + 1).sum
theorem sz1_cons (x : Str) (l : List Str) : sz1 (x :: l) = x.length + 1 + sz1 l := by
  unfold sz1
  rw [List.map_cons, List.sum_cons]
theorem sz1_app : ∀ l m : List Str, sz1 (l ++ m) = sz1 l + sz1 m
  | [], m => by
    rw [List.nil_append, show sz1 [] = 0 from rfl]
    omega
  | x :: l, m => by
    rw [List.cons_append, sz1_cons, sz1_cons, sz1_app l m]
    omega
theorem sz1_sub {l m : List Str} (h : l.Sublist m) : sz1 l ≤ sz1 m := by
  induction h with
  | slnil => exact Nat.le_refl _
  | cons a _ ih => rw [sz1_cons]; omega
  | cons_cons a _ ih => rw [sz1_cons, sz1_cons]; omega
/-- words of at most n signs with as many blanks, all of good signs -/
def Sm (n : Nat) (l : List Str) : Prop := sz1 l ≤ n ∧ ∀ x ∈ l, PyData.strOk x = true
theorem Sm.sub {n : Nat} {l m : List Str} (h : Sm n m) (s : l.Sublist m) : Sm n l := ⟨Nat.le_trans (sz1_sub s) h.1, fun x hx => h.2 x (s.subset hx)⟩
theorem Sm.app {n k : Nat} {l m : List Str} (h : Sm n l) (g : Sm k m) : Sm (n + k) (l ++ m) := ⟨by rw [sz1_app]; exact Nat.add_le_add h.1 g.1, fun x hx => (List.mem_append.mp hx).elim (h.2 x) (g.2 x)⟩
theorem joinL_len : ∀ l : List Str, (joinL (tl " ") (l.map tl)).length ≤ sz1 l ∧ sz1 l ≤ (joinL (tl " ") (l.map tl)).length + 1
  | [] => ⟨Nat.le_refl _, Nat.zero_le _⟩
  | [a] => by
    show (tl a).length ≤ sz1 [a] ∧ sz1 [a] ≤ (tl a).length + 1
    rw [sz1_cons, ← len_tl, show sz1 [] = 0 from rfl]
    omega
  | a :: b :: r => by
    have q := joinL_len (b :: r)
    rw [sz1_cons]
    show (tl a ++ (tl " " ++ joinL (tl " ") ((b :: r).map tl))).length ≤ _ ∧ _ ≤ (tl a ++ (tl " " ++ joinL (tl " ") ((b :: r).map tl))).length + 1
    rw [List.length_append, List.length_append, ← len_tl, show (tl " ").length = 1 from by decide +kernel]
    omega
theorem joinL_mem : ∀ (l : List Str) (c : Nat), c ∈ joinL (tl " ") (l.map tl) → c ∈ tl " " ∨ ∃ x ∈ l, c ∈ tl x
  | [], c, h => by cases h
  | [a], c, h => .inr ⟨a, by simp, h⟩
  | a :: b :: r, c, h => by
    rcases List.mem_append.mp h with h | h
    · exact .inr ⟨a, by simp, h⟩
    · rcases List.mem_append.mp h with h | h
      · exact .inl h
      · rcases joinL_mem (b :: r) c h with h | ⟨x, hx, hc⟩
        · exact .inl h
        · exact .inr ⟨x, List.mem_cons_of_mem _ hx, hc⟩
theorem Sm.join {n : Nat} {l : List Str} (h : Sm n l) : (Txt.join " " l).length ≤ n ∧ PyData.strOk (Txt.join " " l) = true := by
  have e : tl (Txt.join " " l) = joinL (tl " ") (l.map tl) := by rw [join_eq]; exact tl_join " " l
  refine ⟨?_, strOk_tl.mpr fun c hc => ?_⟩
  · rw [len_tl, e]
    exact Nat.le_trans (joinL_len l).1 h.1
  · rw [e] at hc
    rcases joinL_mem l c hc with hc | ⟨x, hx, hc⟩
    · exact strOk_tl.mp (show PyData.strOk " " = true by decide +kernel) c hc
    · exact strOk_tl.mp (h.2 x hx) c hc
theorem sz1_lens : ∀ l : List Str, (l.map (·.length)).sum + l.length * (" " : Str).length = sz1 l
  | [] => rfl
  | x :: l => by
    have q := sz1_lens l
    rw [show (" " : Str).length = 1 from by decide +kernel] at q ⊢
    rw [sz1_cons, List.map_cons, List.sum_cons, List.length_cons]
    omega
theorem Sm.fits {n : Nat} {l : List Str} (h : Sm n l) (hn : n ≤ 16777216) : (l.map (·.length)).sum + l.length * (" " : Str).length ≤ 16777216 := by
  rw [sz1_lens]
  exact Nat.le_trans h.1 hn
theorem sm_split {z : Str} {n : Nat} (hl : z.length ≤ n) (hok : PyData.strOk z = true) : Sm (n + 1) (Txt.split z " ") := by
  have e := PySem.StrLaws.join_split z " "
  have e2 : tl (Txt.join " " (Txt.split z " ")) = joinL (tl " ") ((Txt.split z " ").map tl) := by rw [join_eq]; exact tl_join " " _
  have e3 : (joinL (tl " ") ((Txt.split z " ").map tl)).length = z.length := by
    rw [← e2, ← len_tl, join_eq]
    exact congrArg Str.length e
  refine ⟨?_, fun x hx => strOk_tl.mpr fun c hc => strOk_tl.mp hok c ((split_len (z := z) rfl x hx).2 c hc)⟩
  have := (joinL_len (Txt.split z " ")).2
  omega
theorem sm_row {r : RowD} (h : rowValid r) : (rowText r).length ≤ 63 ∧ PyData.strOk (rowText r) = true := by
  obtain ⟨h1, _, h2⟩ := words_small h
  have h3 : Sm 63 (rowWords r) := by
    refine ⟨?_, fun x hx => (h2 x hx).2⟩
    have key : ∀ l : List Str, (∀ x ∈ l, x.length ≤ 20) → sz1 l ≤ 21 * l.length := by
      intro l
      induction l with
      | nil => intro _; exact Nat.le_refl _
      | cons x l ih =>
        intro hx
        have q1 := hx x List.mem_cons_self
        have q2 := ih fun y hy => hx y (List.mem_cons_of_mem _ hy)
        rw [sz1_cons, List.length_cons]
        omega
    have := key (rowWords r) fun x hx => (h2 x hx).1
    omega
  exact h3.join
theorem cut_sub (ws : List Str) (lo hi : Option Int) : ∃ us : List Str, cutV (ws.map V.str) lo hi = us.map V.str ∧ us.Sublist ws := by
  refine ⟨(ws.drop (HT.sIx (ws.map V.str).length 0 lo)).take (HT.sIx (ws.map V.str).length (ws.map V.str).length hi - HT.sIx (ws.map V.str).length 0 lo), ?_, (List.take_sublist _ _).trans (List.drop_sublist _ _)⟩
  unfold cutV
  rw [List.map_take, List.map_drop]
/-- repr of a text or an integer -/
def rReprF : List V → Hp → VK → Prop := fun xs H Q => (∃ z : Str, xs = [.str z] ∧ z.length ≤ 1000 ∧ PyData.strOk z = true ∧ Q (.str (PySem.reprText z)) H) ∨ ∃ i : Int, xs = [.int i] ∧ i.natAbs.log2 < 1920 ∧ Q (.str (Str.ofString (toString i))) H
theorem repr_fits {z : Str} (hl : z.length ≤ 1000) (hok : PyData.strOk z = true) : (PySem.reprText z).length ≤ sizeLine := by
  have q := StrLaws.reprText_len z fun c hc => by
    have q := strOk_tl.mp hok c hc
    have e : (16 : Nat) ^ 8 = 4294967296 := by decide
    omega
  have e : (1000000 : Nat) ≤ sizeLine := by decide
  omega
theorem call_reprF {X : Cx} : CallR X (.builtin "repr") rReprF := fun pins s σ H xs us Q I r h => by
  rcases h with ⟨z, rfl, hl, hok, q⟩ | h
  · obtain ⟨u, rfl, ru⟩ := r.one
    obtain ⟨t, rfl⟩ := ru
    exact PySem.P.repr_of_str ⟨.str _, H, I.tok _, ⟨_, rfl⟩, q⟩ (repr_fits hl hok)
  · exact SkE.call_repr_int pins s σ H xs us Q I r h
end Pn

namespace Pn
open PySem L2 TL
/-! ### what the law asks of a made row -/
/-- plain data that is small -/
def smallD : PyData → Prop
  | .str z => z.length ≤ 20 ∧ PyData.strOk z = true
  | .int i => ∃ n : Nat, i = (n : Int) ∧ n < 10 ^ 20
  | _ => False
theorem small_shown {d : PyData} (h : smallD d) : (PyData.shown d).length ≤ 300 := by
  cases d with
  | str z =>
    rw [PyData.shown_str]
    have q := StrLaws.reprText_len z fun c hc => by
      have q := strOk_tl.mp h.2 c hc
      have e : (16 : Nat) ^ 8 = 4294967296 := by decide
      omega
    have := h.1
    omega
  | int i =>
    obtain ⟨n, rfl, hn⟩ := h
    rw [PyData.shown_int]
    exact Nat.le_trans (numStr_len hn) (by decide)
  | _ => exact False.elim h
theorem small_showable {d : PyData} (h : smallD d) : PyData.showable d = true ∧ PyData.hasDict d = false ∧ PyData.depth d = 0 := by
  cases d with
  | str z => exact ⟨by simp only [PyData.showable], by simp only [PyData.hasDict], by simp only [PyData.depth]⟩
  | int i =>
    obtain ⟨n, rfl, hn⟩ := h
    refine ⟨?_, by simp only [PyData.hasDict], by simp only [PyData.depth]⟩
    simp only [PyData.showable]
    refine decide_eq_true ?_
    rw [Int.natAbs_natCast]
    by_cases h0 : n = 0
    · subst h0; decide
    · exact (Nat.log2_lt h0).mpr (Nat.lt_of_lt_of_le hn (by decide))
  | _ => exact False.elim h
theorem small_all : ∀ {ds : List PyData}, (∀ d ∈ ds, smallD d) → PyData.showableAll ds = true ∧ PyData.hasDictAll ds = false ∧ PyData.depthAll ds = 0 ∧ ((PyData.shownAll ds).map (·.length)).sum ≤ 300 * ds.length
  | [], _ => ⟨by simp only [PyData.showableAll], by simp only [PyData.hasDictAll], by simp only [PyData.depthAll], by simp only [PyData.shownAll]; exact Nat.zero_le _⟩
  | d :: ds, h => by
    obtain ⟨a1, a2, a3⟩ := small_showable (h d List.mem_cons_self)
    obtain ⟨b1, b2, b3, b4⟩ := small_all fun x hx => h x (List.mem_cons_of_mem _ hx)
    have a4 := small_shown (h d List.mem_cons_self)
    refine ⟨by simp only [PyData.showableAll, a1, b1, Bool.and_self], by simp only [PyData.hasDictAll, a2, b2, Bool.or_self], by simp only [PyData.depthAll, a3, b3, Nat.max_self], ?_⟩
    simp only [PyData.shownAll, List.map_cons, List.sum_cons, List.length_cons]
    omega
theorem small_tuple {ds : List PyData} (h : ∀ d ∈ ds, smallD d) (hl : ds.length ≤ 1000) : PyData.showable (.tuple ds) = true ∧ PyData.hasDict (.tuple ds) = false ∧ PyData.depth (.tuple ds) ≤ 10 ∧ (PyData.shown (.tuple ds)).length ≤ sizeLine := by
  obtain ⟨b1, b2, b3, b4⟩ := small_all h
  refine ⟨by simp only [PyData.showable, b1], by simp only [PyData.hasDict, b2], by simp only [PyData.depth, b3]; decide, ?_⟩
  simp only [PyData.shown]
  have q := tupleText_len_le (PyData.shownAll ds)
  rw [PyData.shownAll_length] at q
  have e : (400000 : Nat) ≤ sizeLine := by decide
  omega
def rowWord : RowD → Str
  | .note _ _ => "note"
  | .skip _ _ => "skip"
  | .set _ _ => "set"
  | .keep _ => "keep"
  | .back _ => "back"
  | .ref _ => "ref"
  | .put _ => "put"
  | .opn _ => "open"
theorem tup_word (r : RowD) : (rowTup r)[0]? = some (.str (rowWord r)) := by cases r <;> rfl
/-- what a row tells but for its word, as data -/
theorem tail_data {r : RowD} (h : rowValid r) : ∃ ds, Fl (rowTup r).tail ds ∧ PyData.showable (.tuple ds) = true ∧ PyData.hasDict (.tuple ds) = false ∧ PyData.depth (.tuple ds) ≤ 10 ∧ (PyData.shown (.tuple ds)).length ≤ sizeLine := by
  have nm : ∀ {z : Str}, nameS z = true → smallD (.str z) := fun h => ⟨Nat.le_trans (name_ok h).2 (by decide), (name_ok h).1⟩
  have one : ∀ {c : Str}, nameS c = true → ∃ ds, Fl [.str c] ds ∧ PyData.showable (.tuple ds) = true ∧ PyData.hasDict (.tuple ds) = false ∧ PyData.depth (.tuple ds) ≤ 10 ∧ (PyData.shown (.tuple ds)).length ≤ sizeLine := fun {c} hc =>
    ⟨[.str c], .str c .nil, small_tuple (fun d hd => by rw [List.mem_singleton.mp hd]; exact nm hc) (by show 1 ≤ 1000; decide)⟩
  have two : ∀ {c : Str} {n : Nat}, nameS c = true → n < 10 ^ 10 → ∃ ds, Fl [.str c, .int (n : Int)] ds ∧ PyData.showable (.tuple ds) = true ∧ PyData.hasDict (.tuple ds) = false ∧ PyData.depth (.tuple ds) ≤ 10 ∧ (PyData.shown (.tuple ds)).length ≤ sizeLine := fun {c n} hc hn =>
    ⟨[.str c, .int (n : Int)], .str c (.int _ .nil), small_tuple (fun d hd => by
      rcases List.mem_cons.mp hd with rfl | hd
      · exact nm hc
      · rw [List.mem_singleton.mp hd]; exact ⟨n, rfl, Nat.lt_trans hn (by decide)⟩) (by show 2 ≤ 1000; decide)⟩
  cases r with
  | note c l => exact ⟨[.str c, .str l], .str c (.str l .nil), small_tuple (fun d hd => by
      rcases List.mem_cons.mp hd with rfl | hd
      · exact nm h.1
      · rw [List.mem_singleton.mp hd]
        rcases h.2 with rfl | h2
        · exact ⟨by decide +kernel, by decide +kernel⟩
        · exact nm h2) (by show 2 ≤ 1000; decide)⟩
  | skip c n => exact two h.1 h.2.2
  | set c n => exact two h.1 h.2
  | keep c => exact one h
  | back c => exact one h
  | ref c => exact one h
  | put c => exact one h
  | opn c => exact one h
theorem tail_cut (r : RowD) : cutV (rowTup r) (some 1) none = (rowTup r).tail ∧ ¬ (HT.sIx (rowTup r).length 0 (some 1) = 0 ∧ HT.sIx (rowTup r).length (rowTup r).length none = (rowTup r).length) := by
  cases r <;> exact ⟨rfl, fun z => absurd (show (1 : Nat) = 0 from z.1) (by decide)⟩
theorem valid_small {r : RowD} (h : rowValid r) : rowSmall r := by
  have b : ∀ {n : Nat}, n < 10 ^ 10 → n < 10 ^ 20 := fun h => Nat.lt_trans h (by decide)
  cases r with
  | note c l => exact ⟨name_small h.1, by rcases h.2 with rfl | z; exact (by decide +kernel : ("" : Str).length ≤ 100); exact name_small z⟩
  | skip c n => exact ⟨name_small h.1, b h.2.2⟩
  | set c n => exact ⟨name_small h.1, b h.2⟩
  | keep c => exact name_small h
  | back c => exact name_small h
  | ref c => exact name_small h
  | put c => exact name_small h
  | opn c => exact name_small h
section
variable {P : Program} {w : World} {K : PySem.W.Frag} {mg : Str → Option Value} {base : Heap}
/-- the word of an instance of a row -/
theorem row_word (T : TRows K mg) {H : Hp} {a : Addr} {r : RowD} (h : RowAt T H a r) : ∃ dx fs, H a = some (.ins (clsOf T r) dx fs) ∧ Cls K (clsOf T r) ∧ NoAttr K (clsOf T r) "word" ∧ fs.lookup ("word" : Str) = some (V.str (rowWord r)) := by
  obtain ⟨dx, ha⟩ := h
  cases r with
  | note c l => exact ⟨dx, _, ha, T.note.cl, T.note.noW, by rw [lookup_putF, if_neg (by decide +kernel), lookup_putF, if_neg (by decide +kernel), lookup_putF, if_pos rfl]; rfl⟩
  | skip c n => exact ⟨dx, _, ha, T.skip.cl, T.skip.noW, by rw [lookup_putF, if_neg (by decide +kernel), lookup_putF, if_neg (by decide +kernel), lookup_putF, if_pos rfl]; rfl⟩
  | set c n => exact ⟨dx, _, ha, T.set.cl, T.set.noW, by rw [lookup_putF, if_neg (by decide +kernel), lookup_putF, if_neg (by decide +kernel), lookup_putF, if_pos rfl]; rfl⟩
  | keep c => exact ⟨dx, _, ha, T.keep.cl, T.keep.noW, by rw [lookup_putF, if_neg (by decide +kernel), lookup_putF, if_pos rfl]; rfl⟩
  | back c => exact ⟨dx, _, ha, T.back.cl, T.back.noW, by rw [lookup_putF, if_neg (by decide +kernel), lookup_putF, if_pos rfl]; rfl⟩
  | ref c => exact ⟨dx, _, ha, T.ref.cl, T.ref.noW, by rw [lookup_putF, if_neg (by decide +kernel), lookup_putF, if_pos rfl]; rfl⟩
  | put c => exact ⟨dx, _, ha, T.put.cl, T.put.noW, by rw [lookup_putF, if_neg (by decide +kernel), lookup_putF, if_pos rfl]; rfl⟩
  | opn c => exact ⟨dx, _, ha, T.open_.cl, T.open_.noW, by rw [lookup_putF, if_neg (by decide +kernel), lookup_putF, if_pos rfl]; rfl⟩
theorem RowAt.same {T : TRows K mg} {H H' : Hp} {a : Addr} {r : RowD} (h : RowAt T H a r) (s : Same H H') : RowAt T H' a r := h.elim fun dx e => ⟨dx, s _ _ e⟩
end
end Pn

namespace Pn
open PySem L2
/-! ### parts as they are drawn, and their unrolled text -/
abbrev PartD := Str × List RowD
def expand (kn : List PartD) : RowD → List RowD
  | .put z => (kn.lookup z).getD []
  | r => [r]
def unrollIn (kn : List PartD) (rs : List RowD) : List RowD := rs.flatMap (expand kn)
def knowns (bk : List PartD) : List PartD := bk.foldl (fun kn p => (p.1, unrollIn kn p.2) :: kn) []
def unrolled (bk : List PartD) : List RowD := ((knowns bk).head?.map (·.2)).getD []
theorem knowns_snoc (bk : List PartD) (p : PartD) : knowns (bk ++ [p]) = (p.1, unrollIn (knowns bk) p.2) :: knowns bk := by
  unfold knowns
  rw [List.foldl_append]
  rfl
theorem knowns_len (bk : List PartD) : (knowns bk).map (·.1) = (bk.map (·.1)).reverse := by
  unfold knowns
  have q : ∀ (l : List PartD) (kn : List PartD), (l.foldl (fun kn p => (p.1, unrollIn kn p.2) :: kn) kn).map (·.1) = (l.map (·.1)).reverse ++ kn.map (·.1) := by
    intro l
    induction l with
    | nil => intro kn; rfl
    | cons p l ih =>
      intro kn
      rw [List.foldl_cons, ih]
      simp
  rw [q]
  simp
def RowsAt (H : Hp) (us : List Addr) (rs : List RowD) : Prop := Paired (fun t r => H t = some (.tup (rowTup r))) us rs
def LstAt (H : Hp) (a : Addr) (rs : List RowD) : Prop := ∃ us : List Addr, H a = some (.lst (us.map V.ref)) ∧ RowsAt H us rs
def PartAt (H : Hp) (t : Addr) (p : PartD) : Prop := ∃ ra, H t = some (.tup [.str p.1, .ref ra]) ∧ LstAt H ra p.2
def PartsAt (H : Hp) (a : Addr) (bk : List PartD) : Prop := ∃ ts : List Addr, H a = some (.lst (ts.map V.ref)) ∧ Paired (PartAt H) ts bk
theorem RowsAt.same {H H' : Hp} {us : List Addr} {rs : List RowD} (h : RowsAt H us rs) (s : Same H H') : RowsAt H' us rs := paired_mono (fun _ _ e => s _ _ e) h
theorem LstAt.same {H H' : Hp} {a : Addr} {rs : List RowD} (h : LstAt H a rs) (s : Same H H') : LstAt H' a rs := by
  obtain ⟨us, e, p⟩ := h
  exact ⟨us, s _ _ e, p.same s⟩
theorem PartAt.same {H H' : Hp} {t : Addr} {p : PartD} (h : PartAt H t p) (s : Same H H') : PartAt H' t p := by
  obtain ⟨ra, e, q⟩ := h
  exact ⟨ra, s _ _ e, q.same s⟩
theorem PartsAt.same {H H' : Hp} {a : Addr} {bk : List PartD} (h : PartsAt H a bk) (s : Same H H') : PartsAt H' a bk := by
  obtain ⟨ts, e, p⟩ := h
  exact ⟨ts, s _ _ e, paired_mono (fun _ _ z => z.same s) p⟩
theorem rows_dk {H : Hp} {K : Addr} {kvs kv2 : List (Key × V)} (hK : H K = some (.dK kvs)) {us : List Addr} {rs : List RowD} (h : RowsAt H us rs) : RowsAt (upd H K (.dK kv2)) us rs :=
  paired_mono (fun a _ e => by rw [upd_ne (fun z => by rw [z, hK] at e; cases e)]; exact e) h
theorem lst_dk {H : Hp} {K a : Addr} {kvs kv2 : List (Key × V)} {rs : List RowD} (hK : H K = some (.dK kvs)) (h : LstAt H a rs) : LstAt (upd H K (.dK kv2)) a rs := by
  obtain ⟨us, e, p⟩ := h
  exact ⟨us, by rw [upd_ne (fun z => by rw [z, hK] at e; cases e)]; exact e, rows_dk hK p⟩
theorem rows_lst {H : Hp} {F : Addr} {xs ys : List V} (hF : H F = some (.lst xs)) {us : List Addr} {rs : List RowD} (h : RowsAt H us rs) : RowsAt (upd H F (.lst ys)) us rs :=
  paired_mono (fun a _ e => by rw [upd_ne (fun z => by rw [z, hF] at e; cases e)]; exact e) h
theorem Same.updn {H H1 : Hp} {p : Addr} {o : HO} (s : Same H H1) (h : H p = none) : Same H (upd H1 p o) := fun a u e => by
  rw [upd_ne (ne_of_none e h)]
  exact s a u e
theorem paired_at' {α β : Type} {R : α → β → Prop} : ∀ {l : List α} {m : List β} {i : Nat} {y : β}, Paired R l m → m[i]? = some y → ∃ x, l[i]? = some x ∧ R x y
  | _, _, _, _, .nil, h => by simp at h
  | _, _, 0, _, .cons a _, h => by
    have e := Option.some.inj h
    subst e
    exact ⟨_, rfl, a⟩
  | _, _, i + 1, _, .cons _ b, h => paired_at' (i := i) b h
theorem paired_app {α β : Type} {R : α → β → Prop} : ∀ {l : List α} {m : List β} {l2 : List α} {m2 : List β}, Paired R l m → Paired R l2 m2 → Paired R (l ++ l2) (m ++ m2)
  | _, _, _, _, .nil, h => h
  | _, _, _, _, .cons a b, h => .cons a (paired_app b h)
def headW : RowD → Str
  | .note _ _ => "note"
  | .skip _ _ => "skip"
  | .set _ _ => "set"
  | .keep _ => "keep"
  | .back _ => "back"
  | .ref _ => "ref"
  | .put _ => "put"
  | .opn _ => "open"
theorem head_put : ∀ {r : RowD}, (¬ ∃ z, r = .put z) → decide (V.str (headW r) = V.str "put") = false
  | .note _ _, _ => (by decide +kernel : decide (V.str "note" = V.str "put") = false)
  | .skip _ _, _ => (by decide +kernel : decide (V.str "skip" = V.str "put") = false)
  | .set _ _, _ => (by decide +kernel : decide (V.str "set" = V.str "put") = false)
  | .keep _, _ => (by decide +kernel : decide (V.str "keep" = V.str "put") = false)
  | .back _, _ => (by decide +kernel : decide (V.str "back" = V.str "put") = false)
  | .ref _, _ => (by decide +kernel : decide (V.str "ref" = V.str "put") = false)
  | .put z, h => absurd ⟨z, rfl⟩ h
  | .opn _, _ => (by decide +kernel : decide (V.str "open" = V.str "put") = false)
/-- puts are of earlier parts; no part is long -/
def PutsOk (bk : List PartD) : Prop := ∀ (i : Nat) (p : PartD), bk[i]? = some p → p.2.length ≤ 6 ∧ ∀ z, RowD.put z ∈ p.2 → z ∈ (bk.take i).map (·.1)
/-- what the dict of the unrolled parts holds -/
def KnAt (H0 H : Hp) (kvs : List (Key × V)) (kn : List PartD) : Prop := ∀ z rs, kn.lookup z = some rs → ∃ f, valV kvs (.inr z) = some (.ref f) ∧ H0 f = none ∧ LstAt H f rs
theorem lookup_of_mem : ∀ {kn : List PartD} {z : Str}, z ∈ kn.map (·.1) → ∃ rs, kn.lookup z = some rs ∧ (z, rs) ∈ kn
  | [], z, h => by cases h
  | (y, rs) :: kn, z, h => by
    by_cases e : z = y
    · subst e
      exact ⟨rs, by rw [List.lookup_cons]; simp, List.mem_cons_self⟩
    · have h2 : z ∈ kn.map (·.1) := by
        rcases List.mem_cons.mp h with h | h
        · exact absurd h e
        · exact h
      obtain ⟨rs2, h3, h4⟩ := lookup_of_mem h2
      refine ⟨rs2, ?_, List.mem_cons_of_mem _ h4⟩
      rw [List.lookup_cons, show (z == y) = false from by simpa using e]
      exact h3
theorem tup_head (r : RowD) : (rowTup r)[0]? = some (.str (headW r)) := by cases r <;> rfl
theorem roomU {k : Nat} {A : Around} (r : Room k A) : A.units + 1 < cLine := by have := r.un; omega
theorem putK_len {κ : Type} [DecidableEq κ] (kvs : List (κ × V)) (k : κ) (v : V) : (putK kvs k v).length ≤ kvs.length + 1 := by
  unfold putK
  split
  · rw [List.length_map]; omega
  · rw [List.length_append]; simp
section
variable {P : Program} {w : World} {K : PySem.W.Frag} {mg : Str → Option Value} {base : Heap}
def spUnrolled : Sp := fun vs H Q _ => ∃ (pa : Addr) (bk : List PartD), vs = [.ref pa] ∧ PartsAt H pa bk ∧ PutsOk bk ∧ bk ≠ [] ∧ bk.length ≤ 4 ∧ ∀ (F : Addr) (H' : Hp), Same H H' → H F = none → LstAt H' F (unrolled bk) → (unrolled bk).length ≤ 1296 → Q (.ref F) H'
end
end Pn

namespace Pn
open PySem L2 TL
abbrev sIsSeq : Stmt := top 7
abbrev sPartInit : Stmt := inClass (top 37) 0
abbrev sPartStr : Stmt := inClass (top 37) 1
abbrev sPartEq : Stmt := inClass (top 37) 2
abbrev sIPInit : Stmt := inClass (top 12) 0
/-! ### a sequence, and which of its things are rows -/
def seqD : PyData → Bool
  | .list _ => true
  | .tuple _ => true
  | _ => false
theorem kit_two {K : PySem.W.Frag} {t : String} {a b : Bool} (h1 : kitB t "list" = some a) (h2 : kitB t "tuple" = some b) : PySem.W.kitAny K (.type t) [.type "list", .type "tuple"] = some (a || b) := by
  cases a
  · refine kitAny_cons (kit_ty h1) (fun _ => kitAny_cons (kit_ty h2) (fun z => ?_) (fun z => ?_)) (fun z => nomatch z)
    · rw [z]; exact kitAny_nil
    · rw [z]; rfl
  · exact kitAny_cons (kit_ty h1) (fun z => nomatch z) (fun _ => rfl)
theorem kit_seq {K : PySem.W.Frag} : ∀ d : PyData, PySem.W.kitAny K (.type (tyD d)) [.type "list", .type "tuple"] = some (seqD d)
  | .none => kit_two (by decide +kernel : kitB "NoneType" "list" = some false) (by decide +kernel : kitB "NoneType" "tuple" = some false)
  | .bool _ => kit_two (by decide +kernel : kitB "bool" "list" = some false) (by decide +kernel : kitB "bool" "tuple" = some false)
  | .int _ => kit_two (by decide +kernel : kitB "int" "list" = some false) (by decide +kernel : kitB "int" "tuple" = some false)
  | .str _ => kit_two (by decide +kernel : kitB "str" "list" = some false) (by decide +kernel : kitB "str" "tuple" = some false)
  | .list _ => kit_two (by decide +kernel : kitB "list" "list" = some true) (by decide +kernel : kitB "list" "tuple" = some false)
  | .tuple _ => kit_two (by decide +kernel : kitB "tuple" "list" = some false) (by decide +kernel : kitB "tuple" "tuple" = some true)
  | .dict _ => kit_two (by decide +kernel : kitB "dict" "list" = some false) (by decide +kernel : kitB "dict" "tuple" = some false)
theorem sql_ty {K : PySem.W.Frag} {H : Hp} {p : Addr} {xs : List V} (h : SqL K H p xs) : TyX K H (.ref p) (.type "list") := by
  rcases h with (s | ⟨o, s⟩) | ⟨o, _, _, e, c, _⟩
  · exact .base (.lst s)
  · exact .base (.frz s)
  · exact .kList e c
theorem sqt_ty {K : PySem.W.Frag} {H : Hp} {p : Addr} {xs : List V} (h : SqT K H p xs) : TyX K H (.ref p) (.type "tuple") := by
  rcases h with (s | ⟨o, s⟩) | ⟨o, _, _, e, c, _⟩
  · exact .base (.tup s)
  · exact .fTuple s
  · exact .kTuple e c
theorem sql_ins {K : PySem.W.Frag} {H : Hp} {x C dx p : Addr} {fs : List (Str × V)} {o : HO} {xs : List V} (hx : H x = some (.ins C dx fs)) (h : SqL K H p xs) : SqL K (upd H x o) p xs := by
  rcases h with (s | ⟨u, s⟩) | s
  · exact .inl (.inl (by rw [upd_ne (fun z => by rw [z, hx] at s; cases s)]; exact s))
  · exact .inl (.inr ⟨u, by rw [upd_ne (fun z => by rw [z, hx] at s; cases s)]; exact s⟩)
  · exact .inr s
theorem sqt_ins {K : PySem.W.Frag} {H : Hp} {x C dx p : Addr} {fs : List (Str × V)} {o : HO} {xs : List V} (hx : H x = some (.ins C dx fs)) (h : SqT K H p xs) : SqT K (upd H x o) p xs := by
  rcases h with (s | ⟨u, s⟩) | s
  · exact .inl (.inl (by rw [upd_ne (fun z => by rw [z, hx] at s; cases s)]; exact s))
  · exact .inl (.inr ⟨u, by rw [upd_ne (fun z => by rw [z, hx] at s; cases s)]; exact s⟩)
  · exact .inr s
section
variable {X : Cx} {tg : Expr}
/-- for x in a list or a tuple: whichever it is known to be -/
def iSeq (K : PySem.W.Frag) (tl : TE) : TI := fun σ H R => iList K tl σ H R ∨ iTup K tl σ H R
theorem pi_seq {l : Expr} {tl : TE} (hl : PE X l tl) : PI X tg l (iSeq X.K tl) :=
  ⟨fun pins s σ H R I h => h.elim (fun a => (pi_list hl).run pins s σ H R I a) fun a => (pi_tup hl).run pins s σ H R I a⟩
end
section
variable {P : Program} {w : World} {K : PySem.W.Frag} {mg : Str → Option Value} {base : Heap}
/-- a method of an own class -/
structure TMeth (K : PySem.W.Frag) (C : Addr) (nm qual : Str) (st : Stmt) (ps : List Str) : Type where
  f : Addr
  fd : FuncData
  F : Fun K nm qual st f fd
  b : Binds K fd ps []
  hs : PySem.W.findIn K (.ref C) nm = some (some (.ref f))
  hf : PySem.W.isFn K (.ref f) = true
/-- a row, or data -/
def RowFlag (R : TRows K mg) (H : Hp) (x : V) (b : Bool) : Prop := (b = true ∧ ∃ a r, x = .ref a ∧ RowAt R H a r) ∨ (b = false ∧ ∃ d, Dp K H x d)
theorem RowFlag.same {R : TRows K mg} {H H' : Hp} {x : V} {b : Bool} (h : RowFlag R H x b) (s : Same H H') : RowFlag R H' x b := by
  rcases h with ⟨e, a, r, ex, h⟩ | ⟨e, d, h⟩
  · exact .inl ⟨e, a, r, ex, h.same s⟩
  · exact .inr ⟨e, d, dp_same s d x h⟩
structure TPart {K : PySem.W.Frag} {mg : Str → Option Value} (R : TRows K mg) : Type where
  S : TStrs R
  CR : Addr
  mR : mg "Row" = some (.ref CR)
  kR : ∀ r, PySem.W.kitOne K (.ref (clsOf R r)) (.ref CR) = some true
  kD : ∀ d : PyData, PySem.W.kitOne K (.type (tyD d)) (.ref CR) = some false
  cA : ∀ r, PySem.W.findIn K (.ref (clsOf R r)) "__class__" = some (some (.builtin "object.__class__"))
  cN : PySem.W.specialIn K (.builtin "object.__class__") "__get__" = some (some (.builtin "getset_descriptor.__get__"))
  cT : PySem.W.takesIn K (.builtin "object.__class__") = some true
  cM : ∀ r, PySem.W.mroIn K (clsOf R r) (.type "object") = some true
  mList : mg "list" = none
  mTup : mg "tuple" = none
  isSeq : At K mg "is_sequence" sIsSeq ["value"]
  IP : TExc K mg "InvalidPart" "InvalidPart.__init__" "word" sIPInit
  C : Addr
  mC : mg "Part" = some (.ref C)
  fI : Addr
  fdI : FuncData
  dRows : Addr
  hRows : ∀ H, SqT K H dRows []
  FI : FunD K "__init__" "Part.__init__" (defArgs sPartInit) (defBody sPartInit) (defScope sPartInit) [.ref dRows] [] fI fdI
  bI : Binds K fdI ["self", "name", "rows"] []
  ds1 : List Value
  v1 : Vals [V.ref dRows] ds1
  b1 : Binds K fdI ["self", "name", "rows"] ds1
  M : Mk K C fI
  cl : Cls K C
  noN : NoAttr K C "name"
  noR : NoAttr K C "rows"
  pA : PySem.W.findIn K (.ref C) "__class__" = some (some (.builtin "object.__class__"))
  pM : PySem.W.mroIn K C (.type "object") = some true
  ne : PySem.W.findIn K (.ref C) "__ne__" = some (some (.builtin "object.__ne__"))
  kC : PySem.W.kitOne K (.ref C) (.ref C) = some true
  kS : PySem.W.kitOne K (.type "str") (.ref C) = some false
  nC : PySem.W.notFirst K C (.ref C) = true
  nS : PySem.W.notFirst K C (.type "str") = true
  str : TMeth K C "__str__" "Part.__str__" sPartStr ["self"]
  eq : TMeth K C "__eq__" "Part.__eq__" sPartEq ["self", "other"]
theorem flag_kit {R : TRows K mg} (T : TPart R) {H : Hp} {x : V} {b : Bool} (h : RowFlag R H x b) : ∃ t, TyX K H x t ∧ PySem.W.kitOne K t (.ref T.CR) = some b := by
  rcases h with ⟨rfl, a, r, rfl, dy, h⟩ | ⟨rfl, d, h⟩
  · obtain ⟨gs, eg⟩ := insRow_ins R dy r
    rw [eg] at h
    exact ⟨_, .base (.ins h (cls_of R r) (T.cA r) T.cN T.cT (T.cM r)), T.kR r⟩
  · exact ⟨_, dp_ty h, T.kD d⟩
def spIsSeq (K : PySem.W.Frag) : Sp := fun vs H Q _ => ∃ (v : V) (t : Value) (b : Bool), vs = [v] ∧ TyX K H v t ∧ PySem.W.kitAny K t [.type "list", .type "tuple"] = some b ∧ (∀ H', Same H H' → TyX K H' v t) ∧ ∀ H', Same H H' → Mo H H' → Q (.bl b) H'
theorem scIsSeq : FnScope ["value"] ["value"] (defScope sIsSeq) := ⟨rfl, rfl, rfl, by decide +kernel, rfl, by decide +kernel, by decide +kernel⟩
theorem ok_isSeq {f : Addr} {fd : FuncData} (F : Fun K "is_sequence" "is_sequence" sIsSeq f fd) (mIsi : mg "isinstance" = none) (mL : mg "list" = none) (mT : mg "tuple" = none) : FnOk P w K mg base CX0 1 f fd ["value"] (spIsSeq K) := by
  refine F.ok scIsSeq (fun vs H Q E h => ?_) (fun cdv A outer s H vs Q E hr h => ?_)
  · obtain ⟨v, t, b, rfl, _⟩ := h
    rfl
  · obtain ⟨v, t, b, rfl, ht, hk, hS, q⟩ := h
    refine ⟨_, pss_one (ps_ret (pe_callB call_isiT (by rfl) mIsi (by decide +kernel) (pa_cons (pv 0) (pa_cons (pe_tup (pa_cons (pe_bltn (v := .ty "list") (by rfl) mL (by decide +kernel) rfl) (pa_cons (pe_bltn (v := .ty "tuple") (by rfl) mT (by decide +kernel) rfl) pa_nil))) pa_nil)))), ?_⟩
    refine ⟨_, rfl, (by show 2 ≤ sizeLine; decide), fun p hp => ?_⟩
    exact ⟨v, p, _, t, _, b, rfl, upd_same, .cons (.ty _) (.cons (.ty _) .nil), hS _ (Same.new hp), hk, q _ (Same.new hp) Mo.upd⟩
theorem scIPInit : FnScope ["self", "word"] ["self", "word"] (defScope sIPInit) := ⟨rfl, rfl, rfl, by decide +kernel, rfl, by decide +kernel, by decide +kernel⟩
theorem okIPInit (T : TExc K mg "InvalidPart" "InvalidPart.__init__" "word" sIPInit) : FnOk P w K mg base CX0 1 T.fI T.fd ["self", "word"] (spXInit K "word") := by
  refine T.F.ok scIPInit (fun vs H Q E h => ?_) (fun cdv A outer s H vs Q E hr h => ?_)
  · obtain ⟨a, C, v, rfl, _⟩ := h
    rfl
  · obtain ⟨a, C, v, rfl, ha, O, no, q⟩ := h
    refine ⟨_, pss_one (ps_ost (pv 0) (pv 1)), ?_⟩
    exact ⟨_, rfl, _, rfl, a, C, rfl, O, no, .inl ⟨ha, fun dx h1 h2 => q dx h1 h2⟩⟩
def insPart (C dx : Addr) (v u : V) : HO := .ins C dx (putF "rows" u (putF "name" v []))
theorem part_name {v u : V} : (putF "rows" u (putF "name" v ([] : List (Str × V)))).lookup ("name" : Str) = some v := by
  rw [lookup_putF, if_neg (by decide +kernel), lookup_putF, if_pos rfl]
theorem part_rows {v u : V} : (putF "rows" u (putF "name" v ([] : List (Str × V)))).lookup ("rows" : Str) = some u := by
  rw [lookup_putF, if_pos rfl]
/-- what is passed as rows: no sequence, or one of so many things -/
def RowsArg (R : TRows K mg) (H : Hp) (u : V) : Option (List V × List Bool) → Prop
  | none => ∃ d, Dp K H u d ∧ seqD d = false
  | some (xs, bs) => ∃ p, u = .ref p ∧ (SqL K H p xs ∨ SqT K H p xs) ∧ Paired (RowFlag R H) xs bs ∧ xs.length ≤ 1000
theorem RowsArg.same {R : TRows K mg} {H H' : Hp} {u : V} {o : Option (List V × List Bool)} (h : RowsArg R H u o) (s : Same H H') : RowsArg R H' u o := by
  cases o with
  | none =>
    obtain ⟨d, h, e⟩ := h
    exact ⟨d, dp_same s d u h, e⟩
  | some o =>
    obtain ⟨p, e, h, hp, hl⟩ := h
    exact ⟨p, e, h.elim (fun h => .inl (s.seq h)) (fun h => .inr (Same.sqt s h)), paired_mono (fun _ _ z => z.same s) hp, hl⟩
def argOk : Option (List V × List Bool) → Bool
  | none => false
  | some (_, bs) => bs.all id
def spPartInit (R : TRows K mg) (C CP : Addr) : Sp := fun vs H Q E => ∃ (x dx : Addr) (v u : V) (d : PyData) (o : Option (List V × List Bool)), vs = [.ref x, v, u] ∧ H x = some (.ins C dx []) ∧ Dp K H v d ∧ dlen d ∧ RowsArg R H u o ∧
  (nameD d = false → RaiseW CP H E (.str "name")) ∧ (nameD d = true → argOk o = false → RaiseW CP H E (.str "rows")) ∧
  (nameD d = true → argOk o = true → ∀ xs bs, o = some (xs, bs) → ∀ tp H', KpI x H H' → Mo H H' → SqT K H' tp xs → H' x = some (insPart C dx v (.ref tp)) → Q .non H')
theorem scPartInit : FnScope ["self", "name", "rows", "row"] ["self", "name", "rows"] (defScope sPartInit) := ⟨rfl, rfl, rfl, by decide +kernel, rfl, by decide +kernel, by decide +kernel⟩
theorem okPartInit {R : TRows K mg} (T : TPart R) : FnOk P w K mg base (L2N.CX P w) 4 T.fI T.fdI ["self", "name", "rows"] (spPartInit R T.C T.IP.C) := by
  refine T.FI.ok scPartInit (fun vs H Q E h => ?_) (fun cdv A outer s H vs Q E hr h => ?_)
  · obtain ⟨x, dx, v, u, d, o, rfl, _⟩ := h
    rfl
  · obtain ⟨x, dx, v, u, d, o, rfl, hx, hd, hl, ha, q1, q2, q3⟩ := h
    refine ⟨_, pss_cons (ps_if (pt_not (pt_val (pe_call (R.N.okName) (hr.mono (by decide)) rfl R.N.isName.m R.N.isName.F.kp R.N.isName.b .nil pass0 (pa_cons (pv 1) pa_nil))))
        (pss_one (L2N.ps_raise rfl (L2N.takes_of rfl rfl rfl rfl) (pmk_oexN T.IP.O T.IP.iC T.IP.tI (okIPInit T.IP) (hr.mono (by decide)) T.IP.b pass0 rfl T.IP.m (pa_cons pe_str pa_nil)))) pss_nil)
      (pss_cons (ps_if (PW.pt (pw_or (pt_not (pt_val (pe_call (ok_isSeq T.isSeq.F R.N.mIsi T.mList T.mTup) (hr.mono (by decide)) rfl T.isSeq.m T.isSeq.F.kp T.isSeq.b .nil pass0 (pa_cons (pv 2) pa_nil))))
          (pw_or1 (pt_not (pt_val (pe_callB (cr_all rfl) (by rfl) R.N.mAll (by decide +kernel) (pa_cons (pe_lc (own := [("row", 3)]) (g := gName 3) (tt := tYes) (by rfl) scPartInit.nd (pi_seq (pv 2))
            (blkOk_by (N := ["self", "name", "rows", "row"]) (sc := defScope sPartInit) (by decide +kernel)) (fun _ _ _ _ _ => pg_name (i := 3) scPartInit.nd rfl (Or.inl rfl)) (fun _ _ _ _ _ => pts_nil)
            (fun _ _ _ _ _ => pe_callB (show CallR _ (.builtin "isinstance") (rIsi K) from call_isi) (by rfl) R.N.mIsi (by decide +kernel) (pa_cons (pv 3) (pa_cons (pe_glob (v := .ref T.CR) (by rfl) T.mR rfl) pa_nil)))) pa_nil)))))))
        (pss_one (L2N.ps_raise rfl (L2N.takes_of rfl rfl rfl rfl) (pmk_oexN T.IP.O T.IP.iC T.IP.tI (okIPInit T.IP) (hr.mono (by decide)) T.IP.b pass0 rfl T.IP.m (pa_cons pe_str pa_nil)))) pss_nil)
      (pss_cons (ps_fld (pv 0) (pv 1) rfl) (pss_one (ps_fld (pv 0) (pe_callTy call_tuple_of (by rfl) T.mTup (by decide +kernel) (pa_cons (pv 2) pa_nil)) rfl)))), ?_⟩
    refine ⟨_, rfl, v, d, rfl, hd, hl, fun H1 hs hm => ?_⟩
    cases hn : nameD d with
    | false =>
      refine ⟨false, rfl, iteT ?_⟩
      exact ⟨(by show 1 ≤ 1000; decide), fun a ha => ⟨a, T.IP.C, _, rfl, upd_same, T.IP.O, T.IP.noF, fun dx g1 g2 => ⟨rfl, dx, _, upd_same, by rw [upd_ne g2, upd_same], by rw [upd_ne g2] at g1; exact g1, ir_made hs hm (q1 hn) ha dx g1 g2⟩⟩⟩
    | true =>
      refine ⟨true, rfl, iteF ?_⟩
      have ha1 := ha.same hs
      cases o with
      | none =>
        obtain ⟨e, he, hse⟩ := ha1
        refine ⟨_, rfl, u, _, _, rfl, dp_ty he, kit_seq e, fun H' s' => dp_ty (dp_same s' e u he), fun H2 hs2 hm2 => ?_⟩
        rw [hse]
        refine ⟨false, rfl, iteT ?_⟩
        exact ⟨(by show 1 ≤ 1000; decide), fun a ha => ⟨a, T.IP.C, _, rfl, upd_same, T.IP.O, T.IP.noF, fun dx g1 g2 => ⟨rfl, dx, _, upd_same, by rw [upd_ne g2, upd_same], by rw [upd_ne g2] at g1; exact g1, ir_made (hs.trans hs2) (hm.trans hm2) (q2 hn rfl) ha dx g1 g2⟩⟩⟩
      | some o =>
        obtain ⟨xs, bs⟩ := o
        obtain ⟨p, rfl, hp, hpd, hxl⟩ := ha1
        have htk : ∃ t, PySem.W.kitAny K t [.type "list", .type "tuple"] = some true ∧ TyX K H1 (.ref p) t ∧ ∀ H', Same H1 H' → TyX K H' (.ref p) t := by
          rcases hp with hp | hp
          · exact ⟨_, kit_two (by decide +kernel : kitB "list" "list" = some true) (by decide +kernel : kitB "list" "tuple" = some false), sql_ty hp, fun H' s' => sql_ty (s'.seq hp)⟩
          · exact ⟨_, kit_two (by decide +kernel : kitB "tuple" "list" = some false) (by decide +kernel : kitB "tuple" "tuple" = some true), sqt_ty hp, fun H' s' => sqt_ty (Same.sqt s' hp)⟩
        obtain ⟨t, hk, ht1, ht2⟩ := htk
        refine ⟨_, rfl, _, t, true, rfl, ht1, hk, ht2, fun H2 hs2 hm2 => ⟨true, rfl, iteF ?_⟩⟩
        have hp2 : SqL K H2 p xs ∨ SqT K H2 p xs := hp.elim (fun h => .inl (hs2.seq h)) (fun h => .inr (Same.sqt hs2 h))
        have hpd2 := paired_mono (fun _ _ z => z.same hs2) hpd
        have hbl : xs.length = bs.length := paired_len hpd
        have hp2c := hp2
        refine hp2.elim (fun hp3 => .inl ⟨_, rfl, p, rfl, ⟨_, hp3⟩, fun D hD => lc_list (xs := xs) (fun i Hi => Same H2 Hi ∧ Mo H2 Hi ∧ Hi D = some (.lst ((bs.take i).map V.bl))) ⟨Same.new hD, Mo.upd, upd_same⟩ (fun i Hi _ hP => hP.1.seq hp3) (fun i z Hi hz hP => ?turn) (fun Hi hP => ?fin)⟩)
          (fun hp3 => .inr ⟨_, rfl, p, rfl, ⟨_, hp3⟩, fun D hD => lc_tup (xs := xs) (fun i Hi => Same H2 Hi ∧ Mo H2 Hi ∧ Hi D = some (.lst ((bs.take i).map V.bl))) ⟨Same.new hD, Mo.upd, upd_same⟩ (fun i Hi _ hP => Same.sqt hP.1 hp3) (fun i z Hi hz hP => ?turn2) (fun Hi hP => ?fin2)⟩)
        case turn | turn2 =>
          obtain ⟨s3, m3, hDi⟩ := hP
          obtain ⟨b, hb, hfl⟩ := paired_at hpd2 hz
          obtain ⟨t2, hty, hkt⟩ := flag_kit T (hfl.same s3)
          have hi : i < bs.length := (List.getElem?_eq_some_iff.mp hb).1
          refine ⟨rfl, _, rfl, z, .ref T.CR, t2, _, b, rfl, .own _, hty, hkt, _, hDi, ?_, Same.updn s3 hD, m3.trans Mo.upd, ?_⟩
          · rw [List.length_map, List.length_take]
            have : (1001 : Nat) ≤ sizeLine := by decide
            omega
          · rw [upd_same, List.take_add_one, hb, List.map_append]
            rfl
        case fin | fin2 =>
          obtain ⟨s3, m3, hDi⟩ := hP
          rw [hbl, List.take_length] at hDi
          refine ⟨D, bs, rfl, SqL.of hDi, ?_⟩
          have ho : argOk (some (xs, bs)) = bs.all id := rfl
          cases hall : bs.all id with
          | false =>
            refine ⟨false, rfl, iteT ?_⟩
            exact ⟨(by show 1 ≤ 1000; decide), fun a ha => ⟨a, T.IP.C, _, rfl, upd_same, T.IP.O, T.IP.noF, fun dx g1 g2 => ⟨rfl, dx, _, upd_same, by rw [upd_ne g2, upd_same], by rw [upd_ne g2] at g1; exact g1, ir_made ((hs.trans hs2).trans s3) ((hm.trans hm2).trans m3) (q2 hn (ho.trans hall)) ha dx g1 g2⟩⟩⟩
          | true =>
            refine ⟨true, rfl, iteF ?_⟩
            have s5 := (hs.trans hs2).trans s3
            have m5 := (hm.trans hm2).trans m3
            have hxi := s5 _ _ hx
            refine ⟨_, rfl, _, rfl, x, T.C, dx, [], rfl, hxi, T.cl, T.noN, (by show 0 < 1000; decide), ?_⟩
            have k1 : KpI x H (upd Hi x (.ins T.C dx (putF "name" v []))) := fun b o e n => by
              rw [upd_ne n]
              exact s5 _ _ e
            have hp5 : SqL K (upd Hi x (.ins T.C dx (putF "name" v []))) p xs ∨ SqT K (upd Hi x (.ins T.C dx (putF "name" v []))) p xs :=
              hp2c.elim (fun h => .inl (sql_ins hxi (s3.seq h))) (fun h => .inr (sqt_ins hxi (Same.sqt s3 h)))
            have m6 : Mo H (upd Hi x (.ins T.C dx (putF "name" v []))) := m5.trans Mo.upd
            have hx6 : upd Hi x (.ins T.C dx (putF "name" v [])) x = some (.ins T.C dx (putF "name" v [])) := upd_same
            generalize upd Hi x (.ins T.C dx (putF "name" v [])) = Hy at k1 hp5 m6 hx6 ⊢
            refine ⟨_, rfl, p, xs, rfl, hp5.elim (fun h => .inl ⟨h, fun l hl2 => ?nl⟩) (fun h => .inr ⟨h, ?nt⟩)⟩
            case nl =>
              have nxl : x ≠ l := fun z => by rw [← z, hx6] at hl2; cases hl2
              refine ⟨_, rfl, x, T.C, dx, _, rfl, Same.new hl2 _ _ hx6, T.cl, T.noR, (by show 1 < 1000; decide), ?_⟩
              refine q3 hn (ho.trans hall) xs bs rfl l _ (fun b o e n => ?_) ((m6.trans Mo.upd).trans Mo.upd) (SqT.of (by rw [upd_ne (fun z => nxl z.symm)]; exact upd_same)) upd_same
              rw [upd_ne n]
              exact Same.new hl2 _ _ (k1 b o e n)
            case nt =>
              refine ⟨_, rfl, x, T.C, dx, _, rfl, hx6, T.cl, T.noR, (by show 1 < 1000; decide), ?_⟩
              refine q3 hn (ho.trans hall) xs bs rfl p _ (fun b o e n => ?_) (m6.trans Mo.upd) (sqt_ins hx6 h) upd_same
              rw [upd_ne n]
              exact k1 b o e n
end
end Pn

namespace Pn
open PySem L2 TL
def partHead (n : Str) : Str := ("part " : Str) ++ n
def partText (n : Str) (rs : List RowD) : Str := Txt.join "\n" (partHead n :: rs.map rowText)
theorem part_join {n z : Str} {rs : List RowD} (h : z = Str.empty ++ ("part " : Str) ++ n) : Txt.join "\n" (z :: rs.map rowText) = partText n rs := by
  have e : z = partHead n := by
    rw [h]
    apply ext_tl
    unfold partHead
    rw [tl_append, tl_append, tl_append]
    rfl
  rw [e]
  rfl
theorem len_append (a b : Str) : (a ++ b).length = a.length + b.length := strLen_append a b
theorem rows_sum {rs : List RowD} (h : ∀ r ∈ rs, rowValid r) : ((rs.map rowText).map (·.length)).sum ≤ 63 * rs.length := by
  induction rs with
  | nil => exact Nat.le_refl _
  | cons r rs ih =>
    have h1 := (sm_row (h r List.mem_cons_self)).1
    have h2 := ih fun x hx => h x (List.mem_cons_of_mem _ hx)
    simp only [List.map_cons, List.sum_cons, List.length_cons] at h2 ⊢
    omega
theorem part_fits {rs : List RowD} {z : Str} (hz : z.length ≤ 200) (h : ∀ r ∈ rs, rowValid r) (hl : rs.length ≤ 100) : ((z :: rs.map rowText).map (·.length)).sum + (z :: rs.map rowText).length * ("\n" : Str).length ≤ 16777216 := by
  have h1 := rows_sum h
  have h2 : ("\n" : Str).length = 1 := by decide +kernel
  rw [h2]
  simp only [List.map_cons, List.sum_cons, List.length_cons, List.length_map] at h1 ⊢
  omega
section
variable {P : Program} {w : World} {K : PySem.W.Frag} {mg : Str → Option Value} {base : Heap}
/-- rows as they stand -/
def RowsIn (R : TRows K mg) (H : Hp) (us : List Addr) (rs : List RowD) : Prop := Paired (fun u r => RowAt R H u r) us rs
theorem RowsIn.same {R : TRows K mg} {H H' : Hp} {us : List Addr} {rs : List RowD} (h : RowsIn R H us rs) (s : Same H H') : RowsIn R H' us rs := paired_mono (fun _ _ e => e.same s) h
/-- a part of the package -/
def PtAt {R : TRows K mg} (T : TPart R) (H : Hp) (a : Addr) (n : Str) (rs : List RowD) : Prop := ∃ dx tp us, H a = some (insPart T.C dx (.str n) (.ref tp)) ∧ SqT K H tp (us.map V.ref) ∧ RowsIn R H us rs
theorem PtAt.same {R : TRows K mg} {T : TPart R} {H H' : Hp} {a : Addr} {n : Str} {rs : List RowD} (h : PtAt T H a n rs) (s : Same H H') : PtAt T H' a n rs := by
  obtain ⟨dx, tp, us, h1, h2, h3⟩ := h
  exact ⟨dx, tp, us, s _ _ h1, Same.sqt s h2, h3.same s⟩
def partOk (n : Str) (rs : List RowD) : Prop := n.length ≤ 100 ∧ rs.length ≤ 100 ∧ ∀ r ∈ rs, rowValid r
def spPartStr {R : TRows K mg} (T : TPart R) : Sp := fun vs H Q _ => ∃ (a : Addr) (n : Str) (rs : List RowD), vs = [.ref a] ∧ PtAt T H a n rs ∧ partOk n rs ∧ ∀ H', Same H H' → Q (.str (partText n rs)) H'
theorem scPartStr : FnScope ["self", "lines", "row"] ["self"] (defScope sPartStr) := ⟨rfl, rfl, rfl, by decide +kernel, rfl, by decide +kernel, by decide +kernel⟩
theorem okPartStr {R : TRows K mg} (T : TPart R) : FnOk P w K mg base CX0 4 T.str.f T.str.fd ["self"] (spPartStr T) := by
  refine T.str.F.ok scPartStr (fun vs H Q E h => ?_) (fun cdv A outer s H vs Q E hr h => ?_)
  · obtain ⟨a, n, rs, rfl, _⟩ := h
    rfl
  · obtain ⟨a, n, rs, rfl, ⟨dx, tp, us, ha, htp, hus⟩, ⟨hn, hl, hv⟩, q⟩ := h
    refine ⟨_, pss_cons (ps_setLc (i := 1) (own := [("row", 2)]) (g := gName 2) (tt := tYes) (by rfl) scPartStr.nd rfl rfl (sw_true rfl rfl rfl (by decide +kernel)) (pi_tup (pe_fld (pv 0) rfl))
        (blkOk_by (N := ["self", "lines", "row"]) (sc := defScope sPartStr) (by decide +kernel)) (fun _ _ _ _ _ => pg_name (i := 2) scPartStr.nd rfl (Or.inl rfl)) (fun _ _ _ _ _ => pts_nil)
        (fun _ _ _ _ _ => pe_callTy (show CallR _ (.type "str") (rStrRow R) from call_strRowK (K := K) (mg := mg) rfl rfl R T.S hr) (by rfl) R.N.mStr (by decide +kernel) (pa_cons (pv 2) pa_nil)))
      (pss_one (ps_ret (pe_join pe_str (pe_lst (pa_cons (pe_joined (.cons pe_str (.cons (pe_fmt (pe_fld (pv 0) rfl)) .nil))) (StX.pa_star (pv 1) pa_nil)))))), ?_⟩
    have hul : us.length = rs.length := paired_len hus
    refine ⟨_, rfl, a, T.C, dx, _, .ref tp, rfl, ha, T.cl, T.noR, part_rows, tp, rfl, ⟨_, htp⟩, fun D hD => lc_tup (xs := us.map V.ref) (fun i Hi => Same H Hi ∧ Hi D = some (.lst ((rs.take i).map fun r => V.str (rowText r)))) ⟨Same.new hD, upd_same⟩ (fun i Hi _ hP => Same.sqt hP.1 htp) (fun i z Hi hz hP => ?turn) (fun Hi hP => ?fin)⟩
    case turn =>
      obtain ⟨s3, hDi⟩ := hP
      rw [List.getElem?_map] at hz
      cases hui : us[i]? with
      | none => rw [hui] at hz; cases hz
      | some u =>
      rw [hui] at hz
      cases hz
      obtain ⟨r, hr2, hrow⟩ := paired_at hus hui
      refine ⟨rfl, _, rfl, u, r, rfl, hrow.same s3, valid_small (hv r (List.mem_of_getElem? hr2)), _, hDi, ?_, Same.updn s3 hD, ?_⟩
      · rw [List.length_map, List.length_take]
        have : (1001 : Nat) ≤ sizeLine := by decide
        omega
      · rw [upd_same, List.take_add_one, hr2, List.map_append]
        rfl
    case fin =>
      obtain ⟨s3, hDi⟩ := hP
      rw [List.length_map, hul, List.take_length] at hDi
      have hDi2 : Hi D = some (.lst ((rs.map rowText).map V.str)) := by rw [hDi, List.map_map]; rfl
      refine ⟨⟨_, rfl⟩, ?_⟩
      refine ⟨_, rfl, (by decide +kernel), _, rfl, a, T.C, dx, _, .str n, rfl, s3 _ _ ha, T.cl, T.noN, part_name, .inl ⟨n, rfl, Nat.le_trans hn (by decide), n, rfl, ?_, ?_⟩⟩
      · rw [strLen_append]
        exact Nat.le_trans (Nat.add_le_add_left hn _) (by decide +kernel)
      refine ⟨_, rfl, D, (rs.map rowText).map V.str, rfl, .inr (SqL.of hDi2), ?_⟩
      refine ⟨?_, fun l hl2 => ?_⟩
      · show ((List.map V.str (List.map rowText rs) ++ []).length + 1) ≤ sizeLine
        rw [List.append_nil, List.length_map, List.length_map]
        have : (1001 : Nat) ≤ sizeLine := by decide
        omega
      · refine ⟨"\n", l, (Str.empty ++ ("part " : Str) ++ n) :: rs.map rowText, rfl, rfl, .inl (SqL.of (by rw [upd_same, List.append_nil]; rfl)), part_fits ?_ hv hl, ?_⟩
        · rw [strLen_append, strLen_append]
          have : (Str.empty : Str).length + ("part " : Str).length = 5 := by decide +kernel
          omega
        · rw [part_join rfl]
          exact q _ (Same.updn s3 (s3.free hl2))
def spPartEq {R : TRows K mg} (T : TPart R) : Sp := fun vs H Q _ => ∃ (a : Addr) (y : V) (n : Str) (rs : List RowD), vs = [.ref a, y] ∧ PtAt T H a n rs ∧ partOk n rs ∧ ((∃ z, y = .str z ∧ Q (.bl false) H) ∨ ∃ (b : Addr) (m : Str) (qs : List RowD), y = .ref b ∧ PtAt T H b m qs ∧ partOk m qs ∧ ∀ H', Same H H' → Q (.bl (decide (partText n rs = partText m qs))) H')
theorem scPartEq : FnScope ["self", "other"] ["self", "other"] (defScope sPartEq) := ⟨rfl, rfl, rfl, by decide +kernel, rfl, by decide +kernel, by decide +kernel⟩
def rStrPart {R : TRows K mg} (T : TPart R) : List V → Hp → VK → Prop := fun xs H Q => ∃ (a : Addr) (n : Str) (rs : List RowD), xs = [.ref a] ∧ PtAt T H a n rs ∧ partOk n rs ∧ ∀ H', Same H H' → Q (.str (partText n rs)) H'
theorem call_strPart {X : Cx} {R : TRows X.K X.mg} (T : TPart R) (hr : Room 6 X.A) : CallR X (.type "str") (rStrPart T) := by
  intro pins s σ H xs us Q I rv h
  obtain ⟨a, n, rs, rfl, hp, hok, q⟩ := h
  obtain ⟨dx, tp, us2, ha, h2⟩ := id hp
  exact call_strIns (okPartStr T) T.str.hf hr T.str.b pass0 pins s σ H _ us Q I rv ⟨a, _, dx, _, rfl, ha, T.str.hs, a, n, rs, rfl, hp, hok, fun H' s' => ⟨_, rfl, q H' s'⟩⟩
theorem call_strPartK {X : Cx} {K : PySem.W.Frag} {mg : Str → Option Value} (hK : X.K = K) (hm : X.mg = mg) {R : TRows K mg} (T : TPart R) (hr : Room 6 X.A) : CallR X (.type "str") (rStrPart T) := by
  subst hK
  subst hm
  exact call_strPart T hr
theorem okPartEq {R : TRows K mg} (T : TPart R) : FnOk P w K mg base CX0 7 T.eq.f T.eq.fd ["self", "other"] (spPartEq T) := by
  refine T.eq.F.ok scPartEq (fun vs H Q E h => ?_) (fun cdv A outer s H vs Q E hr h => ?_)
  · obtain ⟨a, y, n, rs, rfl, _⟩ := h
    rfl
  · obtain ⟨a, y, n, rs, rfl, ha, hok, q⟩ := h
    refine ⟨_, pss_one (ps_ret (pe_and (pe_callB call_isi (by rfl) R.N.mIsi (by decide +kernel) (pa_cons (pv 1) (pa_cons (pe_glob (v := .ref T.C) (by rfl) T.mC rfl) pa_nil)))
      (pe_one (pe_cmpR op_eq (pe_callTy (call_strPartK (K := K) (mg := mg) rfl rfl T hr) (by rfl) R.N.mStr (by decide +kernel) (pa_cons (pv 0) pa_nil)) (pe_callTy (call_strPartK (K := K) (mg := mg) rfl rfl T hr) (by rfl) R.N.mStr (by decide +kernel) (pa_cons (pv 1) pa_nil)) (nomark _))))), ?_⟩
    rcases q with ⟨z, rfl, q⟩ | ⟨b, m, qs, rfl, hb, hokb, q⟩
    · refine ⟨_, rfl, .str z, .ref T.C, _, _, false, rfl, .own _, .base (.str z), T.kS, _, rfl, iteF ?_⟩
      exact q
    · obtain ⟨dy, tq, us2, hb2, _⟩ := id hb
      refine ⟨_, rfl, .ref b, .ref T.C, _, _, true, rfl, .own _, .base (.ins hb2 T.cl T.pA T.cN T.cT T.pM), T.kC, _, rfl, iteT ?_⟩
      refine ⟨_, rfl, a, n, rs, rfl, ha, hok, fun H1 s1 => ⟨_, rfl, b, m, qs, rfl, hb.same s1, hokb, fun H2 s2 => ⟨rfl, ?_⟩⟩⟩
      have e : decide (V.str (partText n rs) = V.str (partText m qs)) = decide (partText n rs = partText m qs) := by
        by_cases h : partText n rs = partText m qs
        · rw [h, decide_eq_true rfl, decide_eq_true rfl]
        · rw [decide_eq_false h, decide_eq_false (fun z => h (V.str.inj z))]
      rw [e]
      exact q H2 (s1.trans s2)
end
end Pn

namespace Pn
open PySem PySem.Spec PyProof.Rows PySem.Froz
/-! ### sets of texts: which are in it, and a table that can be walked -/
/-- the texts of a list, each once -/
def uniq (l : List Str) : List Str := l.foldl (fun acc x => if x ∈ acc then acc else x :: acc) []
theorem uniq_snoc (l : List Str) (x : Str) : uniq (l ++ [x]) = if x ∈ uniq l then uniq l else x :: uniq l := by
  unfold uniq
  rw [List.foldl_append]
  rfl
theorem uniq_has : ∀ (l : List Str) (z : Str), z ∈ uniq l ↔ z ∈ l := by
  have key : ∀ (l acc : List Str) (z : Str), z ∈ l.foldl (fun acc x => if x ∈ acc then acc else x :: acc) acc ↔ z ∈ acc ∨ z ∈ l := by
    intro l
    induction l with
    | nil => intro acc z; simp
    | cons x l ih =>
      intro acc z
      rw [List.foldl_cons, ih]
      by_cases h : x ∈ acc
      · rw [if_pos h]
        constructor
        · rintro (h1 | h1)
          · exact .inl h1
          · exact .inr (List.mem_cons_of_mem _ h1)
        · rintro (h1 | h1)
          · exact .inl h1
          · rcases List.mem_cons.mp h1 with rfl | h1
            · exact .inl h
            · exact .inr h1
      · rw [if_neg h]
        simp only [List.mem_cons]
        constructor
        · rintro ((h1 | h1) | h1)
          · exact .inr (.inl h1)
          · exact .inl h1
          · exact .inr (.inr h1)
        · rintro (h1 | h1 | h1)
          · exact .inl (.inr h1)
          · exact .inl (.inl h1)
          · exact .inr h1
  intro l z
  exact (key l [] z).trans (by simp)
theorem uniq_nodup (l : List Str) : (uniq l).Nodup := by
  have key : ∀ (l acc : List Str), acc.Nodup → (l.foldl (fun acc x => if x ∈ acc then acc else x :: acc) acc).Nodup := by
    intro l
    induction l with
    | nil => intro acc h; exact h
    | cons x l ih =>
      intro acc h
      rw [List.foldl_cons]
      refine ih _ ?_
      by_cases e : x ∈ acc
      · rw [if_pos e]; exact h
      · rw [if_neg e]; exact List.nodup_cons.mpr ⟨e, h⟩
  exact key l [] List.nodup_nil
theorem uniq_len (l : List Str) : (uniq l).length ≤ l.length := by
  have key : ∀ (l acc : List Str), (l.foldl (fun acc x => if x ∈ acc then acc else x :: acc) acc).length ≤ acc.length + l.length := by
    intro l
    induction l with
    | nil => intro acc; exact Nat.le_refl _
    | cons x l ih =>
      intro acc
      rw [List.foldl_cons, List.length_cons]
      have q := ih (if x ∈ acc then acc else x :: acc)
      by_cases e : x ∈ acc
      · rw [if_pos e] at q ⊢; omega
      · rw [if_neg e] at q ⊢
        rw [List.length_cons] at q
        omega
  have q := key l []
  unfold uniq
  simpa using q
theorem addTx_led (h : Int) (v : Value) (D : SD) : (addTx h v D).2.2.led = D.2.2.led := by
  have e := L2.layNew_led D.2.2 D.1 h v
  unfold addTx tailTx
  by_cases c : (layNew D.2.2 D.1 h v).2.1.plain = true
  · rw [if_pos c]
    split
    · exact (L2.relayAll_led _ _ _).trans e
    · exact e
  · rw [if_neg c]
    split
    · exact (L2.relayAll_led _ _ _).trans e
    · exact e
theorem addTx_ris (h : Int) (v : Value) (D : SD) (r : L2.Ris D.2.2.place.toList) : L2.Ris (addTx h v D).2.2.place.toList := by
  have e := L2.layNew_ris D.2.2 D.1 h v r
  unfold addTx tailTx
  by_cases c : (layNew D.2.2 D.1 h v).2.1.plain = true
  · rw [if_pos c]
    split
    · exact L2.relayAll_ris _ _ _
    · exact e
  · rw [if_neg c]
    split
    · exact L2.relayAll_ris _ _ _
    · exact e
/-- at a stands the set of the texts l -/
def TxtSet (P : Program) (w : World) (h : Heap) (a : Addr) (l : List Str) : Prop :=
  ∃ D : SD, h.get? a = some (sObj "set" D) ∧ TxOk P w D l ∧ L2.Ris D.2.2.place.toList ∧ (w.params.followText "set-order" = true ∨ D.2.2.led = true) ∧ l.Nodup
theorem TxtSet.keep {P : Program} {w : World} {h h' : Heap} {a : Addr} {l : List Str} (R : TxtSet P w h a l) (k : ∀ o, h.get? a = some o → h'.get? a = some o) : TxtSet P w h' a l := by
  obtain ⟨D, ho, r⟩ := R
  exact ⟨D, k _ ho, r⟩
section
variable {P : Program} {w : World} {A : Around} {E : Value → Shared → Prop} {s : Shared}
/-- a text that is there is not put in again -/
theorem held_x {a : Addr} {T : String} {D : SD} {l : List Str} {k : Str} {u : Tok} {Q : Bool → Shared → Prop} (ho : s.heap.get? a = some (sObj T D)) (F : TxOk P w D l) (hk : k ∈ l) (hb : l.length < scanBound) (h : Q false s) :
    wpAny (model P w) A (setAddHashed a (.str k u) (hashStr w k)) Q E s := by
  obtain ⟨es, ep, t⟩ := D
  have dat : (sObj T (es, ep, t)).data = .set es ep t := rfl
  have elm : ElemsOf (strKind P w) es.toList := F.el
  have low : es.size < scanBound := by rw [show es.size = l.length from F.sz]; exact hb
  have key : (strKind P w).is k (.str k u) = true := is_str k u
  obtain ⟨j, found⟩ : ∃ j, List.findIdx? (fun e => (strKind P w).is k e.2) es.toList = some j := by
    cases q : List.findIdx? (fun e => (strKind P w).is k e.2) es.toList with
    | some j => exact ⟨j, rfl⟩
    | none =>
      obtain ⟨e, he, hi⟩ := (F.mem k).mp hk
      exact absurd hi (by rw [List.findIdx?_eq_none_iff.mp q e he]; decide)
  unfold setAddHashed setAddHashedIn
  refine wpAny_holding ?_
  refine wpAny_bind (wpAny_setState_of ho dat F.fit ?_)
  dsimp only
  rw [byScan_of rfl low elm]
  simp only [↓reduceIte]
  unfold setAddByScan
  refine wpAny_bind (wpAny_bind (wpAny_rule ?_))
  refine wpAny_bind (wpAny_setScan_of (k := k) (knd := strKind P w) key ho dat F.fit elm ?_)
  rw [found]
  exact wpAny_pure (wpAny_pure h)
theorem txt_new {h : Heap} {a : Addr} (ho : h.get? a = some (sObj "set" (#[], 0, .fresh 0 0 (!w.params.followText "set-order")))) : TxtSet P w h a [] :=
  ⟨_, ho, TxOk.nil (by rfl), List.Pairwise.nil, (by
    show _ ∨ (!w.params.followText "set-order") = true
    cases w.params.followText "set-order" <;> simp), List.nodup_nil⟩
/-- one text is put in -/
theorem txt_add {a : Addr} {l : List Str} {k : Str} {u : Tok} {Q : Bool → Shared → Prop} (R : TxtSet P w s.heap a l) (hb : l.length + 1 < scanBound)
    (h : ∀ b h', (∀ c, c ≠ a → h'.get? c = s.heap.get? c) → TxtSet P w h' a (if k ∈ l then l else k :: l) → Q b { s with heap := h' }) : wpAny (model P w) A (setAddHashed a (.str k u) (hashStr w k)) Q E s := by
  obtain ⟨D, ho, F, r, g, nd⟩ := id R
  by_cases hk : k ∈ l
  · refine held_x ho F hk (by omega) ?_
    have q := h false s.heap (fun _ _ => rfl)
    rw [if_pos hk] at q
    exact q R
  · refine add_x ho F hk hb ?_
    have q := h true (s.heap.update a fun _ => sObj "set" (addTx (hashStr w k) (.str k u) D)) (fun c n => Heap.get?_update_other _ _ n.symm)
    rw [if_neg hk] at q
    exact q ⟨_, get_upd _ ho rfl, add_ok u F, addTx_ris _ _ _ r, g.imp id fun z => (addTx_led _ _ _).trans z, List.nodup_cons.mpr ⟨hk, nd⟩⟩
theorem loop_txt {I : Addr} {fp wr : List Addr} {G : Array GenState → Array GenState → Prop} {n : Nat} {Pv : Nat → Value → Prop} {St : Nat → Shared → Prop} {R : Result → Shared → Prop} (W : WalksS P w A.in1 I fp wr G n Pv St)
    (S : Addr) (out : S ∉ fp) (xs : List Str) (hn : n = xs.length) (low : n + 1 < scanBound) (hv : ∀ i v, Pv i v → ∃ x t, xs[i]? = some x ∧ v = .str x t) : ∀ (k i : Nat) (s : Shared), n - i = k → i ≤ n → St i s → TxtSet P w s.heap S (uniq (xs.take i)) →
      (∀ s', Moved (S :: wr) G s s' → TxtSet P w s'.heap S (uniq xs) → R (.ok (.ret .none)) s') → codeAny (model P w) A (.builtin "set.update.loop" ⟨[.ref S, .ref I], []⟩) R s := by
  have outW : S ∉ wr := fun h => out (W.sub _ h)
  have more : ∀ b ∈ wr, b ∈ S :: wr := fun b h => List.mem_cons_of_mem _ h
  intro k
  induction k with
  | zero =>
    intro i s e1 e2 st X fin
    obtain rfl : i = n := by omega
    refine codeAny_builtin PyProof.Rows.F.entry_set_update_loop ?_
    rw [Around.under_plainId PyProof.Rows.F.plain_set_update_loop _]
    show wpAny _ A.in1 (pyNext (.ref I) >>= _) _ _ s
    refine wpAny_bind (W.done s _ _ st fun s' mv => wpAny_pure (fin s' (mv.mono more) ?_))
    rw [hn, List.take_length] at X
    exact X.keep fun o e => mv.heap S o outW e
  | succ k ih =>
    intro i s e1 e2 st X fin
    have lt : i < n := by omega
    refine codeAny_builtin PyProof.Rows.F.entry_set_update_loop ?_
    rw [Around.under_plainId PyProof.Rows.F.plain_set_update_loop _]
    show wpAny _ A.in1 (pyNext (.ref I) >>= _) _ _ s
    refine wpAny_bind (W.item i s _ _ lt st fun v s1 pv st1 mv => ?_)
    obtain ⟨x, t, hx, rfl⟩ := hv i v pv
    have X1 := X.keep (h' := s1.heap) fun o e => mv.heap S o outW e
    show wpAny _ A.in1 (holding [Value.str x t] (setAdd S (.str x t)) >>= _) _ _ s1
    refine wpAny_bind (wpAny_holding ?_)
    unfold setAdd
    refine wpAny_holding (wpAny_bind ((PySem.strKind P w).pyHash (is_str x t) ?_))
    have few : (uniq (xs.take i)).length + 1 < scanBound := by
      have := uniq_len (xs.take i)
      rw [List.length_take] at this
      omega
    refine txt_add (s := { s1 with toks := s1.toks + 1 }) X1 few fun b h' oth X2 => ?_
    have e3 : (if x ∈ uniq (xs.take i) then uniq (xs.take i) else x :: uniq (xs.take i)) = uniq (xs.take (i + 1)) := by
      rw [List.take_add_one, hx]
      exact (uniq_snoc _ _).symm
    rw [e3] at X2
    refine wpAny_pure ⟨plainId_quiet PyProof.Rows.F.plain_set_update_loop _, ih (i + 1) _ (by omega) lt (W.frame (i + 1) s1 h' (s1.toks + 1) st1 (by omega) fun c hc o e => ?_) X2 fun s2 mv2 X3 => fin s2 (Moved.trans W.gtrans ((mv.mono more).then_heap (Nat.le_succ _) fun c o hc e => ?_) mv2) X3⟩
    · exact (oth c fun z => out (z ▸ hc)).trans e
    · exact (oth c fun z => hc (z ▸ List.mem_cons_self)).trans e
theorem perm_of_sup {α : Type} [DecidableEq α] {l ks : List α} (nd : l.Nodup) (sup : ∀ k ∈ l, k ∈ ks) (len : ks.length ≤ l.length) : l.Perm ks := by
  induction l generalizing ks with
  | nil =>
    cases ks with
    | nil => exact .nil
    | cons k ks => simp at len
  | cons x l ih =>
    obtain ⟨h1, h2⟩ := List.nodup_cons.mp nd
    have hx := sup x List.mem_cons_self
    have p : ks.Perm (x :: ks.erase x) := List.perm_cons_erase hx
    refine List.Perm.trans (.cons x (ih h2 (fun k hk => ?_) ?_)) p.symm
    · have q := p.mem_iff.mp (sup k (List.mem_cons_of_mem _ hk))
      rcases List.mem_cons.mp q with rfl | q
      · exact absurd hk h1
      · exact q
    · have q := p.length_eq
      simp only [List.length_cons] at q len
      omega
theorem strs_perm : ∀ {vs us : List Value} {xs : List Str}, StrsAre vs xs → vs.Perm us → ∃ ys, StrsAre us ys ∧ ys.Perm xs := by
  intro vs us xs h p
  induction p generalizing xs with
  | nil => exact ⟨xs, h, .refl _⟩
  | cons v _ ih =>
    cases h with
    | cons x t r =>
      obtain ⟨ys, h1, h2⟩ := ih r
      exact ⟨x :: ys, .cons x t h1, h2.cons x⟩
  | swap v u l =>
    cases h with
    | cons x t r =>
      cases r with
      | cons y t2 r => exact ⟨y :: x :: _, .cons y t2 (.cons x t r), .swap _ _ _⟩
  | trans _ _ ih1 ih2 =>
    obtain ⟨ys, h1, h2⟩ := ih1 h
    obtain ⟨zs, h3, h4⟩ := ih2 h1
    exact ⟨zs, h3, h4.trans h2⟩
theorem strs_get : ∀ {vs : List Value} {xs : List Str} {i : Nat} {v : Value}, StrsAre vs xs → vs[i]? = some v → ∃ x t, xs[i]? = some x ∧ v = .str x t
  | _, _, i, v, .nil, h => by simp at h
  | _, _, 0, v, .cons x t r, h => ⟨x, t, rfl, (Option.some.inj h).symm⟩
  | _, _, i + 1, v, .cons x t r, h => strs_get (i := i) r h
/-- the new set, empty -/
abbrev bare (w : World) : Obj := sObj "set" (#[], 0, .fresh 0 0 (!w.params.followText "set-order"))
set_option maxHeartbeats 3200000 in
/-- set(xs), xs a list of texts -/
theorem set_of_texts {l : Addr} {items : Array Value} {xs : List Str} {Q : Value → Shared → Prop} (calm : A.handled = none) (hl : s.heap.IsList l items) (hx : StrsAre items.toList xs) (low : xs.length + 1 < scanBound)
    (h : ∀ (h' : Heap) (tk : Nat), TxtSet P w h' s.heap.objs.size (uniq xs) → (∀ b o, s.heap.get? b = some o → h'.get? b = some o) → Q (.ref s.heap.objs.size) { s with heap := h', toks := tk }) : wpAny (model P w) A (call (.type "set") [.ref l]) Q E s := by
  have sz : items.size = xs.length := by
    have q := StrsAre.length hx
    rw [Array.length_toList] at q
    exact q
  obtain ⟨mc, mt, mro⟩ := PySem.F.called_set.mro
  have made := PySem.F.called_set.made
  have sub := PySem.F.called_set.sub
  have notT := PySem.F.called_set.notType
  have can := PySem.F.called_set.canCreate
  have chk := PySem.F.typeCall_set_1 (.ref l)
  refine wpAny_call (codeAny_of_tree (show wpAny _ _ (callAny (.type "set") _) _ _ _ from wpAny_pure ⟨Code.quiet_builtin _ (by decide +kernel), codeAny_builtin PySem.F.entry_type_call ?_⟩))
  rw [Around.under_plain (weight_type_call_type "set" [.ref l] []) rfl]
  repeat (any_goals (first | assumption | wp_step))
  let S := s.heap.objs.size
  let H1 := s.heap.push (bare w)
  refine codeAny_mono (L2.code_set_led1 (.ref l) (E := E) (Q₁ := fun v s1 => v = .ref S ∧ s1 = { s with heap := H1 }) ⟨rfl, rfl⟩) fun r s1 hr => ?_
  match r, hr with
  | .error e, hr => exact hr
  | .ok .next, hr => exact hr.elim
  | .ok .brk, hr => exact hr.elim
  | .ok .cont, hr => exact hr.elim
  | .ok (.ret v), ⟨e1, e2⟩ =>
    subst e1
    subst e2
    have there : H1.get? S = some (bare w) := Heap.get?_push_size _ rfl
    have ty : Shared.TypeIs { s with heap := H1 } (.ref S) "set" := ⟨_, there, rfl⟩
    have look := PySem.F.called_set.init.lookup
    have bnd := PySem.F.called_set.init.bind (.ref S)
    repeat (any_goals (first | assumption | wp_step))
    refine codeAny_mono (codeAny_call_builtin (R := wants (fun v s2 => v = .none ∧ ∃ h' tk, s2 = { s with heap := h', toks := tk } ∧ TxtSet P w h' S (uniq xs) ∧ ∀ b o, s.heap.get? b = some o → h'.get? b = some o) E)
      PySem.F.called_set.init.plain PySem.F.entry_set_init (check_set_init_1 ty ?_)) fun r2 s2 hr2 => ?_
    · obtain ⟨⟨kc, kd, kt, ks⟩, ol, c1, nl, c2⟩ := hl
      simp only at c1 c2
      subst c1
      subst c2
      have ol1 : H1.get? l = some { cls := .type "list", dict := kd, data := .seq items nl, slots := ks } := Heap.get?_push_of_some _ ol
      have l1 : H1.IsList l items := ⟨_, ol1, rfl, nl, rfl⟩
      have f1 := PySem.F.sub_list_set
      have f2 := PySem.F.sub_list_frozenset
      have f3 : (Value.type "list" == Value.type "dict") = false := by decide
      unfold Builtin.«set.__init__» noKeywords Builtin.Frozenset.updateFrom
      generalize hp : pyIter = PI
      wp_walk
      subst hp
      refine wpAny_pyIter_list l1 (wpAny_bind (wpAny_runValue ?_))
      have lS : l < S := Heap.lt_size ol
      have zz : H1.objs.size = S + 1 := size_push' _ _
      have calm3 : A.in1.in1.in1.handled = none := by simp [calm]
      have nI : l ≠ H1.objs.size := by rw [zz]; exact Nat.ne_of_lt (Nat.lt_succ_of_lt lS)
      have outS : S ∉ [H1.objs.size, l] := by
        rw [zz]
        intro z
        rcases List.mem_cons.mp z with z | z
        · exact absurd z (Nat.ne_of_lt (Nat.lt_succ_self _))
        · exact absurd (List.mem_singleton.mp z) (Nat.ne_of_gt lS)
      refine loop_txt (Walks.list calm3 _ l nI items).toS S outS xs sz (by rw [sz]; exact low) (fun i v pv => ?_) (items.size - 0) 0 _ (by omega) (Nat.zero_le _) ⟨⟨_, Heap.get?_push_size _ rfl, rfl, rfl⟩, l1.push _⟩ (txt_new (Heap.get?_push_of_some _ there)) (fun s' mv X => ?_)
      · have pv' : items.toList[i]? = some v := by rw [Array.getElem?_toList]; exact pv
        exact strs_get hx pv'
      · obtain ⟨h', g', d', tk', os'⟩ := s'
        obtain rfl : g' = s.gens := mv.gens
        obtain rfl : d' = s.drawn := mv.drawn
        obtain rfl : os' = s.os := mv.os
        show wpAny _ _ _ _ _ _
        refine wpAny_pure ?_
        show wpAny _ _ (ret Value.none) _ _ _
        refine wpAny_pure ⟨rfl, h', tk', rfl, X, fun b o e => ?_⟩
        have lb : b < S := Heap.lt_size e
        refine mv.heap b o (fun z => ?_) (Heap.get?_push_of_some _ (Heap.get?_push_of_some _ e))
        rcases List.mem_cons.mp z with z | z
        · exact absurd z (Nat.ne_of_lt lb)
        · have e2 := List.mem_singleton.mp z
          rw [zz] at e2
          exact absurd e2 (Nat.ne_of_lt (Nat.lt_succ_of_lt lb))
    · match r2, hr2 with
      | .error e, hr2 => exact hr2
      | .ok .next, hr2 => exact hr2.elim
      | .ok .brk, hr2 => exact hr2.elim
      | .ok .cont, hr2 => exact hr2.elim
      | .ok (.ret v), ⟨e1, h', tk, e2, X, old⟩ =>
        subst e1
        subst e2
        repeat (any_goals (first | assumption | wp_step))
        exact h _ _ X old
/-- what walks over the set brings, sorted -/
theorem sorted_txt {a : Addr} {l : List Str} {Q : Value → Shared → Prop} (R : TxtSet P w s.heap a l) (calm : A.handled = none) (low : l.length < 64)
    (h : ∀ s' p (out : Array Value) (c : Nat) (ys : List Str), (∀ b o, s.heap.get? b = some o → s'.heap.get? b = some o) → s'.gens = s.gens → s'.os = s.os → s.heap.objs.size ≤ p → s'.heap.get? p = some (seqObj "list" out c) → StrsAre out.toList ys → ys.Perm l → sortedS ys = true → Q (.ref p) s') :
    wpAny (model P w) A (call (.builtin "sorted") [.ref a]) Q E s := by
  obtain ⟨D, ho, F, rs, led, nd⟩ := R
  have sz : D.1.size = l.length := F.sz
  have few : D.1.size < scanBound := by unfold scanBound; omega
  -- the entries as texts
  have ent : ∃ ks : List Str, StrsAre (D.1.toList.map (·.2)) ks ∧ ks.Perm l := by
    have one : ∀ e ∈ D.1.toList, ∃ k t, e.2 = Value.str k t ∧ k ∈ l := fun e he => by
      obtain ⟨⟨k, hk, _⟩, _⟩ := F.el e he
      have hk2 : Value.isStrOf k e.2 = true := hk
      cases hv : e.2 with
      | str x t =>
        rw [hv] at hk2
        have e2 : x = k := by simpa [Value.isStrOf] using hk2
        exact ⟨x, t, rfl, (F.mem x).mpr ⟨e, he, by rw [e2]; exact hk⟩⟩
      | _ => rw [hv] at hk2; simp [Value.isStrOf] at hk2
    have mk : ∀ es : List (Int × Value), (∀ e ∈ es, ∃ k t, e.2 = Value.str k t ∧ k ∈ l) → ∃ ks : List Str, StrsAre (es.map (·.2)) ks ∧ ∀ k ∈ ks, k ∈ l := by
      intro es
      induction es with
      | nil => intro _; exact ⟨[], .nil, fun k hk => by cases hk⟩
      | cons e es ih =>
        intro he
        obtain ⟨k, t, e1, e2⟩ := he e List.mem_cons_self
        obtain ⟨ks, g1, g2⟩ := ih fun x hx => he x (List.mem_cons_of_mem _ hx)
        refine ⟨k :: ks, ?_, fun z hz => ?_⟩
        · rw [List.map_cons, e1]
          exact .cons k t g1
        · rcases List.mem_cons.mp hz with rfl | hz
          · exact e2
          · exact g2 z hz
    obtain ⟨ks, g1, g2⟩ := mk _ one
    refine ⟨ks, g1, ?_⟩
    have len : ks.length = l.length := by
      have q := StrsAre.length g1
      rw [List.length_map, Array.length_toList] at q
      omega
    -- each text of l is among them
    have sup : ∀ k ∈ l, k ∈ ks := fun k hk => by
      obtain ⟨e, he, hi⟩ := (F.mem k).mp hk
      obtain ⟨x, t, hx, _⟩ := one e he
      have e2 : x = k := by
        have q : Value.isStrOf k e.2 = true := hi
        rw [hx] at q
        simpa [Value.isStrOf] using q
      subst e2
      obtain ⟨i, hi2⟩ := List.getElem?_of_mem (List.mem_map.mpr ⟨e, he, rfl⟩ : e.2 ∈ D.1.toList.map (·.2))
      obtain ⟨y, u, hy, e3⟩ := strs_get g1 hi2
      rw [hx] at e3
      injection e3 with e3 _
      rw [e3]
      exact List.mem_of_getElem? hy
    exact (perm_of_sup nd sup (by omega)).symm
  obtain ⟨ks, g1, g2⟩ := ent
  refine Calls.call_function_entry kind_sorted plain_sorted entry_sorted (args_sorted1 _) ?_
  unfold Builtin.«sorted»
  refine wpAny_bind (m := checkCount "sorted" 1 1 _) (wpAny_pure (wpAny_bind (L2.collect_set (A := A.in1) (t := D.2.2) (ep := D.2.1) (es := D.1) calm ⟨_, ho, rfl, rfl⟩ F.fit few rs led fun s1 vs k1 hz g1' o1 pm => ?_)))
  obtain ⟨zs, z1, z2⟩ := strs_perm g1 pm.symm
  have vl : vs.length = l.length := by rw [StrsAre.length z1, z2.length_eq, g2.length_eq]
  refine wpAny_bind (wpAny_newList ?_ (by rw [vl, sizeLine_eq]; omega))
  have hoL : (s1.heap.push (seqObj "list" vs.toArray 0)).get? s1.heap.objs.size = some (seqObj "list" vs.toArray 0) := Heap.get?_push_size _ rfl
  refine wpAny_bind (wpAny_holding (wpAny_call_entry slot_list_sort ⟨_, hoL, rfl⟩ entry_list_sort (list_sort_treeK strKind_oneLt hoL z1.keysOf (fun v1 v2 rest e => keyKind_strs (by rw [← e]; exact z1)) (by rw [vl]; exact low) fun st hp hs => ⟨_, rfl, ?_⟩) (args_list_sort _)))
  obtain ⟨ys, y1, y2, y3⟩ := sorted_out_str z1 hp hs
  obtain ⟨c, hc⟩ := sortedHeap_at (vs := vs) (out := (arrOf st).map (·.2)) hoL
  refine wpAny_pure ⟨_, rfl, h _ s1.heap.objs.size _ c ys (fun b u e => ?_) g1' o1 hz hc y1 ((y2.trans z2).trans g2) y3⟩
  have q := k1 b u e
  have lt := Heap.lt_size q
  show (sortedHeap (s1.heap.push (seqObj "list" vs.toArray 0)) s1.heap.objs.size vs ((arrOf st).map (·.2))).get? b = some u
  rw [sortedHeap_old (Nat.ne_of_lt lt) (by rw [size_push']; exact Nat.lt_succ_of_lt lt)]
  exact Heap.get?_push_of_some _ q
end
end Pn

namespace Pn
open PySem L2
/-! ### sets of texts as rules: set(xs), len(s), sorted(s) -/
def SetX (P : Program) (w : World) (a : Addr) (l : List Str) : HO := .ext fun h => TxtSet P w h a l
section
variable {X : Cx}
theorem setX_new {w : World} {P : Program} {H : Hp} {h : Heap} {a : Addr} {l : List Str} (R : TxtSet P w h a l) : ObjOk P w H h a (SetX P w a l) := by
  have ⟨_, there, _⟩ := R
  exact ⟨R, ⟨_, there⟩, fun _ _ z keep => TxtSet.keep z keep⟩
theorem setX_get {pins : List (Addr × Obj)} {σ : L2.St} {H : Hp} {s : Shared} {a : Addr} {l : List Str} (I : Inv X pins σ H s) (ha : H a = some (SetX X.prog X.w a l)) : TxtSet X.prog X.w s.heap a l := (I.hok a _ ha).1
def rSetX (K : PySem.W.Frag) (P : Program) (w : World) : List V → Hp → VK → Prop := fun xs H Q => ∃ (l : Addr) (ss : List Str), xs = [.ref l] ∧ SqL K H l (ss.map V.str) ∧ ss.length < 4000 ∧ ∀ a, H a = none → Q (.ref a) (upd H a (SetX P w a (uniq ss)))
theorem cr_setX (hc : X.calm = true) : CallR X (.type "set") (rSetX X.K X.prog X.w) := by
  intro pins s σ H xs us Q I r h
  obtain ⟨l, ss, rfl, hl, low, q⟩ := h
  rw [Vals.ref1 r]
  obtain ⟨its, rv, pl, _⟩ := I.list hl
  refine set_of_texts (I.ok.hd hc) pl.isList (xs := ss) (by simpa using rv.strs) (by unfold scanBound; omega) fun h' tk R old => ?_
  exact ⟨.ref s.heap.objs.size, upd H s.heap.objs.size (SetX X.prog X.w s.heap.objs.size (uniq ss)), I.laid (t' := tk) old (Nat.le_refl _) (setX_new R), rfl, q _ (I.hok.fresh (Nat.le_refl _))⟩
def rLenX (P : Program) (w : World) : List V → Hp → VK → Prop := fun xs H Q => ∃ (a : Addr) (l : List Str), xs = [.ref a] ∧ H a = some (SetX P w a l) ∧ l.length ≤ 4000 ∧ Q (.int (l.length : Nat)) H
theorem cr_lenX : CallR X (.builtin "len") (rLenX X.prog X.w) := by
  intro pins s σ H xs us Q I r h
  obtain ⟨a, l, rfl, ha, low, q⟩ := h
  rw [Vals.ref1 r]
  obtain ⟨D, there, F, _⟩ := setX_get I ha
  have few : (D.1.size : Int) < 2 ^ 63 := by
    rw [show D.1.size = l.length from F.sz]
    omega
  refine call_len_set there ⟨rfl, rfl, rfl⟩ rfl F.fit few ?_
  rw [F.sz]
  exact ⟨.int (l.length : Nat), H, I.tok _, ⟨_, rfl⟩, q⟩
def rSortX (P : Program) (w : World) : List V → Hp → VK → Prop := fun xs H Q => ∃ (a : Addr) (l : List Str), xs = [.ref a] ∧ H a = some (SetX P w a l) ∧ l.length < 64 ∧ ∀ (ys : List Str) (p : Addr), ys.Perm l → PyProof.Rows.sortedS ys = true → H p = none → Q (.ref p) (upd H p (.lst (ys.map V.str)))
theorem cr_sortX (hc : X.calm = true) : CallR X (.builtin "sorted") (rSortX X.prog X.w) := by
  intro pins s σ H xs us Q I r h
  obtain ⟨a, l, rfl, ha, low, q⟩ := h
  rw [Vals.ref1 r]
  refine sorted_txt (setX_get I ha) (I.ok.hd hc) low fun s' p out c ys old sg so hp there ys1 ys2 ys3 => ?_
  have free : H p = none := I.hok.fresh hp
  have size : (ys.map V.str).length ≤ sizeLine := by rw [List.length_map, ys2.length_eq]; exact small64 low
  have J : Inv X pins σ (upd H p (.lst (ys.map V.str))) { s with heap := s'.heap, gens := s'.gens, drawn := s'.drawn, toks := s'.toks } :=
    I.call (ch := []) (Un.laid old hp free) (I.hok.laid old hp ⟨size, out.toList, c, vals_of_strs ys1, there⟩) (by rw [sg]; exact I.bare) (fun _ z => nomatch z)
  have same : s' = { s with heap := s'.heap, gens := s'.gens, drawn := s'.drawn, toks := s'.toks } := by
    obtain ⟨_, _, _, _, _⟩ := s'
    obtain ⟨_, _, _, _, _⟩ := s
    cases so
    rfl
  rw [same]
  exact ⟨.ref p, _, J, rfl, q ys p ys2 ys3 free⟩
end
end Pn

namespace Pn
open PySem L2 TL
/-! ### books: what is asked of counters and parts, and the unrolled text -/
def putsOf (rs : List RowD) : List Str := rs.filterMap fun r => match r with | .put z => some z | _ => none
theorem mem_puts {rs : List RowD} {z : Str} : z ∈ putsOf rs ↔ RowD.put z ∈ rs := by
  unfold putsOf
  rw [List.mem_filterMap]
  constructor
  · rintro ⟨r, hr, e⟩
    cases r with
    | put y => rw [← Option.some.inj e]; exact hr
    | _ => cases e
  · intro h
    exact ⟨_, h, rfl⟩
/-- the counter of a row that counts -/
def cntOf : RowD → Option Str
  | .note c _ => some c
  | .skip c _ => some c
  | .set c _ => some c
  | .keep c => some c
  | .back c => some c
  | _ => none
def refOf : RowD → Option Str
  | .ref l => some l
  | _ => none
/-- a note's label, an empty one too -/
def labOf : RowD → Option Str
  | .note _ l => some l
  | _ => none
/-- each puts only earlier ones -/
def Earlier (bk : List PartD) : Prop := ∀ (i : Nat) (p : PartD), bk[i]? = some p → ∀ z, RowD.put z ∈ p.2 → z ∈ (bk.take i).map (·.1)
structure CsOk (cs : List (Str × Str)) : Prop where
  nm : ∀ c ∈ cs, nameS c.1 = true
  nd : (cs.map (·.1)).Nodup
  up : TreeOk cs
  len : cs.length ≤ 100
structure BookV (cs : List (Str × Str)) (bk : List PartD) : Prop where
  c : CsOk cs
  b0 : bk ≠ []
  nd : (bk.map (·.1)).Nodup
  len : bk.length ≤ 50
  rows : ∀ p ∈ bk, partOk p.1 p.2
  cnt : ∀ p ∈ bk, ∀ r ∈ p.2, ∀ c, cntOf r = some c → c ∈ cs.map (·.1)
  puts : Earlier bk
  small : ∀ z rs, (z, rs) ∈ knowns bk → rs.length ≤ 4000
  refs : ∀ l, RowD.ref l ∈ unrolled bk → ∃ c, RowD.note c l ∈ unrolled bk
theorem puts_earlier {bk : List PartD} (h : PutsOk bk) : Earlier bk := fun i p hp => (h i p hp).2
/-- none puts itself or one behind it -/
def NoLater : List PartD → Prop
  | [] => True
  | p :: rest => (∀ z, RowD.put z ∈ p.2 → z ∉ (p :: rest).map (·.1)) ∧ NoLater rest
theorem no_later {bk : List PartD} (nd : (bk.map (·.1)).Nodup) (e : Earlier bk) : NoLater bk := by
  have key : ∀ (l pre : List PartD), bk = pre ++ l → NoLater l := by
    intro l
    induction l with
    | nil => intro pre _; trivial
    | cons p rest ih =>
      intro pre hb
      refine ⟨fun z hz hm => ?_, ih (pre ++ [p]) (by rw [hb]; simp)⟩
      have h1 := e pre.length p (by rw [hb]; simp) z hz
      rw [hb, List.take_left' rfl] at h1
      rw [hb, List.map_append] at nd
      exact (List.nodup_append.mp nd).2.2 _ h1 _ hm rfl
  exact key bk [] rfl
def reachStep (p : PartD) (ns : List Str) : List Str := if p.1 ∈ ns then ns ++ putsOf p.2 else ns
def reach (l : List PartD) (ns : List Str) : List Str := l.foldr reachStep ns
theorem reach_sub {l : List PartD} {ns : List Str} : ∀ z ∈ ns, z ∈ reach l ns := by
  induction l with
  | nil => intro z h; exact h
  | cons p l ih =>
    intro z h
    show z ∈ reachStep p (reach l ns)
    unfold reachStep
    split
    · exact List.mem_append_left _ (ih z h)
    · exact ih z h
theorem reach_closed {l : List PartD} {ns : List Str} (nl : NoLater l) : ∀ p ∈ l, p.1 ∈ reach l ns → ∀ z, RowD.put z ∈ p.2 → z ∈ reach l ns := by
  induction l with
  | nil => intro p h; cases h
  | cons q l ih =>
    intro p hp hin z hz
    have hin : p.1 ∈ reachStep q (reach l ns) := hin
    show z ∈ reachStep q (reach l ns)
    unfold reachStep at hin ⊢
    rcases List.mem_cons.mp hp with rfl | hp
    · by_cases c : p.1 ∈ reach l ns
      · rw [if_pos c]
        exact List.mem_append_right _ (mem_puts.mpr hz)
      · rw [if_neg c] at hin
        exact absurd hin c
    · have hM : p.1 ∈ reach l ns := by
        by_cases c : q.1 ∈ reach l ns
        · rw [if_pos c] at hin
          rcases List.mem_append.mp hin with h | h
          · exact h
          · exact absurd (List.mem_map.mpr ⟨p, List.mem_cons_of_mem _ hp, rfl⟩) (nl.1 p.1 (mem_puts.mp h))
        · rw [if_neg c] at hin
          exact hin
      have q2 := ih nl.2 p hp hM z hz
      split
      · exact List.mem_append_left _ q2
      · exact q2
/-- the parts that are unrolled, with their unrolled rows -/
def lastName (bk : List PartD) : Str := (bk.getLast?.map (·.1)).getD ""
def reached (bk : List PartD) : List Str := reach bk [lastName bk]
theorem knowns_in {bk : List PartD} {i : Nat} {p : PartD} (hp : bk[i]? = some p) : (p.1, unrollIn (knowns (bk.take i)) p.2) ∈ knowns (bk.take (i + 1)) := by
  rw [List.take_add_one, hp]
  show _ ∈ knowns (bk.take i ++ [p])
  rw [knowns_snoc]
  exact List.mem_cons_self
theorem knowns_mono {bk : List PartD} {i : Nat} : ∀ x ∈ knowns (bk.take i), x ∈ knowns bk := by
  have key : ∀ (l pre : List PartD), ∀ x ∈ knowns pre, x ∈ knowns (pre ++ l) := by
    intro l
    induction l with
    | nil => intro pre x h; rw [List.append_nil]; exact h
    | cons p l ih =>
      intro pre x h
      have e : pre ++ p :: l = (pre ++ [p]) ++ l := by simp
      rw [e]
      refine ih _ x ?_
      rw [knowns_snoc]
      exact List.mem_cons_of_mem _ h
  intro x h
  have e : bk = bk.take i ++ bk.drop i := (List.take_append_drop i bk).symm
  rw [e]
  exact key _ _ x (by simpa using h)
end Pn

namespace Pn
open PySem L2 TL
/-! ### drawn books -/
theorem cut_to (xs : List V) {k : Nat} (h : k ≤ xs.length) : cutV xs none (some (k : Int)) = xs.take k := by
  unfold cutV
  rw [HT.sIx_none, HT.sIx_nat]
  simp [Nat.min_eq_left h]
theorem cut_from (xs : List V) {k : Nat} (h : k ≤ xs.length) : cutV xs (some (k : Int)) none = xs.drop k := by
  unfold cutV
  rw [HT.sIx_none, HT.sIx_nat, Nat.min_eq_left h]
  exact List.take_of_length_le (by rw [List.length_drop]; omega)
theorem cut_last (xs : List V) : cutV xs none (some (-1)) = xs.dropLast := by
  unfold cutV
  rw [HT.sIx_none, List.dropLast_eq_take]
  have e : HT.sIx xs.length xs.length (some (-1)) = xs.length - 1 := by
    show (if (-1 : Int) < 0 then ((-1 : Int) + (xs.length : Int)).toNat else min (-1 : Int).toNat xs.length) = _
    rw [if_pos (by decide)]
    omega
  rw [e]
  rfl
def labelOf : RowD → Option Str
  | .note _ l => if l = "" then none else some l
  | _ => none
def labelsOf (rs : List RowD) : List Str := rs.filterMap labelOf
/-- what a row of a drawn book is -/
def RowIn (d : Pool) (cs : List (Str × Str)) (bk : List PartD) (r : RowD) : Prop := rowFine d cs (bk.map (·.1)) r ∨ ∃ l, r = .ref l ∧ l ∈ labelsOf (unrolled bk) ∧ nameS l = true
structure BookOk (d : Pool) (cs : List (Str × Str)) (bk : List PartD) : Prop where
  hd : d ∈ poolsD
  c0 : 0 < cs.length
  c3 : cs.length ≤ 3
  cn : cs.map (·.1) = d.c.take cs.length
  ct : TreeOk cs
  b0 : bk ≠ []
  b3 : bk.length ≤ 3
  bn : bk.map (·.1) = d.p.take bk.length
  puts : PutsOk bk
  rows : ∀ p ∈ bk, ∀ r ∈ p.2, RowIn d cs bk r
theorem paired_take {α β : Type} {R : α → β → Prop} : ∀ (k : Nat) {l : List α} {m : List β}, Paired R l m → Paired R (l.take k) (m.take k)
  | 0, _, _, _ => .nil
  | _ + 1, _, _, .nil => .nil
  | k + 1, _, _, .cons a b => .cons a (paired_take k b)
theorem paired_drop {α β : Type} {R : α → β → Prop} : ∀ (k : Nat) {l : List α} {m : List β}, Paired R l m → Paired R (l.drop k) (m.drop k)
  | 0, _, _, h => h
  | _ + 1, _, _, .nil => .nil
  | k + 1, _, _, .cons _ b => paired_drop k b
theorem paired_init {α β : Type} {R : α → β → Prop} {l : List α} {m : List β} {x : α} {y : β} (h : l.length = m.length) (p : Paired R (l ++ [x]) (m ++ [y])) : Paired R l m := by
  have q := paired_take l.length p
  rw [List.take_left' rfl, h, List.take_left' rfl] at q
  exact q
theorem hid_same {A B : Hp} (s : Same A B) (p : Addr) : Same (hid A p) (hid B p) := fun a o e => by
  unfold hid at e ⊢
  by_cases h : a = p
  · rw [if_pos h] at e; cases e
  · rw [if_neg h] at e ⊢
    exact s a o e
/-- the heap but for two places -/
def zz (H : Hp) (b p : Addr) : Hp := hid (hid H b) p
theorem zz_sub {H : Hp} {b p : Addr} : Same (zz H b p) H := fun a o e => hid_sub a o (hid_sub a o e)
theorem zz_hid {H : Hp} {b p : Addr} : Same (zz H b p) (hid H b) := fun a o e => hid_sub a o e
theorem zz_kp {H H' : Hp} {b p : Addr} (k : Kp b H H') : Same (zz H b p) (zz H' b p) := hid_same (hid_kp k) p
theorem zz_same {H H' : Hp} {b p : Addr} (s : Same H H') : Same (zz H b p) (zz H' b p) := hid_same (hid_same s b) p
theorem zz_new {H : Hp} {b p : Addr} {o : HO} (h : H p = none) : Same (hid H b) (zz (upd H p o) b p) := fun a u e => by
  have n : a ≠ p := fun z => by
    rw [z] at e
    have := hid_sub _ _ e
    rw [h] at this
    cases this
  show hid (hid (upd H p o) b) p a = some u
  refine hid_get ?_ n
  unfold hid at e ⊢
  by_cases hb : a = b
  · rw [if_pos hb] at e; cases e
  · rw [if_neg hb] at e ⊢
    rw [upd_ne n]
    exact e
theorem zz_put {H : Hp} {b p : Addr} {o : HO} : Same (zz H b p) (zz (upd H p o) b p) := fun a u e => by
  unfold zz hid at e ⊢
  by_cases h : a = p
  · rw [if_pos h] at e; cases e
  · rw [if_neg h] at e ⊢
    by_cases hb : a = b
    · rw [if_pos hb] at e; cases e
    · rw [if_neg hb] at e ⊢
      rw [upd_ne h]
      exact e
theorem Kp.updn {b p : Addr} {H H1 : Hp} {o : HO} (h : Kp b H H1) (hp : H p = none) : Kp b H (upd H1 p o) := fun a u e n => by
  rw [upd_ne (ne_of_none e hp)]
  exact h a u e n
theorem BoxAt.upd {b p : Addr} {H : Hp} {o : HO} (h : BoxAt H b) (n : p ≠ b) : BoxAt (L2.upd H p o) b := by
  obtain ⟨x, y, e, g⟩ := h
  exact ⟨x, y, e, by rw [upd_ne n.symm]; exact g⟩
theorem zz_get {H : Hp} {b p a : Addr} {o : HO} (h : H a = some o) (n : a ≠ b) (m : a ≠ p) : zz H b p a = some o := hid_get (hid_get h n) m
theorem PutsOk.snoc {bk : List PartD} {p : PartD} (h : PutsOk bk) (hl : p.2.length ≤ 6) (hp : ∀ z, RowD.put z ∈ p.2 → z ∈ bk.map (·.1)) : PutsOk (bk ++ [p]) := fun i q e => by
  by_cases hi : i < bk.length
  · rw [List.getElem?_append_left hi] at e
    obtain ⟨h1, h2⟩ := h i q e
    refine ⟨h1, fun z hz => ?_⟩
    rw [List.take_append_of_le_length (by omega)]
    exact h2 z hz
  · have hi2 : i = bk.length := by
      have := (List.getElem?_eq_some_iff.mp e).1
      simp at this
      omega
    subst hi2
    have e2 : p = q := by simpa using e
    subst e2
    refine ⟨hl, fun z hz => ?_⟩
    rw [List.take_left']
    · exact hp z hz
    · rfl
theorem fine_more {d : Pool} {cs : List (Str × Str)} {l m : List Str} (h : ∀ x ∈ l, x ∈ m) : ∀ {r : RowD}, rowFine d cs l r → rowFine d cs m r
  | .note _ _, f => f
  | .skip _ _, f => f
  | .set _ _, f => f
  | .keep _, f => f
  | .back _, f => f
  | .ref _, f => f
  | .put _, f => h _ f
  | .opn _, f => f
/-- the parts drawn so far -/
structure BkOk (d : Pool) (cs : List (Str × Str)) (i : Nat) (bk : List PartD) : Prop where
  n : bk.length = i
  nm : bk.map (·.1) = d.p.take i
  puts : PutsOk bk
  rows : ∀ p ∈ bk, p.2.length ≤ 5 ∧ ∀ r ∈ p.2, rowFine d cs (bk.map (·.1)) r
theorem fine_puts {d : Pool} {cs : List (Str × Str)} {l : List Str} {rs : List RowD} (h : ∀ r ∈ rs, rowFine d cs l r) : ∀ z, RowD.put z ∈ rs → z ∈ l := fun z hz => h _ hz
theorem lookup_mem {kn : List PartD} {z : Str} {ys : List RowD} (h : kn.lookup z = some ys) : (z, ys) ∈ kn := by
  induction kn with
  | nil => cases h
  | cons a kn ih =>
    obtain ⟨y, rs⟩ := a
    rw [List.lookup_cons] at h
    by_cases e : z = y
    · subst e
      rw [beq_self_eq_true] at h
      have := Option.some.inj h
      subst this
      exact List.mem_cons_self
    · rw [show (z == y) = false from by simpa using e] at h
      exact List.mem_cons_of_mem _ (ih h)
theorem expand_all {G : RowD → Prop} {kn : List PartD} (h : ∀ z rs, (z, rs) ∈ kn → ∀ r ∈ rs, G r) {rs : List RowD} (g : ∀ r ∈ rs, G r) : ∀ r ∈ unrollIn kn rs, G r := fun r hr => by
  obtain ⟨x, hx, hr⟩ := List.mem_flatMap.mp hr
  have gx := g x hx
  cases x with
  | put z =>
    cases hl : kn.lookup z with
    | none =>
      have e : expand kn (.put z) = [] := by show (List.lookup z kn).getD [] = []; rw [hl]; rfl
      rw [e] at hr
      cases hr
    | some ys =>
      have e : expand kn (.put z) = ys := by show (List.lookup z kn).getD [] = ys; rw [hl]; rfl
      rw [e] at hr
      exact h z ys (lookup_mem hl) r hr
  | _ => rw [List.mem_singleton.mp hr]; exact gx
theorem knowns_all {G : RowD → Prop} {bk : List PartD} (h : ∀ p ∈ bk, ∀ r ∈ p.2, G r) : ∀ z rs, (z, rs) ∈ knowns bk → ∀ r ∈ rs, G r := by
  have key : ∀ (l : List PartD) (kn : List PartD), (∀ z rs, (z, rs) ∈ kn → ∀ r ∈ rs, G r) → (∀ p ∈ l, ∀ r ∈ p.2, G r) → ∀ z rs, (z, rs) ∈ l.foldl (fun kn p => (p.1, unrollIn kn p.2) :: kn) kn → ∀ r ∈ rs, G r := by
    intro l
    induction l with
    | nil => intro kn hk _; exact hk
    | cons p l ih =>
      intro kn hk hl
      rw [List.foldl_cons]
      refine ih _ (fun z rs hz => ?_) (fun q hq => hl q (List.mem_cons_of_mem _ hq))
      rcases List.mem_cons.mp hz with e | hz
      · injection e with e1 e2
        subst e2
        exact expand_all hk (hl p List.mem_cons_self)
      · exact hk z rs hz
  exact key bk [] (fun z rs hz => by cases hz) h
theorem unrolled_snoc (bi : List PartD) (p : PartD) : unrolled (bi ++ [p]) = unrollIn (knowns bi) p.2 := by
  unfold unrolled
  rw [knowns_snoc]
  rfl
theorem unrolled_all {G : RowD → Prop} {bk : List PartD} (h : ∀ p ∈ bk, ∀ r ∈ p.2, G r) : ∀ r ∈ unrolled bk, G r := by
  intro r hr
  unfold unrolled at hr
  cases hk : knowns bk with
  | nil => rw [hk] at hr; cases hr
  | cons a l =>
    rw [hk] at hr
    exact knowns_all h a.1 a.2 (by rw [hk]; exact List.mem_cons_self) r hr
theorem labels_of {rs : List RowD} {l : Str} (h : l ∈ labelsOf rs) : ∃ c, RowD.note c l ∈ rs ∧ l ≠ "" := by
  obtain ⟨r, hr, e⟩ := List.mem_filterMap.mp h
  cases r with
  | note c z =>
    have e : (if z = "" then none else some z) = some l := e
    by_cases hz : z = ""
    · rw [if_pos hz] at e; cases e
    · rw [if_neg hz] at e
      have := Option.some.inj e
      subst this
      exact ⟨c, hr, hz⟩
  | _ => cases e
theorem labels_fine {d : Pool} {cs : List (Str × Str)} {bk : List PartD} (fl : d.Fine) (h : ∀ p ∈ bk, ∀ r ∈ p.2, rowFine d cs (bk.map (·.1)) r) : ∀ l ∈ labelsOf (unrolled bk), nameS l = true := fun l hl => by
  obtain ⟨c, hr, hn⟩ := labels_of hl
  have q := (unrolled_all h _ hr).2
  rcases q with e | e
  · exact absurd e hn
  · exact fl.names l (by simp [e])
/-- a drawn book with one reference put into its text -/
def withRef (p : PartD) (k : Nat) (l : Str) : PartD := (p.1, p.2.take k ++ [RowD.ref l] ++ p.2.drop k)
theorem with_ref {d : Pool} {cs : List (Str × Str)} {bi : List PartD} {p : PartD} {i k : Nat} {l : Str} (fl : d.Fine) (ok : BkOk d cs i (bi ++ [p])) (hi : i ≤ 3) (hd : d ∈ poolsD) (c0 : 0 < cs.length) (c3 : cs.length ≤ 3) (cn : cs.map (·.1) = d.c.take cs.length) (ct : TreeOk cs)
    (hl : l ∈ labelsOf (unrolled (bi ++ [p]))) : BookOk d cs (bi ++ [withRef p k l]) := by
  have hn : (bi ++ [withRef p k l]).map (·.1) = (bi ++ [p]).map (·.1) := by rw [List.map_append, List.map_append]; rfl
  have hlen : (bi ++ [withRef p k l]).length = i := by rw [← ok.n]; simp
  have hmem : ∀ r ∈ (withRef p k l).2, r ∈ p.2 ∨ r = .ref l := fun r hr => by
    rcases List.mem_append.mp hr with hr | hr
    · rcases List.mem_append.mp hr with hr | hr
      · exact .inl (List.mem_of_mem_take hr)
      · exact .inr (List.mem_singleton.mp hr)
    · exact .inl (List.mem_of_mem_drop hr)
  have hl2 : l ∈ labelsOf (unrolled (bi ++ [withRef p k l])) := by
    rw [unrolled_snoc] at hl ⊢
    have e : p.2 = p.2.take k ++ p.2.drop k := (List.take_append_drop k p.2).symm
    unfold labelsOf unrollIn at hl ⊢
    rw [e, List.flatMap_append, List.filterMap_append] at hl
    show l ∈ List.filterMap labelOf (List.flatMap (expand (knowns bi)) (p.2.take k ++ [RowD.ref l] ++ p.2.drop k))
    rw [List.flatMap_append, List.flatMap_append, List.filterMap_append, List.filterMap_append]
    rcases List.mem_append.mp hl with h | h
    · exact List.mem_append_left _ (List.mem_append_left _ h)
    · exact List.mem_append_right _ h
  have pbi : PutsOk bi := fun j q e => by
    have hj := (List.getElem?_eq_some_iff.mp e).1
    have := ok.puts j q (by rw [List.getElem?_append_left hj]; exact e)
    rw [List.take_append_of_le_length (by omega)] at this
    exact this
  have pp := ok.puts bi.length p (by simp)
  rw [List.take_left' rfl] at pp
  have hp5 := (ok.rows p (by simp)).1
  refine ⟨hd, c0, c3, cn, ct, by simp, by omega, by rw [hn, hlen]; exact ok.nm, pbi.snoc ?_ (fun z hz => ?_), fun q hq r hr => ?_⟩
  · show (p.2.take k ++ [RowD.ref l] ++ p.2.drop k).length ≤ 6
    rw [List.length_append, List.length_append, List.length_take, List.length_drop]
    show min k p.2.length + 1 + (p.2.length - k) ≤ 6
    omega
  · rcases hmem _ hz with h | h
    · exact pp.2 z h
    · cases h
  · rcases List.mem_append.mp hq with hq | hq
    · exact .inl (by rw [hn]; exact (ok.rows q (List.mem_append_left _ hq)).2 r hr)
    · rw [List.mem_singleton.mp hq] at hr
      rcases hmem r hr with h | h
      · exact .inl (by rw [hn]; exact (ok.rows p (by simp)).2 r h)
      · exact .inr ⟨l, h, hl2, labels_fine fl (fun q hq => (ok.rows q hq).2) l hl⟩
section
variable {P : Program} {w : World} {K : PySem.W.Frag} {mg : Str → Option Value} {base : Heap}
def spBook : Sp := fun vs H Q _ => ∃ (b : Addr) (m : Int), vs = [.ref b, .int m] ∧ BoxAt H b ∧
  ∀ (t c pl : Addr) (d : Pool) (cs : List (Str × Str)) (bk : List PartD) (H' : Hp), BookOk d cs bk → Kp b H H' → BoxAt H' b → hid H' b t = some (.tup [.ref c, .ref pl]) → CsAt (hid H' b) c cs → PartsAt (hid H' b) pl bk → Q (.ref t) H'
end
end Pn

namespace Pn
open PySem L2 SeqAt
open MeetsSeq MeetsSeq2 MeetsSeq3 SeqRoads2
open AutoSeq1 (wpAny_loadPart')
/-! ### == and != of tuples whose things are compared by an own == -/
section
variable {prog : Program} {w : World} {A : Around} {R : Result → Shared → Prop}
/-- the answer of a tuple's == -/
def tupAns (e : Nat → Bool) (m n : Nat) : Bool := (List.range (min m n)).all e && m == n
theorem pairs_at {us ws : Array Value} {i : Nat} {y x : Value} {rest : List (Value × Value)} (hz : (y, x) :: rest = (us.toList.zip ws.toList).drop i) : ∃ (h1 : i < us.size) (h2 : i < ws.size), y = us[i] ∧ x = ws[i] ∧ rest = (us.toList.zip ws.toList).drop (i + 1) := by
  have hl : i < (us.toList.zip ws.toList).length := by
    by_cases h : i < (us.toList.zip ws.toList).length
    · exact h
    · rw [List.drop_eq_nil_of_le (Nat.le_of_not_lt h)] at hz
      cases hz
  have hm : i < us.size ∧ i < ws.size := by
    rw [List.length_zip, Array.length_toList, Array.length_toList] at hl
    omega
  rw [List.drop_eq_getElem_cons hl, List.getElem_zip] at hz
  injection hz with ha hr
  injection ha with hy hx
  exact ⟨hm.1, hm.2, by rw [hy, Array.getElem_toList], by rw [hx, Array.getElem_toList], hr⟩
theorem pairs_out {us ws : Array Value} {i : Nat} (hz : [] = (us.toList.zip ws.toList).drop i) : min us.size ws.size ≤ i := by
  have q := congrArg List.length hz
  rw [List.length_nil, List.length_drop, List.length_zip, Array.length_toList, Array.length_toList] at q
  omega
theorem ans_step {e : Nat → Bool} {m i : Nat} (h : i < m) : ((List.range m).drop i).all e = (e i && ((List.range m).drop (i + 1)).all e) := by
  rw [List.drop_eq_getElem_cons (by simpa using h), List.all_cons, List.getElem_range]
/-- tuple.__eq__ -/
theorem teq_own {p q : Addr} {us ws : Array Value} {n n2 : Nat} {dd dd2 : Option Addr} {sl sl2 : Array (Option Value)} {e : Nat → Bool} {J : Shared → Prop} {s : Shared}
    (hp : s.heap.get? p = some { cls := .type "tuple", dict := dd, data := .seq us n, slots := sl }) (hq : s.heap.get? q = some { cls := .type "tuple", dict := dd2, data := .seq ws n2, slots := sl2 })
    (step : ∀ i (h1 : i < us.size) (h2 : i < ws.size) s', J s' → wpAny (model prog w) A.in1 (eqBool us[i] ws[i]) (fun r s2 => r = e i ∧ J s2) (fun x s2 => R (.error x) s2) s')
    (fin : ∀ s', J s' → R (.ok (.ret (.bool (tupAns e us.size ws.size)))) s') (hs : J s) :
    wpAny (model prog w) A.in1 (Builtin.«tuple.__eq__» ⟨[.ref p, .ref q], []⟩) (GQ.FinOf prog w A R) (fun x s2 => R (.error x) s2) s := by
  have f2 := AutoSeq1.sub_tuple_tuple
  have h0 := hs
  obtain ⟨hp', g, d, tk, os⟩ := s
  wp_walk using wpAny_loadPart' hp, wpAny_loadPart' hq, wpAny_forIn_list _ (fun rest b s' => b.1 = none ∧ J s' ∧ ∃ i, rest = (us.toList.zip ws.toList).drop i ∧ tupAns e us.size ws.size = (((List.range (min us.size ws.size)).drop i).all e && us.size == ws.size)) _
  case turn =>
    rintro ⟨y, x⟩ rest b s' ⟨hb, hj, i, hz, hA⟩
    obtain ⟨h1, h2, rfl, rfl, hrest⟩ := pairs_at hz
    rw [ans_step (by omega)] at hA
    refine wpAny_bind (wpAny_mono (step i h1 h2 s' hj) (fun r s2 hr => ?_) fun _ _ x => x)
    obtain ⟨rfl, hj2⟩ := hr
    cases hc : e i with
    | true =>
      rw [hc] at hA
      wp_walk
      exact ⟨rfl, hj2, i + 1, hrest, by simpa using hA⟩
    | false =>
      rw [hc] at hA
      have hF := fin s2 hj2
      rw [hA] at hF
      wp_walk
      simpa using hF
  case fin =>
    rintro ⟨b1, b2⟩ s' ⟨hb, hj, i, hz, hA⟩
    simp only at hb
    subst hb
    rw [List.drop_eq_nil_of_le (by simpa using pairs_out hz)] at hA
    have hF := fin s' hj
    rw [hA] at hF
    wp_walk
    simpa [Builtin.Tuple.tupleCompareSizes] using hF
  case h =>
    exact ⟨rfl, h0, 0, rfl, rfl⟩
/-- tuple.__ne__ -/
theorem tne_own {p q : Addr} {us ws : Array Value} {n n2 : Nat} {dd dd2 : Option Addr} {sl sl2 : Array (Option Value)} {e : Nat → Bool} {J : Shared → Prop} {s : Shared}
    (hp : s.heap.get? p = some { cls := .type "tuple", dict := dd, data := .seq us n, slots := sl }) (hq : s.heap.get? q = some { cls := .type "tuple", dict := dd2, data := .seq ws n2, slots := sl2 })
    (step : ∀ i (h1 : i < us.size) (h2 : i < ws.size) s', J s' → wpAny (model prog w) A.in1 (eqBool us[i] ws[i]) (fun r s2 => r = e i ∧ J s2) (fun x s2 => R (.error x) s2) s')
    (fin : ∀ s', J s' → R (.ok (.ret (.bool (!tupAns e us.size ws.size)))) s') (hs : J s) :
    wpAny (model prog w) A.in1 (Builtin.«tuple.__ne__» ⟨[.ref p, .ref q], []⟩) (GQ.FinOf prog w A R) (fun x s2 => R (.error x) s2) s := by
  have f2 := AutoSeq1.sub_tuple_tuple
  have h0 := hs
  obtain ⟨hp', g, d, tk, os⟩ := s
  wp_walk using wpAny_loadPart' hp, wpAny_loadPart' hq, wpAny_forIn_list _ (fun rest b s' => b.1 = none ∧ J s' ∧ ∃ i, rest = (us.toList.zip ws.toList).drop i ∧ tupAns e us.size ws.size = (((List.range (min us.size ws.size)).drop i).all e && us.size == ws.size)) _
  case turn =>
    rintro ⟨y, x⟩ rest b s' ⟨hb, hj, i, hz, hA⟩
    obtain ⟨h1, h2, rfl, rfl, hrest⟩ := pairs_at hz
    rw [ans_step (by omega)] at hA
    refine wpAny_bind (wpAny_mono (step i h1 h2 s' hj) (fun r s2 hr => ?_) fun _ _ x => x)
    obtain ⟨rfl, hj2⟩ := hr
    cases hc : e i with
    | true =>
      rw [hc] at hA
      wp_walk
      exact ⟨rfl, hj2, i + 1, hrest, by simpa using hA⟩
    | false =>
      rw [hc] at hA
      have hF := fin s2 hj2
      rw [hA] at hF
      wp_walk
      simpa using hF
  case fin =>
    rintro ⟨b1, b2⟩ s' ⟨hb, hj, i, hz, hA⟩
    simp only at hb
    subst hb
    rw [List.drop_eq_nil_of_le (by simpa using pairs_out hz)] at hA
    have hF := fin s' hj
    rw [hA] at hF
    wp_walk
    simpa [Builtin.Tuple.tupleCompareSizes, bne] using hF
  case h =>
    exact ⟨rfl, h0, 0, rfl, rfl⟩
end
section
variable {prog : Program} {w : World} {A : Around} {E : Value → Shared → Prop}
theorem rc_tups {p q : Addr} {us ws : Array Value} {e : Nat → Bool} {J : Shared → Prop} {s : Shared} {Q : Value → Shared → Prop} (hu : A.units < PySem.cLine) (hp : s.heap.IsTuple p us) (hq : s.heap.IsTuple q ws)
    (step : ∀ i (h1 : i < us.size) (h2 : i < ws.size) s', J s' → wpAny (model prog w) A.in1 (eqBool us[i] ws[i]) (fun r s2 => r = e i ∧ J s2) E s')
    (fin : ∀ s', J s' → Q (.bool (tupAns e us.size ws.size)) s') (hs : J s) : wpAny (model prog w) A (richCompare .Eq (.ref p) (.ref q)) Q E s := by
  obtain ⟨⟨c1, dd, data, sl⟩, ho, hc, n, hd⟩ := id hp
  obtain ⟨⟨c2, dd2, data2, sl2⟩, ho2, hc2, n2, hd2⟩ := id hq
  simp only at hc hd hc2 hd2
  subst hc hd hc2 hd2
  exact wpAny_richCompare_same_room (op := .Eq) ⟨_, ho, rfl⟩ ⟨_, ho2, rfl⟩ F.slot_tuple_eq (GQ.call_here F.slot_tuple_eq ⟨_, ho, rfl⟩ F.entry_tuple_eq (F.args_tuple_eq_2 _ _)
    (teq_own (R := wants (fun v s' => v ≠ .notImplemented ∧ Q v s') E) ho ho2 step (fun s' h => ⟨(fun x => nomatch x), fin s' h⟩) hs)) hu
theorem rc_tupsN {p q : Addr} {us ws : Array Value} {e : Nat → Bool} {J : Shared → Prop} {s : Shared} {Q : Value → Shared → Prop} (hu : A.units < PySem.cLine) (hp : s.heap.IsTuple p us) (hq : s.heap.IsTuple q ws)
    (step : ∀ i (h1 : i < us.size) (h2 : i < ws.size) s', J s' → wpAny (model prog w) A.in1 (eqBool us[i] ws[i]) (fun r s2 => r = e i ∧ J s2) E s')
    (fin : ∀ s', J s' → Q (.bool (!tupAns e us.size ws.size)) s') (hs : J s) : wpAny (model prog w) A (richCompare .NotEq (.ref p) (.ref q)) Q E s := by
  obtain ⟨⟨c1, dd, data, sl⟩, ho, hc, n, hd⟩ := id hp
  obtain ⟨⟨c2, dd2, data2, sl2⟩, ho2, hc2, n2, hd2⟩ := id hq
  simp only at hc hd hc2 hd2
  subst hc hd hc2 hd2
  exact wpAny_richCompare_same_room (op := .NotEq) ⟨_, ho, rfl⟩ ⟨_, ho2, rfl⟩ F.slot_tuple_ne (GQ.call_here F.slot_tuple_ne ⟨_, ho, rfl⟩ F.entry_tuple_ne (F.args_tuple_ne_2 _ _)
    (tne_own (R := wants (fun v s' => v ≠ .notImplemented ∧ Q v s') E) ho ho2 step (fun s' h => ⟨(fun x => nomatch x), fin s' h⟩) hs)) hu
end
/-! ### .. as rules -/
/-- X, one call deeper -/
def deeper (X : Cx) : Cx := { X with A := X.A.in1 }
section
variable {X : Cx} {pins : List (Addr × Obj)} {σ : St} {H : Hp} {s : Shared}
theorem inv_in (I : Inv X pins σ H s) : Inv (deeper X) pins σ H s :=
  ⟨⟨I.ok.mod, I.ok.kind, I.ok.glob, I.ok.blt, I.ok.above, I.ok.inj, I.ok.has, I.ok.cab, I.ok.hd, I.ok.frames, I.ok.stk, I.ok.exf, I.ok.bs, I.ok.bsz, I.ok.noex, I.ok.exfs, I.ok.funs, I.ok.frf⟩, I.os, I.bare, I.base, I.loc, I.cell, I.free, I.freeC, I.pin, I.hok, I.len⟩
theorem inv_out (I : Inv (deeper X) pins σ H s) : Inv X pins σ H s :=
  ⟨⟨I.ok.mod, I.ok.kind, I.ok.glob, I.ok.blt, I.ok.above, I.ok.inj, I.ok.has, I.ok.cab, I.ok.hd, I.ok.frames, I.ok.stk, I.ok.exf, I.ok.bs, I.ok.bsz, I.ok.noex, I.ok.exfs, I.ok.funs, I.ok.frf⟩, I.os, I.bare, I.base, I.loc, I.cell, I.free, I.freeC, I.pin, I.hok, I.len⟩
/-- what == says of two values, the heap only growing -/
def EqvB : Type := V → V → Hp → Bool → Prop
def EqD (X : Cx) (D : V → V → Hp → Bool → Prop) : Prop := ∀ (pins : List (Addr × Obj)) (s : Shared) (σ : St) (H : Hp) (x y : V) (u v : Value) (r : Bool), Inv X pins σ H s → RelV x u → RelV y v → D x y H r →
  wpAny (model X.prog X.w) X.A (eqBool u v) (fun b s' => b = r ∧ ∃ H', Inv X pins σ H' s' ∧ Same H H') X.xe s
/-- from a rule of == of two objects -/
theorem eqD_op {D : V → V → Hp → Bool → Prop} {rr : R2} (o : OpR X (compareOp .Eq) rr) (hr : ∀ x y H r, D x y H r → ∃ a b, x = .ref a ∧ y = .ref b ∧ (a = b → r = true) ∧ (∀ Q : VK, (∀ H', Same H H' → Q (.bl r) H') → rr x y H Q)) : EqD X D := by
  intro pins s σ H x y u v r I rx ry d
  obtain ⟨a, b, rfl, rfl, hs, k⟩ := hr x y H r d
  cases rx
  cases ry
  by_cases hab : a = b
  · subst hab
    rw [hs rfl]
    exact SeqAt.EqAt.same (A := X.A) (s := s) (.ref a) X.prog X.w X.xe _ ⟨rfl, H, I, Same.refl _⟩
  · refine GQ.eqBool_refG hab (wpAny_mono (o pins s σ H (.ref a) (.ref b) _ _ (fun v H' => v = .bl r ∧ Same H H') I rfl rfl (k _ fun H' e => ⟨rfl, e⟩)) (fun z s' hz => ?_) fun _ _ x => x)
    obtain ⟨w, H', I', rw', rfl, e⟩ := hz
    cases (show z = Value.bool r from rw')
    exact ⟨r, rfl, rfl, H', I', e⟩
/-- texts and numbers -/
theorem eqD_flat : EqD X (fun x y _ r => flatV x = true ∧ flatV y = true ∧ eqV x y = r) := by
  intro pins s σ H x y u v r I rx ry d
  obtain ⟨fx, fy, e⟩ := d
  have q := eqAt_V (A := X.A) (s := s) rx ry fx fy
  rw [e] at q
  exact q X.prog X.w X.xe _ ⟨rfl, H, I, Same.refl _⟩
/-- two tuples, thing by thing -/
structure TupD (K : PySem.W.Frag) (D : V → V → Hp → Bool → Prop) (x y : V) (H : Hp) (r : Bool) : Prop where
  h : ∃ (p q : Addr) (xs ys : List V) (e : Nat → Bool), x = .ref p ∧ y = .ref q ∧ SqT K H p xs ∧ SqT K H q ys ∧ (∀ H', Same H H' → ∀ i a b, xs[i]? = some a → ys[i]? = some b → D a b H' (e i)) ∧ r = tupAns e xs.length ys.length
theorem tup_turn {D : V → V → Hp → Bool → Prop} (h : EqD (deeper X) D) {xs ys : List V} {us ws : List Value} {e : Nat → Bool} (r1 : Vals xs us) (r2 : Vals ys ws) (hd : ∀ H', Same H H' → ∀ i a b, xs[i]? = some a → ys[i]? = some b → D a b H' (e i))
    (i : Nat) (h1 : i < us.toArray.size) (h2 : i < ws.toArray.size) (s' : Shared) (J : ∃ H', Inv X pins σ H' s' ∧ Same H H') :
    wpAny (model X.prog X.w) X.A.in1 (eqBool us.toArray[i] ws.toArray[i]) (fun r s2 => r = e i ∧ ∃ H', Inv X pins σ H' s2 ∧ Same H H') X.xe s' := by
  obtain ⟨H1, I1, e1⟩ := J
  rw [List.size_toArray] at h1 h2
  have k1 : i < xs.length := by rw [r1.length]; exact h1
  have k2 : i < ys.length := by rw [r2.length]; exact h2
  obtain ⟨u, hu, ru⟩ := r1.get (List.getElem?_eq_getElem k1)
  obtain ⟨v, hv, rv⟩ := r2.get (List.getElem?_eq_getElem k2)
  rw [List.getElem?_eq_getElem h1] at hu
  rw [List.getElem?_eq_getElem h2] at hv
  have eu : us.toArray[i] = u := by rw [List.getElem_toArray]; exact Option.some.inj hu
  have ev : ws.toArray[i] = v := by rw [List.getElem_toArray]; exact Option.some.inj hv
  rw [eu, ev]
  refine wpAny_mono (h pins s' σ H1 _ _ u v (e i) (inv_in I1) ru rv (hd H1 e1 i _ _ (List.getElem?_eq_getElem k1) (List.getElem?_eq_getElem k2))) (fun r s2 z => ?_) fun _ _ x => x
  obtain ⟨hr, H2, I2, e2⟩ := z
  exact ⟨hr, H2, inv_out I2, e1.trans e2⟩
def rTupEq (K : PySem.W.Frag) (D : V → V → Hp → Bool → Prop) (neg : Bool) : R2 := fun x y H Q => ∃ r, TupD K D x y H r ∧ ∀ H', Same H H' → Q (.bl (r ^^ neg)) H'
theorem op_tupEq {D : V → V → Hp → Bool → Prop} (h : EqD (deeper X) D) (hu : X.A.units < PySem.cLine) : OpR X (compareOp .Eq) (rTupEq X.K D false) := by
  intro pins s σ H x y v u Q I rx ry hq
  obtain ⟨r, ⟨p, q, xs, ys, e, rfl, rfl, hp, hq', hd, rfl⟩, q⟩ := hq
  cases rx
  cases ry
  obtain ⟨us, r1, p1, _⟩ := I.tuple hp
  obtain ⟨ws, r2, p2, _⟩ := I.tuple hq'
  refine rc_tups hu p1 p2 (fun i h1 h2 s' J => tup_turn h r1 r2 hd i h1 h2 s' J) (fun s' J => ?_) ⟨H, I, Same.refl _⟩
  obtain ⟨H', I', e'⟩ := J
  rw [List.size_toArray, List.size_toArray, ← r1.length, ← r2.length]
  exact ⟨.bl (tupAns e xs.length ys.length), H', I', rfl, by have := q H' e'; rwa [Bool.xor_false] at this⟩
theorem op_tupNe {D : V → V → Hp → Bool → Prop} (h : EqD (deeper X) D) (hu : X.A.units < PySem.cLine) : OpR X (compareOp .NotEq) (rTupEq X.K D true) := by
  intro pins s σ H x y v u Q I rx ry hq
  obtain ⟨r, ⟨p, q, xs, ys, e, rfl, rfl, hp, hq', hd, rfl⟩, q⟩ := hq
  cases rx
  cases ry
  obtain ⟨us, r1, p1, _⟩ := I.tuple hp
  obtain ⟨ws, r2, p2, _⟩ := I.tuple hq'
  refine rc_tupsN hu p1 p2 (fun i h1 h2 s' J => tup_turn h r1 r2 hd i h1 h2 s' J) (fun s' J => ?_) ⟨H, I, Same.refl _⟩
  obtain ⟨H', I', e'⟩ := J
  rw [List.size_toArray, List.size_toArray, ← r1.length, ← r2.length]
  exact ⟨.bl (!tupAns e xs.length ys.length), H', I', rfl, by have := q H' e'; rwa [Bool.xor_true] at this⟩
/-- tuples within tuples -/
theorem eqD_tup {D : V → V → Hp → Bool → Prop} (h : EqD (deeper X) D) (hu : X.A.units < PySem.cLine) (hs : ∀ p H r, TupD X.K D (.ref p) (.ref p) H r → r = true) : EqD X (TupD X.K D) :=
  eqD_op (op_tupEq h hu) fun x y H r d => by
    obtain ⟨p, q, xs, ys, e, rfl, rfl, h1, h2, h3, h4⟩ := id d.h
    exact ⟨p, q, rfl, rfl, fun z => by subst z; exact hs _ _ _ d, fun Q k => ⟨r, d, fun H' e' => by rw [Bool.xor_false]; exact k H' e'⟩⟩
end
end Pn

namespace Pn
open PySem L2 SeqAt
open MeetsSeq MeetsSeq2 MeetsSeq3 SeqRoads2
open AutoSeq1 (wpAny_loadPart')
/-! ### != of two lists whose things are told to be equal by their own == -/
section
variable {prog : Program} {w : World} {A : Around} {R : Result → Shared → Prop}
theorem lne_walk {p q : Addr} {us ws : Array Value} {J : Shared → Prop} (same : us.size = ws.size) (atp : ∀ s, J s → s.heap.IsList p us) (atq : ∀ s, J s → s.heap.IsList q ws)
    (step : ∀ i (h1 : i < us.size) (h2 : i < ws.size) s', J s' → wpAny (model prog w) A.in1 (eqBool us[i] ws[i]) (fun r s2 => r = true ∧ J s2) (fun x s2 => R (.error x) s2) s')
    (fin : ∀ s', J s' → R (.ok (.ret (.bool false))) s') (left : Nat) : ∀ (i : Nat) (s : Shared), us.size - i = left → J s →
      wpAny (model prog w) A.in1 (Builtin.«list.__eq__.loop» ⟨[.ref p, .ref q, rawInt i, rawInt 3], []⟩) (GQ.FinOf prog w A R) (fun x s2 => R (.error x) s2) s := by
  induction left with
  | zero =>
    intro i s hi js
    have end_ := fin s js
    obtain ⟨⟨c1, d1, data1, s1⟩, hp, e1, n1, f1⟩ := atp s js
    obtain ⟨⟨c2, d2, data2, s2⟩, hq, e2, n2, f2⟩ := atq s js
    simp only at e1 f1 e2 f2
    subst e1 f1 e2 f2
    obtain ⟨hh, g, d, tk, os⟩ := s
    wp_walk using wpAny_loadPart' hp, wpAny_loadPart' hq
    have no1 : us[((i : Nat) : Int).toNat]? = none := by
      simp
      omega
    have no2 : ws[((i : Nat) : Int).toNat]? = none := by
      simp
      omega
    rw [no1, no2]
    wp_walk using wpAny_loadPart' hp, wpAny_loadPart' hq
    show R (.ok (.ret (.bool (us.size != ws.size)))) _
    rw [same]
    simpa using end_
  | succ left ih =>
    intro i s hi js
    have k1 : i < us.size := by omega
    have k2 : i < ws.size := by omega
    have one := step i k1 k2 s js
    obtain ⟨⟨c1, d1, data1, s1⟩, hp, e1, n1, f1⟩ := atp s js
    obtain ⟨⟨c2, d2, data2, s2⟩, hq, e2, n2, f2⟩ := atq s js
    simp only at e1 f1 e2 f2
    subst e1 f1 e2 f2
    obtain ⟨hh, g, d, tk, os⟩ := s
    wp_walk using wpAny_loadPart' hp, wpAny_loadPart' hq
    have is1 : us[((i : Nat) : Int).toNat]? = some us[i] := by
      simp [k1]
    have is2 : ws[((i : Nat) : Int).toNat]? = some ws[i] := by
      simp [k2]
    rw [is1, is2]
    refine wpAny_bind (wpAny_mono one (fun r s3 hr => ?_) fun _ _ x => x)
    obtain ⟨rfl, j3⟩ := hr
    wp_walk
    rw [show ((i : Int) + 1) = ((i + 1 : Nat) : Int) by push_cast; rfl]
    refine ⟨plainId_quiet plain_eq_loop _, codeAny_builtin entry_eq_loop ?_⟩
    rw [Around.under_plainId plain_eq_loop _]
    exact ih (i + 1) s3 (by omega) j3
theorem lne_own {p q : Addr} {us ws : Array Value} {J : Shared → Prop} {s : Shared} (same : us.size = ws.size) (atp : ∀ s, J s → s.heap.IsList p us) (atq : ∀ s, J s → s.heap.IsList q ws)
    (step : ∀ i (h1 : i < us.size) (h2 : i < ws.size) s', J s' → wpAny (model prog w) A.in1 (eqBool us[i] ws[i]) (fun r s2 => r = true ∧ J s2) (fun x s2 => R (.error x) s2) s')
    (fin : ∀ s', J s' → R (.ok (.ret (.bool false))) s') (js : J s) : wpAny (model prog w) A.in1 (Builtin.«list.__ne__» ⟨[.ref p, .ref q], []⟩) (GQ.FinOf prog w A R) (fun x s2 => R (.error x) s2) s := by
  have f3 := AutoSeq1.sub_list_list
  have eqs : ¬ (us.size != ws.size) = true := by
    simp [same]
  have walk := fun s js => lne_walk (prog := prog) (w := w) (A := A) (R := R) same atp atq step fin us.size 0 s rfl js
  obtain ⟨⟨c1, d1, data1, s1⟩, hp, e1, n1, f1⟩ := atp s js
  obtain ⟨⟨c2, d2, data2, s2⟩, hq, e2, n2, f2⟩ := atq s js
  simp only at e1 f1 e2 f2
  subst e1 f1 e2 f2
  obtain ⟨hh, g, d, tk, os⟩ := s
  wp_walk using wpAny_loadPart' hp, wpAny_loadPart' hq
  refine ⟨plainId_quiet plain_eq_loop _, codeAny_builtin entry_eq_loop ?_⟩
  rw [Around.under_plainId plain_eq_loop _]
  exact walk _ js
end
section
variable {prog : Program} {w : World} {A : Around} {E : Value → Shared → Prop}
theorem rc_lstsN {p q : Addr} {us ws : Array Value} {J : Shared → Prop} {s : Shared} {Q : Value → Shared → Prop} (hu : A.units < PySem.cLine) (same : us.size = ws.size) (atp : ∀ s, J s → s.heap.IsList p us) (atq : ∀ s, J s → s.heap.IsList q ws)
    (step : ∀ i (h1 : i < us.size) (h2 : i < ws.size) s', J s' → wpAny (model prog w) A.in1 (eqBool us[i] ws[i]) (fun r s2 => r = true ∧ J s2) E s')
    (fin : ∀ s', J s' → Q (.bool false) s') (js : J s) : wpAny (model prog w) A (richCompare .NotEq (.ref p) (.ref q)) Q E s := by
  obtain ⟨o1, hp, e1, _⟩ := atp s js
  obtain ⟨o2, hq, e2, _⟩ := atq s js
  exact wpAny_richCompare_same_room (op := .NotEq) ⟨_, hp, e1⟩ ⟨_, hq, e2⟩ F.slot_list_ne (GQ.call_here F.slot_list_ne ⟨_, hp, e1⟩ F.entry_list_ne (F.args_list_ne_2 _ _)
    (lne_own (R := wants (fun v s' => v ≠ .notImplemented ∧ Q v s') E) same atp atq step (fun s' h => ⟨(fun x => nomatch x), fin s' h⟩) js)) hu
end
theorem vals_one {us ws : List Value} : ∀ {xs : List V}, (∀ x ∈ xs, ∃ c, x = V.ref c) → Vals xs us → Vals xs ws → us = ws := by
  intro xs
  induction xs generalizing us ws with
  | nil =>
    intro _ r1 r2
    cases r1
    cases r2
    rfl
  | cons x xs ih =>
    intro h r1 r2
    obtain ⟨c, rfl⟩ := h x List.mem_cons_self
    cases r1 with
    | cons a1 b1 =>
      cases r2 with
      | cons a2 b2 =>
        cases a1
        cases a2
        rw [ih (fun y hy => h y (List.mem_cons_of_mem _ hy)) b1 b2]
/-- x != y, two lists, thing by thing the same -/
def rLstNe (K : PySem.W.Frag) (D : V → V → Hp → Bool → Prop) : R2 := fun x y H Q => ∃ (p q : Addr) (xs ys : List V), x = .ref p ∧ y = .ref q ∧ SqL K H p xs ∧ SqL K H q ys ∧ xs.length = ys.length ∧ (∀ x ∈ xs, ∃ c, x = V.ref c) ∧ (∀ x ∈ ys, ∃ c, x = V.ref c) ∧
  (∀ (H' : Hp), Same H H' → ∀ (i : Nat) (a b : V), xs[i]? = some a → ys[i]? = some b → D a b H' true) ∧ ∀ H', Same H H' → Q (.bl false) H'
theorem op_lstNe {X : Cx} {D : V → V → Hp → Bool → Prop} (h : EqD (deeper X) D) (hu : X.A.units < PySem.cLine) : OpR X (compareOp .NotEq) (rLstNe X.K D) := by
  intro pins s σ H x y v u Q I rx ry hq
  obtain ⟨p, q, xs, ys, rfl, rfl, hp, hq', hl, rx1, ry1, hd, k⟩ := hq
  cases rx
  cases ry
  obtain ⟨us, r1, p1, _⟩ := I.list hp
  obtain ⟨ws, r2, p2, _⟩ := I.list hq'
  have same : us.toArray.size = ws.toArray.size := by
    rw [List.size_toArray, List.size_toArray, ← r1.length, ← r2.length, hl]
  refine rc_lstsN (J := fun s' => ∃ H', Inv X pins σ H' s' ∧ Same H H') hu same (fun s' J => ?_) (fun s' J => ?_) (fun i h1 h2 s' J => tup_turn (e := fun _ => true) h r1 r2 hd i h1 h2 s' J) (fun s' J => ?_) ⟨H, I, Same.refl _⟩
  · obtain ⟨H', I', e'⟩ := J
    obtain ⟨us', r1', p1', _⟩ := I'.list (e'.seq hp)
    rw [vals_one rx1 r1 r1']
    exact p1'.isList
  · obtain ⟨H', I', e'⟩ := J
    obtain ⟨ws', r2', p2', _⟩ := I'.list (e'.seq hq')
    rw [vals_one ry1 r2 r2']
    exact p2'.isList
  · obtain ⟨H', I', e'⟩ := J
    exact ⟨.bl false, H', I', rfl, k H' e'⟩
end Pn

namespace Pn
open PySem L2 SeqAt
open MeetsSeq MeetsSeq2 MeetsSeq3 SeqRoads2
open AutoSeq1 (wpAny_loadPart')
/-! ### a list != [] -/
section
variable {prog : Program} {w : World} {A : Around} {R : Result → Shared → Prop}
theorem lne_nil {p q : Addr} {us : Array Value} {s : Shared} (differ : us.size ≠ 0) (atp : s.heap.IsList p us) (atq : s.heap.IsList q #[])
    (fin : R (.ok (.ret (.bool true))) s) : wpAny (model prog w) A.in1 (Builtin.«list.__ne__» ⟨[.ref p, .ref q], []⟩) (GQ.FinOf prog w A R) (fun x s2 => R (.error x) s2) s := by
  have f3 := AutoSeq1.sub_list_list
  have eqs : (us.size != (#[] : Array Value).size) = true := by
    simpa using differ
  obtain ⟨⟨c1, d1, data1, s1⟩, hp, e1, n1, f1⟩ := atp
  obtain ⟨⟨c2, d2, data2, s2⟩, hq, e2, n2, f2⟩ := atq
  simp only at e1 f1 e2 f2
  subst e1 f1 e2 f2
  obtain ⟨hh, g, d, tk, os⟩ := s
  wp_walk using wpAny_loadPart' hp, wpAny_loadPart' hq
  exact fin
end
section
variable {prog : Program} {w : World} {A : Around} {E : Value → Shared → Prop}
theorem rc_lstNil {p q : Addr} {us : Array Value} {s : Shared} {Q : Value → Shared → Prop} (hu : A.units < PySem.cLine) (differ : us.size ≠ 0) (atp : s.heap.IsList p us) (atq : s.heap.IsList q #[])
    (fin : Q (.bool true) s) : wpAny (model prog w) A (richCompare .NotEq (.ref p) (.ref q)) Q E s := by
  obtain ⟨o1, hp, e1, _⟩ := id atp
  obtain ⟨o2, hq, e2, _⟩ := id atq
  exact wpAny_richCompare_same_room (op := .NotEq) ⟨_, hp, e1⟩ ⟨_, hq, e2⟩ F.slot_list_ne (GQ.call_here F.slot_list_ne ⟨_, hp, e1⟩ F.entry_list_ne (F.args_list_ne_2 _ _)
    (lne_nil (R := wants (fun v s' => v ≠ .notImplemented ∧ Q v s') E) differ atp atq ⟨(fun x => nomatch x), fin⟩)) hu
end
/-- xs != [] -/
def rNilNe (K : PySem.W.Frag) : R2 := fun x y H Q => ∃ (p q : Addr) (xs : List V), x = .ref p ∧ y = .ref q ∧ SqL K H p xs ∧ SqL K H q [] ∧ Q (.bl (!xs.isEmpty)) H
theorem op_nilNe {X : Cx} (hu : X.A.units < PySem.cLine) : OpR X (compareOp .NotEq) (rNilNe X.K) := by
  intro pins s σ H x y v u Q I rx ry h
  obtain ⟨p, q, xs, rfl, rfl, hp, hq, k⟩ := h
  cases rx
  cases ry
  obtain ⟨us, r1, p1, _⟩ := I.list hp
  obtain ⟨ws, r2, p2, _⟩ := I.list hq
  cases r2
  cases xs with
  | nil =>
    cases r1
    exact rc_lstsN (J := fun s' => s' = s) hu rfl (fun s' e => by subst e; exact p1.isList) (fun s' e => by subst e; exact p2.isList) (fun i h1 => absurd h1 (Nat.not_lt_zero _)) (fun s' e => by subst e; exact ⟨.bl false, H, I, rfl, k⟩) rfl
  | cons a xs =>
    refine rc_lstNil hu ?_ p1.isList p2.isList ⟨.bl true, H, I, rfl, k⟩
    rw [List.size_toArray, ← r1.length]
    exact Nat.succ_ne_zero _
end Pn

namespace Pn
open PySem L2
/-! ### comprehensions that keep what stands: what each turn puts out -/
section
variable {K : PySem.W.Frag} {tl : TE} {g : TG} {tt : TT} {te : TE} {vs : List Nat} {σ : L2.St} {H : Hp} {Q : VK} {p : Addr} {xs : List V}
/-- one turn of a comprehension that puts out what out says -/
def LcTurn (xs : List V) (H : Hp) (g : TG) (tt : TT) (te : TE) (vs : List Nat) (σ : L2.St) (out : Nat → Option V) : Prop :=
  ∀ (i : Nat) (x : V) (Hi : Hp) (S : Hp → Prop) (Y : VK), xs[i]? = some x → Same H Hi → (out i = none → ∀ H', Same Hi H' → S H') → (∀ v, out i = some v → ∀ H', Same Hi H' → Y v H') →
    g x (wipe σ vs) Hi fun σ2 H2 => wipe σ2 vs = wipe σ vs ∧ tt σ2 H2 fun b H3 => if b = true then te σ2 H3 Y else S H3
theorem range_out (out : Nat → Option V) (i : Nat) : (List.range (i + 1)).filterMap out = (List.range i).filterMap out ++ (match out i with | none => [] | some v => [v]) := by
  rw [List.range_succ, List.filterMap_append]
  cases h : out i with
  | none => simp [h]
  | some v => simp [h]
theorem lc_keep (hl : xs.length ≤ 10000) {out : Nat → Option V} (turn : LcTurn xs H g tt te vs σ out) {D : Addr} (hD : H D = none) (i : Nat) (x : V) (Hi : Hp) (hx : xs[i]? = some x) (hP : Same H Hi ∧ Hi D = some (.lst ((List.range i).filterMap out))) :
    g x (wipe σ vs) Hi fun σ2 H2 => wipe σ2 vs = wipe σ vs ∧ tt σ2 H2 fun b H3 =>
      if b = true then te σ2 H3 fun y H4 => ∃ acc, H4 D = some (.lst acc) ∧ acc.length < sizeLine ∧ (Same H (upd H4 D (.lst (acc ++ [y]))) ∧ upd H4 D (.lst (acc ++ [y])) D = some (.lst ((List.range (i + 1)).filterMap out)))
      else (Same H H3 ∧ H3 D = some (.lst ((List.range (i + 1)).filterMap out))) := by
  obtain ⟨s, hd⟩ := hP
  have hi : i < xs.length := (List.getElem?_eq_some_iff.mp hx).1
  refine turn i x Hi (fun H3 => Same H H3 ∧ H3 D = some (.lst ((List.range (i + 1)).filterMap out))) _ hx s (fun h0 H' s' => ⟨s.trans s', ?_⟩) (fun v hv H' s' => ⟨_, s' _ _ hd, ?_, ?_, ?_⟩)
  · rw [range_out, h0, List.append_nil]
    exact s' _ _ hd
  · have h1 : ((List.range i).filterMap out).length ≤ (List.range i).length := List.length_filterMap_le _ _
    rw [List.length_range] at h1
    have h2 : (10001 : Nat) ≤ sizeLine := by decide
    omega
  · exact fun a o e => by
      rw [upd_ne (ne_of_none e hD)]
      exact s' _ _ (s _ _ e)
  · rw [upd_same, range_out, hv]
theorem lcw_list (h0 : ∀ R : VK, R (.ref p) H → tl σ H R) (hp : SqL K H p xs) (hl : xs.length ≤ 10000) {out : Nat → Option V} (turn : LcTurn xs H g tt te vs σ out)
    (fin : ∀ (D : Addr) (H' : Hp), H D = none → Same H H' → H' D = some (.lst ((List.range xs.length).filterMap out)) → Q (.ref D) H') : tLc (iList K tl) g tt te vs σ H Q :=
  h0 _ ⟨p, rfl, ⟨_, hp⟩, fun D hD => lc_list (xs := xs) (fun i Hi => Same H Hi ∧ Hi D = some (.lst ((List.range i).filterMap out))) ⟨Same.new hD, upd_same⟩ (fun _ _ _ hP => hP.1.seq hp) (lc_keep hl turn hD) (fun Hi hP => fin D Hi hD hP.1 hP.2)⟩
theorem lcw_tup (h0 : ∀ R : VK, R (.ref p) H → tl σ H R) (hp : SqT K H p xs) (hl : xs.length ≤ 10000) {out : Nat → Option V} (turn : LcTurn xs H g tt te vs σ out)
    (fin : ∀ (D : Addr) (H' : Hp), H D = none → Same H H' → H' D = some (.lst ((List.range xs.length).filterMap out)) → Q (.ref D) H') : tLc (iTup K tl) g tt te vs σ H Q :=
  h0 _ ⟨p, rfl, ⟨_, hp⟩, fun D hD => lc_tup (xs := xs) (fun i Hi => Same H Hi ∧ Hi D = some (.lst ((List.range i).filterMap out))) ⟨Same.new hD, upd_same⟩ (fun _ _ _ hP => Same.sqt hP.1 hp) (lc_keep hl turn hD) (fun Hi hP => fin D Hi hD hP.1 hP.2)⟩
theorem lcw_seq (h0 : ∀ R : VK, R (.ref p) H → tl σ H R) (hp : SqL K H p xs ∨ SqT K H p xs) (hl : xs.length ≤ 10000) {out : Nat → Option V} (turn : LcTurn xs H g tt te vs σ out)
    (fin : ∀ (D : Addr) (H' : Hp), H D = none → Same H H' → H' D = some (.lst ((List.range xs.length).filterMap out)) → Q (.ref D) H') : tLc (iSeq K tl) g tt te vs σ H Q :=
  hp.elim (fun h => .inl (lcw_list h0 h hl turn fin)) (fun h => .inr (lcw_tup h0 h hl turn fin))
/-- what is put out, by a list beside -/
theorem out_map {α β : Type} {l : List α} {f : α → β} : (List.range l.length).filterMap (fun i => (l[i]?).map f) = l.map f := by
  induction l with
  | nil => rfl
  | cons a l ih =>
    rw [List.length_cons, List.range_succ_eq_map, List.filterMap_cons]
    simp only [List.getElem?_cons_zero, Option.map_some, List.filterMap_map, List.map_cons]
    congr 1
theorem out_filter {α β : Type} {l : List α} {f : α → Option β} : (List.range l.length).filterMap (fun i => (l[i]?).bind f) = l.filterMap f := by
  induction l with
  | nil => rfl
  | cons a l ih =>
    have e : (List.range l.length).filterMap ((fun i => ((a :: l)[i]?).bind f) ∘ Nat.succ) = l.filterMap f := by
      rw [← ih]
      rfl
    rw [List.length_cons, List.range_succ_eq_map, List.filterMap_cons, List.filterMap_map, e, List.filterMap_cons]
    rfl
/-- one turn of a walk whose body goes on with Pv -/
def ForTurn (xs : List V) (g : TG) (tb : TS) (D : Ends) (Pv : Nat → L2.St → Hp → Prop) : Prop :=
  ∀ (i : Nat) (x : V) (σ : L2.St) (H : Hp), xs[i]? = some x → Pv i σ H → g x σ H fun σ2 H2 => tb { D with nx := Pv (i + 1), ct := Pv (i + 1), bk := D.nx } σ2 H2
theorem forw_list {tb : TS} {D : Ends} (h0 : ∀ R : VK, R (.ref p) H → tl σ H R) (hp : SqL K H p xs) (Pv : Nat → L2.St → Hp → Prop) (P0 : Pv 0 σ H) (hl : ∀ i σ' H', Pv i σ' H' → SqL K H' p xs) (turn : ForTurn xs g tb D Pv)
    (fin : ∀ σ' H', Pv xs.length σ' H' → D.nx σ' H') : tFor (iList K tl) g tb D σ H :=
  h0 _ ⟨p, rfl, ⟨_, hp⟩, for_list (xs := xs) Pv P0 (fun i σ' H' _ hP => hl i σ' H' hP) turn fin⟩
theorem forw_tup {tb : TS} {D : Ends} (h0 : ∀ R : VK, R (.ref p) H → tl σ H R) (hp : SqT K H p xs) (Pv : Nat → L2.St → Hp → Prop) (P0 : Pv 0 σ H) (hl : ∀ i σ' H', Pv i σ' H' → SqT K H' p xs) (turn : ForTurn xs g tb D Pv)
    (fin : ∀ σ' H', Pv xs.length σ' H' → D.nx σ' H') : tFor (iTup K tl) g tb D σ H :=
  h0 _ ⟨p, rfl, ⟨_, hp⟩, for_tup (xs := xs) Pv P0 (fun i σ' H' _ hP => hl i σ' H' hP) turn fin⟩
theorem forw_seq {tb : TS} {D : Ends} {H0 : Hp} (h0 : ∀ R : VK, R (.ref p) H → tl σ H R) (hp : SqL K H0 p xs ∨ SqT K H0 p xs) (Pv : Nat → L2.St → Hp → Prop) (P0 : Pv 0 σ H) (hl : ∀ i σ' H', Pv i σ' H' → Same H0 H') (turn : ForTurn xs g tb D Pv)
    (fin : ∀ σ' H', Pv xs.length σ' H' → D.nx σ' H') : tFor (iSeq K tl) g tb D σ H :=
  hp.elim (fun h => .inl (forw_list h0 ((hl 0 σ H P0).seq h) Pv P0 (fun i σ' H' hP => (hl i σ' H' hP).seq h) turn fin)) (fun h => .inr (forw_tup h0 (Same.sqt (hl 0 σ H P0) h) Pv P0 (fun i σ' H' hP => Same.sqt (hl i σ' H' hP) h) turn fin))
theorem keep_seq {K : PySem.W.Frag} {H H' : Hp} {p : Addr} {xs : List V} (s : Same H H') : (SqL K H p xs → SqL K H' p xs) ∧ (SqT K H p xs → SqT K H' p xs) := ⟨fun h => s.seq h, fun h => Same.sqt s h⟩
/-- [e for x in xs for y in x.ys if ..]: the walk over both, told by the two turns -/
theorem lc2_walk {J : It} {n : Nat} {G : Hp → Prop} (wk : Walk J n G (YAt xs)) (hn : n = xs.length) {k k1 : Nat} {te1 : TE} {tt1 : TT} {vs1 : List Nat} {D : Addr} (Pv : Nat → Nat → Hp → Prop) (P0 : Pv 0 0 (upd H D (.lst []))) (keep : ∀ i Hi, Pv i 0 Hi → G Hi)
    (hw : ∀ x, wipe ((wipe σ vs).set k (some x)) vs = wipe σ vs)
    (inner : ∀ (i : Nat) (x : V) (Hi : Hp), xs[i]? = some x → Pv i 0 Hi → ∃ (a : Addr) (ys : List V), (∀ R : VK, R (.ref a) Hi → te1 ((wipe σ vs).set k (some x)) Hi R) ∧ (∀ j Hj, Pv i j Hj → SqT K Hj a ys) ∧ (∀ Hj, Pv i ys.length Hj → Pv (i + 1) 0 Hj) ∧
      ∀ (j : Nat) (y : V) (Hj : Hp), ys[j]? = some y → Pv i j Hj → wipe ((wipe ((wipe σ vs).set k (some x)) vs1).set k1 (some y)) vs1 = wipe ((wipe σ vs).set k (some x)) vs1 ∧
        tt1 ((wipe ((wipe σ vs).set k (some x)) vs1).set k1 (some y)) Hj fun b H6 => if b = true then te ((wipe ((wipe σ vs).set k (some x)) vs1).set k1 (some y)) H6 fun z H7 => ∃ acc, H7 D = some (.lst acc) ∧ acc.length < sizeLine ∧ Pv i (j + 1) (upd H7 D (.lst (acc ++ [z]))) else Pv i (j + 1) H6)
    (fin : ∀ Hi, Pv n 0 Hi → Q (.ref D) Hi) :
    ∃ W : Nat → Nat → Hp → Prop, (∃ m, W 0 m (upd H D (.lst []))) ∧ ∀ i m H, W i m H →
      (J.stop i H ∧ Q (.ref D) H) ∨ (J.go i H ∧ ∃ Nx : Hp → Prop, (∀ H', Nx H' → ∃ m', m' < m ∧ W (i + 1) m' H') ∧ ∀ x H', J.yld i H x H' → gName k x (wipe σ vs) H' fun σ2 H2 => wipe σ2 vs = wipe σ vs ∧ tYes σ2 H2 fun b H3 =>
        if b = true then iTup K te1 σ2 H3 fun J1 H4 => ∃ W1 : Nat → Nat → Hp → Prop, (∃ m, W1 0 m H4) ∧ ∀ j k H, W1 j k H →
          (J1.stop j H ∧ Nx H) ∨ (J1.go j H ∧ ∃ Nx1 : Hp → Prop, (∀ H', Nx1 H' → ∃ k', k' < k ∧ W1 (j + 1) k' H') ∧ ∀ x H', J1.yld j H x H' → gName k1 x (wipe σ2 vs1) H' fun σ3 H5 => wipe σ3 vs1 = wipe σ2 vs1 ∧ tt1 σ3 H5 fun b H6 =>
            if b = true then te σ3 H6 fun y H7 => ∃ acc, H7 D = some (.lst acc) ∧ acc.length < sizeLine ∧ Nx1 (upd H7 D (.lst (acc ++ [y]))) else Nx1 H6)
        else Nx H3) := by
  refine ⟨fun i m Hi => m = n - i ∧ i ≤ n ∧ Pv i 0 Hi, ⟨n, by simp, Nat.zero_le _, P0⟩, ?_⟩
  rintro i m Hi ⟨rfl, hi, pv⟩
  by_cases lt : i < n
  · refine .inr ⟨wk.goes i Hi lt (keep i Hi pv), Pv (i + 1) 0, fun H' p' => ⟨n - (i + 1), by omega, rfl, lt, p'⟩, fun x H' y => ?_⟩
    obtain ⟨rfl, hx⟩ := wk.yields i Hi x H' lt (keep i Hi pv) y
    obtain ⟨a, ys, h1, h2, h3, h4⟩ := inner i x _ hx pv
    refine ⟨hw x, ?_⟩
    unfold tYes
    refine iteT ?_
    unfold iTup
    refine h1 _ ⟨a, rfl, ⟨ys, h2 0 _ pv⟩, fun j m Hj => m = ys.length - j ∧ j ≤ ys.length ∧ Pv i j Hj, ⟨ys.length, by simp, Nat.zero_le _, pv⟩, ?_⟩
    rintro j m Hj ⟨rfl, hj, pj⟩
    have wt : Walk (Itt K a) ys.length (fun H => SqT K H a ys) (YAt ys) := walk_tup
    by_cases lj : j < ys.length
    · refine .inr ⟨wt.goes j Hj lj (h2 j Hj pj), Pv i (j + 1), fun H' p' => ⟨ys.length - (j + 1), by omega, rfl, lj, p'⟩, fun y H' yy => ?_⟩
      obtain ⟨rfl, hy⟩ := wt.yields j Hj y H' lj (h2 j Hj pj) yy
      exact h4 j y _ hy pj
    · obtain rfl : j = ys.length := by omega
      exact .inl ⟨wt.stops Hj (h2 _ Hj pj), h3 Hj pj⟩
  · obtain rfl : i = n := by omega
    exact .inl ⟨wk.stops Hi (keep _ Hi pv), fin Hi pv⟩
end
end Pn

namespace Pn
open PySem L2 TL
abbrev sIsPair : Stmt := top 8
abbrev sAreC : Stmt := top 38
abbrev sAreP : Stmt := top 39
abbrev sCKnown : Stmt := top 40
abbrev sNPut : Stmt := top 41
abbrev sPEarly : Stmt := top 42
abbrev sNReach : Stmt := top 43
abbrev sUnr1 : Stmt := top 44
abbrev sUText : Stmt := top 45
abbrev sRefsK : Stmt := top 46
theorem eqV_str {a b : Str} : eqV (.str a) (.str b) = decide (a = b) := by
  show decide (a = b) = _
  rfl
theorem inV_strs {x : Str} : ∀ {l : List Str}, inV (.str x) (l.map V.str) = decide (x ∈ l)
  | [] => by simp [inV]
  | y :: l => by
    have ih := inV_strs (x := x) (l := l)
    unfold inV at ih ⊢
    rw [List.map_cons, List.any_cons, ih, eqV_str]
    by_cases h : y = x
    · subst h; simp
    · have h2 : ¬ x = y := fun z => h z.symm
      simp [h, h2]
theorem flat_strs : ∀ {l : List Str}, (l.map V.str).all flatV = true
  | [] => rfl
  | _ :: l => flat_strs (l := l)
section
variable {P : Program} {w : World} {K : PySem.W.Frag} {mg : Str → Option Value} {base : Heap}
def cwV : List V := [.str "note", .str "skip", .str "set", .str "keep", .str "back"]
structure TBks {K : PySem.W.Frag} {mg : Str → Option Value} {R : TRows K mg} (T : TPart R) : Type where
  mSet : mg "set" = none
  mRev : mg "reversed" = none
  cw : Addr
  mCW : mg "COUNTING_WORDS" = some (.ref cw)
  hCW : ∀ H, SqT K H cw cwV
  isPair : At K mg "is_pair" sIsPair ["value"]
  areC : At K mg "are_counters" sAreC ["counters"]
  areP : At K mg "are_parts" sAreP ["parts"]
  cKnown : At K mg "counters_are_known" sCKnown ["counters", "parts"]
  nPut : At K mg "names_put" sNPut ["part"]
  pEarly : At K mg "puts_are_earlier" sPEarly ["parts"]
  nReach : At K mg "names_reached" sNReach ["parts"]
  unroll : At K mg "unroll" sUnr1 ["part", "flat"]
  uText : At K mg "unrolled_text" sUText ["parts"]
  refsK : At K mg "refs_are_known" sRefsK ["rows"]
/-- a list or a tuple -/
def Sq (K : PySem.W.Frag) (H : Hp) (p : Addr) (xs : List V) : Prop := SqL K H p xs ∨ SqT K H p xs
theorem Sq.same {H H' : Hp} {p : Addr} {xs : List V} (h : Sq K H p xs) (s : Same H H') : Sq K H' p xs := h.elim (fun h => .inl (s.seq h)) (fun h => .inr (Same.sqt s h))
def CsArg (K : PySem.W.Frag) (H : Hp) (cu : V) (cs : List (Str × Str)) : Prop := ∃ p ts, cu = .ref p ∧ Sq K H p (ts.map V.ref) ∧ Paired (fun t (c : Str × Str) => SqT K H t [.str c.1, .str c.2]) ts cs
theorem CsArg.same {H H' : Hp} {cu : V} {cs : List (Str × Str)} (h : CsArg K H cu cs) (s : Same H H') : CsArg K H' cu cs := by
  obtain ⟨p, ts, e, h1, h2⟩ := h
  exact ⟨p, ts, e, h1.same s, paired_mono (fun _ _ z => Same.sqt s z) h2⟩
def PtsArg {R : TRows K mg} (T : TPart R) (H : Hp) (pu : V) (bk : List PartD) : Prop := ∃ p ps, pu = .ref p ∧ Sq K H p (ps.map V.ref) ∧ Paired (fun a (q : PartD) => PtAt T H a q.1 q.2) ps bk
theorem PtsArg.same {R : TRows K mg} {T : TPart R} {H H' : Hp} {pu : V} {bk : List PartD} (h : PtsArg T H pu bk) (s : Same H H') : PtsArg T H' pu bk := by
  obtain ⟨p, ps, e, h1, h2⟩ := h
  exact ⟨p, ps, e, h1.same s, paired_mono (fun _ _ z => z.same s) h2⟩
theorem seq_kind {H : Hp} {p : Addr} {xs : List V} (h : Sq K H p xs) : ∃ t, PySem.W.kitAny K t [.type "list", .type "tuple"] = some true ∧ TyX K H (.ref p) t ∧ ∀ H', Same H H' → TyX K H' (.ref p) t := by
  rcases h with hp | hp
  · exact ⟨_, kit_two (by decide +kernel : kitB "list" "list" = some true) (by decide +kernel : kitB "list" "tuple" = some false), sql_ty hp, fun H' s' => sql_ty (s'.seq hp)⟩
  · exact ⟨_, kit_two (by decide +kernel : kitB "tuple" "list" = some false) (by decide +kernel : kitB "tuple" "tuple" = some true), sqt_ty hp, fun H' s' => sqt_ty (Same.sqt s' hp)⟩
def spIsPairT (K : PySem.W.Frag) : Sp := fun vs H Q _ => ∃ (t : Addr) (a b : V), vs = [.ref t] ∧ SqT K H t [a, b] ∧ Q (.bl true) H
theorem scIsPair : FnScope ["value"] ["value"] (defScope sIsPair) := ⟨rfl, rfl, rfl, by decide +kernel, rfl, by decide +kernel, by decide +kernel⟩
theorem ok_isPair {R : TRows K mg} {T : TPart R} (B : TBks T) : FnOk P w K mg base CX0 1 B.isPair.f B.isPair.fd ["value"] (spIsPairT K) := by
  refine B.isPair.F.ok scIsPair (fun vs H Q E h => ?_) (fun cdv A outer s H vs Q E hr h => ?_)
  · obtain ⟨t, a, b, rfl, _⟩ := h
    rfl
  · obtain ⟨t, a, b, rfl, ht, q⟩ := h
    refine ⟨_, pss_one (ps_ret (pe_and (pe_callB call_isi (by rfl) R.N.mIsi (by decide +kernel) (pa_cons (pv 0) (pa_cons (pe_bltn (v := .ty "tuple") (by rfl) T.mTup (by decide +kernel) rfl) pa_nil)))
      (pe_one (pe_cmpR op_eq (pe_callB call_len_seq (by rfl) R.N.mLen PySem.boot_len (pa_cons (pv 0) pa_nil)) pe_int (nomark _))))), ?_⟩
    refine ⟨_, rfl, .ref t, .ty "tuple", _, _, true, rfl, .ty _, sqt_ty ht, kit_ty (by decide +kernel : kitB "tuple" "tuple" = some true), _, rfl, iteT ?_⟩
    exact ⟨_, rfl, t, _, rfl, .inr ht, rfl, q⟩
def spAreC (K : PySem.W.Frag) : Sp := fun vs H Q _ => ∃ (cu : V) (cs : List (Str × Str)), vs = [cu] ∧ CsArg K H cu cs ∧ CsOk cs ∧ ∀ H', Same H H' → Q (.bl true) H'
theorem scAreC : FnScope ["counters", "earlier", "pair"] ["counters"] (defScope sAreC) := ⟨rfl, rfl, rfl, by decide +kernel, rfl, by decide +kernel, by decide +kernel⟩
theorem ok_areC {R : TRows K mg} {T : TPart R} (B : TBks T) : FnOk P w K mg base CX0 2 B.areC.f B.areC.fd ["counters"] (spAreC K) := by
  refine B.areC.F.ok scAreC (fun vs H Q E h => ?_) (fun cdv A outer s H vs Q E hr h => ?_)
  · obtain ⟨cu, cs, rfl, _⟩ := h
    rfl
  · obtain ⟨cu, cs, rfl, ⟨p, ts, rfl, hp, hpd⟩, ok, q⟩ := h
    refine ⟨_, pss_cons (ps_if (pt_not (pt_val (pe_call (ok_isSeq T.isSeq.F R.N.mIsi T.mList T.mTup) (hr.mono (by decide)) rfl T.isSeq.m T.isSeq.F.kp T.isSeq.b .nil pass0 (pa_cons (pv 0) pa_nil)))) (pss_one (ps_ret pe_bl)) pss_nil)
      (pss_cons (ps_set (i := 1) scAreC.nd rfl (Or.inl rfl) (pe_lst pa_nil))
      (pss_cons (ps_for PassesOwn.never rfl (pi_seq (pv 0)) (pg_name (i := 2) scAreC.nd rfl (Or.inl rfl))
        (pss_cons (ps_if (PW.pt (pw_or (pt_not (pt_val (pe_call (ok_isPair B) (hr.mono (by decide)) rfl B.isPair.m B.isPair.F.kp B.isPair.b .nil pass0 (pa_cons (pv 2) pa_nil))))
            (pw_or (pt_not (pt_val (pe_call R.N.okName (hr.mono (by decide)) rfl R.N.isName.m R.N.isName.F.kp R.N.isName.b .nil pass0 (pa_cons (pe_ix ix_tup (pv 2) pe_int (fun _ _ => rfl)) pa_nil))))
              (pw_or1 (pt_cmpR op_in_seq (pe_ix ix_tup (pv 2) pe_int (fun _ _ => rfl)) (pv 1) rfl))))) (pss_one (ps_ret pe_bl)) pss_nil)
        (pss_cons (ps_if (PW.pt (pw_and (pt_cmpR op_ne (pe_ix ix_tup (pv 2) pe_int (fun _ _ => rfl)) pe_str (nomark _)) (pw_and1 (pt_cmpR op_notIn_seq (pe_ix ix_tup (pv 2) pe_int (fun _ _ => rfl)) (pv 1) rfl)))) (pss_one (ps_ret pe_bl)) pss_nil)
        (pss_one (ps_expr (pe_bm PySem.F.plainAttrs_list PySem.F.slot_list_append PySem.F.type_list_append mt_append (pv 1) (pa_cons (pe_ix ix_tup (pv 2) pe_int (fun _ _ => rfl)) pa_nil)))))))
      (pss_one (ps_ret pe_bl)))), ?_⟩
    obtain ⟨t0, hk, ht1, ht2⟩ := seq_kind hp
    refine ⟨_, rfl, _, t0, true, rfl, ht1, hk, ht2, fun H1 s1 m1 => ⟨true, rfl, iteF ?_⟩⟩
    refine ⟨Nat.zero_le _, fun F hF => ?_⟩
    have hp2 := (hp.same s1).same (Same.new (o := .lst []) hF)
    have hpd2 := paired_mono (fun _ _ z => Same.sqt (s1.trans (Same.new (o := .lst []) hF)) z) hpd
    have sH := s1.trans (Same.new (o := .lst []) hF)
    have hFn : H F = none := s1.free hF
    have hF2 : upd H1 F (.lst []) F = some (.lst []) := upd_same
    generalize upd H1 F (.lst []) = H2 at hp2 hpd2 sH hF2 ⊢
    have htl : ts.length = cs.length := paired_len hpd
    have big : (1001 : Nat) ≤ sizeLine := by decide
    have hcl := ok.len
    refine hp.elim (fun h3 => .inl ⟨_, rfl, p, rfl, ⟨_, sH.seq h3⟩, for_list (xs := ts.map V.ref) (fun i σ Hi => ∃ x2, σ = [some (.ref p), some (.ref F), x2] ∧ Same H Hi ∧ Hi F = some (.lst (((cs.take i).map (·.1)).map V.str))) ⟨_, rfl, sH, hF2⟩ (fun i σ Hi _ hP => by obtain ⟨_, _, s, _⟩ := hP; exact s.seq h3) (fun i x σ Hi hx hP => ?turn) (fun σ Hi hP => ?done)⟩)
      (fun h3 => .inr ⟨_, rfl, p, rfl, ⟨_, Same.sqt sH h3⟩, for_tup (xs := ts.map V.ref) (fun i σ Hi => ∃ x2, σ = [some (.ref p), some (.ref F), x2] ∧ Same H Hi ∧ Hi F = some (.lst (((cs.take i).map (·.1)).map V.str))) ⟨_, rfl, sH, hF2⟩ (fun i σ Hi _ hP => by obtain ⟨_, _, s, _⟩ := hP; exact Same.sqt s h3) (fun i x σ Hi hx hP => ?turn2) (fun σ Hi hP => ?done2)⟩)
    case done | done2 =>
      obtain ⟨_, rfl, s3, _⟩ := hP
      exact q _ s3
    case turn | turn2 =>
      obtain ⟨_, rfl, s3, hFi⟩ := hP
      rw [List.getElem?_map] at hx
      cases hxi : ts[i]? with
      | none => rw [hxi] at hx; cases hx
      | some t =>
      rw [hxi] at hx
      cases hx
      obtain ⟨c, hc, ht⟩ := paired_at hpd hxi
      have ht3 := Same.sqt s3 ht
      have hcm := List.mem_of_getElem? hc
      have hnm := ok.nm c hcm
      have hi : i < cs.length := (List.getElem?_eq_some_iff.mp hc).1
      have hnew : c.1 ∉ (cs.take i).map (·.1) := fun z => by
        have e : (cs.map (·.1)) = (cs.take i).map (·.1) ++ (cs.drop i).map (·.1) := by rw [← List.map_append, List.take_append_drop]
        have nd := ok.nd
        rw [e] at nd
        refine (List.nodup_append.mp nd).2.2 _ z c.1 (List.mem_map.mpr ⟨c, ?_, rfl⟩) rfl
        exact List.mem_of_getElem? (i := 0) (by rw [List.getElem?_drop]; simpa using hc)
      refine ⟨_, rfl, t, _, _, rfl, ht3, true, rfl, iteF ?_⟩
      refine ⟨_, rfl, t, _, _, .str c.1, rfl, rfl, ht3, rfl, .str c.1, .str c.1, rfl, .str _, Nat.le_trans (name_ok hnm).2 (by decide), fun H4 s4 m4 => ⟨nameS c.1, rfl, ?_⟩⟩
      rw [hnm]
      refine iteF ?_
      have ht4 := Same.sqt s4 ht3
      have hF4 := s4 _ _ hFi
      refine ⟨_, rfl, t, _, _, .str c.1, rfl, rfl, ht4, rfl, _, rfl, F, _, rfl, .inl (SqL.of hF4), rfl, flat_strs, ?_⟩
      refine ⟨_, rfl, iteFD (by show inV (.str c.1) _ = false; rw [inV_strs]; exact decide_eq_false hnew) ?_⟩
      unfold tNext
      try dsimp only
      refine stepNo (fun Hx => Hx = H4) (fun Q' hQ => ?_) (fun Hx hx => ?_)
      · refine ⟨_, rfl, t, _, _, .str c.2, rfl, rfl, ht4, rfl, rfl, _, rfl, ?_⟩
        by_cases hc2 : c.2 = ""
        · refine iteFD (by rw [hc2]; decide +kernel) ?_
          exact hQ _ rfl
        · refine iteTD (by rw [Bool.not_eq_true', decide_eq_false_iff_not]; exact fun z => hc2 (V.str.inj z)) ?_
          refine ⟨_, rfl, t, _, _, .str c.2, rfl, rfl, ht4, rfl, _, rfl, F, _, rfl, .inl (SqL.of hF4), rfl, flat_strs, _, rfl, ?_⟩
          have hup := (ok.up i c hc).resolve_left hc2
          have e : (!inV (.str c.2) (((cs.take i).map (·.1)).map V.str)) = false := by rw [inV_strs, decide_eq_true hup]; rfl
          show Q' (!inV (.str c.2) (((cs.take i).map (·.1)).map V.str)) H4
          rw [e]
          exact hQ _ rfl
      · subst hx
        refine ⟨_, rfl, .inl ⟨rfl, _, SqL.of hF4⟩, _, rfl, t, _, _, .str c.1, rfl, rfl, ht4, rfl, F, _, _, rfl, rfl, hF4, ?_, ?_⟩
        · rw [List.length_map, List.length_map, List.length_take]
          omega
        · refine ⟨_, rfl, Same.updn (s3.trans s4) hFn, ?_⟩
          rw [upd_same, List.take_add_one, hc, List.map_append, List.map_append]
          rfl
/-! ### parts -/
theorem part_attr {R : TRows K mg} {T : TPart R} {H : Hp} {a : Addr} {q : PartD} (h : PtAt T H a q.1 q.2) : ∃ dx tp us, H a = some (insPart T.C dx (.str q.1) (.ref tp)) ∧ SqT K H tp (us.map V.ref) ∧ RowsIn R H us q.2 := h
def spAreP {R : TRows K mg} (T : TPart R) : Sp := fun vs H Q _ => ∃ (pu : V) (bk : List PartD), vs = [pu] ∧ PtsArg T H pu bk ∧ bk ≠ [] ∧ (bk.map (·.1)).Nodup ∧ bk.length ≤ 50 ∧ ∀ H', Same H H' → Q (.bl true) H'
theorem scAreP : FnScope ["parts", "part"] ["parts"] (defScope sAreP) := ⟨rfl, rfl, rfl, by decide +kernel, rfl, by decide +kernel, by decide +kernel⟩
theorem all_tt {α : Type} (l : List α) : (l.map fun _ => true).all id = true := by
  induction l with
  | nil => rfl
  | cons _ _ ih => exact ih
theorem uniq_of_nodup {l : List Str} (h : l.Nodup) : (uniq l).length = l.length := by
  have p : l.Perm (uniq l) := perm_of_sup h (fun k hk => (uniq_has l k).mpr hk) (uniq_len l)
  exact p.length_eq.symm
theorem ok_areP {R : TRows K mg} {T : TPart R} (B : TBks T) : FnOk P w K mg base CX0 2 B.areP.f B.areP.fd ["parts"] (spAreP T) := by
  refine B.areP.F.ok scAreP (fun vs H Q E h => ?_) (fun cdv A outer s H vs Q E hr h => ?_)
  · obtain ⟨pu, bk, rfl, _⟩ := h
    rfl
  · obtain ⟨pu, bk, rfl, ⟨p, ps, rfl, hp, hpd⟩, hne, hnd, hlen, q⟩ := h
    refine ⟨_, pss_cons (ps_if (PW.pt (pw_or (pt_not (pt_val (pe_call (ok_isSeq T.isSeq.F R.N.mIsi T.mList T.mTup) (hr.mono (by decide)) rfl T.isSeq.m T.isSeq.F.kp T.isSeq.b .nil pass0 (pa_cons (pv 0) pa_nil))))
          (pw_or1 (pt_not (pt_val (pe_callB (cr_all rfl) (by rfl) R.N.mAll (by decide +kernel) (pa_cons (pe_lc (own := [("part", 1)]) (g := gName 1) (tt := tYes) (by rfl) scAreP.nd (pi_seq (pv 0))
            (blkOk_by (N := ["parts", "part"]) (sc := defScope sAreP) (by decide +kernel)) (fun _ _ _ _ _ => pg_name (i := 1) scAreP.nd rfl (Or.inl rfl)) (fun _ _ _ _ _ => pts_nil)
            (fun _ _ _ _ _ => pe_callB (show CallR _ (.builtin "isinstance") (rIsi K) from call_isi) (by rfl) R.N.mIsi (by decide +kernel) (pa_cons (pv 1) (pa_cons (pe_glob (v := .ref T.C) (by rfl) T.mC rfl) pa_nil)))) pa_nil)))))))
        (pss_one (ps_ret pe_bl)) pss_nil)
      (pss_one (ps_ret (pe_chain op_lt op_eq pe_int (pe_callB call_len_seq (by rfl) R.N.mLen PySem.boot_len (pa_cons (pv 0) pa_nil))
        (pe_callB cr_lenX (by rfl) R.N.mLen PySem.boot_len (pa_cons (pe_callTy (cr_setX rfl) (by rfl) B.mSet (by decide +kernel) (pa_cons (pe_lc (own := [("part", 1)]) (g := gName 1) (tt := tYes) (by rfl) scAreP.nd (pi_seq (pv 0))
            (blkOk_by (N := ["parts", "part"]) (sc := defScope sAreP) (by decide +kernel)) (fun _ _ _ _ _ => pg_name (i := 1) scAreP.nd rfl (Or.inl rfl)) (fun _ _ _ _ _ => pts_nil)
            (fun _ _ _ _ _ => (show PE _ _ (tFld K (tVar 1) "name") from pe_fld (pv 1) rfl))) pa_nil)) pa_nil))))), ?_⟩
    obtain ⟨t0, hk, ht1, ht2⟩ := seq_kind hp
    refine ⟨_, rfl, _, t0, true, rfl, ht1, hk, ht2, fun H1 s1 m1 => ⟨true, rfl, iteF ?_⟩⟩
    have hpl : ps.length = bk.length := paired_len hpd
    have big : (1001 : Nat) ≤ sizeLine := by decide
    have hp1 := hp.same s1
    have hpd1 := paired_mono (fun _ _ z => PtAt.same z s1) hpd
    unfold tNot tB tCB tCons
    refine lcw_seq (fun R r => ⟨_, rfl, r⟩) hp1 (by rw [List.length_map]; omega) (out := fun i => (ps[i]?).map fun _ => V.bl true) (fun i x Hi S Y hx si _ hY => ?_) (fun D H2 hD s2 hD2 => ?_)
    · rw [List.getElem?_map] at hx
      cases hxi : ps[i]? with
      | none => rw [hxi] at hx; cases hx
      | some a =>
      rw [hxi] at hx
      cases hx
      obtain ⟨qq, hq, hpt⟩ := paired_at hpd1 hxi
      obtain ⟨dx, tp, us, ha, _, _⟩ := hpt.same si
      refine ⟨rfl, _, rfl, .ref a, .ref T.C, _, _, true, rfl, .own _, .base (.ins ha T.cl T.pA T.cN T.cT T.pM), T.kC, ?_⟩
      exact hY _ (by show (ps[i]?).map _ = _; rw [hxi]; rfl) _ (Same.refl _)
    · rw [List.length_map, out_map] at hD2
      refine ⟨D, ps.map fun _ => true, rfl, SqL.of (by rw [hD2, List.map_map]; rfl), ?_⟩
      rw [all_tt]
      refine ⟨true, rfl, iteF ?_⟩
      have hp2 := hp1.same s2
      have hpd2 := paired_mono (fun _ _ z => PtAt.same z s2) hpd1
      refine ⟨_, rfl, p, _, rfl, hp2, _, _, rfl, rfl, true, ?_, iteT ?_⟩
      · rw [List.length_map, hpl]
        have : 0 < bk.length := List.length_pos_iff.mpr hne
        show V.bl (decide ((0 : Int) < (bk.length : Int))) = V.bl true
        rw [decide_eq_true (by omega)]
      show tLc (iSeq K (tVar 0)) (gName 1) tYes (tFld K (tVar 1) "name") [1] _ H2 _
      refine lcw_seq (fun R r => ⟨_, rfl, r⟩) hp2 (by rw [List.length_map]; omega) (out := fun i => (bk[i]?).map fun q => V.str q.1) (fun i x Hi S Y hx si _ hY => ?_) (fun D3 H3 hD3 s3 hD4 => ?_)
      · rw [List.getElem?_map] at hx
        cases hxi : ps[i]? with
        | none => rw [hxi] at hx; cases hx
        | some a =>
        rw [hxi] at hx
        cases hx
        obtain ⟨qq, hq, hpt⟩ := paired_at hpd2 hxi
        obtain ⟨dx, tp, us, ha, _, _⟩ := hpt.same si
        refine ⟨rfl, _, rfl, a, T.C, dx, _, .str qq.1, rfl, ha, T.cl, T.noN, part_name, ?_⟩
        exact hY _ (by show (bk[i]?).map _ = _; rw [hq]; rfl) _ (Same.refl _)
      · rw [List.length_map, hpl, out_map] at hD4
        refine ⟨D3, bk.map (·.1), rfl, SqL.of (by rw [hD4, List.map_map]; rfl), by rw [List.length_map]; omega, fun S hS => ?_⟩
        have hul := uniq_of_nodup hnd
        refine ⟨S, uniq (bk.map (·.1)), rfl, upd_same, by rw [hul, List.length_map]; omega, ?_⟩
        rw [hul, List.length_map, List.length_map, hpl]
        refine ⟨rfl, ?_⟩
        rw [decide_eq_true rfl]
        exact q _ (((s1.trans s2).trans s3).trans (Same.new hS))
end
end Pn

namespace Pn
open PySem L2 TL
section
variable {P : Program} {w : World} {K : PySem.W.Frag} {mg : Str → Option Value} {base : Heap}
/-! ### the attributes of rows -/
def Attr (R : TRows K mg) (H : Hp) (a : Addr) (r : RowD) (f : Str) (v : V) : Prop := ∃ dx fs, H a = some (.ins (clsOf R r) dx fs) ∧ Cls K (clsOf R r) ∧ NoAttr K (clsOf R r) f ∧ fs.lookup f = some v
theorem at_counter (T : TRows K mg) {H : Hp} {a : Addr} {r : RowD} {c : Str} (h : RowAt T H a r) (e : cntOf r = some c) : Attr T H a r "counter" (.str c) := by
  obtain ⟨dx, ha⟩ := h
  cases r with
  | note _ _ => cases e; exact ⟨dx, _, ha, T.note.cl, T.note.noC, by rw [lookup_putF, if_neg (by decide +kernel), lookup_putF, if_pos rfl]⟩
  | skip _ _ => cases e; exact ⟨dx, _, ha, T.skip.cl, T.skip.noC, by rw [lookup_putF, if_neg (by decide +kernel), lookup_putF, if_pos rfl]⟩
  | set _ _ => cases e; exact ⟨dx, _, ha, T.set.cl, T.set.noC, by rw [lookup_putF, if_neg (by decide +kernel), lookup_putF, if_pos rfl]⟩
  | keep _ => cases e; exact ⟨dx, _, ha, T.keep.cl, T.keep.noF, by rw [lookup_putF, if_pos rfl]⟩
  | back _ => cases e; exact ⟨dx, _, ha, T.back.cl, T.back.noF, by rw [lookup_putF, if_pos rfl]⟩
  | ref _ => cases e
  | put _ => cases e
  | opn _ => cases e
theorem at_part (T : TRows K mg) {H : Hp} {a : Addr} {z : Str} (h : RowAt T H a (.put z)) : Attr T H a (.put z) "part" (.str z) := by
  obtain ⟨dx, ha⟩ := h
  exact ⟨dx, _, ha, T.put.cl, T.put.noF, by rw [lookup_putF, if_pos rfl]⟩
theorem at_name (T : TRows K mg) {H : Hp} {a : Addr} {z : Str} (h : RowAt T H a (.opn z)) : Attr T H a (.opn z) "name" (.str z) := by
  obtain ⟨dx, ha⟩ := h
  exact ⟨dx, _, ha, T.open_.cl, T.open_.noF, by rw [lookup_putF, if_pos rfl]⟩
theorem at_reflab (T : TRows K mg) {H : Hp} {a : Addr} {z : Str} (h : RowAt T H a (.ref z)) : Attr T H a (.ref z) "label" (.str z) := by
  obtain ⟨dx, ha⟩ := h
  exact ⟨dx, _, ha, T.ref.cl, T.ref.noF, by rw [lookup_putF, if_pos rfl]⟩
theorem at_notelab (T : TRows K mg) {H : Hp} {a : Addr} {c z : Str} (h : RowAt T H a (.note c z)) : Attr T H a (.note c z) "label" (.str z) := by
  obtain ⟨dx, ha⟩ := h
  exact ⟨dx, _, ha, T.note.cl, T.note.noL, by rw [lookup_putF, if_pos rfl]⟩
theorem at_word (T : TRows K mg) {H : Hp} {a : Addr} {r : RowD} (h : RowAt T H a r) : Attr T H a r "word" (.str (rowWord r)) := row_word T h
theorem word_cnt (r : RowD) : inV (.str (rowWord r)) cwV = (cntOf r).isSome := by
  have e : cwV = (["note", "skip", "set", "keep", "back"] : List Str).map V.str := rfl
  rw [e, inV_strs]
  cases r with
  | note _ _ => exact (by decide +kernel : decide (("note" : Str) ∈ (["note", "skip", "set", "keep", "back"] : List Str)) = true)
  | skip _ _ => exact (by decide +kernel : decide (("skip" : Str) ∈ (["note", "skip", "set", "keep", "back"] : List Str)) = true)
  | set _ _ => exact (by decide +kernel : decide (("set" : Str) ∈ (["note", "skip", "set", "keep", "back"] : List Str)) = true)
  | keep _ => exact (by decide +kernel : decide (("keep" : Str) ∈ (["note", "skip", "set", "keep", "back"] : List Str)) = true)
  | back _ => exact (by decide +kernel : decide (("back" : Str) ∈ (["note", "skip", "set", "keep", "back"] : List Str)) = true)
  | ref _ => exact (by decide +kernel : decide (("ref" : Str) ∈ (["note", "skip", "set", "keep", "back"] : List Str)) = false)
  | put _ => exact (by decide +kernel : decide (("put" : Str) ∈ (["note", "skip", "set", "keep", "back"] : List Str)) = false)
  | opn _ => exact (by decide +kernel : decide (("open" : Str) ∈ (["note", "skip", "set", "keep", "back"] : List Str)) = false)
/-- a row as it stands, looked up in a list of rows -/
theorem rows_at {R : TRows K mg} {H : Hp} {us : List Addr} {rs : List RowD} (h : RowsIn R H us rs) {i : Nat} {x : V} (hx : (us.map V.ref)[i]? = some x) : ∃ u r, us[i]? = some u ∧ rs[i]? = some r ∧ x = .ref u ∧ RowAt R H u r := by
  rw [List.getElem?_map] at hx
  cases hu : us[i]? with
  | none => rw [hu] at hx; cases hx
  | some u =>
    rw [hu] at hx
    cases hx
    obtain ⟨r, hr, hrow⟩ := paired_at h hu
    exact ⟨u, r, rfl, hr, rfl, hrow⟩
/-! ### names_put -/
def putOf : RowD → Option Str
  | .put z => some z
  | _ => none
theorem puts_eq (rs : List RowD) : putsOf rs = rs.filterMap putOf := rfl
theorem put_word {r : RowD} : decide (V.str (rowWord r) = V.str "put") = (putOf r).isSome := by
  cases r <;> first | exact (by decide +kernel : decide (V.str "note" = V.str "put") = false) | exact (by decide +kernel : decide (V.str "skip" = V.str "put") = false) | exact (by decide +kernel : decide (V.str "set" = V.str "put") = false) | exact (by decide +kernel : decide (V.str "keep" = V.str "put") = false) | exact (by decide +kernel : decide (V.str "back" = V.str "put") = false) | exact (by decide +kernel : decide (V.str "ref" = V.str "put") = false) | exact (by decide +kernel : decide (V.str "put" = V.str "put") = true) | exact (by decide +kernel : decide (V.str "open" = V.str "put") = false)
def spNPut {R : TRows K mg} (T : TPart R) : Sp := fun vs H Q _ => ∃ (a : Addr) (q : PartD), vs = [.ref a] ∧ PtAt T H a q.1 q.2 ∧ q.2.length ≤ 100 ∧ ∀ (D : Addr) (H' : Hp), H D = none → Same H H' → H' D = some (.lst ((putsOf q.2).map V.str)) → Q (.ref D) H'
theorem scNPut : FnScope ["part", "row"] ["part"] (defScope sNPut) := ⟨rfl, rfl, rfl, by decide +kernel, rfl, by decide +kernel, by decide +kernel⟩
theorem ok_nPut {R : TRows K mg} {T : TPart R} (B : TBks T) : FnOk P w K mg base CX0 1 B.nPut.f B.nPut.fd ["part"] (spNPut T) := by
  refine B.nPut.F.ok scNPut (fun vs H Q E h => ?_) (fun cdv A outer s H vs Q E hr h => ?_)
  · obtain ⟨a, q, rfl, _⟩ := h
    rfl
  · obtain ⟨a, qq, rfl, ⟨dx, tp, us, ha, htp, hus⟩, hl, q⟩ := h
    refine ⟨_, pss_one (ps_ret (pe_lc (own := [("row", 1)]) (g := gName 1) (by rfl) scNPut.nd (pi_tup (pe_fld (pv 0) rfl))
      (blkOk_by (N := ["part", "row"]) (sc := defScope sNPut) (by decide +kernel)) (fun _ _ _ _ _ => pg_name (i := 1) scNPut.nd rfl (Or.inl rfl))
      (fun _ _ _ _ _ => pts_one (pt_cmpR op_eq (show PE _ _ (tFld K (tVar 1) "word") from pe_fld (pv 1) rfl) pe_str (nomark _))) (fun _ _ _ _ _ => (show PE _ _ (tFld K (tVar 1) "part") from pe_fld (pv 1) rfl)))), ?_⟩
    have hul : us.length = qq.2.length := paired_len hus
    refine lcw_tup (fun R r => ⟨_, rfl, a, T.C, dx, _, .ref tp, rfl, ha, T.cl, T.noR, part_rows, r⟩) htp (by rw [List.length_map]; omega) (out := fun i => (qq.2[i]?).bind fun r => (putOf r).map V.str) (fun i x Hi S Y hx si hS hY => ?_) (fun D H2 hD s2 hD2 => q D H2 hD s2 ?_)
    · obtain ⟨u, r, hu, hr2, rfl, hrow⟩ := rows_at hus hx
      obtain ⟨dw, fw, w1, w2, w3, w4⟩ := at_word R (hrow.same si)
      refine ⟨rfl, _, rfl, u, _, dw, fw, _, rfl, w1, w2, w3, w4, rfl, _, rfl, ?_⟩
      have hb : (qq.2[i]?).bind (fun r => (putOf r).map V.str) = (putOf r).map V.str := by rw [hr2]; rfl
      rw [put_word]
      cases hp : putOf r with
      | none =>
        refine iteF ?_
        exact hS (by rw [hp] at hb; exact hb) _ (Same.refl _)
      | some z =>
        refine iteT ?_
        obtain rfl : r = .put z := by
          cases r with
          | put y => cases hp; rfl
          | _ => cases hp
        obtain ⟨dp, fp, p1, p2, p3, p4⟩ := at_part R (hrow.same si)
        exact ⟨_, rfl, u, _, dp, fp, _, rfl, p1, p2, p3, p4, hY _ (by rw [hp] at hb; exact hb) _ (Same.refl _)⟩
    · rw [hD2, List.length_map, hul, out_filter, puts_eq, List.map_filterMap]
/-! ### puts_are_earlier -/
def spPEarly {R : TRows K mg} (T : TPart R) : Sp := fun vs H Q _ => ∃ (pu : V) (bk : List PartD), vs = [pu] ∧ PtsArg T H pu bk ∧ Earlier bk ∧ bk.length ≤ 50 ∧ (∀ p ∈ bk, p.2.length ≤ 100) ∧ ∀ H', Same H H' → Q (.bl true) H'
theorem scPEarly : FnScope ["parts", "earlier", "part", "name"] ["parts"] (defScope sPEarly) := ⟨rfl, rfl, rfl, by decide +kernel, rfl, by decide +kernel, by decide +kernel⟩
theorem puts_len (rs : List RowD) : (putsOf rs).length ≤ rs.length := List.length_filterMap_le _ _
theorem pts_at {R : TRows K mg} {T : TPart R} {H : Hp} {ps : List Addr} {bk : List PartD} (h : Paired (fun a (q : PartD) => PtAt T H a q.1 q.2) ps bk) {i : Nat} {x : V} (hx : (ps.map V.ref)[i]? = some x) : ∃ a q, ps[i]? = some a ∧ bk[i]? = some q ∧ x = .ref a ∧ PtAt T H a q.1 q.2 := by
  rw [List.getElem?_map] at hx
  cases hu : ps[i]? with
  | none => rw [hu] at hx; cases hx
  | some u =>
    rw [hu] at hx
    cases hx
    obtain ⟨r, hr, hrow⟩ := paired_at h hu
    exact ⟨u, r, rfl, hr, rfl, hrow⟩
theorem ok_pEarly {R : TRows K mg} {T : TPart R} (B : TBks T) : FnOk P w K mg base CX0 2 B.pEarly.f B.pEarly.fd ["parts"] (spPEarly T) := by
  refine B.pEarly.F.ok scPEarly (fun vs H Q E h => ?_) (fun cdv A outer s H vs Q E hr h => ?_)
  · obtain ⟨pu, bk, rfl, _⟩ := h
    rfl
  · obtain ⟨pu, bk, rfl, ⟨p, ps, rfl, hp, hpd⟩, he, hlen, hrl, q⟩ := h
    refine ⟨_, pss_cons (ps_set (i := 1) scPEarly.nd rfl (Or.inr rfl) (pe_lst pa_nil))
      (pss_cons (ps_for PassesOwn.never rfl (pi_seq (pv 0)) (pg_name (i := 2) scPEarly.nd rfl (Or.inl rfl))
        (pss_cons (ps_if (pt_not (pt_val (pe_callB (cr_all rfl) (by rfl) R.N.mAll (by decide +kernel) (pa_cons (pe_lc (own := [("name", 3)]) (g := gName 3) (tt := tYes) (by rfl) scPEarly.nd (pi_list (pe_call (ok_nPut B) hr rfl B.nPut.m B.nPut.F.kp B.nPut.b .nil pass0 (pa_cons (pv 2) pa_nil)))
            (blkOk_by (N := ["parts", "earlier", "part", "name"]) (sc := defScope sPEarly) (by decide +kernel)) (fun _ _ _ _ _ => pg_name (i := 3) scPEarly.nd rfl (Or.inl rfl)) (fun _ _ _ _ _ => pts_nil)
            (fun _ _ _ _ _ => pe_cmpR (show OpR _ (compareOp .In) (rIn K false) from op_in_seq) (pv 3) (pv 1) rfl)) pa_nil)))) (pss_one (ps_ret pe_bl)) pss_nil)
        (pss_one (ps_expr (pe_bm PySem.F.plainAttrs_list PySem.F.slot_list_append PySem.F.type_list_append mt_append (pv 1) (pa_cons (pe_fld (pv 2) rfl) pa_nil))))))
      (pss_one (ps_ret pe_bl))), ?_⟩
    have hpl : ps.length = bk.length := paired_len hpd
    have big : (1001 : Nat) ≤ sizeLine := by decide
    refine ⟨Nat.zero_le _, fun F hF => ?_⟩
    have s1 := Same.new (o := .lst []) hF
    have hF1 : upd H F (.lst []) F = some (.lst []) := upd_same
    generalize upd H F (.lst []) = H1 at s1 hF1 ⊢
    have hFn : H F = none := hF
    refine forw_seq (fun R r => ⟨_, rfl, r⟩) hp (fun i σ Hi => ∃ x2 x3, σ = [some (.ref p), some (.ref F), x2, x3] ∧ Same H Hi ∧ Hi F = some (.lst (((bk.take i).map (·.1)).map V.str))) ⟨_, _, rfl, s1, hF1⟩ (fun i σ Hi hP => by obtain ⟨_, _, _, s, _⟩ := hP; exact s) (fun i x σ Hi hx hP => ?_) (fun σ Hi hP => ?_)
    · obtain ⟨x2, x3, rfl, s3, hFi⟩ := hP
      obtain ⟨a, qq, ha, hq, rfl, hpt⟩ := pts_at hpd hx
      have hqm := List.mem_of_getElem? hq
      have hi : i < bk.length := (List.getElem?_eq_some_iff.mp hq).1
      have hpt3 := hpt.same s3
      refine ⟨_, rfl, a, qq, rfl, hpt3, hrl qq hqm, fun D H4 hD s4 hD4 => ?_⟩
      have hpu : (putsOf qq.2).length ≤ 100 := Nat.le_trans (puts_len _) (hrl qq hqm)
      have hF4 := s4 _ _ hFi
      refine ⟨D, rfl, ⟨_, SqL.of hD4⟩, fun D2 hD2 => lc_list (xs := (putsOf qq.2).map V.str) (fun j Hj => Same H4 Hj ∧ Hj D2 = some (.lst ((List.range j).filterMap fun j => ((putsOf qq.2)[j]?).map fun _ => V.bl true))) ⟨Same.new hD2, upd_same⟩ (fun j Hj _ hP => SqL.of (hP.1 _ _ hD4))
        (lc_keep (by rw [List.length_map]; omega) (fun j y Hj S Y hy sj _ hY => ?_) hD2) (fun Hj hP => ?_)⟩
      · rw [List.getElem?_map] at hy
        cases hz : (putsOf qq.2)[j]? with
        | none => rw [hz] at hy; cases hy
        | some z =>
        rw [hz] at hy
        cases hy
        have hin := he i qq hq z (mem_puts.mp (List.mem_of_getElem? hz))
        refine ⟨rfl, _, rfl, _, rfl, F, _, rfl, .inl (SqL.of (sj _ _ hF4)), rfl, flat_strs, ?_⟩
        have e : inV (.str z) (((bk.take i).map (·.1)).map V.str) = true := by rw [inV_strs]; exact decide_eq_true hin
        show Y (.bl (inV (.str z) (((bk.take i).map (·.1)).map V.str))) Hj
        rw [e]
        exact hY _ (by show ((putsOf qq.2)[j]?).map _ = _; rw [hz]; rfl) _ (Same.refl _)
      · obtain ⟨s5, hD5⟩ := hP
        rw [List.length_map, out_map] at hD5
        refine ⟨D2, (putsOf qq.2).map fun _ => true, rfl, SqL.of (by rw [hD5, List.map_map]; rfl), ?_⟩
        rw [all_tt]
        refine ⟨true, rfl, iteF ?_⟩
        obtain ⟨dx, tp, us, hat, _, _⟩ := hpt3.same (s4.trans s5)
        have hF5 := s5 _ _ hF4
        refine ⟨_, rfl, .inl ⟨rfl, _, SqL.of hF5⟩, _, rfl, a, T.C, dx, _, .str qq.1, rfl, hat, T.cl, T.noN, part_name, F, _, _, rfl, rfl, hF5, ?_, ?_⟩
        · rw [List.length_map, List.length_map, List.length_take]
          omega
        · refine ⟨_, _, rfl, Same.updn ((s3.trans s4).trans s5) hFn, ?_⟩
          rw [upd_same, List.take_add_one, hq, List.map_append, List.map_append]
          rfl
    · obtain ⟨_, _, rfl, s3, _⟩ := hP
      exact q _ s3
/-! ### refs_are_known -/
def spRefsK (R : TRows K mg) : Sp := fun vs H Q _ => ∃ (p : Addr) (us : List Addr) (rs : List RowD), vs = [.ref p] ∧ Sq K H p (us.map V.ref) ∧ RowsIn R H us rs ∧ rs.length ≤ 4000 ∧ (∀ l, RowD.ref l ∈ rs → ∃ c, RowD.note c l ∈ rs) ∧ ∀ H', Same H H' → Q (.bl true) H'
theorem scRefsK : FnScope ["rows", "labels", "row"] ["rows"] (defScope sRefsK) := ⟨rfl, rfl, rfl, by decide +kernel, rfl, by decide +kernel, by decide +kernel⟩
theorem note_word {r : RowD} : decide (V.str (rowWord r) = V.str "note") = (labOf r).isSome := by
  cases r with
  | note _ _ => exact (by decide +kernel : decide (V.str "note" = V.str "note") = true)
  | skip _ _ => exact (by decide +kernel : decide (V.str "skip" = V.str "note") = false)
  | set _ _ => exact (by decide +kernel : decide (V.str "set" = V.str "note") = false)
  | keep _ => exact (by decide +kernel : decide (V.str "keep" = V.str "note") = false)
  | back _ => exact (by decide +kernel : decide (V.str "back" = V.str "note") = false)
  | ref _ => exact (by decide +kernel : decide (V.str "ref" = V.str "note") = false)
  | put _ => exact (by decide +kernel : decide (V.str "put" = V.str "note") = false)
  | opn _ => exact (by decide +kernel : decide (V.str "open" = V.str "note") = false)
theorem ref_word {r : RowD} : decide (V.str (rowWord r) = V.str "ref") = (refOf r).isSome := by
  cases r with
  | note _ _ => exact (by decide +kernel : decide (V.str "note" = V.str "ref") = false)
  | skip _ _ => exact (by decide +kernel : decide (V.str "skip" = V.str "ref") = false)
  | set _ _ => exact (by decide +kernel : decide (V.str "set" = V.str "ref") = false)
  | keep _ => exact (by decide +kernel : decide (V.str "keep" = V.str "ref") = false)
  | back _ => exact (by decide +kernel : decide (V.str "back" = V.str "ref") = false)
  | ref _ => exact (by decide +kernel : decide (V.str "ref" = V.str "ref") = true)
  | put _ => exact (by decide +kernel : decide (V.str "put" = V.str "ref") = false)
  | opn _ => exact (by decide +kernel : decide (V.str "open" = V.str "ref") = false)
theorem ok_refsK {R : TRows K mg} {T : TPart R} (B : TBks T) : FnOk P w K mg base CX0 1 B.refsK.f B.refsK.fd ["rows"] (spRefsK R) := by
  refine B.refsK.F.ok scRefsK (fun vs H Q E h => ?_) (fun cdv A outer s H vs Q E hr h => ?_)
  · obtain ⟨p, us, rs, rfl, _⟩ := h
    rfl
  · obtain ⟨p, us, rs, rfl, hp, hus, hlen, hrf, q⟩ := h
    refine ⟨_, pss_cons (ps_set (i := 1) scRefsK.nd rfl (Or.inr rfl) (pe_lc (own := [("row", 2)]) (g := gName 2) (by rfl) scRefsK.nd (pi_seq (pv 0))
      (blkOk_by (N := ["rows", "labels", "row"]) (sc := defScope sRefsK) (by decide +kernel)) (fun _ _ _ _ _ => pg_name (i := 2) scRefsK.nd rfl (Or.inl rfl))
      (fun _ _ _ _ _ => pts_one (pt_cmpR op_eq (show PE _ _ (tFld K (tVar 2) "word") from pe_fld (pv 2) rfl) pe_str (nomark _))) (fun _ _ _ _ _ => (show PE _ _ (tFld K (tVar 2) "label") from pe_fld (pv 2) rfl))))
      (pss_one (ps_ret (pe_callB (cr_all rfl) (by rfl) R.N.mAll (by decide +kernel) (pa_cons (pe_lc (own := [("row", 2)]) (g := gName 2) (by rfl) scRefsK.nd (pi_seq (pv 0))
      (blkOk_by (N := ["rows", "labels", "row"]) (sc := defScope sRefsK) (by decide +kernel)) (fun _ _ _ _ _ => pg_name (i := 2) scRefsK.nd rfl (Or.inl rfl))
      (fun _ _ _ _ _ => pts_one (pt_cmpR op_eq (show PE _ _ (tFld K (tVar 2) "word") from pe_fld (pv 2) rfl) pe_str (nomark _))) (fun _ _ _ _ _ => pe_cmpR (show OpR _ (compareOp .In) (rIn K false) from op_in_seq) (show PE _ _ (tFld K (tVar 2) "label") from pe_fld (pv 2) rfl) (pv 1) rfl)) pa_nil)))), ?_⟩
    have hul : us.length = rs.length := paired_len hus
    unfold tSeq tAsg
    refine lcw_seq (fun R r => ⟨_, rfl, r⟩) hp (by rw [List.length_map]; omega) (out := fun i => (rs[i]?).bind fun r => (labOf r).map V.str) (fun i x Hi S Y hx si hS hY => ?_) (fun D H2 hD s2 hD2 => ?_)
    · obtain ⟨u, r, hu, hr2, rfl, hrow⟩ := rows_at hus hx
      obtain ⟨dw, fw, w1, w2, w3, w4⟩ := at_word R (hrow.same si)
      refine ⟨rfl, _, rfl, u, _, dw, fw, _, rfl, w1, w2, w3, w4, rfl, _, rfl, ?_⟩
      have hb : (rs[i]?).bind (fun r => (labOf r).map V.str) = (labOf r).map V.str := by rw [hr2]; rfl
      rw [note_word]
      cases hp2 : labOf r with
      | none =>
        refine iteF ?_
        exact hS (by rw [hp2] at hb; exact hb) _ (Same.refl _)
      | some z =>
        refine iteT ?_
        obtain ⟨c, rfl⟩ : ∃ c, r = .note c z := by
          cases r with
          | note c y => cases hp2; exact ⟨c, rfl⟩
          | _ => cases hp2
        obtain ⟨dp, fp, p1, p2, p3, p4⟩ := at_notelab R (hrow.same si)
        exact ⟨_, rfl, u, _, dp, fp, _, rfl, p1, p2, p3, p4, hY _ (by rw [hp2] at hb; exact hb) _ (Same.refl _)⟩
    · rw [List.length_map, hul, out_filter] at hD2
      have hD3 : H2 D = some (.lst ((rs.filterMap labOf).map V.str)) := by rw [hD2, List.map_filterMap]
      have hus2 := hus.same s2
      unfold gName tRet tCB tCons
      dsimp only
      refine lcw_seq (fun R r => ⟨_, rfl, r⟩) (hp.same s2) (by rw [List.length_map]; omega) (out := fun i => (rs[i]?).bind fun r => (refOf r).map fun _ => V.bl true) (fun i x Hi S Y hx si hS hY => ?_) (fun D4 H4 hD4 s4 hD5 => ?_)
      · obtain ⟨u, r, hu, hr2, rfl, hrow⟩ := rows_at hus2 hx
        obtain ⟨dw, fw, w1, w2, w3, w4⟩ := at_word R (hrow.same si)
        refine ⟨rfl, _, rfl, u, _, dw, fw, _, rfl, w1, w2, w3, w4, rfl, _, rfl, ?_⟩
        have hb : (rs[i]?).bind (fun r => (refOf r).map fun _ => V.bl true) = (refOf r).map fun _ => V.bl true := by rw [hr2]; rfl
        rw [ref_word]
        cases hp2 : refOf r with
        | none =>
          refine iteF ?_
          exact hS (by rw [hp2] at hb; exact hb) _ (Same.refl _)
        | some z =>
          refine iteT ?_
          obtain rfl : r = .ref z := by
            cases r with
            | ref y => cases hp2; rfl
            | _ => cases hp2
          obtain ⟨dp, fp, p1, p2, p3, p4⟩ := at_reflab R (hrow.same si)
          refine ⟨_, rfl, u, _, dp, fp, _, rfl, p1, p2, p3, p4, _, rfl, D, _, rfl, .inl (SqL.of (si _ _ hD3)), rfl, flat_strs, ?_⟩
          obtain ⟨c, hc⟩ := hrf z (List.mem_of_getElem? hr2)
          have e : inV (.str z) ((rs.filterMap labOf).map V.str) = true := by
            rw [inV_strs]
            exact decide_eq_true (List.mem_filterMap.mpr ⟨_, hc, rfl⟩)
          show Y (.bl (inV (.str z) ((rs.filterMap labOf).map V.str))) Hi
          rw [e]
          exact hY _ (by rw [hp2] at hb; exact hb) _ (Same.refl _)
      · rw [List.length_map, hul, out_filter] at hD5
        refine ⟨D4, (rs.filterMap refOf).map fun _ => true, rfl, SqL.of (by rw [hD5, List.map_map, List.map_filterMap]; rfl), ?_⟩
        rw [all_tt]
        exact q _ (s2.trans s4)
/-! ### counters_are_known -/
def spCKnown {R : TRows K mg} (T : TPart R) : Sp := fun vs H Q _ => ∃ (cu pu : V) (cs : List (Str × Str)) (bk : List PartD), vs = [cu, pu] ∧ CsArg K H cu cs ∧ PtsArg T H pu bk ∧ cs.length ≤ 100 ∧ bk.length ≤ 50 ∧ (∀ p ∈ bk, p.2.length ≤ 100) ∧ (∀ p ∈ bk, ∀ r ∈ p.2, ∀ c, cntOf r = some c → c ∈ cs.map (·.1)) ∧ ∀ H', Same H H' → Q (.bl true) H'
theorem scCKnown : FnScope ["counters", "parts", "names", "rows", "name", "upper", "part", "row"] ["counters", "parts"] (defScope sCKnown) := ⟨rfl, rfl, rfl, by decide +kernel, rfl, by decide +kernel, by decide +kernel⟩
theorem ok_cKnown {R : TRows K mg} {T : TPart R} (B : TBks T) : FnOk P w K mg base CX0 1 B.cKnown.f B.cKnown.fd ["counters", "parts"] (spCKnown T) := by
  refine B.cKnown.F.ok scCKnown (fun vs H Q E h => ?_) (fun cdv A outer s H vs Q E hr h => ?_)
  · obtain ⟨cu, pu, cs, bk, rfl, _⟩ := h
    rfl
  · obtain ⟨cu, pu, cs, bk, rfl, ⟨cp, ts, rfl, hcp, hcd⟩, ⟨p, ps, rfl, hp, hpd⟩, hcl, hbl, hrl, hcn, q⟩ := h
    refine ⟨_, pss_cons (ps_set (i := 2) scCKnown.nd rfl (Or.inr rfl) (pe_lc (own := [("name", 4), ("upper", 5)]) (g := gTup K 2 (gCons (gName 4) (gCons (gName 5) gNil))) (tt := tYes) (by rfl) scCKnown.nd (pi_seq (pv 0))
        (blkOk_by (N := ["counters", "parts", "names", "rows", "name", "upper", "part", "row"]) (sc := defScope sCKnown) (by decide +kernel)) (fun _ _ _ _ _ => pg_tup (by rfl) (pgs_cons (pg_name (i := 4) scCKnown.nd rfl (Or.inl rfl)) (pgs_cons (pg_name (i := 5) scCKnown.nd rfl (Or.inl rfl)) pgs_nil))) (fun _ _ _ _ _ => pts_nil) (fun _ _ _ _ _ => pv 4)))
      (pss_cons (ps_setLc2 (i := 3) (own := [("part", 6), ("row", 7)]) (vs1 := [7]) (g := gName 6) (g1 := gName 7) (tt := tYes) (by rfl) scCKnown.nd rfl rfl (sw_true rfl rfl rfl (by decide +kernel)) (pi_seq (pv 1))
        (blkOk_by (N := ["counters", "parts", "names", "rows", "name", "upper", "part", "row"]) (sc := defScope sCKnown) (by decide +kernel)) (by decide) (fun _ _ _ _ _ => pg_name (i := 6) scCKnown.nd rfl (Or.inl rfl)) (fun _ _ _ _ _ => pts_nil)
        (fun _ _ _ _ _ => (show PI _ _ _ (iTup K (tFld K (tVar 6) "rows")) from pi_tup (pe_fld (pv 6) rfl))) (fun _ _ _ _ _ => pg_name (i := 7) scCKnown.nd rfl (Or.inl rfl))
        (fun _ _ _ _ _ => pts_one (pt_cmpR (show OpR _ (compareOp .In) (rIn K false) from op_in_seq) (show PE _ _ (tFld K (tVar 7) "word") from pe_fld (pv 7) rfl) (pe_glob (v := .ref B.cw) (by rfl) B.mCW rfl) rfl)) (fun _ _ _ _ _ => pv 7))
      (pss_one (ps_ret (pe_callB (cr_all rfl) (by rfl) R.N.mAll (by decide +kernel) (pa_cons (pe_lc (own := [("row", 7)]) (g := gName 7) (tt := tYes) (by rfl) scCKnown.nd (pi_list (pv 3))
        (blkOk_by (N := ["counters", "parts", "names", "rows", "name", "upper", "part", "row"]) (sc := defScope sCKnown) (by decide +kernel)) (fun _ _ _ _ _ => pg_name (i := 7) scCKnown.nd rfl (Or.inl rfl)) (fun _ _ _ _ _ => pts_nil)
        (fun _ _ _ _ _ => pe_cmpR (show OpR _ (compareOp .In) (rIn K false) from op_in_seq) (show PE _ _ (tFld K (tVar 7) "counter") from pe_fld (pv 7) rfl) (pv 2) rfl)) pa_nil))))), ?_⟩
    have hpl : ps.length = bk.length := paired_len hpd
    have htl : ts.length = cs.length := paired_len hcd
    unfold tSeq tAsg
    refine lcw_seq (fun R r => ⟨_, rfl, r⟩) hcp (by rw [List.length_map]; omega) (out := fun i => (cs[i]?).map fun c => V.str c.1) (fun i x Hi S Y hx si hS hY => ?_) (fun D H2 hD s2 hD2 => ?_)
    · rw [List.getElem?_map] at hx
      cases hxi : ts[i]? with
      | none => rw [hxi] at hx; cases hx
      | some t =>
      rw [hxi] at hx
      cases hx
      obtain ⟨c, hc, ht⟩ := paired_at hcd hxi
      refine ⟨t, _, rfl, Same.sqt si ht, rfl, _, _, rfl, _, _, rfl, rfl, rfl, _, rfl, ?_⟩
      exact hY _ (by show (cs[i]?).map _ = _; rw [hc]; rfl) _ (Same.refl _)
    rw [List.length_map, htl, out_map] at hD2
    have hN : H2 D = some (.lst ((cs.map (·.1)).map V.str)) := by rw [hD2, List.map_map]; rfl
    have hpd2 := paired_mono (fun _ _ z => PtAt.same z s2) hpd
    have hp2 := hp.same s2
    clear hD2
    unfold gName
    dsimp only
    -- the rows that count
    have second : ∀ (σ : L2.St) (Q' : VK), σ = [some (.ref cp), some (.ref p), some (.ref D), none, none, none, none, none] → (∀ (L : Addr) (H3 : Hp) (acc : List (Addr × RowD)), Same H2 H3 → H3 L = some (.lst (acc.map fun x => V.ref x.1)) → acc.length ≤ 5000 → (∀ x ∈ acc, RowAt R H3 x.1 x.2 ∧ ∃ c, cntOf x.2 = some c ∧ c ∈ cs.map (·.1)) → Q' (.ref L) H3) →
        tLc2 (iSeq K (tVar 1)) (gName 6) tYes (iTup K (tFld K (tVar 6) "rows")) (gName 7) (tTest (tOp (rIn K false) (tFld K (tVar 7) "word") (tC (.ref B.cw)))) (tVar 7) [6, 7] [7] σ H2 Q' := by
      intro σ Q' hσ hQ
      subst hσ
      have body : ∀ L, H2 L = none → ∀ {J : It} {G : Hp → Prop}, Walk J (ps.map V.ref).length G (YAt (ps.map V.ref)) → (∀ Hi, Same H2 Hi → G Hi) → _ := fun L hL {J G} wk hG =>
        lc2_walk (K := K) (xs := ps.map V.ref) (D := L) (H := H2) (Q := Q') (vs := [6, 7]) (vs1 := [7]) (k := 6) (k1 := 7) (te1 := tFld K (tVar 6) "rows") (tt1 := tTest (tOp (rIn K false) (tFld K (tVar 7) "word") (tC (.ref B.cw)))) (te := tVar 7)
          (σ := [some (.ref cp), some (.ref p), some (.ref D), none, none, none, none, none]) wk rfl
          (fun i j Hi => Same H2 Hi ∧ ∃ acc : List (Addr × RowD), Hi L = some (.lst (acc.map fun x => V.ref x.1)) ∧ acc.length ≤ 100 * i + j ∧ (∀ x ∈ acc, RowAt R Hi x.1 x.2 ∧ ∃ c, cntOf x.2 = some c ∧ c ∈ cs.map (·.1)))
          ⟨Same.new hL, [], upd_same, Nat.le_refl _, fun x h => by cases h⟩ (fun i Hi hP => hG Hi hP.1) (fun _ => rfl)
          (fun i x Hi hx hP => ?inn) (fun Hi hP => ?fin)
      case inn =>
        obtain ⟨a, qq, ha, hq, rfl, hpt⟩ := pts_at hpd2 hx
        obtain ⟨si, _⟩ := hP
        obtain ⟨dx, tp, us, hat, htp, hus⟩ := hpt
        have hqm := List.mem_of_getElem? hq
        have hul : us.length = qq.2.length := paired_len hus
        refine ⟨tp, us.map V.ref, fun R' r => ⟨_, rfl, a, T.C, dx, _, .ref tp, rfl, si _ _ hat, T.cl, T.noR, part_rows, r⟩, fun j Hj hP => Same.sqt hP.1 htp, fun Hj hP => ?_, fun j y Hj hy hP => ⟨rfl, ?_⟩⟩
        · obtain ⟨sj, acc, h1, h2, h3⟩ := hP
          refine ⟨sj, acc, h1, ?_, h3⟩
          rw [List.length_map] at h2
          have := hrl qq hqm
          omega
        · obtain ⟨sj, acc, h1, h2, h3⟩ := hP
          obtain ⟨u, r, hu, hr2, rfl, hrow⟩ := rows_at hus hy
          have hrow2 := hrow.same sj
          obtain ⟨dw, fw, w1, w2, w3, w4⟩ := at_word R hrow2
          have hj : j < us.length := (List.getElem?_eq_some_iff.mp hu).1
          have hi : i < ps.length := (List.getElem?_eq_some_iff.mp ha).1
          refine ⟨_, rfl, u, _, dw, fw, _, rfl, w1, w2, w3, w4, B.cw, cwV, rfl, .inr (B.hCW _), rfl, rfl, ?_⟩
          refine ⟨_, rfl, ?_⟩
          show if inV (.str (rowWord r)) cwV = true then _ else _
          rw [word_cnt]
          cases hc : cntOf r with
          | none =>
            refine iteF ?_
            exact ⟨sj, acc, h1, by omega, h3⟩
          | some c =>
            refine iteT ⟨_, rfl, _, h1, ?_, Same.updn sj hL, acc ++ [(u, r)], ?_, ?_, ?_⟩
            · rw [List.length_map]
              have big : (6001 : Nat) ≤ sizeLine := by decide
              have h5 : acc.length ≤ 100 * 50 + 100 := by
                have := hrl qq hqm
                omega
              omega
            · rw [upd_same, List.map_append]
              rfl
            · rw [List.length_append]
              show acc.length + 1 ≤ _
              omega
            · intro x hx2
              have up : ∀ {u' : Addr} {r' : RowD}, RowAt R Hj u' r' → RowAt R (upd Hj L (.lst (acc.map (fun x => V.ref x.1) ++ [.ref u]))) u' r' := fun hh => by
                obtain ⟨dy, e⟩ := hh
                obtain ⟨gs, eg⟩ := insRow_ins R dy _
                exact ⟨dy, by rw [upd_ne (fun z => by rw [z, h1, eg] at e; cases e)]; exact e⟩
              rcases List.mem_append.mp hx2 with hx2 | hx2
              · exact ⟨up (h3 x hx2).1, (h3 x hx2).2⟩
              · rw [List.mem_singleton.mp hx2]
                exact ⟨up hrow2, c, hc, hcn qq hqm r (List.mem_of_getElem? hr2) c hc⟩
      case fin =>
        obtain ⟨si, acc, h1, h2, h3⟩ := hP
        rw [List.length_map] at h2
        exact hQ L Hi acc si h1 (by omega) h3
      exact hp2.elim (fun h => .inl ⟨_, rfl, p, rfl, ⟨_, h⟩, fun L hL => body L hL walk_list (fun Hi s => s.seq h)⟩) (fun h => .inr ⟨_, rfl, p, rfl, ⟨_, h⟩, fun L hL => body L hL walk_tup (fun Hi s => Same.sqt s h)⟩)
    refine second _ _ rfl (fun L H3 acc s3 hL3 hlen hall => ?_)
    unfold tRet tCB tCons
    refine lcw_list (fun R r => ⟨_, rfl, r⟩) (SqL.of hL3) (by rw [List.length_map]; omega) (out := fun i => (acc[i]?).map fun _ => V.bl true) (fun i x Hi S Y hx si hS hY => ?_) (fun D4 H4 hD4 s4 hD5 => ?_)
    · rw [List.getElem?_map] at hx
      cases hxi : acc[i]? with
      | none => rw [hxi] at hx; cases hx
      | some xr =>
      rw [hxi] at hx
      cases hx
      obtain ⟨hrow, c, hc, hcm⟩ := hall xr (List.mem_of_getElem? hxi)
      obtain ⟨dp, fp, p1, p2, p3, p4⟩ := at_counter R (hrow.same si) hc
      refine ⟨rfl, _, rfl, xr.1, _, dp, fp, _, rfl, p1, p2, p3, p4, _, rfl, D, _, rfl, .inl (SqL.of (si _ _ (s3 _ _ hN))), rfl, flat_strs, ?_⟩
      have e : inV (.str c) ((cs.map (·.1)).map V.str) = true := by rw [inV_strs]; exact decide_eq_true hcm
      show Y (.bl (inV (.str c) ((cs.map (·.1)).map V.str))) Hi
      rw [e]
      exact hY _ (by show (acc[i]?).map _ = _; rw [hxi]; rfl) _ (Same.refl _)
    · rw [List.length_map, out_map] at hD5
      refine ⟨D4, acc.map fun _ => true, rfl, SqL.of (by rw [hD5, List.map_map]; rfl), ?_⟩
      rw [all_tt]
      exact q _ ((s2.trans s3).trans s4)
end
end Pn

namespace Pn
open PySem L2 TL
section
variable {P : Program} {w : World} {K : PySem.W.Frag} {mg : Str → Option Value} {base : Heap}
/-! ### the last part -/
theorem last_at {ps : List Addr} {bk : List PartD} {F : Addr → PartD → Prop} (h : Paired F ps bk) (ne : bk ≠ []) : ∃ (a : Addr) (q : PartD) (ps' : List Addr) (bk' : List PartD), ps = ps' ++ [a] ∧ bk = bk' ++ [q] ∧ F a q ∧ lastName bk = q.1 := by
  have hl : ps.length = bk.length := paired_len h
  obtain ⟨bk', q, rfl⟩ : ∃ bi q, bk = bi ++ [q] := ⟨_, _, (List.dropLast_concat_getLast ne).symm⟩
  obtain ⟨ps', a, rfl⟩ : ∃ pi a, ps = pi ++ [a] := ⟨_, _, (List.dropLast_concat_getLast (by intro z; rw [z] at hl; simp at hl)).symm⟩
  have hli : ps'.length = bk'.length := by simpa using hl
  obtain ⟨q2, hq, hF⟩ := paired_at h (show (ps' ++ [a])[ps'.length]? = some a by simp)
  rw [hli] at hq
  obtain rfl : q = q2 := by simpa using hq
  exact ⟨a, q, ps', bk', rfl, rfl, hF, by unfold lastName; simp⟩
theorem seq_last {H : Hp} {p : Addr} {ps' : List Addr} {a : Addr} (h : Sq K H p ((ps' ++ [a]).map V.ref)) {Q : VK} (q : Q (.ref a) H) : rIx K (.ref p) (.int (-1)) H Q := by
  have e : atI ((ps' ++ [a]).map V.ref) (-1) = some (.ref a) := by rw [List.map_append]; exact atI_last _ _
  rcases h with h | h
  · exact .inl ⟨p, _, _, _, rfl, rfl, h, e, q⟩
  · exact .inr (.inl ⟨p, _, _, _, rfl, rfl, h, e, q⟩)
/-! ### names_reached -/
def spNReach {R : TRows K mg} (T : TPart R) : Sp := fun vs H Q _ => ∃ (pu : V) (bk : List PartD), vs = [pu] ∧ PtsArg T H pu bk ∧ bk ≠ [] ∧ bk.length ≤ 50 ∧ (∀ p ∈ bk, p.2.length ≤ 100) ∧ ∀ (F : Addr) (H' : Hp), H F = none → Same H H' → H' F = some (.lst ((reached bk).map V.str)) → Q (.ref F) H'
theorem scNReach : FnScope ["parts", "names", "part"] ["parts"] (defScope sNReach) := ⟨rfl, rfl, rfl, by decide +kernel, rfl, by decide +kernel, by decide +kernel⟩
theorem reach_len {l : List PartD} {ns : List Str} (h : ∀ p ∈ l, p.2.length ≤ 100) : (reach l ns).length ≤ ns.length + 100 * l.length := by
  induction l with
  | nil => exact Nat.le_refl _
  | cons p l ih =>
    show (reachStep p (reach l ns)).length ≤ _
    have q := ih fun x hx => h x (List.mem_cons_of_mem _ hx)
    have q2 := puts_len p.2
    have q3 := h p List.mem_cons_self
    unfold reachStep
    rw [List.length_cons]
    split
    · rw [List.length_append]; omega
    · omega
theorem ok_nReach {R : TRows K mg} {T : TPart R} (B : TBks T) : FnOk P w K mg base CX0 2 B.nReach.f B.nReach.fd ["parts"] (spNReach T) := by
  refine B.nReach.F.ok scNReach (fun vs H Q E h => ?_) (fun cdv A outer s H vs Q E hr h => ?_)
  · obtain ⟨pu, bk, rfl, _⟩ := h
    rfl
  · obtain ⟨pu, bk, rfl, ⟨p, ps, rfl, hp, hpd⟩, ne, hlen, hrl, q⟩ := h
    refine ⟨_, pss_cons (ps_set (i := 1) scNReach.nd rfl (Or.inl rfl) (pe_lst (pa_cons (pe_fld (pe_ix ix_seq (pv 0) (pe_un un_neg pe_int) (fun _ _ => rfl)) rfl) pa_nil)))
      (pss_cons (ps_for PassesOwn.never rfl (RT.pi_revA (by rfl) B.mRev (pv 0)) (pg_name (i := 2) scNReach.nd rfl (Or.inl rfl))
        (pss_one (ps_if (pt_cmpR op_in_seq (pe_fld (pv 2) rfl) (pv 1) rfl)
          (pss_one (ps_expr (pe_bm PySem.F.plainAttrs_list PySem.F.slot_list_extend PySem.F.type_list_extend mt_extend (pv 1) (pa_cons (pe_call (ok_nPut B) hr rfl B.nPut.m B.nPut.F.kp B.nPut.b .nil pass0 (pa_cons (pv 2) pa_nil)) pa_nil)))) pss_nil)))
      (pss_one (ps_ret (pv 1)))), ?_⟩
    obtain ⟨a, ql, ps', bk', e1, e2, hla, hln⟩ := last_at hpd ne
    have hpl : ps.length = bk.length := paired_len hpd
    have big : (10001 : Nat) ≤ sizeLine := by decide
    obtain ⟨dx, tp, us, hat, _, _⟩ := id hla
    have hp0 := hp
    rw [e1] at hp0
    refine ⟨_, rfl, _, rfl, seq_last hp0 ⟨a, T.C, dx, _, .str ql.1, rfl, hat, T.cl, T.noN, part_name, (by show 1 ≤ sizeLine; decide), fun F hF => ?_⟩⟩
    have s1 := Same.new (o := .lst [.str ql.1]) hF
    have hF1 : upd H F (.lst [.str ql.1]) F = some (.lst ([lastName bk].map V.str)) := by rw [upd_same, hln]; rfl
    have hFn := hF
    generalize upd H F (.lst [.str ql.1]) = H1 at s1 hF1 ⊢
    have start : reach (bk.drop (bk.length - 0)) [lastName bk] = [lastName bk] := by rw [Nat.sub_zero, List.drop_length]; rfl
    refine ⟨_, rfl, p, _, rfl, (hp.elim (fun h => .inl ⟨s1.seq h, RT.for_Itv (xs := ps.map V.ref) (fun i σ Hi => ∃ x2, σ = [some (.ref p), some (.ref F), x2] ∧ Same H Hi ∧ Hi F = some (.lst ((reach (bk.drop (bk.length - i)) [lastName bk]).map V.str))) ⟨_, rfl, s1, by rw [start]; exact hF1⟩ (fun i σ Hi hP => ?keep) (fun i x σ Hi hi hx hP => ?turn) (fun σ Hi hP => ?done)⟩)
      (fun h => .inr ⟨Same.sqt s1 h, RT.for_ItvT (xs := ps.map V.ref) (fun i σ Hi => ∃ x2, σ = [some (.ref p), some (.ref F), x2] ∧ Same H Hi ∧ Hi F = some (.lst ((reach (bk.drop (bk.length - i)) [lastName bk]).map V.str))) ⟨_, rfl, s1, by rw [start]; exact hF1⟩ (fun i σ Hi hP => ?keep2) (fun i x σ Hi hi hx hP => ?turn2) (fun σ Hi hP => ?done2)⟩))⟩
    case keep =>
      obtain ⟨_, _, s3, hFi⟩ := hP
      exact s3.seq h
    case keep2 =>
      obtain ⟨_, _, s3, hFi⟩ := hP
      exact Same.sqt s3 h
    case done | done2 =>
      obtain ⟨_, rfl, s3, hFi⟩ := hP
      rw [List.length_map, hpl, Nat.sub_self, List.drop_zero] at hFi
      exact ⟨_, rfl, q F _ hFn s3 hFi⟩
    case turn | turn2 =>
      obtain ⟨x2, rfl, s3, hFi⟩ := hP
      rw [List.length_map] at hi hx
      obtain ⟨a2, qq, ha2, hq, rfl, hpt⟩ := pts_at hpd hx
      have hqm := List.mem_of_getElem? hq
      have hdrop : bk.drop (bk.length - (i + 1)) = qq :: bk.drop (bk.length - i) := by
        have e4 : ps.length - 1 - i = bk.length - (i + 1) := by omega
        rw [e4] at hq
        have lt : bk.length - (i + 1) < bk.length := by omega
        rw [List.drop_eq_getElem_cons lt]
        have e5 : bk[bk.length - (i + 1)] = qq := by
          rw [List.getElem?_eq_getElem lt] at hq
          exact Option.some.inj hq
        rw [e5]
        congr 2
        omega
      have hstep : reach (bk.drop (bk.length - (i + 1))) [lastName bk] = reachStep qq (reach (bk.drop (bk.length - i)) [lastName bk]) := by rw [hdrop]; rfl
      obtain ⟨dx2, tp2, us2, hat2, _, _⟩ := hpt.same s3
      refine ⟨_, rfl, a2, T.C, dx2, _, .str qq.1, rfl, hat2, T.cl, T.noN, part_name, _, rfl, F, _, rfl, .inl (SqL.of hFi), rfl, flat_strs, _, rfl, ?_⟩
      show if inV (.str qq.1) ((reach (bk.drop (bk.length - i)) [lastName bk]).map V.str) = true then _ else _
      rw [inV_strs]
      have hlr := reach_len (l := bk.drop (bk.length - i)) (ns := [lastName bk]) (fun p hp => hrl p (List.mem_of_mem_drop hp))
      have hll : (bk.drop (bk.length - i)).length ≤ 50 := by rw [List.length_drop]; omega
      by_cases hin : qq.1 ∈ reach (bk.drop (bk.length - i)) [lastName bk]
      · refine iteTD (decide_eq_true hin) ?_
        refine ⟨_, rfl, .inl ⟨rfl, _, SqL.of hFi⟩, _, rfl, a2, qq, rfl, hpt.same s3, hrl qq hqm, fun D H4 hD s4 hD4 => ⟨F, D, _, _, rfl, rfl, s4 _ _ hFi, hD4, ?_, ?_⟩⟩
        · rw [List.length_map, List.length_map]
          have h1 := puts_len qq.2
          have h2 := hrl qq hqm
          rw [List.length_singleton] at hlr
          omega
        · refine ⟨_, rfl, Same.updn (s3.trans s4) hFn, ?_⟩
          rw [upd_same, hstep]
          unfold reachStep
          rw [if_pos hin, List.map_append]
      · refine iteFD (decide_eq_false hin) ?_
        refine ⟨_, rfl, s3, ?_⟩
        rw [hstep]
        unfold reachStep
        rw [if_neg hin]
        exact hFi
end
end Pn

namespace Pn
open PySem L2 TL
section
variable {P : Program} {w : World} {K : PySem.W.Frag} {mg : Str → Option Value} {base : Heap}
/-! ### unroll -/
def spUnr1 {R : TRows K mg} (T : TPart R) : Sp := fun vs H Q _ => ∃ (a kp : Addr) (q : PartD) (kvs : List (Key × V)) (kn : List PartD), vs = [.ref a, .ref kp] ∧ PtAt T H a q.1 q.2 ∧ H kp = some (.dK kvs) ∧ q.2.length ≤ 100 ∧ (unrollIn kn q.2).length ≤ 4000 ∧
  (∀ z, RowD.put z ∈ q.2 → ∃ (rs : List RowD) (f : Addr) (us : List Addr), kn.lookup z = some rs ∧ valV kvs (.inr z) = some (.ref f) ∧ H f = some (.lst (us.map V.ref)) ∧ RowsIn R H us rs) ∧
  ∀ (F : Addr) (H' : Hp) (us : List Addr), H F = none → Same H H' → H' F = some (.lst (us.map V.ref)) → RowsIn R H' us (unrollIn kn q.2) → Q (.ref F) H'
theorem scUnr1 : FnScope ["part", "flat", "rows", "row"] ["part", "flat"] (defScope sUnr1) := ⟨rfl, rfl, rfl, by decide +kernel, rfl, by decide +kernel, by decide +kernel⟩
theorem unroll_take {kn : List PartD} {rs : List RowD} {j : Nat} {r : RowD} (h : rs[j]? = some r) : unrollIn kn (rs.take (j + 1)) = unrollIn kn (rs.take j) ++ expand kn r := by
  unfold unrollIn
  rw [List.take_add_one, h, List.flatMap_append]
  show _ ++ List.flatMap _ [r] = _
  rw [List.flatMap_singleton]
theorem unroll_le {kn : List PartD} {rs : List RowD} {j : Nat} : (unrollIn kn (rs.take j)).length ≤ (unrollIn kn rs).length := by
  have e : unrollIn kn rs = unrollIn kn (rs.take j) ++ unrollIn kn (rs.drop j) := by
    unfold unrollIn
    rw [← List.flatMap_append, List.take_append_drop]
  rw [e, List.length_append]
  omega
theorem ok_unr1 {R : TRows K mg} {T : TPart R} (B : TBks T) : FnOk P w K mg base CX0 1 B.unroll.f B.unroll.fd ["part", "flat"] (spUnr1 T) := by
  refine B.unroll.F.ok scUnr1 (fun vs H Q E h => ?_) (fun cdv A outer s H vs Q E hr h => ?_)
  · obtain ⟨a, kp, q, kvs, kn, rfl, _⟩ := h
    rfl
  · obtain ⟨a, kp, qq, kvs, kn, rfl, ⟨dx, tp, us, ha, htp, hus⟩, hK, hl, hul, hkn, q⟩ := h
    refine ⟨_, pss_cons (ps_set (i := 2) scUnr1.nd rfl (Or.inl rfl) (pe_lst pa_nil))
      (pss_cons (ps_for PassesOwn.never rfl (pi_tup (pe_fld (pv 0) rfl)) (pg_name (i := 3) scUnr1.nd rfl (Or.inl rfl))
        (pss_one (ps_if (pt_cmpR op_eq (pe_fld (pv 3) rfl) pe_str (nomark _))
          (pss_one (ps_expr (pe_bm PySem.F.plainAttrs_list PySem.F.slot_list_extend PySem.F.type_list_extend mt_extend (pv 2) (pa_cons (pe_dget (roomU hr) (pv 1) (pe_fld (pv 3) rfl) (fun _ _ => rfl)) pa_nil))))
          (pss_one (ps_expr (pe_bm PySem.F.plainAttrs_list PySem.F.slot_list_append PySem.F.type_list_append mt_append (pv 2) (pa_cons (pv 3) pa_nil)))))))
      (pss_one (ps_ret (pv 2)))), ?_⟩
    refine ⟨Nat.zero_le _, fun F hF => ?_⟩
    have s1 := Same.new (o := .lst []) hF
    have hF1 : upd H F (.lst []) F = some (.lst (([] : List Addr).map V.ref)) := upd_same
    generalize upd H F (.lst []) = H1 at s1 hF1 ⊢
    have huq : us.length = qq.2.length := paired_len hus
    have big : (10001 : Nat) ≤ sizeLine := by decide
    unfold gName tSeq
    dsimp only
    refine forw_tup (fun R r => ⟨_, rfl, a, T.C, dx, _, .ref tp, rfl, s1 _ _ ha, T.cl, T.noR, part_rows, r⟩) (Same.sqt s1 htp) (fun j σ Hj => ∃ x3 fs, σ = [some (.ref a), some (.ref kp), some (.ref F), x3] ∧ Same H Hj ∧ Hj F = some (.lst ((fs : List Addr).map V.ref)) ∧ RowsIn R H fs (unrollIn kn (qq.2.take j))) ⟨_, [], rfl, s1, hF1, .nil⟩ (fun j σ Hj hP => by obtain ⟨_, _, _, s, _⟩ := hP; exact Same.sqt s htp) (fun j x σ Hj hx hP => ?_) (fun σ Hj hP => ?_)
    · obtain ⟨x3, fs, rfl, sj, hFj, hfs⟩ := hP
      obtain ⟨u, r, hu, hr2, rfl, hrow⟩ := rows_at hus hx
      obtain ⟨dw, fw, w1, w2, w3, w4⟩ := at_word R (hrow.same sj)
      have hfl : fs.length = _ := paired_len hfs
      have hle := unroll_le (kn := kn) (rs := qq.2) (j := j)
      have hle2 := unroll_le (kn := kn) (rs := qq.2) (j := j + 1)
      rw [unroll_take hr2, List.length_append] at hle2
      refine ⟨_, rfl, u, _, dw, fw, _, rfl, w1, w2, w3, w4, rfl, _, rfl, ?_⟩
      rw [put_word]
      cases hp : putOf r with
      | none =>
        refine iteF ?_
        have he : expand kn r = [r] := by
          cases r with
          | put y => cases hp
          | _ => rfl
        refine ⟨_, rfl, .inl ⟨rfl, _, SqL.of hFj⟩, _, rfl, F, _, _, rfl, rfl, hFj, ?_, ?_⟩
        · rw [List.length_map]; omega
        · refine ⟨_, fs ++ [u], rfl, Same.updn sj hF, by rw [upd_same, List.map_append]; rfl, ?_⟩
          rw [unroll_take hr2, he]
          exact paired_snoc hrow hfs
      | some z =>
        refine iteT ?_
        obtain rfl : r = .put z := by
          cases r with
          | put y => cases hp; rfl
          | _ => cases hp
        obtain ⟨dp, fp, p1, p2, p3, p4⟩ := at_part R (hrow.same sj)
        obtain ⟨rs, f, gs, hlk, hv, hf, hgs⟩ := hkn z (List.mem_of_getElem? hr2)
        have he : expand kn (.put z) = rs := by show (kn.lookup z).getD [] = rs; rw [hlk]; rfl
        rw [he] at hle2
        have hgl : gs.length = rs.length := paired_len hgs
        refine ⟨_, rfl, .inl ⟨rfl, _, SqL.of hFj⟩, _, rfl, _, rfl, u, _, dp, fp, _, rfl, p1, p2, p3, p4, kp, _, rfl, (by have g := DGet.k (k := Sum.inr z) (sj _ _ hK); rw [hv] at g; exact g), ?_⟩
        refine ⟨F, f, _, _, rfl, rfl, hFj, sj _ _ hf, ?_, ?_⟩
        · rw [List.length_map, List.length_map]; omega
        · refine ⟨_, fs ++ gs, rfl, Same.updn sj hF, by rw [upd_same, List.map_append], ?_⟩
          rw [unroll_take hr2, he]
          exact paired_app hfs hgs
    · obtain ⟨x3, fs, rfl, sj, hFj, hfs⟩ := hP
      rw [List.length_map, huq, List.take_length] at hfs
      exact ⟨_, rfl, q F Hj fs hF sj hFj (hfs.same sj)⟩
/-! ### unrolled_text -/
def spUText {R : TRows K mg} (T : TPart R) : Sp := fun vs H Q _ => ∃ (pu : V) (bk : List PartD), vs = [pu] ∧ PtsArg T H pu bk ∧ bk ≠ [] ∧ (bk.map (·.1)).Nodup ∧ bk.length ≤ 50 ∧ (∀ p ∈ bk, p.2.length ≤ 100) ∧ Earlier bk ∧ (∀ z rs, (z, rs) ∈ knowns bk → rs.length ≤ 4000) ∧
  ∀ (t : Addr) (H' : Hp) (us : List Addr), Same H H' → SqT K H' t (us.map V.ref) → RowsIn R H' us (unrolled bk) → Q (.ref t) H'
theorem scUText : FnScope ["parts", "names", "flat", "part"] ["parts"] (defScope sUText) := ⟨rfl, rfl, rfl, by decide +kernel, rfl, by decide +kernel, by decide +kernel⟩
theorem rowsin_dk {R : TRows K mg} {H : Hp} {k : Addr} {kvs kv2 : List (Key × V)} (hK : H k = some (.dK kvs)) {us : List Addr} {rs : List RowD} (h : RowsIn R H us rs) : RowsIn R (upd H k (.dK kv2)) us rs :=
  paired_mono (fun a r e => by
    obtain ⟨dy, e⟩ := e
    obtain ⟨gs, eg⟩ := insRow_ins R dy r
    exact ⟨dy, by rw [upd_ne (fun z => by rw [z, hK, eg] at e; cases e)]; exact e⟩) h
theorem last_reached {bk : List PartD} : lastName bk ∈ reached bk := reach_sub _ (List.mem_singleton.mpr rfl)
theorem ok_uText {R : TRows K mg} {T : TPart R} (B : TBks T) : FnOk P w K mg base CX0 3 B.uText.f B.uText.fd ["parts"] (spUText T) := by
  refine B.uText.F.ok scUText (fun vs H Q E h => ?_) (fun cdv A outer s H vs Q E hr h => ?_)
  · obtain ⟨pu, bk, rfl, _⟩ := h
    rfl
  · obtain ⟨pu, bk, rfl, harg, ne, hnd, hlen, hrl, hea, hsm, q⟩ := h
    obtain ⟨p, ps, rfl, hp, hpd⟩ := id harg
    refine ⟨_, pss_cons (ps_set (i := 1) scUText.nd rfl (Or.inl rfl) (pe_call (ok_nReach B) hr rfl B.nReach.m B.nReach.F.kp B.nReach.b .nil pass0 (pa_cons (pv 0) pa_nil)))
      (pss_cons (ps_set (i := 2) scUText.nd rfl (Or.inl rfl) pe_dnewK)
      (pss_cons (ps_for PassesOwn.never rfl (pi_seq (pv 0)) (pg_name (i := 3) scUText.nd rfl (Or.inl rfl))
        (pss_one (ps_if (pt_cmpR op_in_seq (pe_fld (pv 3) rfl) (pv 1) rfl)
          (pss_one (ps_dput (roomU hr) (pv 2) (pe_fld (pv 3) rfl) (pe_call (ok_unr1 B) (hr.mono (by decide)) rfl B.unroll.m B.unroll.F.kp B.unroll.b .nil pass0 (pa_cons (pv 3) (pa_cons (pv 2) pa_nil))) (by rfl))) pss_nil)))
      (pss_one (ps_ret (pe_callTy call_tuple_of (by rfl) T.mTup (by decide +kernel) (pa_cons (pe_dget (roomU hr) (pv 2) (pe_fld (pe_ix ix_seq (pv 0) (pe_un un_neg pe_int) (fun _ _ => rfl)) rfl) (fun _ _ => rfl)) pa_nil)))))), ?_⟩
    refine ⟨_, rfl, .ref p, bk, rfl, harg, ne, hlen, hrl, fun N H1 hN s1 hN1 => ?_⟩
    unfold gName
    dsimp only
    refine fun kp hkp => ?_
    have s2 := s1.trans (Same.new (o := .dK []) hkp)
    have hN2 := Same.new (o := .dK []) hkp _ _ hN1
    have hK0 : upd H1 kp (.dK []) kp = some (.dK []) := upd_same
    have hkH : H kp = none := s1.free hkp
    generalize upd H1 kp (.dK []) = H2 at s2 hN2 hK0 ⊢
    have hpl : ps.length = bk.length := paired_len hpd
    have big : (10001 : Nat) ≤ sizeLine := by decide
    have nN : N ≠ kp := fun z => by rw [z, hK0] at hN2; cases hN2
    unfold tSeq
    dsimp only
    refine forw_seq (fun R r => ⟨_, rfl, r⟩) hp (fun i σ Hi => ∃ x3 kvs, σ = [some (.ref p), some (.ref N), some (.ref kp), x3] ∧ Same H Hi ∧ Hi N = some (.lst ((reached bk).map V.str)) ∧ Hi kp = some (.dK kvs) ∧ kvs.length ≤ i ∧
        ∀ z rs, (knowns (bk.take i)).lookup z = some rs → z ∈ reached bk → ∃ (f : Addr) (us : List Addr), valV kvs (.inr z) = some (.ref f) ∧ Hi f = some (.lst (us.map V.ref)) ∧ RowsIn R Hi us rs)
      ⟨_, [], rfl, s2, hN2, hK0, Nat.le_refl _, fun z rs h => by cases h⟩ (fun i σ Hi hP => by obtain ⟨_, _, _, s, _⟩ := hP; exact s) (fun i x σ Hi hx hP => ?_) (fun σ Hi hP => ?_)
    · obtain ⟨x3, kvs, rfl, si, hNi, hKi, hkl, hkn⟩ := hP
      obtain ⟨a, qq, ha, hq, rfl, hpt⟩ := pts_at hpd hx
      have hqm := List.mem_of_getElem? hq
      have hi : i < bk.length := (List.getElem?_eq_some_iff.mp hq).1
      obtain ⟨dx, tp, us, hat, _, _⟩ := hpt.same si
      have hkt : knowns (bk.take (i + 1)) = (qq.1, unrollIn (knowns (bk.take i)) qq.2) :: knowns (bk.take i) := by
        rw [List.take_add_one, hq]
        exact knowns_snoc _ _
      refine ⟨_, rfl, a, T.C, dx, _, .str qq.1, rfl, hat, T.cl, T.noN, part_name, _, rfl, N, _, rfl, .inl (SqL.of hNi), rfl, flat_strs, _, rfl, ?_⟩
      show if inV (.str qq.1) ((reached bk).map V.str) = true then _ else _
      rw [inV_strs]
      by_cases hin : qq.1 ∈ reached bk
      · refine iteTD (decide_eq_true hin) ?_
        refine ⟨_, rfl, _, rfl, a, kp, qq, kvs, knowns (bk.take i), rfl, hpt.same si, hKi, hrl qq hqm, hsm _ _ (knowns_mono _ (knowns_in hq)), fun z hz => ?_, fun F H4 gs hF4 s4 hF5 hgs => ?_⟩
        · have hzm := hea i qq hq z hz
          have hzk : z ∈ (knowns (bk.take i)).map (·.1) := by rw [knowns_len]; exact List.mem_reverse.mpr hzm
          obtain ⟨rs, hlk, _⟩ := lookup_of_mem hzk
          have hzr : z ∈ reached bk := reach_closed (no_later hnd hea) qq hqm hin z hz
          obtain ⟨f, us, h1, h2, h3⟩ := hkn z rs hlk hzr
          exact ⟨rs, f, us, hlk, h1, h2, h3⟩
        · have nF : F ≠ kp := fun z => by rw [z, hKi] at hF4; cases hF4
          have hK4 := s4 _ _ hKi
          refine ⟨_, rfl, _, rfl, a, T.C, dx, _, .str qq.1, rfl, s4 _ _ hat, T.cl, T.noN, part_name, kp, _, rfl, DPut.k (k := Sum.inr qq.1) hK4 (by omega), ?_⟩
          refine ⟨_, putK kvs (.inr qq.1) (.ref F), rfl, Same.updn (si.trans s4) hkH, ?_, upd_same, ?_, ?_⟩
          · rw [upd_ne nN]
            exact s4 _ _ hNi
          · have := putK_len kvs (Sum.inr qq.1 : Key) (V.ref F)
            omega
          · intro z rs hz hzr
            rw [hkt, List.lookup_cons] at hz
            rw [valV_put]
            by_cases e : z = qq.1
            · subst e
              rw [beq_self_eq_true] at hz
              have hz2 := Option.some.inj hz
              subst hz2
              rw [if_pos rfl]
              exact ⟨F, gs, rfl, by rw [upd_ne nF]; exact hF5, rowsin_dk hK4 hgs⟩
            · rw [show (z == qq.1) = false from by simpa using e] at hz
              rw [if_neg (fun q => e (by injection q))]
              obtain ⟨f, us2, h1, h2, h3⟩ := hkn z rs hz hzr
              exact ⟨f, us2, h1, by rw [upd_ne (fun x => by rw [x, hKi] at h2; cases h2)]; exact s4 _ _ h2, rowsin_dk hK4 (h3.same s4)⟩
      · refine iteFD (decide_eq_false hin) ?_
        refine ⟨_, kvs, rfl, si, hNi, hKi, by omega, fun z rs hz hzr => ?_⟩
        rw [hkt, List.lookup_cons] at hz
        rw [show (z == qq.1) = false from by simpa using fun e : z = qq.1 => hin (e ▸ hzr)] at hz
        exact hkn z rs hz hzr
    · obtain ⟨x3, kvs, rfl, si, hNi, hKi, hkl, hkn⟩ := hP
      rw [List.length_map, hpl, List.take_length] at hkn
      obtain ⟨a, ql, ps', bk', e1, e2, hla, hln⟩ := last_at hpd ne
      have hp0 := hp.same si
      rw [e1] at hp0
      obtain ⟨dx, tp, us0, hat, _, _⟩ := hla.same si
      have hk2 : knowns bk = (ql.1, unrollIn (knowns bk') ql.2) :: knowns bk' := by rw [e2]; exact knowns_snoc _ _
      have hu : unrolled bk = unrollIn (knowns bk') ql.2 := by
        unfold unrolled
        rw [hk2]
        rfl
      obtain ⟨f, us, h1, h2, h3⟩ := hkn ql.1 (unrollIn (knowns bk') ql.2) (by rw [hk2]; simp) (by rw [← hln]; exact last_reached)
      refine ⟨_, rfl, _, rfl, _, rfl, seq_last hp0 ⟨a, T.C, dx, _, .str ql.1, rfl, hat, T.cl, T.noN, part_name, kp, _, rfl, (by have g := DGet.k (k := Sum.inr ql.1) hKi; rw [h1] at g; exact g), ?_⟩⟩
      refine ⟨f, us.map V.ref, rfl, .inl ⟨SqL.of h2, fun l hl2 => ?_⟩⟩
      have s9 := Same.new (o := .tup (us.map V.ref)) hl2
      exact q l _ us (si.trans s9) (SqT.of upd_same) (by rw [hu]; exact h3.same s9)
end
end Pn

namespace Pn
open PySem L2
/-! ### tuple(list), of which it is known that it keeps no own attributes, and dict(..) of such a tuple of pairs -/
def TupX (H : Hp) (a : Addr) (xs : List V) : Prop := ∃ o : Obj, o.dict = none ∧ H a = some (.frz o (.tup xs))
theorem TupX.same {H H' : Hp} {a : Addr} {xs : List V} (h : TupX H a xs) (s : Same H H') : TupX H' a xs := by
  obtain ⟨o, d, e⟩ := h
  exact ⟨o, d, s _ _ e⟩
theorem TupX.sqt {K : PySem.W.Frag} {H : Hp} {a : Addr} {xs : List V} (h : TupX H a xs) : SqT K H a xs := by
  obtain ⟨o, _, e⟩ := h
  exact .inl (.inr ⟨o, e⟩)
def rTupX (K : PySem.W.Frag) : List V → Hp → VK → Prop := fun xs H Q => ∃ (p : Addr) (ys : List V), xs = [.ref p] ∧ SqL K H p ys ∧ ∀ (l : Addr) (H' : Hp), H l = none → Same H H' → Mo H H' → (∀ b, b ≠ l → H' b = H b) → TupX H' l ys → Q (.ref l) H'
theorem cr_tupX {X : Cx} : CallR X (.type "tuple") (rTupX X.K) := by
  rintro pins s σ H xs us Q I r ⟨p, ys, rfl, hq, q⟩
  obtain ⟨u, rfl, rx⟩ := vals1 r
  cases rx
  obtain ⟨its, rv, pl, hz⟩ := I.list hq
  have hlen := rv.length
  refine call_tuple_list pl.isList (fun h' kp => ?_) (by simp only [List.size_toArray] <;> omega)
  have I1 : Inv X pins σ H { s with heap := h' } := I.kept (t' := s.toks) kp
  have fr := I1.hok.fresh (Nat.le_refl _)
  let o : Obj := { cls := .type "tuple", data := .seq its.toArray }
  have I2 : Inv X pins σ (upd H h'.objs.size (.frz o (.tup ys))) { s with heap := h'.push o } :=
    I1.laid (t' := s.toks) (fun b ob e => Heap.get?_push_of_some _ e) (Nat.le_refl _) ⟨Heap.get?_push_size _ rfl, hz, its, rv, PyProof.Rows.IsTup.new _ _⟩
  exact ⟨.ref h'.objs.size, _, I2, rfl, q _ _ fr (Same.new fr) Mo.upd (fun b nb => upd_ne nb) ⟨o, rfl, upd_same⟩⟩
/-- .. or of such a tuple: the very same -/
def rTupX2 (K : PySem.W.Frag) : List V → Hp → VK → Prop := fun xs H Q => ∃ (p : Addr) (ys : List V), xs = [.ref p] ∧ (SqL K H p ys ∨ TupX H p ys) ∧ ∀ (l : Addr) (H' : Hp), Same H H' → TupX H' l ys → Q (.ref l) H'
theorem cr_tupX2 {X : Cx} : CallR X (.type "tuple") (rTupX2 X.K) := by
  rintro pins s σ H xs us Q I r ⟨p, ys, rfl, hq | hq, q⟩
  · exact cr_tupX pins s σ H _ us Q I r ⟨p, ys, rfl, hq, fun l H' _ s' _ _ h => q l H' s' h⟩
  · exact call_tuple_of pins s σ H _ us Q I r ⟨p, ys, rfl, .inr ⟨hq.sqt, q p H (Same.refl _) hq⟩⟩
theorem vps_of {X : Cx} {pins : List (Addr × Obj)} {σ : L2.St} {H : Hp} {s : Shared} (I : Inv X pins σ H s) {ps : List Addr} {kvs : List (Key × V)} (h : Paired (fun p kv => SqT X.K H p [kV kv.1, kv.2]) ps kvs) :
    ∃ (prs : List (Key × Value)) (vps : List (Value × Value)), KV kvs prs ∧ prs.length = ps.length ∧ vps.length = ps.length ∧
      ∀ (j : Nat) (k v : Value), vps[j]? = some (k, v) → ∃ (b : Addr) (kk : Key), ps[j]? = some b ∧ s.heap.IsTuple b #[k, v] ∧ prs[j]? = some (kk, v) ∧ keyIs kk k = true := by
  induction h with
  | nil => exact ⟨[], [], .nil, rfl, rfl, fun j k v e => by simp at e⟩
  | cons a b ih =>
    rename_i p kv l m
    obtain ⟨prs, vps, h1, h2, h3, h4⟩ := ih
    obtain ⟨its, rv, ht, _⟩ := I.tuple a
    obtain ⟨u, y, rfl, ru, ry⟩ := vals2 rv
    refine ⟨(kv.1, y) :: prs, (u, y) :: vps, .cons ⟨rfl, ry⟩ h1, by simp [h2], by simp [h3], fun j k v e => ?_⟩
    cases j with
    | zero =>
      obtain ⟨rfl, rfl⟩ : u = k ∧ y = v := by simpa using e
      exact ⟨p, kv.1, rfl, ht, rfl, kV_is (P := X.prog) (w := X.w) ru⟩
    | succ j =>
      obtain ⟨c, kk, g1, g2, g3, g4⟩ := h4 j k v (by simpa using e)
      exact ⟨c, kk, by simpa using g1, g2, by simpa using g3, g4⟩
def rDictX (K : PySem.W.Frag) : List V → Hp → VK → Prop := fun xs H Q => ∃ (a : Addr) (ps : List Addr) (kvs : List (Key × V)), xs = [.ref a] ∧ TupX H a (ps.map V.ref) ∧ Paired (fun p kv => SqT K H p [kV kv.1, kv.2]) ps kvs ∧
  ∀ p, H p = none → Q (.ref p) (upd H p (.dK (mergeK [] kvs)))
theorem cr_dictX {X : Cx} (hc : X.calm = true) : CallR X (.type "dict") (rDictX X.K) := by
  rintro pins s σ H xs us Q I r ⟨a, ps, kvs, rfl, ⟨o, hod, ha⟩, hp, q⟩
  obtain ⟨u, rfl, rx⟩ := vals1 r
  cases rx
  obtain ⟨ho, hz, its, rv, o2, ho2, hcl, n, hdat⟩ := I.hok a _ ha
  obtain rfl : o = o2 := Option.some.inj (ho.symm.trans ho2)
  have ei := refs_at rv
  subst ei
  rw [List.length_map] at hz
  obtain ⟨prs, vps, rel, hl, hv, hat⟩ := vps_of I hp
  refine PySem.call_dict_pairs (knd := mixKind X.prog X.w) (kvs := prs) (PairArg.tuple a (ps.map Value.ref).toArray (fun j => (ps[j]?).getD 0) vps) (I.ok.hd hc) ⟨⟨o, n, ho, hcl, hod, hdat⟩, by simp [hv], fun j k v e => ?_⟩ ⟨by rw [hl, hv], fun i key v e => ?_⟩ (by rw [hv]; exact hz) fun h' tk hd' k => ?_
  · obtain ⟨b, kk, g1, g2, _⟩ := hat j k v e
    exact ⟨by simp [g1], .inl (by show s.heap.IsTuple ((ps[j]?).getD 0) _; rw [g1]; exact g2)⟩
  · obtain ⟨b, kk, _, _, g3, g4⟩ := hat i key v e
    exact ⟨kk, g3, g4⟩
  · have hm : (s.heap.objs.size == sysModules) = false := beq_eq_false_iff_ne.mpr (Nat.ne_of_gt I.big)
    have hln : (mergeK [] kvs).length ≤ sizeLine := by
      have h1 := length_mergeK kvs []
      have h2 := rel.length
      rw [List.length_nil] at h1
      omega
    exact ⟨.ref s.heap.objs.size, _, I.laid (t' := tk) (fun b ob e => k b ob (by simp) e) (Nat.le_refl _) (show ObjOk X.prog X.w _ _ _ (.dK (mergeK [] kvs)) from ⟨hln, hm, merged [] prs, KV.merge rel .nil, hd'⟩), rfl, q _ (I.hok.fresh (Nat.le_refl _))⟩
/-! ### what such a dict holds -/
def csKv (cs : List (Str × Str)) : List (Key × V) := cs.map fun c => (Sum.inr c.1, V.str c.2)
theorem merge_out : ∀ {cs : List (Str × Str)} {kv : List (Key × V)} {z : Str}, z ∉ cs.map (·.1) → valV (mergeK kv (csKv cs)) (.inr z) = valV kv (.inr z)
  | [], kv, z, _ => rfl
  | c :: cs, kv, z, h => by
    have h1 : z ≠ c.1 := fun e => h (by rw [e]; exact List.mem_cons_self)
    have h2 : z ∉ cs.map (·.1) := fun e => h (List.mem_cons_of_mem _ e)
    show valV (mergeK (putK kv (.inr c.1) (.str c.2)) (csKv cs)) (.inr z) = _
    rw [merge_out h2, valV_put, if_neg (fun e => h1 (by injection e))]
theorem merge_in : ∀ {cs : List (Str × Str)} {kv : List (Key × V)} {c : Str × Str}, (cs.map (·.1)).Nodup → c ∈ cs → valV (mergeK kv (csKv cs)) (.inr c.1) = some (.str c.2)
  | [], kv, c, _, h => by cases h
  | d :: cs, kv, c, nd, h => by
    rw [List.map_cons, List.nodup_cons] at nd
    show valV (mergeK (putK kv (.inr d.1) (.str d.2)) (csKv cs)) (.inr c.1) = _
    rcases List.mem_cons.mp h with rfl | h
    · rw [merge_out nd.1, valV_put, if_pos rfl]
    · exact merge_in nd.2 h
end Pn

namespace Pn
open PySem L2 TL
abbrev sBInit : Stmt := inClass (top 53) 0
abbrev sBNames : Stmt := inClass (top 53) 2
abbrev sBTops : Stmt := inClass (top 53) 3
abbrev sBUnr : Stmt := inClass (top 53) 4
abbrev sBChain : Stmt := inClass (top 53) 7
/-! ### chains -/
inductive Climb (cs : List (Str × Str)) : Str → List Str → Prop
  | top {z : Str} : (z, ("" : Str)) ∈ cs → Climb cs z [z]
  | up {z u : Str} {l : List Str} : (z, u) ∈ cs → u ≠ "" → Climb cs u l → Climb cs z (z :: l)
theorem Climb.head {cs : List (Str × Str)} {z : Str} {l : List Str} (h : Climb cs z l) : ∃ r, l = z :: r := by
  cases h with
  | top _ => exact ⟨[], rfl⟩
  | up _ _ _ => exact ⟨_, rfl⟩
theorem climbs {cs : List (Str × Str)} (t : TreeOk cs) : ∀ (i : Nat) (c : Str × Str), cs[i]? = some c → ∃ l, Climb cs c.1 l ∧ l.length ≤ i + 1 := by
  intro i
  induction i using Nat.strongRecOn with
  | ind i ih =>
    intro c hc
    have hm : (c.1, c.2) ∈ cs := List.mem_of_getElem? hc
    by_cases e : c.2 = ""
    · exact ⟨[c.1], .top (by rw [e] at hm; exact hm), by simp⟩
    · obtain ⟨d, hd, hde⟩ := List.mem_map.mp ((t i c hc).resolve_left e)
      obtain ⟨j, hj⟩ := List.getElem?_of_mem hd
      have hji : j < i := by
        have h1 := (List.getElem?_eq_some_iff.mp hj).1
        rw [List.length_take] at h1
        omega
      rw [List.getElem?_take_of_lt hji] at hj
      obtain ⟨l, h1, h2⟩ := ih j hji d hj
      exact ⟨c.1 :: l, .up hm e (by rw [← hde]; exact h1), by simp; omega⟩
def opens (rs : List RowD) : List Str := rs.filterMap fun r => match r with | .opn z => some z | _ => none
def opnOf : RowD → Option Str
  | .opn z => some z
  | _ => none
theorem opens_eq (rs : List RowD) : opens rs = rs.filterMap opnOf := rfl
theorem opn_word {r : RowD} : decide (V.str (rowWord r) = V.str "open") = (opnOf r).isSome := by
  cases r <;> first | exact (by decide +kernel : decide (V.str "note" = V.str "open") = false) | exact (by decide +kernel : decide (V.str "skip" = V.str "open") = false) | exact (by decide +kernel : decide (V.str "set" = V.str "open") = false) | exact (by decide +kernel : decide (V.str "keep" = V.str "open") = false) | exact (by decide +kernel : decide (V.str "back" = V.str "open") = false) | exact (by decide +kernel : decide (V.str "ref" = V.str "open") = false) | exact (by decide +kernel : decide (V.str "put" = V.str "open") = false) | exact (by decide +kernel : decide (V.str "open" = V.str "open") = true)
def topOf (c : Str × Str) : Option Str := if c.2 = "" then some c.1 else none
def topsOf (cs : List (Str × Str)) : List Str := cs.filterMap topOf
section
variable {P : Program} {w : World} {K : PySem.W.Frag} {mg : Str → Option Value} {base : Heap}
def rTupS (K : PySem.W.Frag) : List V → Hp → VK → Prop := fun xs H Q => ∃ (p : Addr) (ys : List V), xs = [.ref p] ∧ Sq K H p ys ∧ ∀ (t : Addr) (H' : Hp), Same H H' → SqT K H' t ys → Q (.ref t) H'
theorem cr_tupS {X : Cx} : CallR X (.type "tuple") (rTupS X.K) := by
  intro pins s σ H xs us Q I r h
  obtain ⟨p, ys, rfl, hp, q⟩ := h
  exact call_tuple_of pins s σ H _ us Q I r ⟨p, ys, rfl, hp.elim (fun h => .inl ⟨h, fun l hl => q l _ (Same.new hl) (SqT.of upd_same)⟩) (fun h => .inr ⟨h, q p H (Same.refl _) h⟩)⟩
structure TPr (K : PySem.W.Frag) (C : Addr) (nm qual : Str) (st : Stmt) : Type where
  p : Addr
  g : Addr
  fd : FuncData
  F : Fun K nm qual st g fd
  b : Binds K fd ["self"] []
  P : PropOf K C nm p g
structure TBk {K : PySem.W.Frag} {mg : Str → Option Value} {R : TRows K mg} (T : TPart R) : Type extends TBks T where
  mSort : mg "sorted" = none
  mDict : mg "dict" = none
  C : Addr
  mC : mg "Book" = some (.ref C)
  fI : Addr
  fdI : FuncData
  FI : Fun K "__init__" "Book.__init__" sBInit fI fdI
  bI : Binds K fdI ["self", "counters", "parts"] []
  M : Mk K C fI
  cl : Cls K C
  noC : NoAttr K C "counters"
  noP : NoAttr K C "parts"
  noF : NoAttr K C "flat"
  names : TPr K C "names" "Book.names" sBNames
  tops : TPr K C "tops" "Book.tops" sBTops
  unr : TPr K C "unrolled" "Book.unrolled" sBUnr
  chain : TMeth K C "chain" "Book.chain" sBChain ["self", "name"]
def insBook (C dx : Addr) (c p f : V) : HO := .ins C dx (putF "flat" f (putF "parts" p (putF "counters" c [])))
theorem book_c {c p f : V} : (putF "flat" f (putF "parts" p (putF "counters" c ([] : List (Str × V))))).lookup ("counters" : Str) = some c := by
  rw [lookup_putF, if_neg (by decide +kernel), lookup_putF, if_neg (by decide +kernel), lookup_putF, if_pos rfl]
theorem book_p {c p f : V} : (putF "flat" f (putF "parts" p (putF "counters" c ([] : List (Str × V))))).lookup ("parts" : Str) = some p := by
  rw [lookup_putF, if_neg (by decide +kernel), lookup_putF, if_pos rfl]
theorem book_f {c p f : V} : (putF "flat" f (putF "parts" p (putF "counters" c ([] : List (Str × V))))).lookup ("flat" : Str) = some f := by
  rw [lookup_putF, if_pos rfl]
def CsIn (K : PySem.W.Frag) (H : Hp) (ts : List Addr) (cs : List (Str × Str)) : Prop := Paired (fun t (c : Str × Str) => SqT K H t [.str c.1, .str c.2]) ts cs
theorem CsIn.same {H H' : Hp} {ts : List Addr} {cs : List (Str × Str)} (h : CsIn K H ts cs) (s : Same H H') : CsIn K H' ts cs := paired_mono (fun _ _ z => Same.sqt s z) h
def PtsIn {R : TRows K mg} (T : TPart R) (H : Hp) (ps : List Addr) (bk : List PartD) : Prop := Paired (fun a (q : PartD) => PtAt T H a q.1 q.2) ps bk
theorem PtsIn.same {R : TRows K mg} {T : TPart R} {H H' : Hp} {ps : List Addr} {bk : List PartD} (h : PtsIn T H ps bk) (s : Same H H') : PtsIn T H' ps bk := paired_mono (fun _ _ z => PtAt.same z s) h
def BookAt {R : TRows K mg} {T : TPart R} (B : TBk T) (H : Hp) (a : Addr) (cs : List (Str × Str)) (bk : List PartD) : Prop :=
  ∃ dx ct pt ft ts ps us, H a = some (insBook B.C dx (.ref ct) (.ref pt) (.ref ft)) ∧ (TupX H ct (ts.map V.ref) ∧ CsIn K H ts cs) ∧ (SqT K H pt (ps.map V.ref) ∧ PtsIn T H ps bk) ∧ SqT K H ft (us.map V.ref) ∧ RowsIn R H us (unrolled bk)
theorem BookAt.same {R : TRows K mg} {T : TPart R} {B : TBk T} {H H' : Hp} {a : Addr} {cs : List (Str × Str)} {bk : List PartD} (h : BookAt B H a cs bk) (s : Same H H') : BookAt B H' a cs bk := by
  obtain ⟨dx, ct, pt, ft, ts, ps, us, h1, ⟨h2, h3⟩, ⟨h4, h5⟩, h6, h7⟩ := h
  exact ⟨dx, ct, pt, ft, ts, ps, us, s _ _ h1, ⟨h2.same s, h3.same s⟩, ⟨Same.sqt s h4, h5.same s⟩, Same.sqt s h6, h7.same s⟩
/-! ### Book(counters, parts) -/
theorem rows_ne {R : TRows K mg} {H : Hp} {us : List Addr} {rs : List RowD} {x C dx : Addr} (h : RowsIn R H us rs) (hx : H x = some (.ins C dx [])) : ∀ u ∈ us, u ≠ x := by
  intro u hu e
  obtain ⟨i, hi⟩ := List.getElem?_of_mem hu
  obtain ⟨r, _, hr⟩ := paired_at h hi
  obtain ⟨dw, fw, w1, _, _, w4⟩ := at_word R hr
  rw [e, hx] at w1
  cases w1
  cases w4
theorem rows_upd {R : TRows K mg} {H : Hp} {us : List Addr} {rs : List RowD} {x : Addr} {o : HO} (h : RowsIn R H us rs) (n : ∀ u ∈ us, u ≠ x) : RowsIn R (upd H x o) us rs := by
  induction h with
  | nil => exact .nil
  | cons a b ih =>
    refine .cons ?_ (ih fun u hu => n u (List.mem_cons_of_mem _ hu))
    obtain ⟨dy, e⟩ := a
    exact ⟨dy, by rw [upd_ne (n _ List.mem_cons_self)]; exact e⟩
theorem tupx_ins {H : Hp} {x C dx a : Addr} {fs : List (Str × V)} {o : HO} {xs : List V} (hx : H x = some (.ins C dx fs)) (h : TupX H a xs) : TupX (upd H x o) a xs := by
  obtain ⟨u, d, e⟩ := h
  exact ⟨u, d, by rw [upd_ne (fun z => by rw [z, hx] at e; cases e)]; exact e⟩
def spBInit {R : TRows K mg} {T : TPart R} (B : TBk T) : Sp := fun vs H Q _ => ∃ (x dx cp : Addr) (pu : V) (ts : List Addr) (cs : List (Str × Str)) (bk : List PartD) (Hb : Hp), vs = [.ref x, .ref cp, pu] ∧ H x = some (.ins B.C dx []) ∧ Hb x = none ∧ Same Hb H ∧
  (SqL K Hb cp (ts.map V.ref) ∨ TupX Hb cp (ts.map V.ref)) ∧ CsIn K Hb ts cs ∧ PtsArg T Hb pu bk ∧ BookV cs bk ∧ ∀ H', Same Hb H' → BookAt B H' x cs bk → Q .non H'
theorem scBInit : FnScope ["self", "counters", "parts", "flat"] ["self", "counters", "parts"] (defScope sBInit) := ⟨rfl, rfl, rfl, by decide +kernel, rfl, by decide +kernel, by decide +kernel⟩
theorem unrolled_small {cs : List (Str × Str)} {bk : List PartD} (ok : BookV cs bk) : (unrolled bk).length ≤ 4000 := by
  unfold unrolled
  cases h : (knowns bk).head? with
  | none => exact Nat.zero_le _
  | some x =>
    cases hk : knowns bk with
    | nil => rw [hk] at h; cases h
    | cons y l =>
      rw [hk] at h
      obtain rfl : y = x := Option.some.inj h
      exact ok.small y.1 y.2 (by rw [hk]; exact List.mem_cons_self)
theorem ok_bInit {R : TRows K mg} {T : TPart R} (B : TBk T) : FnOk P w K mg base CX0 4 B.fI B.fdI ["self", "counters", "parts"] (spBInit B) := by
  refine B.FI.ok scBInit (fun vs H Q E h => ?_) (fun cdv A outer s H vs Q E hr h => ?_)
  · obtain ⟨x, dx, cp, pu, ts, cs, bk, Hb, rfl, _⟩ := h
    rfl
  · obtain ⟨x, dx, cp, pu, ts, cs, bk, Hb, rfl, hx, hxb, sb, hcp, hcd, hP, ok, q⟩ := h
    refine ⟨_, pss_cons (ps_if (pt_not (pt_val (pe_call (ok_areC B.toTBks) (hr.mono (by decide)) rfl B.areC.m B.areC.F.kp B.areC.b .nil pass0 (pa_cons (pv 1) pa_nil)))) pss_never pss_nil)
      (pss_cons (ps_if (pt_not (pt_val (pe_call (ok_areP B.toTBks) (hr.mono (by decide)) rfl B.areP.m B.areP.F.kp B.areP.b .nil pass0 (pa_cons (pv 2) pa_nil)))) pss_never pss_nil)
      (pss_cons (ps_if (pt_not (pt_val (pe_call (ok_cKnown B.toTBks) (hr.mono (by decide)) rfl B.cKnown.m B.cKnown.F.kp B.cKnown.b .nil pass0 (pa_cons (pv 1) (pa_cons (pv 2) pa_nil))))) pss_never pss_nil)
      (pss_cons (ps_if (pt_not (pt_val (pe_call (ok_pEarly B.toTBks) (hr.mono (by decide)) rfl B.pEarly.m B.pEarly.F.kp B.pEarly.b .nil pass0 (pa_cons (pv 2) pa_nil)))) pss_never pss_nil)
      (pss_cons (ps_set (i := 3) scBInit.nd rfl (Or.inl rfl) (pe_call (ok_uText B.toTBks) hr rfl B.uText.m B.uText.F.kp B.uText.b .nil pass0 (pa_cons (pv 2) pa_nil)))
      (pss_cons (ps_if (pt_not (pt_val (pe_call (ok_refsK B.toTBks) (hr.mono (by decide)) rfl B.refsK.m B.refsK.F.kp B.refsK.b .nil pass0 (pa_cons (pv 3) pa_nil)))) pss_never pss_nil)
      (pss_cons (ps_fld (pv 0) (pe_callTy cr_tupX2 (by rfl) T.mTup (by decide +kernel) (pa_cons (pv 1) pa_nil)) rfl)
      (pss_cons (ps_fld (pv 0) (pe_callTy cr_tupS (by rfl) T.mTup (by decide +kernel) (pa_cons (pv 2) pa_nil)) rfl)
      (pss_one (ps_fld (pv 0) (pv 3) rfl))))))))), ?_⟩
    have hC : CsArg K Hb (.ref cp) cs := ⟨cp, ts, rfl, hcp.imp id TupX.sqt, hcd⟩
    have hrl : ∀ p ∈ bk, p.2.length ≤ 100 := fun p hp => (ok.rows p hp).2.1
    refine ⟨_, rfl, .ref cp, cs, rfl, hC.same sb, ok.c, fun H1 s1 => ⟨true, rfl, iteF ?_⟩⟩
    have b1 := sb.trans s1
    refine ⟨_, rfl, pu, bk, rfl, hP.same b1, ok.b0, ok.nd, ok.len, fun H2 s2 => ⟨true, rfl, iteF ?_⟩⟩
    have b2 := b1.trans s2
    refine ⟨_, rfl, _, rfl, .ref cp, pu, cs, bk, rfl, hC.same b2, hP.same b2, ok.c.len, ok.len, hrl, ok.cnt, fun H3 s3 => ⟨true, rfl, iteF ?_⟩⟩
    have b3 := b2.trans s3
    refine ⟨_, rfl, pu, bk, rfl, hP.same b3, ok.puts, ok.len, hrl, fun H4 s4 => ⟨true, rfl, iteF ?_⟩⟩
    have b4 := b3.trans s4
    refine ⟨_, rfl, pu, bk, rfl, hP.same b4, ok.b0, ok.nd, ok.len, hrl, ok.puts, ok.small, fun ft H5 us s5 hft hus => ?_⟩
    have b5 := b4.trans s5
    unfold gName
    dsimp only
    refine ⟨_, rfl, ft, us, unrolled bk, rfl, .inr hft, hus, unrolled_small ok, ok.refs, fun H6 s6 => ⟨true, rfl, iteF ?_⟩⟩
    have b6 := b5.trans s6
    have hx6 : H6 x = some (.ins B.C dx []) := s6 _ _ (s5 _ _ (s4 _ _ (s3 _ _ (s2 _ _ (s1 _ _ hx)))))
    have hft6 := Same.sqt s6 hft
    have hus6 := hus.same s6
    have hne := rows_ne hus6 hx6
    refine ⟨_, rfl, cp, ts.map V.ref, rfl, hcp.imp b6.seq (fun h => h.same b6), fun ct H7 s7 hX => ?_⟩
    have b7 := b6.trans s7
    have hx7 := s7 _ _ hx6
    refine ⟨_, rfl, x, B.C, dx, [], rfl, hx7, B.cl, B.noC, (by show 0 < 1000; decide), ?_⟩
    have b8 : Same Hb (upd H7 x (.ins B.C dx (putF "counters" (.ref ct) []))) := Same.updn b7 hxb
    have hX8 := tupx_ins (o := .ins B.C dx (putF "counters" (.ref ct) [])) hx7 hX
    have hft8 := sqt_ins (o := .ins B.C dx (putF "counters" (.ref ct) [])) hx7 (Same.sqt s7 hft6)
    have hus8 := rows_upd (o := .ins B.C dx (putF "counters" (.ref ct) [])) (hus6.same s7) hne
    have hx8 : upd H7 x (.ins B.C dx (putF "counters" (.ref ct) [])) x = some (.ins B.C dx (putF "counters" (.ref ct) [])) := upd_same
    generalize upd H7 x (.ins B.C dx (putF "counters" (.ref ct) [])) = H8 at b8 hX8 hft8 hus8 hx8 ⊢
    obtain ⟨p, ps, rfl, hp, hpd⟩ := hP
    refine ⟨_, rfl, p, ps.map V.ref, rfl, hp.same b8, fun pt H9 s9 hpt => ?_⟩
    have hx9 := s9 _ _ hx8
    refine ⟨_, rfl, x, B.C, dx, _, rfl, hx9, B.cl, B.noP, (by show 1 < 1000; decide), ?_⟩
    have b10 : Same Hb (upd H9 x (.ins B.C dx (putF "parts" (.ref pt) (putF "counters" (.ref ct) [])))) := Same.updn (b8.trans s9) hxb
    have hX10 := tupx_ins (o := .ins B.C dx (putF "parts" (.ref pt) (putF "counters" (.ref ct) []))) hx9 (hX8.same s9)
    have hft10 := sqt_ins (o := .ins B.C dx (putF "parts" (.ref pt) (putF "counters" (.ref ct) []))) hx9 (Same.sqt s9 hft8)
    have hpt10 := sqt_ins (o := .ins B.C dx (putF "parts" (.ref pt) (putF "counters" (.ref ct) []))) hx9 hpt
    have hus10 := rows_upd (o := .ins B.C dx (putF "parts" (.ref pt) (putF "counters" (.ref ct) []))) (hus8.same s9) hne
    have hx10 : upd H9 x (.ins B.C dx (putF "parts" (.ref pt) (putF "counters" (.ref ct) []))) x = some (.ins B.C dx (putF "parts" (.ref pt) (putF "counters" (.ref ct) []))) := upd_same
    generalize upd H9 x (.ins B.C dx (putF "parts" (.ref pt) (putF "counters" (.ref ct) []))) = H10 at b10 hX10 hft10 hpt10 hus10 hx10 ⊢
    refine ⟨_, rfl, _, rfl, x, B.C, dx, _, rfl, hx10, B.cl, B.noF, (by show 2 < 1000; decide), ?_⟩
    have b11 : Same Hb (upd H10 x (insBook B.C dx (.ref ct) (.ref pt) (.ref ft))) := Same.updn b10 hxb
    exact q _ b11 ⟨dx, ct, pt, ft, ts, ps, us, upd_same, ⟨tupx_ins hx10 hX10, hcd.same b11⟩, ⟨sqt_ins hx10 hpt10, PtsIn.same hpd b11⟩, sqt_ins hx10 hft10, rows_upd hus10 hne⟩
end
end Pn

namespace Pn
open PySem L2 TL
section
variable {P : Program} {w : World} {K : PySem.W.Frag} {mg : Str → Option Value} {base : Heap}
/-! ### names, tops, unrolled -/
theorem scBNames : FnScope ["self", "row"] ["self"] (defScope sBNames) := ⟨rfl, rfl, rfl, by decide +kernel, rfl, by decide +kernel, by decide +kernel⟩
def spBNames {R : TRows K mg} {T : TPart R} (B : TBk T) : Sp := fun vs H Q _ => ∃ (a : Addr) (cs : List (Str × Str)) (bk : List PartD), vs = [.ref a] ∧ BookAt B H a cs bk ∧ (unrolled bk).length < 4000 ∧ (uniq (opens (unrolled bk))).length < 64 ∧
  ∀ (t : Addr) (H' : Hp) (ys : List Str), Same H H' → SqT K H' t (ys.map V.str) → ys.Perm (uniq (opens (unrolled bk))) → PyProof.Rows.sortedS ys = true → Q (.ref t) H'
theorem ok_bNames {R : TRows K mg} {T : TPart R} (B : TBk T) : FnOk P w K mg base CX0 1 B.names.g B.names.fd ["self"] (spBNames B) := by
  refine B.names.F.ok scBNames (fun vs H Q E h => ?_) (fun cdv A outer s H vs Q E hr h => ?_)
  · obtain ⟨a, cs, bk, rfl, _⟩ := h
    rfl
  · obtain ⟨a, cs, bk, rfl, ⟨dx, ct, pt, ft, ts, ps, us, ha, _, _, hft, hus⟩, hl, hn, q⟩ := h
    refine ⟨_, pss_one (ps_ret (pe_callTy cr_tupS (by rfl) T.mTup (by decide +kernel) (pa_cons (pe_callB (cr_sortX rfl) (by rfl) B.mSort (by decide +kernel) (pa_cons (pe_callTy (cr_setX rfl) (by rfl) B.mSet (by decide +kernel) (pa_cons
      (pe_lc (own := [("row", 1)]) (g := gName 1) (by rfl) scBNames.nd (pi_tup (pe_fld (pv 0) rfl))
      (blkOk_by (N := ["self", "row"]) (sc := defScope sBNames) (by decide +kernel)) (fun _ _ _ _ _ => pg_name (i := 1) scBNames.nd rfl (Or.inl rfl))
      (fun _ _ _ _ _ => pts_one (pt_cmpR op_eq (show PE _ _ (tFld K (tVar 1) "word") from pe_fld (pv 1) rfl) pe_str (nomark _))) (fun _ _ _ _ _ => (show PE _ _ (tFld K (tVar 1) "name") from pe_fld (pv 1) rfl))) pa_nil)) pa_nil)) pa_nil))), ?_⟩
    have hul : us.length = (unrolled bk).length := paired_len hus
    unfold tRet tCB tCons
    refine lcw_tup (fun R r => ⟨_, rfl, a, B.C, dx, _, .ref ft, rfl, ha, B.cl, B.noF, book_f, r⟩) hft (by rw [List.length_map]; omega) (out := fun i => ((unrolled bk)[i]?).bind fun r => (opnOf r).map V.str) (fun i x Hi S Y hx si hS hY => ?_) (fun D H2 hD s2 hD2 => ?_)
    · obtain ⟨u, r, hu, hr2, rfl, hrow⟩ := rows_at hus hx
      obtain ⟨dw, fw, w1, w2, w3, w4⟩ := at_word R (hrow.same si)
      refine ⟨rfl, _, rfl, u, _, dw, fw, _, rfl, w1, w2, w3, w4, rfl, _, rfl, ?_⟩
      have hb : ((unrolled bk)[i]?).bind (fun r => (opnOf r).map V.str) = (opnOf r).map V.str := by rw [hr2]; rfl
      rw [opn_word]
      cases hp : opnOf r with
      | none =>
        refine iteF ?_
        exact hS (by rw [hp] at hb; exact hb) _ (Same.refl _)
      | some z =>
        refine iteT ?_
        obtain rfl : r = .opn z := by
          cases r with
          | opn y => cases hp; rfl
          | _ => cases hp
        obtain ⟨dp, fp, p1, p2, p3, p4⟩ := at_name R (hrow.same si)
        exact ⟨_, rfl, u, _, dp, fp, _, rfl, p1, p2, p3, p4, hY _ (by rw [hp] at hb; exact hb) _ (Same.refl _)⟩
    · have hD3 : H2 D = some (.lst ((opens (unrolled bk)).map V.str)) := by rw [hD2, List.length_map, hul, out_filter, opens_eq, List.map_filterMap]
      have hol : (opens (unrolled bk)).length ≤ (unrolled bk).length := List.length_filterMap_le _ _
      refine ⟨D, opens (unrolled bk), rfl, SqL.of hD3, by omega, fun S hS => ?_⟩
      refine ⟨S, uniq (opens (unrolled bk)), rfl, upd_same, hn, fun ys p hp hs hpn => ?_⟩
      refine ⟨p, ys.map V.str, rfl, .inl (SqL.of upd_same), fun t H' s' ht => q t H' ys ?_ ht hp hs⟩
      exact (s2.trans (Same.new hS)).trans ((Same.new hpn).trans s')
theorem scBUnr : FnScope ["self"] ["self"] (defScope sBUnr) := ⟨rfl, rfl, rfl, by decide +kernel, rfl, by decide +kernel, by decide +kernel⟩
def spBUnr {R : TRows K mg} {T : TPart R} (B : TBk T) : Sp := fun vs H Q _ => ∃ (a : Addr) (cs : List (Str × Str)) (bk : List PartD), vs = [.ref a] ∧ BookAt B H a cs bk ∧
  ∀ (t : Addr) (us : List Addr), SqT K H t (us.map V.ref) → RowsIn R H us (unrolled bk) → Q (.ref t) H
theorem ok_bUnr {R : TRows K mg} {T : TPart R} (B : TBk T) : FnOk P w K mg base CX0 1 B.unr.g B.unr.fd ["self"] (spBUnr B) := by
  refine B.unr.F.ok scBUnr (fun vs H Q E h => ?_) (fun cdv A outer s H vs Q E hr h => ?_)
  · obtain ⟨a, cs, bk, rfl, _⟩ := h
    rfl
  · obtain ⟨a, cs, bk, rfl, ⟨dx, ct, pt, ft, ts, ps, us, ha, _, _, hft, hus⟩, q⟩ := h
    refine ⟨_, pss_one (ps_ret (pe_fld (pv 0) rfl)), ?_⟩
    exact ⟨_, rfl, a, B.C, dx, _, .ref ft, rfl, ha, B.cl, B.noF, book_f, q ft us hft hus⟩
end
end Pn

namespace Pn
open PySem L2 TL
section
variable {P : Program} {w : World} {K : PySem.W.Frag} {mg : Str → Option Value} {base : Heap}
def spBTops {R : TRows K mg} {T : TPart R} (B : TBk T) : Sp := fun vs H Q _ => ∃ (a : Addr) (cs : List (Str × Str)) (bk : List PartD), vs = [.ref a] ∧ BookAt B H a cs bk ∧ cs.length ≤ 100 ∧
  ∀ (t : Addr) (H' : Hp), Same H H' → SqT K H' t ((topsOf cs).map V.str) → Q (.ref t) H'
end
end Pn

namespace Pn
open PySem L2 TL
section
variable {P : Program} {w : World} {K : PySem.W.Frag} {mg : Str → Option Value} {base : Heap}
/-! ### chain -/
theorem scBChain : FnScope ["self", "name", "uppers", "above"] ["self", "name"] (defScope sBChain) := ⟨rfl, rfl, rfl, by decide +kernel, rfl, by decide +kernel, by decide +kernel⟩
def spBChain {R : TRows K mg} {T : TPart R} (B : TBk T) : Sp := fun vs H Q _ => ∃ (a : Addr) (cs : List (Str × Str)) (bk : List PartD) (z : Str) (l : List Str), vs = [.ref a, .str z] ∧ BookAt B H a cs bk ∧ CsOk cs ∧ Climb cs z l ∧ l.length ≤ 1000 ∧
  ∀ (t : Addr) (H' : Hp), Same H H' → SqT K H' t (l.reverse.map V.str) → Q (.ref t) H'
theorem Climb.mem {cs : List (Str × Str)} {z : Str} {l : List Str} (h : Climb cs z l) : ∃ c ∈ cs, c.1 = z := by
  cases h with
  | top h => exact ⟨_, h, rfl⟩
  | up h _ _ => exact ⟨_, h, rfl⟩
theorem ok_bChain {R : TRows K mg} {T : TPart R} (B : TBk T) : FnOk P w K mg base CX0 4 B.chain.f B.chain.fd ["self", "name"] (spBChain B) := by
  refine B.chain.F.ok scBChain (fun vs H Q E h => ?_) (fun cdv A outer s H vs Q E hr h => ?_)
  · obtain ⟨a, cs, bk, z, l, rfl, _⟩ := h
    rfl
  · obtain ⟨a, cs, bk, z, l, rfl, ⟨dx, ct, pt, ft, ts, ps, us, ha, ⟨hct, hts⟩, _, _, _⟩, ok, hcl, hll, q⟩ := h
    refine ⟨_, pss_cons (ps_set (i := 2) scBChain.nd rfl (Or.inl rfl) (pe_callTy (cr_dictX rfl) (by rfl) B.mDict (by decide +kernel) (pa_cons (pe_fld (pv 0) rfl) pa_nil)))
      (pss_cons (ps_if (PW.pt (pw_or (pt_not (pt_val (pe_call R.N.okName (hr.mono (by decide)) rfl R.N.isName.m R.N.isName.F.kp R.N.isName.b .nil pass0 (pa_cons (pv 1) pa_nil)))) (pw_or1 (pt_cmp (pc_dnotin (roomU hr) (pv 1) (pv 2)))))) pss_never pss_nil)
      (pss_cons (ps_set (i := 3) scBChain.nd rfl (Or.inl rfl) (pe_lst (pa_cons (pv 1) pa_nil)))
      (pss_cons (ps_while PassesOwn.never (pt_cmpR op_ne (pe_dget (roomU hr) (pv 2) (pe_ix ix_list (pv 3) (pe_un un_neg pe_int) (fun _ _ => rfl)) (fun _ _ => rfl)) pe_str (nomark _))
        (pss_one (ps_expr (pe_bm PySem.F.plainAttrs_list PySem.F.slot_list_append PySem.F.type_list_append mt_append (pv 3) (pa_cons (pe_dget (roomU hr) (pv 2) (pe_ix ix_list (pv 3) (pe_un un_neg pe_int) (fun _ _ => rfl)) (fun _ _ => rfl)) pa_nil)))))
      (pss_one (ps_ret (pe_callTy cr_tupS (by rfl) T.mTup (by decide +kernel) (pa_cons (pe_revL (pv 3)) pa_nil))))))), ?_⟩
    obtain ⟨c0, hc0, rfl⟩ := hcl.mem
    refine ⟨_, rfl, a, B.C, dx, _, .ref ct, rfl, ha, B.cl, B.noC, book_c, ct, ts, csKv cs, rfl, hct, ?_, fun kp hkp => ?_⟩
    · unfold csKv
      clear q hcl hc0 ok hct
      induction hts with
      | nil => exact .nil
      | cons a b ih => exact .cons a ih
    have s1 := Same.new (o := .dK (mergeK [] (csKv cs))) hkp
    have hK1 : upd H kp (.dK (mergeK [] (csKv cs))) kp = some (.dK (mergeK [] (csKv cs))) := upd_same
    have hget : ∀ c ∈ cs, valV (mergeK [] (csKv cs)) (.inr c.1) = some (.str c.2) := fun c hc => merge_in ok.nd hc
    generalize upd H kp (.dK (mergeK [] (csKv cs))) = H1 at s1 hK1 ⊢
    generalize mergeK [] (csKv cs) = kvs at hK1 hget
    have hnm := ok.nm c0 hc0
    unfold gName
    dsimp only
    refine ⟨_, rfl, .str c0.1, .str c0.1, rfl, .str _, Nat.le_trans (name_ok hnm).2 (by decide), fun H2 s2 m2 => ⟨nameS c0.1, rfl, ?_⟩⟩
    rw [hnm]
    refine iteF ?_
    have hK2 := s2 _ _ hK1
    refine ⟨_, rfl, _, rfl, kp, _, rfl, (by have g := DGet.k (k := Sum.inr c0.1) hK2; rw [hget c0 hc0] at g; exact g), false, rfl, iteF ?_⟩
    refine ⟨_, rfl, (by show 1 ≤ sizeLine; decide), fun F hF => ?_⟩
    have s3 := (s1.trans s2).trans (Same.new (o := .lst [.str c0.1]) hF)
    have hK3 := Same.new (o := .lst [.str c0.1]) hF _ _ hK2
    have hFn : H F = none := (s1.trans s2).free hF
    have hF3 : upd H2 F (.lst [.str c0.1]) F = some (.lst (([] ++ [c0.1]).map V.str)) := upd_same
    generalize upd H2 F (.lst [.str c0.1]) = H3 at s3 hK3 hF3 ⊢
    have nKF : kp ≠ F := fun e => by rw [e, hF3] at hK3; cases hK3
    obtain ⟨r0, hr0⟩ := hcl.head
    refine ⟨fun m σ Hi => ∃ (cur : Str) (rest pre : List Str), σ = [some (.ref a), some (.str c0.1), some (.ref kp), some (.ref F)] ∧ Same H Hi ∧ Hi kp = some (.dK kvs) ∧ Hi F = some (.lst ((pre ++ [cur]).map V.str)) ∧ Climb cs cur (cur :: rest) ∧ l = pre ++ cur :: rest ∧ m = rest.length,
      ⟨_, c0.1, r0, [], rfl, s3, hK3, hF3, by rw [← hr0]; exact hcl, hr0, rfl⟩, ?_⟩
    rintro m σ Hi ⟨cur, rest, pre, rfl, si, hKi, hFi, hci, hl, rfl⟩
    have hat : atI ((pre ++ [cur]).map V.str) (-1) = some (.str cur) := by rw [List.map_append]; exact atI_last _ _
    cases hci with
    | top hm =>
      refine ⟨_, rfl, _, rfl, _, rfl, F, _, _, .str cur, rfl, rfl, SqL.of hFi, hat, kp, _, rfl, (by have g := DGet.k (k := Sum.inr cur) hKi; rw [hget _ hm] at g; exact g), rfl, _, rfl, iteFD (by show (!decide (V.str ("" : Str) = V.str "")) = false; decide +kernel) ?_⟩
      refine ⟨_, rfl, F, _, rfl, SqL.of hFi, fun p hp => ⟨p, _, rfl, .inl (SqL.of upd_same), fun t H' s' ht => q t H' ((si.trans (Same.new hp)).trans s') ?_⟩⟩
      rw [hl, List.map_reverse]
      exact ht
    | up hm hne hcu =>
      rename_i u
      obtain ⟨r2, hr2⟩ := hcu.head
      refine ⟨_, rfl, _, rfl, _, rfl, F, _, _, .str cur, rfl, rfl, SqL.of hFi, hat, kp, _, rfl, (by have g := DGet.k (k := Sum.inr cur) hKi; rw [hget _ hm] at g; exact g), rfl, _, rfl, iteTD (by rw [Bool.not_eq_true', decide_eq_false_iff_not]; exact fun z => hne (V.str.inj z)) ?_⟩
      refine ⟨_, fun σ' H' h => h, ?_⟩
      refine ⟨_, rfl, .inl ⟨rfl, _, SqL.of hFi⟩, _, rfl, _, rfl, _, rfl, F, _, _, .str cur, rfl, rfl, SqL.of hFi, hat, kp, _, rfl, (by have g := DGet.k (k := Sum.inr cur) hKi; rw [hget _ hm] at g; exact g), F, _, _, rfl, rfl, hFi, ?_, ?_⟩
      · rw [List.length_map, List.length_append]
        have big : (2000 : Nat) ≤ sizeLine := by decide
        have : l.length = pre.length + (rest.length + 1) := by rw [hl, List.length_append, List.length_cons]
        show pre.length + 1 < sizeLine
        omega
      · refine ⟨r2.length, by rw [hr2]; exact Nat.lt_succ_self _, u, r2, pre ++ [cur], rfl, Same.updn si hFn, by rw [upd_ne nKF]; exact hKi, by rw [upd_same, List.map_append (l₁ := pre ++ [cur])]; rfl, by rw [← hr2]; exact hcu, by rw [hl, hr2]; simp, rfl⟩
end
end Pn

namespace Pn
open PySem L2 TL
/-! ### drawn books are good books -/
theorem knowns_small {bk : List PartD} (h : PutsOk bk) : ∀ i, i ≤ bk.length → ∀ z rs, (z, rs) ∈ knowns (bk.take i) → rs.length ≤ 6 ^ i := by
  intro i
  induction i with
  | zero => intro _ z rs hm; cases hm
  | succ i ih =>
    intro hi z rs hm
    have lt : i < bk.length := hi
    have hp : bk[i]? = some bk[i] := List.getElem?_eq_getElem lt
    have hkt : knowns (bk.take (i + 1)) = (bk[i].1, unrollIn (knowns (bk.take i)) bk[i].2) :: knowns (bk.take i) := by
      rw [List.take_add_one, hp]
      exact knowns_snoc _ _
    rw [hkt] at hm
    have ih2 := ih (by omega)
    have p6 : 6 ^ i ≤ 6 ^ (i + 1) := Nat.pow_le_pow_right (by decide) (by omega)
    have p1 : 1 ≤ 6 ^ i := Nat.one_le_pow _ _ (by decide)
    rcases List.mem_cons.mp hm with e | hm
    · injection e with e1 e2
      subst e2
      obtain ⟨h6, hput⟩ := h i _ hp
      have key : ∀ l : List RowD, (∀ y, RowD.put y ∈ l → y ∈ (bk.take i).map (·.1)) → (unrollIn (knowns (bk.take i)) l).length ≤ l.length * 6 ^ i := by
        intro l
        induction l with
        | nil => intro _; exact Nat.zero_le _
        | cons r l ihl =>
          intro hl
          have q := ihl fun y hy => hl y (List.mem_cons_of_mem _ hy)
          have e : unrollIn (knowns (bk.take i)) (r :: l) = expand (knowns (bk.take i)) r ++ unrollIn (knowns (bk.take i)) l := rfl
          rw [e, List.length_append, List.length_cons, Nat.add_mul, Nat.one_mul]
          have he : (expand (knowns (bk.take i)) r).length ≤ 6 ^ i := by
            cases r with
            | put y =>
              have hy := hl y List.mem_cons_self
              have hyk : y ∈ (knowns (bk.take i)).map (·.1) := by rw [knowns_len]; exact List.mem_reverse.mpr hy
              obtain ⟨rs2, h1, h2⟩ := lookup_of_mem hyk
              show ((List.lookup y (knowns (bk.take i))).getD []).length ≤ _
              rw [h1]
              exact ih2 y rs2 h2
            | _ => exact p1
          omega
      have q := key bk[i].2 hput
      have q2 : bk[i].2.length * 6 ^ i ≤ 6 * 6 ^ i := Nat.mul_le_mul_right _ h6
      rw [Nat.pow_succ]
      omega
    · exact Nat.le_trans (ih2 z rs hm) p6
theorem nodup_take {l : List Str} {n : Nat} (h : l.Nodup) : (l.take n).Nodup := (List.take_sublist n l).nodup h
theorem row_cnt {d : Pool} {cs : List (Str × Str)} {parts : List Str} {r : RowD} {c : Str} (h : rowFine d cs parts r) (e : cntOf r = some c) : c ∈ cs.map (·.1) := by
  cases r with
  | note _ _ => cases e; exact h.1
  | skip _ _ => cases e; exact h.1
  | set _ _ => cases e; exact h.1
  | keep _ => cases e; exact h
  | back _ => cases e; exact h
  | ref _ => cases e
  | put _ => cases e
  | opn _ => cases e
theorem bookV {d : Pool} {cs : List (Str × Str)} {bk : List PartD} (h : BookOk d cs bk) : BookV cs bk := by
  have fl := pool_fine d h.hd
  have hcs : ∀ x ∈ cs.map (·.1), nameS x = true := fun x hx => by
    rw [h.cn] at hx
    exact fl.names x (by simp [List.mem_of_mem_take hx])
  have hbk : ∀ x ∈ bk.map (·.1), nameS x = true := fun x hx => by
    rw [h.bn] at hx
    exact fl.names x (by simp [List.mem_of_mem_take hx])
  have c3 := h.c3
  have b3 := h.b3
  exact {
    c := ⟨fun c hc => hcs _ (List.mem_map.mpr ⟨c, hc, rfl⟩), by rw [h.cn]; exact nodup_take fl.cn, h.ct, by omega⟩
    b0 := h.b0
    nd := by rw [h.bn]; exact nodup_take fl.pn
    len := by omega
    rows := fun p hp => by
      obtain ⟨i, hi⟩ := List.getElem?_of_mem hp
      have h6 := (h.puts i p hi).1
      refine ⟨Nat.le_trans (name_ok (hbk _ (List.mem_map.mpr ⟨p, hp, rfl⟩))).2 (by decide), by omega, fun r hr => ?_⟩
      rcases h.rows p hp r hr with f | ⟨l, rfl, _, hn⟩
      · exact fine_valid fl hcs hbk f
      · exact hn
    cnt := fun p hp r hr c e => by
      rcases h.rows p hp r hr with f | ⟨l, rfl, _, _⟩
      · exact row_cnt f e
      · cases e
    puts := puts_earlier h.puts
    small := fun z rs hm => by
      have q := knowns_small h.puts bk.length (Nat.le_refl _) z rs (by rw [List.take_length]; exact hm)
      have : 6 ^ bk.length ≤ 6 ^ 3 := Nat.pow_le_pow_right (by decide) b3
      have e : (6 : Nat) ^ 3 = 216 := by decide
      omega
    refs := fun l hl => by
      have q := unrolled_all (G := RowIn d cs bk) h.rows _ hl
      rcases q with f | ⟨l2, e, hm, _⟩
      · exact absurd f id
      · cases e
        obtain ⟨c, hc, _⟩ := labels_of hm
        exact ⟨c, hc⟩ }
theorem flat_small {d : Pool} {cs : List (Str × Str)} {bk : List PartD} (h : BookOk d cs bk) : (unrolled bk).length ≤ 216 := by
  unfold unrolled
  cases hk : knowns bk with
  | nil => exact Nat.zero_le _
  | cons y l =>
    have q := knowns_small h.puts bk.length (Nat.le_refl _) y.1 y.2 (by rw [List.take_length, hk]; exact List.mem_cons_self)
    have : 6 ^ bk.length ≤ 6 ^ 3 := Nat.pow_le_pow_right (by decide) h.b3
    exact Nat.le_trans q this
theorem len_sub : ∀ {l m : List Str}, l.Nodup → (∀ z ∈ l, z ∈ m) → l.length ≤ m.length
  | [], _, _, _ => Nat.zero_le _
  | x :: l, m, nd, h => by
    rw [List.nodup_cons] at nd
    have hx := h x List.mem_cons_self
    have q := len_sub (l := l) (m := m.erase x) nd.2 fun z hz => (List.mem_erase_of_ne (fun e => nd.1 (by rw [← e]; exact hz))).mpr (h z (List.mem_cons_of_mem _ hz))
    rw [List.length_erase_of_mem hx] at q
    have := List.length_pos_of_mem hx
    rw [List.length_cons]
    omega
theorem opens_few {d : Pool} {cs : List (Str × Str)} {bk : List PartD} (h : BookOk d cs bk) : (uniq (opens (unrolled bk))).length < 64 := by
  have fl := pool_fine d h.hd
  have sub : ∀ z ∈ uniq (opens (unrolled bk)), z ∈ d.x := fun z hz => by
    rw [uniq_has] at hz
    obtain ⟨r, hr, e⟩ := List.mem_filterMap.mp hz
    have q := unrolled_all (G := RowIn d cs bk) h.rows r hr
    cases r with
    | opn y =>
      cases e
      rcases q with f | ⟨l2, e, _⟩
      · exact f
      · cases e
    | _ => cases e
  have q : (uniq (opens (unrolled bk))).length ≤ d.x.length := len_sub (uniq_nodup _) sub
  rw [fl.xl] at q
  omega
end Pn

namespace Pn
open PySem L2 TL
section
variable {P : Program} {w : World} {K : PySem.W.Frag} {mg : Str → Option Value} {base : Heap}
def PtOf {R : TRows K mg} (T : TPart R) (H : Hp) (x : Addr) (n : Str) (us : List Addr) : Prop := ∃ dx tp, H x = some (insPart T.C dx (.str n) (.ref tp)) ∧ SqT K H tp (us.map V.ref)
theorem PtOf.same {R : TRows K mg} {T : TPart R} {H H' : Hp} {a : Addr} {n : Str} {us : List Addr} (h : PtOf T H a n us) (s : Same H H') : PtOf T H' a n us := by
  obtain ⟨dx, tp, h1, h2⟩ := h
  exact ⟨dx, tp, s _ _ h1, Same.sqt s h2⟩
theorem PtOf.at {R : TRows K mg} {T : TPart R} {H : Hp} {a : Addr} {n : Str} {us : List Addr} {rs : List RowD} (h : PtOf T H a n us) (g : RowsIn R H us rs) : PtAt T H a n rs := by
  obtain ⟨dx, tp, h1, h2⟩ := h
  exact ⟨dx, tp, us, h1, h2, g⟩
theorem rows_flags {R : TRows K mg} {H : Hp} : ∀ {us : List Addr} {rs : List RowD}, RowsIn R H us rs → Paired (RowFlag R H) (us.map V.ref) (us.map fun _ => true)
  | _, _, .nil => .nil
  | _, _, .cons a b => .cons (.inl ⟨rfl, _, _, rfl, a⟩) (rows_flags b)
theorem all_true {α : Type} (l : List α) : (l.map fun _ => true).all id = true := by
  induction l with
  | nil => rfl
  | cons _ _ ih => exact ih
theorem part_made {R : TRows K mg} (T : TPart R) {H : Hp} {p : Addr} {us : List Addr} {rs : List RowD} {n : Str} (hp : SqL K H p (us.map V.ref) ∨ SqT K H p (us.map V.ref)) (hus : RowsIn R H us rs) (hn : nameS n = true) (hl : us.length ≤ 1000)
    {RR : Addr → Hp → Prop} (k : ∀ x H', Same H H' → PtOf T H' x n us → RR x H') :
    ∀ x dx, H x = none → H dx = none → dx ≠ x → spPartInit R T.C T.IP.C [.ref x, .str n, .ref p] (upd (upd H dx (.own x)) x (.ins T.C dx [])) (fun v H2 => v = .non ∧ RR x H2) E0 := fun x dx hx hdx ne => by
  have s1 : Same H (upd (upd H dx (.own x)) x (.ins T.C dx [])) := ins_same2 hx hdx
  have hnl : n.length ≤ 4 := (name_ok hn).2
  refine ⟨x, dx, .str n, .ref p, .str n, some (us.map V.ref, us.map fun _ => true), rfl, upd_same, .str n, (show n.length ≤ 900 by omega), ⟨p, rfl, hp.elim (fun h => .inl (s1.seq h)) (fun h => .inr (Same.sqt s1 h)), rows_flags (hus.same s1), by rw [List.length_map]; exact hl⟩,
    fun z => absurd hn (by rw [show nameS n = false from z]; decide), fun _ z => absurd (all_true us) (by rw [show (us.map fun _ => true).all id = false from z]; decide), fun _ _ xs bs e tp H' kp m htp hi => ⟨rfl, k x H' (kpi_same2 hx hdx kp) ⟨dx, tp, hi, ?_⟩⟩⟩
  have e := Option.some.inj e
  injection e with e1 e2
  rw [e1]
  exact htp
end
end Pn

namespace Pn
open PySem L2 TL
section
variable {P : Program} {w : World} {K : PySem.W.Frag} {mg : Str → Option Value} {base : Heap}
theorem sqt_lst {H : Hp} {D a : Addr} {xs ys zs : List V} (hD : H D = some (.lst xs)) (h : SqT K H a zs) : SqT K (upd H D (.lst ys)) a zs := by
  rcases h with (s | ⟨u, s⟩) | s
  · exact .inl (.inl (by rw [upd_ne (fun z => by rw [z, hD] at s; cases s)]; exact s))
  · exact .inl (.inr ⟨u, by rw [upd_ne (fun z => by rw [z, hD] at s; cases s)]; exact s⟩)
  · exact .inr s
theorem rowsin_lst {R : TRows K mg} {H : Hp} {D : Addr} {xs ys : List V} (hD : H D = some (.lst xs)) {us : List Addr} {rs : List RowD} (h : RowsIn R H us rs) : RowsIn R (upd H D (.lst ys)) us rs :=
  paired_mono (fun a r e => by
    obtain ⟨dy, e⟩ := e
    obtain ⟨gs, eg⟩ := insRow_ins R dy r
    exact ⟨dy, by rw [upd_ne (fun z => by rw [z, hD, eg] at e; cases e)]; exact e⟩) h
theorem ptat_lst {R : TRows K mg} {T : TPart R} {H : Hp} {D : Addr} {xs ys : List V} (hD : H D = some (.lst xs)) {a : Addr} {n : Str} {rs : List RowD} (h : PtAt T H a n rs) : PtAt T (upd H D (.lst ys)) a n rs := by
  obtain ⟨dx, tp, us, h1, h2, h3⟩ := h
  exact ⟨dx, tp, us, by rw [upd_ne (fun z => by rw [z, hD] at h1; cases h1)]; exact h1, sqt_lst hD h2, rowsin_lst hD h3⟩
theorem book_made {R : TRows K mg} {T : TPart R} (B : TBk T) {H : Hp} {cp : Addr} {ts : List Addr} {cs : List (Str × Str)} {pu : V} {bk : List PartD} (hcp : SqL K H cp (ts.map V.ref) ∨ TupX H cp (ts.map V.ref)) (hcd : CsIn K H ts cs) (hP : PtsArg T H pu bk) (ok : BookV cs bk) {RR : Addr → Hp → Prop}
    (k : ∀ x H', Same H H' → BookAt B H' x cs bk → RR x H') : ∀ x dx, H x = none → H dx = none → dx ≠ x → spBInit B [.ref x, .ref cp, pu] (upd (upd H dx (.own x)) x (.ins B.C dx [])) (fun v H2 => v = .non ∧ RR x H2) E0 := fun x dx hx hdx ne =>
  ⟨x, dx, cp, pu, ts, cs, bk, H, rfl, upd_same, hx, ins_same2 hx hdx, hcp, hcd, hP, ok, fun H' s h => ⟨rfl, k x H' s h⟩⟩
theorem csIn_of {H : Hp} {ts : List Addr} {cs : List (Str × Str)} (h : Paired (fun t (p : Str × Str) => H t = some (.tup [.str p.1, .str p.2])) ts cs) : CsIn K H ts cs := paired_mono (fun _ _ e => SqT.of e) h
/-! ### _law_made_book -/
def spMadeBook {R : TRows K mg} {T : TPart R} (B : TBk T) : Sp := fun vs H Q _ => ∃ (t c pl : Addr) (cs : List (Str × Str)) (bk : List PartD), vs = [.ref t] ∧ SqT K H t [.ref c, .ref pl] ∧ CsAt H c cs ∧ PartsAt H pl bk ∧ BookV cs bk ∧ (∀ p ∈ bk, nameS p.1 = true) ∧
  ∀ (x : Addr) (H' : Hp), Same H H' → BookAt B H' x cs bk → Q (.ref x) H'
end
end Pn

namespace Pn
open PySem L2 TL
abbrev sCLine : Stmt := top 47
abbrev sBStr : Stmt := inClass (top 53) 12
/-! ### the text of a book -/
def cLine (n u : Str) : Str := if u = "" then Str.empty ++ ("counter " : Str) ++ n else Str.empty ++ ("counter " : Str) ++ n ++ (" under " : Str) ++ u
def bookText (cs : List (Str × Str)) (bk : List PartD) : Str := Txt.join "\n" (cs.map (fun c => cLine c.1 c.2) ++ bk.map fun p => partText p.1 p.2)
theorem joinN_len : ∀ l : List Str, (joinL (tl "\n") (l.map tl)).length ≤ (l.map (·.length)).sum + l.length
  | [] => Nat.le_refl _
  | [a] => by
    show (tl a).length ≤ a.length + 0 + 1
    rw [← len_tl]
    omega
  | a :: b :: r => by
    have q := joinN_len (b :: r)
    show (tl a ++ (tl "\n" ++ joinL (tl "\n") ((b :: r).map tl))).length ≤ _
    rw [List.length_append, List.length_append, ← len_tl, show (tl "\n").length = 1 from by decide +kernel]
    simp only [List.map_cons, List.sum_cons, List.length_cons] at q ⊢
    omega
theorem join_le (l : List Str) : (Txt.join "\n" l).length ≤ (l.map (·.length)).sum + l.length := by
  have e : tl (Txt.join "\n" l) = joinL (tl "\n") (l.map tl) := by rw [join_eq]; exact tl_join "\n" l
  rw [len_tl, e]
  exact joinN_len l
theorem cLine_len {n u : Str} (hn : n.length ≤ 100) (hu : u.length ≤ 100) : (cLine n u).length ≤ 300 := by
  have l1 : (Str.empty : Str).length + ("counter " : Str).length = 8 := by decide +kernel
  have l2 : (" under " : Str).length = 7 := by decide +kernel
  unfold cLine
  split
  · rw [strLen_append, strLen_append]; omega
  · rw [strLen_append, strLen_append, strLen_append, strLen_append]; omega
theorem partText_len {n : Str} {rs : List RowD} (h : partOk n rs) : (partText n rs).length ≤ 7000 := by
  obtain ⟨h1, h2, h3⟩ := h
  have q := join_le (partHead n :: rs.map rowText)
  have r := rows_sum h3
  have e : (partHead n).length = ("part " : Str).length + n.length := strLen_append _ _
  have e2 : ("part " : Str).length = 5 := by decide +kernel
  unfold partText
  simp only [List.map_cons, List.sum_cons, List.length_cons, List.length_map] at q r ⊢
  omega
theorem sum_le {α : Type} {f : α → Nat} {k : Nat} : ∀ {l : List α}, (∀ x ∈ l, f x ≤ k) → (l.map f).sum ≤ k * l.length
  | [], _ => Nat.le_refl _
  | x :: l, h => by
    have q := sum_le (l := l) fun y hy => h y (List.mem_cons_of_mem _ hy)
    have r := h x List.mem_cons_self
    rw [List.map_cons, List.sum_cons, List.length_cons, Nat.mul_add]
    omega
theorem book_fits {cs : List (Str × Str)} {bk : List PartD} (hc : ∀ c ∈ cs, c.1.length ≤ 100 ∧ c.2.length ≤ 100) (h1 : cs.length ≤ 100) (hp : ∀ p ∈ bk, partOk p.1 p.2) (h2 : bk.length ≤ 50) :
    ((cs.map (fun c => cLine c.1 c.2) ++ bk.map fun p => partText p.1 p.2).map (·.length)).sum + (cs.map (fun c => cLine c.1 c.2) ++ bk.map fun p => partText p.1 p.2).length * ("\n" : Str).length ≤ 16777216 := by
  have e2 : ("\n" : Str).length = 1 := by decide +kernel
  have a := sum_le (l := cs) (f := fun c => (cLine c.1 c.2).length) (k := 300) fun c h => cLine_len (hc c h).1 (hc c h).2
  have b := sum_le (l := bk) (f := fun p => (partText p.1 p.2).length) (k := 7000) fun p h => partText_len (hp p h)
  rw [e2, List.map_append, List.sum_append, List.length_append, List.map_map, List.map_map, List.length_map, List.length_map]
  show (cs.map fun c => (cLine c.1 c.2).length).sum + (bk.map fun p => (partText p.1 p.2).length).sum + _ ≤ _
  omega
section
variable {P : Program} {w : World} {K : PySem.W.Frag} {mg : Str → Option Value} {base : Heap}
def spCLine : Sp := fun vs H Q _ => ∃ n u : Str, vs = [.str n, .str u] ∧ n.length ≤ 100 ∧ u.length ≤ 100 ∧ Q (.str (cLine n u)) H
theorem scCLine : FnScope ["name", "upper"] ["name", "upper"] (defScope sCLine) := ⟨rfl, rfl, rfl, by decide +kernel, rfl, by decide +kernel, by decide +kernel⟩
theorem ok_cLine {f : Addr} {fd : FuncData} (F : Fun K "counter_line" "counter_line" sCLine f fd) : FnOk P w K mg base CX0 1 f fd ["name", "upper"] spCLine := by
  refine F.ok scCLine (fun vs H Q E h => ?_) (fun cdv A outer s H vs Q E hr h => ?_)
  · obtain ⟨n, u, rfl, _⟩ := h
    rfl
  · obtain ⟨n, u, rfl, hn, hu, q⟩ := h
    refine ⟨_, pss_cons (ps_if (pt_cmpR op_eq (pv 1) pe_str (nomark _)) (pss_one (ps_ret (pe_joined (.cons pe_str (.cons (pe_fmt (pv 0)) .nil))))) pss_nil)
      (pss_one (ps_ret (pe_joined (.cons pe_str (.cons (pe_fmt (pv 0)) (.cons pe_str (.cons (pe_fmt (pv 1)) .nil))))))), ?_⟩
    have l1 : (Str.empty : Str).length + ("counter " : Str).length = 8 := by decide +kernel
    have l2 : (" under " : Str).length = 7 := by decide +kernel
    have big : (1001 : Nat) ≤ sizeLine := by decide
    refine ⟨_, rfl, rfl, _, rfl, ?_⟩
    by_cases hz : u = ""
    · refine iteTD (decide_eq_true (by rw [hz])) ?_
      have e : cLine n u = Str.empty ++ ("counter " : Str) ++ n := if_pos hz
      rw [e] at q
      exact ⟨_, rfl, (by decide +kernel), _, rfl, .inl ⟨n, rfl, Nat.le_trans hn (by decide), n, rfl, by rw [strLen_append, strLen_append]; omega, q⟩⟩
    · refine iteFD (decide_eq_false fun z => hz (V.str.inj z)) ?_
      have e : cLine n u = Str.empty ++ ("counter " : Str) ++ n ++ (" under " : Str) ++ u := if_neg hz
      rw [e] at q
      exact ⟨_, rfl, (by decide +kernel), _, rfl, .inl ⟨n, rfl, Nat.le_trans hn (by decide), n, rfl, by rw [strLen_append, strLen_append]; omega, _, rfl, by rw [strLen_append, strLen_append, strLen_append]; omega, _, rfl, .inl ⟨u, rfl, Nat.le_trans hu (by decide), u, rfl, by rw [strLen_append, strLen_append, strLen_append, strLen_append]; omega, q⟩⟩⟩
/-- what str(book) wants -/
structure TBStr {K : PySem.W.Frag} {mg : Str → Option Value} {R : TRows K mg} {T : TPart R} (B : TBk T) : Type where
  cline : At K mg "counter_line" sCLine ["name", "upper"]
  str : TMeth K B.C "__str__" "Book.__str__" sBStr ["self"]
def spBStr {R : TRows K mg} {T : TPart R} (B : TBk T) : Sp := fun vs H Q _ => ∃ (a : Addr) (cs : List (Str × Str)) (bk : List PartD), vs = [.ref a] ∧ BookAt B H a cs bk ∧ (∀ c ∈ cs, c.1.length ≤ 100 ∧ c.2.length ≤ 100) ∧ cs.length ≤ 100 ∧ (∀ p ∈ bk, partOk p.1 p.2) ∧ bk.length ≤ 50 ∧ ∀ H', Same H H' → Q (.str (bookText cs bk)) H'
theorem scBStr : FnScope ["self", "counters", "parts", "name", "upper", "part"] ["self"] (defScope sBStr) := ⟨rfl, rfl, rfl, by decide +kernel, rfl, by decide +kernel, by decide +kernel⟩
theorem ok_bStr {R : TRows K mg} {T : TPart R} {B : TBk T} (S : TBStr B) : FnOk P w K mg base CX0 8 S.str.f S.str.fd ["self"] (spBStr B) := by
  refine S.str.F.ok scBStr (fun vs H Q E h => ?_) (fun cdv A outer s H vs Q E hr h => ?_)
  · obtain ⟨a, cs, bk, rfl, _⟩ := h
    rfl
  · obtain ⟨a, cs, bk, rfl, ⟨dx, ct, pt, ft, ts, ps, us, ha, ⟨hct, hts⟩, ⟨hpt, hps⟩, _, _⟩, hc, hcl, hp, hpl, q⟩ := h
    refine ⟨_, pss_cons (ps_setLc (i := 1) (own := [("name", 3), ("upper", 4)]) (g := gTup K 2 (gCons (gName 3) (gCons (gName 4) gNil))) (tt := tYes) (by rfl) scBStr.nd rfl rfl (sw_true rfl rfl rfl (by decide +kernel)) (pi_tup (pe_fld (pv 0) rfl))
        (blkOk_by (N := ["self", "counters", "parts", "name", "upper", "part"]) (sc := defScope sBStr) (by decide +kernel)) (fun _ _ _ _ _ => pg_tup (by rfl) (pgs_cons (pg_name (i := 3) scBStr.nd rfl (Or.inl rfl)) (pgs_cons (pg_name (i := 4) scBStr.nd rfl (Or.inl rfl)) pgs_nil))) (fun _ _ _ _ _ => pts_nil)
        (fun _ _ _ _ _ => pe_call (ok_cLine S.cline.F) (hr.mono (by decide)) rfl S.cline.m S.cline.F.kp S.cline.b .nil pass0 (pa_cons (pv 3) (pa_cons (pv 4) pa_nil))))
      (pss_cons (ps_setLc (i := 2) (own := [("part", 5)]) (g := gName 5) (tt := tYes) (by rfl) scBStr.nd rfl rfl (sw_true rfl rfl rfl (by decide +kernel)) (pi_tup (pe_fld (pv 0) rfl))
        (blkOk_by (N := ["self", "counters", "parts", "name", "upper", "part"]) (sc := defScope sBStr) (by decide +kernel)) (fun _ _ _ _ _ => pg_name (i := 5) scBStr.nd rfl (Or.inl rfl)) (fun _ _ _ _ _ => pts_nil)
        (fun _ _ _ _ _ => pe_callTy (show CallR _ (.type "str") (rStrPart T) from call_strPartK (K := K) (mg := mg) rfl rfl T (hr.mono (by decide))) (by rfl) R.N.mStr (by decide +kernel) (pa_cons (pv 5) pa_nil)))
      (pss_one (ps_ret (pe_join pe_str (pe_lst (StX.pa_star (pv 1) (StX.pa_star (pv 2) pa_nil))))))), ?_⟩
    have htl : ts.length = cs.length := paired_len hts
    have hpl2 : ps.length = bk.length := paired_len hps
    have big : (1001 : Nat) ≤ sizeLine := by decide
    refine ⟨_, rfl, a, B.C, dx, _, .ref ct, rfl, ha, B.cl, B.noC, book_c, ct, rfl, ⟨_, hct.sqt⟩, fun D hD => lc_tup (xs := ts.map V.ref) (fun i Hi => Same H Hi ∧ Hi D = some (.lst ((cs.take i).map fun c => V.str (cLine c.1 c.2)))) ⟨Same.new hD, upd_same⟩ (fun i Hi _ hP => Same.sqt hP.1 hct.sqt) (fun i z Hi hz hP => ?turn) (fun Hi hP => ?fin)⟩
    case turn =>
      obtain ⟨s3, hDi⟩ := hP
      rw [List.getElem?_map] at hz
      cases hui : ts[i]? with
      | none => rw [hui] at hz; cases hz
      | some u =>
      rw [hui] at hz
      cases hz
      obtain ⟨c, hcc, htc⟩ := paired_at hts hui
      have hcm := List.mem_of_getElem? hcc
      refine ⟨u, _, rfl, Same.sqt s3 htc, rfl, _, _, rfl, _, _, rfl, rfl, rfl, _, rfl, _, rfl, c.1, c.2, rfl, (hc c hcm).1, (hc c hcm).2, _, hDi, ?_, Same.updn s3 hD, ?_⟩
      · rw [List.length_map, List.length_take]
        omega
      · rw [upd_same, List.take_add_one, hcc, List.map_append]
        rfl
    case fin =>
      obtain ⟨s3, hDi⟩ := hP
      rw [List.length_map, htl, List.take_length] at hDi
      refine ⟨_, rfl, a, B.C, dx, _, .ref pt, rfl, s3 _ _ ha, B.cl, B.noP, book_p, pt, rfl, ⟨_, Same.sqt s3 hpt⟩, fun D2 hD2 => lc_tup (g := gName 5) (tt := tYes) (vs := [5]) (xs := ps.map V.ref) (fun i Hj => Same Hi Hj ∧ Hj D2 = some (.lst ((bk.take i).map fun p => V.str (partText p.1 p.2)))) ⟨Same.new hD2, upd_same⟩ (fun i Hj _ hP => Same.sqt hP.1 (Same.sqt s3 hpt)) (fun i z Hj hz hP => ?turn2) (fun Hj hP => ?fin2)⟩
      case turn2 =>
        obtain ⟨s4, hDj⟩ := hP
        obtain ⟨u, p, hu, hpp, rfl, hpa⟩ := pts_at hps hz
        have hpm := List.mem_of_getElem? hpp
        refine ⟨rfl, _, rfl, u, p.1, p.2, rfl, (hpa.same s3).same s4, hp p hpm, fun Hk s5 => ⟨_, s5 _ _ hDj, ?_, Same.updn (s4.trans s5) hD2, ?_⟩⟩
        · rw [List.length_map, List.length_take]
          omega
        · rw [upd_same, List.take_add_one, hpp, List.map_append]
          rfl
      case fin2 =>
        obtain ⟨s4, hDj⟩ := hP
        rw [List.length_map, hpl2, List.take_length] at hDj
        have hD4 := s4 _ _ hDi
        have e1 : Hj D = some (.lst ((cs.map fun c => cLine c.1 c.2).map V.str)) := by rw [hD4, List.map_map]; rfl
        have e2 : Hj D2 = some (.lst ((bk.map fun p => partText p.1 p.2).map V.str)) := by rw [hDj, List.map_map]; rfl
        refine ⟨⟨_, rfl⟩, ?_⟩
        refine ⟨_, rfl, D, (cs.map fun c => cLine c.1 c.2).map V.str, rfl, .inr (SqL.of e1), ?_⟩
        refine ⟨_, rfl, D2, (bk.map fun p => partText p.1 p.2).map V.str, rfl, .inr (SqL.of e2), ?_⟩
        refine ⟨?_, fun l hl2 => ?_⟩
        · show ((cs.map fun (c : Str × Str) => cLine c.1 c.2).map V.str ++ ((bk.map fun (p : PartD) => partText p.1 p.2).map V.str ++ [])).length ≤ sizeLine
          rw [List.append_nil, List.length_append, List.length_map, List.length_map, List.length_map, List.length_map]
          omega
        · refine ⟨"\n", l, (cs.map fun c => cLine c.1 c.2) ++ bk.map fun p => partText p.1 p.2, rfl, rfl, .inl (SqL.of (by rw [upd_same, List.append_nil, List.map_append])), book_fits hc hcl hp hpl, ?_⟩
          exact q _ ((s3.trans s4).trans (Same.new hl2))
end
end Pn

namespace Pn
open PySem L2 TL
abbrev sBEq : Stmt := inClass (top 53) 13
abbrev sBLen : Stmt := inClass (top 53) 11
abbrev sBNum : Stmt := inClass (top 53) 5
abbrev sBPartOf : Stmt := inClass (top 53) 6
section
variable {P : Program} {w : World} {K : PySem.W.Frag} {mg : Str → Option Value} {base : Heap}
/-- a book that can be told as a text -/
def bookOk (cs : List (Str × Str)) (bk : List PartD) : Prop := (∀ c ∈ cs, c.1.length ≤ 100 ∧ c.2.length ≤ 100) ∧ cs.length ≤ 100 ∧ (∀ p ∈ bk, partOk p.1 p.2) ∧ bk.length ≤ 50
theorem bookOk_of {cs : List (Str × Str)} {bk : List PartD} (ok : BookV cs bk) : bookOk cs bk := by
  refine ⟨fun c hc => ?_, ok.c.len, ok.rows, ok.len⟩
  have h1 := (name_ok (ok.c.nm c hc)).2
  refine ⟨by omega, ?_⟩
  obtain ⟨i, hi⟩ := List.getElem?_of_mem hc
  rcases ok.c.up i c hi with z | z
  · rw [z]; decide +kernel
  · obtain ⟨d, hd, e⟩ := List.mem_map.mp z
    rw [← e]
    have := (name_ok (ok.c.nm d (List.mem_of_mem_take hd))).2
    omega
def rStrBook {R : TRows K mg} {T : TPart R} (B : TBk T) : List V → Hp → VK → Prop := fun xs H Q => ∃ (a : Addr) (cs : List (Str × Str)) (bk : List PartD), xs = [.ref a] ∧ BookAt B H a cs bk ∧ bookOk cs bk ∧ ∀ H', Same H H' → Q (.str (bookText cs bk)) H'
theorem call_strBook {X : Cx} {R : TRows X.K X.mg} {T : TPart R} {B : TBk T} (S : TBStr B) (hr : Room 10 X.A) : CallR X (.type "str") (rStrBook B) := by
  intro pins s σ H xs us Q I r h
  obtain ⟨a, cs, bk, rfl, hb, ok, q⟩ := h
  obtain ⟨dx, ct, pt, ft, ts, ps, us2, e, _⟩ := id hb
  exact call_strIns (ok_bStr S) S.str.hf hr S.str.b pass0 pins s σ H _ us Q I r ⟨a, _, dx, _, rfl, e, S.str.hs, a, cs, bk, rfl, hb, ok.1, ok.2.1, ok.2.2.1, ok.2.2.2, fun H' s' => ⟨_, rfl, q H' s'⟩⟩
theorem call_strBookK {X : Cx} {K : PySem.W.Frag} {mg : Str → Option Value} (hK : X.K = K) (hm : X.mg = mg) {R : TRows K mg} {T : TPart R} {B : TBk T} (S : TBStr B) (hr : Room 10 X.A) : CallR X (.type "str") (rStrBook B) := by
  subst hK
  subst hm
  exact call_strBook S hr
/-- what book == other wants -/
structure TBEq {K : PySem.W.Frag} {mg : Str → Option Value} {R : TRows K mg} {T : TPart R} (B : TBk T) : Type extends TBStr B where
  eq : TMeth K B.C "__eq__" "Book.__eq__" sBEq ["self", "other"]
  pA : PySem.W.findIn K (.ref B.C) "__class__" = some (some (.builtin "object.__class__"))
  pM : PySem.W.mroIn K B.C (.type "object") = some true
  kC : PySem.W.kitOne K (.ref B.C) (.ref B.C) = some true
  kS : PySem.W.kitOne K (.type "str") (.ref B.C) = some false
def spBEq {R : TRows K mg} {T : TPart R} (B : TBk T) : Sp := fun vs H Q _ => ∃ (a : Addr) (y : V) (cs : List (Str × Str)) (bk : List PartD), vs = [.ref a, y] ∧ BookAt B H a cs bk ∧ bookOk cs bk ∧
  ((∃ z, y = .str z ∧ Q (.bl false) H) ∨ ∃ (b : Addr) (cs2 : List (Str × Str)) (bk2 : List PartD), y = .ref b ∧ BookAt B H b cs2 bk2 ∧ bookOk cs2 bk2 ∧ ∀ H', Same H H' → Q (.bl (decide (bookText cs bk = bookText cs2 bk2))) H')
theorem scBEq : FnScope ["self", "other"] ["self", "other"] (defScope sBEq) := ⟨rfl, rfl, rfl, by decide +kernel, rfl, by decide +kernel, by decide +kernel⟩
theorem ok_bEq {R : TRows K mg} {T : TPart R} {B : TBk T} (S : TBEq B) : FnOk P w K mg base CX0 11 S.eq.f S.eq.fd ["self", "other"] (spBEq B) := by
  refine S.eq.F.ok scBEq (fun vs H Q E h => ?_) (fun cdv A outer s H vs Q E hr h => ?_)
  · obtain ⟨a, y, cs, bk, rfl, _⟩ := h
    rfl
  · obtain ⟨a, y, cs, bk, rfl, ha, hok, q⟩ := h
    refine ⟨_, pss_one (ps_ret (pe_and (pe_callB call_isi (by rfl) R.N.mIsi (by decide +kernel) (pa_cons (pv 1) (pa_cons (pe_glob (v := .ref B.C) (by rfl) B.mC rfl) pa_nil)))
      (pe_one (pe_cmpR op_eq (pe_callTy (call_strBookK (K := K) (mg := mg) rfl rfl S.toTBStr hr) (by rfl) R.N.mStr (by decide +kernel) (pa_cons (pv 0) pa_nil)) (pe_callTy (call_strBookK (K := K) (mg := mg) rfl rfl S.toTBStr hr) (by rfl) R.N.mStr (by decide +kernel) (pa_cons (pv 1) pa_nil)) (nomark _))))), ?_⟩
    rcases q with ⟨z, rfl, q⟩ | ⟨b, cs2, bk2, rfl, hb, hokb, q⟩
    · refine ⟨_, rfl, .str z, .ref B.C, _, _, false, rfl, .own _, .base (.str z), S.kS, _, rfl, iteF ?_⟩
      exact q
    · obtain ⟨dy, _, _, _, _, _, _, hb2, _⟩ := id hb
      refine ⟨_, rfl, .ref b, .ref B.C, _, _, true, rfl, .own _, .base (.ins hb2 B.cl S.pA T.cN T.cT S.pM), S.kC, _, rfl, iteT ?_⟩
      refine ⟨_, rfl, a, cs, bk, rfl, ha, hok, fun H1 s1 => ⟨_, rfl, b, cs2, bk2, rfl, hb.same s1, hokb, fun H2 s2 => ⟨rfl, ?_⟩⟩⟩
      have e : decide (V.str (bookText cs bk) = V.str (bookText cs2 bk2)) = decide (bookText cs bk = bookText cs2 bk2) := by
        by_cases h : bookText cs bk = bookText cs2 bk2
        · rw [h, decide_eq_true rfl, decide_eq_true rfl]
        · rw [decide_eq_false h, decide_eq_false (fun z => h (V.str.inj z))]
      rw [e]
      exact q H2 (s1.trans s2)
/-! ### len(book) -/
theorem scBLen : FnScope ["self"] ["self"] (defScope sBLen) := ⟨rfl, rfl, rfl, by decide +kernel, rfl, by decide +kernel, by decide +kernel⟩
def spBLen {R : TRows K mg} {T : TPart R} (B : TBk T) : Sp := fun vs H Q _ => ∃ (a : Addr) (cs : List (Str × Str)) (bk : List PartD), vs = [.ref a] ∧ BookAt B H a cs bk ∧ Q (.int (bk.length : Int)) H
theorem ok_bLen {R : TRows K mg} {T : TPart R} {B : TBk T} (L : TMeth K B.C "__len__" "Book.__len__" sBLen ["self"]) : FnOk P w K mg base CX0 1 L.f L.fd ["self"] (spBLen B) := by
  refine L.F.ok scBLen (fun vs H Q E h => ?_) (fun cdv A outer s H vs Q E hr h => ?_)
  · obtain ⟨a, cs, bk, rfl, _⟩ := h
    rfl
  · obtain ⟨a, cs, bk, rfl, ⟨dx, ct, pt, ft, ts, ps, us, ha, _, ⟨hpt, hps⟩, _, _⟩, q⟩ := h
    refine ⟨_, pss_one (ps_ret (pe_callB call_len_seq (by rfl) R.N.mLen PySem.boot_len (pa_cons (pe_fld (pv 0) rfl) pa_nil))), ?_⟩
    have e : (((ps.map V.ref).length : Nat) : Int) = bk.length := by rw [List.length_map, show ps.length = bk.length from paired_len hps]
    exact ⟨_, rfl, a, B.C, dx, _, .ref pt, rfl, ha, B.cl, B.noP, book_p, pt, _, rfl, .inr hpt, by rw [e]; exact q⟩
end
end Pn

namespace Pn
open PySem L2 TL
/-! ### a book stands apart from lists -/
section
variable {P : Program} {w : World} {K : PySem.W.Frag} {mg : Str → Option Value} {base : Heap}
theorem sqt_hid {H : Hp} {b a : Addr} {xs zs : List V} (hb : H b = some (.lst xs)) (h : SqT K H a zs) : SqT K (hid H b) a zs := by
  rcases h with (s | ⟨u, s⟩) | s
  · exact .inl (.inl (hid_get s fun z => by rw [z, hb] at s; cases s))
  · exact .inl (.inr ⟨u, hid_get s fun z => by rw [z, hb] at s; cases s⟩)
  · exact .inr s
theorem rowsin_hid {R : TRows K mg} {H : Hp} {b : Addr} {xs : List V} (hb : H b = some (.lst xs)) {us : List Addr} {rs : List RowD} (h : RowsIn R H us rs) : RowsIn R (hid H b) us rs :=
  paired_mono (fun a r e => by
    obtain ⟨dy, e⟩ := e
    obtain ⟨gs, eg⟩ := insRow_ins R dy r
    exact ⟨dy, hid_get e fun z => by rw [z, hb, eg] at e; cases e⟩) h
theorem ptat_hid {R : TRows K mg} {T : TPart R} {H : Hp} {b : Addr} {xs : List V} (hb : H b = some (.lst xs)) {a : Addr} {n : Str} {rs : List RowD} (h : PtAt T H a n rs) : PtAt T (hid H b) a n rs := by
  obtain ⟨dx, tp, us, h1, h2, h3⟩ := h
  exact ⟨dx, tp, us, hid_get h1 (fun z => by rw [z, hb] at h1; cases h1), sqt_hid hb h2, rowsin_hid hb h3⟩
theorem book_hid {R : TRows K mg} {T : TPart R} {B : TBk T} {H : Hp} {b a : Addr} {xs : List V} {cs : List (Str × Str)} {bk : List PartD} (hb : H b = some (.lst xs)) (h : BookAt B H a cs bk) : BookAt B (hid H b) a cs bk := by
  obtain ⟨dx, ct, pt, ft, ts, ps, us, h1, ⟨⟨o, d, h2⟩, h3⟩, ⟨h4, h5⟩, h6, h7⟩ := h
  exact ⟨dx, ct, pt, ft, ts, ps, us, hid_get h1 (fun z => by rw [z, hb] at h1; cases h1), ⟨⟨o, d, hid_get h2 fun z => by rw [z, hb] at h2; cases h2⟩, paired_mono (fun _ _ e => sqt_hid hb e) h3⟩, ⟨sqt_hid hb h4, paired_mono (R := fun a (q : PartD) => PtAt T H a q.1 q.2) (fun _ _ e => ptat_hid hb e) h5⟩, sqt_hid hb h6, rowsin_hid hb h7⟩
theorem hid_upd_sub {H : Hp} {b : Addr} {o : HO} : Same (hid H b) (upd H b o) := fun a u e => by
  have h := hid_sub a u e
  have n : a ≠ b := fun z => by rw [z] at e; unfold hid at e; rw [if_pos rfl] at e; cases e
  rw [upd_ne n]
  exact h
theorem book_lst {R : TRows K mg} {T : TPart R} {B : TBk T} {H : Hp} {b a : Addr} {xs ys : List V} {cs : List (Str × Str)} {bk : List PartD} (hb : H b = some (.lst xs)) (h : BookAt B H a cs bk) : BookAt B (upd H b (.lst ys)) a cs bk := (book_hid hb h).same hid_upd_sub
theorem kp_same {b : Addr} {H H' : Hp} (k : Kp b H H') : Same (hid H b) H' := fun a o e => by
  have n : a ≠ b := fun z => by rw [z] at e; unfold hid at e; rw [if_pos rfl] at e; cases e
  exact k a o (hid_sub a o e) n
theorem book_kp {R : TRows K mg} {T : TPart R} {B : TBk T} {H H' : Hp} {b a : Addr} {cs : List (Str × Str)} {bk : List PartD} (hb : BoxAt H b) (k : Kp b H H') (h : BookAt B H a cs bk) : BookAt B H' a cs bk := by
  obtain ⟨x, y, _, e⟩ := hb
  exact (book_hid e h).same (kp_same k)
theorem part_one {bk : List PartD} (nd : (bk.map (·.1)).Nodup) {p q : PartD} (hp : p ∈ bk) (hq : q ∈ bk) (e : p.1 = q.1) : p = q := by
  induction bk with
  | nil => cases hp
  | cons r bk ih =>
    rw [List.map_cons, List.nodup_cons] at nd
    rcases List.mem_cons.mp hp with h1 | h1
    · rcases List.mem_cons.mp hq with h2 | h2
      · rw [h1, h2]
      · exact absurd (List.mem_map.mpr ⟨q, h2, by rw [← e, h1]⟩) nd.1
    · rcases List.mem_cons.mp hq with h2 | h2
      · exact absurd (List.mem_map.mpr ⟨p, h1, by rw [e, h2]⟩) nd.1
      · exact ih nd.2 h1 h2
end
end Pn

namespace Pn
open PySem L2 TL
/-! ### the unrolled text has no put rows, and a book of it alone is good -/
def isPut : RowD → Bool
  | .put _ => true
  | _ => false
theorem knowns_noPut {bk : List PartD} (e : Earlier bk) : ∀ i, i ≤ bk.length → ∀ z rs, (z, rs) ∈ knowns (bk.take i) → ∀ r ∈ rs, isPut r = false := by
  intro i
  induction i with
  | zero => intro _ z rs hm; cases hm
  | succ i ih =>
    intro hi z rs hm
    have lt : i < bk.length := hi
    have hp : bk[i]? = some bk[i] := List.getElem?_eq_getElem lt
    have hkt : knowns (bk.take (i + 1)) = (bk[i].1, unrollIn (knowns (bk.take i)) bk[i].2) :: knowns (bk.take i) := by
      rw [List.take_add_one, hp]
      exact knowns_snoc _ _
    rw [hkt] at hm
    have ih2 := ih (by omega)
    rcases List.mem_cons.mp hm with q | hm
    · injection q with q1 q2
      subst q2
      intro r hr
      obtain ⟨r0, h0, h1⟩ := List.mem_flatMap.mp hr
      cases r0 with
      | put y =>
        have hy : y ∈ (knowns (bk.take i)).map (·.1) := by rw [knowns_len]; exact List.mem_reverse.mpr (e i _ hp y h0)
        obtain ⟨rs2, g1, g2⟩ := lookup_of_mem hy
        have h1 : r ∈ ((knowns (bk.take i)).lookup y).getD [] := h1
        rw [g1] at h1
        exact ih2 y rs2 g2 r h1
      | _ => rw [List.mem_singleton.mp h1]; rfl
    · exact ih2 z rs hm
theorem flat_noPut {bk : List PartD} (e : Earlier bk) : ∀ r ∈ unrolled bk, isPut r = false := by
  intro r hr
  unfold unrolled at hr
  cases hk : knowns bk with
  | nil => rw [hk] at hr; cases hr
  | cons a l =>
    rw [hk] at hr
    exact knowns_noPut e bk.length (Nat.le_refl _) a.1 a.2 (by rw [List.take_length, hk]; exact List.mem_cons_self) r hr
theorem unroll_flat (kn : List PartD) : ∀ {rs : List RowD}, (∀ r ∈ rs, isPut r = false) → unrollIn kn rs = rs
  | [], _ => rfl
  | r :: rs, h => by
    have ih := unroll_flat kn (rs := rs) fun x hx => h x (List.mem_cons_of_mem _ hx)
    have e : unrollIn kn (r :: rs) = expand kn r ++ unrollIn kn rs := rfl
    have h1 := h r List.mem_cons_self
    rw [e, ih]
    cases r with
    | put y => cases h1
    | _ => rfl
/-- the book with the unrolled text as its only part has the same unrolled text -/
theorem flat_same {bk : List PartD} (e : Earlier bk) (n : Str) : unrolled [(n, unrolled bk)] = unrolled bk := by
  show unrollIn [] (unrolled bk) = unrolled bk
  exact unroll_flat [] (flat_noPut e)
/-- a part ahead that nothing puts changes nothing -/
theorem idle_knowns (n : Str) (rs : List RowD) : ∀ (bk kn : List PartD), (∀ p ∈ bk, RowD.put n ∉ p.2) →
    ∃ k, bk.foldl (fun kn p => (p.1, unrollIn kn p.2) :: kn) (kn ++ [(n, rs)]) = k ++ [(n, rs)] ∧ bk.foldl (fun kn p => (p.1, unrollIn kn p.2) :: kn) kn = k
  | [], kn, _ => ⟨kn, rfl, rfl⟩
  | p :: bk, kn, h => by
    have look : ∀ z, z ≠ n → (kn ++ [(n, rs)]).lookup z = kn.lookup z := fun z hz => by
      rw [List.lookup_append]
      have : List.lookup z [(n, rs)] = none := by
        rw [List.lookup_cons, show (z == n) = false from by simpa using hz]
        rfl
      rw [this, Option.or_none]
    have hu : ∀ l : List RowD, RowD.put n ∉ l → unrollIn (kn ++ [(n, rs)]) l = unrollIn kn l := by
      intro l
      induction l with
      | nil => intro _; rfl
      | cons r l ih =>
        intro hl
        have e1 : ∀ k : List PartD, unrollIn k (r :: l) = expand k r ++ unrollIn k l := fun _ => rfl
        rw [e1, e1, ih fun x => hl (List.mem_cons_of_mem _ x)]
        congr 1
        cases r with
        | put z =>
          have hz : z ≠ n := fun e => hl (by rw [e]; exact List.mem_cons_self)
          show ((kn ++ [(n, rs)]).lookup z).getD [] = (kn.lookup z).getD []
          rw [look z hz]
        | _ => rfl
    obtain ⟨k, h1, h2⟩ := idle_knowns n rs bk ((p.1, unrollIn kn p.2) :: kn) fun q hq => h q (List.mem_cons_of_mem _ hq)
    refine ⟨k, ?_, h2⟩
    rw [List.foldl_cons, hu p.2 (h p List.mem_cons_self)]
    exact h1
theorem idle_same {bk : List PartD} (ne : bk ≠ []) {n : Str} {rs : List RowD} (h : ∀ p ∈ bk, RowD.put n ∉ p.2) : unrolled ((n, rs) :: bk) = unrolled bk := by
  obtain ⟨k, h1, h2⟩ := idle_knowns n (unrollIn [] rs) bk [] h
  have e1 : knowns ((n, rs) :: bk) = k ++ [(n, unrollIn [] rs)] := h1
  have e2 : knowns bk = k := h2
  unfold unrolled
  rw [e1, e2]
  cases k with
  | nil =>
    have q := knowns_len bk
    rw [e2] at q
    have : bk = [] := by
      cases bk with
      | nil => rfl
      | cons a l => simp at q
    exact absurd this ne
  | cons a l => rfl
end Pn

namespace Pn
open PySem L2 TL
section
variable {P : Program} {w : World} {K : PySem.W.Frag} {mg : Str → Option Value} {base : Heap}
theorem book_inst2 {R : TRows K mg} {T : TPart R} {B : TBk T} {H : Hp} {a : Addr} {cs : List (Str × Str)} {bk : List PartD} (h : BookAt B H a cs bk) {x : Str} (hx : x ≠ "flat" ∧ x ≠ "parts" ∧ x ≠ "counters") : ∃ dx fs, H a = some (.ins B.C dx fs) ∧ fs.lookup x = none := by
  obtain ⟨dx, ct, pt, ft, ts, ps, us, he, _⟩ := h
  refine ⟨dx, _, he, ?_⟩
  rw [lookup_putF, if_neg hx.1, lookup_putF, if_neg hx.2.1, lookup_putF, if_neg hx.2.2]
  rfl
end
end Pn

namespace Pn
open PySem PySem.Spec PyProof.Rows L2
/-! ### enumerate(tuple) -/
section
open AutoSeq1 (wpAny_loadPart')
set_option maxHeartbeats 2000000 in
theorem enum_newT (t : Addr) (its : Array Value) (n : Nat) (dct : Option Addr) (sl : Array (Option Value)) :
    Meets (Builtin.«enumerate.__new__» ⟨[.type "enumerate", .ref t], []⟩) (fun _ R s => s.heap.get? t = some { cls := .type "tuple", dict := dct, data := .seq its n, slots := sl } ∧
      R (.ok (.ret (.ref (s.heap.push { cls := .type "tuple_iterator", data := .fields #[.ref t, .int 0 0] }).objs.size)))
        { s with heap := (s.heap.push { cls := .type "tuple_iterator", data := .fields #[.ref t, .int 0 0] }).push { cls := .type "enumerate", data := .fields #[.none, .bool false, .ref s.heap.objs.size, rawInt 0, .none, .none] } }) :=
  .of_wp fun prog w A R s h => by
    obtain ⟨hp, g, d, tk, os⟩ := s
    obtain ⟨ht, h⟩ := h
    have e1 := sub_enumerate
    have hL : Heap.IsTuple (Shared.heap ⟨hp, g, d, tk, os⟩) t its := ⟨_, ht, rfl, n, rfl⟩
    wp_walk using wpAny_loadPart' ht
    refine wpAny_stack_any fun st => wpAny_pure ?_
    split
    · rename_i c _ _ _ _ _
      cases (c == Value.type "enumerate") <;> (wp_walk using wpAny_loadPart' ht, wpAny_pyIter_tuple hL; exact ⟨_, rfl, h⟩)
    · wp_walk using wpAny_loadPart' ht, wpAny_pyIter_tuple hL
      exact ⟨_, rfl, h⟩
end
section
variable {prog : Program} {w : World} {A : Around} {E : Value → Shared → Prop} {s : Shared}
theorem enum_callT {t : Addr} {its : Array Value} {Q : Value → Shared → Prop} (hL : s.heap.IsTuple t its)
    (h : ∀ h', IsEnum h' (s.heap.objs.size + 1) s.heap.objs.size 0 .none → h'.IsTupleIter s.heap.objs.size t 0 → h'.objs.size = s.heap.objs.size + 2 →
      (∀ b o, s.heap.get? b = some o → h'.get? b = some o) → Q (.ref (s.heap.objs.size + 1)) { s with heap := h' }) :
    wpAny (model prog w) A (call (.type "enumerate") [.ref t]) Q E s := by
  obtain ⟨⟨c, dct, dt, sl⟩, hl, hc, n, hd⟩ := hL
  simp only at hc hd
  subst hc hd
  refine callType_new F.called_enumerate (by decide) (F.typeCall_enumerate_1 _) (F.newCall_enumerate_1 _) (fun z => F.args_object_init_2 z _) F.entry_enumerate_new (enum_newT t its n dct sl) ⟨hl, ?_⟩
  have hz : (s.heap.push { cls := .type "tuple_iterator", data := .fields #[.ref t, .int 0 0] }).objs.size = s.heap.objs.size + 1 := Heap.size_push ..
  show _ ∧ _
  rw [hz]
  have he : IsEnum ((s.heap.push { cls := .type "tuple_iterator", data := .fields #[.ref t, .int 0 0] }).push { cls := .type "enumerate", data := .fields #[.none, .bool false, .ref s.heap.objs.size, rawInt 0, .none, .none] })
      (s.heap.objs.size + 1) s.heap.objs.size 0 .none := by
    have q := Heap.get?_push_size (s.heap.push { cls := .type "tuple_iterator", data := .fields #[.ref t, .int 0 0] }) (o := { cls := .type "enumerate", data := .fields #[.none, .bool false, .ref s.heap.objs.size, rawInt 0, .none, .none] }) rfl
    rw [hz] at q
    exact q
  exact ⟨⟨_, he, rfl⟩, h _ he ⟨_, Heap.get?_push_of_some _ (Heap.get?_push_size _ rfl), rfl, rfl⟩ (by rw [Heap.size_push, hz]) fun b o x => Heap.get?_push_of_some _ (Heap.get?_push_of_some _ x)⟩
end
section
variable {prog : Program} {w : World} {A : Around} {E : Value → Shared → Prop} {s : Shared}
theorem enum_outT {e it t : Addr} {its : Array Value} {i : Nat} {old : Value} {Q : Option Value → Shared → Prop} (hh : A.handled = none) (he : IsEnum s.heap e it ((i : Nat) : Int) old) (hit : s.heap.IsTupleIter it t i) (hp : s.heap.IsTuple t its) (hi : its.size ≤ i)
    (hQ : ∀ h', Heap.ExtBut it s.heap h' → Q none { s with heap := h' }) : wpAny (model prog w) A (pyNext (.ref e)) Q E s := by
  have D : Draws prog w A.in1 it [it, t] i (fun _ _ => False) (fun j h => j = i ∧ h.IsTupleIter it t i ∧ h.IsTuple t its) := {
    live := fun _ _ st => by obtain ⟨_, ⟨o, ho, _⟩, _⟩ := st; exact ⟨o, ho⟩
    frame := fun _ _ _ st hk => ⟨st.1, st.2.1.at fun o e => hk it (by simp) o e, st.2.2.at fun o e => hk t (by simp) o e⟩
    item := fun j s Q E hj st _ => absurd st.1 (Nat.ne_of_lt hj)
    done := fun s Q E st hE => wpAny_nextOf_tuple_end hh st.2.1 st.2.2 (by simp [hi]) hE }
  exact wpAny_pyNext_enum_endD D he ⟨rfl, hit, hp⟩ hQ
end
/-- the things of the tuple at t with their numbers, each in a new pair -/
def IteT (K : PySem.W.Frag) (t : Addr) : It :=
  ⟨fun i H => ∃ (xs : List V) (x : V), SqT K H t xs ∧ xs[i]? = some x, fun i H v H' => ∃ T x, v = .ref T ∧ H T = none ∧ H' = upd H T (.tup [.int (i : Nat), x]) ∧ ∀ xs, SqT K H t xs → xs[i]? = some x, fun i H => ∃ xs : List V, SqT K H t xs ∧ xs.length ≤ i⟩
theorem tup_apart {h : Heap} {t e it : Addr} {its : Array Value} {i : Nat} {c : Int} {old : Value} (p : h.IsTuple t its) (he : IsEnum h e it c old) (hit : h.IsTupleIter it t i) : t ≠ it ∧ t ≠ e := by
  obtain ⟨o, ho, hc, _⟩ := p
  constructor
  · intro z
    subst z
    obtain ⟨o2, ho2, hc2, _⟩ := hit
    rw [ho] at ho2
    cases Option.some.inj ho2
    rw [hc] at hc2
    exact absurd hc2 (by decide)
  · intro z
    subst z
    have q : h.get? t = some _ := he
    rw [ho] at q
    have e2 := Option.some.inj q
    rw [e2] at hc
    have e3 : Value.type "enumerate" = Value.type "tuple" := hc
    exact absurd e3 (by decide)
theorem turn_enumT {P : Program} {w : World} {K : PySem.W.Frag} {elts : List Expr} {kk : Nat} {tpos : Pos} (t e it : Addr) :
    Turn P w K (.Tuple elts kk tpos) (IteT K t) [e, it] e (fun i h => (∃ old, IsEnum h e it ((i : Nat) : Int) old) ∧ h.IsTupleIter it t i ∧ e ≠ it) where
  mem := by simp
  obj := fun i h st b hb => by
    obtain ⟨⟨old, he⟩, ⟨o, ho, hc, hd⟩, _⟩ := st
    have e' : b = e ∨ b = it := by simpa using hb
    rcases e' with z | z
    · rw [z]; exact ⟨_, he, fun v q => nomatch q⟩
    · rw [z]; exact ⟨o, ho, fun v q => by rw [hd] at q; cases q⟩
  keep := fun i h h' st k => by
    obtain ⟨⟨old, he⟩, hi, hne⟩ := st
    exact ⟨⟨old, k e (by simp) _ he⟩, hi.at fun o q => k it (by simp) o q, hne⟩
  item := by
    intro X hP hw hK hc i pins s σ H E I hf st hg
    subst hP hw hK
    obtain ⟨⟨old, he⟩, hit, hne⟩ := st
    obtain ⟨xs, x, hq, hx⟩ := hg
    obtain ⟨its, rv, p, hz⟩ := I.tuple hq
    obtain ⟨u, hu, ru⟩ := rv.get hx
    obtain ⟨n1, n2⟩ := tup_apart p he hit
    have hel : e < s.heap.objs.size := Heap.lt_size he
    have hil : it < s.heap.objs.size := by
      obtain ⟨_, q, _⟩ := hit
      exact Heap.lt_size q
    have hn : i < its.toArray.size := by
      rw [List.size_toArray]
      exact (List.getElem?_eq_some_iff.mp hu).1
    refine wpAny_pyNext_enum_itemD (Draws.tuple (prog := X.prog) (w := X.w) (A := X.A.in1) (I.ok.hd hc) it t n1 its.toArray) he ⟨hit, p⟩ hn hne (by simp [hne, Ne.symm n2]) fun y h' tk hy ho hs hT hsz hk => ?_
    have ey : y = u := by
      rw [List.getElem?_toArray, hu] at hy
      exact (Option.some.inj hy).symm
    subst ey
    refine ⟨_, rfl, wpAny_letOwnedTupleGo_enum (s := { s with heap := h', toks := tk + 1 }) ho fun h'' he' sb => ?_⟩
    have hT2 : h''.get? s.heap.objs.size = some { cls := .type "tuple", data := .seq #[.int i tk, y] } := (sb.2 _ (Nat.ne_of_gt hel)).trans hT
    have new : ObjOk X.prog X.w (upd H s.heap.objs.size (.tup [.int (i : Nat), x])) h'' s.heap.objs.size (.tup [.int (i : Nat), x]) :=
      ⟨by show 2 ≤ sizeLine; decide, [.int i tk, y], .cons ⟨_, rfl⟩ (.cons ru .nil), ⟨_, hT2, rfl, _, rfl⟩⟩
    have I1 : Inv X pins σ (upd H s.heap.objs.size (.tup [.int (i : Nat), x])) { s with heap := h'', toks := tk + 1 } :=
      I.turnedNew (ch := [e, it]) (fun b ob hb q => by
        have b1 : b ≠ e := fun z => hb (by simp [z])
        have b2 : b ≠ it := fun z => hb (by simp [z])
        exact (sb.2 b b1).trans (hk b ob b1 b2 q)) hf (Nat.le_refl _) new
    refine ⟨.ref s.heap.objs.size, _, I1, rfl, ⟨_, x, rfl, I.hok.fresh (Nat.le_refl _), rfl, fun ys hy2 => by rw [I.tuple_inj hy2 hq]; exact hx⟩, ⟨⟨y, ?_⟩, hs.1.at fun o q => (sb.2 it (Ne.symm hne)).trans q, hne⟩, fun b hb => ?_⟩
    · rw [show ((i + 1 : Nat) : Int) = (i : Int) + 1 by omega]
      exact he'
    · have hb' : b < s.heap.objs.size := by
        have e2 : b = e ∨ b = it := by simpa using hb
        rcases e2 with rfl | rfl
        · exact hel
        · exact hil
      rw [upd_ne (Nat.ne_of_lt hb')]
      exact (hf b hb).1
  done := by
    intro X hP hw hK hc i pins s σ H E I hf st hg
    subst hP hw hK
    obtain ⟨⟨old, he⟩, hit, hne⟩ := st
    obtain ⟨xs, hq, hx⟩ := hg
    obtain ⟨its, rv, p, hz⟩ := I.tuple hq
    obtain ⟨n1, n2⟩ := tup_apart p he hit
    obtain ⟨f0, f1, f2, f3, f4, f5⟩ := hf it (by simp)
    have D := Draws.tuple (prog := X.prog) (w := X.w) (A := X.A.in1) (I.ok.hd hc) it t n1 its.toArray
    exact enum_outT (A := X.A) (I.ok.hd hc) he hit p (by rw [List.size_toArray, ← rv.length]; exact hx) fun h' eb => ⟨rfl, I.turned (t' := s.toks) (fun b o hb q => eb b o hb q) f0 f1 f3 f4 f5⟩
  self := fun A i s Q E st h => by
    obtain ⟨⟨_, he⟩, _⟩ := st
    exact wpAny_pyIter_enum he h
def iEnumT (K : PySem.W.Frag) (ta : TA) : TI := fun σ H R => ta σ H fun vs H1 => ∃ t xs, vs = [.ref t] ∧ SqT K H1 t xs ∧ R (IteT K t) H1
theorem pi_enumT {X : Cx} {e : Expr} {ta : TA} {p pos tpos : Pos} {elts : List Expr} {kk : Nat} (hg : Gl X "enumerate") (hm : X.mg "enumerate" = none) (ha : PA X [e] ta) (hs : starEach [e] X.env = [(false, eval e X.env)] := by rfl) :
    PI X (.Tuple elts kk tpos) (.Call (.Name "enumerate" p) [e] [] pos) (iEnumT X.K ta) := by
  refine ⟨fun pins s σ H R I h => ?_⟩
  refine Call_ (ld_blt I hg hm boot_enumerate (PyProof.Rows.callWith_type1 (thn (ha.run pos pins s σ H _ I h) fun us s1 hu => ?_) hs rfl))
  obtain ⟨vs, H1, I1, r1, t, xs, rfl, hq, q⟩ := hu
  cases r1 with
  | cons r rr =>
    cases rr
    cases r
    obtain ⟨its, rv, p', hz⟩ := I1.tuple hq
    refine enum_callT p' fun h' he hit hsz hk => wpAny_pyIter_enum he ?_
    have I2 : Inv X pins σ H1 { s1 with heap := h' } := I1.kept (t' := s1.toks) hk
    refine ⟨s1.heap.objs.size + 1, [s1.heap.objs.size + 1, s1.heap.objs.size], _, _, H1, rfl, I2, turn_enumT t (s1.heap.objs.size + 1) s1.heap.objs.size, ⟨⟨.none, he⟩, hit, Nat.succ_ne_self _⟩, fun b hb => ?_, q⟩
    have hle : s1.heap.objs.size ≤ b := by
      have e2 : b = s1.heap.objs.size + 1 ∨ b = s1.heap.objs.size := by simpa using hb
      rcases e2 with rfl | rfl
      · exact Nat.le_succ _
      · exact Nat.le_refl _
    exact I1.fpOk hle (I1.hok.fresh hle)
theorem walk_enumT {K : PySem.W.Frag} {t : Addr} {xs : List V} : Walk (IteT K t) xs.length (fun H => SqT K H t xs) (YPair (fun i => some (.int (i : Nat))) (fun i => xs[i]?)) :=
  ⟨fun i _ hi q => ⟨xs, xs[i], q, by simp [hi]⟩, fun _ q => ⟨xs, q, Nat.le_refl _⟩, fun i H v H' _ q y => by
    obtain ⟨T, x, h1, h2, h3, h4⟩ := y
    exact ⟨T, .int (i : Nat), x, h1, h2, h3, rfl, h4 xs q⟩⟩
end Pn

namespace Pn
open PySem L2 TL
/-! ### book.number_of of names that are there -/
/-- what book.number_of wants -/
structure TBNum {K : PySem.W.Frag} {mg : Str → Option Value} {R : TRows K mg} {T : TPart R} (B : TBk T) : Type where
  num : TMeth K B.C "number_of" "Book.number_of" sBNum ["self", "name"]
  mEn : mg "enumerate" = none
section
variable {P : Program} {w : World} {K : PySem.W.Frag} {mg : Str → Option Value} {base : Heap}
/-- the number of the part with a name -/
def numOf (bk : List PartD) (z : Str) : Nat := (bk.map (·.1)).idxOf z
theorem numOf_at {bk : List PartD} {z : Str} (h : z ∈ bk.map (·.1)) : ∃ p, bk[numOf bk z]? = some p ∧ p.1 = z ∧ numOf bk z < bk.length := by
  have hl := List.idxOf_lt_length_of_mem h
  rw [List.length_map] at hl
  refine ⟨bk[numOf bk z]'hl, List.getElem?_eq_getElem hl, ?_, hl⟩
  have q := List.getElem_idxOf (List.idxOf_lt_length_of_mem h)
  rw [List.getElem_map] at q
  exact q
theorem numOf_first {bk : List PartD} {z : Str} {i : Nat} {p : PartD} (hp : bk[i]? = some p) (hi : i < numOf bk z) : p.1 ≠ z := by
  intro e
  have h1 : (bk.map (·.1))[i]? = some z := by rw [List.getElem?_map, hp]; exact congrArg some e
  obtain ⟨hl, e2⟩ := List.getElem?_eq_some_iff.mp h1
  have q := List.not_of_lt_findIdx (p := (· == z)) (xs := bk.map (fun p : PartD => p.1)) (i := i) hi
  rw [e2, beq_self_eq_true] at q
  cases q
def spBNum {R : TRows K mg} {T : TPart R} (B : TBk T) : Sp := fun vs H Q _ => ∃ (a : Addr) (z : Str) (cs : List (Str × Str)) (bk : List PartD), vs = [.ref a, .str z] ∧ BookAt B H a cs bk ∧ z ∈ bk.map (·.1) ∧ ∀ H', Same H H' → Q (.int ((numOf bk z : Nat) : Int)) H'
theorem scBNum : FnScope ["self", "name", "number", "part"] ["self", "name"] (defScope sBNum) := ⟨rfl, rfl, rfl, by decide +kernel, rfl, by decide +kernel, by decide +kernel⟩
theorem ok_bNum {R : TRows K mg} {T : TPart R} {B : TBk T} (G : TBNum B) : FnOk P w K mg base CX0 1 G.num.f G.num.fd ["self", "name"] (spBNum B) := by
  refine G.num.F.ok scBNum (fun vs H Q E h => ?_) (fun cdv A outer s H vs Q E hr h => ?_)
  · obtain ⟨a, z, cs, bk, rfl, _⟩ := h
    rfl
  · obtain ⟨a, z, cs, bk, rfl, ⟨dx, ct, pt, ft, ts, ps, us, ha, _, ⟨hpt, hps⟩, _, _⟩, hz, q⟩ := h
    refine ⟨_, pss_cons (ps_for PassesOwn.never rfl (pi_enumT (by rfl) G.mEn (pa_cons (pe_fld (pv 0) rfl) pa_nil)) (pg_tup (by rfl) (pgs_cons (pg_name (i := 2) scBNum.nd rfl (Or.inl rfl)) (pgs_cons (pg_name (i := 3) scBNum.nd rfl (Or.inl rfl)) pgs_nil)))
      (pss_one (ps_if (pt_cmpR op_eq (pe_fld (pv 3) rfl) (pv 1) (nomark _)) (pss_one (ps_ret (pv 2))) pss_nil))) pss_never, ?_⟩
    have hpl : ps.length = bk.length := paired_len hps
    obtain ⟨p0, hp0, ep0, hlt⟩ := numOf_at hz
    refine ⟨_, rfl, a, B.C, dx, _, .ref pt, rfl, ha, B.cl, B.noP, book_p, pt, ps.map V.ref, rfl, hpt, for_it (n := (ps.map V.ref).length) walk_enumT (fun i σ Hi => ∃ x2 x3, σ = [some (.ref a), some (.str z), x2, x3] ∧ Same H Hi ∧ i ≤ numOf bk z) ⟨_, _, rfl, Same.refl _, Nat.zero_le _⟩ (fun i σ Hi _ hP => by obtain ⟨_, _, _, s, _⟩ := hP; exact Same.sqt s hpt) (fun i x σ Hi Hi' hi hP hY => ?turn) (fun σ Hi hP => ?fin)⟩
    case fin =>
      obtain ⟨_, _, _, _, h⟩ := hP
      rw [List.length_map] at h
      omega
    case turn =>
      obtain ⟨x2, x3, rfl, si, hin⟩ := hP
      obtain ⟨T', xx, yy, rfl, hT', rfl, e1, e2⟩ := hY
      obtain rfl : V.int (i : Int) = xx := Option.some.inj e1
      have e2 : (ps.map V.ref)[i]? = some yy := e2
      obtain ⟨u, p, hu, hp, rfl, hpa⟩ := pts_at hps e2
      obtain ⟨dy, tp, us2, hpu, hp2, hp3⟩ := hpa
      have sk := Same.new (o := .tup [.int (i : Int), .ref u]) hT'
      have hpu' := sk _ _ (si _ _ hpu)
      refine ⟨T', _, rfl, SqT.of upd_same, rfl, _, _, rfl, _, _, rfl, rfl, ?_⟩
      refine ⟨_, rfl, u, T.C, dy, _, .str p.1, rfl, hpu', T.cl, T.noN, part_name, _, rfl, rfl, _, rfl, ?_⟩
      by_cases h : p.1 = z
      · refine iteTD (decide_eq_true (by rw [h])) ⟨_, rfl, ?_⟩
        have en : i = numOf bk z := by
          rcases Nat.lt_or_ge i (numOf bk z) with g | g
          · exact absurd h (numOf_first hp g)
          · omega
        rw [en] at sk
        rw [← en] at sk
        have := q _ (si.trans sk)
        rw [← en] at this
        exact this
      · refine iteFD (decide_eq_false fun e => h (V.str.inj e)) ?_
        refine ⟨_, _, rfl, si.trans sk, ?_⟩
        rcases Nat.lt_or_ge i (numOf bk z) with g | g
        · exact g
        · have en : i = numOf bk z := by omega
          rw [en, hp0] at hp
          obtain rfl := Option.some.inj hp
          exact absurd ep0 h
end
end Pn

namespace Pn
open PySem L2 TL
abbrev sRowOf : Stmt := top 83
section
variable {P : Program} {w : World} {K : PySem.W.Frag} {mg : Str → Option Value} {base : Heap}
theorem scRowOf : FnScope ["_law_row_here"] ["_law_row_here"] (defScope sRowOf) := ⟨rfl, rfl, rfl, by decide +kernel, rfl, by decide +kernel, by decide +kernel⟩
theorem ok_rowOf (R : TRows K mg) {f : Addr} {fd : FuncData} (F : Fun K "_law_row_of" "_law_row_of" sRowOf f fd) : FnOk P w K mg base CX0 6 f fd ["_law_row_here"] (spMade R) := by
  refine F.ok scRowOf (fun vs H Q E h => ?_) (fun cdv A outer s H vs Q E hr h => ?_)
  · obtain ⟨t, r, rfl, _⟩ := h
    rfl
  · obtain ⟨t, r, rfl, ht, hv, q⟩ := h
    refine ⟨_, pss_cons (ps_if (pt_cmpR op_eq (pe_ix ix_tup (pv 0) pe_int (fun _ _ => rfl)) pe_str (nomark _)) (pss_one (ps_ret (pe_make R.note.M (okNoteInit R.note R.N) (hr.mono (by decide)) rfl R.note.m R.note.b .nil passN0 (pa_cons (pe_ix ix_tup (pv 0) pe_int (fun _ _ => rfl)) (pa_cons (pe_ix ix_tup (pv 0) pe_int (fun _ _ => rfl)) pa_nil))))) pss_nil)
      (pss_cons (ps_if (pt_cmpR op_in_seq (pe_ix ix_tup (pv 0) pe_int (fun _ _ => rfl)) (pe_tup (pa_cons pe_str (pa_cons pe_str pa_nil))) rfl) (pss_one (ps_ret (pe_ifExp (pt_cmpR op_eq (pe_ix ix_tup (pv 0) pe_int (fun _ _ => rfl)) pe_str (nomark _)) (pe_make R.skip.M (okSkipInit R.skip R.N) (hr.mono (by decide)) rfl R.skip.m R.skip.b .nil passN0 (pa_cons (pe_ix ix_tup (pv 0) pe_int (fun _ _ => rfl)) (pa_cons (pe_ix ix_tup (pv 0) pe_int (fun _ _ => rfl)) pa_nil))) (pe_make R.set.M (okSetInit R.set R.N) (hr.mono (by decide)) rfl R.set.m R.set.b .nil passN0 (pa_cons (pe_ix ix_tup (pv 0) pe_int (fun _ _ => rfl)) (pa_cons (pe_ix ix_tup (pv 0) pe_int (fun _ _ => rfl)) pa_nil)))))) pss_nil)
      (pss_cons (ps_if (pt_cmpR op_in_seq (pe_ix ix_tup (pv 0) pe_int (fun _ _ => rfl)) (pe_tup (pa_cons pe_str (pa_cons pe_str pa_nil))) rfl) (pss_one (ps_ret (pe_ifExp (pt_cmpR op_eq (pe_ix ix_tup (pv 0) pe_int (fun _ _ => rfl)) pe_str (nomark _)) (pe_make R.keep.M (okKeepInit R.keep R.N) (hr.mono (by decide)) rfl R.keep.m R.keep.b .nil passN0 (pa_cons (pe_ix ix_tup (pv 0) pe_int (fun _ _ => rfl)) pa_nil)) (pe_make R.back.M (okBackInit R.back R.N) (hr.mono (by decide)) rfl R.back.m R.back.b .nil passN0 (pa_cons (pe_ix ix_tup (pv 0) pe_int (fun _ _ => rfl)) pa_nil))))) pss_nil)
      (pss_cons (ps_if (pt_cmpR op_eq (pe_ix ix_tup (pv 0) pe_int (fun _ _ => rfl)) pe_str (nomark _)) (pss_one (ps_ret (pe_make R.ref.M (okRefInit R.ref R.N) (hr.mono (by decide)) rfl R.ref.m R.ref.b .nil passN0 (pa_cons (pe_ix ix_tup (pv 0) pe_int (fun _ _ => rfl)) pa_nil)))) pss_nil)
      (pss_one (ps_ret (pe_ifExp (pt_cmpR op_eq (pe_ix ix_tup (pv 0) pe_int (fun _ _ => rfl)) pe_str (nomark _)) (pe_make R.put.M (okPutInit R.put R.N) (hr.mono (by decide)) rfl R.put.m R.put.b .nil passN0 (pa_cons (pe_ix ix_tup (pv 0) pe_int (fun _ _ => rfl)) pa_nil)) (pe_make R.open_.M (okOpenInit R.open_ R.N) (hr.mono (by decide)) rfl R.open_.m R.open_.b .nil passN0 (pa_cons (pe_ix ix_tup (pv 0) pe_int (fun _ _ => rfl)) pa_nil)))))))), ?_⟩
    have nl : ∀ {z : Str}, nameS z = true → dlen (.str z) := fun h => Nat.le_trans (name_ok h).2 (by show 4 ≤ 900; decide)
    cases r with
    | note c l =>
      refine ⟨_, rfl, t, _, _, _, rfl, rfl, ht, atI_nat (j := 0) rfl, rfl, _, rfl, iteTD (by decide +kernel) ?_⟩
      refine ⟨_, rfl, t, _, _, _, rfl, rfl, ht, atI_nat (j := 1) rfl, _, rfl, t, _, _, _, rfl, rfl, ht, atI_nat (j := 2) rfl, fun x dx hx hdx ne => ?_⟩
      exact ⟨x, dx, .str c, .str l, .str c, .str l, rfl, upd_same, .str c, nl hv.1, .str l, (by rcases hv.2 with rfl | z; exact (by decide +kernel : ("" : Str).length ≤ 900); exact nl z), str_shaped (by rcases hv.2 with rfl | z; decide +kernel; exact (name_ok z).1), fun hn hg H1 kp m hi => ⟨rfl, q x H1 (kpi_same2 hx hdx kp) ⟨dx, hi⟩⟩, fun hn => absurd hv.1 (by rw [show nameS c = false from hn]; decide), fun _ hg => absurd (lab_of hv.2) (by rw [hg]; decide)⟩
    | skip c n =>
      refine ⟨_, rfl, t, _, _, _, rfl, rfl, ht, atI_nat (j := 0) rfl, rfl, _, rfl, iteFD (by decide +kernel) ?_⟩
      refine ⟨_, rfl, t, _, _, _, rfl, rfl, ht, atI_nat (j := 0) rfl, (by show 2 ≤ sizeLine; decide), fun t1 h1 => ?_⟩
      refine ⟨t1, _, rfl, .inr (SqT.of upd_same), rfl, rfl, _, rfl, iteTD (by decide +kernel) ?_⟩
      have s1 := (Same.new (o := .tup [.str "skip", .str "set"]) h1)
      generalize upd _ t1 (.tup [.str "skip", .str "set"]) = H1 at s1 ⊢
      have ht1 := Same.sqt s1 ht
      refine ⟨_, rfl, t, _, _, _, rfl, rfl, ht1, atI_nat (j := 0) rfl, rfl, _, rfl, iteTD (by decide +kernel) ?_⟩
      refine ⟨_, rfl, t, _, _, _, rfl, rfl, ht1, atI_nat (j := 1) rfl, _, rfl, t, _, _, _, rfl, rfl, ht1, atI_nat (j := 2) rfl, fun x dx hx hdx ne => ?_⟩
      exact ⟨x, dx, .str c, .int (n : Int), .str c, .int (n : Int), rfl, upd_same, .str c, nl hv.1, .int _, fun hn hg H1 kp m hi => ⟨rfl, q x H1 (s1.trans (kpi_same2 hx hdx kp)) ⟨dx, hi⟩⟩, fun hn => absurd hv.1 (by rw [show nameS c = false from hn]; decide), fun _ hg => absurd (skip_of (n := n) (by have := hv.2.1; omega)) (by rw [hg]; decide)⟩
    | set c n =>
      refine ⟨_, rfl, t, _, _, _, rfl, rfl, ht, atI_nat (j := 0) rfl, rfl, _, rfl, iteFD (by decide +kernel) ?_⟩
      refine ⟨_, rfl, t, _, _, _, rfl, rfl, ht, atI_nat (j := 0) rfl, (by show 2 ≤ sizeLine; decide), fun t1 h1 => ?_⟩
      refine ⟨t1, _, rfl, .inr (SqT.of upd_same), rfl, rfl, _, rfl, iteTD (by decide +kernel) ?_⟩
      have s1 := (Same.new (o := .tup [.str "skip", .str "set"]) h1)
      generalize upd _ t1 (.tup [.str "skip", .str "set"]) = H1 at s1 ⊢
      have ht1 := Same.sqt s1 ht
      refine ⟨_, rfl, t, _, _, _, rfl, rfl, ht1, atI_nat (j := 0) rfl, rfl, _, rfl, iteFD (by decide +kernel) ?_⟩
      refine ⟨_, rfl, t, _, _, _, rfl, rfl, ht1, atI_nat (j := 1) rfl, _, rfl, t, _, _, _, rfl, rfl, ht1, atI_nat (j := 2) rfl, fun x dx hx hdx ne => ?_⟩
      exact ⟨x, dx, .str c, .int (n : Int), .str c, .int (n : Int), rfl, upd_same, .str c, nl hv.1, .int _, fun hn hg H1 kp m hi => ⟨rfl, q x H1 (s1.trans (kpi_same2 hx hdx kp)) ⟨dx, hi⟩⟩, fun hn => absurd hv.1 (by rw [show nameS c = false from hn]; decide), fun _ hg => absurd (set_of (n := n)) (by rw [hg]; decide)⟩
    | keep c =>
      refine ⟨_, rfl, t, _, _, _, rfl, rfl, ht, atI_nat (j := 0) rfl, rfl, _, rfl, iteFD (by decide +kernel) ?_⟩
      refine ⟨_, rfl, t, _, _, _, rfl, rfl, ht, atI_nat (j := 0) rfl, (by show 2 ≤ sizeLine; decide), fun t1 h1 => ?_⟩
      refine ⟨t1, _, rfl, .inr (SqT.of upd_same), rfl, rfl, _, rfl, iteFD (by decide +kernel) ?_⟩
      have s1 := (Same.new (o := .tup [.str "skip", .str "set"]) h1)
      generalize upd _ t1 (.tup [.str "skip", .str "set"]) = H1 at s1 ⊢
      have ht1 := Same.sqt s1 ht
      refine ⟨_, rfl, t, _, _, _, rfl, rfl, ht1, atI_nat (j := 0) rfl, (by show 2 ≤ sizeLine; decide), fun t2 h2 => ?_⟩
      refine ⟨t2, _, rfl, .inr (SqT.of upd_same), rfl, rfl, _, rfl, iteTD (by decide +kernel) ?_⟩
      have s2 := s1.trans (Same.new (o := .tup [.str "keep", .str "back"]) h2)
      generalize upd _ t2 (.tup [.str "keep", .str "back"]) = H2 at s2 ⊢
      have ht2 := Same.sqt s2 ht
      refine ⟨_, rfl, t, _, _, _, rfl, rfl, ht2, atI_nat (j := 0) rfl, rfl, _, rfl, iteTD (by decide +kernel) ?_⟩
      refine ⟨_, rfl, t, _, _, _, rfl, rfl, ht2, atI_nat (j := 1) rfl, fun x dx hx hdx ne => ?_⟩
      exact ⟨x, dx, .str c, .str c, rfl, upd_same, .str c, nl hv, fun hn H1 kp m hi => ⟨rfl, q x H1 (s2.trans (kpi_same2 hx hdx kp)) ⟨dx, hi⟩⟩, fun hn => absurd (show nameS c = true from hv) (by rw [show nameS c = false from hn]; decide)⟩
    | back c =>
      refine ⟨_, rfl, t, _, _, _, rfl, rfl, ht, atI_nat (j := 0) rfl, rfl, _, rfl, iteFD (by decide +kernel) ?_⟩
      refine ⟨_, rfl, t, _, _, _, rfl, rfl, ht, atI_nat (j := 0) rfl, (by show 2 ≤ sizeLine; decide), fun t1 h1 => ?_⟩
      refine ⟨t1, _, rfl, .inr (SqT.of upd_same), rfl, rfl, _, rfl, iteFD (by decide +kernel) ?_⟩
      have s1 := (Same.new (o := .tup [.str "skip", .str "set"]) h1)
      generalize upd _ t1 (.tup [.str "skip", .str "set"]) = H1 at s1 ⊢
      have ht1 := Same.sqt s1 ht
      refine ⟨_, rfl, t, _, _, _, rfl, rfl, ht1, atI_nat (j := 0) rfl, (by show 2 ≤ sizeLine; decide), fun t2 h2 => ?_⟩
      refine ⟨t2, _, rfl, .inr (SqT.of upd_same), rfl, rfl, _, rfl, iteTD (by decide +kernel) ?_⟩
      have s2 := s1.trans (Same.new (o := .tup [.str "keep", .str "back"]) h2)
      generalize upd _ t2 (.tup [.str "keep", .str "back"]) = H2 at s2 ⊢
      have ht2 := Same.sqt s2 ht
      refine ⟨_, rfl, t, _, _, _, rfl, rfl, ht2, atI_nat (j := 0) rfl, rfl, _, rfl, iteFD (by decide +kernel) ?_⟩
      refine ⟨_, rfl, t, _, _, _, rfl, rfl, ht2, atI_nat (j := 1) rfl, fun x dx hx hdx ne => ?_⟩
      exact ⟨x, dx, .str c, .str c, rfl, upd_same, .str c, nl hv, fun hn H1 kp m hi => ⟨rfl, q x H1 (s2.trans (kpi_same2 hx hdx kp)) ⟨dx, hi⟩⟩, fun hn => absurd (show nameS c = true from hv) (by rw [show nameS c = false from hn]; decide)⟩
    | ref c =>
      refine ⟨_, rfl, t, _, _, _, rfl, rfl, ht, atI_nat (j := 0) rfl, rfl, _, rfl, iteFD (by decide +kernel) ?_⟩
      refine ⟨_, rfl, t, _, _, _, rfl, rfl, ht, atI_nat (j := 0) rfl, (by show 2 ≤ sizeLine; decide), fun t1 h1 => ?_⟩
      refine ⟨t1, _, rfl, .inr (SqT.of upd_same), rfl, rfl, _, rfl, iteFD (by decide +kernel) ?_⟩
      have s1 := (Same.new (o := .tup [.str "skip", .str "set"]) h1)
      generalize upd _ t1 (.tup [.str "skip", .str "set"]) = H1 at s1 ⊢
      have ht1 := Same.sqt s1 ht
      refine ⟨_, rfl, t, _, _, _, rfl, rfl, ht1, atI_nat (j := 0) rfl, (by show 2 ≤ sizeLine; decide), fun t2 h2 => ?_⟩
      refine ⟨t2, _, rfl, .inr (SqT.of upd_same), rfl, rfl, _, rfl, iteFD (by decide +kernel) ?_⟩
      have s2 := s1.trans (Same.new (o := .tup [.str "keep", .str "back"]) h2)
      generalize upd _ t2 (.tup [.str "keep", .str "back"]) = H2 at s2 ⊢
      have ht2 := Same.sqt s2 ht
      refine ⟨_, rfl, t, _, _, _, rfl, rfl, ht2, atI_nat (j := 0) rfl, rfl, _, rfl, iteTD (by decide +kernel) ?_⟩
      refine ⟨_, rfl, t, _, _, _, rfl, rfl, ht2, atI_nat (j := 1) rfl, fun x dx hx hdx ne => ?_⟩
      exact ⟨x, dx, .str c, .str c, rfl, upd_same, .str c, nl hv, fun hn H1 kp m hi => ⟨rfl, q x H1 (s2.trans (kpi_same2 hx hdx kp)) ⟨dx, hi⟩⟩, fun hn => absurd (show nameS c = true from hv) (by rw [show nameS c = false from hn]; decide)⟩
    | put c =>
      refine ⟨_, rfl, t, _, _, _, rfl, rfl, ht, atI_nat (j := 0) rfl, rfl, _, rfl, iteFD (by decide +kernel) ?_⟩
      refine ⟨_, rfl, t, _, _, _, rfl, rfl, ht, atI_nat (j := 0) rfl, (by show 2 ≤ sizeLine; decide), fun t1 h1 => ?_⟩
      refine ⟨t1, _, rfl, .inr (SqT.of upd_same), rfl, rfl, _, rfl, iteFD (by decide +kernel) ?_⟩
      have s1 := (Same.new (o := .tup [.str "skip", .str "set"]) h1)
      generalize upd _ t1 (.tup [.str "skip", .str "set"]) = H1 at s1 ⊢
      have ht1 := Same.sqt s1 ht
      refine ⟨_, rfl, t, _, _, _, rfl, rfl, ht1, atI_nat (j := 0) rfl, (by show 2 ≤ sizeLine; decide), fun t2 h2 => ?_⟩
      refine ⟨t2, _, rfl, .inr (SqT.of upd_same), rfl, rfl, _, rfl, iteFD (by decide +kernel) ?_⟩
      have s2 := s1.trans (Same.new (o := .tup [.str "keep", .str "back"]) h2)
      generalize upd _ t2 (.tup [.str "keep", .str "back"]) = H2 at s2 ⊢
      have ht2 := Same.sqt s2 ht
      refine ⟨_, rfl, t, _, _, _, rfl, rfl, ht2, atI_nat (j := 0) rfl, rfl, _, rfl, iteFD (by decide +kernel) ?_⟩
      refine ⟨_, rfl, t, _, _, _, rfl, rfl, ht2, atI_nat (j := 0) rfl, rfl, _, rfl, iteTD (by decide +kernel) ?_⟩
      refine ⟨_, rfl, t, _, _, _, rfl, rfl, ht2, atI_nat (j := 1) rfl, fun x dx hx hdx ne => ?_⟩
      exact ⟨x, dx, .str c, .str c, rfl, upd_same, .str c, nl hv, fun hn H1 kp m hi => ⟨rfl, q x H1 (s2.trans (kpi_same2 hx hdx kp)) ⟨dx, hi⟩⟩, fun hn => absurd (show nameS c = true from hv) (by rw [show nameS c = false from hn]; decide)⟩
    | opn c =>
      refine ⟨_, rfl, t, _, _, _, rfl, rfl, ht, atI_nat (j := 0) rfl, rfl, _, rfl, iteFD (by decide +kernel) ?_⟩
      refine ⟨_, rfl, t, _, _, _, rfl, rfl, ht, atI_nat (j := 0) rfl, (by show 2 ≤ sizeLine; decide), fun t1 h1 => ?_⟩
      refine ⟨t1, _, rfl, .inr (SqT.of upd_same), rfl, rfl, _, rfl, iteFD (by decide +kernel) ?_⟩
      have s1 := (Same.new (o := .tup [.str "skip", .str "set"]) h1)
      generalize upd _ t1 (.tup [.str "skip", .str "set"]) = H1 at s1 ⊢
      have ht1 := Same.sqt s1 ht
      refine ⟨_, rfl, t, _, _, _, rfl, rfl, ht1, atI_nat (j := 0) rfl, (by show 2 ≤ sizeLine; decide), fun t2 h2 => ?_⟩
      refine ⟨t2, _, rfl, .inr (SqT.of upd_same), rfl, rfl, _, rfl, iteFD (by decide +kernel) ?_⟩
      have s2 := s1.trans (Same.new (o := .tup [.str "keep", .str "back"]) h2)
      generalize upd _ t2 (.tup [.str "keep", .str "back"]) = H2 at s2 ⊢
      have ht2 := Same.sqt s2 ht
      refine ⟨_, rfl, t, _, _, _, rfl, rfl, ht2, atI_nat (j := 0) rfl, rfl, _, rfl, iteFD (by decide +kernel) ?_⟩
      refine ⟨_, rfl, t, _, _, _, rfl, rfl, ht2, atI_nat (j := 0) rfl, rfl, _, rfl, iteFD (by decide +kernel) ?_⟩
      refine ⟨_, rfl, t, _, _, _, rfl, rfl, ht2, atI_nat (j := 1) rfl, fun x dx hx hdx ne => ?_⟩
      exact ⟨x, dx, .str c, .str c, rfl, upd_same, .str c, nl hv, fun hn H1 kp m hi => ⟨rfl, q x H1 (s2.trans (kpi_same2 hx hdx kp)) ⟨dx, hi⟩⟩, fun hn => absurd (show nameS c = true from hv) (by rw [show nameS c = false from hn]; decide)⟩
end
end Pn

namespace Pn
open PySem PySem.Spec PyProof.Rows L2
/-! ### comprehensions that make objects; what stands although lists change -/
def SameN (H H' : Hp) : Prop := ∀ a o, H a = some o → (∀ xs, o ≠ HO.lst xs) → H' a = some o
theorem SameN.of {H H' : Hp} (s : Same H H') : SameN H H' := fun a o e _ => s a o e
theorem SameN.trans {H H1 H2 : Hp} (s : SameN H H1) (t : SameN H1 H2) : SameN H H2 := fun a o e n => t a o (s a o e n) n
theorem SameN.upd {H : Hp} {D : Addr} {xs : List V} {o : HO} (h : H D = some (.lst xs)) : SameN H (upd H D o) := fun a u e n => by
  rw [upd_ne (fun z => by rw [z, h] at e; cases e; exact n _ rfl)]
  exact e
theorem paired_cat {α β : Type} {R : α → β → Prop} {l2 : List α} {m2 : List β} (h2 : Paired R l2 m2) : ∀ {l : List α} {m : List β}, Paired R l m → Paired R (l ++ l2) (m ++ m2)
  | _, _, .nil => h2
  | _, _, .cons a b => .cons a (paired_cat h2 b)
theorem lcw_objs {K : PySem.W.Frag} {tl : TE} {g : TG} {tt : TT} {te : TE} {vs : List Nat} {σ : L2.St} {H : Hp} {Q : VK} {p : Addr} {xs : List V} {α : Type} {R : Hp → Addr → α → Prop} {cs : List α} (hR : ∀ {H H' : Hp} {t : Addr} {c : α}, SameN H H' → R H t c → R H' t c)
    (h0 : ∀ R : VK, R (.ref p) H → tl σ H R) (hp : SqL K H p xs) (hl : xs.length ≤ 1000) (hc : xs.length = cs.length)
    (turn : ∀ (i : Nat) (x : V) (c : α) (Hi : Hp) (S : Hp → Prop) (Y : VK), xs[i]? = some x → cs[i]? = some c → Same H Hi → (∀ t H', Same Hi H' → R H' t c → Y (.ref t) H') → g x (wipe σ vs) Hi fun σ2 H2 => wipe σ2 vs = wipe σ vs ∧ tt σ2 H2 fun b H3 => if b = true then te σ2 H3 Y else S H3)
    (fin : ∀ (D : Addr) (H' : Hp) (ts : List Addr), H D = none → Same H H' → H' D = some (.lst (ts.map V.ref)) → Paired (R H') ts cs → Q (.ref D) H') : tLc (iList K tl) g tt te vs σ H Q := by
  refine h0 _ ⟨p, rfl, ⟨_, hp⟩, fun D hD => lc_list (xs := xs) (fun i Hi => Same H Hi ∧ ∃ ts : List Addr, Hi D = some (.lst (ts.map V.ref)) ∧ ts.length ≤ i ∧ Paired (R Hi) ts (cs.take i)) ⟨Same.new hD, [], upd_same, Nat.le_refl _, .nil⟩ (fun _ _ _ hP => hP.1.seq hp) (fun i x Hi hx hP => ?_) (fun Hi hP => ?_)⟩
  · obtain ⟨s, ts, hd, hn, pd⟩ := hP
    have hi : i < xs.length := (List.getElem?_eq_some_iff.mp hx).1
    have hi2 : i < cs.length := by omega
    have hc2 : cs[i]? = some cs[i] := List.getElem?_eq_getElem hi2
    refine turn i x _ Hi _ _ hx hc2 s fun t H' s' r => ⟨_, s' _ _ hd, small1000 (by rw [List.length_map]; omega), (fun a o e => ?_), ts ++ [t], by rw [upd_same, List.map_append]; rfl, by rw [List.length_append]; exact Nat.add_le_add_right hn 1, ?_⟩
    · rw [upd_ne (ne_of_none e hD)]
      exact s' _ _ (s _ _ e)
    · have n2 : SameN H' (upd H' D (.lst (ts.map V.ref ++ [V.ref t]))) := SameN.upd (s' _ _ hd)
      rw [List.take_add_one, hc2]
      exact paired_snoc (hR n2 r) (paired_mono (fun _ _ z => hR ((SameN.of s').trans n2) z) pd)
  · obtain ⟨s, ts, hd, _, pd⟩ := hP
    rw [hc, List.take_length] at pd
    exact fin D Hi ts hD s hd pd
end Pn

namespace Pn
open PySem L2
theorem iteTB {c : Bool} {A B : Prop} (hc : c = true) (h : A) : if c = true then A else B := by
  rw [if_pos hc]
  exact h
theorem iteFB {c : Bool} {A B : Prop} (hc : c = false) (h : B) : if c = true then A else B := by
  rw [hc, if_neg Bool.false_ne_true]
  exact h
theorem kF {A B : Hp → Prop} {H : Hp} (h : B H) : (fun (b : Bool) H1 => if b = true then A H1 else B H1) false H := by
  show if false = true then A H else B H
  rw [if_neg Bool.false_ne_true]
  exact h
abbrev sDeal : Stmt := top 72
abbrev sDraw : Stmt := top 73
abbrev sPick : Stmt := top 74
/-! ### draws out of a deal: a list of a list of great numbers and a number -/
/-- the heap but for a deal -/
def hh (H : Hp) (d g : Addr) : Hp := hid (hid H d) g
def DealAt (H : Hp) (d g : Addr) : Prop := d ≠ g ∧ ∃ (xs : List Int) (m : Int), H d = some (.lst [.ref g, .int m]) ∧ H g = some (.lst (xs.map V.int)) ∧ (∀ x ∈ xs, 0 ≤ x) ∧ 0 ≤ m ∧ m < 2147483647 ∧ xs.length ≤ 63
theorem hh_ne {H : Hp} {d g a : Addr} {o : HO} (h : hh H d g a = some o) : a ≠ d ∧ a ≠ g ∧ H a = some o := by
  unfold hh hid at h
  by_cases h1 : a = g
  · rw [if_pos h1] at h; cases h
  · rw [if_neg h1] at h
    by_cases h2 : a = d
    · rw [if_pos h2] at h; cases h
    · rw [if_neg h2] at h; exact ⟨h2, h1, h⟩
theorem hh_get {H : Hp} {d g a : Addr} {o : HO} (h : H a = some o) (n1 : a ≠ d) (n2 : a ≠ g) : hh H d g a = some o := hid_get (hid_get h n1) n2
theorem hh_sub {H : Hp} {d g : Addr} : Same (hh H d g) H := fun _ _ e => (hh_ne e).2.2
theorem hh_same {H H' : Hp} {d g : Addr} (s : Same H H') : Same (hh H d g) (hh H' d g) := fun _ _ e => by
  obtain ⟨n1, n2, e⟩ := hh_ne e
  exact hh_get (s _ _ e) n1 n2
theorem hh_d {H : Hp} {d g : Addr} {o : HO} : Same (hh H d g) (hh (upd H d o) d g) := fun _ _ e => by
  obtain ⟨n1, n2, e⟩ := hh_ne e
  exact hh_get (by rw [upd_ne n1]; exact e) n1 n2
theorem hh_g {H : Hp} {d g : Addr} {o : HO} : Same (hh H d g) (hh (upd H g o) d g) := fun _ _ e => by
  obtain ⟨n1, n2, e⟩ := hh_ne e
  exact hh_get (by rw [upd_ne n2]; exact e) n1 n2
theorem DealAt.there {H : Hp} {d g : Addr} (h : DealAt H d g) : H d ≠ none ∧ H g ≠ none := by
  obtain ⟨_, xs, m, e1, e2, _⟩ := h
  refine ⟨fun z => ?_, fun z => ?_⟩
  · rw [e1] at z; cases z
  · rw [e2] at z; cases z
theorem DealAt.new {H : Hp} {d g p : Addr} {o : HO} (h : DealAt H d g) (hp : H p = none) : DealAt (upd H p o) d g := by
  obtain ⟨n, xs, m, e1, e2, r⟩ := h
  exact ⟨n, xs, m, by rw [upd_ne (ne_of_none e1 hp)]; exact e1, by rw [upd_ne (ne_of_none e2 hp)]; exact e2, r⟩
theorem DealAt.same {H H' : Hp} {d g : Addr} (h : DealAt H d g) (s : Same H H') : DealAt H' d g := by
  obtain ⟨n, xs, m, e1, e2, r⟩ := h
  exact ⟨n, xs, m, s _ _ e1, s _ _ e2, r⟩
theorem DealAt.upd {H : Hp} {d g p : Addr} {o : HO} (h : DealAt H d g) (n1 : p ≠ d) (n2 : p ≠ g) : DealAt (upd H p o) d g := by
  obtain ⟨n, xs, m, e1, e2, r⟩ := h
  exact ⟨n, xs, m, by rw [upd_ne n1.symm]; exact e1, by rw [upd_ne n2.symm]; exact e2, r⟩
/-- what is new beside a deal -/
theorem DealAt.nd {H : Hp} {d g p : Addr} (h : DealAt H d g) (hp : H p = none) : p ≠ d ∧ p ≠ g := ⟨fun z => h.there.1 (z ▸ hp), fun z => h.there.2 (z ▸ hp)⟩
theorem hh_new {H : Hp} {d g p : Addr} {o : HO} (hp : H p = none) : Same (hh H d g) (hh (upd H p o) d g) := hh_same (Same.new hp)
theorem hh_at {H : Hp} {d g p : Addr} {o : HO} (h : DealAt H d g) (hp : H p = none) : hh (upd H p o) d g p = some o := hh_get upd_same (h.nd hp).1 (h.nd hp).2
theorem ints_at {xs : List Int} {i : Nat} {x : Int} (h : xs[i]? = some x) : (xs.map V.int)[i]? = some (.int x) := by rw [List.getElem?_map, h]; rfl
section
variable {P : Program} {w : World} {K : PySem.W.Frag} {mg : Str → Option Value} {base : Heap}
def spDraw : Sp := fun vs H Q _ => ∃ (d g : Addr) (m : Int), vs = [.ref d, .int m] ∧ DealAt H d g ∧ 0 < m ∧ m < 2147483648 ∧ ∀ (r : Int) (H' : Hp), 0 ≤ r → r < m → DealAt H' d g → Same (hh H d g) (hh H' d g) → Mo H H' → Q (.int r) H'
theorem scDraw : FnScope ["_law_deal_here", "_law_many", "_law_left"] ["_law_deal_here", "_law_many"] (defScope sDraw) := ⟨rfl, rfl, rfl, by decide +kernel, rfl, by decide +kernel, by decide +kernel⟩
theorem dp_intsL (K : PySem.W.Frag) (H : Hp) : ∀ xs : List Int, DpAll K H (xs.map V.int) (xs.map PyData.int)
  | [] => .nil
  | _ :: r => .cons (.int _) (dp_intsL K H r)
theorem intsL_sh (xs : List Int) : SeqAt.shaped (.list (xs.map PyData.int)) = true := by
  have a : ∀ l : List Int, PyData.canLayAll0 (l.map PyData.int) = true ∧ PyData.depthAll (l.map PyData.int) = 0 := by
    intro l
    induction l with
    | nil => exact ⟨by simp only [List.map_nil, PyData.canLayAll0], by simp only [List.map_nil, PyData.depthAll]⟩
    | cons x l ih => exact ⟨by simp only [List.map_cons, PyData.canLayAll0, PyData.canLay0, ih.1, Bool.and_self], by simp only [List.map_cons, PyData.depthAll, PyData.depth, ih.2, Nat.max_self]⟩
  unfold SeqAt.shaped
  simp only [PyData.canLay0, PyData.depth, (a xs).1, (a xs).2, Bool.true_and]
  decide
theorem intsL_nil (xs : List Int) : PyData.eqv (.list (xs.map PyData.int)) (.list []) = xs.isEmpty := by
  cases xs with
  | nil => decide +kernel
  | cons x l => simp [PyData.eqv, PyData.eqvAll]
/-- a deal and what it holds, beside what stood ahead -/
structure DL (H0 H : Hp) (d g : Addr) (xs : List Int) (mm : Int) : Prop where
  ne : d ≠ g
  hd : H d = some (.lst [.ref g, .int mm])
  hg : H g = some (.lst (xs.map V.int))
  pos : ∀ x ∈ xs, 0 ≤ x
  lo : 0 ≤ mm
  hi : mm < 2147483647
  len : xs.length ≤ 63
  s : Same (hh H0 d g) (hh H d g)
  m : Mo H0 H
theorem DL.new {H0 H : Hp} {d g p : Addr} {xs : List Int} {mm : Int} {o : HO} (D : DL H0 H d g xs mm) (hp : H p = none) : DL H0 (upd H p o) d g xs mm :=
  ⟨D.ne, by rw [upd_ne (ne_of_none D.hd hp)]; exact D.hd, by rw [upd_ne (ne_of_none D.hg hp)]; exact D.hg, D.pos, D.lo, D.hi, D.len, D.s.trans (hh_new hp), D.m.trans Mo.upd⟩
theorem DL.setG {H0 H : Hp} {d g : Addr} {xs ys : List Int} {mm : Int} (D : DL H0 H d g xs mm) (hp : ∀ y ∈ ys, 0 ≤ y) (hl : ys.length ≤ 63) : DL H0 (upd H g (.lst (ys.map V.int))) d g ys mm :=
  ⟨D.ne, by rw [upd_ne D.ne]; exact D.hd, upd_same, hp, D.lo, D.hi, hl, D.s.trans hh_g, D.m.trans Mo.upd⟩
theorem DL.setD {H0 H : Hp} {d g : Addr} {xs : List Int} {mm m2 : Int} (D : DL H0 H d g xs mm) (l : 0 ≤ m2) (h : m2 < 2147483647) : DL H0 (upd H d (.lst [.ref g, .int m2])) d g xs m2 :=
  ⟨D.ne, upd_same, by rw [upd_ne D.ne.symm]; exact D.hg, D.pos, l, h, D.len, D.s.trans hh_d, D.m.trans Mo.upd⟩
theorem DL.at {H0 H : Hp} {d g : Addr} {xs : List Int} {mm : Int} (D : DL H0 H d g xs mm) : DealAt H d g := ⟨D.ne, xs, mm, D.hd, D.hg, D.pos, D.lo, D.hi, D.len⟩
theorem ok_draw {f : Addr} {fd : FuncData} (F : Fun K "_law_draw" "_law_draw" sDraw f fd) (mI : mg "int" = none) : FnOk P w K mg base CX0 1 f fd ["_law_deal_here", "_law_many"] spDraw := by
  refine F.ok scDraw (fun vs H Q E h => ?_) (fun cdv A outer s H vs Q E hr h => ?_)
  · obtain ⟨d, g, m, rfl, _⟩ := h
    rfl
  · obtain ⟨d, g, m, rfl, hD, h0, h1, k⟩ := h
    refine ⟨_, pss_cons (ps_while PassesOwn.never (PW.pt (pw_and (pt_cmpR (op_neD hr.units) (pe_ix ix_list (pv 0) pe_int (fun _ _ => rfl)) (pe_lst pa_nil) (nomark _)) (pw_and1 (pt_cmpR op_eq (pe_ix ix_list (pe_ix ix_list (pv 0) pe_int (fun _ _ => rfl)) (pe_un un_neg pe_int) (fun _ _ => rfl)) pe_int (nomark _)))))
        (pss_one (ps_expr (pe_bm0 PySem.F.plainAttrs_list PySem.F.slot_list_pop PySem.F.type_list_pop mt_pop (pe_ix ix_list (pv 0) pe_int (fun _ _ => rfl))))))
      (pss_cons (ps_if (pt_cmpR (op_neD hr.units) (pe_ix ix_list (pv 0) pe_int (fun _ _ => rfl)) (pe_lst pa_nil) (nomark _))
        (pss_cons (ps_set (i := 2) scDraw.nd rfl (Or.inl rfl) (pe_bm0 PySem.F.plainAttrs_list PySem.F.slot_list_pop PySem.F.type_list_pop mt_pop (pe_ix ix_list (pv 0) pe_int (fun _ _ => rfl))))
        (pss_cons (ps_expr (pe_bm PySem.F.plainAttrs_list PySem.F.slot_list_append PySem.F.type_list_append mt_append (pe_ix ix_list (pv 0) pe_int (fun _ _ => rfl)) (pa_cons (pe_op op_fdivW (pv 2) (pv 1)) pa_nil)))
        (pss_one (ps_ret (pe_op op_mod (pe_callTy call_int1 (by rfl) mI (by decide +kernel) (pa_cons (pv 2) pa_nil)) (pv 1)))))) pss_nil)
      (pss_cons (ps_asg (pe_op op_mod (pe_callTy call_int1 (by rfl) mI (by decide +kernel) (pa_cons (pe_op op_add (pe_op op_mul (pe_ix ix_list (pv 0) pe_int (fun _ _ => rfl)) pe_int) pe_int) pa_nil)) pe_int) (pg_sub (pv 0) pe_int set_list))
      (pss_one (ps_ret (pe_op op_mod (pe_callTy call_int1 (by rfl) mI (by decide +kernel) (pa_cons (pe_op op_fdiv (pe_ix ix_list (pv 0) pe_int (fun _ _ => rfl)) pe_int) pa_nil)) (pv 1)))))), ?_⟩
    obtain ⟨ne, xs0, mm0, e1, e2, e3, e4, e5, e6⟩ := hD
    have rev2 : ∀ (l : List Int) (x : Int), ((l ++ [x]).map V.int).dropLast = l.map V.int := fun l x => by rw [List.map_append]; exact List.dropLast_concat
    have lst2 : ∀ (l : List Int) (x : Int), ((l ++ [x]).map V.int)[((l ++ [x]).map V.int).length - 1]? = some (.int x) := fun l x => by
      rw [List.map_append, List.length_append]
      show (l.map V.int ++ [V.int x])[(l.map V.int).length + 1 - 1]? = _
      rw [Nat.add_sub_cancel, List.getElem?_append_right (Nat.le_refl _), Nat.sub_self]
      rfl
    refine ⟨fun n σ Hc => ∃ (x2 : Option V) (xs : List Int), σ = [some (.ref d), some (.int m), x2] ∧ xs.length = n ∧ DL H Hc d g xs mm0, ⟨_, none, xs0, rfl, rfl, ne, e1, e2, e3, e4, e5, e6, Same.refl _, Mo.refl _⟩, fun n σ Hc hP => ?_⟩
    obtain ⟨x2, xs, rfl, hn, D⟩ := hP
    refine ⟨_, rfl, d, _, _, _, rfl, rfl, SqL.of D.hd, rfl, (by show 0 ≤ sizeLine; decide), fun p hp => ?_⟩
    have D1 := D.new (o := .lst []) hp
    refine ⟨.list (xs.map PyData.int), .list [], .lst (SqL.of D1.hg) (dp_intsL _ _ xs), .lst (SqL.of upd_same) .nil, intsL_sh xs, by decide +kernel, _, rfl, ?_⟩
    rw [intsL_nil]
    generalize upd Hc p (.lst []) = Hp1 at D1 ⊢
    have hx : ∀ (l : List Int) (x : Int), atI ((l ++ [x]).map V.int) (-1) = some (.int x) := fun l x => by rw [List.map_append]; exact atI_last _ _
    rcases List.eq_nil_or_concat xs with hxs | ⟨l, x, hxs⟩
    · subst hxs
      refine iteFB rfl ?_
      refine iteF ?_
      refine ⟨_, rfl, d, _, _, _, rfl, rfl, SqL.of D1.hd, rfl, (by show 0 ≤ sizeLine; decide), fun p2 hp2 => ?_⟩
      have D2 := D1.new (o := .lst []) hp2
      refine ⟨.list (([] : List Int).map PyData.int), .list [], .lst (SqL.of D2.hg) (dp_intsL _ _ []), .lst (SqL.of upd_same) .nil, intsL_sh [], by decide +kernel, _, rfl, ?_⟩
      rw [intsL_nil]
      generalize upd Hp1 p2 (.lst []) = Hp2 at D2 ⊢
      refine iteFB rfl ?_
      have a1 := D2.lo
      have a2 := D2.hi
      refine ⟨_, rfl, _, _, _, _, rfl, rfl, SqL.of D2.hd, rfl, _, _, rfl, rfl, .inl ⟨by omega, by omega⟩, _, _, rfl, rfl, .inl ⟨_, rfl, _, _, rfl, rfl, (by show (0 : Int) < 2147483647; decide), ?_⟩⟩
      refine ⟨_, rfl, _, _, _, _, rfl, rfl, D2.hd, rfl, ?_⟩
      have D3 := D2.setD (m2 := (mm0 * 48271 + 23) % 2147483647) (by omega) (by omega)
      refine ⟨_, rfl, _, _, _, _, rfl, rfl, SqL.of D3.hd, rfl, _, _, rfl, rfl, ⟨by decide, by decide⟩, .inl ⟨_, rfl, _, rfl, _, _, rfl, rfl, h0, ?_⟩⟩
      exact k _ _ (Int.emod_nonneg _ (by omega)) (Int.emod_lt_of_pos _ h0) D3.at D3.s D3.m
    · rw [List.concat_eq_append] at hxs
      subst hxs
      have hne : (!(l ++ [x]).isEmpty) = true := by cases l <;> rfl
      rw [hne]
      refine iteT ?_
      refine ⟨_, rfl, d, _, _, _, rfl, rfl, SqL.of D1.hd, rfl, 1, rfl, g, _, _, _, rfl, rfl, SqL.of D1.hg, hx l x, rfl, _, rfl, ?_⟩
      have px : 0 ≤ x := D.pos x (by simp)
      have pl : ∀ y ∈ l, 0 ≤ y := fun y hy => D.pos y (by simp [hy])
      have ll : l.length + 1 ≤ 63 := by have := D.len; rw [List.length_append] at this; exact this
      by_cases hz : x = 0
      · subst hz
        refine iteTB (by simp) ?_
        refine ⟨fun σ' H' => ∃ (x2 : Option V) (xs : List Int), σ' = [some (.ref d), some (.int m), x2] ∧ xs.length = l.length ∧ DL H H' d g xs mm0, fun σ' H' q => ⟨l.length, by rw [← hn, List.length_append]; exact Nat.lt_succ_self _, q⟩, ?_⟩
        refine ⟨_, rfl, d, _, _, _, rfl, rfl, SqL.of D1.hd, rfl, .inl ⟨rfl, _, SqL.of D1.hg⟩, g, _, _, rfl, rfl, D1.hg, lst2 l 0, ?_⟩
        rw [rev2]
        exact ⟨x2, l, rfl, rfl, D1.setG pl (by omega)⟩
      · refine iteFB (by simp [hz]) ?_
        refine ⟨_, rfl, d, _, _, _, rfl, rfl, SqL.of D1.hd, rfl, (by show 0 ≤ sizeLine; decide), fun p2 hp2 => ?_⟩
        have D2 := D1.new (o := .lst []) hp2
        refine ⟨.list ((l ++ [x]).map PyData.int), .list [], .lst (SqL.of D2.hg) (dp_intsL _ _ _), .lst (SqL.of upd_same) .nil, intsL_sh _, by decide +kernel, _, rfl, ?_⟩
        rw [intsL_nil, hne]
        generalize upd Hp1 p2 (.lst []) = Hp2 at D2 ⊢
        refine iteT ?_
        refine ⟨_, rfl, d, _, _, _, rfl, rfl, SqL.of D2.hd, rfl, .inl ⟨rfl, _, SqL.of D2.hg⟩, g, _, _, rfl, rfl, D2.hg, lst2 l x, ?_⟩
        rw [rev2]
        have D3 := D2.setG pl (by omega)
        refine ⟨_, rfl, d, _, _, _, rfl, rfl, SqL.of D3.hd, rfl, .inl ⟨rfl, _, SqL.of D3.hg⟩, _, rfl, _, rfl, _, _, rfl, rfl, wide_div (b := 40) h0 (by omega) (by decide) (by decide), g, _, _, rfl, rfl, D3.hg, small1000 (by rw [List.length_map]; omega), ?_⟩
        have D4 := D3.setG (ys := l ++ [x / m]) (fun y hy => by
          rcases List.mem_append.mp hy with hy | hy
          · exact pl y hy
          · rw [List.mem_singleton.mp hy]; exact Int.ediv_nonneg px (by omega)) (by rw [List.length_append]; exact ll)
        rw [List.map_append] at D4
        refine ⟨_, rfl, .inl ⟨_, rfl, _, rfl, _, _, rfl, rfl, h0, ?_⟩⟩
        exact k _ _ (Int.emod_nonneg _ (by omega)) (Int.emod_lt_of_pos _ h0) D4.at D4.s D4.m
def spPick (K : PySem.W.Frag) : Sp := fun vs H Q _ => ∃ (d g a : Addr) (xs : List V), vs = [.ref d, .ref a] ∧ DealAt H d g ∧ SqL K (hh H d g) a xs ∧ 0 < xs.length ∧ xs.length < 1000000 ∧ ∀ (v : V) (H' : Hp), v ∈ xs → DealAt H' d g → Same (hh H d g) (hh H' d g) → Mo H H' → Q v H'
theorem scPick : FnScope ["_law_deal_here", "_law_some"] ["_law_deal_here", "_law_some"] (defScope sPick) := ⟨rfl, rfl, rfl, by decide +kernel, rfl, by decide +kernel, by decide +kernel⟩
theorem ok_pick {f : Addr} {fd : FuncData} (F : Fun K "_law_pick" "_law_pick" sPick f fd) (mL : mg "len" = none) (D : At K mg "_law_draw" sDraw ["_law_deal_here", "_law_many"]) (mI : mg "int" = none) : FnOk P w K mg base CX0 2 f fd ["_law_deal_here", "_law_some"] (spPick K) := by
  refine F.ok scPick (fun vs H Q E h => ?_) (fun cdv A outer s H vs Q E hr h => ?_)
  · obtain ⟨d, g, a, xs, rfl, _⟩ := h
    rfl
  · obtain ⟨d, g, a, xs, rfl, hD, hS, h0, h1, q⟩ := h
    refine ⟨_, pss_one (ps_ret (pe_ix ix_list (pv 1) (pe_call (ok_draw D.F mI) hr rfl D.m D.F.kp D.b .nil pass0 (pa_cons (pv 0) (pa_cons (pe_callB call_len_seq (by rfl) mL PySem.boot_len (pa_cons (pv 1) pa_nil)) pa_nil))) (fun _ _ => rfl))), ?_⟩
    refine ⟨_, rfl, _, rfl, _, rfl, _, _, rfl, .inl (hh_sub.seq hS), ?_⟩
    refine ⟨d, g, _, rfl, hD, by omega, by omega, fun r H' r0 r1 hD' hs hm => ?_⟩
    obtain ⟨i, rfl⟩ : ∃ i : Nat, r = (i : Int) := ⟨r.toNat, by omega⟩
    have hi : i < xs.length := by omega
    exact ⟨_, _, _, _, rfl, rfl, hh_sub.seq (hs.seq hS), atI_nat (List.getElem?_eq_getElem hi), q _ _ (List.getElem_mem hi) hD' hs hm⟩
def absI (x : Int) : Int := if x < 0 then -x else x
theorem cut_ints (ns : List Int) (lo hi : Option Int) : ∃ us : List Int, cutV (ns.map V.int) lo hi = us.map V.int ∧ us.length ≤ ns.length := by
  refine ⟨(ns.drop (HT.sIx (ns.map V.int).length 0 lo)).take (HT.sIx (ns.map V.int).length (ns.map V.int).length hi - HT.sIx (ns.map V.int).length 0 lo), ?_, ?_⟩
  · unfold cutV
    rw [List.map_take, List.map_drop]
  · rw [List.length_take, List.length_drop]
    omega
def spDeal (K : PySem.W.Frag) : Sp := fun vs H Q _ => ∃ (a : Addr) (ns : List Int), vs = [.ref a] ∧ SqL K H a (ns.map V.int) ∧ ns.length ≤ 63 ∧ ∀ (d g : Addr) (H' : Hp), DealAt H' d g → Same H (hh H' d g) → Q (.ref d) H'
theorem scDeal : FnScope ["_law_script", "_law_cell", "_law_cells", "_law_mixed_here"] ["_law_script"] (defScope sDeal) := ⟨rfl, rfl, rfl, by decide +kernel, rfl, by decide +kernel, by decide +kernel⟩
theorem ok_deal {f : Addr} {fd : FuncData} (F : Fun K "_law_deal" "_law_deal" sDeal f fd) (mI : mg "int" = none) (mA : mg "abs" = none) : FnOk P w K mg base CX0 1 f fd ["_law_script"] (spDeal K) := by
  refine F.ok scDeal (fun vs H Q E h => ?_) (fun cdv A outer s H vs Q E hr h => ?_)
  · obtain ⟨a, ns, rfl, _⟩ := h
    rfl
  · obtain ⟨a, ns, rfl, hS, hl, q⟩ := h
    refine ⟨_, pss_cons (ps_par (i := 2) (j := 3) (by rfl) scDeal.nd rfl rfl (by decide) rfl rfl (pa_cons (pe_lc (own := [("_law_cell", 1)]) (g := gName 1) (tt := tYes) (by rfl) scDeal.nd (pi_list (pe_slice sl_list (pv 0) po_none (po_some pe_int)))
          (blkOk_by (N := ["_law_script", "_law_cell", "_law_cells", "_law_mixed_here"]) (sc := defScope sDeal) (by decide +kernel)) (fun _ _ _ _ _ => pg_name (i := 1) scDeal.nd rfl (Or.inl rfl)) (fun _ _ _ _ _ => pts_nil)
          (fun _ _ _ _ _ => pe_callB call_abs (by rfl) mA (by decide +kernel) (pa_cons (pv 1) pa_nil))) (pa_cons pe_int pa_nil)) (by rfl))
      (pss_cons (ps_for PassesOwn.never rfl (pi_list (pv 2)) (pg_name (i := 1) scDeal.nd rfl (Or.inl rfl))
        (pss_one (ps_set (i := 3) scDeal.nd rfl (Or.inl rfl) (pe_op op_mod (pe_callTy call_int1 (by rfl) mI (by decide +kernel) (pa_cons (pe_op op_add (pe_op op_mul (pv 3) pe_int) (pe_op op_mod (pe_callTy call_int1 (by rfl) mI (by decide +kernel) (pa_cons (pv 1) pa_nil)) pe_int)) pa_nil)) pe_int))))
      (pss_one (ps_ret (pe_lst (pa_cons (pe_revL (pe_lc (own := [("_law_cell", 1)]) (g := gName 1) (by rfl) scDeal.nd (pi_list (pv 2))
          (blkOk_by (N := ["_law_script", "_law_cell", "_law_cells", "_law_mixed_here"]) (sc := defScope sDeal) (by decide +kernel)) (fun _ _ _ _ _ => pg_name (i := 1) scDeal.nd rfl (Or.inl rfl)) (fun _ _ _ _ _ => pts_one (pt_cmpR op_ge (pv 1) (pe_op op_pow pe_int pe_int) (nomark _)))
          (fun _ _ _ _ _ => pv 1))) (pa_cons (pv 3) pa_nil)))))), ?_⟩
    obtain ⟨us, hu, hul⟩ := cut_ints ns none (some 60)
    refine ⟨_, rfl, 60, rfl, a, _, rfl, hS, fun p hp => ?_⟩
    rw [hu]
    have s1 : Same H (upd H p (.lst (us.map V.int))) := Same.new hp
    have hp1 : upd H p (.lst (us.map V.int)) p = some (.lst (us.map V.int)) := upd_same
    generalize upd H p (.lst (us.map V.int)) = H1 at s1 hp1 ⊢
    refine ⟨p, rfl, ⟨_, SqL.of hp1⟩, fun D hD => lc_it (walk_list (xs := us.map V.int)) (fun i Hi => Hi D = some (.lst (((us.take i).map absI).map V.int)) ∧ Same H1 Hi) ⟨upd_same, Same.new hD⟩ (fun i Hi _ hP => SqL.of (hP.2 _ _ hp1)) (fun i x Hi Hj hi hP hY => ?turn1) (fun Hi hP => ?done1)⟩
    case turn1 =>
      obtain ⟨rfl, hx⟩ := hY
      obtain ⟨hDi, hs⟩ := hP
      rw [List.getElem?_map] at hx
      cases hxi : us[i]? with
      | none => rw [hxi] at hx; cases hx
      | some u =>
      rw [hxi] at hx
      cases hx
      have hi2 : i < us.length := by rw [List.length_map] at hi; exact hi
      refine ⟨rfl, _, rfl, _, rfl, _, hDi, small1000 (by rw [List.length_map, List.length_map]; have := List.length_take_le i us; omega), ?_, fun b o e => ?_⟩
      · rw [upd_same, List.take_add_one, hxi, List.map_append, List.map_append]
        rfl
      · rw [upd_ne (ne_of_none e hD)]
        exact hs _ _ e
    case done1 =>
      obtain ⟨hD1, hs⟩ := hP
      rw [List.length_map, List.take_length] at hD1
      have hpos : ∀ x ∈ us.map absI, 0 ≤ x := fun x hx => by
        obtain ⟨y, _, rfl⟩ := List.mem_map.mp hx
        unfold absI
        split <;> omega
      have hcl : (us.map absI).length ≤ 63 := by rw [List.length_map]; omega
      generalize us.map absI = cs at hD1 hpos hcl
      have s2 := s1.trans hs
      refine ⟨_, _, rfl, ?_⟩
      refine ⟨_, rfl, D, rfl, ⟨_, SqL.of hD1⟩, for_list (xs := cs.map V.int) (fun i σ Hc => ∃ (x1 : Option V) (m : Int), σ = [some (.ref a), x1, some (.ref D), some (.int m)] ∧ 0 ≤ m ∧ m < 2147483647 ∧ Hc = Hi) ⟨_, _, rfl, by decide, by decide, rfl⟩ (fun i σ Hc _ hP => by obtain ⟨_, _, _, _, _, rfl⟩ := hP; exact SqL.of hD1) (fun i x σ Hc hx hP => ?turn2) (fun σ Hc hP => ?done2)⟩
      case turn2 =>
        obtain ⟨x1, m, rfl, m0, m1, rfl⟩ := hP
        rw [List.getElem?_map] at hx
        cases hxi : cs[i]? with
        | none => rw [hxi] at hx; cases hx
        | some c =>
        rw [hxi] at hx
        cases hx
        refine ⟨_, rfl, _, _, rfl, rfl, .inl ⟨by omega, by omega⟩, _, rfl, .inl ⟨_, rfl, _, _, rfl, rfl, (by show (0 : Int) < 2147483629; decide), _, _, rfl, rfl, .inl ⟨_, rfl, _, _, rfl, rfl, (by show (0 : Int) < 2147483647; decide), ?_⟩⟩⟩
        exact ⟨_, _, rfl, by omega, by omega, rfl⟩
      case done2 =>
        obtain ⟨x1, m, rfl, m0, m1, rfl⟩ := hP
        refine ⟨_, rfl, D, rfl, ⟨_, SqL.of hD1⟩, fun D2 hD2 => lc_it (walk_list (xs := cs.map V.int)) (fun i Hi2 => ∃ l : List Int, l.length ≤ i ∧ (∀ x ∈ l, 0 ≤ x) ∧ Hi2 D2 = some (.lst (l.map V.int)) ∧ Same Hc Hi2) ⟨[], Nat.le_refl _, (fun x hx => by cases hx), upd_same, Same.new hD2⟩ (fun i Hi2 _ hP => by obtain ⟨_, _, _, _, h⟩ := hP; exact SqL.of (h _ _ hD1)) (fun i x Hi2 Hj hi hP hY => ?turn3) (fun Hi2 hP => ?done3)⟩
        case turn3 =>
          obtain ⟨rfl, hx⟩ := hY
          obtain ⟨l, l1, l2, l3, l4⟩ := hP
          rw [List.getElem?_map] at hx
          cases hxi : cs[i]? with
          | none => rw [hxi] at hx; cases hx
          | some c =>
          rw [hxi] at hx
          cases hx
          have hi2 : i < cs.length := by rw [List.length_map] at hi; exact hi
          refine ⟨rfl, _, rfl, _, _, rfl, rfl, ⟨by decide, by decide, by decide⟩, _, _, rfl, rfl, _, rfl, ?_⟩
          refine ite2 (fun _ => ?_) (fun _ => ?_)
          · refine ⟨_, rfl, _, l3, small1000 (by rw [List.length_map]; omega), l ++ [c], by rw [List.length_append]; exact Nat.add_le_add_right l1 1, fun x hx => ?_, by rw [upd_same, List.map_append]; rfl, fun b o e => ?_⟩
            · rcases List.mem_append.mp hx with hx | hx
              · exact l2 x hx
              · rw [List.mem_singleton.mp hx]; exact hpos c (List.mem_of_getElem? hxi)
            · rw [upd_ne (ne_of_none e hD2)]
              exact l4 _ _ e
          · exact ⟨l, by omega, l2, l3, l4⟩
        case done3 =>
          obtain ⟨l, l1, l2, l3, l4⟩ := hP
          refine ⟨D2, _, rfl, SqL.of l3, fun g hg => ?_⟩
          refine ⟨_, rfl, (by show 2 ≤ sizeLine; decide), fun d hd => ?_⟩
          have s3 : Same H Hi2 := s2.trans l4
          have hg0 := s3.free hg
          have hgd : g ≠ d := fun z => by rw [← z, upd_same] at hd; cases hd
          have hd0 : H d = none := s3.free ((Same.new hg).free hd)
          refine q d g _ ⟨hgd.symm, l.reverse, m, upd_same, ?_, fun x hx => l2 x (List.mem_reverse.mp hx), m0, m1, ?_⟩ fun b o e => hh_get ?_ (ne_of_none e hd0) (ne_of_none e hg0)
          · rw [upd_ne hgd, upd_same, List.map_reverse]
          · rw [List.length_reverse]
            rw [List.length_map] at l1
            omega
          · rw [upd_ne (ne_of_none e hd0), upd_ne (ne_of_none e hg0)]
            exact s3 _ _ e
end
end Pn

namespace Pn
open PySem L2 TL
abbrev sMixed : Stmt := top 75
abbrev sNames : Stmt := top 76
/-! ### a list of names in another order, its first names -/
theorem perm_erase {α : Type} : ∀ {l : List α} {k : Nat} {y : α}, l[k]? = some y → (y :: l.eraseIdx k).Perm l
  | [], k, y, h => by simp at h
  | a :: l, 0, y, h => by
    simp only [List.getElem?_cons_zero, Option.some.injEq] at h
    subst h
    exact .refl _
  | a :: l, k + 1, y, h => by
    rw [List.getElem?_cons_succ] at h
    rw [List.eraseIdx_cons_succ]
    exact (List.Perm.swap a y _).trans (.cons a (perm_erase h))
theorem erase_map {α β : Type} (f : α → β) : ∀ (l : List α) (k : Nat), (l.map f).eraseIdx k = (l.eraseIdx k).map f
  | [], _ => rfl
  | _ :: _, 0 => rfl
  | a :: l, k + 1 => congrArg (f a :: ·) (erase_map f l k)
theorem cut_upto (xs : List V) {k : Nat} (h : k ≤ xs.length) : cutV xs none (some (k : Int)) = xs.take k := by
  unfold cutV
  rw [HT.sIx_none, HT.sIx_nat]
  simp [Nat.min_eq_left h]
structure TDealC (K : PySem.W.Frag) (mg : Str → Option Value) : Type where
  mI : mg "int" = none
  mA : mg "abs" = none
  mL : mg "len" = none
  mLs : mg "list" = none
  deal : At K mg "_law_deal" sDeal ["_law_script"]
  draw : At K mg "_law_draw" sDraw ["_law_deal_here", "_law_many"]
  pick : At K mg "_law_pick" sPick ["_law_deal_here", "_law_some"]
  mixed : At K mg "_law_mixed" sMixed ["_law_deal_here", "_law_some"]
  names : At K mg "_law_names" sNames ["_law_deal_here", "_law_many"]
section
variable {P : Program} {w : World} {K : PySem.W.Frag} {mg : Str → Option Value} {base : Heap}
theorem TDealC.okDraw (T : TDealC K mg) : FnOk P w K mg base CX0 1 T.draw.f T.draw.fd ["_law_deal_here", "_law_many"] spDraw := ok_draw T.draw.F T.mI
theorem TDealC.okPick (T : TDealC K mg) : FnOk P w K mg base CX0 2 T.pick.f T.pick.fd ["_law_deal_here", "_law_some"] (spPick K) := ok_pick T.pick.F T.mL T.draw T.mI
theorem TDealC.okDeal (T : TDealC K mg) : FnOk P w K mg base CX0 1 T.deal.f T.deal.fd ["_law_script"] (spDeal K) := ok_deal T.deal.F T.mI T.mA
def spMixed (K : PySem.W.Frag) : Sp := fun vs H Q _ => ∃ (d g a : Addr) (ss : List Str), vs = [.ref d, .ref a] ∧ DealAt H d g ∧ SqL K (hh H d g) a (ss.map V.str) ∧ ss.length ≤ 100 ∧ (∀ z ∈ ss, PyData.strOk z = true) ∧
  ∀ (l : Addr) (zs : List Str) (H' : Hp), zs.Perm ss → DealAt H' d g → Same (hh H d g) (hh H' d g) → Mo H H' → hh H' d g l = some (.lst (zs.map V.str)) → Q (.ref l) H'
theorem scMixed : FnScope ["_law_deal_here", "_law_some", "_law_left", "_law_found"] ["_law_deal_here", "_law_some"] (defScope sMixed) := ⟨rfl, rfl, rfl, by decide +kernel, rfl, by decide +kernel, by decide +kernel⟩
theorem TDealC.okMixed (T : TDealC K mg) : FnOk P w K mg base CX0 2 T.mixed.f T.mixed.fd ["_law_deal_here", "_law_some"] (spMixed K) := by
  refine T.mixed.F.ok scMixed (fun vs H Q E h => ?_) (fun cdv A outer s H vs Q E hr h => ?_)
  · obtain ⟨d, g, a, ss, rfl, _⟩ := h
    rfl
  · obtain ⟨d, g, a, ss, rfl, hD, hS, hl, hok, q⟩ := h
    refine ⟨_, (pss_cons (ps_par (i := 2) (j := 3) (by rfl) scMixed.nd rfl rfl (by decide) rfl rfl (pa_cons (pe_callTy call_list_of (by rfl) T.mLs (by decide +kernel) (pa_cons (pv 1) pa_nil)) (pa_cons (pe_lst pa_nil) pa_nil)) (by rfl))
(pss_cons (ps_while PassesOwn.never (pt_cmpR (op_neD hr.units) (pv 2) (pe_lst pa_nil) (nomark _))
(pss_one (ps_expr (pe_bm PySem.F.plainAttrs_list PySem.F.slot_list_append PySem.F.type_list_append mt_append (pv 3) (pa_cons (pe_bm PySem.F.plainAttrs_list PySem.F.slot_list_pop PySem.F.type_list_pop mt_popAt (pv 2) (pa_cons (pe_call T.okDraw (hr.mono (by decide)) rfl T.draw.m T.draw.F.kp T.draw.b .nil pass0 (pa_cons (pv 0) (pa_cons (pe_callB call_len_seq (by rfl) T.mL PySem.boot_len (pa_cons (pv 2) pa_nil)) pa_nil))) pa_nil)) pa_nil)))))
(pss_one (ps_ret (pv 3))))), ?_⟩
    refine ⟨_, rfl, a, _, rfl, .inl (hh_sub.seq hS), fun L hL => ?_⟩
    refine ⟨(by show 0 ≤ sizeLine; decide), fun F hF => ?_⟩
    have n1 := hD.nd hL
    have hD1 := hD.new (o := .lst (ss.map V.str)) hL
    have n2 := hD1.nd hF
    have hD2 := hD1.new (o := .lst []) hF
    have s2 : Same (hh H d g) (hh (upd (upd H L (.lst (ss.map V.str))) F (.lst [])) d g) := (hh_new hL).trans (hh_new hF)
    have m2 : Mo H (upd (upd H L (.lst (ss.map V.str))) F (.lst [])) := Mo.upd.trans Mo.upd
    have nLF : L ≠ F := fun z => by rw [← z, upd_same] at hF; cases hF
    have eL : (upd (upd H L (.lst (ss.map V.str))) F (.lst [])) L = some (.lst (ss.map V.str)) := by rw [upd_ne nLF]; exact upd_same
    have eF : (upd (upd H L (.lst (ss.map V.str))) F (.lst [])) F = some (.lst []) := upd_same
    have hFn : H F = none := by rw [upd_ne nLF.symm] at hF; exact hF
    generalize upd (upd H L (.lst (ss.map V.str))) F (.lst []) = H2 at hD2 s2 m2 eL eF ⊢
    refine ⟨_, _, rfl, ?_⟩
    try dsimp only [List.set]
    refine ⟨fun n σ Hc => ∃ (ls fs : List Str), σ = [some (.ref d), some (.ref a), some (.ref L), some (.ref F)] ∧ ls.length = n ∧ (fs ++ ls).Perm ss ∧ DealAt Hc d g ∧ Same (hh H d g) (hh Hc d g) ∧ Mo H Hc ∧ Hc L = some (.lst (ls.map V.str)) ∧ Hc F = some (.lst (fs.map V.str)),
      ⟨_, ss, [], rfl, rfl, .refl _, hD2, s2, m2, eL, eF⟩, fun n σ Hc hP => ?_⟩
    obtain ⟨ls, fs, rfl, hn, perm, hDc, sc, mc, hLc, hFc⟩ := hP
    have ok1 : ∀ z ∈ ls, PyData.strOk z = true := fun z hz => hok z (perm.mem_iff.mp (List.mem_append_right _ hz))
    have len1 : fs.length + ls.length = ss.length := by rw [← List.length_append]; exact perm.length_eq
    refine ⟨_, rfl, (by show 0 ≤ sizeLine; decide), fun p hp => ?_⟩
    have hLp := Same.new (o := .lst []) hp _ _ hLc
    refine ⟨.list (ls.map PyData.str), .list [], .lst (SqL.of hLp) (dp_strL ls), .lst (SqL.of upd_same) .nil, strL_sh ok1, by decide +kernel, _, rfl, ?_⟩
    rw [strsL_nil]
    have hDp := hDc.new (o := .lst []) hp
    have np := hDc.nd hp
    have sp := sc.trans (hh_new (o := .lst []) hp)
    have mp : Mo H (upd Hc p (.lst [])) := mc.trans Mo.upd
    have hFp := Same.new (o := .lst []) hp _ _ hFc
    generalize upd Hc p (.lst []) = Hp at hDp sp mp hLp hFp ⊢
    cases ls with
    | nil =>
      refine iteFB rfl ?_
      refine ⟨_, rfl, ?_⟩
      rw [List.append_nil] at perm
      exact q F fs Hp perm hDp sp mp (hh_get hFp n2.1 n2.2)
    | cons z0 ls0 =>
      refine iteTB rfl ?_
      have ll : (z0 :: ls0).length ≤ 100 := by omega
      refine ⟨fun σ' H' => ∃ (ls fs : List Str), σ' = [some (.ref d), some (.ref a), some (.ref L), some (.ref F)] ∧ ls.length = ls0.length ∧ (fs ++ ls).Perm ss ∧ DealAt H' d g ∧ Same (hh H d g) (hh H' d g) ∧ Mo H H' ∧ H' L = some (.lst (ls.map V.str)) ∧ H' F = some (.lst (fs.map V.str)),
        fun σ' H' q => ⟨ls0.length, by rw [← hn]; exact Nat.lt_succ_self _, q⟩, ?_⟩
      refine ⟨_, rfl, .inl ⟨rfl, _, SqL.of hFp⟩, ?_⟩
      refine ⟨_, rfl, .inl ⟨rfl, _, SqL.of hLp⟩, ?_⟩
      refine ⟨_, rfl, _, rfl, L, _, rfl, .inl (SqL.of hLp), ?_⟩
      refine ⟨d, g, _, rfl, hDp, by simp, by simp only [List.length_map]; omega, fun r H' r0 r1 hD' hs hm => ?_⟩
      rw [List.length_map] at r1
      obtain ⟨k, rfl⟩ : ∃ k : Nat, r = (k : Int) := ⟨r.toNat, by omega⟩
      have hk : k < (z0 :: ls0).length := by omega
      have hL' := hh_sub _ _ (hs _ _ (hh_get hLp n1.1 n1.2))
      have hF' := hh_sub _ _ (hs _ _ (hh_get hFp n2.1 n2.2))
      have gy : (z0 :: ls0)[k]? = some (z0 :: ls0)[k] := List.getElem?_eq_getElem hk
      refine ⟨L, _, _, k, .str (z0 :: ls0)[k], rfl, rfl, hL', by omega, by omega, ?sq, by rw [List.getElem?_map, gy]; rfl, ?_⟩
      case sq =>
        rw [List.length_map]
        have e := PySem.StrLaws.seqIndex_nonneg (i := (k : Int)) (n := (z0 :: ls0).length) (by omega) (by omega)
        rw [Int.toNat_natCast] at e
        exact e
      refine ⟨F, _, _, rfl, rfl, by rw [upd_ne nLF.symm]; exact hF', small1000 (by rw [List.length_map]; omega), ?_⟩
      refine ⟨(z0 :: ls0).eraseIdx k, fs ++ [(z0 :: ls0)[k]], rfl, by rw [List.length_eraseIdx_of_lt hk]; rfl, ?_, (hD'.upd n1.1 n1.2).upd n2.1 n2.2, ?_, ?_, ?_, ?_⟩
      · refine List.Perm.trans ?_ perm
        rw [List.append_assoc]
        exact List.Perm.append_left _ (perm_erase gy)
      · intro c o e
        have e1 := hs _ _ (sp _ _ e)
        obtain ⟨c1, c2, c3⟩ := hh_ne e1
        obtain ⟨_, _, e0⟩ := hh_ne e
        exact hh_get (by rw [upd_ne (ne_of_none e0 hFn), upd_ne (ne_of_none e0 hL)]; exact c3) c1 c2
      · exact ((mp.trans hm).trans Mo.upd).trans Mo.upd
      · rw [upd_ne nLF, upd_same, erase_map]
      · rw [upd_same, List.map_append]
        rfl
def names16 : List Str := ["a", "ab", "abc", "c", "f", "fig", "sec", "zzzz", "x", "y", "now", "box", "at", "n", "text", "on"]
theorem names16_ok : names16.Nodup ∧ (∀ z ∈ names16, PyData.strOk z = true) ∧ ∀ z ∈ names16, nameS z = true := by decide +kernel
def spNames (K : PySem.W.Frag) : Sp := fun vs H Q _ => ∃ (d g : Addr) (m : Nat), vs = [.ref d, .int (m : Int)] ∧ DealAt H d g ∧ m ≤ 16 ∧
  ∀ (l : Addr) (zs : List Str) (H' : Hp), zs.Nodup → (∀ z ∈ zs, z ∈ names16) → zs.length = m → DealAt H' d g → Same (hh H d g) (hh H' d g) → Mo H H' → hh H' d g l = some (.lst (zs.map V.str)) → Q (.ref l) H'
theorem scNames : FnScope ["_law_deal_here", "_law_many", "_law_some"] ["_law_deal_here", "_law_many"] (defScope sNames) := ⟨rfl, rfl, rfl, by decide +kernel, rfl, by decide +kernel, by decide +kernel⟩
theorem TDealC.okNames (T : TDealC K mg) : FnOk P w K mg base CX0 3 T.names.f T.names.fd ["_law_deal_here", "_law_many"] (spNames K) := by
  refine T.names.F.ok scNames (fun vs H Q E h => ?_) (fun cdv A outer s H vs Q E hr h => ?_)
  · obtain ⟨d, g, m, rfl, _⟩ := h
    rfl
  · obtain ⟨d, g, m, rfl, hD, hm, q⟩ := h
    refine ⟨_, (pss_cons (ps_set (i := 2) scNames.nd rfl (Or.inl rfl) (pe_lst (pa_cons pe_str (pa_cons pe_str (pa_cons pe_str (pa_cons pe_str (pa_cons pe_str (pa_cons pe_str (pa_cons pe_str (pa_cons pe_str (pa_cons pe_str (pa_cons pe_str (pa_cons pe_str (pa_cons pe_str (pa_cons pe_str (pa_cons pe_str (pa_cons pe_str (pa_cons pe_str pa_nil))))))))))))))))))
(pss_one (ps_ret (pe_slice sl_list (pe_call T.okMixed (hr.mono (by decide)) rfl T.mixed.m T.mixed.F.kp T.mixed.b .nil pass0 (pa_cons (pv 0) (pa_cons (pv 2) pa_nil))) po_none (po_some (pv 1)))))), ?_⟩
    refine ⟨(by show 16 ≤ sizeLine; decide), fun p hp => ?_⟩
    have hD1 := hD.new (o := .lst (names16.map V.str)) hp
    have s1 : Same (hh H d g) (hh (upd H p (.lst (names16.map V.str))) d g) := hh_new hp
    have e1 := hh_at (o := .lst (names16.map V.str)) hD hp
    refine ⟨_, rfl, _, rfl, d, g, p, names16, rfl, hD1, SqL.of e1, by decide, names16_ok.2.1, fun l zs H' perm hD' hs hm' hl => ?_⟩
    have nd : zs.Nodup := perm.nodup_iff.mpr names16_ok.1
    have zl : zs.length = 16 := perm.length_eq
    refine ⟨_, rfl, (m : Int), rfl, l, _, rfl, SqL.of (hh_sub _ _ hl), fun u hu => ?_⟩
    rw [cut_upto _ (by rw [List.length_map, zl]; exact hm), ← List.map_take]
    have hD2 := hD'.new (o := .lst ((zs.take m).map V.str)) hu
    refine q u (zs.take m) _ (nd.sublist (List.take_sublist _ _)) (fun z hz => perm.mem_iff.mp (List.mem_of_mem_take hz)) (by rw [List.length_take, zl]; omega) hD2 ((s1.trans hs).trans (hh_new hu)) ((Mo.upd.trans hm').trans Mo.upd) (hh_at hD' hu)
end
end Pn

namespace Pn
open PySem PySem.Spec PyProof.Rows L2 TL
abbrev sCountersD : Stmt := top 77
abbrev sRowD : Stmt := top 78
abbrev sUnrD : Stmt := top 80
/-! ### the heap but for a deal and one list more -/
def hhL (H : Hp) (d g L : Addr) : Hp := hid (hh H d g) L
theorem hhL_ne {H : Hp} {d g L a : Addr} {o : HO} (h : hhL H d g L a = some o) : a ≠ L ∧ a ≠ d ∧ a ≠ g ∧ H a = some o := by
  have n := hid_ne h
  obtain ⟨n1, n2, e⟩ := hh_ne (hid_sub _ _ h)
  exact ⟨n, n1, n2, e⟩
theorem hhL_get {H : Hp} {d g L a : Addr} {o : HO} (h : H a = some o) (n : a ≠ L) (n1 : a ≠ d) (n2 : a ≠ g) : hhL H d g L a = some o := hid_get (hh_get h n1 n2) n
theorem hhL_sub {H : Hp} {d g L : Addr} : Same (hhL H d g L) H := fun _ _ e => (hhL_ne e).2.2.2
theorem hhL_hh {H : Hp} {d g L : Addr} : Same (hhL H d g L) (hh H d g) := fun _ _ e => hid_sub _ _ e
theorem hhL_same {A B : Hp} {d g L : Addr} (s : Same (hh A d g) (hh B d g)) : Same (hhL A d g L) (hhL B d g L) := fun a o e => by
  have n := hid_ne e
  exact hid_get (s _ _ (hid_sub _ _ e)) n
theorem hhL_put {H : Hp} {d g L : Addr} {o : HO} : Same (hhL H d g L) (hhL (upd H L o) d g L) := fun _ _ e => by
  obtain ⟨n, n1, n2, e⟩ := hhL_ne e
  exact hhL_get (by rw [upd_ne n]; exact e) n n1 n2
theorem hhL_first {H : Hp} {d g L : Addr} {o : HO} (h : H L = none) : Same (hh H d g) (hhL (upd H L o) d g L) := fun _ _ e => by
  obtain ⟨n1, n2, e⟩ := hh_ne e
  have n := ne_of_none e h
  exact hhL_get (by rw [upd_ne n]; exact e) n n1 n2
theorem hhL_at {H : Hp} {d g L p : Addr} {o : HO} (hD : DealAt H d g) (h : H p = none) (n : p ≠ L) : hhL (upd H p o) d g L p = some o := hhL_get upd_same n (hD.nd h).1 (hD.nd h).2
structure TDB (K : PySem.W.Frag) (mg : Str → Option Value) : Type where
  mR : mg "range" = none
  counters : At K mg "_law_counters" sCountersD ["_law_deal_here", "_law_most"]
  row : At K mg "_law_row" sRowD ["_law_deal_here", "_law_words", "_law_places"]
  unr : At K mg "_law_unrolled" sUnrD ["_law_told"]
section
variable {P : Program} {w : World} {K : PySem.W.Frag} {mg : Str → Option Value} {base : Heap}
/-! ### drawn counters -/
def TupsAt (H : Hp) (ts : List Addr) (cs : List (Str × Str)) : Prop := Paired (fun t (p : Str × Str) => H t = some (.tup [.str p.1, .str p.2])) ts cs
theorem TupsAt.same {A B : Hp} {ts : List Addr} {cs : List (Str × Str)} (s : Same A B) (h : TupsAt A ts cs) : TupsAt B ts cs := paired_mono (fun _ _ e => s _ _ e) h
theorem tups_snoc {H : Hp} {t : Addr} {c : Str × Str} (h : H t = some (.tup [.str c.1, .str c.2])) {ts : List Addr} {cs : List (Str × Str)} (p : TupsAt H ts cs) : TupsAt H (ts ++ [t]) (cs ++ [c]) := by
  unfold TupsAt at p ⊢
  exact paired_snoc (R := fun t (p : Str × Str) => H t = some (.tup [.str p.1, .str p.2])) (x := t) (y := c) h p
def spCountersD : Sp := fun vs H Q _ => ∃ (d g : Addr) (m : Nat), vs = [.ref d, .int (m : Int)] ∧ DealAt H d g ∧ 0 < m ∧ m ≤ 15 ∧
  ∀ (c : Addr) (cs : List (Str × Str)) (H' : Hp), DealAt H' d g → Same (hh H d g) (hh H' d g) → Mo H H' → CsAt (hh H' d g) c cs → TreeOk cs → (cs.map (·.1)).Nodup → (∀ z ∈ cs.map (·.1), z ∈ names16) → 0 < cs.length → cs.length ≤ m → Q (.ref c) H'
theorem scCountersD : FnScope ["_law_deal_here", "_law_most", "_law_found", "_law_word", "_law_above", "_law_one", "_law_upper"] ["_law_deal_here", "_law_most"] (defScope sCountersD) := ⟨rfl, rfl, rfl, by decide +kernel, rfl, by decide +kernel, by decide +kernel⟩
theorem ok_countersD (T : TDealC K mg) (X : TDB K mg) : FnOk P w K mg base CX0 4 X.counters.f X.counters.fd ["_law_deal_here", "_law_most"] spCountersD := by
  refine X.counters.F.ok scCountersD (fun vs H Q E h => ?_) (fun cdv A outer s H vs Q E hr h => ?_)
  · obtain ⟨d, g, m, rfl, _⟩ := h
    rfl
  · obtain ⟨d, g, m, rfl, hD, h0, hm, q⟩ := h
    refine ⟨_, (pss_cons (ps_set (i := 2) scCountersD.nd rfl (Or.inl rfl) (pe_lst pa_nil))
(pss_cons (ps_for PassesOwn.never rfl (pi_list (pe_call T.okNames (hr.mono (by decide)) rfl T.names.m T.names.F.kp T.names.b .nil pass0 (pa_cons (pv 0) (pa_cons (pe_op op_add pe_int (pe_call T.okDraw (hr.mono (by decide)) rfl T.draw.m T.draw.F.kp T.draw.b .nil pass0 (pa_cons (pv 0) (pa_cons (pv 1) pa_nil)))) pa_nil)))) (pg_name (i := 3) scCountersD.nd rfl (Or.inl rfl))
(pss_cons (ps_set (i := 4) scCountersD.nd rfl (Or.inl rfl) (pe_op op_cat (pe_lst (pa_cons pe_str pa_nil)) (pe_op op_rep (pe_lc (own := [("_law_one", 5), ("_law_upper", 6)]) (g := gTup K 2 (gCons (gName 5) (gCons (gName 6) gNil))) (tt := tYes) (by rfl) scCountersD.nd (pi_list (pv 2))
 (blkOk_by (N := ["_law_deal_here", "_law_most", "_law_found", "_law_word", "_law_above", "_law_one", "_law_upper"]) (sc := defScope sCountersD) (by decide +kernel)) (fun _ _ _ _ _ => (pg_tup (by rfl) (pgs_cons (pg_name (i := 5) scCountersD.nd rfl (Or.inl rfl)) (pgs_cons (pg_name (i := 6) scCountersD.nd rfl (Or.inl rfl)) pgs_nil)))) (fun _ _ _ _ _ => pts_nil) (fun _ _ _ _ _ => (pv 5))) pe_int)))
(pss_one (ps_expr (pe_bm PySem.F.plainAttrs_list PySem.F.slot_list_append PySem.F.type_list_append mt_append (pv 2) (pa_cons (pe_tup (pa_cons (pv 3) (pa_cons (pe_call T.okPick (hr.mono (by decide)) rfl T.pick.m T.pick.F.kp T.pick.b .nil pass0 (pa_cons (pv 0) (pa_cons (pv 4) pa_nil))) pa_nil))) pa_nil))))))
(pss_one (ps_ret (pv 2))))), ?_⟩
    refine ⟨Nat.zero_le _, fun L hL => ?_⟩
    have nL := hD.nd hL
    have hD1 := hD.new (o := .lst []) hL
    have s1 : Same (hh H d g) (hhL (upd H L (.lst [])) d g L) := hhL_first hL
    have e1 : (upd H L (.lst [])) L = some (.lst []) := upd_same
    have m1 : Mo H (upd H L (.lst [])) := Mo.upd
    generalize upd H L (.lst []) = H1 at hD1 s1 e1 m1 ⊢
    try dsimp only [List.set]
    refine ⟨_, rfl, _, rfl, _, rfl, d, g, (m : Int), rfl, hD1, by omega, by omega, fun r H2 r0 r1 hD2 s2 m2 => ?_⟩
    obtain ⟨n, rfl⟩ : ∃ n : Nat, r = (n : Int) := ⟨r.toNat, by omega⟩
    refine ⟨_, _, rfl, rfl, d, g, 1 + n, by rw [Int.natCast_add]; rfl, hD2, by omega, fun l zs H3 nd hz hzl hD3 s3 m3 hl => ?_⟩
    have s13 : Same (hhL H1 d g L) (hhL H3 d g L) := (hhL_same s2).trans (hhL_same s3)
    have eL3 : H3 L = some (.lst []) := hh_sub _ _ (s3 _ _ (s2 _ _ (hh_get e1 nL.1 nL.2)))
    obtain ⟨nl1, nl2, hl2⟩ := hh_ne hl
    have nlL : l ≠ L := fun z => by
      rw [z, eL3] at hl2
      cases zs with
      | nil => simp at hzl; omega
      | cons a b => cases hl2
    have m13 := (m1.trans m2).trans m3
    have hl3 : hhL H3 d g L l = some (.lst (zs.map V.str)) := hid_get hl nlL
    refine ⟨l, rfl, ⟨_, SqL.of hl2⟩, for_list (xs := zs.map V.str) (fun i σ Hx => ∃ y3 y4 ts cs, σ = [some (.ref d), some (.int (m : Int)), some (.ref L), y3, y4, none, none] ∧ DealAt Hx d g ∧ Mo H Hx ∧ Same (hhL H3 d g L) (hhL Hx d g L) ∧ Hx L = some (.lst ((ts : List Addr).map V.ref)) ∧ TupsAt (hhL Hx d g L) ts cs ∧ cs.map (·.1) = zs.take i ∧ TreeOk cs)
      ⟨_, _, [], [], rfl, hD3, m13, Same.refl _, eL3, .nil, rfl, fun i p z => by simp at z⟩ (fun i σ Hx _ hP => ?stay) (fun i x σ Hx hx hP => ?turn) (fun σ Hx hP => ?fin)⟩
    case stay =>
      obtain ⟨_, _, _, _, _, _, _, sx, _⟩ := hP
      exact SqL.of (hhL_sub _ _ (sx _ _ hl3))
    case fin =>
      obtain ⟨y3, y4, ts, cs, rfl, hDx, mx, sx, eL, hts, hcs, tree⟩ := hP
      rw [List.length_map, List.take_length] at hcs
      exact ⟨_, rfl, q L cs Hx hDx ((s1.trans (s13.trans sx)).trans hhL_hh) mx ⟨ts, hh_get eL nL.1 nL.2, paired_mono (fun _ _ e => hhL_hh _ _ e) hts⟩ tree (by rw [hcs]; exact nd) (by rw [hcs]; exact hz) (by rw [← List.length_map (f := (·.1)) (as := cs), hcs, hzl]; omega) (by rw [← List.length_map (f := (·.1)) (as := cs), hcs, hzl]; omega)⟩
    case turn =>
      obtain ⟨y3, y4, ts, cs, rfl, hDx, mx, sx, eL, hts, hcs, tree⟩ := hP
      rw [List.getElem?_map] at hx
      obtain ⟨z, hzi, rfl⟩ := Option.map_eq_some_iff.mp hx
      have hi : i < zs.length := (List.getElem?_eq_some_iff.mp hzi).1
      have hcl : cs.length = i := by rw [← List.length_map (f := (·.1)) (as := cs), hcs, List.length_take]; omega
      have htl : ts.length = cs.length := paired_len hts
      have big : (1000 : Nat) ≤ sizeLine := by decide
      try dsimp only [List.set]
      refine stepSet (fun v H' => ∃ p, v = .ref p ∧ Same Hx H' ∧ H' p = some (.lst ((("" : Str) :: (cs.map (·.1) ++ cs.map (·.1))).map V.str))) (fun Q' hQ => ?c1) (fun v Ha hC => ?r1)
      case c1 =>
        refine ⟨by show 1 ≤ sizeLine; omega, fun p1 hp1 => ?_⟩
        have s4 : Same Hx (upd Hx p1 (.lst [V.str ""])) := Same.new hp1
        have e4 : (upd Hx p1 (.lst [V.str ""])) p1 = some (.lst [V.str ""]) := upd_same
        generalize upd Hx p1 (.lst [V.str ""]) = H4 at s4 e4 ⊢
        refine lcw_list (K := K) (tl := tVar 2) (p := L) (xs := ts.map V.ref) (out := fun i => (cs[i]?).map fun c => V.str c.1) ?h0 (SqL.of (s4 _ _ eL)) (by rw [List.length_map]; omega) ?tn ?fn
        case h0 => exact fun R' z => ⟨_, rfl, z⟩
        case tn =>
          intro j x Hi S Y hx sI h0 h1
          rw [List.getElem?_map] at hx
          obtain ⟨t, ht, rfl⟩ := Option.map_eq_some_iff.mp hx
          obtain ⟨c, hc, hct2⟩ := paired_at hts ht
          exact ⟨t, _, rfl, SqT.of (sI _ _ (s4 _ _ (hhL_sub _ _ hct2))), rfl, _, _, rfl, _, _, rfl, rfl, rfl, _, rfl, h1 (.str c.1) (by show Option.map (fun c : Str × Str => V.str c.1) cs[j]? = _; rw [hc]; rfl) Hi (Same.refl _)⟩
        case fn =>
          intro D H5 hDn s5 hDl
          have eo : (List.range (ts.map V.ref).length).filterMap (fun i => (cs[i]?).map fun c => V.str c.1) = (cs.map (·.1)).map V.str := by
            rw [List.length_map, htl, List.map_map]
            exact out_map (l := cs) (f := fun c => V.str c.1)
          rw [eo] at hDl
          refine ⟨D, 2, _, rfl, rfl, hDl, by decide, by decide, by rw [List.length_map, List.length_map]; show cs.length * 2 ≤ _; omega, fun p hp => ?_⟩
          refine ⟨p1, p, _, _, rfl, rfl, Same.new hp _ _ (s5 _ _ e4), upd_same, ?_, fun p2 hp2 => hQ _ _ ⟨p2, rfl, s4.trans (s5.trans ((Same.new hp).trans (Same.new hp2))), ?_⟩⟩
          · show 1 + (List.flatten (List.replicate 2 ((cs.map (·.1)).map V.str))).length ≤ _
            rw [show List.replicate 2 ((cs.map (·.1)).map V.str) = [(cs.map (·.1)).map V.str, (cs.map (·.1)).map V.str] from rfl]
            simp only [List.flatten_cons, List.flatten_nil, List.length_append, List.length_map, List.length_nil]
            omega
          · rw [upd_same]
            show some (HO.lst ([V.str ""] ++ List.flatten (List.replicate 2 ((cs.map (·.1)).map V.str)))) = _
            rw [show List.replicate 2 ((cs.map (·.1)).map V.str) = [(cs.map (·.1)).map V.str, (cs.map (·.1)).map V.str] from rfl]
            simp only [List.flatten_cons, List.flatten_nil, List.append_nil, List.map_cons, List.map_append, List.cons_append, List.nil_append]
      case r1 =>
      obtain ⟨p, rfl, sa, ep⟩ := hC
      try dsimp only [List.set]
      have hDa := hDx.same sa
      have eLa := sa _ _ eL
      have npL : p ≠ L := fun e => by
        rw [e, eLa] at ep
        cases ts with
        | nil => cases ep
        | cons a b => cases ep
      have epL : hhL Ha d g L p = some (.lst (((("" : Str) :: (cs.map (·.1) ++ cs.map (·.1)))).map V.str)) := by
        refine hhL_get ep npL (fun e => ?_) (fun e => ?_)
        · obtain ⟨_, xs, m', ed, _⟩ := hDa
          rw [e, ed] at ep
          cases cs <;> cases ep
        · obtain ⟨_, xs, m', _, ed, _⟩ := hDa
          rw [e, ed] at ep
          cases xs <;> cases ep
      refine ⟨_, rfl, .inl ⟨rfl, _, SqL.of eLa⟩, ?_⟩
      refine ⟨_, rfl, _, rfl, _, rfl, d, g, p, _, rfl, hDa, SqL.of (hhL_hh _ _ epL), by simp, by rw [List.length_map, List.length_cons, List.length_append, List.length_map]; omega, fun v Hb hv hDb sb mb => ⟨by show 2 ≤ sizeLine; omega, fun t ht => ?_⟩⟩
      obtain ⟨u, hu, rfl⟩ := List.mem_map.mp hv
      have eLb := hh_sub _ _ (sb _ _ (hh_get eLa nL.1 nL.2))
      have ntL : t ≠ L := fun e => by rw [e, eLb] at ht; cases ht
      refine ⟨L, _, _, rfl, rfl, by rw [upd_ne ntL.symm]; exact eLb, by rw [List.length_map]; omega, ?_⟩
      have sab : Same (hhL Hx d g L) (hhL Hb d g L) := (hhL_same (hh_same sa)).trans (hhL_same sb)
      have sbc : Same (hhL Hb d g L) (hhL (upd (upd Hb t (.tup [.str z, .str u])) L (.lst (ts.map V.ref ++ [V.ref t]))) d g L) := (hhL_same (hh_new ht)).trans hhL_put
      have pt : TupsAt (hhL (upd (upd Hb t (.tup [.str z, .str u])) L (.lst (ts.map V.ref ++ [V.ref t]))) d g L) (ts ++ [t]) (cs ++ [(z, u)]) :=
        tups_snoc (hhL_get (by rw [upd_ne ntL]; exact upd_same) ntL (hDb.nd ht).1 (hDb.nd ht).2) (TupsAt.same (sab.trans sbc) hts)
      refine ⟨_, _, ts ++ [t], cs ++ [(z, u)], rfl, (hDb.new ht).upd nL.1 nL.2, (((mx.trans (Same.mo sa)).trans mb).trans Mo.upd).trans Mo.upd, sx.trans (sab.trans sbc), by rw [upd_same, List.map_append]; rfl, pt, by rw [List.map_append, hcs, List.take_add_one, hzi]; rfl, tree_snoc tree ?_⟩
      rcases List.mem_cons.mp hu with hu | hu
      · exact .inl hu
      · exact .inr (by rcases List.mem_append.mp hu with hu | hu <;> exact hu)
end
end Pn

namespace Pn
open PySem PySem.Spec PyProof.Rows L2 TL
section
variable {P : Program} {w : World} {K : PySem.W.Frag} {mg : Str → Option Value} {base : Heap}
/-! ### a drawn row that puts nothing -/
def goodD (ws pl : List Str) : RowD → Prop
  | .note c l => c ∈ ws ∧ (l = "" ∨ l = "cat" ∨ l = "dog")
  | .skip c n => c ∈ ws ∧ 1 ≤ n ∧ n ≤ 3
  | .set c n => c ∈ ws ∧ n ≤ 3
  | .keep c => c ∈ ws
  | .back c => c ∈ ws
  | .opn z => z ∈ pl
  | .put _ => False
  | .ref _ => False
def spRowD (K : PySem.W.Frag) : Sp := fun vs H Q _ => ∃ (d g wl pa : Addr) (ws pl : List Str), vs = [.ref d, .ref wl, .ref pa] ∧ DealAt H d g ∧ SqL K (hh H d g) wl (ws.map V.str) ∧ SqL K (hh H d g) pa (pl.map V.str) ∧ 0 < ws.length ∧ ws.length ≤ 100 ∧ pl.length ≤ 100 ∧ (∀ z ∈ pl, PyData.strOk z = true) ∧
  ∀ (t : Addr) (r : RowD) (H' : Hp), goodD ws pl r → DealAt H' d g → Same (hh H d g) (hh H' d g) → Mo H H' → hh H' d g t = some (.tup (rowTup r)) → Q (.ref t) H'
theorem scRowD : FnScope ["_law_deal_here", "_law_words", "_law_places", "_law_form", "_law_word"] ["_law_deal_here", "_law_words", "_law_places"] (defScope sRowD) := ⟨rfl, rfl, rfl, by decide +kernel, rfl, by decide +kernel, by decide +kernel⟩
theorem ok_rowD (T : TDealC K mg) (X : TDB K mg) : FnOk P w K mg base CX0 3 X.row.f X.row.fd ["_law_deal_here", "_law_words", "_law_places"] (spRowD K) := by
  refine X.row.F.ok scRowD (fun vs H Q E h => ?_) (fun cdv A outer s H vs Q E hr h => ?_)
  · obtain ⟨d, g, wl, pa, ws, pl, rfl, _⟩ := h
    rfl
  · obtain ⟨d, g, wl, pa, ws, pl, rfl, hD, hW, hPl, h0, hw, hp, ok, q⟩ := h
    refine ⟨_, (pss_cons (ps_par (i := 3) (j := 4) (by rfl) scRowD.nd rfl rfl (by decide) rfl rfl (pa_cons (pe_call T.okDraw (hr.mono (by decide)) rfl T.draw.m T.draw.F.kp T.draw.b .nil pass0 (pa_cons (pv 0) (pa_cons pe_int pa_nil))) (pa_cons (pe_call T.okPick (hr.mono (by decide)) rfl T.pick.m T.pick.F.kp T.pick.b .nil pass0 (pa_cons (pv 0) (pa_cons (pv 1) pa_nil))) pa_nil)) (by rfl))
(pss_cons (ps_if (pt_cmpR op_lt (pv 3) pe_int (nomark _)) (pss_one (ps_ret (pe_tup (pa_cons pe_str (pa_cons (pv 4) (pa_cons (pe_call T.okPick (hr.mono (by decide)) rfl T.pick.m T.pick.F.kp T.pick.b .nil pass0 (pa_cons (pv 0) (pa_cons (pe_lst (pa_cons pe_str (pa_cons pe_str (pa_cons pe_str (pa_cons pe_str pa_nil))))) pa_nil))) pa_nil)))))) pss_nil)
(pss_cons (ps_if (pt_cmpR op_lt (pv 3) pe_int (nomark _)) (pss_one (ps_ret (pe_tup (pa_cons pe_str (pa_cons (pv 4) (pa_cons (pe_op op_add pe_int (pe_call T.okDraw (hr.mono (by decide)) rfl T.draw.m T.draw.F.kp T.draw.b .nil pass0 (pa_cons (pv 0) (pa_cons pe_int pa_nil)))) pa_nil)))))) pss_nil)
(pss_cons (ps_if (pt_cmpR op_eq (pv 3) pe_int (nomark _)) (pss_one (ps_ret (pe_tup (pa_cons pe_str (pa_cons (pv 4) (pa_cons (pe_call T.okDraw (hr.mono (by decide)) rfl T.draw.m T.draw.F.kp T.draw.b .nil pass0 (pa_cons (pv 0) (pa_cons pe_int pa_nil))) pa_nil)))))) pss_nil)
(pss_cons (ps_if (pt_cmpR op_lt (pv 3) pe_int (nomark _)) (pss_one (ps_ret (pe_tup (pa_cons (pe_call T.okPick (hr.mono (by decide)) rfl T.pick.m T.pick.F.kp T.pick.b .nil pass0 (pa_cons (pv 0) (pa_cons (pe_lst (pa_cons pe_str (pa_cons pe_str pa_nil))) pa_nil))) (pa_cons (pv 4) pa_nil))))) pss_nil)
(pss_one (ps_ret (pe_ifExp (pt_cmpR (op_neD hr.units) (pv 2) (pe_lst pa_nil) (nomark _)) (pe_tup (pa_cons pe_str (pa_cons (pe_call T.okPick (hr.mono (by decide)) rfl T.pick.m T.pick.F.kp T.pick.b .nil pass0 (pa_cons (pv 0) (pa_cons (pv 2) pa_nil))) pa_nil))) (pe_tup (pa_cons pe_str (pa_cons (pv 4) pa_nil))))))))))), ?_⟩
    have two : 4 ≤ sizeLine := by decide
    refine ⟨_, rfl, d, g, 12, rfl, hD, by decide, by decide, fun r H1 r0 r1 hD1 s1 m1 => ?_⟩
    refine ⟨_, rfl, _, rfl, d, g, wl, ws.map V.str, rfl, hD1, s1.seq hW, by rw [List.length_map]; exact h0, by rw [List.length_map]; omega, fun v H2 hv hD2 s2 m2 => ?_⟩
    obtain ⟨c, hc, rfl⟩ := List.mem_map.mp hv
    have s12 := s1.trans s2
    have m12 := m1.trans m2
    refine ⟨_, _, rfl, ?_⟩
    try dsimp only [List.set]
    have fin : ∀ (r : RowD) (H3 : Hp), goodD ws pl r → DealAt H3 d g → Same (hh H d g) (hh H3 d g) → Mo H H3 → ∀ t, H3 t = none → Q (.ref t) (upd H3 t (.tup (rowTup r))) := fun r H3 hg hD3 s3 m3 t ht =>
      q t r _ hg (hD3.new ht) (s3.trans (hh_new ht)) (m3.trans Mo.upd) (hh_at hD3 ht)
    refine ⟨_, rfl, _, _, rfl, rfl, _, rfl, ?_⟩
    by_cases c6 : r < 6
    · refine iteTB (decide_eq_true c6) ?_
      refine ⟨_, rfl, _, rfl, two, fun p hp => ?_⟩
      have e3 : hh (upd H2 p (.lst [.str "", .str "", .str "cat", .str "dog"])) d g p = some (.lst [.str "", .str "", .str "cat", .str "dog"]) := hh_at hD2 hp
      refine ⟨d, g, p, [.str "", .str "", .str "cat", .str "dog"], rfl, hD2.new hp, SqL.of e3, by simp, by simp, fun v H3 hv hD3 s3 m3 => ?_⟩
      have hl : ∃ l : Str, v = .str l ∧ (l = "" ∨ l = "cat" ∨ l = "dog") := by
        simp only [List.mem_cons, List.not_mem_nil, or_false] at hv
        rcases hv with rfl | rfl | rfl | rfl
        · exact ⟨_, rfl, .inl rfl⟩
        · exact ⟨_, rfl, .inl rfl⟩
        · exact ⟨_, rfl, .inr (.inl rfl)⟩
        · exact ⟨_, rfl, .inr (.inr rfl)⟩
      obtain ⟨l, rfl, hl⟩ := hl
      exact ⟨by show 3 ≤ sizeLine; omega, fin (.note c l) H3 ⟨hc, hl⟩ hD3 (s12.trans ((hh_new hp).trans s3)) ((m12.trans Mo.upd).trans m3)⟩
    refine iteFB (decide_eq_false c6) ?_
    refine ⟨_, rfl, _, _, rfl, rfl, _, rfl, ?_⟩
    by_cases c8 : r < 8
    · refine iteTB (decide_eq_true c8) ?_
      refine ⟨_, rfl, _, rfl, d, g, 3, rfl, hD2, by decide, by decide, fun n H3 n0 n1 hD3 s3 m3 => ?_⟩
      obtain ⟨n, rfl⟩ : ∃ k : Nat, n = (k : Int) := ⟨n.toNat, by omega⟩
      exact ⟨_, _, rfl, rfl, by show 3 ≤ sizeLine; omega, fin (.skip c (1 + n)) H3 ⟨hc, by omega, by omega⟩ hD3 (s12.trans s3) (m12.trans m3)⟩
    refine iteFB (decide_eq_false c8) ?_
    refine ⟨_, rfl, rfl, _, rfl, ?_⟩
    by_cases e8 : r = 8
    · refine iteTB (decide_eq_true (by rw [e8])) ?_
      refine ⟨_, rfl, _, rfl, d, g, 4, rfl, hD2, by decide, by decide, fun n H3 n0 n1 hD3 s3 m3 => ?_⟩
      obtain ⟨n, rfl⟩ : ∃ k : Nat, n = (k : Int) := ⟨n.toNat, by omega⟩
      exact ⟨by show 3 ≤ sizeLine; omega, fin (.set c n) H3 ⟨hc, by omega⟩ hD3 (s12.trans s3) (m12.trans m3)⟩
    refine iteFB (decide_eq_false fun z => e8 (by injection z)) ?_
    refine ⟨_, rfl, _, _, rfl, rfl, _, rfl, ?_⟩
    by_cases c11 : r < 11
    · refine iteTB (decide_eq_true c11) ?_
      refine ⟨_, rfl, by show 2 ≤ sizeLine; omega, fun p hp => ?_⟩
      have e3 : hh (upd H2 p (.lst [.str "keep", .str "back"])) d g p = some (.lst [.str "keep", .str "back"]) := hh_at hD2 hp
      refine ⟨d, g, p, [.str "keep", .str "back"], rfl, hD2.new hp, SqL.of e3, by simp, by simp, fun v H3 hv hD3 s3 m3 => ?_⟩
      have s := s12.trans ((hh_new hp).trans s3)
      have m := (m12.trans Mo.upd).trans m3
      simp only [List.mem_cons, List.not_mem_nil, or_false] at hv
      rcases hv with rfl | rfl
      · exact ⟨_, rfl, by show 2 ≤ sizeLine; omega, fin (.keep c) H3 hc hD3 s m⟩
      · exact ⟨_, rfl, by show 2 ≤ sizeLine; omega, fin (.back c) H3 hc hD3 s m⟩
    refine iteFB (decide_eq_false c11) ?_
    refine ⟨_, rfl, Nat.zero_le _, fun p hp => ?_⟩
    have sp : Same (hh H2 d g) (hh (upd H2 p (.lst [])) d g) := hh_new hp
    have hD3 := hD2.new (o := .lst []) hp
    have hP3 : SqL K (upd H2 p (.lst [])) pa (pl.map V.str) := hh_sub.seq ((s12.trans sp).seq hPl)
    have e3 : (upd H2 p (.lst [])) p = some (.lst []) := upd_same
    have mp : Mo H (upd H2 p (.lst [])) := m12.trans Mo.upd
    refine ⟨.list (pl.map PyData.str), .list [], .lst hP3 (dp_strL pl), .lst (SqL.of e3) .nil, strL_sh ok, by decide +kernel, _, rfl, ?_⟩
    rw [strsL_nil]
    generalize upd H2 p (.lst []) = H3 at sp hD3 hP3 e3 mp ⊢
    cases pl with
    | nil =>
      refine iteFB rfl ?_
      exact ⟨_, rfl, by show 2 ≤ sizeLine; omega, fin (.keep c) H3 hc hD3 (s12.trans sp) mp⟩
    | cons y ys =>
      refine iteTB rfl ?_
      refine ⟨_, rfl, _, rfl, d, g, pa, _, rfl, hD3, (s12.trans sp).seq hPl, by simp, by rw [List.length_map]; omega, fun v H4 hv hD4 s4 m4 => ?_⟩
      obtain ⟨z, hz, rfl⟩ := List.mem_map.mp hv
      exact ⟨by show 2 ≤ sizeLine; omega, fin (.opn z) H4 hz hD4 ((s12.trans sp).trans s4) (mp.trans m4)⟩
end
end Pn

namespace Pn
open PySem L2 TL
/-! ### the rows of a dealt book's text with what is put in -/
def PutsOkD (bk : List PartD) : Prop := ∀ (i : Nat) (p : PartD), bk[i]? = some p → p.2.length ≤ 15 ∧ ∀ z, RowD.put z ∈ p.2 → z ∈ (bk.take i).map (·.1)
section
variable {P : Program} {w : World} {K : PySem.W.Frag} {mg : Str → Option Value} {base : Heap}
def spUnrD (K : PySem.W.Frag) : Sp := fun vs H Q _ => ∃ (tt pc pa : Addr) (bk : List PartD), vs = [.ref tt] ∧ SqT K H tt [.ref pc, .ref pa] ∧ PartsAt H pa bk ∧ PutsOkD bk ∧ bk ≠ [] ∧ bk.length ≤ 3 ∧ ∀ (F : Addr) (H' : Hp), Same H H' → H F = none → LstAt H' F (unrolled bk) → (unrolled bk).length ≤ 3375 → Q (.ref F) H'
theorem scUnrD : FnScope ["_law_told", "_law_known", "_law_name", "_law_rows", "_law_found", "_law_row_here"] ["_law_told"] (defScope sUnrD) := ⟨rfl, rfl, rfl, by decide +kernel, rfl, by decide +kernel, by decide +kernel⟩
theorem ok_unrD (X : TDB K mg) : FnOk P w K mg base CX0 1 X.unr.f X.unr.fd ["_law_told"] (spUnrD K) := by
  refine X.unr.F.ok scUnrD (fun vs H Q E h => ?_) (fun cdv A outer s H vs Q E hr h => ?_)
  · obtain ⟨tt, pc, pa, bk, rfl, _⟩ := h
    rfl
  · obtain ⟨tt, pc, pa, bk, rfl, htt0, ⟨ts, hpa, hpd⟩, hPO, hne, hlen, q⟩ := h
    refine ⟨_, (pss_cons (ps_set (i := 1) scUnrD.nd rfl (Or.inl rfl) pe_dnewK)
(pss_cons (ps_for PassesOwn.never rfl (pi_list (pe_ix ix_tup (pv 0) pe_int (fun _ _ => rfl))) (pg_tup (by rfl) (pgs_cons (pg_name (i := 2) scUnrD.nd rfl (Or.inl rfl)) (pgs_cons (pg_name (i := 3) scUnrD.nd rfl (Or.inl rfl)) pgs_nil)))
(pss_cons (ps_set (i := 4) scUnrD.nd rfl (Or.inl rfl) (pe_lst pa_nil))
(pss_cons (ps_for PassesOwn.never rfl (pi_list (pv 3)) (pg_name (i := 5) scUnrD.nd rfl (Or.inl rfl))
(pss_one (ps_expr (pe_bm PySem.F.plainAttrs_list PySem.F.slot_list_extend PySem.F.type_list_extend mt_extend (pv 4) (pa_cons (pe_ifExp (pt_cmpR op_eq (pe_ix ix_tup (pv 5) pe_int (fun _ _ => rfl)) pe_str (nomark _)) (pe_dget (roomU hr) (pv 1) (pe_ix ix_tup (pv 5) pe_int (fun _ _ => rfl)) (fun _ _ => rfl)) (pe_lst (pa_cons (pv 5) pa_nil))) pa_nil)))))
(pss_one (ps_dput (roomU hr) (pv 1) (pv 2) (pv 4) (by rfl))))))
(pss_one (ps_ret (pe_dget (roomU hr) (pv 1) (pe_ix ix_tup (pe_ix ix_list (pe_ix ix_tup (pv 0) pe_int (fun _ _ => rfl)) (pe_un un_neg pe_int) (fun _ _ => rfl)) pe_int (fun _ _ => rfl)) (fun _ _ => rfl)))))), ?_⟩
    try dsimp only
    refine fun kp hkp => ?_
    have s0 : Same H (upd H kp (.dK [])) := Same.new hkp
    have hK0 : upd H kp (.dK []) kp = some (.dK []) := upd_same
    generalize upd H kp (.dK []) = H0 at s0 hK0 ⊢
    have htl : ts.length = bk.length := paired_len hpd
    refine ⟨_, rfl, tt, _, _, .ref pa, rfl, rfl, Same.sqt s0 htt0, rfl, pa, rfl, ⟨_, SqL.of (s0 _ _ hpa)⟩, for_list (xs := ts.map V.ref) (fun i σ Hi => ∃ x2 x3 x4 x5 kvs, σ = [some (.ref tt), some (.ref kp), x2, x3, x4, x5] ∧ Same H Hi ∧ Hi kp = some (.dK kvs) ∧ kvs.length ≤ i ∧ KnAt H Hi kvs (knowns (bk.take i)) ∧ ∀ z rs, (z, rs) ∈ knowns (bk.take i) → rs.length ≤ 15 ^ i)
      ⟨_, _, _, _, [], rfl, s0, hK0, Nat.le_refl _, (fun z rs h => by cases h), (fun z rs h => by cases h)⟩ (fun i σ Hi _ hP => by obtain ⟨_, _, _, _, _, _, hs, _⟩ := hP; exact SqL.of (hs _ _ hpa)) (fun i x σ Hi hx hP => ?turnO) (fun σ Hi hP => ?doneO)⟩
    case turnO =>
      obtain ⟨x2, x3, x4, x5, kvs, rfl, sH, hK, hkl, hKn, hlen6⟩ := hP
      rw [List.getElem?_map] at hx
      cases hxi : ts[i]? with
      | none => rw [hxi] at hx; cases hx
      | some t =>
      rw [hxi] at hx
      cases hx
      obtain ⟨p, hp, ra, ht, us, hra, hus⟩ := paired_at hpd hxi
      have hi4 : i < 3 := by
        have := (List.getElem?_eq_some_iff.mp hp).1
        omega
      obtain ⟨hp6, hput⟩ := hPO i p hp
      have hul : us.length = p.2.length := paired_len hus
      refine ⟨t, _, rfl, SqT.of (sH _ _ ht), rfl, _, _, rfl, _, _, rfl, rfl, ?_⟩
      try dsimp only
      refine ⟨Nat.zero_le _, fun fp hfp => ?_⟩
      have hfH : H fp = none := sH.free hfp
      have s1 : Same Hi (upd Hi fp (.lst [])) := Same.new hfp
      have hF1 : upd Hi fp (.lst []) fp = some (.lst []) := upd_same
      generalize upd Hi fp (.lst []) = H1 at s1 hF1 ⊢
      refine ⟨_, rfl, ra, rfl, ⟨_, SqL.of (s1 _ _ (sH _ _ hra))⟩, for_list (xs := us.map V.ref) (fun j σ Hj => ∃ x5 fs, σ = [some (.ref tt), some (.ref kp), some (.str p.1), some (.ref ra), some (.ref fp), x5] ∧ Same Hi Hj ∧ Hj fp = some (.lst ((fs : List Addr).map V.ref)) ∧ RowsAt Hj fs (unrollIn (knowns (bk.take i)) (p.2.take j)) ∧ fs.length ≤ j * 15 ^ i)
        ⟨_, [], rfl, s1, hF1, .nil, Nat.zero_le _⟩ (fun j σ Hj _ hP => by obtain ⟨_, _, _, hs, _⟩ := hP; exact SqL.of (hs _ _ (sH _ _ hra))) (fun j x σ Hj hx hP => ?turnI) (fun σ Hj hP => ?doneI)⟩
      case turnI =>
        obtain ⟨y5, fs, rfl, sj, hFj, hfs, hfl⟩ := hP
        rw [List.getElem?_map] at hx
        cases hxj : us[j]? with
        | none => rw [hxj] at hx; cases hx
        | some u =>
        rw [hxj] at hx
        cases hx
        obtain ⟨r, hrj, hru⟩ := paired_at hus hxj
        have hruj := sj _ _ (sH _ _ hru)
        have hj6 : j < 15 := by
          have := (List.getElem?_eq_some_iff.mp hrj).1
          omega
        have hstep : ∀ es : List RowD, expand (knowns (bk.take i)) r = es → unrollIn (knowns (bk.take i)) (p.2.take (j + 1)) = unrollIn (knowns (bk.take i)) (p.2.take j) ++ es := fun es he => by
          unfold unrollIn
          rw [List.take_add_one, hrj, List.flatMap_append]
          show _ ++ List.flatMap _ [r] = _
          rw [List.flatMap_singleton, he]
        have h6 : 15 ^ i ≤ 225 := by
          have : 15 ^ i ≤ 15 ^ 2 := Nat.pow_le_pow_right (by decide) (by omega)
          exact this
        have h61 : 1 ≤ 15 ^ i := Nat.le_trans Nat.one_le_two_pow (Nat.pow_le_pow_left (by decide) i)
        have hflB : fs.length ≤ 3375 := by
          have : j * 15 ^ i ≤ 15 * 225 := Nat.mul_le_mul (by omega) h6
          omega
        refine ⟨_, rfl, .inl ⟨rfl, _, SqL.of hFj⟩, ?_⟩
        refine ⟨_, rfl, u, _, _, _, rfl, rfl, SqT.of hruj, atI_nat (j := 0) (tup_head r), rfl, _, rfl, ?_⟩
        have hgo : ∀ (b : Addr) (gs : List Addr) (es : List RowD) (Hx : Hp), Same Hj Hx → Hx b = some (.lst (gs.map V.ref)) → RowsAt Hx gs es → gs.length ≤ 15 ^ i → expand (knowns (bk.take i)) r = es →
            ∃ (x5 : Option V) (fs2 : List Addr), [some (V.ref tt), some (.ref kp), some (.str p.1), some (.ref ra), some (.ref fp), some (.ref u)] = [some (V.ref tt), some (.ref kp), some (.str p.1), some (.ref ra), some (.ref fp), x5] ∧ Same Hi (upd Hx fp (.lst ((fs.map V.ref) ++ gs.map V.ref))) ∧ upd Hx fp (.lst ((fs.map V.ref) ++ gs.map V.ref)) fp = some (.lst (fs2.map V.ref)) ∧ RowsAt (upd Hx fp (.lst ((fs.map V.ref) ++ gs.map V.ref))) fs2 (unrollIn (knowns (bk.take i)) (p.2.take (j + 1))) ∧ fs2.length ≤ (j + 1) * 15 ^ i := by
          intro b gs es Hx sx hb hgs hgl he
          refine ⟨_, fs ++ gs, rfl, Same.updn (sj.trans sx) hfp, by rw [List.map_append]; exact upd_same, ?_, ?_⟩
          · rw [hstep es he]
            exact rows_lst (sx _ _ hFj) (paired_app (hfs.same sx) hgs)
          · rw [List.length_append, Nat.add_mul]
            omega
        have hsz : ∀ gs : List Addr, gs.length ≤ 15 ^ i → (fs.map V.ref).length + (gs.map V.ref).length ≤ sizeLine := fun gs hg => by
          rw [List.length_map, List.length_map]
          have : (6750 : Nat) ≤ sizeLine := by decide
          omega
        by_cases hp : ∃ z, r = .put z
        · obtain ⟨z, rfl⟩ := hp
          refine iteTD (by show decide (V.str "put" = V.str "put") = true; exact decide_eq_true rfl) ?_
          have hzm := hput z (List.mem_of_getElem? hrj)
          have hzk : z ∈ (knowns (bk.take i)).map (·.1) := by rw [knowns_len]; exact List.mem_reverse.mpr hzm
          obtain ⟨rs, hlk, hmem⟩ := lookup_of_mem hzk
          obtain ⟨g, hvg, hgn, gs, hg, hgs⟩ := hKn z rs hlk
          have hrl : gs.length = rs.length := paired_len hgs
          have hr6 := hlen6 z rs hmem
          refine ⟨_, rfl, _, rfl, u, _, _, .str z, rfl, rfl, SqT.of hruj, rfl, kp, _, rfl, (by have g := DGet.k (k := Sum.inr z) (sj _ _ hK); rw [hvg] at g; exact g), ?_⟩
          refine ⟨fp, g, _, _, rfl, rfl, hFj, sj _ _ hg, hsz gs (by omega), ?_⟩
          exact hgo g gs rs Hj (fun _ _ e => e) (sj _ _ hg) (hgs.same sj) (by omega) (by show (List.lookup z (knowns (bk.take i))).getD [] = rs; rw [hlk]; rfl)
        · refine iteFD (head_put hp) ?_
          refine ⟨_, rfl, (by show 1 ≤ sizeLine; decide), fun L hL => ?_⟩
          have sx := fun o => Same.new (H := Hj) (o := o) hL
          refine ⟨fp, L, _, [.ref u], rfl, rfl, sx _ _ _ hFj, upd_same, hsz [u] h61, ?_⟩
          exact hgo L [u] [r] _ (sx _) upd_same (.cons (sx _ _ _ hruj) .nil) h61 (by cases r <;> first | exact absurd ⟨_, rfl⟩ hp | rfl)
      case doneI =>
        obtain ⟨y5, fs, rfl, sj, hFj, hfs, hfl⟩ := hP
        rw [List.length_map, hul] at hfl hfs
        rw [List.take_length] at hfs
        have hk5 : kvs.length < sizeLine := by
          have : (5 : Nat) ≤ sizeLine := by decide
          omega
        refine ⟨_, rfl, _, rfl, _, rfl, kp, _, rfl, DPut.k (k := Sum.inr p.1) (sj _ _ hK) hk5, ?_⟩
        have hkt : knowns (bk.take (i + 1)) = (p.1, unrollIn (knowns (bk.take i)) p.2) :: knowns (bk.take i) := by
          rw [List.take_add_one, hp]
          exact knowns_snoc _ _
        have hKj := sj _ _ hK
        have nF : fp ≠ kp := fun z => by rw [z, hK] at hfp; cases hfp
        refine ⟨_, _, _, _, putK kvs (.inr p.1) (.ref fp), rfl, ?_, upd_same, ?_, ?_, ?_⟩
        · exact Same.updn (sH.trans sj) hkp
        · have := putK_len kvs (Sum.inr p.1 : Key) (V.ref fp)
          omega
        · rw [hkt]
          intro z rs hz
          rw [List.lookup_cons] at hz
          rw [valV_put]
          by_cases e : z = p.1
          · subst e
            rw [beq_self_eq_true] at hz
            have hz2 : unrollIn (knowns (bk.take i)) p.2 = rs := Option.some.inj hz
            subst hz2
            rw [if_pos rfl]
            exact ⟨fp, rfl, hfH, fs, by rw [upd_ne nF]; exact hFj, rows_dk hKj hfs⟩
          · rw [show (z == p.1) = false from by simpa using e] at hz
            rw [if_neg (fun q => e (by injection q))]
            obtain ⟨f, h1, h2, h3⟩ := hKn z rs hz
            exact ⟨f, h1, h2, lst_dk hKj (h3.same sj)⟩
        · rw [hkt]
          intro z rs hz
          rcases List.mem_cons.mp hz with e | hz
          · injection e with e1 e2
            subst e2
            have hln := paired_len hfs
            rw [Nat.pow_succ]
            have hq : p.2.length * 15 ^ i ≤ 15 * 15 ^ i := Nat.mul_le_mul_right _ (by omega)
            omega
          · have := hlen6 z rs hz
            rw [Nat.pow_succ]
            omega
    case doneO =>
      obtain ⟨x2, x3, x4, x5, kvs, rfl, sH, hK, hkl, hKn, hlen6⟩ := hP
      rw [List.length_map, htl] at hKn hlen6 hkl
      rw [List.take_length] at hKn hlen6
      obtain ⟨bi, p, rfl⟩ : ∃ bi p, bk = bi ++ [p] := ⟨_, _, (List.dropLast_concat_getLast hne).symm⟩
      obtain ⟨tsi, t, rfl⟩ : ∃ tsi t, ts = tsi ++ [t] := ⟨_, _, (List.dropLast_concat_getLast (by intro z; rw [z] at htl; simp at htl)).symm⟩
      have hli : tsi.length = bi.length := by simpa using htl
      obtain ⟨p2, hp2, ra, htt, _⟩ := paired_at hpd (show (tsi ++ [t])[tsi.length]? = some t by simp)
      have hpp : p = p2 := by
        rw [hli] at hp2
        simpa using hp2
      subst hpp
      have hk2 := knowns_snoc bi p
      obtain ⟨f, h1, h2, h3⟩ := hKn p.1 (unrollIn (knowns bi) p.2) (by rw [hk2]; simp)
      have hu : unrolled (bi ++ [p]) = unrollIn (knowns bi) p.2 := by
        unfold unrolled
        rw [hk2]
        rfl
      have hl6 := hlen6 p.1 (unrollIn (knowns bi) p.2) (by rw [hk2]; exact List.mem_cons_self)
      have h64 : 15 ^ (bi ++ [p]).length ≤ 3375 := by
        have : 15 ^ (bi ++ [p]).length ≤ 15 ^ 3 := Nat.pow_le_pow_right (by decide) (by omega)
        exact this
      refine ⟨_, rfl, _, rfl, ?_⟩
      refine ⟨tt, _, _, .ref pa, rfl, rfl, Same.sqt sH htt0, rfl, _, rfl, pa, _, _, .ref t, rfl, rfl, SqL.of (sH _ _ hpa), (by rw [List.map_append]; exact atI_last _ _), ?_⟩
      refine ⟨t, _, _, .str p.1, rfl, rfl, SqT.of (sH _ _ htt), rfl, kp, _, rfl, (by have g := DGet.k (k := Sum.inr p.1) hK; rw [h1] at g; exact g), ?_⟩
      exact q f _ sH h2 (by rw [hu]; exact h3) (by rw [hu]; omega)
end
end Pn

namespace Pn
open PySem PySem.Spec PyProof.Rows L2 TL
abbrev sBookD : Stmt := top 79
/-! ### dealt books -/
theorem unr_last (bi : List PartD) (nm : Str) (rs : List RowD) : unrolled (bi ++ [(nm, rs)]) = unrollIn (knowns bi) rs := by
  unfold unrolled
  rw [knowns_snoc]
  rfl
theorem labels_ins (bi : List PartD) (nm : Str) (rs : List RowD) (k : Nat) (l : Str) : labelsOf (unrolled (bi ++ [(nm, rs.take k ++ [.ref l] ++ rs.drop k)])) = labelsOf (unrolled (bi ++ [(nm, rs)])) := by
  rw [unr_last, unr_last]
  have e : unrollIn (knowns bi) rs = unrollIn (knowns bi) (rs.take k) ++ unrollIn (knowns bi) (rs.drop k) := by
    unfold unrollIn
    rw [← List.flatMap_append, List.take_append_drop]
  rw [e]
  unfold unrollIn labelsOf
  rw [List.flatMap_append, List.flatMap_append, List.filterMap_append, List.filterMap_append, List.filterMap_append]
  rw [show List.filterMap labelOf (List.flatMap (expand (knowns bi)) [RowD.ref l]) = [] from rfl, List.append_nil]
theorem mem_ins {α : Type} {l : List α} {k : Nat} {y x : α} (h : x ∈ l.take k ++ [y] ++ l.drop k) : x ∈ l ∨ x = y := by
  rcases List.mem_append.mp h with h | h
  · rcases List.mem_append.mp h with h | h
    · exact .inl (List.mem_of_mem_take h)
    · exact .inr (List.mem_singleton.mp h)
  · exact .inl (List.mem_of_mem_drop h)
theorem len_ins {α : Type} (l : List α) (k : Nat) (y : α) : (l.take k ++ [y] ++ l.drop k).length = l.length + 1 := by
  rw [List.length_append, List.length_append, List.length_take, List.length_drop, List.length_singleton]
  omega
theorem stepIfG {tt : TT} {A B : TS} {D : Ends} {σ : L2.St} {H : Hp} (G : Hp → Prop) (h1 : ∀ nx : L2.St → Hp → Prop, (∀ H', G H' → nx σ H') → tt σ H fun b H' => if b = true then A { D with nx := nx } σ H' else nx σ H') (h2 : ∀ H', G H' → B D σ H') : tSeq (tIfS tt A tNext) B D σ H := h1 (B D) h2
theorem head_note : ∀ {r : RowD}, (¬ ∃ c l, r = .note c l) → decide (V.str (headW r) = V.str "note") = false
  | .note c l, h => absurd ⟨c, l, rfl⟩ h
  | .skip _ _, _ => (by decide +kernel : decide (V.str "skip" = V.str "note") = false)
  | .set _ _, _ => (by decide +kernel : decide (V.str "set" = V.str "note") = false)
  | .keep _, _ => (by decide +kernel : decide (V.str "keep" = V.str "note") = false)
  | .back _, _ => (by decide +kernel : decide (V.str "back" = V.str "note") = false)
  | .ref _, _ => (by decide +kernel : decide (V.str "ref" = V.str "note") = false)
  | .put _, _ => (by decide +kernel : decide (V.str "put" = V.str "note") = false)
  | .opn _, _ => (by decide +kernel : decide (V.str "open" = V.str "note") = false)
theorem out_bind {l : List RowD} : (List.range l.length).filterMap (fun i => (l[i]?).bind fun r => (labelOf r).map V.str) = (labelsOf l).map V.str := by
  have e := out_map (l := l) (f := fun r => (labelOf r).map V.str)
  unfold labelsOf
  rw [List.map_filterMap]
  have e2 : (List.range l.length).filterMap (fun i => (l[i]?).bind fun r => (labelOf r).map V.str) = ((List.range l.length).filterMap fun i => (l[i]?).map fun r => (labelOf r).map V.str).filterMap id := by
    rw [List.filterMap_filterMap]
    congr 1
    funext i
    cases l[i]? <;> rfl
  rw [e2, e, List.filterMap_map]
  rfl
theorem puts_ins {l : List RowD} {k : Nat} {r : RowD} : (putsOf (l.take k ++ [r] ++ l.drop k)).length = (putsOf l).length + (putsOf [r]).length := by
  have e : (putsOf l).length = (putsOf (l.take k)).length + (putsOf (l.drop k)).length := by
    unfold putsOf
    rw [← List.length_append, ← List.filterMap_append, List.take_append_drop]
  rw [e]
  unfold putsOf
  rw [List.filterMap_append, List.filterMap_append, List.length_append, List.length_append]
  omega
def notesIn (rs : List RowD) : List Str := rs.filterMap fun r => match r with | .note _ l => some l | _ => none
theorem notesIn_len (rs : List RowD) : (notesIn rs).length ≤ rs.length := List.length_filterMap_le _ _
theorem notes_ins {l : List RowD} {k : Nat} {r : RowD} : (notesIn (l.take k ++ [r] ++ l.drop k)).length = (notesIn l).length + (notesIn [r]).length := by
  have e : (notesIn l).length = (notesIn (l.take k)).length + (notesIn (l.drop k)).length := by
    unfold notesIn
    rw [← List.length_append, ← List.filterMap_append, List.take_append_drop]
  rw [e]
  unfold notesIn
  rw [List.filterMap_append, List.filterMap_append, List.length_append, List.length_append]
  omega
theorem puts_none {ws pl : List Str} {rs : List RowD} (h : ∀ r ∈ rs, goodD ws pl r) : (putsOf rs).length = 0 := by
  unfold putsOf
  rw [List.length_eq_zero_iff, List.filterMap_eq_nil_iff]
  intro r hr
  cases r with
  | put z => exact (h _ hr).elim
  | _ => rfl
structure DealBook (most : Nat) (pl : List Str) (cs : List (Str × Str)) (bk : List PartD) : Prop where
  tree : TreeOk cs
  nd : (cs.map (·.1)).Nodup
  nm : ∀ z ∈ cs.map (·.1), z ∈ names16
  c0 : 0 < cs.length
  cm : cs.length ≤ most
  b0 : bk ≠ []
  b3 : bk.length ≤ 3
  bn : (bk.map (·.1)).Nodup
  bnm : ∀ z ∈ bk.map (·.1), z ∈ names16
  puts : PutsOkD bk
  few : ∀ p ∈ bk, p.2.length ≤ 11 ∧ (putsOf p.2).length ≤ 2 ∧ (notesIn p.2).length ≤ 6
  rows : ∀ p ∈ bk, ∀ r ∈ p.2, goodD (cs.map (·.1)) pl r ∨ (∃ z, r = .put z) ∨ ∃ l, r = .ref l ∧ l ∈ labelsOf (unrolled bk)
theorem earlier_snoc {bk : List PartD} {p : PartD} (h : Earlier bk) (hp : ∀ z, RowD.put z ∈ p.2 → z ∈ bk.map (·.1)) : Earlier (bk ++ [p]) := fun i q e z hz => by
  by_cases hi : i < bk.length
  · rw [List.getElem?_append_left hi] at e
    rw [List.take_append_of_le_length (by omega)]
    exact h i q e z hz
  · have hi2 : i = bk.length := by
      have := (List.getElem?_eq_some_iff.mp e).1
      simp at this
      omega
    subst hi2
    have e2 : p = q := by simpa using e
    subst e2
    rw [List.take_left' rfl]
    exact hp z hz
theorem earlier_last {bi : List PartD} {nm : Str} {rs rs' : List RowD} (h : Earlier (bi ++ [(nm, rs)])) (k : ∀ z, RowD.put z ∈ rs' → RowD.put z ∈ rs) : Earlier (bi ++ [(nm, rs')]) := by
  refine earlier_snoc (fun i p hp z hz => ?_) fun z hz => ?_
  · have hi := (List.getElem?_eq_some_iff.mp hp).1
    have q := h i p (by rw [List.getElem?_append_left hi]; exact hp) z hz
    rw [List.take_append_of_le_length (by omega)] at q
    exact q
  · have q := h bi.length (nm, rs) (by simp) z (k z hz)
    rw [List.take_left' rfl] at q
    exact q
theorem rows_hid {W : Hp} {R : Addr} {xs : List V} (hR : W R = some (.lst xs)) {us : List Addr} {rs : List RowD} (h : RowsAt W us rs) : RowsAt (hid W R) us rs := paired_mono (fun a _ e => hid_get e (fun z => by rw [z, hR] at e; cases e)) h
/-- parts of which the last one's rows may change -/
def LastAt (A0 W : Hp) (ts : List Addr) (bk : List PartD) : Prop := ∃ (tsi : List Addr) (t R : Addr) (us : List Addr) (bi : List PartD) (nm : Str) (rs : List RowD), ts = tsi ++ [t] ∧ bk = bi ++ [(nm, rs)] ∧ A0 R = none ∧ W t = some (.tup [.str nm, .ref R]) ∧ W R = some (.lst (us.map V.ref)) ∧ RowsAt (hid W R) us rs ∧ Paired (PartAt (hid W R)) tsi bi
theorem hidA {A B : Hp} (s : Same A B) (p : Addr) : Same (hid A p) (hid B p) := fun a o e => by
  have n := hid_ne e
  exact hid_get (s _ _ (hid_sub _ _ e)) n
theorem LastAt.mono {A0 A B : Hp} {ts : List Addr} {bk : List PartD} (h : LastAt A0 A ts bk) (s : Same A B) : LastAt A0 B ts bk := by
  obtain ⟨tsi, t, R, us, bi, nm, rs, e1, e2, h0, h1, h2, h3, h4⟩ := h
  exact ⟨tsi, t, R, us, bi, nm, rs, e1, e2, h0, s _ _ h1, s _ _ h2, h3.same (hidA s R), paired_mono (fun _ _ z => z.same (hidA s R)) h4⟩
theorem LastAt.parts {A0 A : Hp} {ts : List Addr} {bk : List PartD} (h : LastAt A0 A ts bk) : Paired (PartAt A) ts bk := by
  obtain ⟨tsi, t, R, us, bi, nm, rs, rfl, rfl, _, h1, h2, h3, h4⟩ := h
  exact paired_app (paired_mono (fun _ _ z => z.same hid_sub) h4) (.cons ⟨R, h1, us, h2, h3.same hid_sub⟩ .nil)
theorem LastAt.len {A0 A : Hp} {ts : List Addr} {bk : List PartD} (h : LastAt A0 A ts bk) : ts.length = bk.length := paired_len h.parts
section
variable {P : Program} {w : World} {K : PySem.W.Frag} {mg : Str → Option Value} {base : Heap}
theorem rows_hhL {H : Hp} {d g L R : Addr} {xs : List V} {o : HO} (hR : H R = some (.lst xs)) {us : List Addr} {rs : List RowD} (h : RowsAt (hhL H d g L) us rs) : RowsAt (hhL (upd H R o) d g L) us rs :=
  paired_mono (fun a _ e => by
    obtain ⟨n, n1, n2, e⟩ := hhL_ne e
    exact hhL_get (by rw [upd_ne (fun z => by rw [z, hR] at e; cases e)]; exact e) n n1 n2) h
theorem hhL_upd {A H : Hp} {d g L R : Addr} {o : HO} (hA : A R = none) (s : Same (hhL A d g L) (hhL H d g L)) : Same (hhL A d g L) (hhL (upd H R o) d g L) := fun a u e => by
  obtain ⟨_, _, _, e0⟩ := hhL_ne e
  obtain ⟨n, n1, n2, e⟩ := hhL_ne (s _ _ e)
  exact hhL_get (by rw [upd_ne (ne_of_none e0 hA)]; exact e) n n1 n2
theorem rows_snoc {H : Hp} {t : Addr} {r : RowD} (h : H t = some (.tup (rowTup r))) {us : List Addr} {rs : List RowD} (p : RowsAt H us rs) : RowsAt H (us ++ [t]) (rs ++ [r]) := paired_app p (.cons h .nil)
/-- rows under way: the heap since Hx, a list R of rows, a list L that stays as it is -/
def RSt (Hx : Hp) (d g L R : Addr) (lv : List V) (H : Hp) (us : List Addr) (rs : List RowD) : Prop := DealAt H d g ∧ Mo Hx H ∧ Same (hhL Hx d g L) (hhL H d g L) ∧ H L = some (.lst lv) ∧ H R = some (.lst (us.map V.ref)) ∧ RowsAt (hhL H d g L) us rs
structure RC (Hx : Hp) (d g L R : Addr) : Prop where
  l1 : L ≠ d
  l2 : L ≠ g
  r1 : R ≠ d
  r2 : R ≠ g
  rl : R ≠ L
  rx : Hx R = none
theorem RSt.call {Hx H H' : Hp} {d g L R : Addr} {lv : List V} {us : List Addr} {rs : List RowD} (c : RC Hx d g L R) (h : RSt Hx d g L R lv H us rs) (hD : DealAt H' d g) (s : Same (hh H d g) (hh H' d g)) (m : Mo H H') : RSt Hx d g L R lv H' us rs := by
  obtain ⟨h1, h2, h3, h4, h5, h6⟩ := h
  exact ⟨hD, h2.trans m, h3.trans (hhL_same s), hh_sub _ _ (s _ _ (hh_get h4 c.l1 c.l2)), hh_sub _ _ (s _ _ (hh_get h5 c.r1 c.r2)), h6.same (hhL_same s)⟩
theorem RSt.new {Hx H : Hp} {d g L R p : Addr} {o : HO} {lv : List V} {us : List Addr} {rs : List RowD} (c : RC Hx d g L R) (h : RSt Hx d g L R lv H us rs) (hp : H p = none) : RSt Hx d g L R lv (upd H p o) us rs := h.call c (h.1.new hp) (hh_new hp) Mo.upd
theorem RSt.ins {Hx H : Hp} {d g L R t : Addr} {lv : List V} {us : List Addr} {rs : List RowD} {r : RowD} (c : RC Hx d g L R) (h : RSt Hx d g L R lv H us rs) (ht : H t = none) (k : Nat) :
    upd H t (.tup (rowTup r)) R = some (.lst (us.map V.ref)) ∧ RSt Hx d g L R lv (upd (upd H t (.tup (rowTup r))) R (.lst ((us.map V.ref).take k ++ [V.ref t] ++ (us.map V.ref).drop k))) (us.take k ++ [t] ++ us.drop k) (rs.take k ++ [r] ++ rs.drop k) := by
  have h' := h.new (o := .tup (rowTup r)) c ht
  have tL : t ≠ L := fun z => by rw [z, h.2.2.2.1] at ht; cases ht
  have tR : t ≠ R := fun z => by rw [z, h.2.2.2.2.1] at ht; cases ht
  have nt := h.1.nd ht
  obtain ⟨h1, h2, h3, h4, h5, h6⟩ := h'
  refine ⟨h5, h1.upd c.r1 c.r2, h2.trans Mo.upd, hhL_upd c.rx h3, by rw [upd_ne c.rl.symm]; exact h4, by rw [upd_same, List.map_append, List.map_append, List.map_take, List.map_drop]; rfl, rows_hhL h5 ?_⟩
  exact paired_app (paired_app (paired_take k h6) (.cons (hhL_get upd_same tL nt.1 nt.2) .nil)) (paired_drop k h6)
theorem LastAt.ins {A0 H : Hp} {d g L t2 : Addr} {ts : List Addr} {bk : List PartD} {lv : List V} {l : Str} (n1 : L ≠ d) (n2 : L ≠ g) (h : LastAt A0 (hhL H d g L) ts bk) (hD : DealAt H d g) (eL : H L = some (.lst lv)) (ht : H t2 = none) {R : Addr} {us : List Addr} {bi : List PartD} {nm : Str} {rs : List RowD}
    {tsi : List Addr} {t : Addr} (e1 : ts = tsi ++ [t]) (e2 : bk = bi ++ [(nm, rs)]) (h0 : A0 R = none) (h1 : hhL H d g L t = some (.tup [.str nm, .ref R])) (h2 : hhL H d g L R = some (.lst (us.map V.ref))) (h3 : RowsAt (hid (hhL H d g L) R) us rs) (h4 : Paired (PartAt (hid (hhL H d g L) R)) tsi bi) (k : Nat) :
    upd H t2 (.tup (rowTup (.ref l))) R = some (.lst (us.map V.ref)) ∧ LastAt A0 (hhL (upd (upd H t2 (.tup (rowTup (.ref l)))) R (.lst ((us.map V.ref).take k ++ [V.ref t2] ++ (us.map V.ref).drop k))) d g L) ts (bi ++ [(nm, rs.take k ++ [.ref l] ++ rs.drop k)]) ∧ Same (hid (hhL H d g L) R) (hhL (upd (upd H t2 (.tup (rowTup (.ref l)))) R (.lst ((us.map V.ref).take k ++ [V.ref t2] ++ (us.map V.ref).drop k))) d g L) := by
  obtain ⟨r1, r2, r3, hR⟩ := hhL_ne h2
  have tR : t2 ≠ R := fun z => by rw [z, hR] at ht; cases ht
  have tL : t2 ≠ L := fun z => by rw [z, eL] at ht; cases ht
  have nt := hD.nd ht
  have sR : Same (hid (hhL H d g L) R) (hid (hhL (upd (upd H t2 (.tup (rowTup (.ref l)))) R (.lst ((us.map V.ref).take k ++ [V.ref t2] ++ (us.map V.ref).drop k))) d g L) R) := fun a o e => by
    have aR := hid_ne e
    obtain ⟨a1, a2, a3, e⟩ := hhL_ne (hid_sub _ _ e)
    exact hid_get (hhL_get (by rw [upd_ne aR, upd_ne (ne_of_none e ht)]; exact e) a1 a2 a3) aR
  have nR : t ≠ R := fun z => by rw [z, h2] at h1; cases h1
  refine ⟨by rw [upd_ne tR.symm]; exact hR, ⟨tsi, t, R, us.take k ++ [t2] ++ us.drop k, bi, nm, _, e1, rfl, h0, hid_sub _ _ (sR _ _ (hid_get h1 nR)), ?_, ?_, paired_mono (fun _ _ z => z.same sR) h4⟩, fun a o e => hid_sub _ _ (sR _ _ e)⟩
  · exact hhL_get (by rw [upd_same, List.map_append, List.map_append, List.map_take, List.map_drop]; rfl) r1 r2 r3
  · exact paired_app (paired_app (paired_take k (h3.same sR)) (.cons (hid_get (hhL_get (by rw [upd_ne tR]; exact upd_same) tL nt.1 nt.2) tR) .nil)) (paired_drop k (h3.same sR))
def spBookD (K : PySem.W.Frag) : Sp := fun vs H Q _ => ∃ (d g pa : Addr) (m n : Nat) (pl : List Str), vs = [.ref d, .int (m : Int), .int (n : Int), .ref pa] ∧ DealAt H d g ∧ 0 < m ∧ m ≤ 15 ∧ 0 < n ∧ n ≤ 6 ∧ SqL K (hh H d g) pa (pl.map V.str) ∧ pl.length ≤ 100 ∧ (∀ z ∈ pl, PyData.strOk z = true) ∧
  ∀ (t c l : Addr) (cs : List (Str × Str)) (bk : List PartD) (H' : Hp), DealAt H' d g → Same (hh H d g) (hh H' d g) → Mo H H' → hh H' d g t = some (.tup [.ref c, .ref l]) → CsAt (hh H' d g) c cs → PartsAt (hh H' d g) l bk → DealBook m pl cs bk → Q (.ref t) H'
theorem scBookD : FnScope ["_law_deal_here", "_law_most", "_law_long", "_law_places", "_law_counters_here", "_law_parts", "_law_words", "_law_name", "_law_rows", "_law_again", "_law_labels", "_law_spot", "_law_one", "_law_upper", "_law_k", "_law_row_here"] ["_law_deal_here", "_law_most", "_law_long", "_law_places"] (defScope sBookD) := ⟨rfl, rfl, rfl, by decide +kernel, rfl, by decide +kernel, by decide +kernel⟩
theorem ok_bookD (T : TDealC K mg) (X : TDB K mg) (B : At K mg "_law_book" sBookD ["_law_deal_here", "_law_most", "_law_long", "_law_places"]) : FnOk P w K mg base CX0 6 B.f B.fd ["_law_deal_here", "_law_most", "_law_long", "_law_places"] (spBookD K) := by
  refine B.F.ok scBookD (fun vs H Q E h => ?_) (fun cdv A outer s H vs Q E hr h => ?_)
  · obtain ⟨d, g, pa, m, n, pl, rfl, _⟩ := h
    rfl
  · obtain ⟨d, g, pa, m, n, pl, rfl, hD, m0, m15, n0, n6, hPl, hpl, ok, q⟩ := h
    refine ⟨_, (pss_cons (ps_par (i := 4) (j := 5) (by rfl) scBookD.nd rfl rfl (by decide) rfl rfl (pa_cons (pe_call (ok_countersD T X) (hr.mono (by decide)) rfl X.counters.m X.counters.F.kp X.counters.b .nil pass0 (pa_cons (pv 0) (pa_cons (pv 1) pa_nil))) (pa_cons (pe_lst pa_nil) pa_nil)) (by rfl))
(pss_cons (ps_set (i := 6) scBookD.nd rfl (Or.inr rfl) (pe_lc (own := [("_law_one", 12), ("_law_upper", 13)]) (g := gTup K 2 (gCons (gName 12) (gCons (gName 13) gNil))) (tt := tYes) (by rfl) scBookD.nd (pi_list (pv 4))
 (blkOk_by (N := ["_law_deal_here", "_law_most", "_law_long", "_law_places", "_law_counters_here", "_law_parts", "_law_words", "_law_name", "_law_rows", "_law_again", "_law_labels", "_law_spot", "_law_one", "_law_upper", "_law_k", "_law_row_here"]) (sc := defScope sBookD) (by decide +kernel)) (fun _ _ _ _ _ => (pg_tup (by rfl) (pgs_cons (pg_name (i := 12) scBookD.nd rfl (Or.inl rfl)) (pgs_cons (pg_name (i := 13) scBookD.nd rfl (Or.inl rfl)) pgs_nil)))) (fun _ _ _ _ _ => pts_nil) (fun _ _ _ _ _ => (pv 12))))
(pss_cons (ps_for PassesOwn.never rfl (pi_list (pe_call T.okNames (hr.mono (by decide)) rfl T.names.m T.names.F.kp T.names.b .nil pass0 (pa_cons (pv 0) (pa_cons (pe_op op_add pe_int (pe_call T.okDraw (hr.mono (by decide)) rfl T.draw.m T.draw.F.kp T.draw.b .nil pass0 (pa_cons (pv 0) (pa_cons pe_int pa_nil)))) pa_nil)))) (pg_name (i := 7) scBookD.nd rfl (Or.inl rfl))
(pss_cons (ps_setLc (i := 8) (own := [("_law_k", 14)]) (g := gName 14) (tt := tYes) (by rfl) scBookD.nd rfl rfl (sw_true rfl rfl rfl (by decide +kernel)) (pi_range1 (by rfl) X.mR (pa_cons (pe_op op_add pe_int (pe_call T.okDraw (hr.mono (by decide)) rfl T.draw.m T.draw.F.kp T.draw.b .nil pass0 (pa_cons (pv 0) (pa_cons (pv 2) pa_nil)))) pa_nil))
 (blkOk_by (N := ["_law_deal_here", "_law_most", "_law_long", "_law_places", "_law_counters_here", "_law_parts", "_law_words", "_law_name", "_law_rows", "_law_again", "_law_labels", "_law_spot", "_law_one", "_law_upper", "_law_k", "_law_row_here"]) (sc := defScope sBookD) (by decide +kernel)) (fun _ _ _ _ _ => (pg_name (i := 14) scBookD.nd rfl (Or.inl rfl))) (fun _ _ _ _ _ => pts_nil) (fun _ _ _ _ _ => (pe_call (ok_rowD T X) (hr.mono (by decide)) rfl X.row.m X.row.F.kp X.row.b .nil pass0 (pa_cons (pv 0) (pa_cons (pv 6) (pa_cons (pv 3) pa_nil))))))
(pss_cons (ps_for PassesOwn.never rfl (pi_range1 (by rfl) X.mR (pa_cons (pe_call T.okDraw (hr.mono (by decide)) rfl T.draw.m T.draw.F.kp T.draw.b .nil pass0 (pa_cons (pv 0) (pa_cons pe_int pa_nil))) pa_nil)) (pg_name (i := 9) scBookD.nd rfl (Or.inl rfl))
(pss_one (ps_if (pt_cmpR (op_nilNe (Nat.lt_of_le_of_lt (Nat.le_add_right _ 64) hr.units)) (pv 5) (pe_lst pa_nil) (nomark _)) (pss_one (ps_expr (pe_bm PySem.F.plainAttrs_list PySem.F.slot_list_insert PySem.F.type_list_insert mt_insert (pv 8) (pa_cons (pe_call T.okDraw (hr.mono (by decide)) rfl T.draw.m T.draw.F.kp T.draw.b .nil pass0 (pa_cons (pv 0) (pa_cons (pe_op op_add (pe_callB call_len_seq (by rfl) T.mL PySem.boot_len (pa_cons (pv 8) pa_nil)) pe_int) pa_nil))) (pa_cons (pe_tup (pa_cons pe_str (pa_cons (pe_ix ix_tup (pe_call T.okPick (hr.mono (by decide)) rfl T.pick.m T.pick.F.kp T.pick.b .nil pass0 (pa_cons (pv 0) (pa_cons (pv 5) pa_nil))) pe_int (fun _ _ => rfl)) pa_nil))) pa_nil))))) pss_nil)))
(pss_cons (ps_if (PW.pt (pw_and (pt_cmpR (op_neD hr.units) (pv 3) (pe_lst pa_nil) (nomark _)) (pw_and1 (pt_cmpR op_eq (pe_call T.okDraw (hr.mono (by decide)) rfl T.draw.m T.draw.F.kp T.draw.b .nil pass0 (pa_cons (pv 0) (pa_cons pe_int pa_nil))) pe_int (nomark _))))) (pss_one (ps_expr (pe_bm PySem.F.plainAttrs_list PySem.F.slot_list_insert PySem.F.type_list_insert mt_insert (pv 8) (pa_cons (pe_call T.okDraw (hr.mono (by decide)) rfl T.draw.m T.draw.F.kp T.draw.b .nil pass0 (pa_cons (pv 0) (pa_cons (pe_op op_add (pe_callB call_len_seq (by rfl) T.mL PySem.boot_len (pa_cons (pv 8) pa_nil)) pe_int) pa_nil))) (pa_cons (pe_tup (pa_cons pe_str (pa_cons (pe_call T.okPick (hr.mono (by decide)) rfl T.pick.m T.pick.F.kp T.pick.b .nil pass0 (pa_cons (pv 0) (pa_cons (pv 3) pa_nil))) pa_nil))) pa_nil))))) pss_nil)
(pss_one (ps_expr (pe_bm PySem.F.plainAttrs_list PySem.F.slot_list_append PySem.F.type_list_append mt_append (pv 5) (pa_cons (pe_tup (pa_cons (pv 7) (pa_cons (pv 8) pa_nil))) pa_nil))))))))
(pss_cons (ps_setLc (i := 10) (own := [("_law_row_here", 15)]) (g := gName 15) (by rfl) scBookD.nd rfl rfl (sw_true rfl rfl rfl (by decide +kernel)) (pi_list (pe_call (ok_unrD X) (hr.mono (by decide)) rfl X.unr.m X.unr.F.kp X.unr.b .nil pass0 (pa_cons (pe_tup (pa_cons (pv 4) (pa_cons (pv 5) pa_nil))) pa_nil)))
 (blkOk_by (N := ["_law_deal_here", "_law_most", "_law_long", "_law_places", "_law_counters_here", "_law_parts", "_law_words", "_law_name", "_law_rows", "_law_again", "_law_labels", "_law_spot", "_law_one", "_law_upper", "_law_k", "_law_row_here"]) (sc := defScope sBookD) (by decide +kernel)) (fun _ _ _ _ _ => (pg_name (i := 15) scBookD.nd rfl (Or.inl rfl))) (fun _ _ _ _ _ => pts_one (PW.pt (pw_and (pt_cmpR op_eq (pe_ix (show IxR _ (rIxT K) from ix_tup) (pv 15) pe_int (fun _ _ => rfl)) pe_str (nomark _)) (pw_and1 (pt_cmpR op_ne (pe_ix (show IxR _ (rIxT K) from ix_tup) (pv 15) pe_int (fun _ _ => rfl)) pe_str (nomark _)))))) (fun _ _ _ _ _ => (pe_ix (show IxR _ (rIxT K) from ix_tup) (pv 15) pe_int (fun _ _ => rfl))))
(pss_cons (ps_for PassesOwn.never rfl (pi_range1 (by rfl) X.mR (pa_cons (pe_call T.okDraw (hr.mono (by decide)) rfl T.draw.m T.draw.F.kp T.draw.b .nil pass0 (pa_cons (pv 0) (pa_cons pe_int pa_nil))) pa_nil)) (pg_name (i := 9) scBookD.nd rfl (Or.inl rfl))
(pss_one (ps_if (pt_cmpR (op_nilNe (Nat.lt_of_le_of_lt (Nat.le_add_right _ 64) hr.units)) (pv 10) (pe_lst pa_nil) (nomark _)) (pss_cons (ps_set (i := 11) scBookD.nd rfl (Or.inl rfl) (pe_call T.okDraw (hr.mono (by decide)) rfl T.draw.m T.draw.F.kp T.draw.b .nil pass0 (pa_cons (pv 0) (pa_cons (pe_op op_add (pe_callB call_len_seq (by rfl) T.mL PySem.boot_len (pa_cons (pe_ix ix_tup (pe_ix ix_list (pv 5) (pe_un un_neg pe_int) (fun _ _ => rfl)) pe_int (fun _ _ => rfl)) pa_nil)) pe_int) pa_nil))))
(pss_one (ps_expr (pe_bm PySem.F.plainAttrs_list PySem.F.slot_list_insert PySem.F.type_list_insert mt_insert (pe_ix ix_tup (pe_ix ix_list (pv 5) (pe_un un_neg pe_int) (fun _ _ => rfl)) pe_int (fun _ _ => rfl)) (pa_cons (pv 11) (pa_cons (pe_tup (pa_cons pe_str (pa_cons (pe_call T.okPick (hr.mono (by decide)) rfl T.pick.m T.pick.F.kp T.pick.b .nil pass0 (pa_cons (pv 0) (pa_cons (pv 10) pa_nil))) pa_nil))) pa_nil)))))) pss_nil)))
(pss_one (ps_ret (pe_tup (pa_cons (pv 4) (pa_cons (pv 5) pa_nil)))))))))), ?_⟩
    have big : (1000 : Nat) ≤ sizeLine := by decide
    refine ⟨_, rfl, _, rfl, d, g, m, rfl, hD, m0, m15, fun c cs H1 hD1 s1 mo1 hc tree nd nm c0 cm => ?_⟩
    refine ⟨Nat.zero_le _, fun L hL => ?_⟩
    have nL := hD1.nd hL
    have hD2 := hD1.new (o := .lst []) hL
    have s2 : Same (hh H1 d g) (hhL (upd H1 L (.lst [])) d g L) := hhL_first hL
    have e2 : (upd H1 L (.lst [])) L = some (.lst []) := upd_same
    have mo2 : Mo H (upd H1 L (.lst [])) := mo1.trans Mo.upd
    generalize upd H1 L (.lst []) = H2 at hD2 s2 e2 mo2 ⊢
    obtain ⟨ts0, hcl, hct⟩ := hc
    have hcl2 : hhL H2 d g L c = some (.lst (ts0.map V.ref)) := s2 _ _ hcl
    have hct2 : TupsAt (hhL H2 d g L) ts0 cs := TupsAt.same s2 hct
    refine ⟨_, _, rfl, ?_⟩
    try dsimp only [List.set]
    refine stepSet (fun v H' => ∃ W, v = .ref W ∧ Same H2 H' ∧ H' W = some (.lst ((cs.map (·.1)).map V.str)) ∧ H2 W = none) (fun Q' hQ => ?c1) (fun v H3 hC => ?r1)
    case c1 =>
      have htl : ts0.length = cs.length := paired_len hct
      refine lcw_list (K := K) (tl := tVar 4) (p := c) (xs := ts0.map V.ref) (out := fun i => (cs[i]?).map fun c => V.str c.1) ?h0 (SqL.of (hhL_sub _ _ hcl2)) (by rw [List.length_map]; omega) ?tn ?fn
      case h0 => exact fun R' z => ⟨_, rfl, z⟩
      case tn =>
        intro j x Hi S Y hx sI h0 h1
        rw [List.getElem?_map] at hx
        obtain ⟨t, ht, rfl⟩ := Option.map_eq_some_iff.mp hx
        obtain ⟨c', hc', hct3⟩ := paired_at hct2 ht
        exact ⟨t, _, rfl, SqT.of (sI _ _ (hhL_sub _ _ hct3)), rfl, _, _, rfl, _, _, rfl, rfl, rfl, _, rfl, h1 (.str c'.1) (by show Option.map (fun c : Str × Str => V.str c.1) cs[j]? = _; rw [hc']; rfl) Hi (Same.refl _)⟩
      case fn =>
        intro D H5 hDn s5 hDl
        have eo : (List.range (ts0.map V.ref).length).filterMap (fun i => (cs[i]?).map fun c => V.str c.1) = (cs.map (·.1)).map V.str := by
          rw [List.length_map, htl, List.map_map]
          exact out_map (l := cs) (f := fun c => V.str c.1)
        rw [eo] at hDl
        exact hQ _ _ ⟨D, rfl, s5, hDl, hDn⟩
    case r1 =>
    obtain ⟨W, rfl, s3, eW, hWn⟩ := hC
    have hD3 := hD2.same s3
    have mo3 := mo2.trans (Same.mo s3)
    have e3 := s3 _ _ e2
    have s23 : Same (hhL H2 d g L) (hhL H3 d g L) := hhL_same (hh_same s3)
    have nW : W ≠ L := fun z => by rw [z, e2] at hWn; cases hWn
    have eW3 : hhL H3 d g L W = some (.lst ((cs.map (·.1)).map V.str)) := hhL_get eW nW (hD2.nd hWn).1 (hD2.nd hWn).2
    try dsimp only [List.set]
    refine ⟨_, rfl, _, rfl, d, g, 3, rfl, hD3, by decide, by decide, fun r H4 r0 r1 hD4 s4 mo4 => ?_⟩
    obtain ⟨k, rfl⟩ : ∃ k : Nat, r = (k : Int) := ⟨r.toNat, by omega⟩
    refine ⟨_, _, rfl, rfl, d, g, 1 + k, by rw [Int.natCast_add]; rfl, hD4, by omega, fun l zs H5 znd hz hzl hD5 s5 mo5 hl => ?_⟩
    have s35 : Same (hhL H3 d g L) (hhL H5 d g L) := (hhL_same s4).trans (hhL_same s5)
    have e5 : H5 L = some (.lst []) := hh_sub _ _ (s5 _ _ (s4 _ _ (hh_get e3 nL.1 nL.2)))
    obtain ⟨nl1, nl2, hl2⟩ := hh_ne hl
    have nlL : l ≠ L := fun z => by
      rw [z, e5] at hl2
      cases zs with
      | nil => simp at hzl; omega
      | cons a b => cases hl2
    have hl5 : hhL H5 d g L l = some (.lst (zs.map V.str)) := hid_get hl nlL
    have mo35 := (mo3.trans mo4).trans mo5
    have hPl5 : SqL K (hhL H5 d g L) pa (pl.map V.str) := (s1.trans (s2.trans (s23.trans s35))).seq hPl
    have eW5 : hhL H5 d g L W = some (.lst ((cs.map (·.1)).map V.str)) := s35 _ _ eW3
    refine ⟨l, rfl, ⟨_, SqL.of hl2⟩, for_list (xs := zs.map V.str) (fun i σ Hx => ∃ x7 x8 x9 ts bk, σ = [some (.ref d), some (.int (m : Int)), some (.int (n : Int)), some (.ref pa), some (.ref c), some (.ref L), some (.ref W), x7, x8, x9, none, none, none, none, none, none] ∧ DealAt Hx d g ∧ Mo H5 Hx ∧ Same (hhL H5 d g L) (hhL Hx d g L) ∧ Hx L = some (.lst ((ts : List Addr).map V.ref)) ∧ ((ts = [] ∧ bk = []) ∨ LastAt H5 (hhL Hx d g L) ts bk) ∧ bk.map (·.1) = zs.take i ∧ Earlier bk ∧ (∀ p ∈ bk, p.2.length ≤ n + 3 ∧ (putsOf p.2).length ≤ 2 ∧ (notesIn p.2).length ≤ n) ∧ ∀ p ∈ bk, ∀ r ∈ p.2, goodD (cs.map (·.1)) pl r ∨ ∃ z, r = .put z)
      ⟨_, _, _, [], [], rfl, hD5, fun _ e => e, Same.refl _, e5, .inl ⟨rfl, rfl⟩, rfl, (fun i p z => by simp at z), (fun _ z => nomatch z), fun _ z => nomatch z⟩ (fun i σ Hx _ hP => ?stay) (fun i x σ Hx hx hP => ?turn) (fun σ Hx hP => ?fin)⟩
    case stay =>
      obtain ⟨_, _, _, _, _, _, _, _, sx, _⟩ := hP
      exact SqL.of (hhL_sub _ _ (sx _ _ hl5))
    case fin =>
      obtain ⟨x7, x8, x9, ts, bk, rfl, hDx, mx, sx, eL, hts, hbn, hea, hbl, hrow⟩ := hP
      rw [List.length_map, List.take_length] at hbn
      have hbkl : bk.length = 1 + k := by rw [← List.length_map (f := (·.1)) (as := bk), hbn, hzl]
      have hne : bk ≠ [] := fun z => by rw [z] at hbkl; simp at hbkl; omega
      have hla : LastAt H5 (hhL Hx d g L) ts bk := hts.resolve_left fun z => hne z.2
      have tl : ts.length = bk.length := hla.len
      have pOk : PutsOkD bk := fun i p hp => ⟨by have := hbl p (List.mem_of_getElem? hp); omega, hea i p hp⟩
      try dsimp only [List.set]
      refine stepSet (fun v H' => ∃ A, v = .ref A ∧ Same Hx H' ∧ Hx A = none ∧ (unrolled bk).length ≤ 3375 ∧ H' A = some (.lst ((labelsOf (unrolled bk)).map V.str))) (fun Q' hQ => ?c3) (fun v Hy hC => ?r3)
      case c3 =>
        refine ⟨_, rfl, _, rfl, by show 2 ≤ sizeLine; omega, fun tp htp => ?_⟩
        have sp := Same.new (o := .tup [.ref c, .ref L]) htp
        have et : (upd Hx tp (.tup [.ref c, .ref L])) tp = some (.tup [.ref c, .ref L]) := upd_same
        have eLp := sp _ _ eL
        generalize upd Hx tp (.tup [.ref c, .ref L]) = Hy at sp et eLp ⊢
        refine ⟨tp, c, L, bk, rfl, SqT.of et, ⟨ts, eLp, paired_mono (fun _ _ z => z.same (Same.trans hhL_sub sp)) hla.parts⟩, pOk, hne, by omega, fun F Hz sz hFn hF hFl => ?_⟩
        obtain ⟨fs, hFs, hfr⟩ := hF
        have fl : fs.length = (unrolled bk).length := paired_len hfr
        refine ⟨F, rfl, ⟨_, SqL.of hFs⟩, fun D hDn => lc_list (xs := fs.map V.ref) (fun i Hi => Same Hz Hi ∧ Hi D = some (.lst ((List.range i).filterMap fun i => ((unrolled bk)[i]?).bind fun r => (labelOf r).map V.str))) ⟨Same.new hDn, upd_same⟩ (fun _ _ _ hP => hP.1.seq (SqL.of hFs)) (lc_keep (out := fun i => ((unrolled bk)[i]?).bind fun r => (labelOf r).map V.str) (by rw [List.length_map]; omega) ?ltn hDn) (fun Hi hP => ?lfn)⟩
        case lfn =>
          have eo : (List.range (fs.map V.ref).length).filterMap (fun i => ((unrolled bk)[i]?).bind fun r => (labelOf r).map V.str) = (labelsOf (unrolled bk)).map V.str := by
            rw [List.length_map, fl]
            exact out_bind
          rw [eo] at hP
          exact hQ _ _ ⟨D, rfl, Same.trans (Same.trans sp sz) hP.1, Same.free (Same.trans sp sz) hDn, hFl, hP.2⟩
        case ltn =>
          intro j x Hi S Y hx sI hno hyes
          rw [List.getElem?_map] at hx
          obtain ⟨t, ht, rfl⟩ := Option.map_eq_some_iff.mp hx
          obtain ⟨r, hr', htr⟩ := paired_at hfr ht
          have htr := sI _ _ htr
          have ho : ((unrolled bk)[j]?).bind (fun r => (labelOf r).map V.str) = (labelOf r).map V.str := by rw [hr']; rfl
          refine ⟨rfl, ?_⟩
          refine ⟨_, rfl, t, _, _, _, rfl, rfl, SqT.of htr, atI_nat (j := 0) (tup_head r), rfl, _, rfl, ?_⟩
          by_cases hn : ∃ c l, r = .note c l
          · obtain ⟨c', l', rfl⟩ := hn
            refine iteTD (by show decide (V.str "note" = V.str "note") = true; exact decide_eq_true rfl) ?_
            refine ⟨_, rfl, t, _, _, .str l', rfl, rfl, SqT.of htr, rfl, ?_⟩
            refine ⟨rfl, _, rfl, ?_⟩
            by_cases hle : l' = ""
            · refine iteFD (by rw [hle]; decide +kernel) ?_
              exact hno (ho.trans (by show Option.map V.str (if l' = "" then none else some l') = none; rw [if_pos hle]; rfl)) Hi (Same.refl _)
            · refine iteTD (by rw [Bool.not_eq_true', decide_eq_false_iff_not]; exact fun z => hle (by injection z)) ?_
              exact ⟨_, rfl, t, _, _, .str l', rfl, rfl, SqT.of htr, rfl, hyes (.str l') (ho.trans (by show Option.map V.str (if l' = "" then none else some l') = _; rw [if_neg hle]; rfl)) Hi (Same.refl _)⟩
          · refine iteFD (head_note hn) ?_
            refine iteFD rfl ?_
            exact hno (ho.trans (by cases r <;> first | exact absurd ⟨_, _, rfl⟩ hn | rfl)) Hi (Same.refl _)
      case r3 =>
      obtain ⟨A, rfl, sA, hAn, hul, hA⟩ := hC
      have hll : (labelsOf (unrolled bk)).length ≤ 3375 := Nat.le_trans (List.length_filterMap_le _ _) hul
      have hDy := hDx.same sA
      have eLy := sA _ _ eL
      have nAL : A ≠ L := fun z => by rw [z, eL] at hAn; cases hAn
      have nA := hDx.nd hAn
      have hAy : hhL Hy d g L A = some (.lst ((labelsOf (unrolled bk)).map V.str)) := hhL_get hA nAL nA.1 nA.2
      have sxy : Same (hhL Hx d g L) (hhL Hy d g L) := hhL_same (hh_same sA)
      have my : Mo H5 Hy := mx.trans (Same.mo sA)
      have sy := sx.trans sxy
      have hly := hla.mono sxy
      generalize hlb : labelsOf (unrolled bk) = labs at hAy hA hll
      try dsimp only [List.set]
      refine ⟨_, rfl, d, g, 3, rfl, hDy, by decide, by decide, fun r Hb r0 r1 hDb sb mb => ?_⟩
      obtain ⟨k2, rfl⟩ : ∃ k : Nat, r = (k : Int) := ⟨r.toNat, by omega⟩
      have eLb := hh_sub _ _ (sb _ _ (hh_get eLy nL.1 nL.2))
      refine ⟨(k2 : Int), rfl, by omega, by omega, for_range (lo := 0) (n := (k2 : Int).toNat) (fun j σ Hj => ∃ x9 x11 bk', σ = [some (.ref d), some (.int (m : Int)), some (.int (n : Int)), some (.ref pa), some (.ref c), some (.ref L), some (.ref W), x7, x8, x9, some (.ref A), x11, none, none, none, none] ∧ DealAt Hj d g ∧ Mo H5 Hj ∧ Same (hhL H5 d g L) (hhL Hj d g L) ∧ Hj L = some (.lst (ts.map V.ref)) ∧ hhL Hj d g L A = some (.lst (labs.map V.str)) ∧ LastAt H5 (hhL Hj d g L) ts bk' ∧ bk'.map (·.1) = zs ∧ Earlier bk' ∧ (∀ p ∈ bk', p.2.length ≤ n + 3 + j ∧ (putsOf p.2).length ≤ 2 ∧ (notesIn p.2).length ≤ n) ∧ labelsOf (unrolled bk') = labs ∧ ∀ p ∈ bk', ∀ r ∈ p.2, goodD (cs.map (·.1)) pl r ∨ (∃ z, r = .put z) ∨ ∃ l, r = .ref l ∧ l ∈ labs)
        ⟨_, _, bk, rfl, hDb, my.trans mb, sy.trans (hhL_same sb), eLb, (hhL_same sb) _ _ hAy, hly.mono (hhL_same sb), hbn, hea, hbl, hlb, fun p hp r hr' => by
          rcases hrow p hp r hr' with h | h
          · exact .inl h
          · exact .inr (.inl h)⟩ (fun j σ Hj hj hP => ?rft) (fun σ Hj hP => ?rff)⟩
      case rff =>
        obtain ⟨x9, x11, bk', rfl, hDj, mj, sj, eLj, hAj, hlj, hbn', hea', hbl', hlb', hrow'⟩ := hP
        refine ⟨_, rfl, _, rfl, by show 2 ≤ sizeLine; omega, fun t ht => ?_⟩
        have sf : Same (hhL Hj d g L) (hh (upd Hj t (.tup [.ref c, .ref L])) d g) := Same.trans hhL_hh (hh_new ht)
        have bl' : bk'.length = 1 + k := by rw [← List.length_map (f := (·.1)) (as := bk'), hbn', hzl]
        exact q t c L cs bk' _ (hDj.new ht) ((s1.trans (s2.trans (s23.trans (s35.trans sj)))).trans sf) ((mo35.trans mj).trans Mo.upd) (hh_at hDj ht)
          ⟨ts0, sf _ _ (sj _ _ (s35 _ _ (s23 _ _ hcl2))), TupsAt.same ((s23.trans (s35.trans sj)).trans sf) hct2⟩
          ⟨ts, hh_new ht _ _ (hh_get eLj nL.1 nL.2), paired_mono (fun _ _ z => z.same sf) hlj.parts⟩
          ⟨tree, nd, nm, c0, cm, fun z => by rw [z] at bl'; simp at bl'; omega, by omega, by rw [hbn']; exact znd, by rw [hbn']; exact hz, fun i p hp => ⟨by have := hbl' p (List.mem_of_getElem? hp); omega, hea' i p hp⟩, fun p hp => by have := hbl' p hp; omega, fun p hp r hr' => by rw [hlb']; exact hrow' p hp r hr'⟩
      case rft =>
        obtain ⟨x9, x11, bk', rfl, hDj, mj, sj, eLj, hAj, hlj, hbn', hea', hbl', hlb', hrow'⟩ := hP
        try dsimp only [List.set]
        refine ⟨_, rfl, Nat.zero_le _, fun p hp => ?_⟩
        have hDk := hDj.new (o := .lst []) hp
        have sp := hh_new (o := .lst []) (d := d) (g := g) hp
        have mk : Mo Hj (upd Hj p (.lst [])) := Mo.upd
        have e0 : (upd Hj p (.lst [])) p = some (.lst []) := upd_same
        have eLk : (upd Hj p (.lst [])) L = some (.lst (ts.map V.ref)) := Same.new hp _ _ eLj
        generalize upd Hj p (.lst []) = Hk at hDk sp mk e0 eLk ⊢
        have hAk := (hhL_same sp) _ _ hAj
        have hlk := hlj.mono (hhL_same sp)
        refine ⟨A, p, _, rfl, rfl, SqL.of (hhL_sub _ _ hAk), SqL.of e0, _, rfl, ?_⟩
        cases hcl : labs with
        | nil =>
          subst hcl
          refine iteFB rfl ?_
          exact ⟨_, _, bk', rfl, hDk, mj.trans mk, sj.trans (hhL_same sp), eLk, hAk, hlk, hbn', hea', fun p hp => by have := hbl' p hp; omega, hlb', hrow'⟩
        | cons y ys =>
          rw [← hcl]
          refine iteTB (by rw [hcl]; rfl) ?_
          obtain ⟨tsi, t, R, us, bi, nm', rs, e1, e2, h0, h1, h2, h3, h4⟩ := id hlk
          obtain ⟨r1, r2, r3, hR⟩ := hhL_ne h2
          have ht := hhL_sub _ _ h1
          have ul : us.length = rs.length := paired_len h3
          have rl : rs.length ≤ n + 3 + j ∧ (putsOf rs).length ≤ 2 ∧ (notesIn rs).length ≤ n := hbl' (nm', rs) (by rw [e2]; simp)
          have eLast : (ts.map V.ref).length = (tsi.map V.ref).length + 1 := by rw [e1]; simp
          refine ⟨_, rfl, _, rfl, _, rfl, L, _, _, .ref t, rfl, rfl, SqL.of eLk, (by rw [e1, List.map_append]; exact atI_last _ _), t, _, _, .ref R, rfl, rfl, SqT.of ht, rfl, R, _, rfl, .inl (SqL.of hR), _, _, rfl, rfl, d, g, _, rfl, hDk, by omega, by rw [List.length_map]; omega, fun q' Hl q0 q1 hDl sl ml => ?_⟩
          rw [List.length_map] at q1
          obtain ⟨qk, rfl⟩ : ∃ qk : Nat, q' = (qk : Int) := ⟨q'.toNat, by omega⟩
          have ssl := hhL_same (L := L) sl
          have eLl := hh_sub _ _ (sl _ _ (hh_get eLk nL.1 nL.2))
          have hRl := hhL_sub _ _ (ssl _ _ h2)
          have htl := hhL_sub _ _ (ssl _ _ h1)
          try dsimp only [List.set]
          refine ⟨_, rfl, _, rfl, L, _, _, .ref t, rfl, rfl, SqL.of eLl, (by rw [e1, List.map_append]; exact atI_last _ _), t, _, _, .ref R, rfl, rfl, SqT.of htl, rfl, .inl ⟨rfl, _, SqL.of hRl⟩, ?_⟩
          refine ⟨_, rfl, _, rfl, _, rfl, d, g, A, _, rfl, hDl, SqL.of (hhL_hh _ _ (ssl _ _ hAk)), by rw [hcl]; simp, by rw [List.length_map]; omega, fun v Hm hv hDm sm mm => ⟨by show 2 ≤ sizeLine; omega, fun t2 ht2 => ?_⟩⟩
          obtain ⟨l', hl', rfl⟩ := List.mem_map.mp hv
          have ssm := hhL_same (L := L) sm
          have sal := ssl.trans ssm
          have eLm := hh_sub _ _ (sm _ _ (hh_get eLl nL.1 nL.2))
          obtain ⟨i1, i2, i3⟩ := LastAt.ins (l := l') nL.1 nL.2 (hlk.mono sal) hDm eLm ht2 e1 e2 h0 (sal _ _ h1) (sal _ _ h2) (h3.same (hidA sal R)) (paired_mono (fun _ _ z => z.same (hidA sal R)) h4) qk
          have nAR : A ≠ R := fun z => by
            rw [z, hcl] at hAk
            rw [h2] at hAk
            cases us <;> cases hAk
          have hAm := sal _ _ hAk
          have hR5 : H5 R = none := h0
          refine ⟨R, _, _, _, rfl, rfl, i1, by rw [List.length_map]; omega, by omega, by omega, _, _, bi ++ [(nm', rs.take qk ++ [RowD.ref l'] ++ rs.drop qk)], rfl, (hDm.new ht2).upd r2 r3, (((mj.trans mk).trans (ml.trans mm)).trans Mo.upd).trans Mo.upd,
            hhL_upd hR5 ((sj.trans ((hhL_same sp).trans sal)).trans (hhL_same (hh_new ht2))), by rw [upd_ne r1.symm]; exact Same.new ht2 _ _ eLm, i3 _ _ (hid_get hAm nAR), i2, ?_, ?_, ?_, ?_, ?_⟩
          · rw [← hbn', e2, List.map_append, List.map_append]
            rfl
          · rw [e2] at hea'
            exact earlier_last hea' fun z hz => by
              rcases mem_ins hz with h | h
              · exact h
              · cases h
          · intro p' hp'
            rcases List.mem_append.mp hp' with hp' | hp'
            · have := hbl' p' (by rw [e2]; exact List.mem_append_left _ hp')
              omega
            · rw [List.mem_singleton.mp hp']
              exact ⟨by rw [len_ins]; omega, by rw [puts_ins]; show _ + 0 ≤ _; omega, by rw [notes_ins]; show _ + 0 ≤ _; omega⟩
          · rw [labels_ins, ← e2]
            exact hlb'
          · intro p' hp' r' hr'
            rcases List.mem_append.mp hp' with hp' | hp'
            · exact hrow' p' (by rw [e2]; exact List.mem_append_left _ hp') r' hr'
            · rw [List.mem_singleton.mp hp'] at hr'
              rcases mem_ins hr' with h | h
              · exact hrow' (nm', rs) (by rw [e2]; simp) r' h
              · exact .inr (.inr ⟨l', h, hl'⟩)
    case turn =>
      obtain ⟨x7, x8, x9, ts, bk, rfl, hDx, mx, sx, eL, hts, hbn, hea, hbl, hrow⟩ := hP
      rw [List.getElem?_map] at hx
      obtain ⟨z, hzi, rfl⟩ := Option.map_eq_some_iff.mp hx
      have hi : i < zs.length := (List.getElem?_eq_some_iff.mp hzi).1
      have hbkl : bk.length = i := by rw [← List.length_map (f := (·.1)) (as := bk), hbn, List.length_take]; omega
      have tl : ts.length = bk.length := by
        rcases hts with ⟨rfl, rfl⟩ | h
        · rfl
        · exact h.len
      try dsimp only [List.set]
      refine stepSet (fun v H' => ∃ R us rs, v = .ref R ∧ DealAt H' d g ∧ Mo Hx H' ∧ Same (hhL Hx d g L) (hhL H' d g L) ∧ H' L = some (.lst (ts.map V.ref)) ∧ Hx R = none ∧ R ≠ L ∧ H' R = some (.lst ((us : List Addr).map V.ref)) ∧ RowsAt (hhL H' d g L) us rs ∧ rs.length ≤ n ∧ ∀ r ∈ rs, goodD (cs.map (·.1)) pl r) (fun Q' hQ => ?c2) (fun v Ha hC => ?r2)
      case c2 =>
        refine ⟨_, rfl, _, rfl, d, g, (n : Int), rfl, hDx, by omega, by omega, fun r Ha r0 r1 hDa sa ma => ?_⟩
        obtain ⟨k, rfl⟩ : ∃ k : Nat, r = (k : Int) := ⟨r.toNat, by omega⟩
        refine ⟨_, _, rfl, rfl, 1 + (k : Int), rfl, by omega, by omega, fun D hDn => ?_⟩
        have hxD := ma _ hDn
        have eLa := hh_sub _ _ (sa _ _ (hh_get eL nL.1 nL.2))
        have nDL : D ≠ L := fun z => by rw [z, eLa] at hDn; cases hDn
        refine lc_range (lo := 0) (n := (1 + (k : Int)).toNat) (fun j Hj => ∃ us rs, DealAt Hj d g ∧ Mo Hx Hj ∧ Same (hhL Hx d g L) (hhL Hj d g L) ∧ Hj L = some (.lst (ts.map V.ref)) ∧ Hj D = some (.lst ((us : List Addr).map V.ref)) ∧ RowsAt (hhL Hj d g L) us rs ∧ rs.length = j ∧ ∀ r ∈ rs, goodD (cs.map (·.1)) pl r)
          ⟨[], [], hDa.new hDn, ma.trans Mo.upd, (hhL_same sa).trans (hhL_same (hh_new hDn)), by rw [upd_ne nDL.symm]; exact eLa, upd_same, .nil, rfl, fun _ z => nomatch z⟩ (fun j Hj hj hP => ?rt) (fun Hj hP => ?rf)
        case rf =>
          obtain ⟨us, rs, h1, h2, h3, h4, h5, h6, h7, h8⟩ := hP
          exact hQ _ _ ⟨D, us, rs, rfl, h1, h2, h3, h4, hxD, nDL, h5, h6, by omega, h8⟩
        case rt =>
          obtain ⟨us, rs, h1, h2, h3, h4, h5, h6, h7, h8⟩ := hP
          refine ⟨rfl, ?_⟩
          unfold tYes
          refine iteT ?_
          have wj := h3 _ _ (sx _ _ eW5)
          have pj : SqL K (hhL Hj d g L) pa (pl.map V.str) := (sx.trans h3).seq hPl5
          refine ⟨_, rfl, _, rfl, _, rfl, d, g, W, pa, cs.map (·.1), pl, rfl, h1, SqL.of (hhL_hh _ _ wj), hhL_hh.seq pj, by rw [List.length_map]; exact c0, by rw [List.length_map]; omega, hpl, ok, fun t r Hk hgr hDk sk mk ht => ?_⟩
          obtain ⟨t1, t2, ht2⟩ := hh_ne ht
          have eDk := hh_sub _ _ (sk _ _ (hh_get h5 (hDx.nd hxD).1 (hDx.nd hxD).2))
          have eLk := hh_sub _ _ (sk _ _ (hh_get h4 nL.1 nL.2))
          have tL : t ≠ L := fun z => by
            rw [z, eLk] at ht2
            cases r <;> cases ht2
          have tD : t ≠ D := fun z => by
            rw [z, eDk] at ht2
            cases r <;> cases ht2
          have ul : us.length = rs.length := paired_len h6
          refine ⟨_, eDk, by rw [List.length_map]; omega, us ++ [t], rs ++ [r], hDk.upd (hDx.nd hxD).1 (hDx.nd hxD).2, (h2.trans mk).trans Mo.upd, hhL_upd hxD (h3.trans (hhL_same sk)), by rw [upd_ne nDL.symm]; exact eLk, by rw [upd_same, List.map_append]; rfl, rows_hhL eDk (rows_snoc (hhL_get ht2 tL t1 t2) (h6.same (hhL_same sk))), by rw [List.length_append, h7]; rfl, fun r' hr' => ?_⟩
          rcases List.mem_append.mp hr' with hr' | hr'
          · exact h8 r' hr'
          · rw [List.mem_singleton.mp hr']
            exact hgr
      case r2 =>
      obtain ⟨R, us, rs, rfl, hDa, ma, sa, eLa, hRx, nRL, hR, hus, hrl, hrg⟩ := hC
      try dsimp only [List.set]
      have cR : RC Hx d g L R := ⟨nL.1, nL.2, (hDx.nd hRx).1, (hDx.nd hRx).2, nRL, hRx⟩
      have st0 : RSt Hx d g L R (ts.map V.ref) Ha us rs := ⟨hDa, ma, sa, eLa, hR, hus⟩
      refine ⟨_, rfl, d, g, 3, rfl, hDa, by decide, by decide, fun r Hb r0 r1 hDb sb mb => ?_⟩
      obtain ⟨k, rfl⟩ : ∃ k : Nat, r = (k : Int) := ⟨r.toNat, by omega⟩
      have st1 := st0.call cR hDb sb mb
      refine ⟨(k : Int), rfl, by omega, by omega, for_range (lo := 0) (n := (k : Int).toNat) (fun j σ Hj => ∃ x9 us rs, σ = [some (.ref d), some (.int (m : Int)), some (.int (n : Int)), some (.ref pa), some (.ref c), some (.ref L), some (.ref W), some (.str z), some (.ref R), x9, none, none, none, none, none, none] ∧ RSt Hx d g L R (ts.map V.ref) Hj us rs ∧ (rs.length ≤ n + j ∧ (putsOf rs).length ≤ j ∧ (notesIn rs).length ≤ n) ∧ ∀ r ∈ rs, goodD (cs.map (·.1)) pl r ∨ ∃ z, r = .put z ∧ z ∈ bk.map (·.1))
        ⟨_, us, rs, rfl, st1, ⟨hrl, Nat.le_of_eq (puts_none hrg), Nat.le_trans (notesIn_len rs) hrl⟩, fun r hr' => .inl (hrg r hr')⟩ (fun j σ Hj hj hP => ?pt) (fun σ Hj hP => ?pf)⟩
      case pt =>
        obtain ⟨x9, us, rs, rfl, st, hl', hg'⟩ := hP
        have ul : us.length = rs.length := paired_len st.2.2.2.2.2
        try dsimp only [List.set]
        refine ⟨_, rfl, Nat.zero_le _, fun p hp => ?_⟩
        have st2 := st.new (o := .lst []) cR hp
        have e0 : (upd Hj p (.lst [])) p = some (.lst []) := upd_same
        generalize upd Hj p (.lst []) = Hk at st2 e0 ⊢
        refine ⟨L, p, _, rfl, rfl, SqL.of st2.2.2.2.1, SqL.of e0, _, rfl, ?_⟩
        by_cases hb : bk = []
        · have t0 : ts = [] := by
            rw [hb] at tl
            exact List.length_eq_zero_iff.mp tl
          subst t0
          refine iteFB rfl ?_
          exact ⟨_, us, rs, rfl, st2, by omega, hg'⟩
        · obtain ⟨t0, ts1, rfl⟩ : ∃ a b, ts = a :: b := by
            cases ts with
            | nil => exact absurd (List.length_eq_zero_iff.mp tl.symm) hb
            | cons a b => exact ⟨a, b, rfl⟩
          refine iteTB rfl ?_
          refine ⟨_, rfl, .inl ⟨rfl, _, SqL.of st2.2.2.2.2.1⟩, ?_⟩
          refine ⟨_, rfl, _, rfl, R, _, rfl, .inl (SqL.of st2.2.2.2.2.1), ?_⟩
          refine ⟨_, _, rfl, rfl, d, g, _, rfl, st2.1, by omega, by rw [List.length_map]; omega, fun q' Hl q0 q1 hDl sl ml => ?_⟩
          rw [List.length_map] at q1
          have st3 := st2.call cR hDl sl ml
          refine ⟨_, rfl, _, rfl, d, g, L, _, rfl, st3.1, SqL.of (hh_get st3.2.2.2.1 nL.1 nL.2), by simp, by rw [List.length_map]; omega, fun v Hm hv hDm sm mm => ?_⟩
          obtain ⟨t, ht, rfl⟩ := List.mem_map.mp hv
          have st4 := st3.call cR hDm sm mm
          have hpr : Paired (PartAt (hhL Hx d g L)) (t0 :: ts1) bk := (hts.resolve_left (fun z => hb z.2)).parts
          obtain ⟨j', hj'⟩ := List.mem_iff_getElem?.mp ht
          obtain ⟨p0, hp0, ra, ht0, _⟩ := paired_at hpr hj'
          have ht4 : Hm t = some (.tup [.str p0.1, .ref ra]) := hhL_sub _ _ (st4.2.2.1 _ _ ht0)
          refine ⟨t, _, _, .str p0.1, rfl, rfl, SqT.of ht4, rfl, by show 2 ≤ sizeLine; omega, fun t2 ht2 => ?_⟩
          obtain ⟨qk, rfl⟩ : ∃ qk : Nat, q' = (qk : Int) := ⟨q'.toNat, by omega⟩
          obtain ⟨i1, st5⟩ := st4.ins (r := .put p0.1) cR ht2 qk
          refine ⟨R, _, _, _, rfl, rfl, i1, by rw [List.length_map]; omega, by omega, by omega, _, _, _, rfl, st5, ⟨by rw [len_ins]; omega, by rw [puts_ins]; show _ + 1 ≤ _; omega, by rw [notes_ins]; show _ + 0 ≤ _; omega⟩, fun r' hr' => ?_⟩
          rcases mem_ins hr' with hr' | rfl
          · exact hg' r' hr'
          · exact .inr ⟨_, rfl, List.mem_map.mpr ⟨p0, List.mem_of_getElem? hp0, rfl⟩⟩
      case pf =>
      obtain ⟨x9, us, rs, rfl, st, hl', hg'⟩ := hP
      have hl2' : rs.length ≤ n + 2 ∧ (putsOf rs).length ≤ 2 ∧ (notesIn rs).length ≤ n := by omega
      have ul : us.length = rs.length := paired_len st.2.2.2.2.2
      have hPx : SqL K (hhL Hx d g L) pa (pl.map V.str) := sx.seq hPl5
      try dsimp only [List.set]
      refine stepIfG (fun Hz => ∃ us rs, RSt Hx d g L R (ts.map V.ref) Hz us rs ∧ (rs.length ≤ n + 3 ∧ (putsOf rs).length ≤ 2 ∧ (notesIn rs).length ≤ n) ∧ ∀ r ∈ rs, goodD (cs.map (·.1)) pl r ∨ ∃ z, r = .put z ∧ z ∈ bk.map (·.1)) (fun nx hnx => ?openq) (fun Hz hz => ?appq)
      case openq =>
        refine ⟨_, rfl, Nat.zero_le _, fun p hp => ?_⟩
        have st2 := st.new (o := .lst []) cR hp
        have e0 : (upd Hj p (.lst [])) p = some (.lst []) := upd_same
        generalize upd Hj p (.lst []) = Hk at st2 e0 ⊢
        have hPk : SqL K Hk pa (pl.map V.str) := hhL_sub.seq (st2.2.2.1.seq hPx)
        refine ⟨.list (pl.map PyData.str), .list [], .lst hPk (dp_strL pl), .lst (SqL.of e0) .nil, strL_sh ok, by decide +kernel, _, rfl, ?_⟩
        rw [strsL_nil]
        cases pl with
        | nil =>
          refine iteFB rfl ?_
          refine iteFB rfl ?_
          exact hnx _ ⟨us, rs, st2, by omega, hg'⟩
        | cons y ys =>
          refine iteTB rfl ?_
          refine ⟨_, rfl, d, g, 2, rfl, st2.1, by decide, by decide, fun b Hl b0 b1 hDl sl ml => ⟨rfl, _, rfl, ?_⟩⟩
          have st3 := st2.call cR hDl sl ml
          by_cases hb : b = 0
          · refine iteTB (decide_eq_true (by rw [hb])) ?_
            refine ⟨_, rfl, .inl ⟨rfl, _, SqL.of st3.2.2.2.2.1⟩, ?_⟩
            refine ⟨_, rfl, _, rfl, R, _, rfl, .inl (SqL.of st3.2.2.2.2.1), ?_⟩
            refine ⟨_, _, rfl, rfl, d, g, _, rfl, st3.1, by omega, by rw [List.length_map]; omega, fun q' Hm q0 q1 hDm sm mm => ?_⟩
            rw [List.length_map] at q1
            have st4 := st3.call cR hDm sm mm
            refine ⟨_, rfl, _, rfl, d, g, pa, _, rfl, st4.1, hhL_hh.seq (st4.2.2.1.seq hPx), by simp, by rw [List.length_map]; omega, fun v Hn hv hDn sn mn => ?_⟩
            obtain ⟨o, ho, rfl⟩ := List.mem_map.mp hv
            have st5 := st4.call cR hDn sn mn
            refine ⟨by show 2 ≤ sizeLine; omega, fun t2 ht2 => ?_⟩
            obtain ⟨qk, rfl⟩ : ∃ qk : Nat, q' = (qk : Int) := ⟨q'.toNat, by omega⟩
            obtain ⟨i1, st6⟩ := st5.ins (r := .opn o) cR ht2 qk
            refine ⟨R, _, _, _, rfl, rfl, i1, by rw [List.length_map]; omega, by omega, by omega, hnx _ ⟨_, _, st6, ⟨by rw [len_ins]; omega, by rw [puts_ins]; show _ + 0 ≤ _; omega, by rw [notes_ins]; show _ + 0 ≤ _; omega⟩, fun r' hr' => ?_⟩⟩
            rcases mem_ins hr' with hr' | rfl
            · exact hg' r' hr'
            · exact .inl ho
          · refine iteFB (decide_eq_false fun z => hb (by injection z)) ?_
            exact hnx _ ⟨us, rs, st3, by omega, hg'⟩
      case appq =>
        obtain ⟨us, rs, st, hl', hg'⟩ := hz
        refine ⟨_, rfl, .inl ⟨rfl, _, SqL.of st.2.2.2.1⟩, ?_⟩
        refine ⟨_, rfl, _, rfl, by show 2 ≤ sizeLine; omega, fun t ht => ?_⟩
        have tL : t ≠ L := fun e => by rw [e, st.2.2.2.1] at ht; cases ht
        have tR : t ≠ R := fun e => by rw [e, st.2.2.2.2.1] at ht; cases ht
        have nt := st.1.nd ht
        have ul : us.length = rs.length := paired_len st.2.2.2.2.2
        have eLz : (upd Hz t (.tup [.str z, .ref R])) L = some (.lst (ts.map V.ref)) := by rw [upd_ne tL.symm]; exact st.2.2.2.1
        have sz : Same (hhL Hz d g L) (hhL (upd (upd Hz t (.tup [.str z, .ref R])) L (.lst (ts.map V.ref ++ [V.ref t]))) d g L) := (hhL_same (hh_new ht)).trans hhL_put
        have wt : hhL (upd (upd Hz t (.tup [.str z, .ref R])) L (.lst (ts.map V.ref ++ [V.ref t]))) d g L t = some (.tup [.str z, .ref R]) := hhL_get (by rw [upd_ne tL]; exact upd_same) tL nt.1 nt.2
        have wR := sz _ _ (hhL_get st.2.2.2.2.1 cR.rl cR.r1 cR.r2)
        have wrs : RowsAt (hhL (upd (upd Hz t (.tup [.str z, .ref R])) L (.lst (ts.map V.ref ++ [V.ref t]))) d g L) us rs := st.2.2.2.2.2.same sz
        have wx := st.2.2.1.trans sz
        have wxR : Same (hhL Hx d g L) (hid (hhL (upd (upd Hz t (.tup [.str z, .ref R])) L (.lst (ts.map V.ref ++ [V.ref t]))) d g L) R) := fun a o e => by
          obtain ⟨_, _, _, e0⟩ := hhL_ne e
          exact hid_get (wx _ _ e) (ne_of_none e0 hRx)
        refine ⟨L, _, _, rfl, rfl, eLz, by rw [List.length_map]; omega, _, _, _, ts ++ [t], bk ++ [(z, rs)], rfl, (st.1.new ht).upd nL.1 nL.2, ((mx.trans st.2.1).trans Mo.upd).trans Mo.upd, sx.trans wx, by rw [upd_same, List.map_append]; rfl,
          .inr ⟨ts, t, R, us, bk, z, rs, rfl, rfl, mx _ hRx, wt, wR, rows_hid wR wrs, ?_⟩, by rw [List.map_append, hbn, List.take_add_one, hzi]; rfl, earlier_snoc hea (fun z' hz' => ?_), fun p hp => ?_, fun p hp r hr' => ?_⟩
        · rcases hts with ⟨rfl, rfl⟩ | h
          · exact .nil
          · exact paired_mono (fun _ _ e => e.same wxR) h.parts
        · rcases hg' _ hz' with h | ⟨z2, e, h⟩
          · exact h.elim
          · cases e
            exact h
        · rcases List.mem_append.mp hp with hp | hp
          · exact hbl p hp
          · rw [List.mem_singleton.mp hp]
            exact hl'
        · rcases List.mem_append.mp hp with hp | hp
          · exact hrow p hp r hr'
          · rw [List.mem_singleton.mp hp] at hr'
            rcases hg' r hr' with h | ⟨z2, e, _⟩
            · exact .inl h
            · exact .inr ⟨z2, e⟩
end
end Pn

namespace Pn
open PySem PySem.Spec PyProof.Rows L2 TL
/-! ### dealt books are good books -/
abbrev sBookOf : Stmt := top 84
theorem dealt_small {bk : List PartD} (h : PutsOkD bk) : ∀ i, i ≤ bk.length → ∀ z rs, (z, rs) ∈ knowns (bk.take i) → rs.length ≤ 15 ^ i := by
  intro i
  induction i with
  | zero => intro _ z rs hm; cases hm
  | succ i ih =>
    intro hi z rs hm
    have lt : i < bk.length := hi
    have hp : bk[i]? = some bk[i] := List.getElem?_eq_getElem lt
    have hkt : knowns (bk.take (i + 1)) = (bk[i].1, unrollIn (knowns (bk.take i)) bk[i].2) :: knowns (bk.take i) := by
      rw [List.take_add_one, hp]
      exact knowns_snoc _ _
    rw [hkt] at hm
    have ih2 := ih (by omega)
    have p6 : 15 ^ i ≤ 15 ^ (i + 1) := Nat.pow_le_pow_right (by decide) (by omega)
    have p1 : 1 ≤ 15 ^ i := Nat.one_le_pow _ _ (by decide)
    rcases List.mem_cons.mp hm with e | hm
    · injection e with e1 e2
      subst e2
      obtain ⟨h6, hput⟩ := h i _ hp
      have key : ∀ l : List RowD, (∀ y, RowD.put y ∈ l → y ∈ (bk.take i).map (·.1)) → (unrollIn (knowns (bk.take i)) l).length ≤ l.length * 15 ^ i := by
        intro l
        induction l with
        | nil => intro _; exact Nat.zero_le _
        | cons r l ihl =>
          intro hl
          have q := ihl fun y hy => hl y (List.mem_cons_of_mem _ hy)
          have e : unrollIn (knowns (bk.take i)) (r :: l) = expand (knowns (bk.take i)) r ++ unrollIn (knowns (bk.take i)) l := rfl
          rw [e, List.length_append, List.length_cons, Nat.add_mul, Nat.one_mul]
          have he : (expand (knowns (bk.take i)) r).length ≤ 15 ^ i := by
            cases r with
            | put y =>
              have hy := hl y List.mem_cons_self
              have hyk : y ∈ (knowns (bk.take i)).map (·.1) := by rw [knowns_len]; exact List.mem_reverse.mpr hy
              obtain ⟨rs2, h1, h2⟩ := lookup_of_mem hyk
              show ((List.lookup y (knowns (bk.take i))).getD []).length ≤ _
              rw [h1]
              exact ih2 y rs2 h2
            | _ => exact p1
          omega
      have q := key bk[i].2 hput
      have q2 : bk[i].2.length * 15 ^ i ≤ 15 * 15 ^ i := Nat.mul_le_mul_right _ h6
      rw [Nat.pow_succ]
      omega
    · exact Nat.le_trans (ih2 z rs hm) p6
theorem deal_labels {most : Nat} {pl : List Str} {cs : List (Str × Str)} {bk : List PartD} (h : DealBook most pl cs bk) : ∀ l ∈ labelsOf (unrolled bk), l = "cat" ∨ l = "dog" := fun l hl => by
  obtain ⟨c, hc, hn⟩ := labels_of hl
  have key := unrolled_all (G := fun r => ∀ c l, r = RowD.note c l → l = "" ∨ l = "cat" ∨ l = "dog") (bk := bk) (fun p hp r hr c l e => by
    subst e
    rcases h.rows p hp _ hr with g | ⟨z, e⟩ | ⟨l2, e, _⟩
    · exact g.2
    · cases e
    · cases e) _ hc c l rfl
  exact key.resolve_left hn
theorem dealV {most : Nat} {pl : List Str} {cs : List (Str × Str)} {bk : List PartD} (h : DealBook most pl cs bk) (hm : most ≤ 15) (hpl : ∀ z ∈ pl, nameS z = true) : BookV cs bk := by
  have hcs : ∀ x ∈ cs.map (·.1), nameS x = true := fun x hx => names16_ok.2.2 _ (h.nm x hx)
  have hbk : ∀ x ∈ bk.map (·.1), nameS x = true := fun x hx => names16_ok.2.2 _ (h.bnm x hx)
  have c3 := h.cm
  have b3 := h.b3
  have cat : nameS "cat" = true ∧ nameS "dog" = true := by decide +kernel
  exact {
    c := ⟨fun c hc => hcs _ (List.mem_map.mpr ⟨c, hc, rfl⟩), h.nd, h.tree, by omega⟩
    b0 := h.b0
    nd := h.bn
    len := by omega
    rows := fun p hp => by
      obtain ⟨i, hi⟩ := List.getElem?_of_mem hp
      have h6 := (h.puts i p hi).1
      refine ⟨Nat.le_trans (name_ok (hbk _ (List.mem_map.mpr ⟨p, hp, rfl⟩))).2 (by decide), by omega, fun r hr => ?_⟩
      rcases h.rows p hp r hr with f | ⟨z, rfl⟩ | ⟨l, rfl, hl⟩
      · cases r with
        | note c l =>
          refine ⟨hcs _ f.1, ?_⟩
          rcases f.2 with rfl | rfl | rfl
          · exact .inl rfl
          · exact .inr cat.1
          · exact .inr cat.2
        | skip c n => exact ⟨hcs _ f.1, f.2.1, Nat.lt_of_le_of_lt f.2.2 (by decide)⟩
        | set c n => exact ⟨hcs _ f.1, Nat.lt_of_le_of_lt f.2 (by decide)⟩
        | keep c => exact hcs _ f
        | back c => exact hcs _ f
        | opn z => exact hpl _ f
        | put z => exact f.elim
        | ref z => exact f.elim
      · have hz := (h.puts i p hi).2 z hr
        rw [List.map_take] at hz
        exact hbk _ (List.mem_of_mem_take hz)
      · rcases deal_labels h l hl with rfl | rfl
        · exact cat.1
        · exact cat.2
    cnt := fun p hp r hr c e => by
      rcases h.rows p hp r hr with f | ⟨z, rfl⟩ | ⟨l, rfl, _⟩
      · cases r with
        | note _ _ => cases e; exact f.1
        | skip _ _ => cases e; exact f.1
        | set _ _ => cases e; exact f.1
        | keep _ => cases e; exact f
        | back _ => cases e; exact f
        | ref _ => cases e
        | put _ => cases e
        | opn _ => cases e
      · cases e
      · cases e
    puts := fun i p hp => (h.puts i p hp).2
    small := fun z rs hm => by
      have q := dealt_small h.puts bk.length (Nat.le_refl _) z rs (by rw [List.take_length]; exact hm)
      have : 15 ^ bk.length ≤ 15 ^ 3 := Nat.pow_le_pow_right (by decide) b3
      have e : (15 : Nat) ^ 3 = 3375 := by decide
      omega
    refs := fun l hl => by
      have q := unrolled_all (G := fun r => ∀ l, r = RowD.ref l → l ∈ labelsOf (unrolled bk)) (fun p hp r hr l e => by
        subst e
        rcases h.rows p hp _ hr with f | ⟨z, e⟩ | ⟨l2, e, hm⟩
        · exact f.elim
        · cases e
        · cases e
          exact hm) _ hl l rfl
      obtain ⟨c, hc, _⟩ := labels_of q
      exact ⟨c, hc⟩ }
section
variable {P : Program} {w : World} {K : PySem.W.Frag} {mg : Str → Option Value} {base : Heap}
/-! ### _law_book_of -/
def spBookOf {R : TRows K mg} {T : TPart R} (B : TBk T) : Sp := fun vs H Q _ => ∃ (t c pl : Addr) (cs : List (Str × Str)) (bk : List PartD), vs = [.ref t] ∧ SqT K H t [.ref c, .ref pl] ∧ CsAt H c cs ∧ PartsAt H pl bk ∧ BookV cs bk ∧ (∀ p ∈ bk, nameS p.1 = true) ∧
  ∀ (x : Addr) (H' : Hp), Same H H' → BookAt B H' x cs bk → Q (.ref x) H'
theorem scBookOf : FnScope ["_law_told", "_law_name", "_law_rows", "_law_row_here"] ["_law_told"] (defScope sBookOf) := ⟨rfl, rfl, rfl, by decide +kernel, rfl, by decide +kernel, by decide +kernel⟩
theorem ok_bookOf {R : TRows K mg} {T : TPart R} (B : TBk T) (Z : At K mg "_law_row_of" sRowOf ["_law_row_here"]) {f : Addr} {fd : FuncData} (F : Fun K "_law_book_of" "_law_book_of" sBookOf f fd) : FnOk P w K mg base CX0 8 f fd ["_law_told"] (spBookOf B) := by
  refine F.ok scBookOf (fun vs H Q E h => ?_) (fun cdv A outer s H vs Q E hr h => ?_)
  · obtain ⟨t, c, pl, cs, bk, rfl, _⟩ := h
    rfl
  · obtain ⟨t, c, pl, cs, bk, rfl, ht, ⟨ts, hc, hcd⟩, ⟨qs, hpl, hpd⟩, ok, hnm, q⟩ := h
    refine ⟨_, (pss_one (ps_ret (pe_make B.M (ok_bInit B) (hr.mono (by decide)) rfl B.mC B.bI .nil pass0 (pa_cons (pe_ix ix_tup (pv 0) pe_int (fun _ _ => rfl)) (pa_cons (pe_lc (own := [("_law_name", 1), ("_law_rows", 2)]) (g := gTup K 2 (gCons (gName 1) (gCons (gName 2) gNil))) (tt := tYes) (by rfl) scBookOf.nd (pi_list (pe_ix ix_tup (pv 0) pe_int (fun _ _ => rfl)))
 (blkOk_by (N := ["_law_told", "_law_name", "_law_rows", "_law_row_here"]) (sc := defScope sBookOf) (by decide +kernel)) (fun _ _ _ _ _ => (pg_tup (by rfl) (pgs_cons (pg_name (i := 1) scBookOf.nd rfl (Or.inl rfl)) (pgs_cons (pg_name (i := 2) scBookOf.nd rfl (Or.inl rfl)) pgs_nil)))) (fun _ _ _ _ _ => pts_nil) (fun _ _ _ _ _ => (pe_make T.M (okPartInit T) (hr.mono (by decide)) rfl T.mC T.bI .nil passN0 (pa_cons (pv 1) (pa_cons (pe_lc (own := [("_law_row_here", 3)]) (g := gName 3) (tt := tYes) (by rfl) scBookOf.nd (show PI _ _ _ (iList K (tVar 2)) from pi_list (pv 2))
 (blkOk_by (N := ["_law_told", "_law_name", "_law_rows", "_law_row_here"]) (by kernel_rfl)) (fun _ _ _ _ _ => (pg_name (i := 3) scBookOf.nd rfl (Or.inl rfl))) (fun _ _ _ _ _ => pts_nil) (fun _ _ _ _ _ => (pe_call (ok_rowOf R Z.F) (hr.mono (by decide)) rfl Z.m Z.F.kp Z.b .nil pass0 (pa_cons (pv 3) pa_nil)))) pa_nil))))) pa_nil))))), ?_⟩
    have hcl := ok.c.len
    have hbl := ok.len
    have big : (1001 : Nat) ≤ sizeLine := by decide
    have hql : qs.length = bk.length := paired_len hpd
    refine ⟨_, rfl, t, _, _, .ref c, rfl, rfl, ht, rfl, _, rfl, t, _, _, .ref pl, rfl, rfl, ht, rfl, pl, rfl, ⟨_, SqL.of hpl⟩, fun D hD => lc_list (xs := qs.map V.ref) (fun i Hi => ∃ as : List Addr, Same H Hi ∧ Hi D = some (.lst (as.map V.ref)) ∧ PtsIn T Hi as (bk.take i)) ⟨[], Same.new hD, upd_same, .nil⟩ (fun i Hi _ hP => by obtain ⟨_, s, _⟩ := hP; exact SqL.of (s _ _ hpl)) (fun i z Hi hz hP => ?turn) (fun Hi hP => ?fin)⟩
    case turn =>
      obtain ⟨as, si, hDi, has⟩ := hP
      rw [List.getElem?_map] at hz
      cases hxi : qs[i]? with
      | none => rw [hxi] at hz; cases hz
      | some u =>
      rw [hxi] at hz
      cases hz
      obtain ⟨p, hp, ra, hu, us, hra, hus⟩ := paired_at hpd hxi
      have hpm := List.mem_of_getElem? hp
      obtain ⟨hp1, hp2, hp3⟩ := ok.rows p hpm
      have hul : us.length = p.2.length := paired_len hus
      refine ⟨u, _, rfl, SqT.of (si _ _ hu), rfl, _, _, rfl, _, _, rfl, rfl, rfl, _, rfl, _, rfl, ra, rfl, ⟨_, SqL.of (si _ _ hra)⟩, fun D2 hD2 => lc_list (xs := us.map V.ref) (fun j Hj => ∃ fs : List Addr, Same Hi Hj ∧ Hj D2 = some (.lst (fs.map V.ref)) ∧ RowsIn R Hj fs (p.2.take j)) ⟨[], Same.new hD2, upd_same, .nil⟩ (fun j Hj _ hP => by obtain ⟨_, s, _⟩ := hP; exact SqL.of (s _ _ (si _ _ hra))) (fun j z Hj hz hP => ?turn2) (fun Hj hP => ?fin2)⟩
      case turn2 =>
        obtain ⟨fs, sj, hDj, hfs⟩ := hP
        rw [List.getElem?_map] at hz
        cases hxj : us[j]? with
        | none => rw [hxj] at hz; cases hz
        | some v =>
        rw [hxj] at hz
        cases hz
        obtain ⟨r, hr2, hv⟩ := paired_at hus hxj
        have hrm := List.mem_of_getElem? hr2
        have hfl : fs.length = (p.2.take j).length := paired_len hfs
        rw [List.length_take] at hfl
        refine ⟨rfl, _, rfl, v, r, rfl, SqT.of (sj _ _ (si _ _ hv)), hp3 r hrm, fun y Hy sy hy => ⟨_, sy _ _ hDj, ?_, fs ++ [y], Same.updn (sj.trans sy) hD2, by rw [upd_same, List.map_append]; rfl, ?_⟩⟩
        · rw [List.length_map]
          omega
        · rw [List.take_add_one, hr2]
          exact rowsin_lst (sy _ _ hDj) (paired_snoc hy (hfs.same sy))
      case fin2 =>
        obtain ⟨fs, sj, hDj, hfs⟩ := hP
        rw [List.length_map, hul, List.take_length] at hfs
        have hfl : fs.length = p.2.length := paired_len hfs
        have hal : as.length = (bk.take i).length := paired_len has
        rw [List.length_take] at hal
        refine part_made T (.inl (SqL.of hDj)) hfs (hnm p hpm) (by omega) fun x H' s' h => ⟨_, s' _ _ (sj _ _ hDi), ?_, as ++ [x], Same.updn (si.trans (sj.trans s')) hD, by rw [upd_same, List.map_append]; rfl, ?_⟩
        · rw [List.length_map]
          omega
        · rw [List.take_add_one, hp]
          have hD' := s' _ _ (sj _ _ hDi)
          have old : PtsIn T (upd H' D (.lst (as.map V.ref ++ [V.ref x]))) as (bk.take i) := paired_mono (R := fun a (q : PartD) => PtAt T H' a q.1 q.2) (fun _ _ z => ptat_lst hD' z) (has.same (sj.trans s'))
          have new : PtAt T (upd H' D (.lst (as.map V.ref ++ [V.ref x]))) x p.1 p.2 := ptat_lst hD' (h.at (hfs.same s'))
          exact paired_snoc (R := fun a (q : PartD) => PtAt T (upd H' D (.lst (as.map V.ref ++ [V.ref x]))) a q.1 q.2) new old
    case fin =>
      obtain ⟨as, si, hDi, has⟩ := hP
      rw [List.length_map, hql, List.take_length] at has
      exact book_made B (.inl (SqL.of (si _ _ hc))) ((csIn_of hcd).same si) ⟨D, as, rfl, .inl (SqL.of hDi), has⟩ ok fun x H' s' h => q x H' (si.trans s') h
end
end Pn

namespace Pn
open PySem PySem.Spec PyProof.Rows L2 TL
abbrev sGoing : Stmt := top 59
abbrev sOwn : Stmt := top 60
abbrev sStep : Stmt := top 61
abbrev sReck : Stmt := top 62
/-! ### numbers: what a row does with the numbers and boxes of all counters -/
abbrev Trm := Str × Int
def goOn : RowD → Nat
  | .note _ _ => 1
  | .skip _ n => n
  | _ => 0
def stayT : Trm × Trm := (("now", 0), ("box", 0))
def ownT : RowD → Trm × Trm
  | .set _ n => (("at", (n : Int)), ("box", 0))
  | .keep _ => (("now", 0), ("now", 0))
  | .back _ => (("box", 0), ("box", 0))
  | r => (("now", (goOn r : Int)), ("box", 0))
def stepR (r : RowD) (ch : List Str) (own : Str) : Trm × Trm := match cntOf r with
  | none => stayT
  | some c => if c ∈ ch then (if c = own then ownT r else if 0 < goOn r then (("at", 0), ("box", 0)) else stayT) else stayT
def reckT (t : Trm) (n k : Int) : Int := if t.1 = "now" then n + t.2 else if t.1 = "box" then k + t.2 else t.2
/-- a chain and its counter -/
abbrev Chn := List Str × Str
def doneOne (r : RowD) (c : Chn) (s : Int × Int) : Int × Int := (reckT (stepR r c.1 c.2).1 s.1 s.2, reckT (stepR r c.1 c.2).2 s.1 s.2)
def doneS (r : RowD) (L : List Chn) (st : List (Int × Int)) : List (Int × Int) := List.zipWith (doneOne r) L st
def TermAt (K : PySem.W.Frag) (H : Hp) (a : Addr) (t : Trm) : Prop := SqT K H a [.str t.1, .int t.2]
def StepAt (K : PySem.W.Frag) (H : Hp) (a : Addr) (s : Trm × Trm) : Prop := ∃ b c, SqT K H a [.ref b, .ref c] ∧ TermAt K H b s.1 ∧ TermAt K H c s.2
theorem StepAt.same {K : PySem.W.Frag} {H H' : Hp} {a : Addr} {s : Trm × Trm} (h : StepAt K H a s) (m : Same H H') : StepAt K H' a s := by
  obtain ⟨b, c, h1, h2, h3⟩ := h
  exact ⟨b, c, Same.sqt m h1, Same.sqt m h2, Same.sqt m h3⟩
theorem wtT {a b : Str} (h : a = b) : decide (V.str a = V.str b) = true := by rw [h]; exact decide_eq_true rfl
theorem wtF {a b : Str} (h : a ≠ b) : decide (V.str a = V.str b) = false := decide_eq_false fun z => h (V.str.inj z)
section
variable {P : Program} {w : World} {K : PySem.W.Frag} {mg : Str → Option Value} {base : Heap}
theorem is_note {r : RowD} (e : rowWord r = "note") : ∃ c l, r = .note c l := by
  cases r with
  | note _ _ => exact ⟨_, _, rfl⟩
  | skip _ _ => exact absurd e (show ("skip" : Str) ≠ "note" by decide +kernel)
  | set _ _ => exact absurd e (show ("set" : Str) ≠ "note" by decide +kernel)
  | keep _ => exact absurd e (show ("keep" : Str) ≠ "note" by decide +kernel)
  | back _ => exact absurd e (show ("back" : Str) ≠ "note" by decide +kernel)
  | ref _ => exact absurd e (show ("ref" : Str) ≠ "note" by decide +kernel)
  | put _ => exact absurd e (show ("put" : Str) ≠ "note" by decide +kernel)
  | opn _ => exact absurd e (show ("open" : Str) ≠ "note" by decide +kernel)
theorem is_skip {r : RowD} (e : rowWord r = "skip") : ∃ c n, r = .skip c n := by
  cases r with
  | note _ _ => exact absurd e (show ("note" : Str) ≠ "skip" by decide +kernel)
  | skip _ _ => exact ⟨_, _, rfl⟩
  | set _ _ => exact absurd e (show ("set" : Str) ≠ "skip" by decide +kernel)
  | keep _ => exact absurd e (show ("keep" : Str) ≠ "skip" by decide +kernel)
  | back _ => exact absurd e (show ("back" : Str) ≠ "skip" by decide +kernel)
  | ref _ => exact absurd e (show ("ref" : Str) ≠ "skip" by decide +kernel)
  | put _ => exact absurd e (show ("put" : Str) ≠ "skip" by decide +kernel)
  | opn _ => exact absurd e (show ("open" : Str) ≠ "skip" by decide +kernel)
theorem is_set {r : RowD} (e : rowWord r = "set") : ∃ c n, r = .set c n := by
  cases r with
  | note _ _ => exact absurd e (show ("note" : Str) ≠ "set" by decide +kernel)
  | skip _ _ => exact absurd e (show ("skip" : Str) ≠ "set" by decide +kernel)
  | set _ _ => exact ⟨_, _, rfl⟩
  | keep _ => exact absurd e (show ("keep" : Str) ≠ "set" by decide +kernel)
  | back _ => exact absurd e (show ("back" : Str) ≠ "set" by decide +kernel)
  | ref _ => exact absurd e (show ("ref" : Str) ≠ "set" by decide +kernel)
  | put _ => exact absurd e (show ("put" : Str) ≠ "set" by decide +kernel)
  | opn _ => exact absurd e (show ("open" : Str) ≠ "set" by decide +kernel)
theorem is_keep {r : RowD} (e : rowWord r = "keep") : ∃ c, r = .keep c := by
  cases r with
  | note _ _ => exact absurd e (show ("note" : Str) ≠ "keep" by decide +kernel)
  | skip _ _ => exact absurd e (show ("skip" : Str) ≠ "keep" by decide +kernel)
  | set _ _ => exact absurd e (show ("set" : Str) ≠ "keep" by decide +kernel)
  | keep _ => exact ⟨_, rfl⟩
  | back _ => exact absurd e (show ("back" : Str) ≠ "keep" by decide +kernel)
  | ref _ => exact absurd e (show ("ref" : Str) ≠ "keep" by decide +kernel)
  | put _ => exact absurd e (show ("put" : Str) ≠ "keep" by decide +kernel)
  | opn _ => exact absurd e (show ("open" : Str) ≠ "keep" by decide +kernel)
theorem is_back {r : RowD} (e : rowWord r = "back") : ∃ c, r = .back c := by
  cases r with
  | note _ _ => exact absurd e (show ("note" : Str) ≠ "back" by decide +kernel)
  | skip _ _ => exact absurd e (show ("skip" : Str) ≠ "back" by decide +kernel)
  | set _ _ => exact absurd e (show ("set" : Str) ≠ "back" by decide +kernel)
  | keep _ => exact absurd e (show ("keep" : Str) ≠ "back" by decide +kernel)
  | back _ => exact ⟨_, rfl⟩
  | ref _ => exact absurd e (show ("ref" : Str) ≠ "back" by decide +kernel)
  | put _ => exact absurd e (show ("put" : Str) ≠ "back" by decide +kernel)
  | opn _ => exact absurd e (show ("open" : Str) ≠ "back" by decide +kernel)
theorem is_ref {r : RowD} (e : rowWord r = "ref") : ∃ c, r = .ref c := by
  cases r with
  | note _ _ => exact absurd e (show ("note" : Str) ≠ "ref" by decide +kernel)
  | skip _ _ => exact absurd e (show ("skip" : Str) ≠ "ref" by decide +kernel)
  | set _ _ => exact absurd e (show ("set" : Str) ≠ "ref" by decide +kernel)
  | keep _ => exact absurd e (show ("keep" : Str) ≠ "ref" by decide +kernel)
  | back _ => exact absurd e (show ("back" : Str) ≠ "ref" by decide +kernel)
  | ref _ => exact ⟨_, rfl⟩
  | put _ => exact absurd e (show ("put" : Str) ≠ "ref" by decide +kernel)
  | opn _ => exact absurd e (show ("open" : Str) ≠ "ref" by decide +kernel)
theorem is_put {r : RowD} (e : rowWord r = "put") : ∃ c, r = .put c := by
  cases r with
  | note _ _ => exact absurd e (show ("note" : Str) ≠ "put" by decide +kernel)
  | skip _ _ => exact absurd e (show ("skip" : Str) ≠ "put" by decide +kernel)
  | set _ _ => exact absurd e (show ("set" : Str) ≠ "put" by decide +kernel)
  | keep _ => exact absurd e (show ("keep" : Str) ≠ "put" by decide +kernel)
  | back _ => exact absurd e (show ("back" : Str) ≠ "put" by decide +kernel)
  | ref _ => exact absurd e (show ("ref" : Str) ≠ "put" by decide +kernel)
  | put _ => exact ⟨_, rfl⟩
  | opn _ => exact absurd e (show ("open" : Str) ≠ "put" by decide +kernel)
theorem is_open {r : RowD} (e : rowWord r = "open") : ∃ c, r = .opn c := by
  cases r with
  | note _ _ => exact absurd e (show ("note" : Str) ≠ "open" by decide +kernel)
  | skip _ _ => exact absurd e (show ("skip" : Str) ≠ "open" by decide +kernel)
  | set _ _ => exact absurd e (show ("set" : Str) ≠ "open" by decide +kernel)
  | keep _ => exact absurd e (show ("keep" : Str) ≠ "open" by decide +kernel)
  | back _ => exact absurd e (show ("back" : Str) ≠ "open" by decide +kernel)
  | ref _ => exact absurd e (show ("ref" : Str) ≠ "open" by decide +kernel)
  | put _ => exact absurd e (show ("put" : Str) ≠ "open" by decide +kernel)
  | opn _ => exact ⟨_, rfl⟩
theorem ifFld {R : TRows K mg} {H : Hp} {a : Addr} {r : RowD} {f v z : Str} {i : Nat} {A C : TS} {D : Ends} {σ : L2.St} (h : Attr R H a r f (.str v)) (h0 : σ[i]? = some (some (.ref a))) (hT : v = z → A { D with nx := C D } σ H) (hF : v ≠ z → C D σ H) :
    tSeq (tIfS (tTest (tOp rEq (tFld K (tVar i) f) (tC (.str z)))) A tNext) C D σ H := by
  obtain ⟨dx, fs, e1, e2, e3, e4⟩ := h
  refine ⟨_, h0, a, clsOf R r, dx, fs, .str v, rfl, e1, e2, e3, e4, rfl, _, rfl, ?_⟩
  by_cases e : v = z
  · exact iteTD (wtT e) (hT e)
  · exact iteFD (wtF e) (hF e)
theorem fld_var {R : TRows K mg} {H : Hp} {a : Addr} {r : RowD} {f : Str} {v : V} {i : Nat} {σ : L2.St} {Q : VK} (h : Attr R H a r f v) (h0 : σ[i]? = some (some (.ref a))) (q : Q v H) : tFld K (tVar i) f σ H Q := by
  obtain ⟨dx, fs, e1, e2, e3, e4⟩ := h
  exact ⟨_, h0, a, clsOf R r, dx, fs, v, rfl, e1, e2, e3, e4, q⟩
theorem at_by (T : TRows K mg) {H : Hp} {a : Addr} {c : Str} {n : Nat} (h : RowAt T H a (.skip c n)) : Attr T H a (.skip c n) "by" (.int (n : Int)) := by
  obtain ⟨dx, ha⟩ := h
  exact ⟨dx, _, ha, T.skip.cl, T.skip.noF, by rw [lookup_putF, if_pos rfl]⟩
theorem at_to (T : TRows K mg) {H : Hp} {a : Addr} {c : Str} {n : Nat} (h : RowAt T H a (.set c n)) : Attr T H a (.set c n) "to" (.int (n : Int)) := by
  obtain ⟨dx, ha⟩ := h
  exact ⟨dx, _, ha, T.set.cl, T.set.noF, by rw [lookup_putF, if_pos rfl]⟩
structure TNum1 {K : PySem.W.Frag} {mg : Str → Option Value} {R : TRows K mg} {T : TPart R} (B : TBk T) : Type where
  sn : Addr
  mSN : mg "SAME_NUMBER" = some (.ref sn)
  hSN : ∀ H, TermAt K H sn ("now", 0)
  sb : Addr
  mSB : mg "SAME_BOX" = some (.ref sb)
  hSB : ∀ H, TermAt K H sb ("box", 0)
  sy : Addr
  mSY : mg "STAY" = some (.ref sy)
  hSY : ∀ H, StepAt K H sy stayT
  going : At K mg "going_on" sGoing ["row"]
  own : At K mg "own_step" sOwn ["row"]
  step : At K mg "step_of" sStep ["row", "chain"]
  reck : At K mg "reckoned" sReck ["term", "number", "kept"]
variable {R : TRows K mg} {T : TPart R} {B : TBk T}
def spGoing (R : TRows K mg) : Sp := fun vs H Q _ => ∃ (u : Addr) (r : RowD), vs = [.ref u] ∧ RowAt R H u r ∧ Q (.int (goOn r : Int)) H
theorem scGoing : FnScope ["row"] ["row"] (defScope sGoing) := ⟨rfl, rfl, rfl, by decide +kernel, rfl, by decide +kernel, by decide +kernel⟩
theorem ok_goingOn (N : TNum1 B) : FnOk P w K mg base CX0 1 N.going.f N.going.fd ["row"] (spGoing R) := by
  refine N.going.F.ok scGoing (fun vs H Q E h => ?_) (fun cdv A outer s H vs Q E hr h => ?_)
  · obtain ⟨u, r, rfl, _⟩ := h
    rfl
  · obtain ⟨u, r, rfl, hu, q⟩ := h
    refine ⟨_, (pss_cons (ps_if (pt_cmpR op_eq (pe_fld (pv 0) rfl) pe_str (nomark _)) (pss_one (ps_ret pe_int)) pss_nil)
(pss_cons (ps_if (pt_cmpR op_eq (pe_fld (pv 0) rfl) pe_str (nomark _)) (pss_one (ps_ret (pe_fld (pv 0) rfl))) pss_nil)
(pss_one (ps_ret pe_int)))), ?_⟩
    refine ifFld (i := 0) (at_word R hu) rfl (fun e => ?_) (fun n1 => ?_)
    · obtain ⟨c, l, rfl⟩ := is_note e
      exact q
    refine ifFld (i := 0) (at_word R hu) rfl (fun e => ?_) (fun n2 => ?_)
    · obtain ⟨c, n, rfl⟩ := is_skip e
      exact fld_var (i := 0) (at_by R hu) rfl q
    · have e : goOn r = 0 := by
        cases r with
        | note c l => exact absurd rfl n1
        | skip c n => exact absurd rfl n2
        | _ => rfl
      rw [e] at q
      exact q
def spOwn (R : TRows K mg) : Sp := fun vs H Q _ => ∃ (u : Addr) (r : RowD), vs = [.ref u] ∧ RowAt R H u r ∧ ∀ t H', Same H H' → StepAt K H' t (ownT r) → Q (.ref t) H'
theorem scOwn : FnScope ["row"] ["row"] (defScope sOwn) := ⟨rfl, rfl, rfl, by decide +kernel, rfl, by decide +kernel, by decide +kernel⟩
theorem ok_ownStep (N : TNum1 B) : FnOk P w K mg base CX0 2 N.own.f N.own.fd ["row"] (spOwn R) := by
  refine N.own.F.ok scOwn (fun vs H Q E h => ?_) (fun cdv A outer s H vs Q E hr h => ?_)
  · obtain ⟨u, r, rfl, _⟩ := h
    rfl
  · obtain ⟨u, r, rfl, hu, q⟩ := h
    refine ⟨_, (pss_cons (ps_if (pt_cmpR op_eq (pe_fld (pv 0) rfl) pe_str (nomark _)) (pss_one (ps_ret (pe_tup (pa_cons (pe_tup (pa_cons pe_str (pa_cons (pe_fld (pv 0) rfl) pa_nil))) (pa_cons (pe_glob (v := .ref N.sb) (by rfl) N.mSB rfl) pa_nil))))) pss_nil)
(pss_cons (ps_if (pt_cmpR op_eq (pe_fld (pv 0) rfl) pe_str (nomark _)) (pss_one (ps_ret (pe_tup (pa_cons (pe_glob (v := .ref N.sn) (by rfl) N.mSN rfl) (pa_cons (pe_glob (v := .ref N.sn) (by rfl) N.mSN rfl) pa_nil))))) pss_nil)
(pss_cons (ps_if (pt_cmpR op_eq (pe_fld (pv 0) rfl) pe_str (nomark _)) (pss_one (ps_ret (pe_tup (pa_cons (pe_glob (v := .ref N.sb) (by rfl) N.mSB rfl) (pa_cons (pe_glob (v := .ref N.sb) (by rfl) N.mSB rfl) pa_nil))))) pss_nil)
(pss_one (ps_ret (pe_tup (pa_cons (pe_tup (pa_cons pe_str (pa_cons (pe_call (ok_goingOn N) (hr.mono (by decide)) rfl N.going.m N.going.F.kp N.going.b .nil pass0 (pa_cons (pv 0) pa_nil)) pa_nil))) (pa_cons (pe_glob (v := .ref N.sb) (by rfl) N.mSB rfl) pa_nil)))))))), ?_⟩
    have two : 2 ≤ sizeLine := by decide
    have last : ownT r = ((("now" : Str), (goOn r : Int)), (("box" : Str), (0 : Int))) → tRet (tTup (tCons (tTup (tCons (tC (.str "now")) (tCons (tCall (spGoing R) [] E0 (tCons (tVar 0) tNil)) tNil))) (tCons (tC (.ref N.sb)) tNil))) { nx := fun _ H' => Q .non H', rt := Q } (L2.start ["row"] [.ref u]) H := fun e => by
      rw [e] at q
      refine ⟨_, rfl, u, r, rfl, hu, two, fun t1 h1 => ⟨two, fun t2 h2 => ?_⟩⟩
      have s1 := Same.new (o := .tup [.str "now", .int (goOn r : Int)]) h1
      have s2 := Same.new (o := .tup [.ref t1, .ref N.sb]) h2
      exact q t2 _ (s1.trans s2) ⟨t1, N.sb, SqT.of upd_same, SqT.of (s2 _ _ upd_same), N.hSB _⟩
    refine ifFld (i := 0) (at_word R hu) rfl (fun e => ?_) (fun n1 => ?_)
    · obtain ⟨c, n, rfl⟩ := is_set e
      refine fld_var (i := 0) (at_to R hu) rfl ⟨two, fun t1 h1 => ⟨two, fun t2 h2 => ?_⟩⟩
      have s1 := Same.new (o := .tup [.str "at", .int (n : Int)]) h1
      have s2 := Same.new (o := .tup [.ref t1, .ref N.sb]) h2
      exact q t2 _ (s1.trans s2) ⟨t1, N.sb, SqT.of upd_same, SqT.of (s2 _ _ upd_same), N.hSB _⟩
    refine ifFld (i := 0) (at_word R hu) rfl (fun e => ?_) (fun n2 => ?_)
    · obtain ⟨c, rfl⟩ := is_keep e
      exact ⟨two, fun t2 h2 => q t2 _ (Same.new h2) ⟨N.sn, N.sn, SqT.of upd_same, N.hSN _, N.hSN _⟩⟩
    refine ifFld (i := 0) (at_word R hu) rfl (fun e => ?_) (fun n3 => ?_)
    · obtain ⟨c, rfl⟩ := is_back e
      exact ⟨two, fun t2 h2 => q t2 _ (Same.new h2) ⟨N.sb, N.sb, SqT.of upd_same, N.hSB _, N.hSB _⟩⟩
    refine last ?_
    cases r with
    | set c n => exact absurd rfl n1
    | keep c => exact absurd rfl n2
    | back c => exact absurd rfl n3
    | _ => rfl
/-- where a counter stands in its chain: last -/
def EndAt (ch : List Str) (z : Str) : Prop := ∃ pre, ch = pre ++ [z]
def spStep (R : TRows K mg) : Sp := fun vs H Q _ => ∃ (u k : Addr) (r : RowD) (ch : List Str) (z : Str), vs = [.ref u, .ref k] ∧ RowAt R H u r ∧ SqT K H k (ch.map V.str) ∧ EndAt ch z ∧ ∀ t H', Same H H' → StepAt K H' t (stepR r ch z) → Q (.ref t) H'
theorem scStep : FnScope ["row", "chain"] ["row", "chain"] (defScope sStep) := ⟨rfl, rfl, rfl, by decide +kernel, rfl, by decide +kernel, by decide +kernel⟩
theorem ok_stepOf (N : TNum1 B) : FnOk P w K mg base CX0 3 N.step.f N.step.fd ["row", "chain"] (spStep R) := by
  refine N.step.F.ok scStep (fun vs H Q E h => ?_) (fun cdv A outer s H vs Q E hr h => ?_)
  · obtain ⟨u, k, r, ch, z, rfl, _⟩ := h
    rfl
  · obtain ⟨u, k, r, ch, z, rfl, hu, hk, ⟨pre, hz⟩, q⟩ := h
    refine ⟨_, (pss_cons (ps_if (PW.pt (pw_or (pt_cmpR op_notIn_seq (pe_fld (pv 0) rfl) (pe_glob (v := .ref B.cw) (by rfl) B.mCW rfl) rfl) (pw_or1 (pt_cmpR op_notIn_seq (pe_fld (pv 0) rfl) (pv 1) rfl)))) (pss_one (ps_ret (pe_glob (v := .ref N.sy) (by rfl) N.mSY rfl))) pss_nil)
(pss_cons (ps_if (pt_cmpR op_eq (pe_fld (pv 0) rfl) (pe_ix ix_tup (pv 1) (pe_un un_neg pe_int) (fun _ _ => rfl)) (nomark _)) (pss_one (ps_ret (pe_call (ok_ownStep N) (hr.mono (by decide)) rfl N.own.m N.own.F.kp N.own.b .nil pass0 (pa_cons (pv 0) pa_nil)))) pss_nil)
(pss_cons (ps_if (pt_cmpR op_gt (pe_call (ok_goingOn N) (hr.mono (by decide)) rfl N.going.m N.going.F.kp N.going.b .nil pass0 (pa_cons (pv 0) pa_nil)) pe_int (nomark _)) (pss_one (ps_ret (pe_tup (pa_cons (pe_tup (pa_cons pe_str (pa_cons pe_int pa_nil))) (pa_cons (pe_glob (v := .ref N.sb) (by rfl) N.mSB rfl) pa_nil))))) pss_nil)
(pss_one (ps_ret (pe_glob (v := .ref N.sy) (by rfl) N.mSY rfl)))))), ?_⟩
    have two : 2 ≤ sizeLine := by decide
    have flatS : ∀ l : List Str, (l.map V.str).all flatV = true := fun l => by
      rw [List.all_eq_true]
      intro v hv
      obtain ⟨x, _, rfl⟩ := List.mem_map.mp hv
      rfl
    have stay : stepR r ch z = stayT → Q (.ref N.sy) H := fun e => q N.sy H (Same.refl _) (by rw [e]; exact N.hSY _)
    obtain ⟨dx, fs, e1, e2, e3, e4⟩ := at_word R hu
    refine ⟨_, rfl, u, clsOf R r, dx, fs, .str (rowWord r), rfl, e1, e2, e3, e4, B.cw, cwV, rfl, .inr (B.hCW _), rfl, rfl, _, rfl, ?_⟩
    cases hc : cntOf r with
    | none =>
      refine iteTD (by show (!inV (.str (rowWord r)) cwV) = true; rw [word_cnt, hc]; rfl) (iteT (stay ?_))
      unfold stepR
      rw [hc]
    | some c =>
      refine iteFD (by show (!inV (.str (rowWord r)) cwV) = false; rw [word_cnt, hc]; rfl) ?_
      obtain ⟨dx, fs, e1, e2, e3, e4⟩ := at_counter R hu hc
      refine ⟨_, rfl, u, clsOf R r, dx, fs, .str c, rfl, e1, e2, e3, e4, _, rfl, k, ch.map V.str, rfl, .inr hk, rfl, flatS ch, _, rfl, ?_⟩
      have ei : inV (.str c) (ch.map V.str) = decide (c ∈ ch) := inV_strs ..
      by_cases hm : c ∈ ch
      case neg =>
        refine iteTD (by show (!inV (.str c) (ch.map V.str)) = true; rw [ei, decide_eq_false hm]; rfl) (stay ?_)
        unfold stepR
        rw [hc]
        exact if_neg hm
      case pos =>
      refine iteFD (by show (!inV (.str c) (ch.map V.str)) = false; rw [ei, decide_eq_true hm]; rfl) ?_
      have hat : atI (ch.map V.str) (-1) = some (.str z) := by rw [hz, List.map_append]; exact atI_last _ _
      refine ⟨_, rfl, u, clsOf R r, dx, fs, .str c, rfl, e1, e2, e3, e4, _, rfl, _, rfl, k, _, _, .str z, rfl, rfl, hk, hat, rfl, _, rfl, ?_⟩
      have es : stepR r ch z = if c = z then ownT r else if 0 < goOn r then (((("at" : Str), (0 : Int)), (("box" : Str), (0 : Int))) : Trm × Trm) else stayT := by
        unfold stepR
        rw [hc]
        exact if_pos hm
      by_cases he : c = z
      · refine iteTD (wtT he) ?_
        rw [if_pos he] at es
        rw [es] at q
        exact ⟨_, rfl, u, r, rfl, hu, q⟩
      · refine iteFD (wtF he) ?_
        rw [if_neg he] at es
        refine ⟨_, rfl, u, r, rfl, hu, _, _, rfl, rfl, _, rfl, ?_⟩
        by_cases hg : 0 < goOn r
        · refine iteTD (by simp only [decide_eq_true_iff]; omega) ?_
          rw [if_pos hg] at es
          rw [es] at q
          refine ⟨two, fun t1 h1 => ⟨two, fun t2 h2 => ?_⟩⟩
          have s1 := Same.new (o := .tup [.str "at", .int 0]) h1
          have s2 := Same.new (o := .tup [.ref t1, .ref N.sb]) h2
          exact q t2 _ (s1.trans s2) ⟨t1, N.sb, SqT.of upd_same, SqT.of (s2 _ _ upd_same), N.hSB _⟩
        · refine iteFD (by simp only [decide_eq_false_iff_not]; omega) ?_
          rw [if_neg hg] at es
          exact stay es
def spReck (K : PySem.W.Frag) : Sp := fun vs H Q _ => ∃ (t : Addr) (m : Trm) (n k : Int), vs = [.ref t, .int n, .int k] ∧ TermAt K H t m ∧ Q (.int (reckT m n k)) H
theorem scReck : FnScope ["term", "number", "kept", "word", "more"] ["term", "number", "kept"] (defScope sReck) := ⟨rfl, rfl, rfl, by decide +kernel, rfl, by decide +kernel, by decide +kernel⟩
theorem ok_reck (N : TNum1 B) : FnOk P w K mg base CX0 1 N.reck.f N.reck.fd ["term", "number", "kept"] (spReck K) := by
  refine N.reck.F.ok scReck (fun vs H Q E h => ?_) (fun cdv A outer s H vs Q E hr h => ?_)
  · obtain ⟨t, m, n, k, rfl, _⟩ := h
    rfl
  · obtain ⟨t, m, n, k, rfl, ht, q⟩ := h
    refine ⟨_, (pss_cons (ps_asg (pv 0) (pg_tup (by rfl) (pgs_cons (pg_name (i := 3) scReck.nd rfl (Or.inl rfl)) (pgs_cons (pg_name (i := 4) scReck.nd rfl (Or.inl rfl)) pgs_nil))))
(pss_cons (ps_if (pt_cmpR op_eq (pv 3) pe_str (nomark _)) (pss_one (ps_ret (pe_op op_add (pv 1) (pv 4)))) pss_nil)
(pss_cons (ps_if (pt_cmpR op_eq (pv 3) pe_str (nomark _)) (pss_one (ps_ret (pe_op op_add (pv 2) (pv 4)))) pss_nil)
(pss_one (ps_ret (pv 4)))))), ?_⟩
    refine ⟨_, rfl, t, _, rfl, ht, rfl, _, _, rfl, _, _, rfl, rfl, ?_⟩
    try dsimp only [List.set]
    unfold reckT at q
    refine ⟨_, rfl, rfl, _, rfl, ?_⟩
    by_cases h1 : m.1 = "now"
    · rw [if_pos h1] at q
      exact iteTD (wtT h1) ⟨_, rfl, _, rfl, _, _, rfl, rfl, q⟩
    rw [if_neg h1] at q
    refine iteFD (wtF h1) ⟨_, rfl, rfl, _, rfl, ?_⟩
    by_cases h2 : m.1 = "box"
    · rw [if_pos h2] at q
      exact iteTD (wtT h2) ⟨_, rfl, _, rfl, _, _, rfl, rfl, q⟩
    rw [if_neg h2] at q
    exact iteFD (wtF h2) ⟨_, rfl, q⟩
end
end Pn

namespace Pn
open PySem PySem.Spec PyProof.Rows L2 TL
abbrev sBelow : Stmt := top 81
abbrev sDoneD : Stmt := top 82
/-! ### counters below others, chains, done: the law's own -/
structure TDP (K : PySem.W.Frag) (mg : Str → Option Value) : Type where
  below : At K mg "_law_below" sBelow ["_law_told", "_law_word"]
  done : At K mg "_law_done" sDoneD ["_law_told", "_law_numbers", "_law_boxes", "_law_row_here"]
def belowF (fo : List Str) (p : Str × Str) : List Str := if p.2 ∈ fo then fo ++ [p.1] else fo
def belowL (cs : List (Str × Str)) (w : Str) : List Str := (cs.foldl belowF [w]).tail
theorem belowF_head (cs : List (Str × Str)) : ∀ (w : Str) (fo : List Str), ∃ r, cs.foldl belowF (w :: fo) = w :: r := by
  induction cs with
  | nil => exact fun w fo => ⟨fo, rfl⟩
  | cons p cs ih =>
    intro w fo
    rw [List.foldl_cons]
    unfold belowF
    by_cases h : p.2 ∈ w :: fo
    · rw [if_pos h]
      exact ih w (fo ++ [p.1])
    · rw [if_neg h]
      exact ih w fo
theorem belowF_len (cs : List (Str × Str)) : ∀ fo : List Str, (cs.foldl belowF fo).length ≤ fo.length + cs.length := by
  induction cs with
  | nil => exact fun fo => Nat.le_refl _
  | cons p cs ih =>
    intro fo
    rw [List.foldl_cons]
    have q := ih (belowF fo p)
    have e : (belowF fo p).length ≤ fo.length + 1 := by
      unfold belowF
      split
      · rw [List.length_append]; exact Nat.le_refl _
      · omega
    rw [List.length_cons]
    omega
section
variable {P : Program} {w : World} {K : PySem.W.Frag} {mg : Str → Option Value} {base : Heap}
theorem cut_from1 (a : V) (r : List V) : cutV (a :: r) (some 1) none = r := by
  have e := cut_from (a :: r) (k := 1) (by simp)
  exact e
def spBelow (K : PySem.W.Frag) : Sp := fun vs H Q _ => ∃ (t c pl : Addr) (cs : List (Str × Str)) (z : Str), vs = [.ref t, .str z] ∧ SqT K H t [.ref c, .ref pl] ∧ CsAt H c cs ∧ cs.length ≤ 100 ∧
  ∀ (D : Addr) (H' : Hp), Same H H' → H' D = some (.lst ((belowL cs z).map V.str)) → H D = none → Q (.ref D) H'
theorem scBelow : FnScope ["_law_told", "_law_word", "_law_found", "_law_one", "_law_upper"] ["_law_told", "_law_word"] (defScope sBelow) := ⟨rfl, rfl, rfl, by decide +kernel, rfl, by decide +kernel, by decide +kernel⟩
theorem ok_below (Y : TDP K mg) : FnOk P w K mg base CX0 1 Y.below.f Y.below.fd ["_law_told", "_law_word"] (spBelow K) := by
  refine Y.below.F.ok scBelow (fun vs H Q E h => ?_) (fun cdv A outer s H vs Q E hr h => ?_)
  · obtain ⟨t, c, pl, cs, z, rfl, _⟩ := h
    rfl
  · obtain ⟨t, c, pl, cs, z, rfl, ht, ⟨ts, hc, hcd⟩, hcl, q⟩ := h
    refine ⟨_, (pss_cons (ps_set (i := 2) scBelow.nd rfl (Or.inl rfl) (pe_lst (pa_cons (pv 1) pa_nil)))
(pss_cons (ps_for PassesOwn.never rfl (pi_list (pe_ix ix_tup (pv 0) pe_int (fun _ _ => rfl))) (pg_tup (by rfl) (pgs_cons (pg_name (i := 3) scBelow.nd rfl (Or.inl rfl)) (pgs_cons (pg_name (i := 4) scBelow.nd rfl (Or.inl rfl)) pgs_nil)))
(pss_one (ps_if (pt_cmpR op_in_seq (pv 4) (pv 2) rfl) (pss_one (ps_expr (pe_bm PySem.F.plainAttrs_list PySem.F.slot_list_append PySem.F.type_list_append mt_append (pv 2) (pa_cons (pv 3) pa_nil)))) pss_nil)))
(pss_one (ps_ret (pe_slice sl_list (pv 2) (po_some pe_int) po_none))))), ?_⟩
    have big : (2000 : Nat) ≤ sizeLine := by decide
    refine ⟨_, rfl, (by show 1 ≤ sizeLine; decide), fun F hF => ?_⟩
    have s0 := Same.new (o := .lst [.str z]) hF
    have hF0 : upd H F (.lst [.str z]) F = some (.lst (([z] : List Str).map V.str)) := upd_same
    generalize upd H F (.lst [.str z]) = H0 at s0 hF0 ⊢
    have htl : ts.length = cs.length := paired_len hcd
    try dsimp only [List.set]
    refine ⟨_, rfl, t, _, _, .ref c, rfl, rfl, Same.sqt s0 ht, rfl, c, rfl, ⟨_, SqL.of (s0 _ _ hc)⟩, for_list (xs := ts.map V.ref) (fun i σ Hi => ∃ x3 x4, σ = [some (.ref t), some (.str z), some (.ref F), x3, x4] ∧ Same H Hi ∧ Hi F = some (.lst (((cs.take i).foldl belowF [z]).map V.str)))
      ⟨_, _, rfl, s0, hF0⟩ (fun i σ Hi _ hP => by obtain ⟨_, _, _, hs, _⟩ := hP; exact SqL.of (hs _ _ hc)) (fun i x σ Hi hx hP => ?turn) (fun σ Hi hP => ?fin)⟩
    case turn =>
      obtain ⟨x3, x4, rfl, si, hFi⟩ := hP
      rw [List.getElem?_map] at hx
      obtain ⟨u, hu, rfl⟩ := Option.map_eq_some_iff.mp hx
      obtain ⟨p, hp, hup⟩ := paired_at hcd hu
      have el : (cs.take (i + 1)).foldl belowF [z] = belowF ((cs.take i).foldl belowF [z]) p := by
        rw [List.take_add_one, hp, List.foldl_append]
        rfl
      have ll : ((cs.take i).foldl belowF [z]).length ≤ 101 := by
        have q1 := belowF_len (cs.take i) [z]
        rw [List.length_take, List.length_singleton] at q1
        omega
      rw [el]
      generalize (cs.take i).foldl belowF [z] = fo at hFi ll ⊢
      have flatS : (fo.map V.str).all flatV = true := by
        rw [List.all_eq_true]
        intro v hv
        obtain ⟨x, _, rfl⟩ := List.mem_map.mp hv
        rfl
      refine ⟨u, _, rfl, SqT.of (si _ _ hup), rfl, _, _, rfl, _, _, rfl, rfl, ?_⟩
      try dsimp only [List.set]
      refine ⟨_, rfl, _, rfl, F, _, rfl, .inl (SqL.of hFi), rfl, flatS, _, rfl, ?_⟩
      by_cases h : p.2 ∈ fo
      · refine iteTD (by show inV (.str p.2) (fo.map V.str) = true; rw [inV_strs]; exact decide_eq_true h) ?_
        refine ⟨_, rfl, .inl ⟨rfl, _, SqL.of hFi⟩, _, rfl, F, _, _, rfl, rfl, hFi, by rw [List.length_map]; omega, _, _, rfl, Same.updn si hF, ?_⟩
        rw [upd_same]
        unfold belowF
        rw [if_pos h, List.map_append]
        rfl
      · refine iteFD (by show inV (.str p.2) (fo.map V.str) = false; rw [inV_strs]; exact decide_eq_false h) ?_
        refine ⟨_, _, rfl, si, ?_⟩
        unfold belowF
        rw [if_neg h]
        exact hFi
    case fin =>
      obtain ⟨x3, x4, rfl, si, hFi⟩ := hP
      rw [List.length_map, htl, List.take_length] at hFi
      have q1 := belowF_len cs [z]
      obtain ⟨r, hr2⟩ := belowF_head cs z []
      refine ⟨_, rfl, 1, rfl, F, _, rfl, SqL.of hFi, fun D hD => q D _ (si.trans (Same.new hD)) ?_ (si.free hD)⟩
      rw [upd_same]
      unfold belowL
      rw [hr2, List.map_cons, cut_from1]
      rfl
end
end Pn

namespace Pn
open PySem PySem.Spec PyProof.Rows L2 TL
/-! ### what a row does with the law's own numbers and boxes -/
def dictF (zs : List Str) (f : Str → Int) : List (Key × V) := zs.map fun z => (Sum.inr z, V.int (f z))
theorem dictF_get {zs : List Str} {f : Str → Int} {z : Str} (h : z ∈ zs) : valV (dictF zs f) (Sum.inr z : Key) = some (.int (f z)) := by
  unfold valV dictF
  induction zs with
  | nil => cases h
  | cons y zs ih =>
    rw [List.map_cons, List.find?_cons]
    by_cases e : y = z
    · rw [show decide (((Sum.inr y : Key), V.int (f y)).1 = Sum.inr z) = true from decide_eq_true (by rw [e])]
      rw [e]
      rfl
    · rw [show decide (((Sum.inr y : Key), V.int (f y)).1 = Sum.inr z) = false from decide_eq_false fun q => e (by injection q)]
      exact ih ((List.mem_cons.mp h).resolve_left fun q => e q.symm)
theorem dictF_put {zs : List Str} {f : Str → Int} {z : Str} {v : Int} (h : z ∈ zs) : putK (dictF zs f) (Sum.inr z : Key) (.int v) = dictF zs (fun y => if y = z then v else f y) := by
  unfold putK dictF
  have ha : ((zs.map fun z => ((Sum.inr z : Key), V.int (f z))).any fun kv => decide (kv.1 = Sum.inr z)) = true := by
    rw [List.any_eq_true]
    exact ⟨(Sum.inr z, .int (f z)), List.mem_map.mpr ⟨z, h, rfl⟩, decide_eq_true rfl⟩
  rw [if_pos ha, List.map_map]
  refine List.map_congr_left fun y _ => ?_
  show (if (Sum.inr y : Key) = Sum.inr z then ((Sum.inr y : Key), V.int v) else (Sum.inr y, .int (f y))) = _
  by_cases e : y = z
  · rw [if_pos (by rw [e])]
    show _ = ((Sum.inr y : Key), V.int (if y = z then v else f y))
    rw [if_pos e]
  · rw [if_neg (fun q => e (by injection q))]
    show _ = ((Sum.inr y : Key), V.int (if y = z then v else f y))
    rw [if_neg e]
theorem dictF_congr {zs : List Str} {f g : Str → Int} (h : ∀ z ∈ zs, f z = g z) : dictF zs f = dictF zs g := List.map_congr_left fun z hz => by rw [h z hz]
def doneFN (cs : List (Str × Str)) (r : RowD) (f g : Str → Int) : Str → Int := match r with
  | .note w _ => fun z => if z ∈ belowL cs w then 0 else if z = w then f w + 1 else f z
  | .skip w n => fun z => if z ∈ belowL cs w then 0 else if z = w then f w + n else f z
  | .set w n => fun z => if z = w then (n : Int) else f z
  | .back w => fun z => if z = w then g w else f z
  | _ => f
def doneFB (r : RowD) (f g : Str → Int) : Str → Int := match r with
  | .keep w => fun z => if z = w then f w else g z
  | _ => g
theorem belowF_sub (cs : List (Str × Str)) (w : Str) : ∀ (cs2 : List (Str × Str)) (fo : List Str), (∀ p ∈ cs2, p ∈ cs) → (∀ z ∈ fo, z = w ∨ z ∈ cs.map (·.1)) → ∀ z ∈ cs2.foldl belowF fo, z = w ∨ z ∈ cs.map (·.1) := by
  intro cs2
  induction cs2 with
  | nil => exact fun fo _ h => h
  | cons p cs2 ih =>
    intro fo hp h
    rw [List.foldl_cons]
    refine ih _ (fun p' h' => hp p' (List.mem_cons_of_mem _ h')) fun z hz => ?_
    unfold belowF at hz
    split at hz
    · rcases List.mem_append.mp hz with hz | hz
      · exact h z hz
      · rw [List.mem_singleton.mp hz]
        exact .inr (List.mem_map.mpr ⟨p, hp p List.mem_cons_self, rfl⟩)
    · exact h z hz
theorem belowL_sub {cs : List (Str × Str)} {w : Str} (hw : w ∈ cs.map (·.1)) : ∀ z ∈ belowL cs w, z ∈ cs.map (·.1) := fun z hz => by
  rcases belowF_sub cs w cs [w] (fun _ h => h) (fun z hz => .inl (List.mem_singleton.mp hz)) z (List.mem_of_mem_tail hz) with rfl | h
  · exact hw
  · exact h
theorem zz_putb {H : Hp} {b p : Addr} {o : HO} : Same (zz H b p) (zz (upd H b o) b p) := fun a u e => by
  have n1 := hid_ne e
  have e := hid_sub _ _ e
  have n2 := hid_ne e
  have e := hid_sub _ _ e
  exact zz_get (by rw [upd_ne n2]; exact e) n2 n1
theorem zz_back {H : Hp} {b p a : Addr} {o : HO} (h : zz H b p a = some o) : H a = some o ∧ a ≠ b ∧ a ≠ p := ⟨zz_sub _ _ h, hid_ne (hid_sub _ _ h), hid_ne h⟩
section
variable {P : Program} {w : World} {K : PySem.W.Frag} {mg : Str → Option Value} {base : Heap}
def spDoneD (K : PySem.W.Frag) : Sp := fun vs H Q _ => ∃ (t c pl np bp u : Addr) (cs : List (Str × Str)) (r : RowD) (w : Str) (f g : Str → Int), vs = [.ref t, .ref np, .ref bp, .ref u] ∧ SqT K (zz H np bp) t [.ref c, .ref pl] ∧ CsAt (zz H np bp) c cs ∧ cs.length ≤ 100 ∧ SqT K (zz H np bp) u (rowTup r) ∧ cntOf r = some w ∧ w ∈ cs.map (·.1) ∧
  np ≠ bp ∧ H np = some (.dK (dictF (cs.map (·.1)) f)) ∧ H bp = some (.dK (dictF (cs.map (·.1)) g)) ∧
  ∀ H', Same (zz H np bp) (zz H' np bp) → Mo H H' → H' np = some (.dK (dictF (cs.map (·.1)) (doneFN cs r f g))) → H' bp = some (.dK (dictF (cs.map (·.1)) (doneFB r f g))) → Q .non H'
theorem scDoneD : FnScope ["_law_told", "_law_numbers", "_law_boxes", "_law_row_here", "_law_word", "_law_one"] ["_law_told", "_law_numbers", "_law_boxes", "_law_row_here"] (defScope sDoneD) := ⟨rfl, rfl, rfl, by decide +kernel, rfl, by decide +kernel, by decide +kernel⟩
theorem ok_doneD (Y : TDP K mg) : FnOk P w K mg base CX0 2 Y.done.f Y.done.fd ["_law_told", "_law_numbers", "_law_boxes", "_law_row_here"] (spDoneD K) := by
  refine Y.done.F.ok scDoneD (fun vs H Q E h => ?_) (fun cdv A outer s H vs Q E hr h => ?_)
  · obtain ⟨t, c, pl, np, bp, u, cs, r, w, f, g, rfl, _⟩ := h
    rfl
  · obtain ⟨t, c, pl, np, bp, u, cs, r, w, f, g, rfl, ht, hc, hcl, hu, hw, hwc, nb, hn, hb, q⟩ := h
    refine ⟨_, (pss_cons (ps_set (i := 4) scDoneD.nd rfl (Or.inl rfl) (pe_ix ix_tup (pv 3) pe_int (fun _ _ => rfl)))
(pss_one (ps_if (pt_cmpR op_in_seq (pe_ix ix_tup (pv 3) pe_int (fun _ _ => rfl)) (pe_tup (pa_cons pe_str (pa_cons pe_str pa_nil))) rfl) (pss_cons (ps_dput (roomU hr) (pv 1) (pv 4) (pe_op op_add (pe_dget (roomU hr) (pv 1) (pv 4) (fun _ _ => rfl)) (pe_ifExp (pt_cmpR op_eq (pe_ix ix_tup (pv 3) pe_int (fun _ _ => rfl)) pe_str (nomark _)) (pe_ix ix_tup (pv 3) pe_int (fun _ _ => rfl)) pe_int)) (by rfl))
(pss_one (ps_for PassesOwn.never rfl (pi_list (pe_call (ok_below Y) (hr.mono (by decide)) rfl Y.below.m Y.below.F.kp Y.below.b .nil pass0 (pa_cons (pv 0) (pa_cons (pv 4) pa_nil)))) (pg_name (i := 5) scDoneD.nd rfl (Or.inl rfl))
(pss_one (ps_dput (roomU hr) (pv 1) (pv 5) pe_int (by rfl)))))) (pss_one (ps_if (pt_cmpR op_eq (pe_ix ix_tup (pv 3) pe_int (fun _ _ => rfl)) pe_str (nomark _)) (pss_one (ps_dput (roomU hr) (pv 1) (pv 4) (pe_ix ix_tup (pv 3) pe_int (fun _ _ => rfl)) (by rfl))) (pss_one (ps_if (pt_cmpR op_eq (pe_ix ix_tup (pv 3) pe_int (fun _ _ => rfl)) pe_str (nomark _)) (pss_one (ps_dput (roomU hr) (pv 2) (pv 4) (pe_dget (roomU hr) (pv 1) (pv 4) (fun _ _ => rfl)) (by rfl))) (pss_one (ps_dput (roomU hr) (pv 1) (pv 4) (pe_dget (roomU hr) (pv 2) (pv 4) (fun _ _ => rfl)) (by rfl)))))))))), ?_⟩
    have big : (2000 : Nat) ≤ sizeLine := by decide
    have two : 2 ≤ sizeLine := by decide
    have dl : ∀ f : Str → Int, (dictF (cs.map (·.1)) f).length < sizeLine := fun f => by
      unfold dictF
      rw [List.length_map, List.length_map]
      omega
    have hu0 := Same.sqt zz_sub hu
    have h1 : atI (rowTup r) 1 = some (.str w) := by cases r <;> cases hw <;> exact atI_nat (j := 1) rfl
    refine ⟨_, rfl, u, _, _, .str w, rfl, rfl, hu0, h1, ?_⟩
    try dsimp only [List.set]
    cases r with
    | note w l =>
      cases hw
      refine ⟨_, rfl, u, _, _, _, rfl, rfl, hu0, atI_nat (j := 0) rfl, two, fun t1 ht1 => ?_⟩
      refine ⟨t1, _, rfl, .inr (SqT.of upd_same), rfl, rfl, _, rfl, iteTD (by decide +kernel) ?_⟩
      have s1 := Same.new (o := .tup [.str "note", .str "skip"]) ht1
      generalize upd H t1 (.tup [.str "note", .str "skip"]) = H1 at s1 ⊢
      have hn1 := s1 _ _ hn
      have hb1 := s1 _ _ hb
      have hu1 := Same.sqt s1 hu0
      refine ⟨_, rfl, _, rfl, np, _, rfl, (by have g' := DGet.k (k := Sum.inr w) hn1; rw [dictF_get hwc] at g'; exact g'), ?_⟩
      refine ⟨_, rfl, u, _, _, _, rfl, rfl, hu1, atI_nat (j := 0) rfl, rfl, _, rfl, iteFD (by decide +kernel) ?_⟩
      refine ⟨_, _, rfl, rfl, _, rfl, _, rfl, np, _, rfl, DPut.k (k := Sum.inr w) hn1 (dl f), ?_⟩
      rw [dictF_put hwc]
      have s2 : Same (zz H np bp) (zz (upd H1 np (.dK (dictF (cs.map (·.1)) fun y => if y = w then f w + 1 else f y))) np bp) := (zz_same s1).trans zz_putb
      have m2 : Mo H (upd H1 np (.dK (dictF (cs.map (·.1)) fun y => if y = w then f w + 1 else f y))) := (Same.mo s1).trans Mo.upd
      have hn2 : (upd H1 np (.dK (dictF (cs.map (·.1)) fun y => if y = w then f w + 1 else f y))) np = some (.dK (dictF (cs.map (·.1)) fun y => if y = w then f w + 1 else f y)) := upd_same
      have hb2 : (upd H1 np (.dK (dictF (cs.map (·.1)) fun y => if y = w then f w + 1 else f y))) bp = some (.dK (dictF (cs.map (·.1)) g)) := by rw [upd_ne nb.symm]; exact hb1
      generalize upd H1 np (.dK (dictF (cs.map (·.1)) fun y => if y = w then f w + 1 else f y)) = H2 at s2 m2 hn2 hb2 ⊢
      have hc2 : CsAt H2 c cs := by
        obtain ⟨ts, h1, h2⟩ := hc
        exact ⟨ts, zz_sub _ _ (s2 _ _ h1), paired_mono (fun _ _ e => zz_sub _ _ (s2 _ _ e)) h2⟩
      refine ⟨_, rfl, _, rfl, t, c, pl, cs, w, rfl, Same.sqt zz_sub (Same.sqt s2 ht), hc2, hcl, fun D H3 s3 hD hDn => ?_⟩
      have nD : D ≠ np := fun e => by rw [e, hn2] at hDn; cases hDn
      have nD2 : D ≠ bp := fun e => by rw [e, hb2] at hDn; cases hDn
      have hDz : zz H3 np bp D = some (.lst ((belowL cs w).map V.str)) := zz_get hD nD nD2
      refine ⟨D, rfl, ⟨_, SqL.of hD⟩, for_list (xs := (belowL cs w).map V.str) (fun i σ Hi => ∃ x5, σ = [some (.ref t), some (.ref np), some (.ref bp), some (.ref u), some (.str w), x5] ∧ Same (zz H3 np bp) (zz Hi np bp) ∧ Mo H Hi ∧ Hi np = some (.dK (dictF (cs.map (·.1)) fun y => if y ∈ (belowL cs w).take i then 0 else if y = w then f w + 1 else f y)) ∧ Hi bp = some (.dK (dictF (cs.map (·.1)) g)))
        ⟨_, rfl, Same.refl _, m2.trans (Same.mo s3), by rw [s3 _ _ hn2]; congr 2, s3 _ _ hb2⟩ (fun i σ Hi _ hP => by obtain ⟨_, _, hs, _⟩ := hP; exact SqL.of (zz_sub _ _ (hs _ _ hDz))) (fun i x σ Hi hx hP => ?turnnote) (fun σ Hi hP => ?finnote)⟩
      case finnote =>
        obtain ⟨x5, rfl, si, mi, hni, hbi⟩ := hP
        rw [List.length_map, List.take_length] at hni
        exact q Hi ((s2.trans (zz_same s3)).trans si) mi hni hbi
      case turnnote =>
        obtain ⟨x5, rfl, si, mi, hni, hbi⟩ := hP
        rw [List.getElem?_map] at hx
        obtain ⟨y, hy, rfl⟩ := Option.map_eq_some_iff.mp hx
        have hyc := belowL_sub hwc y (List.mem_of_getElem? hy)
        try dsimp only [List.set]
        refine ⟨_, rfl, _, rfl, np, _, rfl, DPut.k (k := Sum.inr y) hni (dl _), ?_⟩
        rw [dictF_put hyc]
        refine ⟨_, rfl, si.trans zz_putb, mi.trans Mo.upd, ?_, by rw [upd_ne nb.symm]; exact hbi⟩
        rw [upd_same]
        congr 2
        refine dictF_congr fun x _ => ?_
        rw [List.take_add_one, hy]
        by_cases e : x = y
        · rw [if_pos e, if_pos (by rw [e]; simp)]
        · rw [if_neg e]
          by_cases hx : x ∈ (belowL cs w).take i
          · rw [if_pos hx, if_pos (List.mem_append_left _ hx)]
          · rw [if_neg hx, if_neg (show ¬ x ∈ (belowL cs w).take i ++ (some y).toList from fun h => by rcases List.mem_append.mp h with h | h; exact hx h; exact e (by simpa using h))]
    | skip w n =>
      cases hw
      refine ⟨_, rfl, u, _, _, _, rfl, rfl, hu0, atI_nat (j := 0) rfl, two, fun t1 ht1 => ?_⟩
      refine ⟨t1, _, rfl, .inr (SqT.of upd_same), rfl, rfl, _, rfl, iteTD (by decide +kernel) ?_⟩
      have s1 := Same.new (o := .tup [.str "note", .str "skip"]) ht1
      generalize upd H t1 (.tup [.str "note", .str "skip"]) = H1 at s1 ⊢
      have hn1 := s1 _ _ hn
      have hb1 := s1 _ _ hb
      have hu1 := Same.sqt s1 hu0
      refine ⟨_, rfl, _, rfl, np, _, rfl, (by have g' := DGet.k (k := Sum.inr w) hn1; rw [dictF_get hwc] at g'; exact g'), ?_⟩
      refine ⟨_, rfl, u, _, _, _, rfl, rfl, hu1, atI_nat (j := 0) rfl, rfl, _, rfl, iteTD (by decide +kernel) ?_⟩
      refine ⟨_, rfl, u, _, _, .int (n : Int), rfl, rfl, hu1, atI_nat (j := 2) rfl, _, _, rfl, rfl, _, rfl, _, rfl, np, _, rfl, DPut.k (k := Sum.inr w) hn1 (dl f), ?_⟩
      rw [dictF_put hwc]
      have s2 : Same (zz H np bp) (zz (upd H1 np (.dK (dictF (cs.map (·.1)) fun y => if y = w then f w + n else f y))) np bp) := (zz_same s1).trans zz_putb
      have m2 : Mo H (upd H1 np (.dK (dictF (cs.map (·.1)) fun y => if y = w then f w + n else f y))) := (Same.mo s1).trans Mo.upd
      have hn2 : (upd H1 np (.dK (dictF (cs.map (·.1)) fun y => if y = w then f w + n else f y))) np = some (.dK (dictF (cs.map (·.1)) fun y => if y = w then f w + n else f y)) := upd_same
      have hb2 : (upd H1 np (.dK (dictF (cs.map (·.1)) fun y => if y = w then f w + n else f y))) bp = some (.dK (dictF (cs.map (·.1)) g)) := by rw [upd_ne nb.symm]; exact hb1
      generalize upd H1 np (.dK (dictF (cs.map (·.1)) fun y => if y = w then f w + n else f y)) = H2 at s2 m2 hn2 hb2 ⊢
      have hc2 : CsAt H2 c cs := by
        obtain ⟨ts, h1, h2⟩ := hc
        exact ⟨ts, zz_sub _ _ (s2 _ _ h1), paired_mono (fun _ _ e => zz_sub _ _ (s2 _ _ e)) h2⟩
      refine ⟨_, rfl, _, rfl, t, c, pl, cs, w, rfl, Same.sqt zz_sub (Same.sqt s2 ht), hc2, hcl, fun D H3 s3 hD hDn => ?_⟩
      have nD : D ≠ np := fun e => by rw [e, hn2] at hDn; cases hDn
      have nD2 : D ≠ bp := fun e => by rw [e, hb2] at hDn; cases hDn
      have hDz : zz H3 np bp D = some (.lst ((belowL cs w).map V.str)) := zz_get hD nD nD2
      refine ⟨D, rfl, ⟨_, SqL.of hD⟩, for_list (xs := (belowL cs w).map V.str) (fun i σ Hi => ∃ x5, σ = [some (.ref t), some (.ref np), some (.ref bp), some (.ref u), some (.str w), x5] ∧ Same (zz H3 np bp) (zz Hi np bp) ∧ Mo H Hi ∧ Hi np = some (.dK (dictF (cs.map (·.1)) fun y => if y ∈ (belowL cs w).take i then 0 else if y = w then f w + n else f y)) ∧ Hi bp = some (.dK (dictF (cs.map (·.1)) g)))
        ⟨_, rfl, Same.refl _, m2.trans (Same.mo s3), by rw [s3 _ _ hn2]; congr 2, s3 _ _ hb2⟩ (fun i σ Hi _ hP => by obtain ⟨_, _, hs, _⟩ := hP; exact SqL.of (zz_sub _ _ (hs _ _ hDz))) (fun i x σ Hi hx hP => ?turnskip) (fun σ Hi hP => ?finskip)⟩
      case finskip =>
        obtain ⟨x5, rfl, si, mi, hni, hbi⟩ := hP
        rw [List.length_map, List.take_length] at hni
        exact q Hi ((s2.trans (zz_same s3)).trans si) mi hni hbi
      case turnskip =>
        obtain ⟨x5, rfl, si, mi, hni, hbi⟩ := hP
        rw [List.getElem?_map] at hx
        obtain ⟨y, hy, rfl⟩ := Option.map_eq_some_iff.mp hx
        have hyc := belowL_sub hwc y (List.mem_of_getElem? hy)
        try dsimp only [List.set]
        refine ⟨_, rfl, _, rfl, np, _, rfl, DPut.k (k := Sum.inr y) hni (dl _), ?_⟩
        rw [dictF_put hyc]
        refine ⟨_, rfl, si.trans zz_putb, mi.trans Mo.upd, ?_, by rw [upd_ne nb.symm]; exact hbi⟩
        rw [upd_same]
        congr 2
        refine dictF_congr fun x _ => ?_
        rw [List.take_add_one, hy]
        by_cases e : x = y
        · rw [if_pos e, if_pos (by rw [e]; simp)]
        · rw [if_neg e]
          by_cases hx : x ∈ (belowL cs w).take i
          · rw [if_pos hx, if_pos (List.mem_append_left _ hx)]
          · rw [if_neg hx, if_neg (show ¬ x ∈ (belowL cs w).take i ++ (some y).toList from fun h => by rcases List.mem_append.mp h with h | h; exact hx h; exact e (by simpa using h))]
    | set w n =>
      cases hw
      refine ⟨_, rfl, u, _, _, _, rfl, rfl, hu0, atI_nat (j := 0) rfl, two, fun t1 ht1 => ?_⟩
      refine ⟨t1, _, rfl, .inr (SqT.of upd_same), rfl, rfl, _, rfl, iteFD (by decide +kernel) ?_⟩
      have s1 := Same.new (o := .tup [.str "note", .str "skip"]) ht1
      generalize upd H t1 (.tup [.str "note", .str "skip"]) = H1 at s1 ⊢
      have hn1 := s1 _ _ hn
      have hb1 := s1 _ _ hb
      have hu1 := Same.sqt s1 hu0
      refine ⟨_, rfl, u, _, _, _, rfl, rfl, hu1, atI_nat (j := 0) rfl, rfl, _, rfl, iteTD (by decide +kernel) ?_⟩
      refine ⟨_, rfl, u, _, _, .int (n : Int), rfl, rfl, hu1, atI_nat (j := 2) rfl, _, rfl, _, rfl, np, _, rfl, DPut.k (k := Sum.inr w) hn1 (dl f), ?_⟩
      rw [dictF_put hwc]
      exact q _ ((zz_same s1).trans zz_putb) ((Same.mo s1).trans Mo.upd) upd_same (by rw [upd_ne nb.symm]; exact hb1)
    | keep w =>
      cases hw
      refine ⟨_, rfl, u, _, _, _, rfl, rfl, hu0, atI_nat (j := 0) rfl, two, fun t1 ht1 => ?_⟩
      refine ⟨t1, _, rfl, .inr (SqT.of upd_same), rfl, rfl, _, rfl, iteFD (by decide +kernel) ?_⟩
      have s1 := Same.new (o := .tup [.str "note", .str "skip"]) ht1
      generalize upd H t1 (.tup [.str "note", .str "skip"]) = H1 at s1 ⊢
      have hn1 := s1 _ _ hn
      have hb1 := s1 _ _ hb
      have hu1 := Same.sqt s1 hu0
      refine ⟨_, rfl, u, _, _, _, rfl, rfl, hu1, atI_nat (j := 0) rfl, rfl, _, rfl, iteFD (by decide +kernel) ?_⟩
      refine ⟨_, rfl, u, _, _, _, rfl, rfl, hu1, atI_nat (j := 0) rfl, rfl, _, rfl, iteTD (by decide +kernel) ?_⟩
      refine ⟨_, rfl, _, rfl, np, _, rfl, (by have g' := DGet.k (k := Sum.inr w) hn1; rw [dictF_get hwc] at g'; exact g'), ?_⟩
      refine ⟨_, rfl, _, rfl, bp, _, rfl, DPut.k (k := Sum.inr w) hb1 (dl g), ?_⟩
      rw [dictF_put hwc]
      exact q _ ((zz_same s1).trans zz_put) ((Same.mo s1).trans Mo.upd) (by rw [upd_ne nb]; exact hn1) upd_same
    | back w =>
      cases hw
      refine ⟨_, rfl, u, _, _, _, rfl, rfl, hu0, atI_nat (j := 0) rfl, two, fun t1 ht1 => ?_⟩
      refine ⟨t1, _, rfl, .inr (SqT.of upd_same), rfl, rfl, _, rfl, iteFD (by decide +kernel) ?_⟩
      have s1 := Same.new (o := .tup [.str "note", .str "skip"]) ht1
      generalize upd H t1 (.tup [.str "note", .str "skip"]) = H1 at s1 ⊢
      have hn1 := s1 _ _ hn
      have hb1 := s1 _ _ hb
      have hu1 := Same.sqt s1 hu0
      refine ⟨_, rfl, u, _, _, _, rfl, rfl, hu1, atI_nat (j := 0) rfl, rfl, _, rfl, iteFD (by decide +kernel) ?_⟩
      refine ⟨_, rfl, u, _, _, _, rfl, rfl, hu1, atI_nat (j := 0) rfl, rfl, _, rfl, iteFD (by decide +kernel) ?_⟩
      refine ⟨_, rfl, _, rfl, bp, _, rfl, (by have g' := DGet.k (k := Sum.inr w) hb1; rw [dictF_get hwc] at g'; exact g'), ?_⟩
      refine ⟨_, rfl, _, rfl, np, _, rfl, DPut.k (k := Sum.inr w) hn1 (dl f), ?_⟩
      rw [dictF_put hwc]
      exact q _ ((zz_same s1).trans zz_putb) ((Same.mo s1).trans Mo.upd) upd_same (by rw [upd_ne nb.symm]; exact hb1)
    | ref c => cases hw
    | put c => cases hw
    | opn c => cases hw
end
end Pn

namespace Pn
open PySem PySem.Spec PyProof.Rows L2 TL
/-! ### what stands below a counter, by its climb -/
theorem upper_one {cs : List (Str × Str)} (nd : (cs.map (·.1)).Nodup) {z u v : Str} (h1 : (z, u) ∈ cs) (h2 : (z, v) ∈ cs) : u = v := by
  induction cs with
  | nil => cases h1
  | cons p cs ih =>
    rw [List.map_cons, List.nodup_cons] at nd
    rcases List.mem_cons.mp h1 with h1 | h1
    · rcases List.mem_cons.mp h2 with h2 | h2
      · rw [← h1] at h2
        injection h2 with _ h2
        exact h2.symm
      · exact absurd (List.mem_map.mpr ⟨(z, v), h2, by rw [← h1]⟩) nd.1
    · rcases List.mem_cons.mp h2 with h2 | h2
      · exact absurd (List.mem_map.mpr ⟨(z, u), h1, by rw [← h2]⟩) nd.1
      · exact ih nd.2 h1 h2
theorem idx_one {cs : List (Str × Str)} (nd : (cs.map (·.1)).Nodup) {i j : Nat} {p q : Str × Str} (hi : cs[i]? = some p) (hj : cs[j]? = some q) (e : p.1 = q.1) : i = j := by
  have a : (cs.map (·.1))[i]? = some p.1 := by rw [List.getElem?_map, hi]; rfl
  have b : (cs.map (·.1))[j]? = some p.1 := by rw [List.getElem?_map, hj, e]; rfl
  obtain ⟨ha, ea⟩ := List.getElem?_eq_some_iff.mp a
  obtain ⟨hb, eb⟩ := List.getElem?_eq_some_iff.mp b
  exact (List.getElem_inj nd).mp (ea.trans eb.symm)
theorem no_loop {cs : List (Str × Str)} (nd : (cs.map (·.1)).Nodup) (tree : TreeOk cs) {z : Str} {l : List Str} (h : Climb cs z l) : ∀ (i : Nat) (p : Str × Str), cs[i]? = some p → p.1 = z → ∀ y ∈ l.tail, y ∈ (cs.take i).map (·.1) := by
  induction h with
  | top _ => intro i p _ _ y hy; cases hy
  | @up z u l hm hne hc ih =>
    intro i p hp e y hy
    have hpm : (z, p.2) ∈ cs := by rw [← e]; exact List.mem_of_getElem? hp
    have hu : p.2 = u := upper_one nd hpm hm
    have ht := (tree i p hp).resolve_left (by rw [hu]; exact hne)
    rw [hu] at ht
    obtain ⟨q, hq, eq⟩ := List.mem_map.mp ht
    obtain ⟨j, hj⟩ := List.getElem?_of_mem hq
    have hji : j < i := by
      have := (List.getElem?_eq_some_iff.mp hj).1
      rw [List.length_take] at this
      omega
    rw [List.getElem?_take_of_lt hji] at hj
    obtain ⟨r, hr⟩ := hc.head
    have hy : y ∈ l := hy
    rw [hr] at hy
    rcases List.mem_cons.mp hy with rfl | hy
    · exact ht
    · have q2 := ih j q hj eq y (by rw [hr]; exact hy)
      obtain ⟨x, hx, ex⟩ := List.mem_map.mp q2
      refine List.mem_map.mpr ⟨x, ?_, ex⟩
      have : cs.take j = (cs.take i).take j := by rw [List.take_take, Nat.min_eq_left (by omega)]
      rw [this] at hx
      exact List.mem_of_mem_take hx
/-- one stands under another -/
def Under (cs : List (Str × Str)) (w z : Str) : Prop := ∃ l, Climb cs z l ∧ w ∈ l.tail
theorem under_self {cs : List (Str × Str)} (nd : (cs.map (·.1)).Nodup) (tree : TreeOk cs) {w : Str} (hw : w ∈ cs.map (·.1)) : ¬ Under cs w w := fun ⟨l, hc, hm⟩ => by
  obtain ⟨p, hp, e⟩ := List.mem_map.mp hw
  obtain ⟨i, hi⟩ := List.getElem?_of_mem hp
  have q := no_loop nd tree hc i p hi e w hm
  obtain ⟨x, hx, ex⟩ := List.mem_map.mp q
  obtain ⟨j, hj⟩ := List.getElem?_of_mem hx
  have hji : j < i := by
    have := (List.getElem?_eq_some_iff.mp hj).1
    rw [List.length_take] at this
    omega
  rw [List.getElem?_take_of_lt hji] at hj
  have := idx_one nd hj hi (ex.trans e.symm)
  omega
theorem below_iff {cs : List (Str × Str)} (ok : CsOk cs) (hex : ∀ z ∈ cs.map (·.1), ∃ l, Climb cs z l) {w : Str} (hw : w ∈ cs.map (·.1)) : ∀ z, z ∈ belowL cs w ↔ Under cs w z := by
  have key : ∀ i, i ≤ cs.length → ∃ r, (cs.take i).foldl belowF [w] = w :: r ∧ ∀ z, z ∈ r ↔ (z ∈ (cs.take i).map (·.1) ∧ Under cs w z) := by
    intro i
    induction i with
    | zero => exact fun _ => ⟨[], rfl, fun z => ⟨fun h => (nomatch h), fun h => (nomatch h.1)⟩⟩
    | succ i ih =>
      intro hi
      obtain ⟨r, hr, hz⟩ := ih (by omega)
      have hp : cs[i]? = some cs[i] := List.getElem?_eq_getElem hi
      have hpm : (cs[i].1, cs[i].2) ∈ cs := List.getElem_mem hi
      have wne : w ≠ "" := fun e => by
        obtain ⟨c, hc, e2⟩ := List.mem_map.mp hw
        have n := ok.nm c hc
        rw [e2, e] at n
        exact absurd n (by decide +kernel)
      have und : Under cs w cs[i].1 ↔ cs[i].2 ∈ w :: r := by
        constructor
        · rintro ⟨l, hc, hm⟩
          cases hc with
          | top _ => cases hm
          | up hm2 hne hc2 =>
            have e := upper_one ok.nd hpm hm2
            obtain ⟨r2, hr2⟩ := hc2.head
            have hm : w ∈ _ := hm
            rw [hr2] at hm
            rw [e]
            rcases List.mem_cons.mp hm with hm | hm
            · rw [hm]; exact List.mem_cons_self
            · refine List.mem_cons_of_mem _ ((hz _).mpr ⟨?_, _, hc2, by rw [hr2]; exact hm⟩)
              have t := (ok.up i _ hp).resolve_left (by rw [e]; exact hne)
              rw [e] at t
              exact t
        · intro h
          have hne : cs[i].2 ≠ "" := fun e => by
            rw [e] at h
            rcases List.mem_cons.mp h with h | h
            · exact wne h.symm
            · obtain ⟨x, hx, ex⟩ := List.mem_map.mp ((hz _).mp h).1
              have n := ok.nm x (List.mem_of_mem_take hx)
              rw [ex] at n
              exact absurd n (by decide +kernel)
          rcases List.mem_cons.mp h with h | h
          · obtain ⟨l, hl⟩ := hex w hw
            obtain ⟨r2, hr2⟩ := hl.head
            exact ⟨_, .up hpm hne (by rw [h]; exact hl), by show w ∈ l; rw [hr2]; exact List.mem_cons_self⟩
          · obtain ⟨l, hl, hm⟩ := ((hz _).mp h).2
            exact ⟨_, .up hpm hne hl, by show w ∈ l; exact List.mem_of_mem_tail hm⟩
      have et : (cs.take (i + 1)).foldl belowF [w] = belowF (w :: r) cs[i] := by
        rw [List.take_add_one, hp, List.foldl_append, hr]
        rfl
      have en : (cs.take (i + 1)).map (·.1) = (cs.take i).map (·.1) ++ [cs[i].1] := by
        rw [List.take_add_one, hp, List.map_append]
        rfl
      rw [et, en]
      unfold belowF
      by_cases h : cs[i].2 ∈ w :: r
      · rw [if_pos h]
        refine ⟨r ++ [cs[i].1], rfl, fun z => ?_⟩
        rw [List.mem_append, List.mem_append, List.mem_singleton, hz]
        constructor
        · rintro (h1 | h1)
          · exact ⟨.inl h1.1, h1.2⟩
          · rw [h1]
            exact ⟨.inr rfl, und.mpr h⟩
        · rintro ⟨h1 | h1, h2⟩
          · exact .inl ⟨h1, h2⟩
          · exact .inr h1
      · rw [if_neg h]
        refine ⟨r, rfl, fun z => ?_⟩
        rw [List.mem_append, List.mem_singleton, hz]
        constructor
        · exact fun h1 => ⟨.inl h1.1, h1.2⟩
        · rintro ⟨h1 | h1, h2⟩
          · exact ⟨h1, h2⟩
          · rw [h1] at h2
            exact absurd (und.mp h2) h
  intro z
  obtain ⟨r, hr, hz⟩ := key cs.length (Nat.le_refl _)
  rw [List.take_length] at hr hz
  unfold belowL
  rw [hr]
  show z ∈ r ↔ _
  rw [hz]
  refine ⟨fun h => h.2, fun h => ⟨?_, h⟩⟩
  obtain ⟨l, hl, _⟩ := h
  cases hl with
  | top hm => exact List.mem_map.mpr ⟨_, hm, rfl⟩
  | up hm _ _ => exact List.mem_map.mpr ⟨_, hm, rfl⟩
end Pn

namespace Pn
open PySem PySem.Spec PyProof.Rows L2 TL
/-! ### the law's own step is the model's -/
theorem goOn_other {r : RowD} {w : Str} (h : cntOf r = some w) (n1 : ∀ c l, r ≠ .note c l) (n2 : ∀ c n, r ≠ .skip c n) : goOn r = 0 := by
  cases r with
  | note c l => exact absurd rfl (n1 c l)
  | skip c n => exact absurd rfl (n2 c n)
  | _ => rfl
theorem word_ne : ("now" : Str) ≠ "box" ∧ ("at" : Str) ≠ "now" ∧ ("at" : Str) ≠ "box" ∧ ("box" : Str) ≠ "now" := by decide +kernel
theorem reck_now (m n k : Int) : reckT ("now", m) n k = n + m := by
  unfold reckT
  rw [if_pos rfl]
theorem reck_box (m n k : Int) : reckT ("box", m) n k = k + m := by
  unfold reckT
  rw [if_neg word_ne.2.2.2, if_pos rfl]
theorem reck_at (m n k : Int) : reckT ("at", m) n k = m := by
  unfold reckT
  rw [if_neg word_ne.2.1, if_neg word_ne.2.2.1]
theorem climb_one {cs : List (Str × Str)} (nd : (cs.map (·.1)).Nodup) {z : Str} {l m : List Str} (h : Climb cs z l) (k : Climb cs z m) : l = m := by
  induction h generalizing m with
  | top hm =>
    cases k with
    | top _ => rfl
    | up hm2 hne _ => exact absurd (upper_one nd hm hm2).symm hne
  | up hm hne _ ih =>
    cases k with
    | top hm2 => exact absurd (upper_one nd hm hm2) hne
    | up hm2 _ k2 =>
      have e := upper_one nd hm hm2
      subst e
      rw [ih k2]
theorem one_eq {cs : List (Str × Str)} (ok : CsOk cs) (hex : ∀ z ∈ cs.map (·.1), ∃ l, Climb cs z l) {r : RowD} {w : Str} (hr : cntOf r = some w) (hpos : ∀ c n, r = .skip c n → 1 ≤ n) (hw : w ∈ cs.map (·.1)) (f g : Str → Int) {z : Str} {l : List Str} (hl : Climb cs z l) (hz : z ∈ cs.map (·.1)) :
    doneOne r (l.reverse, z) (f z, g z) = (doneFN cs r f g z, doneFB r f g z) := by
  obtain ⟨rest, e⟩ := hl.head
  have hin : w ∈ l.reverse ↔ w = z ∨ Under cs w z := by
    rw [List.mem_reverse, e, List.mem_cons]
    refine or_congr_right ⟨fun h => ⟨l, hl, by rw [e]; exact h⟩, fun ⟨l2, h2, h3⟩ => ?_⟩
    have : l2 = l := climb_one ok.nd h2 hl
    rw [this, e] at h3
    exact h3
  have hb := below_iff ok hex hw
  have hself := under_self ok.nd ok.up hw
  unfold doneOne stepR
  rw [hr]
  show (reckT (if w ∈ l.reverse then (if w = z then ownT r else if 0 < goOn r then (("at", 0), ("box", 0)) else stayT) else stayT).1 (f z) (g z), reckT (if w ∈ l.reverse then (if w = z then ownT r else if 0 < goOn r then (("at", 0), ("box", 0)) else stayT) else stayT).2 (f z) (g z)) = _
  have stay : (reckT stayT.1 (f z) (g z), reckT stayT.2 (f z) (g z)) = (f z, g z) := by
    unfold stayT
    rw [reck_now, reck_box, Int.add_zero, Int.add_zero]
  by_cases ez : w = z
  · subst ez
    rw [if_pos (hin.mpr (.inl rfl)), if_pos rfl]
    have nb : w ∉ belowL cs w := fun h => hself ((hb w).mp h)
    cases r with
    | note c l => cases hr; unfold ownT goOn doneFN doneFB; dsimp only; rw [reck_now, reck_box, if_neg nb, if_pos rfl, Int.add_zero]; rfl
    | skip c n => cases hr; unfold ownT goOn doneFN doneFB; dsimp only; rw [reck_now, reck_box, if_neg nb, if_pos rfl, Int.add_zero]
    | set c n => cases hr; unfold ownT doneFN doneFB; dsimp only; rw [reck_at, reck_box, if_pos rfl, Int.add_zero]
    | keep c => cases hr; unfold ownT doneFN doneFB; dsimp only; rw [reck_now, if_pos rfl, Int.add_zero]
    | back c => cases hr; unfold ownT doneFN doneFB; dsimp only; rw [reck_box, if_pos rfl, Int.add_zero]
    | ref c => cases hr
    | put c => cases hr
    | opn c => cases hr
  · have ez2 : ¬ z = w := fun h => ez h.symm
    by_cases hu : Under cs w z
    · rw [if_pos (hin.mpr (.inr hu)), if_neg ez]
      have ib : z ∈ belowL cs w := (hb z).mpr hu
      cases r with
      | note c l => cases hr; unfold doneFN doneFB; dsimp only; rw [if_pos (show 0 < goOn (.note w l) from Nat.one_pos), reck_at, reck_box, if_pos ib, Int.add_zero]
      | skip c n => cases hr; unfold doneFN doneFB; dsimp only; rw [if_pos (show 0 < goOn (.skip w n) from hpos w n rfl), reck_at, reck_box, if_pos ib, Int.add_zero]
      | set c n => cases hr; rw [if_neg (show ¬ 0 < goOn (.set w n) from Nat.lt_irrefl 0), stay]; unfold doneFN doneFB; dsimp only; rw [if_neg ez2]
      | keep c => cases hr; rw [if_neg (show ¬ 0 < goOn (.keep w) from Nat.lt_irrefl 0), stay]; unfold doneFN doneFB; dsimp only; rw [if_neg ez2]
      | back c => cases hr; rw [if_neg (show ¬ 0 < goOn (.back w) from Nat.lt_irrefl 0), stay]; unfold doneFN doneFB; dsimp only; rw [if_neg ez2]
      | ref c => cases hr
      | put c => cases hr
      | opn c => cases hr
    · rw [if_neg (fun h => (hin.mp h).elim ez hu), stay]
      have ib : z ∉ belowL cs w := fun h => hu ((hb z).mp h)
      cases r with
      | note c l => cases hr; unfold doneFN doneFB; dsimp only; rw [if_neg ib, if_neg ez2]
      | skip c n => cases hr; unfold doneFN doneFB; dsimp only; rw [if_neg ib, if_neg ez2]
      | set c n => cases hr; unfold doneFN doneFB; dsimp only; rw [if_neg ez2]
      | keep c => cases hr; unfold doneFN doneFB; dsimp only; rw [if_neg ez2]
      | back c => cases hr; unfold doneFN doneFB; dsimp only; rw [if_neg ez2]
      | ref c => cases hr
      | put c => cases hr
      | opn c => cases hr
end Pn

namespace Pn
open PySem PySem.Spec PyProof.Rows L2 TL
/-- what a row of a play is -/
def PlayRow (cs : List (Str × Str)) (r : RowD) : Prop := (∀ w, cntOf r = some w → w ∈ cs.map (·.1)) ∧ ∀ c n, r = .skip c n → 1 ≤ n
theorem deal_row {most : Nat} {pl : List Str} {cs : List (Str × Str)} {bk : List PartD} (h : DealBook most pl cs bk) : ∀ r ∈ unrolled bk, PlayRow cs r := unrolled_all (G := PlayRow cs) fun p hp r hr => by
  rcases h.rows p hp r hr with f | ⟨z, rfl⟩ | ⟨l, rfl, _⟩
  · cases r with
    | note c l => exact ⟨fun w e => by cases e; exact f.1, fun c n e => by cases e⟩
    | skip c n => exact ⟨fun w e => by cases e; exact f.1, fun c n e => by cases e; exact f.2.1⟩
    | set c n => exact ⟨fun w e => by cases e; exact f.1, fun c n e => by cases e⟩
    | keep c => exact ⟨fun w e => by cases e; exact f, fun c n e => by cases e⟩
    | back c => exact ⟨fun w e => by cases e; exact f, fun c n e => by cases e⟩
    | opn z => exact ⟨fun w e => (by cases e), fun c n e => by cases e⟩
    | put z => exact f.elim
    | ref z => exact f.elim
  · exact ⟨fun w e => (by cases e), fun c n e => by cases e⟩
  · exact ⟨fun w e => (by cases e), fun c n e => by cases e⟩
theorem deal_opn {most : Nat} {pl : List Str} {cs : List (Str × Str)} {bk : List PartD} (h : DealBook most pl cs bk) : ∀ z, RowD.opn z ∈ unrolled bk → z ∈ pl := fun z hz => by
  refine unrolled_all (G := fun r => ∀ z, r = RowD.opn z → z ∈ pl) (fun p hp r hr z e => ?_) _ hz z rfl
  subst e
  rcases h.rows p hp _ hr with f | ⟨z', e⟩ | ⟨l, e, _⟩
  · exact f
  · cases e
  · cases e
end Pn

namespace Pn
open PySem PySem.Spec PyProof.Rows L2 TL
theorem putK_new {kvs : List (Key × V)} {k : Key} {v : V} (h : k ∉ kvs.map (·.1)) : putK kvs k v = kvs ++ [(k, v)] := by
  unfold putK
  rw [if_neg]
  rw [List.any_eq_true]
  rintro ⟨kv, hm, e⟩
  exact h (List.mem_map.mpr ⟨kv, hm, of_decide_eq_true e⟩)
theorem mergeK_new : ∀ (l acc : List (Key × V)), (acc.map (·.1) ++ l.map (·.1)).Nodup → mergeK acc l = acc ++ l
  | [], acc, _ => by rw [List.append_nil]; rfl
  | kv :: l, acc, h => by
    have hk : kv.1 ∉ acc.map (·.1) := fun hm => (List.nodup_append.mp h).2.2 _ hm _ List.mem_cons_self rfl
    show mergeK (putK acc kv.1 kv.2) l = _
    rw [putK_new hk, mergeK_new l _ (by rw [List.map_append, List.append_assoc]; exact h), List.append_assoc]
    rfl
theorem merge_dictF {zs : List Str} {f : Str → Int} (nd : zs.Nodup) : mergeK [] (dictF zs f) = dictF zs f := by
  refine mergeK_new _ [] ?_
  unfold dictF
  rw [List.map_nil, List.nil_append, List.map_map]
  exact List.pairwise_map.mpr (List.Pairwise.imp (fun h e => h (by injection e)) nd)
end Pn

namespace Pn
open PySem PySem.W PyProof.Rows
/-! ### an operator of an own class, both sides of this class; in place by the same method -/
section
variable {M : Model} {prog : Program} {w : World} {A : Around} {E : Value → Shared → Prop} {s : Shared} {K : Frag} {x C L f : Addr} {h₀ : Heap} {m : Str → Option Value} {ox : Obj} {od : Option Obj} {nm : String}
theorem fillsI_no {h : Heap} {cd : ClassData} {add : Bool} (X : K.In h) (hc : clsIn K C = some cd) (hm : cd.mro = [.ref C, .type "object"]) (h1 : findIn K (.ref C) (dunderI nm) = some none) (h2 : findIn K (.type "object") (dunderI nm) = some none) : Looks M h (fillsInplaceSlot (.ref C) nm add) false := by
  intro A Q E s k q
  have Lm : Looks M h (mroOf (.ref C)) cd.mro := (looks_clsIn X hc).andThen (f := fun cd => pure cd.mro) .now
  have Lm' := Lm.keeps k
  obtain ⟨hh, g, d, tt, os⟩ := s
  have X' : K.In hh := X.keeps k
  have L1 : Looks M hh (typeLookup (.ref C) (dunderI nm)) none := looks_findIn X' h1
  have L2 : Looks M hh (typeLookup (.type "object") (dunderI nm)) none := looks_findIn X' h2
  unfold fillsInplaceSlot
  refine wpAny_bind (Lm'.at ?_)
  rw [hm, List.anyM_cons]
  refine wpAny_bind ?_
  refine wpAny_bind (L1.at ?_)
  refine wpAny_pure ?_
  rw [List.anyM_cons]
  refine wpAny_bind ?_
  refine wpAny_bind (L2.at ?_)
  refine wpAny_pure ?_
  exact wpAny_pure q
theorem bin1_K {b : Value} {Q : Value → Shared → Prop} (F : Fr h₀ L s.heap m) (X₀ : K.In h₀) (I : InstAt s.heap x ox C od) (hb : Looks (model prog w) s.heap (typeOf b) (.ref C)) (hc : selfFirst K C = true)
    (hs : findIn K (.ref C) (PySem.dunder nm) = some (some (.ref f))) (hf : isFn K (.ref f) = true)
    (h : wpAny (model prog w) A (call (.ref f) [.ref x, b]) (W.CmpBack Q) E s) : wpAny (model prog w) A (binaryOp1 nm (.ref x) b) (fun r s' => ∃ v, r = some v ∧ Q v s') E s := by
  have X := X₀.keeps F.keep
  obtain ⟨cd, rest, hcd, hm⟩ := ksp_first hc
  unfold binaryOp1
  refine wpAny_bind (I.type.here (wpAny_bind (hb.here (wpAny_bind ((fills_K X hcd hm hs).here ?_)))))
  simp only [beq_self_eq_true, if_true]
  refine wpAny_bind (wpAny_pure ?_)
  simp only [Bool.and_false, Bool.false_eq_true, if_false, Bool.false_and]
  refine wpAny_bind (wpAny_pure ?_)
  simp only [Bool.false_eq_true, if_false]
  refine wpAny_bind (m := tryMethod (.ref x) _ b) ?_
  unfold tryMethod
  refine wpAny_bind (special_fn X I hs (beq_iff_eq.mp hf) (wpAny_mono h (fun v s' hv => ?_) fun _ _ e => e))
  cases v <;> first | exact hv.elim | exact wpAny_pure (wpAny_pure ⟨_, rfl, hv⟩)
theorem inplace_K {op : Operator} {cd : ClassData} {b : Value} {Q : Value → Shared → Prop} (F : Fr h₀ L s.heap m) (X₀ : K.In h₀) (I : InstAt s.heap x ox C od) (hb : Looks (model prog w) s.heap (typeOf b) (.ref C)) (hc : selfFirst K C = true)
    (hcl : clsIn K C = some cd) (hm : cd.mro = [.ref C, .type "object"]) (h1 : findIn K (.ref C) (dunderI op.info.2) = some none) (h2 : findIn K (.type "object") (dunderI op.info.2) = some none)
    (hs : findIn K (.ref C) (PySem.dunder op.info.2) = some (some (.ref f))) (hf : isFn K (.ref f) = true)
    (h : wpAny (model prog w) A (call (.ref f) [.ref x, b]) (W.CmpBack Q) E s) : wpAny (model prog w) A (inplaceOp op (.ref x) b) Q E s := by
  have X := X₀.keeps F.keep
  have one := bin1_K F X₀ I hb hc hs hf h
  unfold inplaceOp
  refine wpAny_holding ?_
  refine wpAny_bind (I.type.here ?_)
  refine wpAny_bind ((fillsI_no X hcl hm h1 h2).here ?_)
  simp only [Bool.false_eq_true, if_false]
  refine wpAny_bind (wpAny_mono one (fun r s' hr' => ?_) fun _ _ e => e)
  obtain ⟨v, rfl, hq⟩ := hr'
  exact wpAny_pure hq
end
end Pn
namespace Pn
open PySem L2
section
variable {X : Cx} {CX : CXT} {k : Nat} {f C : Addr} {fd : FuncData} {ps : List Str} {sp : Sp} {E : XK}
def rBinIns (K : PySem.W.Frag) (nm : Str) (f : Addr) (sp : Sp) (E : XK) : R2 := fun x y H Q => ∃ (a b C dx dy : Addr) (fs gs : List (Str × V)), x = .ref a ∧ y = .ref b ∧ H a = some (.ins C dx fs) ∧ H b = some (.ins C dy gs) ∧
  PySem.W.selfFirst K C = true ∧ PySem.W.findIn K (.ref C) nm = some (some (.ref f)) ∧ sp [x, y] H Q E
/-- a op b of two instances of an own class with this operator -/
theorem op_binIns {op : Operator} (F : FnOk X.prog X.w X.K X.mg X.base CX k f fd ps sp) (hf : PySem.W.isFn X.K (.ref f) = true) (hr : Room k X.A) (hb : Binds X.K fd ps []) (hx : Passes CX X E) : OpR X (binaryOp op) (rBinIns X.K (PySem.dunder op.info.2) f sp E) := by
  intro pins s σ H x y v u Q I rx ry h
  obtain ⟨a, b, C, dx, dy, fs, gs, rfl, rfl, ha, hb2, hc, hs, q⟩ := h
  cases rx
  cases ry
  obtain ⟨mA, O, _⟩ := ins_get I.hok ha
  obtain ⟨od, J, _⟩ := O.look
  obtain ⟨mB, O2, _⟩ := ins_get I.hok hb2
  obtain ⟨od2, J2, _⟩ := O2.look
  obtain ⟨m, hF⟩ := I.fr
  refine PySem.W.binop_K hF I.ok.mod.kin J J2.type hc hs hf ?_
  refine wpAny_mono (run_fnA F hr I.env0 hb hx I (.cons (show RelV (.ref a) (Value.ref a) from rfl) (.cons (show RelV (.ref b) (Value.ref b) from rfl) .nil)) q) (fun w s' z => ?_) fun _ _ x => x
  obtain ⟨z', H', I', rz, qz⟩ := z
  exact SlX.cmpback rz ⟨z', H', I', rz, qz⟩
def rIopIns (K : PySem.W.Frag) (op : Operator) (f : Addr) (sp : Sp) (E : XK) : R2 := fun x y H Q => ∃ (a b C dx dy : Addr) (fs gs : List (Str × V)) (cd : ClassData), x = .ref a ∧ y = .ref b ∧ H a = some (.ins C dx fs) ∧ H b = some (.ins C dy gs) ∧
  PySem.W.selfFirst K C = true ∧ PySem.W.clsIn K C = some cd ∧ cd.mro = [.ref C, .type "object"] ∧ PySem.W.findIn K (.ref C) (dunderI op.info.2) = some none ∧ PySem.W.findIn K (.type "object") (dunderI op.info.2) = some none ∧
  PySem.W.findIn K (.ref C) (PySem.dunder op.info.2) = some (some (.ref f)) ∧ sp [x, y] H Q E
/-- a op= b by the same method, where the class has none of its own for it -/
theorem iop_binIns {op : Operator} (F : FnOk X.prog X.w X.K X.mg X.base CX k f fd ps sp) (hf : PySem.W.isFn X.K (.ref f) = true) (hr : Room k X.A) (hb : Binds X.K fd ps []) (hx : Passes CX X E) : OpR X (inplaceOp op) (rIopIns X.K op f sp E) := by
  intro pins s σ H x y v u Q I rx ry h
  obtain ⟨a, b, C, dx, dy, fs, gs, cd, rfl, rfl, ha, hb2, hc, hcl, hm, h1, h2, hs, q⟩ := h
  cases rx
  cases ry
  obtain ⟨mA, O, _⟩ := ins_get I.hok ha
  obtain ⟨od, J, _⟩ := O.look
  obtain ⟨mB, O2, _⟩ := ins_get I.hok hb2
  obtain ⟨od2, J2, _⟩ := O2.look
  obtain ⟨m, hF⟩ := I.fr
  refine inplace_K hF I.ok.mod.kin J J2.type hc hcl hm h1 h2 hs hf ?_
  refine wpAny_mono (run_fnA F hr I.env0 hb hx I (.cons (show RelV (.ref a) (Value.ref a) from rfl) (.cons (show RelV (.ref b) (Value.ref b) from rfl) .nil)) q) (fun w s' z => ?_) fun _ _ x => x
  obtain ⟨z', H', I', rz, qz⟩ := z
  exact SlX.cmpback rz ⟨z', H', I', rz, qz⟩
end
end Pn

namespace Pn.Mp
open PySem L2
abbrev sIsInteger : Stmt := top 4
abbrev sIsNumber : Stmt := top 5
abbrev sIsPair : Stmt := top 8
/-! ### integers, numbers and pairs among data -/
def intD : PyData → Bool
  | .int _ => true
  | _ => false
def numD : PyData → Bool
  | .int i => decide (0 ≤ i)
  | _ => false
def pairD : PyData → Bool
  | .tuple ds => decide (ds.length = 2)
  | _ => false
/-- the type of data -/
def tyD : PyData → String
  | .none => "NoneType"
  | .bool _ => "bool"
  | .int _ => "int"
  | .str _ => "str"
  | .list _ => "list"
  | .tuple _ => "tuple"
  | .dict _ => "dict"
theorem dp_ty {K : PySem.W.Frag} {H : Hp} {v : V} {d : PyData} (h : Dp K H v d) : TyX K H v (.type (tyD d)) := by
  cases h with
  | non => exact .base .non
  | bl b => exact .base (.bl b)
  | int i => exact .base (.int i)
  | str x => exact .base (.str x)
  | lst s _ =>
    rcases s with (s | ⟨o, s⟩) | ⟨o, _, _, e, c, _⟩
    · exact .base (.lst s)
    · exact .base (.frz s)
    · exact .kList e c
  | tup s _ =>
    rcases s with (s | ⟨o, s⟩) | ⟨o, _, _, e, c, _⟩
    · exact .base (.tup s)
    · exact .fTuple s
    · exact .kTuple e c
def strT : PyData → Bool
  | .str _ => true
  | _ => false
def intT : PyData → Bool
  | .bool _ => true
  | .int _ => true
  | _ => false
def boolT : PyData → Bool
  | .bool _ => true
  | _ => false
def tupT : PyData → Bool
  | .tuple _ => true
  | _ => false
theorem kit_str : ∀ d : PyData, kitB (tyD d) "str" = some (strT d)
  | .none => (by decide +kernel : kitB "NoneType" "str" = some false)
  | .bool _ => (by decide +kernel : kitB "bool" "str" = some false)
  | .int _ => (by decide +kernel : kitB "int" "str" = some false)
  | .str _ => (by decide +kernel : kitB "str" "str" = some true)
  | .list _ => (by decide +kernel : kitB "list" "str" = some false)
  | .tuple _ => (by decide +kernel : kitB "tuple" "str" = some false)
  | .dict _ => (by decide +kernel : kitB "dict" "str" = some false)
theorem kit_int : ∀ d : PyData, kitB (tyD d) "int" = some (intT d)
  | .none => (by decide +kernel : kitB "NoneType" "int" = some false)
  | .bool _ => (by decide +kernel : kitB "bool" "int" = some true)
  | .int _ => (by decide +kernel : kitB "int" "int" = some true)
  | .str _ => (by decide +kernel : kitB "str" "int" = some false)
  | .list _ => (by decide +kernel : kitB "list" "int" = some false)
  | .tuple _ => (by decide +kernel : kitB "tuple" "int" = some false)
  | .dict _ => (by decide +kernel : kitB "dict" "int" = some false)
theorem kit_bool : ∀ d : PyData, kitB (tyD d) "bool" = some (boolT d)
  | .none => (by decide +kernel : kitB "NoneType" "bool" = some false)
  | .bool _ => (by decide +kernel : kitB "bool" "bool" = some true)
  | .int _ => (by decide +kernel : kitB "int" "bool" = some false)
  | .str _ => (by decide +kernel : kitB "str" "bool" = some false)
  | .list _ => (by decide +kernel : kitB "list" "bool" = some false)
  | .tuple _ => (by decide +kernel : kitB "tuple" "bool" = some false)
  | .dict _ => (by decide +kernel : kitB "dict" "bool" = some false)
theorem kit_tup : ∀ d : PyData, kitB (tyD d) "tuple" = some (tupT d)
  | .none => (by decide +kernel : kitB "NoneType" "tuple" = some false)
  | .bool _ => (by decide +kernel : kitB "bool" "tuple" = some false)
  | .int _ => (by decide +kernel : kitB "int" "tuple" = some false)
  | .str _ => (by decide +kernel : kitB "str" "tuple" = some false)
  | .list _ => (by decide +kernel : kitB "list" "tuple" = some false)
  | .tuple _ => (by decide +kernel : kitB "tuple" "tuple" = some true)
  | .dict _ => (by decide +kernel : kitB "dict" "tuple" = some false)
theorem dpAll_len {K : PySem.W.Frag} {H : Hp} : ∀ {vs : List V} {ds : List PyData}, DpAll K H vs ds → vs.length = ds.length
  | _, _, .nil => rfl
  | _, _, .cons _ b => congrArg (· + 1) (dpAll_len b)
/-- x in t, t a tuple, by data -/
def rInT (K : PySem.W.Frag) : R2 := fun x y H Q => ∃ d ds, Dp K H x d ∧ Dp K H y (.tuple ds) ∧ SeqAt.shaped d = true ∧ SeqAt.shaped (.tuple ds) = true ∧ Q (.bl (ds.any fun z => PyData.eqv z d)) H
theorem op_inT {X : Cx} (hu : X.A.units + 65 < PySem.cLine) : OpR X (compareOp .In) (rInT X.K) := by
  intro pins s σ H x y v u Q I rx ry h
  obtain ⟨d, ds, hd, he, sd, se, q⟩ := h
  obtain ⟨as, r1⟩ := Dp.reads I d x v hd rx
  obtain ⟨bs, r2⟩ := Dp.reads I (.tuple ds) y u he ry
  have z := SeqAt.depth_of_shaped sd
  exact SeqAt.in_tuple_reads r2 r1 (SeqAt.canLay_of_shaped se) (SeqAt.canLay_of_shaped sd) (by have := Nat.min_le_right (PyData.depthAll ds) d.depth; omega) ⟨.bl _, H, I, rfl, q⟩
theorem room65 {k : Nat} {A : Around} (r : Room k A) : A.units + 65 < PySem.cLine := by have := r.un; omega
theorem shaped_head {d : PyData} {ds : List PyData} (h : SeqAt.shaped (.tuple (d :: ds)) = true) : SeqAt.shaped d = true ∧ SeqAt.shaped (.tuple ds) = true := by
  have h1 := SeqAt.canLay_of_shaped h
  have h2 := SeqAt.depth_of_shaped h
  simp only [PyData.canLay0, PyData.canLayAll0, Bool.and_eq_true] at h1
  simp only [PyData.depth, PyData.depthAll] at h2
  unfold SeqAt.shaped
  refine ⟨?_, ?_⟩
  · rw [h1.1, decide_eq_true (show d.depth ≤ 64 by omega)]; rfl
  · have e1 : PyData.canLay0 (.tuple ds) = true := by simp only [PyData.canLay0]; exact h1.2
    have e2 : PyData.depth (.tuple ds) ≤ 64 := by simp only [PyData.depth]; omega
    rw [e1, decide_eq_true e2]; rfl
section
variable {P : Program} {w : World} {K : PySem.W.Frag} {mg : Str → Option Value} {base : Heap}
structure TKit (K : PySem.W.Frag) (mg : Str → Option Value) : Type where
  mInt : mg "int" = none
  mBool : mg "bool" = none
  mTup : mg "tuple" = none
  mIsi : mg "isinstance" = none
  mLen : mg "len" = none
  isInteger : At K mg "is_integer" sIsInteger ["value"]
  isNumber : At K mg "is_number" sIsNumber ["value"]
  isPair : At K mg "is_pair" sIsPair ["value"]
def spIsInteger (K : PySem.W.Frag) : Sp := fun vs H Q _ => ∃ (v : V) (d : PyData), vs = [v] ∧ Dp K H v d ∧ Q (.bl (intD d)) H
theorem scIsInteger : FnScope ["value"] ["value"] (defScope sIsInteger) := ⟨rfl, rfl, rfl, by decide +kernel, rfl, by decide +kernel, by decide +kernel⟩
theorem TKit.okInteger (T : TKit K mg) : FnOk P w K mg base CX0 1 T.isInteger.f T.isInteger.fd ["value"] (spIsInteger K) := by
  refine T.isInteger.F.ok scIsInteger (fun vs H Q E h => ?_) (fun cdv A outer s H vs Q E hr h => ?_)
  · obtain ⟨v, d, rfl, _⟩ := h
    rfl
  · obtain ⟨v, d, rfl, hd, q⟩ := h
    refine ⟨_, pss_one (ps_ret (pe_and (pe_callB call_isi (by rfl) T.mIsi (by decide +kernel) (pa_cons (pv 0) (pa_cons (pe_bltn (v := .ty "int") (by rfl) T.mInt (by decide +kernel) rfl) pa_nil)))
      (pe_one (pe_not (pe_callB call_isi (by rfl) T.mIsi (by decide +kernel) (pa_cons (pv 0) (pa_cons (pe_bltn (v := .ty "bool") (by rfl) T.mBool (by decide +kernel) rfl) pa_nil))))))), ?_⟩
    refine ⟨_, rfl, v, _, _, _, _, rfl, .ty _, dp_ty hd, kit_ty (kit_int d), _, rfl, ?_⟩
    cases d with
    | none => exact q
    | str z => exact q
    | list ds => exact q
    | tuple ds => exact q
    | dict ds => exact q
    | int i => exact ⟨_, rfl, v, _, _, _, _, rfl, .ty _, dp_ty hd, kit_ty (kit_bool _), _, rfl, q⟩
    | bool i => exact ⟨_, rfl, v, _, _, _, _, rfl, .ty _, dp_ty hd, kit_ty (kit_bool _), _, rfl, q⟩
def spIsNumber (K : PySem.W.Frag) : Sp := fun vs H Q _ => ∃ (v : V) (d : PyData), vs = [v] ∧ Dp K H v d ∧ Q (.bl (numD d)) H
theorem scIsNumber : FnScope ["value"] ["value"] (defScope sIsNumber) := ⟨rfl, rfl, rfl, by decide +kernel, rfl, by decide +kernel, by decide +kernel⟩
theorem TKit.okNumber (T : TKit K mg) : FnOk P w K mg base CX0 2 T.isNumber.f T.isNumber.fd ["value"] (spIsNumber K) := by
  refine T.isNumber.F.ok scIsNumber (fun vs H Q E h => ?_) (fun cdv A outer s H vs Q E hr h => ?_)
  · obtain ⟨v, d, rfl, _⟩ := h
    rfl
  · obtain ⟨v, d, rfl, hd, q⟩ := h
    refine ⟨_, pss_one (ps_ret (pe_and (pe_call T.okInteger hr rfl T.isInteger.m T.isInteger.F.kp T.isInteger.b .nil pass0 (pa_cons (pv 0) pa_nil)) (pe_one (pe_cmpR op_ge (pv 0) pe_int (nomark _))))), ?_⟩
    refine ⟨_, rfl, v, d, rfl, hd, _, rfl, ?_⟩
    cases d with
    | none => exact q
    | str z => exact q
    | list ds => exact q
    | tuple ds => exact q
    | dict ds => exact q
    | bool i => exact q
    | int i =>
      cases hd
      exact ⟨_, rfl, _, _, rfl, rfl, q⟩
def spIsPair (K : PySem.W.Frag) : Sp := fun vs H Q _ => ∃ (v : V) (d : PyData), vs = [v] ∧ Dp K H v d ∧ Q (.bl (pairD d)) H
theorem scIsPair : FnScope ["value"] ["value"] (defScope sIsPair) := ⟨rfl, rfl, rfl, by decide +kernel, rfl, by decide +kernel, by decide +kernel⟩
theorem TKit.okPair (T : TKit K mg) : FnOk P w K mg base CX0 1 T.isPair.f T.isPair.fd ["value"] (spIsPair K) := by
  refine T.isPair.F.ok scIsPair (fun vs H Q E h => ?_) (fun cdv A outer s H vs Q E hr h => ?_)
  · obtain ⟨v, d, rfl, _⟩ := h
    rfl
  · obtain ⟨v, d, rfl, hd, q⟩ := h
    refine ⟨_, pss_one (ps_ret (pe_and (pe_callB call_isi (by rfl) T.mIsi (by decide +kernel) (pa_cons (pv 0) (pa_cons (pe_bltn (v := .ty "tuple") (by rfl) T.mTup (by decide +kernel) rfl) pa_nil)))
      (pe_one (pe_cmpR op_eq (pe_callB call_len_seq (by rfl) T.mLen PySem.boot_len (pa_cons (pv 0) pa_nil)) pe_int (nomark _))))), ?_⟩
    refine ⟨_, rfl, v, _, _, _, _, rfl, .ty _, dp_ty hd, kit_ty (kit_tup d), _, rfl, ?_⟩
    cases d with
    | none => exact q
    | str z => exact q
    | list ds => exact q
    | dict ds => exact q
    | int i => exact q
    | bool i => exact q
    | tuple ds =>
      cases hd with
      | tup s a =>
        have e := dpAll_len a
        refine ⟨_, rfl, _, _, rfl, .inr s, rfl, ?_⟩
        rw [e]
        have e2 : decide (V.int (ds.length : Int) = V.int 2) = pairD (.tuple ds) := by
          show _ = decide (ds.length = 2)
          by_cases z : ds.length = 2
          · rw [z]; rfl
          · rw [decide_eq_false z, decide_eq_false]
            intro y
            injection y with y
            omega
        rw [e2]
        exact q
end
end Pn.Mp

namespace Pn.Mp
open PySem L2
abbrev sReck : Stmt := top 62
abbrev sTraced : Stmt := top 63
abbrev sJoined : Stmt := top 64
abbrev sIsTerm : Stmt := top 66
abbrev sTermText : Stmt := top 67
abbrev sIMInit : Stmt := inClass (top 15) 0
abbrev sMapInit : Stmt := inClass (top 68) 0
abbrev sMapCall : Stmt := inClass (top 68) 1
abbrev sMapShift : Stmt := inClass (top 68) 2
abbrev sMapStr : Stmt := inClass (top 68) 4
abbrev sMapEq : Stmt := inClass (top 68) 5
/-! ### terms and steps -/
inductive W3 where
  | now | box | at_
deriving DecidableEq
def W3.s : W3 → Str
  | .now => "now"
  | .box => "box"
  | .at_ => "at"
theorem W3.inj : ∀ {a b : W3}, a.s = b.s → a = b
  | .now, .now, _ => rfl
  | .box, .box, _ => rfl
  | .at_, .at_, _ => rfl
  | .now, .box, h => absurd h (by decide +kernel)
  | .now, .at_, h => absurd h (by decide +kernel)
  | .box, .now, h => absurd h (by decide +kernel)
  | .box, .at_, h => absurd h (by decide +kernel)
  | .at_, .now, h => absurd h (by decide +kernel)
  | .at_, .box, h => absurd h (by decide +kernel)
theorem wd (a b : W3) : decide (V.str a.s = V.str b.s) = decide (a = b) := by cases a <;> cases b <;> decide +kernel
abbrev Tm := W3 × Nat
abbrev Stp := Tm × Tm
def tv (t : Tm) : List V := [.str t.1.s, .int (t.2 : Int)]
def tD (t : Tm) : PyData := .tuple [.str t.1.s, .int (t.2 : Int)]
def reck : Tm → Int → Int → Int
  | (.now, m), n, _ => n + m
  | (.box, m), _, k => k + m
  | (.at_, m), _, _ => m
def trace : Tm → Stp → Tm
  | (.at_, m), _ => (.at_, m)
  | (.now, m), s => (s.1.1, s.1.2 + m)
  | (.box, m), s => (s.2.1, s.2.2 + m)
def join (s t : Stp) : Stp := (trace t.1 s, trace t.2 s)
def wordsD : List PyData := [.str "now", .str "box", .str "at"]
def termD : PyData → Bool
  | .tuple [a, b] => wordsD.any (fun z => PyData.eqv z a) && numD b
  | _ => false
theorem tD_term (t : Tm) : termD (tD t) = true := by
  obtain ⟨w, n⟩ := t
  show (wordsD.any (fun z => PyData.eqv z (.str w.s)) && decide (0 ≤ (n : Int))) = true
  rw [decide_eq_true (Int.natCast_nonneg n), Bool.and_true]
  cases w <;> decide +kernel
theorem tD_sh (t : Tm) : SeqAt.shaped (tD t) = true := by
  obtain ⟨w, n⟩ := t
  unfold SeqAt.shaped tD
  cases w <;> simp [PyData.canLay0, PyData.canLayAll0, PyData.depth, PyData.depthAll, W3.s] <;> decide +kernel
/-- a tuple that is a term, as data -/
theorem term_of {d : PyData} (h : termD d = true) : ∃ t : Tm, d = tD t := by
  match d, h with
  | .tuple [a, b], h =>
    obtain ⟨h1, h2⟩ := Bool.and_eq_true_iff.mp (show (wordsD.any (fun z => PyData.eqv z a) && numD b) = true from h)
    have hb : ∃ n : Nat, b = .int (n : Int) := by
      cases b with
      | int i => exact ⟨i.toNat, by rw [Int.toNat_of_nonneg (of_decide_eq_true (show decide (0 ≤ i) = true from h2))]⟩
      | none => cases h2
      | bool _ => cases h2
      | str _ => cases h2
      | list _ => cases h2
      | tuple _ => cases h2
      | dict _ => cases h2
    obtain ⟨n, rfl⟩ := hb
    have ha : ∃ w : W3, a = .str w.s := by
      cases a with
      | str z =>
        simp only [wordsD, List.any_cons, List.any_nil, PyData.eqv, Bool.or_false, Bool.or_eq_true, beq_iff_eq] at h1
        rcases h1 with h1 | h1 | h1
        · exact ⟨.now, by rw [← h1]; rfl⟩
        · exact ⟨.box, by rw [← h1]; rfl⟩
        · exact ⟨.at_, by rw [← h1]; rfl⟩
      | none => simp [wordsD, PyData.eqv] at h1
      | bool _ => simp [wordsD, PyData.eqv] at h1
      | int _ => simp [wordsD, PyData.eqv] at h1
      | list _ => simp [wordsD, PyData.eqv] at h1
      | tuple _ => simp [wordsD, PyData.eqv] at h1
      | dict _ => simp [wordsD, PyData.eqv] at h1
    obtain ⟨w, rfl⟩ := ha
    exact ⟨(w, n), rfl⟩
  | .tuple [], h => cases h
  | .tuple [_], h => cases h
  | .tuple (_ :: _ :: _ :: _), h => cases h
  | .none, h => cases h
  | .bool _, h => cases h
  | .int _, h => cases h
  | .str _, h => cases h
  | .list _, h => cases h
  | .dict _, h => cases h
theorem tm_dp {K : PySem.W.Frag} {H : Hp} {a : Addr} {t : Tm} (h : SqT K H a (tv t)) : Dp K H (.ref a) (tD t) := .tup h (.cons (.str _) (.cons (.int _) .nil))
theorem tD_eqv (t u : Tm) : PyData.eqv (tD t) (tD u) = decide (t = u) := by
  obtain ⟨w, n⟩ := t
  obtain ⟨x, m⟩ := u
  by_cases h : (w, n) = (x, m)
  · rw [decide_eq_true h]
    injection h with h1 h2
    subst h1
    subst h2
    exact SeqAt.eqv_refl _ (SeqAt.canLay_of_shaped (tD_sh _))
  · rw [decide_eq_false h]
    by_cases h1 : w = x
    · subst h1
      have h2 : ¬ (n : Int) = (m : Int) := fun z => h (by rw [Int.ofNat.inj z])
      simp [tD, PyData.eqv, PyData.eqvAll, h2]
    · have h2 : ¬ w.s = x.s := fun z => h1 (W3.inj z)
      simp [tD, PyData.eqv, PyData.eqvAll, h2]
def StepAt (K : PySem.W.Frag) (H : Hp) (p : Addr) (s : Stp) : Prop := ∃ a b : Addr, SqT K H p [.ref a, .ref b] ∧ SqT K H a (tv s.1) ∧ SqT K H b (tv s.2)
theorem StepAt.same {K : PySem.W.Frag} {H H' : Hp} {p : Addr} {s : Stp} (h : StepAt K H p s) (e : Same H H') : StepAt K H' p s := by
  obtain ⟨a, b, h1, h2, h3⟩ := h
  exact ⟨a, b, Same.sqt e h1, Same.sqt e h2, Same.sqt e h3⟩
section
variable {P : Program} {w : World} {K : PySem.W.Frag} {mg : Str → Option Value} {base : Heap}
structure TSteps (K : PySem.W.Frag) (mg : Str → Option Value) : Type extends TKit K mg where
  words : Addr
  mWords : mg "TERM_WORDS" = some (.ref words)
  hWords : ∀ H, SqT K H words [.str "now", .str "box", .str "at"]
  reck : At K mg "reckoned" sReck ["term", "number", "kept"]
  traced : At K mg "traced" sTraced ["term", "earlier"]
  joined : At K mg "joined" sJoined ["first", "second"]
  isTerm : At K mg "is_term" sIsTerm ["value"]
  termText : At K mg "term_text" sTermText ["term"]
def spReck (K : PySem.W.Frag) : Sp := fun vs H Q _ => ∃ (a : Addr) (t : Tm) (n k : Int), vs = [.ref a, .int n, .int k] ∧ SqT K H a (tv t) ∧ Q (.int (reck t n k)) H
theorem scReck : FnScope ["term", "number", "kept", "word", "more"] ["term", "number", "kept"] (defScope sReck) := ⟨rfl, rfl, rfl, by decide +kernel, rfl, by decide +kernel, by decide +kernel⟩
theorem TSteps.okReck (T : TSteps K mg) : FnOk P w K mg base CX0 1 T.reck.f T.reck.fd ["term", "number", "kept"] (spReck K) := by
  refine T.reck.F.ok scReck (fun vs H Q E h => ?_) (fun cdv A outer s H vs Q E hr h => ?_)
  · obtain ⟨a, t, n, k, rfl, _⟩ := h
    rfl
  · obtain ⟨a, t, n, k, rfl, ht, q⟩ := h
    refine ⟨_, pss_cons (ps_asg (pv 0) (pg_tup (by rfl) (pgs_cons (pg_name (i := 3) scReck.nd rfl (Or.inl rfl)) (pgs_cons (pg_name (i := 4) scReck.nd rfl (Or.inl rfl)) pgs_nil))))
      (pss_cons (ps_if (pt_cmpR op_eq (pv 3) pe_str (nomark _)) (pss_one (ps_ret (pe_op op_add (pv 1) (pv 4)))) pss_nil)
      (pss_cons (ps_if (pt_cmpR op_eq (pv 3) pe_str (nomark _)) (pss_one (ps_ret (pe_op op_add (pv 2) (pv 4)))) pss_nil)
      (pss_one (ps_ret (pv 4))))), ?_⟩
    obtain ⟨w, m⟩ := t
    refine ⟨_, rfl, a, _, rfl, ht, rfl, _, _, rfl, _, _, rfl, rfl, ?_⟩
    cases w with
    | now => exact ⟨_, rfl, rfl, _, rfl, iteTB (wd .now .now) ⟨_, rfl, _, rfl, _, _, rfl, rfl, q⟩⟩
    | box => exact ⟨_, rfl, rfl, _, rfl, iteFB (wd .box .now) ⟨_, rfl, rfl, _, rfl, iteTB (wd .box .box) ⟨_, rfl, _, rfl, _, _, rfl, rfl, q⟩⟩⟩
    | at_ => exact ⟨_, rfl, rfl, _, rfl, iteFB (wd .at_ .now) ⟨_, rfl, rfl, _, rfl, iteFB (wd .at_ .box) ⟨_, rfl, q⟩⟩⟩
def spTraced (K : PySem.W.Frag) : Sp := fun vs H Q _ => ∃ (a p : Addr) (t : Tm) (s : Stp), vs = [.ref a, .ref p] ∧ SqT K H a (tv t) ∧ StepAt K H p s ∧ ∀ r H', Same H H' → SqT K H' r (tv (trace t s)) → Q (.ref r) H'
theorem scTraced : FnScope ["term", "earlier", "word", "more", "now", "box"] ["term", "earlier"] (defScope sTraced) := ⟨rfl, rfl, rfl, by decide +kernel, rfl, by decide +kernel, by decide +kernel⟩
theorem TSteps.okTraced (T : TSteps K mg) : FnOk P w K mg base CX0 1 T.traced.f T.traced.fd ["term", "earlier"] (spTraced K) := by
  refine T.traced.F.ok scTraced (fun vs H Q E h => ?_) (fun cdv A outer s H vs Q E hr h => ?_)
  · obtain ⟨a, p, t, s, rfl, _⟩ := h
    rfl
  · obtain ⟨a, p, t, s, rfl, ht, ⟨b1, b2, hp, h1, h2⟩, q⟩ := h
    refine ⟨_, pss_cons (ps_asg (pv 0) (pg_tup (by rfl) (pgs_cons (pg_name (i := 2) scTraced.nd rfl (Or.inl rfl)) (pgs_cons (pg_name (i := 3) scTraced.nd rfl (Or.inl rfl)) pgs_nil))))
      (pss_cons (ps_if (pt_cmpR op_eq (pv 2) pe_str (nomark _)) (pss_one (ps_ret (pv 0))) pss_nil)
      (pss_cons (ps_asg (pv 1) (pg_tup (by rfl) (pgs_cons (pg_name (i := 4) scTraced.nd rfl (Or.inl rfl)) (pgs_cons (pg_name (i := 5) scTraced.nd rfl (Or.inl rfl)) pgs_nil))))
      (pss_cons (ps_if (pt_cmpR op_eq (pv 2) pe_str (nomark _)) (pss_one (ps_ret (pe_tup (pa_cons (pe_ix ix_tup (pv 4) pe_int (fun _ _ => rfl)) (pa_cons (pe_op op_add (pe_ix ix_tup (pv 4) pe_int (fun _ _ => rfl)) (pv 3)) pa_nil))))) pss_nil)
      (pss_one (ps_ret (pe_tup (pa_cons (pe_ix ix_tup (pv 5) pe_int (fun _ _ => rfl)) (pa_cons (pe_op op_add (pe_ix ix_tup (pv 5) pe_int (fun _ _ => rfl)) (pv 3)) pa_nil)))))))), ?_⟩
    obtain ⟨w, m⟩ := t
    obtain ⟨⟨w1, m1⟩, ⟨w2, m2⟩⟩ := s
    refine ⟨_, rfl, a, _, rfl, ht, rfl, _, _, rfl, _, _, rfl, rfl, ?_⟩
    cases w with
    | at_ => exact ⟨_, rfl, rfl, _, rfl, iteTB (wd .at_ .at_) ⟨_, rfl, q a _ (Same.refl _) ht⟩⟩
    | now =>
      refine ⟨_, rfl, rfl, _, rfl, iteFB (wd .now .at_) ?_⟩
      refine ⟨_, rfl, p, _, rfl, hp, rfl, _, _, rfl, _, _, rfl, rfl, ?_⟩
      refine ⟨_, rfl, rfl, _, rfl, iteTB (wd .now .now) ?_⟩
      exact ⟨_, rfl, b1, _, _, _, rfl, rfl, h1, atI_nat (j := 0) rfl, _, rfl, b1, _, _, _, rfl, rfl, h1, atI_nat (j := 1) rfl, _, rfl, _, _, rfl, rfl, (by show 2 ≤ sizeLine; decide), fun r hr => q r _ (Same.new hr) (SqT.of upd_same)⟩
    | box =>
      refine ⟨_, rfl, rfl, _, rfl, iteFB (wd .box .at_) ?_⟩
      refine ⟨_, rfl, p, _, rfl, hp, rfl, _, _, rfl, _, _, rfl, rfl, ?_⟩
      refine ⟨_, rfl, rfl, _, rfl, iteFB (wd .box .now) ?_⟩
      exact ⟨_, rfl, b2, _, _, _, rfl, rfl, h2, atI_nat (j := 0) rfl, _, rfl, b2, _, _, _, rfl, rfl, h2, atI_nat (j := 1) rfl, _, rfl, _, _, rfl, rfl, (by show 2 ≤ sizeLine; decide), fun r hr => q r _ (Same.new hr) (SqT.of upd_same)⟩
def spJoined (K : PySem.W.Frag) : Sp := fun vs H Q _ => ∃ (p q : Addr) (s t : Stp), vs = [.ref p, .ref q] ∧ StepAt K H p s ∧ StepAt K H q t ∧ ∀ r H', Same H H' → StepAt K H' r (join s t) → Q (.ref r) H'
theorem scJoined : FnScope ["first", "second"] ["first", "second"] (defScope sJoined) := ⟨rfl, rfl, rfl, by decide +kernel, rfl, by decide +kernel, by decide +kernel⟩
theorem TSteps.okJoined (T : TSteps K mg) : FnOk P w K mg base CX0 2 T.joined.f T.joined.fd ["first", "second"] (spJoined K) := by
  refine T.joined.F.ok scJoined (fun vs H Q E h => ?_) (fun cdv A outer s H vs Q E hr h => ?_)
  · obtain ⟨p, q, s, t, rfl, _⟩ := h
    rfl
  · obtain ⟨p, q, s, t, rfl, hp, hq, k⟩ := h
    refine ⟨_, pss_one (ps_ret (pe_tup (pa_cons (pe_call T.okTraced hr rfl T.traced.m T.traced.F.kp T.traced.b .nil pass0 (pa_cons (pe_ix ix_tup (pv 1) pe_int (fun _ _ => rfl)) (pa_cons (pv 0) pa_nil)))
      (pa_cons (pe_call T.okTraced hr rfl T.traced.m T.traced.F.kp T.traced.b .nil pass0 (pa_cons (pe_ix ix_tup (pv 1) pe_int (fun _ _ => rfl)) (pa_cons (pv 0) pa_nil))) pa_nil)))), ?_⟩
    obtain ⟨a, b, h0, h1, h2⟩ := id hq
    refine ⟨_, rfl, q, _, _, _, rfl, rfl, h0, atI_nat (j := 0) rfl, _, rfl, a, p, t.1, s, rfl, h1, hp, fun r1 H1 s1 hr1 => ?_⟩
    refine ⟨_, rfl, q, _, _, _, rfl, rfl, Same.sqt s1 h0, atI_nat (j := 1) rfl, _, rfl, b, p, t.2, s, rfl, Same.sqt s1 h2, hp.same s1, fun r2 H2 s2 hr2 => ?_⟩
    refine ⟨(by show 2 ≤ sizeLine; decide), fun r hr => k r _ (s1.trans (s2.trans (Same.new hr))) ?_⟩
    exact ⟨r1, r2, SqT.of upd_same, Same.sqt (s2.trans (Same.new hr)) hr1, Same.sqt (Same.new hr) hr2⟩
def spIsTerm (K : PySem.W.Frag) : Sp := fun vs H Q _ => ∃ (v : V) (d : PyData), vs = [v] ∧ Dp K H v d ∧ SeqAt.shaped d = true ∧ Q (.bl (termD d)) H
theorem scIsTerm : FnScope ["value"] ["value"] (defScope sIsTerm) := ⟨rfl, rfl, rfl, by decide +kernel, rfl, by decide +kernel, by decide +kernel⟩
theorem TSteps.okIsTerm (T : TSteps K mg) : FnOk P w K mg base CX0 3 T.isTerm.f T.isTerm.fd ["value"] (spIsTerm K) := by
  refine T.isTerm.F.ok scIsTerm (fun vs H Q E h => ?_) (fun cdv A outer s H vs Q E hr h => ?_)
  · obtain ⟨v, d, rfl, _⟩ := h
    rfl
  · obtain ⟨v, d, rfl, hd, hsh, q⟩ := h
    refine ⟨_, pss_one (ps_ret (pe_and (pe_call T.okPair (hr.mono (by decide)) rfl T.isPair.m T.isPair.F.kp T.isPair.b .nil pass0 (pa_cons (pv 0) pa_nil)) (pe_and (pe_cmpR (op_inT (room65 hr)) (pe_ix ix_tup (pv 0) pe_int (fun _ _ => rfl)) (pe_glob (v := .ref T.words) (by rfl) T.mWords rfl) rfl)
      (pe_one (pe_call T.okNumber (hr.mono (by decide)) rfl T.isNumber.m T.isNumber.F.kp T.isNumber.b .nil pass0 (pa_cons (pe_ix ix_tup (pv 0) pe_int (fun _ _ => rfl)) pa_nil)))))), ?_⟩
    refine ⟨_, rfl, v, d, rfl, hd, _, rfl, ?_⟩
    match d, hd, hsh, q with
    | .tuple [a, b], hd, hsh, q =>
      cases hd with
      | tup s al =>
        cases al with
        | cons ha al =>
          cases al with
          | cons hb al =>
            cases al
            rename_i va vb
            refine iteTB rfl ?_
            refine ⟨_, rfl, _, _, _, _, rfl, rfl, s, atI_nat (j := 0) rfl, a, wordsD, ha, .tup (T.hWords H) (.cons (.str _) (.cons (.str _) (.cons (.str _) .nil))), (shaped_head hsh).1, by decide +kernel, _, rfl, ?_⟩
            have e2 : termD (.tuple [a, b]) = (wordsD.any (fun z => PyData.eqv z a) && numD b) := rfl
            rw [e2] at q
            cases hw : wordsD.any (fun z => PyData.eqv z a) with
            | false =>
              rw [hw] at q
              exact iteF q
            | true =>
              rw [hw] at q
              exact iteT ⟨_, rfl, _, _, _, _, rfl, rfl, s, atI_nat (j := 1) rfl, vb, b, rfl, hb, q⟩
    | .tuple [], _, _, q => exact iteFB rfl q
    | .tuple [_], _, _, q => exact iteFB rfl q
    | .tuple (x :: y :: z :: r), _, _, q => exact iteFB (show decide ((x :: y :: z :: r).length = 2) = false from decide_eq_false (by simp only [List.length_cons]; omega)) q
    | .none, _, _, q => exact iteF q
    | .bool _, _, _, q => exact iteF q
    | .int _, _, _, q => exact iteF q
    | .str _, _, _, q => exact iteF q
    | .list _, _, _, q => exact iteF q
    | .dict _, _, _, q => exact iteF q
end
end Pn.Mp

namespace Pn.Mp
open PySem L2
section
variable {P : Program} {w : World} {K : PySem.W.Frag} {mg : Str → Option Value} {base : Heap}
theorem scIMInit : FnScope ["self", "word"] ["self", "word"] (defScope sIMInit) := ⟨rfl, rfl, rfl, by decide +kernel, rfl, by decide +kernel, by decide +kernel⟩
abbrev TIM (K : PySem.W.Frag) (mg : Str → Option Value) := TExc K mg "InvalidMap" "InvalidMap.__init__" "word" sIMInit
theorem okIMInit (T : TIM K mg) : FnOk P w K mg base CX0 1 T.fI T.fd ["self", "word"] (spXInit K "word") := by
  refine T.F.ok scIMInit (fun vs H Q E h => ?_) (fun cdv A outer s H vs Q E hr h => ?_)
  · obtain ⟨a, C, v, rfl, _⟩ := h
    rfl
  · obtain ⟨a, C, v, rfl, ha, O, no, q⟩ := h
    refine ⟨_, pss_one (ps_ost (pv 0) (pv 1)), ?_⟩
    exact ⟨_, rfl, _, rfl, a, C, rfl, O, no, .inl ⟨ha, fun dx h1 h2 => q dx h1 h2⟩⟩
/-- an own exception that keeps a word leaves the def -/
def RaiseW (C : Addr) (H : Hp) (E : XK) (wd : V) : Prop := ∀ (e : Addr) (H' : Hp), Same H H' → Mo H H' → H e = none → H' e = some (.xd [("word", wd)]) → E (.ref C) (some e) H'
theorem RaiseW.back {C : Addr} {H H1 : Hp} {E : XK} {wd : V} (h : RaiseW C H E wd) (s : Same H H1) (m : Mo H H1) : RaiseW C H1 E wd := fun e H' h1 h2 h3 h4 => h e H' (s.trans h1) (m.trans h2) (m e h3) h4
theorem iw_made {C : Addr} {H H1 : Hp} {E : XK} {wd : V} (s : Same H H1) (m : Mo H H1) (h : RaiseW C H E wd) {a : Addr} (ha : H1 a = none) (dx : Addr) (h1 : (upd H1 a (exo a C none)) dx = none) (h2 : dx ≠ a) :
    E (.ref C) (some dx) (upd (del (upd (upd (upd H1 a (exo a C none)) dx (exd dx [("word", wd)])) a (exo a C (some dx))) a) dx (.xd [("word", wd)])) := by
  have hd : H1 dx = none := by rw [upd_ne h2] at h1; exact h1
  refine h dx _ (s.trans (same_made ha hd)) (m.trans fun b e => ?_) (m dx hd) upd_same
  by_cases n2 : b = dx
  · rw [n2]; exact hd
  · by_cases n1 : b = a
    · rw [n1]; exact ha
    · rw [upd_ne n2, del_ne n1, upd_ne n1, upd_ne n2, upd_ne n1] at e
      exact e
/-- all but the new instance is as it was -/
def KpI (x : Addr) (H H' : Hp) : Prop := ∀ b o, H b = some o → b ≠ x → H' b = some o
theorem kpi_same2 {H H1 : Hp} {x dx : Addr} {o o2 : HO} (hx : H x = none) (hdx : H dx = none) (k : KpI x (upd (upd H dx o) x o2) H1) : Same H H1 := fun b u e => by
  have n1 : b ≠ x := ne_of_none e hx
  have n2 : b ≠ dx := ne_of_none e hdx
  exact k b u (by rw [upd_ne n1, upd_ne n2]; exact e) n1
def insMap (C dx : Addr) (v u : V) : HO := .ins C dx (putF "box" u (putF "now" v []))
theorem map_now {v u : V} : (putF "box" u (putF "now" v ([] : List (Str × V)))).lookup ("now" : Str) = some v := by
  rw [lookup_putF, if_neg (by decide +kernel), lookup_putF, if_pos rfl]
theorem map_box {v u : V} : (putF "box" u (putF "now" v ([] : List (Str × V)))).lookup ("box" : Str) = some u := by
  rw [lookup_putF, if_pos rfl]
/-- the class of maps -/
structure TMap (K : PySem.W.Frag) (mg : Str → Option Value) : Type extends TSteps K mg where
  IM : TIM K mg
  C : Addr
  mC : mg "Map" = some (.ref C)
  fI : Addr
  fdI : FuncData
  dNow : Addr
  dBox : Addr
  hNow : ∀ H, SqT K H dNow (tv (.now, 0))
  hBox : ∀ H, SqT K H dBox (tv (.box, 0))
  FI : FunD K "__init__" "Map.__init__" (defArgs sMapInit) (defBody sMapInit) (defScope sMapInit) [.ref dNow, .ref dBox] [] fI fdI
  bI : Binds K fdI ["self", "now", "box"] []
  ds0 : List Value
  v0 : Vals [V.ref dNow, V.ref dBox] ds0
  b0 : Binds K fdI ["self", "now", "box"] ds0
  ds1 : List Value
  v1 : Vals [V.ref dBox] ds1
  b1 : Binds K fdI ["self", "now", "box"] ds1
  M : Mk K C fI
  cl : Cls K C
  noN : NoAttr K C "now"
  noB : NoAttr K C "box"
  sf : PySem.W.selfFirst K C = true
  kC : PySem.W.kitOne K (.ref C) (.ref C) = some true
  nC : PySem.W.notFirst K C (.ref C) = true
  cA : PySem.W.findIn K (.ref C) "__class__" = some (some (.builtin "object.__class__"))
  cN : PySem.W.specialIn K (.builtin "object.__class__") "__get__" = some (some (.builtin "getset_descriptor.__get__"))
  cT : PySem.W.takesIn K (.builtin "object.__class__") = some true
  cM : PySem.W.mroIn K C (.type "object") = some true
  ne : PySem.W.findIn K (.ref C) "__ne__" = some (some (.builtin "object.__ne__"))
  call : TMeth K C "__call__" "Map.__call__" sMapCall ["self", "number", "kept"]
  callC : StX.CallO K C call.f
  shift : TMeth K C "__rshift__" "Map.__rshift__" sMapShift ["self", "other"]
  str : TMeth K C "__str__" "Map.__str__" sMapStr ["self"]
  eq : TMeth K C "__eq__" "Map.__eq__" sMapEq ["self", "other"]
def MapAt (T : TMap K mg) (H : Hp) (x : Addr) (s : Stp) : Prop := ∃ dx a b, H x = some (insMap T.C dx (.ref a) (.ref b)) ∧ SqT K H a (tv s.1) ∧ SqT K H b (tv s.2)
theorem MapAt.same {T : TMap K mg} {H H' : Hp} {x : Addr} {s : Stp} (h : MapAt T H x s) (e : Same H H') : MapAt T H' x s := by
  obtain ⟨dx, a, b, h1, h2, h3⟩ := h
  exact ⟨dx, a, b, e _ _ h1, Same.sqt e h2, Same.sqt e h3⟩
def spMapInit (K : PySem.W.Frag) (C CR : Addr) : Sp := fun vs H Q E => ∃ (x dx : Addr) (v u : V) (d e : PyData), vs = [.ref x, v, u] ∧ H x = some (.ins C dx []) ∧ Dp K H v d ∧ SeqAt.shaped d = true ∧ Dp K H u e ∧ SeqAt.shaped e = true ∧
  (termD d = true → termD e = true → ∀ H', KpI x H H' → Mo H H' → H' x = some (insMap C dx v u) → Q .non H') ∧ (termD d = false → RaiseW CR H E (.str "now")) ∧ (termD d = true → termD e = false → RaiseW CR H E (.str "box"))
theorem scMapInit : FnScope ["self", "now", "box"] ["self", "now", "box"] (defScope sMapInit) := ⟨rfl, rfl, rfl, by decide +kernel, rfl, by decide +kernel, by decide +kernel⟩
theorem okMapInit (T : TMap K mg) : FnOk P w K mg base (L2N.CX P w) 5 T.fI T.fdI ["self", "now", "box"] (spMapInit K T.C T.IM.C) := by
  refine T.FI.ok scMapInit (fun vs H Q E h => ?_) (fun cdv A outer s H vs Q E hr h => ?_)
  · obtain ⟨x, dx, v, u, d, e, rfl, _⟩ := h
    rfl
  · obtain ⟨x, dx, v, u, d, e, rfl, hx, hd, sd, he, se, q1, q2, q3⟩ := h
    refine ⟨_, pss_cons (ps_if (pt_not (pt_val (pe_call T.okIsTerm (hr.mono (by decide)) rfl T.isTerm.m T.isTerm.F.kp T.isTerm.b .nil pass0 (pa_cons (pv 1) pa_nil))))
        (pss_one (L2N.ps_raise rfl (L2N.takes_of rfl rfl rfl rfl) (pmk_oexN T.IM.O T.IM.iC T.IM.tI (okIMInit T.IM) (hr.mono (by decide)) T.IM.b pass0 rfl T.IM.m (pa_cons pe_str pa_nil)))) pss_nil)
      (pss_cons (ps_if (pt_not (pt_val (pe_call T.okIsTerm (hr.mono (by decide)) rfl T.isTerm.m T.isTerm.F.kp T.isTerm.b .nil pass0 (pa_cons (pv 2) pa_nil))))
        (pss_one (L2N.ps_raise rfl (L2N.takes_of rfl rfl rfl rfl) (pmk_oexN T.IM.O T.IM.iC T.IM.tI (okIMInit T.IM) (hr.mono (by decide)) T.IM.b pass0 rfl T.IM.m (pa_cons pe_str pa_nil)))) pss_nil)
      (pss_cons (ps_fld (pv 0) (pv 1) rfl) (pss_one (ps_fld (pv 0) (pv 2) rfl)))), ?_⟩
    refine ⟨_, rfl, v, d, rfl, hd, sd, ?_⟩
    cases h1 : termD d with
    | false =>
      refine ⟨false, rfl, iteT ?_⟩
      exact ⟨(by show 1 ≤ 1000; decide), fun a ha => ⟨a, T.IM.C, _, rfl, upd_same, T.IM.O, T.IM.noF, fun dx g1 g2 => ⟨rfl, dx, _, upd_same, by rw [upd_ne g2, upd_same], by rw [upd_ne g2] at g1; exact g1, iw_made (Same.refl H) (Mo.refl H) (q2 h1) ha dx g1 g2⟩⟩⟩
    | true =>
      refine ⟨true, rfl, iteF ?_⟩
      refine ⟨_, rfl, u, e, rfl, he, se, ?_⟩
      cases h2 : termD e with
      | false =>
        refine ⟨false, rfl, iteT ?_⟩
        exact ⟨(by show 1 ≤ 1000; decide), fun a ha => ⟨a, T.IM.C, _, rfl, upd_same, T.IM.O, T.IM.noF, fun dx g1 g2 => ⟨rfl, dx, _, upd_same, by rw [upd_ne g2, upd_same], by rw [upd_ne g2] at g1; exact g1, iw_made (Same.refl H) (Mo.refl H) (q3 h1 h2) ha dx g1 g2⟩⟩⟩
      | true =>
        refine ⟨true, rfl, iteF ?_⟩
        refine ⟨_, rfl, _, rfl, x, T.C, dx, [], rfl, hx, T.cl, T.noN, (by show 0 < 1000; decide), _, rfl, _, rfl, x, T.C, dx, _, rfl, upd_same, T.cl, T.noB, (by show 1 < 1000; decide), ?_⟩
        refine q1 h1 h2 _ (fun b o e n => ?_) (Mo.upd.trans Mo.upd) upd_same
        rw [upd_ne n, upd_ne n]
        exact e
def spMapCall (T : TMap K mg) : Sp := fun vs H Q _ => ∃ (x : Addr) (s : Stp) (n k : Int), vs = [.ref x, .int n, .int k] ∧ MapAt T H x s ∧ ∀ r H', Same H H' → SqT K H' r [.int (reck s.1 n k), .int (reck s.2 n k)] → Q (.ref r) H'
theorem scMapCall : FnScope ["self", "number", "kept"] ["self", "number", "kept"] (defScope sMapCall) := ⟨rfl, rfl, rfl, by decide +kernel, rfl, by decide +kernel, by decide +kernel⟩
theorem okMapCall (T : TMap K mg) : FnOk P w K mg base CX0 2 T.call.f T.call.fd ["self", "number", "kept"] (spMapCall T) := by
  refine T.call.F.ok scMapCall (fun vs H Q E h => ?_) (fun cdv A outer s H vs Q E hr h => ?_)
  · obtain ⟨x, s, n, k, rfl, _⟩ := h
    rfl
  · obtain ⟨x, s, n, k, rfl, ⟨dx, a, b, hx, ha, hb⟩, q⟩ := h
    refine ⟨_, pss_one (ps_ret (pe_tup (pa_cons (pe_call T.okReck hr rfl T.reck.m T.reck.F.kp T.reck.b .nil pass0 (pa_cons (pe_fld (pv 0) rfl) (pa_cons (pv 1) (pa_cons (pv 2) pa_nil))))
      (pa_cons (pe_call T.okReck hr rfl T.reck.m T.reck.F.kp T.reck.b .nil pass0 (pa_cons (pe_fld (pv 0) rfl) (pa_cons (pv 1) (pa_cons (pv 2) pa_nil)))) pa_nil)))), ?_⟩
    refine ⟨_, rfl, x, T.C, dx, _, .ref a, rfl, hx, T.cl, T.noN, map_now, _, rfl, _, rfl, a, s.1, n, k, rfl, ha, ?_⟩
    refine ⟨_, rfl, x, T.C, dx, _, .ref b, rfl, hx, T.cl, T.noB, map_box, _, rfl, _, rfl, b, s.2, n, k, rfl, hb, ?_⟩
    exact ⟨(by show 2 ≤ sizeLine; decide), fun r hr2 => q r _ (Same.new hr2) (SqT.of upd_same)⟩
def spMapShift (T : TMap K mg) : Sp := fun vs H Q _ => ∃ (x y : Addr) (s t : Stp), vs = [.ref x, .ref y] ∧ MapAt T H x s ∧ MapAt T H y t ∧ ∀ r H', Same H H' → MapAt T H' r (join s t) → Q (.ref r) H'
theorem scMapShift : FnScope ["self", "other", "now", "box"] ["self", "other"] (defScope sMapShift) := ⟨rfl, rfl, rfl, by decide +kernel, rfl, by decide +kernel, by decide +kernel⟩
theorem map_cls (T : TMap K mg) {H : Hp} {x dx : Addr} {v u : V} (h : H x = some (insMap T.C dx v u)) : TyX K H (.ref x) (.ref T.C) := .base (.ins h T.cl T.cA T.cN T.cT T.cM)
/-- a new map of terms that stand -/
theorem map_made (T : TMap K mg) {H : Hp} {R : Addr → Hp → Prop} {a b : Addr} {s : Stp} (ha : SqT K H a (tv s.1)) (hb : SqT K H b (tv s.2)) (k : ∀ r H', Same H H' → MapAt T H' r s → R r H') :
    ∀ x dx, H x = none → H dx = none → dx ≠ x → spMapInit K T.C T.IM.C [.ref x, .ref a, .ref b] (upd (upd H dx (.own x)) x (.ins T.C dx [])) (fun v H2 => v = .non ∧ R x H2) E0 := fun x dx hx hdx ne => by
  have s1 : Same H (upd (upd H dx (.own x)) x (.ins T.C dx [])) := fun c o e => by rw [upd_ne (ne_of_none e hx), upd_ne (ne_of_none e hdx)]; exact e
  refine ⟨x, dx, _, _, tD s.1, tD s.2, rfl, upd_same, tm_dp (Same.sqt s1 ha), tD_sh _, tm_dp (Same.sqt s1 hb), tD_sh _, fun _ _ H1 kp m hi => ⟨rfl, k x H1 (kpi_same2 hx hdx kp) ?_⟩, fun z => absurd (tD_term s.1) (by rw [z]; decide), fun _ z => absurd (tD_term s.2) (by rw [z]; decide)⟩
  have s2 := kpi_same2 hx hdx kp
  exact ⟨dx, a, b, hi, Same.sqt s2 ha, Same.sqt s2 hb⟩
theorem passN0 {P : Program} {w : World} {X : Cx} : Passes (L2N.CX P w) X E0 := fun _ _ _ _ _ _ _ ⟨_, _, _, _, _, _, _, _, _, _, _, _, h⟩ => h.elim
theorem okMapShift (T : TMap K mg) : FnOk P w K mg base CX0 7 T.shift.f T.shift.fd ["self", "other"] (spMapShift T) := by
  refine T.shift.F.ok scMapShift (fun vs H Q E h => ?_) (fun cdv A outer s H vs Q E hr h => ?_)
  · obtain ⟨x, y, s, t, rfl, _⟩ := h
    rfl
  · obtain ⟨x, y, s, t, rfl, ⟨dx, a, b, hx, ha, hb⟩, ⟨dy, a', b', hy, ha', hb'⟩, q⟩ := h
    refine ⟨_, pss_cons (ps_if (pt_not (pt_val (pe_callB call_isi (by rfl) T.mIsi (by decide +kernel) (pa_cons (pv 1) (pa_cons (pe_glob (v := .ref T.C) (by rfl) T.mC rfl) pa_nil))))) pss_never pss_nil)
      (pss_cons (ps_asg (pe_call T.okJoined (hr.mono (by decide)) rfl T.joined.m T.joined.F.kp T.joined.b .nil pass0 (pa_cons (pe_tup (pa_cons (pe_fld (pv 0) rfl) (pa_cons (pe_fld (pv 0) rfl) pa_nil))) (pa_cons (pe_tup (pa_cons (pe_fld (pv 1) rfl) (pa_cons (pe_fld (pv 1) rfl) pa_nil))) pa_nil))) (pg_tup (by rfl) (pgs_cons (pg_name (i := 2) scMapShift.nd rfl (Or.inl rfl)) (pgs_cons (pg_name (i := 3) scMapShift.nd rfl (Or.inl rfl)) pgs_nil))))
      (pss_one (ps_ret (pe_make T.M (okMapInit T) hr rfl T.mC T.bI .nil passN0 (pa_cons (pv 2) (pa_cons (pv 3) pa_nil)))))), ?_⟩
    refine ⟨_, rfl, .ref y, .ref T.C, _, _, true, rfl, .own _, map_cls T hy, T.kC, true, rfl, iteF ?_⟩
    refine ⟨_, rfl, x, T.C, dx, _, .ref a, rfl, hx, T.cl, T.noN, map_now, _, rfl, x, T.C, dx, _, .ref b, rfl, hx, T.cl, T.noB, map_box, (by show 2 ≤ sizeLine; decide), fun p hp => ?_⟩
    have s1 := Same.new (o := .tup [.ref a, .ref b]) hp
    have hp1 : upd H p (.tup [.ref a, .ref b]) p = some (.tup [.ref a, .ref b]) := upd_same
    generalize upd H p (.tup [V.ref a, V.ref b]) = H1 at s1 hp1 ⊢
    refine ⟨_, rfl, y, T.C, dy, _, .ref a', rfl, s1 _ _ hy, T.cl, T.noN, map_now, _, rfl, y, T.C, dy, _, .ref b', rfl, s1 _ _ hy, T.cl, T.noB, map_box, (by show 2 ≤ sizeLine; decide), fun p2 hp2 => ?_⟩
    have s2 := s1.trans (Same.new (o := .tup [.ref a', .ref b']) hp2)
    have hp3 := (Same.new (o := .tup [.ref a', .ref b']) hp2) _ _ hp1
    have hp4 : upd H1 p2 (.tup [.ref a', .ref b']) p2 = some (.tup [.ref a', .ref b']) := upd_same
    generalize upd H1 p2 (.tup [V.ref a', V.ref b']) = H2 at s2 hp3 hp4 ⊢
    refine ⟨p, p2, s, t, rfl, ⟨a, b, SqT.of hp3, Same.sqt s2 ha, Same.sqt s2 hb⟩, ⟨a', b', SqT.of hp4, Same.sqt s2 ha', Same.sqt s2 hb'⟩, fun r H3 s3 hr3 => ?_⟩
    obtain ⟨c1, c2, k1, k2, k3⟩ := hr3
    refine ⟨r, _, rfl, k1, rfl, _, _, rfl, _, _, rfl, rfl, ?_⟩
    refine ⟨_, rfl, _, rfl, ?_⟩
    exact map_made T k2 k3 fun r' H' s' h' => q r' H' (s2.trans (s3.trans s')) h'
end
end Pn.Mp

namespace Pn.Mp
open PySem L2 TL
def numStr (n : Nat) : Str := Str.ofString (toString ((n : Nat) : Int))
theorem numStr_len {n : Nat} (h : n < 10 ^ 20) : (numStr n).length ≤ 20 := by
  rw [len_tl]
  show (tl (Str.ofString (toString ((n : Nat) : Int)))).length ≤ 20
  rw [tl_num]
  exact numL_len (by decide) h
theorem log_small {n : Nat} (h : n < 10 ^ 20) : (n : Int).natAbs.log2 < 1920 := by
  show n.log2 < 1920
  have : n < 2 ^ 1919 := Nat.lt_trans h (by decide +kernel)
  exact Nat.lt_of_lt_of_le (PySem.Flt.log2_lt_of (k := 1919) (by decide) this) (by decide)
theorem len3 {a b c : Str} (ha : a.length ≤ 200) (hb : b.length ≤ 200) (hc : c.length ≤ 200) : (((Str.empty ++ a) ++ b) ++ c).length ≤ sizeLine := by
  rw [strLen_append, strLen_append, strLen_append]
  exact Nat.le_trans (show _ ≤ 600 by have : (Str.empty : Str).length = 0 := rfl; omega) (by decide)
theorem len2 {a b : Str} (ha : a.length ≤ 200) (hb : b.length ≤ 200) : ((Str.empty ++ a) ++ b).length ≤ sizeLine := by
  rw [strLen_append, strLen_append]
  exact Nat.le_trans (show _ ≤ 400 by have : (Str.empty : Str).length = 0 := rfl; omega) (by decide)
theorem len1 {a : Str} (ha : a.length ≤ 200) : (Str.empty ++ a).length ≤ sizeLine := by
  rw [strLen_append]
  exact Nat.le_trans (show _ ≤ 200 by have : (Str.empty : Str).length = 0 := rfl; omega) (by decide)
end Pn.Mp

namespace Pn.Mp
open PySem L2
/-! ### texts of maps, == and >> of maps, as rules -/
def tmText : Tm → Str
  | (.at_, m) => (Str.empty ++ ("at " : Str)) ++ numStr m
  | (.now, m) => ((Str.empty ++ ("now" : Str)) ++ ("+" : Str)) ++ numStr m
  | (.box, m) => ((Str.empty ++ ("box" : Str)) ++ ("+" : Str)) ++ numStr m
def mapText (s : Stp) : Str := ((Str.empty ++ tmText s.1) ++ (" " : Str)) ++ tmText s.2
theorem tmText_len {t : Tm} (h : t.2 < 10 ^ 20) : (tmText t).length ≤ 100 := by
  obtain ⟨w, m⟩ := t
  have hn : (numStr m).length ≤ 20 := numStr_len h
  have e0 : (Str.empty : Str).length = 0 := rfl
  have e1 : ("at " : Str).length = 3 := by decide +kernel
  have e2 : ("now" : Str).length = 3 := by decide +kernel
  have e3 : ("box" : Str).length = 3 := by decide +kernel
  have e4 : ("+" : Str).length = 1 := by decide +kernel
  cases w with
  | at_ => show ((Str.empty ++ ("at " : Str)) ++ numStr m).length ≤ 100; rw [strLen_append, strLen_append]; omega
  | now => show (((Str.empty ++ ("now" : Str)) ++ ("+" : Str)) ++ numStr m).length ≤ 100; rw [strLen_append, strLen_append, strLen_append]; omega
  | box => show (((Str.empty ++ ("box" : Str)) ++ ("+" : Str)) ++ numStr m).length ≤ 100; rw [strLen_append, strLen_append, strLen_append]; omega
theorem wl (w : W3) : w.s.length ≤ 200 := by cases w <;> decide +kernel
theorem wl2 (w : W3) : w.s.length ≤ sizeLine := Nat.le_trans (wl w) (by decide)
def smallS (s : Stp) : Prop := s.1.2 < 10 ^ 20 ∧ s.2.2 < 10 ^ 20
section
variable {P : Program} {w : World} {K : PySem.W.Frag} {mg : Str → Option Value} {base : Heap}
def spTermText (K : PySem.W.Frag) : Sp := fun vs H Q _ => ∃ (a : Addr) (t : Tm), vs = [.ref a] ∧ SqT K H a (tv t) ∧ t.2 < 10 ^ 20 ∧ Q (.str (tmText t)) H
theorem scTermText : FnScope ["term", "word", "more"] ["term"] (defScope sTermText) := ⟨rfl, rfl, rfl, by decide +kernel, rfl, by decide +kernel, by decide +kernel⟩
theorem okTermText (T : TSteps K mg) : FnOk P w K mg base CX0 1 T.termText.f T.termText.fd ["term"] (spTermText K) := by
  refine T.termText.F.ok scTermText (fun vs H Q E h => ?_) (fun cdv A outer s H vs Q E hr h => ?_)
  · obtain ⟨a, t, rfl, _⟩ := h
    rfl
  · obtain ⟨a, t, rfl, ht, hn, q⟩ := h
    refine ⟨_, pss_cons (ps_asg (pv 0) (pg_tup (by rfl) (pgs_cons (pg_name (i := 1) scTermText.nd rfl (Or.inl rfl)) (pgs_cons (pg_name (i := 2) scTermText.nd rfl (Or.inl rfl)) pgs_nil))))
      (pss_cons (ps_if (pt_cmpR op_eq (pv 1) pe_str (nomark _)) (pss_one (ps_ret (pe_joined (.cons pe_str (.cons (pe_fmt (pv 2)) .nil))))) pss_nil)
      (pss_one (ps_ret (pe_joined (.cons (pe_fmt (pv 1)) (.cons pe_str (.cons (pe_fmt (pv 2)) .nil))))))), ?_⟩
    obtain ⟨w, m⟩ := t
    have hn' : m < 10 ^ 20 := hn
    have sn := numStr_len hn'
    have s1 : ("at " : Str).length ≤ 200 := by decide +kernel
    have s2 : ("+" : Str).length ≤ 200 := by decide +kernel
    refine ⟨_, rfl, a, _, rfl, ht, rfl, _, _, rfl, _, _, rfl, rfl, ?_⟩
    cases w with
    | at_ => exact ⟨_, rfl, rfl, _, rfl, iteTB (wd .at_ .at_) ⟨_, rfl, len1 s1, _, rfl, .inr ⟨(m : Int), rfl, log_small hn', numStr m, rfl, len2 s1 (by omega), q⟩⟩⟩
    | now => exact ⟨_, rfl, rfl, _, rfl, iteFB (wd .now .at_) ⟨_, rfl, .inl ⟨_, rfl, (wl2 .now), _, rfl, len1 (wl .now), _, rfl, len2 (wl .now) s2, _, rfl, .inr ⟨(m : Int), rfl, log_small hn', numStr m, rfl, len3 (wl .now) s2 (by omega), q⟩⟩⟩⟩
    | box => exact ⟨_, rfl, rfl, _, rfl, iteFB (wd .box .at_) ⟨_, rfl, .inl ⟨_, rfl, (wl2 .box), _, rfl, len1 (wl .box), _, rfl, len2 (wl .box) s2, _, rfl, .inr ⟨(m : Int), rfl, log_small hn', numStr m, rfl, len3 (wl .box) s2 (by omega), q⟩⟩⟩⟩
def spMapStr (T : TMap K mg) : Sp := fun vs H Q _ => ∃ (x : Addr) (s : Stp), vs = [.ref x] ∧ MapAt T H x s ∧ smallS s ∧ ∃ z, z = mapText s ∧ Q (.str z) H
theorem scMapStr : FnScope ["self"] ["self"] (defScope sMapStr) := ⟨rfl, rfl, rfl, by decide +kernel, rfl, by decide +kernel, by decide +kernel⟩
theorem okMapStr (T : TMap K mg) : FnOk P w K mg base CX0 2 T.str.f T.str.fd ["self"] (spMapStr T) := by
  refine T.str.F.ok scMapStr (fun vs H Q E h => ?_) (fun cdv A outer s H vs Q E hr h => ?_)
  · obtain ⟨x, s, rfl, _⟩ := h
    rfl
  · obtain ⟨x, s, rfl, ⟨dx, a, b, hx, ha, hb⟩, ⟨h1, h2⟩, z, rfl, q⟩ := h
    refine ⟨_, pss_one (ps_ret (pe_joined (.cons (pe_fmt (pe_call (okTermText T.toTSteps) hr rfl T.termText.m T.termText.F.kp T.termText.b .nil pass0 (pa_cons (pe_fld (pv 0) rfl) pa_nil))) (.cons pe_str (.cons (pe_fmt (pe_call (okTermText T.toTSteps) hr rfl T.termText.m T.termText.F.kp T.termText.b .nil pass0 (pa_cons (pe_fld (pv 0) rfl) pa_nil))) .nil))))), ?_⟩
    have l1 := tmText_len h1
    have l2 := tmText_len h2
    have s2 : (" " : Str).length ≤ 200 := by decide +kernel
    refine ⟨_, rfl, x, T.C, dx, _, .ref a, rfl, hx, T.cl, T.noN, map_now, a, s.1, rfl, ha, h1, .inl ⟨_, rfl, Nat.le_trans l1 (by decide), _, rfl, len1 (by omega), _, rfl, len2 (by omega) s2, ?_⟩⟩
    exact ⟨_, rfl, x, T.C, dx, _, .ref b, rfl, hx, T.cl, T.noB, map_box, b, s.2, rfl, hb, h2, .inl ⟨_, rfl, Nat.le_trans l2 (by decide), _, rfl, len3 (by omega) s2 (by omega), q⟩⟩
def spMapEq (T : TMap K mg) : Sp := fun vs H Q _ => ∃ (x : Addr) (y : V) (s : Stp), vs = [.ref x, y] ∧ MapAt T H x s ∧ ((∃ z t, y = .ref z ∧ MapAt T H z t ∧ Q (.bl (decide (s = t))) H) ∨ ∃ ty, TyX K H y ty ∧ PySem.W.kitOne K ty (.ref T.C) = some false ∧ Q (.bl false) H)
theorem scMapEq : FnScope ["self", "other"] ["self", "other"] (defScope sMapEq) := ⟨rfl, rfl, rfl, by decide +kernel, rfl, by decide +kernel, by decide +kernel⟩
theorem okMapEq (T : TMap K mg) : FnOk P w K mg base CX0 1 T.eq.f T.eq.fd ["self", "other"] (spMapEq T) := by
  refine T.eq.F.ok scMapEq (fun vs H Q E h => ?_) (fun cdv A outer s H vs Q E hr h => ?_)
  · obtain ⟨x, y, s, rfl, _⟩ := h
    rfl
  · obtain ⟨x, y, s, rfl, ⟨dx, a, b, hx, ha, hb⟩, q⟩ := h
    refine ⟨_, pss_one (ps_ret (pe_and (pe_callB call_isi (by rfl) T.mIsi (by decide +kernel) (pa_cons (pv 1) (pa_cons (pe_glob (v := .ref T.C) (by rfl) T.mC rfl) pa_nil)))
      (pe_and (pe_cmpR (op_eqD hr.units) (pe_fld (pv 0) rfl) (pe_fld (pv 1) rfl) (nomark _)) (pe_one (pe_cmpR (op_eqD hr.units) (pe_fld (pv 0) rfl) (pe_fld (pv 1) rfl) (nomark _)))))), ?_⟩
    rcases q with ⟨z, t, rfl, ⟨dy, a', b', hy, ha', hb'⟩, q⟩ | ⟨ty, h1, h2, q⟩
    · refine ⟨_, rfl, .ref z, .ref T.C, _, _, true, rfl, .own _, map_cls T hy, T.kC, true, rfl, iteT ?_⟩
      refine ⟨_, rfl, x, T.C, dx, _, .ref a, rfl, hx, T.cl, T.noN, map_now, _, rfl, z, T.C, dy, _, .ref a', rfl, hy, T.cl, T.noN, map_now, tD s.1, tD t.1, tm_dp ha, tm_dp ha', tD_sh _, tD_sh _, ?_⟩
      rw [tD_eqv]
      refine ⟨_, rfl, ?_⟩
      by_cases e : s.1 = t.1
      · refine iteTB (decide_eq_true e) ?_
        refine ⟨_, rfl, x, T.C, dx, _, .ref b, rfl, hx, T.cl, T.noB, map_box, _, rfl, z, T.C, dy, _, .ref b', rfl, hy, T.cl, T.noB, map_box, tD s.2, tD t.2, tm_dp hb, tm_dp hb', tD_sh _, tD_sh _, ?_⟩
        rw [tD_eqv]
        have e2 : decide (s = t) = decide (s.2 = t.2) := by
          by_cases e3 : s.2 = t.2
          · rw [decide_eq_true e3, decide_eq_true (Prod.ext e e3)]
          · rw [decide_eq_false e3, decide_eq_false (fun z => e3 (by rw [z]))]
        rw [e2] at q
        exact q
      · refine iteFB (decide_eq_false e) ?_
        rw [decide_eq_false (fun z : s = t => e (by rw [z]))] at q
        exact q
    · exact ⟨_, rfl, y, .ref T.C, _, _, false, rfl, .own _, h1, h2, false, rfl, iteF q⟩
end
section
variable {X : Cx}
/-- == of two maps -/
def rEqMap {K : PySem.W.Frag} {mg : Str → Option Value} (T : TMap K mg) : R2 := fun x y H Q => ∃ (a b : Addr) (s t : Stp), x = .ref a ∧ y = .ref b ∧ MapAt T H a s ∧ MapAt T H b t ∧ Q (.bl (decide (s = t))) H
def rNeMap {K : PySem.W.Frag} {mg : Str → Option Value} (T : TMap K mg) : R2 := fun x y H Q => ∃ (a b : Addr) (s t : Stp), x = .ref a ∧ y = .ref b ∧ MapAt T H a s ∧ MapAt T H b t ∧ Q (.bl (!decide (s = t))) H
def rShMap {K : PySem.W.Frag} {mg : Str → Option Value} (T : TMap K mg) : R2 := fun x y H Q => ∃ (a b : Addr) (s t : Stp), x = .ref a ∧ y = .ref b ∧ MapAt T H a s ∧ MapAt T H b t ∧ ∀ r H', Same H H' → MapAt T H' r (join s t) → Q (.ref r) H'
def rStrMap {K : PySem.W.Frag} {mg : Str → Option Value} (T : TMap K mg) : List V → Hp → VK → Prop := fun xs H Q => ∃ (a : Addr) (s : Stp), xs = [.ref a] ∧ MapAt T H a s ∧ smallS s ∧ Q (.str (mapText s)) H
theorem op_eqMap (T : TMap X.K X.mg) (hr : Room 1 X.A) : OpR X (compareOp .Eq) (rEqMap T) := by
  intro pins s σ H x y v u Q I rx ry h
  obtain ⟨a, b, sa, sb, rfl, rfl, ha, hb, q⟩ := h
  obtain ⟨dx, _, _, hx, _⟩ := id ha
  obtain ⟨dy, _, _, hy, _⟩ := id hb
  exact op_eqIns (okMapEq T) T.eq.hf hr T.eq.b pass0 pins s σ H _ _ v u Q I rx ry ⟨a, _, dx, _, rfl, hx, T.eq.hs, .inr ⟨b, _, dy, _, rfl, hy, T.nC⟩, a, _, sa, rfl, ha, .inl ⟨b, sb, rfl, hb, q⟩⟩
theorem op_neMap (T : TMap X.K X.mg) (hr : Room 2 X.A) : OpR X (compareOp .NotEq) (rNeMap T) := by
  intro pins s σ H x y v u Q I rx ry h
  obtain ⟨a, b, sa, sb, rfl, rfl, ha, hb, q⟩ := h
  obtain ⟨dx, _, _, hx, _⟩ := id ha
  obtain ⟨dy, _, _, hy, _⟩ := id hb
  exact op_neIns (okMapEq T) T.eq.hf hr T.eq.b pass0 pins s σ H _ _ v u Q I rx ry ⟨a, _, dx, _, rfl, hx, T.eq.hs, T.ne, T.cM, .inr ⟨b, _, dy, _, rfl, hy, T.nC⟩, a, _, sa, rfl, ha, .inl ⟨b, sb, rfl, hb, _, rfl, q⟩⟩
theorem op_shMap (T : TMap X.K X.mg) (hr : Room 7 X.A) : OpR X (binaryOp .RShift) (rShMap T) := by
  intro pins s σ H x y v u Q I rx ry h
  obtain ⟨a, b, sa, sb, rfl, rfl, ha, hb, q⟩ := h
  obtain ⟨dx, _, _, hx, _⟩ := id ha
  obtain ⟨dy, _, _, hy, _⟩ := id hb
  exact op_binIns (okMapShift T) T.shift.hf hr T.shift.b pass0 pins s σ H _ _ v u Q I rx ry ⟨a, b, _, dx, dy, _, _, rfl, rfl, hx, hy, T.sf, T.shift.hs, a, b, sa, sb, rfl, ha, hb, q⟩
theorem call_strMap (T : TMap X.K X.mg) (hr : Room 4 X.A) : CallR X (.type "str") (rStrMap T) := by
  intro pins s σ H xs us Q I r h
  obtain ⟨a, sa, rfl, ha, hs, q⟩ := h
  obtain ⟨dx, _, _, hx, _⟩ := id ha
  exact call_strIns (okMapStr T) T.str.hf hr T.str.b pass0 pins s σ H _ us Q I r ⟨a, _, dx, _, rfl, hx, T.str.hs, a, sa, rfl, ha, hs, _, rfl, _, rfl, q⟩
end
end Pn.Mp

namespace Pn.Mp
open PySem L2
/-! ### steps one behind another -/
def one1 : Stp := ((.now, 0), (.box, 0))
def act (s : Stp) (p : Int × Int) : Int × Int := (reck s.1 p.1 p.2, reck s.2 p.1 p.2)
theorem reck_trace (t : Tm) (s : Stp) (n k : Int) : reck (trace t s) n k = reck t (reck s.1 n k) (reck s.2 n k) := by
  obtain ⟨w, m⟩ := t
  obtain ⟨⟨w1, m1⟩, ⟨w2, m2⟩⟩ := s
  cases w
  · cases w1 <;> simp only [trace, reck] <;> omega
  · cases w2 <;> simp only [trace, reck] <;> omega
  · rfl
theorem act_join (s t : Stp) (p : Int × Int) : act (join s t) p = act t (act s p) := by
  unfold act join
  rw [reck_trace, reck_trace]
theorem trace_trace (t : Tm) (s r : Stp) : trace (trace t s) r = trace t (join r s) := by
  obtain ⟨w, m⟩ := t
  obtain ⟨⟨w1, m1⟩, ⟨w2, m2⟩⟩ := s
  obtain ⟨⟨w3, m3⟩, ⟨w4, m4⟩⟩ := r
  cases w
  · cases w1 <;> simp [trace, join, Nat.add_assoc]
  · cases w2 <;> simp [trace, join, Nat.add_assoc]
  · rfl
theorem join_assoc (r s t : Stp) : join (join r s) t = join r (join s t) := by
  show (trace t.1 (join r s), trace t.2 (join r s)) = (trace (trace t.1 s) r, trace (trace t.2 s) r)
  rw [trace_trace, trace_trace]
theorem join_one (s : Stp) : join s one1 = s := by
  obtain ⟨⟨w1, m1⟩, ⟨w2, m2⟩⟩ := s
  simp [join, one1, trace]
theorem one_join (s : Stp) : join one1 s = s := by
  obtain ⟨⟨w1, m1⟩, ⟨w2, m2⟩⟩ := s
  cases w1 <;> cases w2 <;> simp [join, one1, trace]
/-- a step n times -/
def pow (s : Stp) : Nat → Stp
  | 0 => one1
  | n + 1 => join (pow s n) s
theorem pow_add (s : Stp) (m : Nat) : ∀ n, pow s (m + n) = join (pow s m) (pow s n)
  | 0 => (join_one _).symm
  | n + 1 => by
    show join (pow s (m + n)) s = join (pow s m) (join (pow s n) s)
    rw [pow_add s m n, join_assoc]
theorem pow_one (s : Stp) : pow s 1 = s := one_join s
theorem pow_succ' (s : Stp) (n : Nat) : pow s (n + 1) = join s (pow s n) := by rw [Nat.add_comm, pow_add, pow_one]
theorem pow_two (s : Stp) : pow s 2 = join s s := by
  show join (pow s 1) s = _
  rw [pow_one]
theorem pow_sq (s : Stp) : ∀ n, pow (join s s) n = pow s (2 * n)
  | 0 => rfl
  | n + 1 => by
    show join (pow (join s s) n) (join s s) = _
    rw [pow_sq s n, show 2 * (n + 1) = 2 * n + 2 from rfl, pow_add, pow_two]
/-- one turn of the binary count -/
theorem pow_turn (s R p : Stp) (n l : Nat) (h : join R (pow p l) = pow s n) : join (if l % 2 = 1 then join R p else R) (pow (join p p) (l / 2)) = pow s n := by
  rw [pow_sq]
  by_cases e : l % 2 = 1
  · rw [if_pos e, join_assoc, ← pow_succ', show 2 * (l / 2) + 1 = l by omega]
    exact h
  · rw [if_neg e, show 2 * (l / 2) = l by omega]
    exact h
theorem pow_now (k : Nat) : ∀ n, pow ((.now, k), (.box, 0)) n = ((.now, n * k), (.box, 0))
  | 0 => by rw [Nat.zero_mul]; rfl
  | n + 1 => by
    show join (pow ((.now, k), (.box, 0)) n) ((.now, k), (.box, 0)) = _
    rw [pow_now k n, Nat.succ_mul]
    rfl
theorem pow_both : ∀ n, pow ((.now, 2), (.box, 2)) n = ((.now, 2 * n), (.box, 2 * n))
  | 0 => rfl
  | n + 1 => by
    show join (pow ((.now, 2), (.box, 2)) n) ((.now, 2), (.box, 2)) = _
    rw [pow_both n]
    rfl
theorem pow_swap (n : Nat) : pow ((.box, 1), (.now, 1)) (2 * n) = ((.now, 2 * n), (.box, 2 * n)) := by
  rw [← pow_sq]
  exact pow_both n
/-- the steps of a list, one behind another -/
def joins (l : List Stp) : Stp := l.foldl join one1
theorem foldl_join (l : List Stp) : ∀ s, l.foldl join s = join s (joins l) := by
  induction l with
  | nil => exact fun s => (join_one s).symm
  | cons a l ih =>
    intro s
    show l.foldl join (join s a) = join s (l.foldl join (join one1 a))
    rw [ih, ih, one_join, join_assoc]
theorem joins_cons (a : Stp) (l : List Stp) : joins (a :: l) = join a (joins l) := by
  show l.foldl join (join one1 a) = _
  rw [one_join, foldl_join]
theorem joins_snoc (l : List Stp) (a : Stp) : joins (l ++ [a]) = join (joins l) a := by
  unfold joins
  rw [List.foldl_append]
  rfl
theorem joins_act (l : List Stp) : ∀ p, act (joins l) p = l.foldl (fun p s => act s p) p := by
  induction l with
  | nil =>
    intro p
    show (p.1 + ((0 : Nat) : Int), p.2 + ((0 : Nat) : Int)) = p
    simp
  | cons a l ih =>
    intro p
    rw [joins_cons, act_join, ih]
    rfl
/-- how large the numbers of steps are -/
def lim (B : Nat) (s : Stp) : Prop := s.1.2 ≤ B ∧ s.2.2 ≤ B
theorem lim_join {A B : Nat} {s t : Stp} (hs : lim A s) (ht : lim B t) : lim (A + B) (join s t) := by
  have one : ∀ {u : Tm}, u.2 ≤ B → (trace u s).2 ≤ A + B := fun {u} hu => by
    obtain ⟨w, m⟩ := u
    have hu' : m ≤ B := hu
    cases w with
    | now => exact Nat.add_le_add hs.1 hu'
    | box => exact Nat.add_le_add hs.2 hu'
    | at_ => exact Nat.le_trans hu' (Nat.le_add_left _ _)
  exact ⟨one ht.1, one ht.2⟩
end Pn.Mp

namespace Pn
open PySem PySem.Spec PyProof.Rows L2 TL
abbrev sAlong : Stmt := top 69
abbrev sMapOf : Stmt := top 70
/-! ### steps along a part: the model -/
def ownM : RowD → Mp.Stp
  | .set _ n => ((.at_, n), (.box, 0))
  | .keep _ => ((.now, 0), (.now, 0))
  | .back _ => ((.box, 0), (.box, 0))
  | r => ((.now, goOn r), (.box, 0))
def stepM (r : RowD) (ch : List Str) (own : Str) : Mp.Stp := match cntOf r with
  | none => Mp.one1
  | some c => if c ∈ ch then (if c = own then ownM r else if 0 < goOn r then ((.at_, 0), (.box, 0)) else Mp.one1) else Mp.one1
def toT (t : Mp.Tm) : Trm := (t.1.s, (t.2 : Int))
def toR (s : Mp.Stp) : Trm × Trm := (toT s.1, toT s.2)
theorem ownT_M (r : RowD) : ownT r = toR (ownM r) := by cases r <;> rfl
theorem stepR_M (r : RowD) (ch : List Str) (own : Str) : stepR r ch own = toR (stepM r ch own) := by
  unfold stepR stepM
  cases cntOf r with
  | none => rfl
  | some c =>
    show (if c ∈ ch then (if c = own then ownT r else if 0 < goOn r then (("at", 0), ("box", 0)) else stayT) else stayT) = toR (if c ∈ ch then (if c = own then ownM r else if 0 < goOn r then ((.at_, 0), (.box, 0)) else Mp.one1) else Mp.one1)
    by_cases h1 : c ∈ ch
    · rw [if_pos h1, if_pos h1]
      by_cases h2 : c = own
      · rw [if_pos h2, if_pos h2]
        exact ownT_M r
      · rw [if_neg h2, if_neg h2]
        by_cases h3 : 0 < goOn r
        · rw [if_pos h3, if_pos h3]; rfl
        · rw [if_neg h3, if_neg h3]; rfl
    · rw [if_neg h1, if_neg h1]; rfl
theorem reck_M (t : Mp.Tm) (n k : Int) : reckT (toT t) n k = Mp.reck t n k := by
  obtain ⟨w, m⟩ := t
  unfold reckT toT
  cases w with
  | now => exact if_pos rfl
  | box =>
    show (if ("box" : Str) = "now" then _ else if ("box" : Str) = "box" then k + (m : Int) else _) = k + (m : Int)
    rw [if_neg (by decide +kernel), if_pos rfl]
  | at_ =>
    show (if ("at" : Str) = "now" then _ else if ("at" : Str) = "box" then _ else (m : Int)) = (m : Int)
    rw [if_neg (by decide +kernel), if_neg (by decide +kernel)]
theorem done_M (r : RowD) (c : Chn) (s : Int × Int) : doneOne r c s = Mp.act (stepM r c.1 c.2) s := by
  unfold doneOne Mp.act
  rw [stepR_M]
  show (reckT (toT (stepM r c.1 c.2).1) s.1 s.2, reckT (toT (stepM r c.1 c.2).2) s.1 s.2) = _
  rw [reck_M, reck_M]
theorem step_mp {K : PySem.W.Frag} {H : Hp} {a : Addr} {s : Mp.Stp} (h : StepAt K H a (toR s)) : Mp.StepAt K H a s := by
  obtain ⟨b, c, h1, h2, h3⟩ := h
  exact ⟨b, c, h1, h2, h3⟩
/-- what stands in the dict of steps -/
abbrev KnM := List (Str × Option Mp.Stp)
def alongM (kn : KnM) (ch : List Str) (own : Str) (w : Mp.Stp) : List RowD → Option Mp.Stp
  | [] => some w
  | r :: rs => match r with
    | .opn _ => none
    | .put z => ((kn.lookup z).getD none).bind fun s => alongM kn ch own (Mp.join w s) rs
    | r => alongM kn ch own (Mp.join w (stepM r ch own)) rs
def VAt (K : PySem.W.Frag) (H : Hp) (v : V) : Option Mp.Stp → Prop
  | none => v = .non
  | some s => ∃ a, v = .ref a ∧ Mp.StepAt K H a s
theorem VAt.same {K : PySem.W.Frag} {H H' : Hp} {v : V} {o : Option Mp.Stp} (h : VAt K H v o) (s : Same H H') : VAt K H' v o := by
  cases o with
  | none => exact h
  | some t =>
    obtain ⟨a, e, z⟩ := h
    exact ⟨a, e, z.same s⟩
def StepsAt (K : PySem.W.Frag) (H : Hp) (p : Addr) (kn : KnM) : Prop := ∃ kvs : List (Key × V), H p = some (.dK kvs) ∧ ∀ z, z ∈ kn.map (·.1) → ∃ v o, valV kvs (.inr z) = some v ∧ kn.lookup z = some o ∧ VAt K H v o
theorem StepsAt.same {K : PySem.W.Frag} {H H' : Hp} {p : Addr} {kn : KnM} (h : StepsAt K H p kn) (s : Same H H') : StepsAt K H' p kn := by
  obtain ⟨kvs, h1, h2⟩ := h
  refine ⟨kvs, s _ _ h1, fun z hz => ?_⟩
  obtain ⟨v, o, a, b, c⟩ := h2 z hz
  exact ⟨v, o, a, b, c.same s⟩
def isOpn : RowD → Bool
  | .opn _ => true
  | _ => false
/-- the steps of rows one behind another -/
def stepsM (ch : List Str) (own : Str) (rs : List RowD) : Mp.Stp := Mp.joins (rs.map fun r => stepM r ch own)
def outM (ch : List Str) (own : Str) (rs : List RowD) : Option Mp.Stp := if rs.any isOpn = true then none else some (stepsM ch own rs)
theorem joins_app (a b : List Mp.Stp) : Mp.joins (a ++ b) = Mp.join (Mp.joins a) (Mp.joins b) := by
  unfold Mp.joins
  rw [List.foldl_append, Mp.foldl_join]
  rfl
theorem stepsM_app (ch : List Str) (own : Str) (a b : List RowD) : stepsM ch own (a ++ b) = Mp.join (stepsM ch own a) (stepsM ch own b) := by
  unfold stepsM
  rw [List.map_append, joins_app]
theorem stepsM_one (ch : List Str) (own : Str) (r : RowD) : stepsM ch own [r] = stepM r ch own := by
  show Mp.join Mp.one1 (stepM r ch own) = _
  exact Mp.one_join _
theorem lookup_map {kn : List PartD} {f : List RowD → Option Mp.Stp} (z : Str) : (kn.map fun p => (p.1, f p.2)).lookup z = (kn.lookup z).map f := by
  induction kn with
  | nil => rfl
  | cons p kn ih =>
    rw [List.map_cons, List.lookup_cons, List.lookup_cons]
    by_cases h : z = p.1
    · rw [h, beq_self_eq_true]; rfl
    · rw [beq_eq_false_iff_ne.mpr h]; exact ih
theorem along_eq {kn : List PartD} {ch : List Str} {own : Str} : ∀ {rs : List RowD}, (∀ z, RowD.put z ∈ rs → z ∈ kn.map (·.1)) → ∀ w, alongM (kn.map fun p => (p.1, outM ch own p.2)) ch own w rs = if (unrollIn kn rs).any isOpn = true then none else some (Mp.join w (stepsM ch own (unrollIn kn rs)))
  | [], _, w => by
    show some w = some (Mp.join w Mp.one1)
    rw [Mp.join_one]
  | r :: rs, h, w => by
    have ih := along_eq (kn := kn) (ch := ch) (own := own) (rs := rs) fun z hz => h z (List.mem_cons_of_mem _ hz)
    have eu : unrollIn kn (r :: rs) = expand kn r ++ unrollIn kn rs := rfl
    rw [eu, List.any_append, stepsM_app]
    have other : (∀ z, r ≠ .opn z) → (∀ z, r ≠ .put z) → alongM (kn.map fun p => (p.1, outM ch own p.2)) ch own w (r :: rs) = alongM (kn.map fun p => (p.1, outM ch own p.2)) ch own (Mp.join w (stepM r ch own)) rs ∧ expand kn r = [r] ∧ isOpn r = false := fun h1 h2 => by
      cases r with
      | opn z => exact absurd rfl (h1 z)
      | put z => exact absurd rfl (h2 z)
      | note _ _ => exact ⟨rfl, rfl, rfl⟩
      | skip _ _ => exact ⟨rfl, rfl, rfl⟩
      | set _ _ => exact ⟨rfl, rfl, rfl⟩
      | keep _ => exact ⟨rfl, rfl, rfl⟩
      | back _ => exact ⟨rfl, rfl, rfl⟩
      | ref _ => exact ⟨rfl, rfl, rfl⟩
    by_cases ho : ∃ z, r = .opn z
    · obtain ⟨z, rfl⟩ := ho
      show none = if (([RowD.opn z] : List RowD).any isOpn || _) = true then none else _
      exact (if_pos rfl).symm
    · by_cases hp : ∃ z, r = .put z
      · obtain ⟨z, rfl⟩ := hp
        obtain ⟨ys, e1, e2⟩ := lookup_of_mem (h z List.mem_cons_self)
        have ex : expand kn (.put z) = ys := by
          show (kn.lookup z).getD [] = ys
          rw [e1]
          rfl
        rw [ex]
        show (((kn.map fun p => (p.1, outM ch own p.2)).lookup z).getD none).bind (fun s => alongM _ ch own (Mp.join w s) rs) = _
        rw [lookup_map, e1]
        show (outM ch own ys).bind _ = _
        cases ha : ys.any isOpn with
        | true =>
          have eo : outM ch own ys = none := if_pos ha
          rw [eo, Bool.true_or, if_pos rfl]
          rfl
        | false =>
          have eo : outM ch own ys = some (stepsM ch own ys) := if_neg (by rw [ha]; exact Bool.false_ne_true)
          rw [eo, Bool.false_or]
          show alongM _ ch own (Mp.join w (stepsM ch own ys)) rs = _
          rw [ih]
          by_cases hb : (unrollIn kn rs).any isOpn = true
          · rw [if_pos hb, if_pos hb]
          · rw [if_neg hb, if_neg hb, Mp.join_assoc]
      · obtain ⟨e1, e2, e3⟩ := other (fun z e => ho ⟨z, e⟩) (fun z e => hp ⟨z, e⟩)
        rw [e1, e2, ih, stepsM_one]
        have ea : ([r] : List RowD).any isOpn = false := by
          show (isOpn r || false) = false
          rw [e3]; rfl
        rw [ea, Bool.false_or]
        by_cases hb : (unrollIn kn rs).any isOpn = true
        · rw [if_pos hb, if_pos hb]
        · rw [if_neg hb, if_neg hb, Mp.join_assoc]
/-- the dict of steps behind some parts -/
def knOf (ch : List Str) (own : Str) (bk : List PartD) : KnM := (knowns bk).map fun p => (p.1, outM ch own p.2)
theorem knOf_snoc {ch : List Str} {own : Str} {bk : List PartD} {p : PartD} (h : ∀ z, RowD.put z ∈ p.2 → z ∈ bk.map (·.1)) : knOf ch own (bk ++ [p]) = (p.1, alongM (knOf ch own bk) ch own Mp.one1 p.2) :: knOf ch own bk := by
  unfold knOf
  rw [knowns_snoc, List.map_cons]
  rw [along_eq fun z hz => by rw [knowns_len]; exact List.mem_reverse.mpr (h z hz)]
  rw [Mp.one_join]
  rfl
end Pn

namespace Pn
open PySem PySem.Spec PyProof.Rows L2 TL
theorem cut_toF (xs : List V) (i : Nat) : cutV xs none (some (i : Int)) = xs.take i := by
  unfold cutV
  rw [HT.sIx_none, HT.sIx_nat, List.drop_zero, Nat.sub_zero]
  rcases Nat.le_total i xs.length with h | h
  · rw [Nat.min_eq_left h]
  · rw [Nat.min_eq_right h, List.take_of_length_le (Nat.le_refl _), List.take_of_length_le h]
theorem slTo_go {K : PySem.W.Frag} {H : Hp} {a : Addr} {xs : List V} {m : Nat} {Q : VK} (h : SqT K H a xs) (q : ∀ (b : Addr) (H' : Hp), Same H H' → SqT K H' b (xs.take m) → Q (.ref b) H') : rSlA K (.ref a) none (some (m : Int)) H Q := by
  refine ⟨a, xs, rfl, h, fun hw => q a H (Same.refl _) ?_, fun _ p hp => q p _ (Same.new hp) ?_⟩
  · have e := hw.2
    rw [HT.sIx_nat] at e
    rw [List.take_of_length_le (by omega)]
    exact h
  · rw [← cut_toF]
    exact SqT.of upd_same
end Pn

namespace Pn
open PySem PySem.Spec PyProof.Rows L2 TL
/-! ### step_along and map_of -/
structure TAlong {K : PySem.W.Frag} {mg : Str → Option Value} {R : TRows K mg} {T : TPart R} (B : TBk T) : Type where
  N : TNum1 B
  M : Mp.TMap K mg
  G : TBNum B
  along : At K mg "step_along" sAlong ["part", "chain", "steps"]
  mapOf : At K mg "map_of" sMapOf ["book", "name", "counter"]
def stepIn (kn : KnM) (ch : List Str) (own : Str) : RowD → Option Mp.Stp
  | .opn _ => none
  | .put z => (kn.lookup z).getD none
  | r => some (stepM r ch own)
theorem along_cons (kn : KnM) (ch : List Str) (own : Str) (w : Mp.Stp) (r : RowD) (rs : List RowD) : alongM kn ch own w (r :: rs) = (stepIn kn ch own r).bind fun s => alongM kn ch own (Mp.join w s) rs := by cases r <;> rfl
def isPutM : RowD → Bool
  | .put _ => true
  | _ => false
theorem put_wordB (r : RowD) : decide (V.str (rowWord r) = V.str "put") = isPutM r := by
  cases r <;> first | exact (by decide +kernel : decide (V.str "note" = V.str "put") = false) | exact (by decide +kernel : decide (V.str "skip" = V.str "put") = false) | exact (by decide +kernel : decide (V.str "set" = V.str "put") = false) | exact (by decide +kernel : decide (V.str "keep" = V.str "put") = false) | exact (by decide +kernel : decide (V.str "back" = V.str "put") = false) | exact (by decide +kernel : decide (V.str "ref" = V.str "put") = false) | exact (by decide +kernel : decide (V.str "put" = V.str "put") = true) | exact (by decide +kernel : decide (V.str "open" = V.str "put") = false)
theorem opn_wordB (r : RowD) : decide (V.str (rowWord r) = V.str "open") = isOpn r := by
  cases r <;> first | exact (by decide +kernel : decide (V.str "note" = V.str "open") = false) | exact (by decide +kernel : decide (V.str "skip" = V.str "open") = false) | exact (by decide +kernel : decide (V.str "set" = V.str "open") = false) | exact (by decide +kernel : decide (V.str "keep" = V.str "open") = false) | exact (by decide +kernel : decide (V.str "back" = V.str "open") = false) | exact (by decide +kernel : decide (V.str "ref" = V.str "open") = false) | exact (by decide +kernel : decide (V.str "put" = V.str "open") = false) | exact (by decide +kernel : decide (V.str "open" = V.str "open") = true)
theorem stepNoR {tt : TT} {A B : TS} {D : Ends} {σ : L2.St} {H : Hp} (G : Hp → Prop) (h1 : ∀ nx : L2.St → Hp → Prop, (∀ H', G H' → nx σ H') → tt σ H fun b H' => if b = true then A { D with nx := nx } σ H' else nx σ H') (h2 : ∀ H', G H' → B D σ H') : tSeq (tIfS tt A tNext) B D σ H := h1 (B D) h2
theorem stepIfS {tt : TT} {A B : TS} {D : Ends} {σ : L2.St} {H : Hp} (G : L2.St → Hp → Prop) (h1 : ∀ nx : L2.St → Hp → Prop, (∀ σ' H', G σ' H' → nx σ' H') → tt σ H fun b H' => if b = true then A { D with nx := nx } σ H' else nx σ H') (h2 : ∀ σ' H', G σ' H' → B D σ' H') : tSeq (tIfS tt A tNext) B D σ H := h1 (B D) h2
section
variable {P : Program} {w : World} {K : PySem.W.Frag} {mg : Str → Option Value} {base : Heap} {R : TRows K mg} {T : TPart R} {B : TBk T}
def spAlong {R : TRows K mg} (T : TPart R) : Sp := fun vs H Q _ => ∃ (x k p : Addr) (n z : Str) (rs : List RowD) (ch : List Str) (kn : KnM), vs = [.ref x, .ref k, .ref p] ∧ PtAt T H x n rs ∧ SqT K H k (ch.map V.str) ∧ EndAt ch z ∧ StepsAt K H p kn ∧ (∀ y, RowD.put y ∈ rs → y ∈ kn.map (·.1)) ∧
  ∀ v H', Same H H' → VAt K H' v (alongM kn ch z Mp.one1 rs) → Q v H'
theorem scAlong : FnScope ["part", "chain", "steps", "whole", "row", "step"] ["part", "chain", "steps"] (defScope sAlong) := ⟨rfl, rfl, rfl, by decide +kernel, rfl, by decide +kernel, by decide +kernel⟩
theorem ok_along (G : TAlong B) : FnOk P w K mg base CX0 4 G.along.f G.along.fd ["part", "chain", "steps"] (spAlong T) := by
  refine G.along.F.ok scAlong (fun vs H Q E h => ?_) (fun cdv A outer s H vs Q E hr h => ?_)
  · obtain ⟨x, k, p, n, z, rs, ch, kn, rfl, _⟩ := h
    rfl
  · obtain ⟨x, k, p, n, z, rs, ch, kn, rfl, hx, hk, hz, hst, hpu, q⟩ := h
    refine ⟨_, (pss_cons (ps_set (i := 3) scAlong.nd rfl (Or.inl rfl) (pe_glob (v := .ref G.N.sy) (by rfl) G.N.mSY rfl))
(pss_cons (ps_for PassesOwn.never rfl (pi_tup (pe_fld (pv 0) rfl)) (pg_name (i := 4) scAlong.nd rfl (Or.inl rfl))
(pss_cons (ps_set (i := 5) scAlong.nd rfl (Or.inl rfl) (pe_call (ok_stepOf G.N) (hr.mono (by decide)) rfl G.N.step.m G.N.step.F.kp G.N.step.b .nil pass0 (pa_cons (pv 4) (pa_cons (pv 1) pa_nil))))
(pss_cons (ps_if (pt_cmpR op_eq (pe_fld (pv 4) rfl) pe_str (nomark _)) (pss_one (ps_set (i := 5) scAlong.nd rfl (Or.inl rfl) (pe_dget (roomU hr) (pv 2) (pe_fld (pv 4) rfl) (fun _ _ => rfl)))) pss_nil)
(pss_cons (ps_if (PW.pt (pw_or (pt_cmpR op_eq (pe_fld (pv 4) rfl) pe_str (nomark _)) (pw_or1 (pt_cmpR op_isN (pv 5) pe_non (nomark _))))) (pss_one (ps_ret pe_non)) pss_nil)
(pss_one (ps_set (i := 3) scAlong.nd rfl (Or.inl rfl) (pe_call G.M.okJoined (hr.mono (by decide)) rfl G.M.joined.m G.M.joined.F.kp G.M.joined.b .nil pass0 (pa_cons (pv 3) (pa_cons (pv 5) pa_nil)))))))))
(pss_one (ps_ret (pv 3))))), ?_⟩
    obtain ⟨dx, tp, us, e1, e2, e3⟩ := hx
    have lu : us.length = rs.length := paired_len e3
    have hst0 : Mp.StepAt K H G.N.sy Mp.one1 := step_mp (G.N.hSY H)
    try dsimp only [List.set]
    refine ⟨_, rfl, x, T.C, dx, _, .ref tp, rfl, e1, T.cl, T.noR, part_rows, tp, rfl, ⟨_, e2⟩, for_tup (xs := us.map V.ref) (fun i σ Hx => ∃ y4 y5 wa w, σ = [some (.ref x), some (.ref k), some (.ref p), some (.ref wa), y4, y5] ∧ Same H Hx ∧ Mp.StepAt K Hx wa w ∧ alongM kn ch z Mp.one1 rs = alongM kn ch z w (rs.drop i)) ⟨_, _, _, _, rfl, Same.refl _, hst0, by rw [List.drop_zero]⟩ (fun i σ Hx _ hP => by obtain ⟨_, _, _, _, _, s, _⟩ := hP; exact Same.sqt s e2) (fun i y σ Hx hy hP => ?turn) (fun σ Hx hP => ?fin)⟩
    case fin =>
      obtain ⟨y4, y5, wa, w, rfl, sx, hw, he⟩ := hP
      refine ⟨_, rfl, q _ _ sx ?_⟩
      rw [he, List.length_map, lu, List.drop_length]
      exact ⟨wa, rfl, hw⟩
    case turn =>
    obtain ⟨y4, y5, wa, w, rfl, sx, hw, he⟩ := hP
    rw [List.getElem?_map] at hy
    obtain ⟨u, hu, rfl⟩ := Option.map_eq_some_iff.mp hy
    obtain ⟨r, hr1, hr2⟩ := paired_at e3 hu
    obtain ⟨lt, er⟩ := List.getElem?_eq_some_iff.mp hr1
    have ed : rs.drop i = r :: rs.drop (i + 1) := by rw [List.drop_eq_getElem_cons lt, er]
    rw [ed, along_cons] at he
    have hrm : r ∈ rs := List.mem_of_getElem? hr1
    try dsimp only [List.set]
    refine stepSet (fun v H' => ∃ t : Addr, v = .ref t ∧ Same Hx H' ∧ Mp.StepAt K H' t (stepM r ch z)) (fun Q' hQ => ?c1) (fun v H1 hC => ?r1)
    case c1 =>
      refine ⟨_, rfl, _, rfl, u, k, r, ch, z, rfl, hr2.same sx, Same.sqt sx hk, hz, fun t H' s' ht => hQ _ _ ⟨t, rfl, s', ?_⟩⟩
      rw [stepR_M] at ht
      exact step_mp ht
    case r1 =>
    obtain ⟨t, rfl, s1, ht⟩ := hC
    try dsimp only [List.set]
    have hrow := (hr2.same sx).same s1
    have hst1 := (hst.same sx).same s1
    have hw1 := hw.same s1
    have sx1 := sx.trans s1
    clear hw hst0 s1 sx
    refine stepIfS (fun σ' H' => ∃ v5, σ' = [some (.ref x), some (.ref k), some (.ref p), some (.ref wa), some (.ref u), some v5] ∧ H' = H1 ∧ (isOpn r = false → VAt K H1 v5 (stepIn kn ch z r))) (fun nx hN => ?c2) (fun σ2 H2 hG => ?r2)
    case c2 =>
      obtain ⟨dy, fs, f1, f2, f3, f4⟩ := at_word R hrow
      refine ⟨_, rfl, u, clsOf R r, dy, fs, .str (rowWord r), rfl, f1, f2, f3, f4, rfl, _, rfl, ?_⟩
      cases hp : isPutM r with
      | false =>
        refine iteFD (by rw [put_wordB]; exact hp) (hN _ _ ⟨_, rfl, rfl, fun ho => ?_⟩)
        cases r with
        | put y => cases hp
        | opn y => cases ho
        | note _ _ => exact ⟨t, rfl, ht⟩
        | skip _ _ => exact ⟨t, rfl, ht⟩
        | set _ _ => exact ⟨t, rfl, ht⟩
        | keep _ => exact ⟨t, rfl, ht⟩
        | back _ => exact ⟨t, rfl, ht⟩
        | ref _ => exact ⟨t, rfl, ht⟩
      | true =>
        refine iteTD (by rw [put_wordB]; exact hp) ?_
        cases r with
        | put y =>
          obtain ⟨kvs, k1, k2⟩ := hst1
          obtain ⟨v, o, v1, v2, v3⟩ := k2 y (hpu y hrm)
          obtain ⟨dz, fz, g1, g2, g3, g4⟩ := at_part R hrow
          refine ⟨_, rfl, _, rfl, u, _, dz, fz, .str y, rfl, g1, g2, g3, g4, p, v, rfl, by rw [← v1]; exact DGet.k (k := Sum.inr y) k1, ?_⟩
          refine hN _ _ ⟨v, rfl, rfl, fun _ => ?_⟩
          show VAt K H1 v ((kn.lookup y).getD none)
          rw [v2]
          exact v3
        | _ => cases hp
    case r2 =>
    obtain ⟨v5, rfl, rfl, hv⟩ := hG
    obtain ⟨dy, fs, f1, f2, f3, f4⟩ := at_word R hrow
    refine stepNoR (fun H' => H' = H2 ∧ ∃ s5 a5, stepIn kn ch z r = some s5 ∧ v5 = .ref a5 ∧ Mp.StepAt K H2 a5 s5) (fun nx hN => ?c3) (fun H3 hG => ?r3)
    case c3 =>
      refine ⟨_, rfl, u, clsOf R r, dy, fs, .str (rowWord r), rfl, f1, f2, f3, f4, rfl, _, rfl, ?_⟩
      cases ho : isOpn r with
      | true =>
        refine iteTD (by rw [opn_wordB]; exact ho) (iteT ?_)
        refine q _ _ sx1 ?_
        rw [he]
        cases r with
        | opn y => exact rfl
        | _ => cases ho
      | false =>
        refine iteFD (by rw [opn_wordB]; exact ho) ?_
        have hv := hv ho
        cases hs : stepIn kn ch z r with
        | none =>
          rw [hs] at hv he
          refine ⟨_, rfl, rfl, _, rfl, iteTD (decide_eq_true hv) ?_⟩
          refine q _ _ sx1 ?_
          rw [he]
          exact rfl
        | some s5 =>
          rw [hs] at hv
          obtain ⟨a5, e5, h5⟩ := hv
          exact ⟨_, rfl, rfl, _, rfl, iteFD (decide_eq_false fun e => by rw [e5] at e; cases e) (hN _ ⟨rfl, s5, a5, hs, e5, h5⟩)⟩
    case r3 =>
    obtain ⟨rfl, s5, a5, hs, rfl, h5⟩ := hG
    rw [hs] at he
    refine ⟨_, rfl, _, rfl, wa, a5, w, s5, rfl, hw1, h5, fun r' H' s' hr' => ?_⟩
    exact ⟨_, _, r', _, rfl, sx1.trans s', hr', he⟩
theorem sqt_dkA {H : Hp} {D a : Addr} {kvs : List (Key × V)} {o : HO} {xs : List V} (hD : H D = some (.dK kvs)) (h : SqT K H a xs) : SqT K (upd H D o) a xs := by
  rcases h with (s | ⟨u, s⟩) | s
  · exact .inl (.inl (by rw [upd_ne fun z => by rw [z, hD] at s; cases s]; exact s))
  · exact .inl (.inr ⟨u, by rw [upd_ne fun z => by rw [z, hD] at s; cases s]; exact s⟩)
  · exact .inr s
theorem VAt.put {H : Hp} {D : Addr} {kvs : List (Key × V)} {u : HO} {v : V} {o : Option Mp.Stp} (hD : H D = some (.dK kvs)) (h : VAt K H v o) : VAt K (upd H D u) v o := by
  cases o with
  | none => exact h
  | some s =>
    obtain ⟨a, e, b, c, h1, h2, h3⟩ := h
    exact ⟨a, e, b, c, sqt_dkA hD h1, sqt_dkA hD h2, sqt_dkA hD h3⟩
theorem sqt_hidA {H : Hp} {D a : Addr} {kvs : List (Key × V)} {xs : List V} (hD : H D = some (.dK kvs)) (h : SqT K H a xs) : SqT K (hid H D) a xs := by
  rcases h with (s | ⟨u, s⟩) | s
  · exact .inl (.inl (hid_get s fun z => by rw [z, hD] at s; cases s))
  · exact .inl (.inr ⟨u, hid_get s fun z => by rw [z, hD] at s; cases s⟩)
  · exact .inr s
theorem hid_putA {H : Hp} {p : Addr} {o : HO} : Same (hid H p) (hid (upd H p o) p) := fun a u e => by
  have n := hid_ne e
  exact hid_get (by rw [upd_ne n]; exact hid_sub _ _ e) n
theorem putK_lenA {k : Key} {v : V} : ∀ {kvs : List (Key × V)}, (putK kvs k v).length ≤ kvs.length + 1 := by
  intro kvs
  unfold putK
  split
  · rw [List.length_map]; omega
  · rw [List.length_append]; exact Nat.le_refl _
theorem climb_lastA {cs : List (Str × Str)} {z : Str} {l : List Str} (h : Climb cs z l) : EndAt l.reverse z := by
  obtain ⟨r, e⟩ := h.head
  exact ⟨r.reverse, by rw [e, List.reverse_cons]⟩
theorem hid_upA {A B : Hp} (s : Same A B) (p : Addr) : Same (hid A p) (hid B p) := fun _ _ e => hid_get (s _ _ (hid_sub _ _ e)) (hid_ne e)
def spMapOf {R : TRows K mg} {T : TPart R} (B : TBk T) (M : Mp.TMap K mg) : Sp := fun vs H Q _ => ∃ (a : Addr) (n c : Str) (cs : List (Str × Str)) (bk : List PartD) (l : List Str) (s : Mp.Stp), vs = [.ref a, .str n, .str c] ∧ BookAt B H a cs bk ∧ CsOk cs ∧ Climb cs c l ∧ l.length ≤ 1000 ∧
  n ∈ bk.map (·.1) ∧ (bk.map (·.1)).Nodup ∧ Earlier bk ∧ bk.length ≤ 50 ∧ outM l.reverse c (unrolled (bk.take (numOf bk n + 1))) = some s ∧ ∀ r H', Same H H' → Mp.MapAt M H' r s → Q (.ref r) H'
theorem scMapOf : FnScope ["book", "name", "counter", "number", "chain", "steps", "part", "now", "box"] ["book", "name", "counter"] (defScope sMapOf) := ⟨rfl, rfl, rfl, by decide +kernel, rfl, by decide +kernel, by decide +kernel⟩
theorem knOf_names (ch : List Str) (own : Str) (bk : List PartD) : (knOf ch own bk).map (·.1) = (bk.map (·.1)).reverse := by
  unfold knOf
  rw [List.map_map, ← knowns_len]
  rfl
theorem ok_mapOf (G : TAlong B) : FnOk P w K mg base CX0 7 G.mapOf.f G.mapOf.fd ["book", "name", "counter"] (spMapOf B G.M) := by
  refine G.mapOf.F.ok scMapOf (fun vs H Q E h => ?_) (fun cdv A outer s H vs Q E hr h => ?_)
  · obtain ⟨a, n, c, cs, bk, l, st, rfl, _⟩ := h
    rfl
  · obtain ⟨a, n, c, cs, bk, l, st, rfl, hB, ok, hcl, hl, hn, nd, ear, b50, ho, q⟩ := h
    refine ⟨_, (pss_cons (ps_set (i := 3) scMapOf.nd rfl (Or.inl rfl) (pe_meth (pv 0) B.cl ⟨G.G.num.hs, G.G.num.hf, G.G.num.F.kp⟩ (ok_bNum G.G) (hr.mono (by decide)) G.G.num.b .nil pass0 (pa_cons (pv 1) pa_nil)))
(pss_cons (ps_set (i := 4) scMapOf.nd rfl (Or.inl rfl) (pe_meth (pv 0) B.cl ⟨B.chain.hs, B.chain.hf, B.chain.F.kp⟩ (ok_bChain B) (hr.mono (by decide)) B.chain.b .nil pass0 (pa_cons (pv 2) pa_nil)))
(pss_cons (ps_set (i := 5) scMapOf.nd rfl (Or.inl rfl) pe_dnewK)
(pss_cons (ps_for PassesOwn.never rfl (pi_tup (pe_slice sl_tupA (pe_fld (pv 0) rfl) po_none (po_some (pe_op op_add (pv 3) pe_int)))) (pg_name (i := 6) scMapOf.nd rfl (Or.inl rfl))
(pss_one (ps_dput (roomU hr) (pv 5) (pe_fld (pv 6) rfl) (pe_call (ok_along G) (hr.mono (by decide)) rfl G.along.m G.along.F.kp G.along.b .nil pass0 (pa_cons (pv 6) (pa_cons (pv 4) (pa_cons (pv 5) pa_nil)))) (by rfl))))
(pss_cons (ps_if (pt_cmpR op_isN (pe_dget (roomU hr) (pv 5) (pv 1) (fun _ _ => rfl)) pe_non (nomark _)) (pss_one ps_never) pss_nil)
(pss_cons (ps_asg (pe_dget (roomU hr) (pv 5) (pv 1) (fun _ _ => rfl)) (pg_tup (by rfl) (pgs_cons (pg_name (i := 7) scMapOf.nd rfl (Or.inl rfl)) (pgs_cons (pg_name (i := 8) scMapOf.nd rfl (Or.inl rfl)) pgs_nil))))
(pss_one (ps_ret (pe_make G.M.M (Mp.okMapInit G.M) (hr.mono (by decide)) rfl G.M.mC G.M.bI .nil Mp.passN0 (pa_cons (pv 7) (pa_cons (pv 8) pa_nil))))))))))), ?_⟩
    obtain ⟨p0, hp0, ep0, hlt⟩ := numOf_at hn
    generalize hm : numOf bk n = m at ho hp0 hlt
    refine stepSet (fun v H' => v = .int (m : Int) ∧ Same H H') (fun Q' hQ => ?c1) (fun v H1 hC => ?r1)
    case c1 =>
      obtain ⟨dx, fx, hex, hlk⟩ := book_inst2 (x := "number_of") hB (by decide +kernel)
      exact ⟨_, rfl, a, dx, fx, rfl, hex, hlk, _, rfl, a, n, cs, bk, rfl, hB, hn, fun H' s' => hQ _ _ ⟨by rw [hm], s'⟩⟩
    case r1 =>
    obtain ⟨rfl, s1⟩ := hC
    try dsimp only [List.set]
    have hB1 := hB.same s1
    refine stepSet (fun v H' => ∃ k : Addr, v = .ref k ∧ Same H1 H' ∧ SqT K H' k (l.reverse.map V.str)) (fun Q' hQ => ?c2) (fun v H2 hC => ?r2)
    case c2 =>
      obtain ⟨dx, fx, hex, hlk⟩ := book_inst2 (x := "chain") hB1 (by decide +kernel)
      exact ⟨_, rfl, a, dx, fx, rfl, hex, hlk, _, rfl, a, cs, bk, c, l, rfl, hB1, ok, hcl, hl, fun k H' s' hk => hQ _ _ ⟨k, rfl, s', hk⟩⟩
    case r2 =>
    obtain ⟨k, rfl, s2, hk⟩ := hC
    try dsimp only [List.set]
    have hB2 := hB1.same s2
    have s02 := s1.trans s2
    clear hB1 hB s1 s2
    refine stepSet (fun v H' => ∃ p : Addr, v = .ref p ∧ H2 p = none ∧ H' = upd H2 p (.dK [])) (fun Q' hQ => ?c3) (fun v H3 hC => ?r3)
    case c3 => exact fun p hp => hQ _ _ ⟨p, rfl, hp, rfl⟩
    case r3 =>
    obtain ⟨p, rfl, hp, rfl⟩ := hC
    try dsimp only [List.set]
    have z2 := Same.new (o := .dK []) hp
    have hS3 : Same H2 (hid (upd H2 p (.dK [])) p) := fun b u e => hid_get (z2 _ _ e) (ne_of_none e hp)
    have hst3 : StepsAt K (upd H2 p (.dK [])) p (knOf l.reverse c (bk.take 0)) := ⟨[], upd_same, fun z hz => by cases hz⟩
    obtain ⟨dx, ct, pt, ft, ts, ps, us, ha, _, ⟨hpt, hps⟩, _, _⟩ := hB2
    have pl : ps.length = bk.length := paired_len hps
    have lastN : ∀ i, i < bk.length → ∀ q, bk[i]? = some q → q.1 ∉ (bk.take i).map (·.1) := fun i hi q hq hm' => by
      obtain ⟨y, hy, e⟩ := List.mem_map.mp hm'
      obtain ⟨j, hj⟩ := List.getElem?_of_mem hy
      have jl := (List.getElem?_eq_some_iff.mp hj).1
      rw [List.length_take] at jl
      rw [List.getElem?_take_of_lt (by omega)] at hj
      have a1 : (bk.map (·.1))[i]? = some q.1 := by rw [List.getElem?_map, hq]; rfl
      have a2 : (bk.map (·.1))[j]? = some q.1 := by rw [List.getElem?_map, hj, ← e]; rfl
      obtain ⟨b1, c1⟩ := List.getElem?_eq_some_iff.mp a1
      obtain ⟨b2, c2⟩ := List.getElem?_eq_some_iff.mp a2
      have := (List.getElem_inj nd).mp (c1.trans c2.symm)
      omega
    refine ⟨_, rfl, a, B.C, dx, _, .ref pt, rfl, z2 _ _ ha, B.cl, B.noP, book_p, _, rfl, _, _, rfl, rfl, _, rfl, ?_⟩
    refine slTo_go (m := m + 1) (Same.sqt z2 hpt) fun pb H4 s4 hpb => ?_
    have hS4 : Same H2 (hid H4 p) := hS3.trans (hid_upA s4 p)
    have hst4 := hst3.same s4
    have hps2 : Paired (fun u (q : PartD) => PtAt T H2 u q.1 q.2) (ps.take (m + 1)) (bk.take (m + 1)) := paired_take (m + 1) hps
    have pl2 : (ps.take (m + 1)).length = (bk.take (m + 1)).length := paired_len hps2
    rw [← List.map_take] at hpb
    refine ⟨pb, rfl, ⟨_, hpb⟩, for_tup (xs := (ps.take (m + 1)).map V.ref) (fun i σ Hx => ∃ y6 y7 y8, σ = [some (.ref a), some (.str n), some (.str c), some (.int (m : Int)), some (.ref k), some (.ref p), y6, y7, y8] ∧ Same H2 (hid Hx p) ∧ Same (hid H4 p) (hid Hx p) ∧ StepsAt K Hx p (knOf l.reverse c (bk.take i)) ∧ ∃ kvs, Hx p = some (.dK kvs) ∧ kvs.length ≤ i) ⟨_, _, _, rfl, hS4, Same.refl _, hst4, _, s4 _ _ upd_same, Nat.le_refl _⟩ (fun i σ Hx _ hP => ?stays) (fun i y σ Hx hy hP => ?turn) (fun σ Hx hP => ?fin)⟩
    case stays =>
      obtain ⟨_, _, _, _, _, hX, _⟩ := hP
      exact Same.sqt (hX.trans hid_sub) (sqt_hidA (s4 _ _ upd_same) hpb)
    case turn =>
      obtain ⟨y6, y7, y8, rfl, hS, hX, hst, kvs0, hk0, hkl⟩ := hP
      rw [List.getElem?_map] at hy
      obtain ⟨u, hu, rfl⟩ := Option.map_eq_some_iff.mp hy
      obtain ⟨q1, hq1, hq2⟩ := paired_at hps2 hu
      have il := (List.getElem?_eq_some_iff.mp hq1).1
      rw [List.length_take] at il
      rw [List.getElem?_take_of_lt (by omega)] at hq1
      have up := hS.trans (hid_sub (H := Hx) (b := p))
      have hpu : ∀ y, RowD.put y ∈ q1.2 → y ∈ (bk.take i).map (·.1) := ear i q1 hq1
      have ks : knOf l.reverse c (bk.take (i + 1)) = (q1.1, alongM (knOf l.reverse c (bk.take i)) l.reverse c Mp.one1 q1.2) :: knOf l.reverse c (bk.take i) := by
        rw [List.take_add_one, hq1]
        exact knOf_snoc hpu
      try dsimp only [List.set]
      refine ⟨_, rfl, _, rfl, _, rfl, u, k, p, q1.1, c, q1.2, l.reverse, knOf l.reverse c (bk.take i), rfl, hq2.same up, Same.sqt up hk, climb_lastA hcl, hst, (fun y hy => by rw [knOf_names]; exact List.mem_reverse.mpr (hpu y hy)), fun v H5 s5 hv => ?_⟩
      obtain ⟨dy, tp, us2, hpu1, _⟩ := (hq2.same up).same s5
      obtain ⟨kvs, hk1, hkv⟩ := hst.same s5
      have hk05 := s5 _ _ hk0
      obtain rfl : kvs = kvs0 := by rw [hk1] at hk05; injection hk05 with e; injection e
      refine ⟨_, rfl, _, rfl, u, T.C, dy, _, .str q1.1, rfl, hpu1, T.cl, T.noN, part_name, p, _, rfl, DPut.k (k := Sum.inr q1.1) hk1 ?_, _, _, _, rfl, ?_, ?_, ?_, _, upd_same, ?_⟩
      · have : (60 : Nat) ≤ sizeLine := by decide
        omega
      · exact hS.trans ((hid_upA s5 p).trans hid_putA)
      · exact hX.trans ((hid_upA s5 p).trans hid_putA)
      · rw [ks]
        refine ⟨_, upd_same, fun z hz => ?_⟩
        rw [valV_put, List.lookup_cons]
        by_cases ez : z = q1.1
        · refine ⟨v, _, if_pos (by rw [ez]), by rw [ez, beq_self_eq_true], hv.put hk1⟩
        · rcases List.mem_cons.mp hz with e | hz
          · exact absurd e ez
          · obtain ⟨v0, o0, a1, a2, a3⟩ := hkv z hz
            exact ⟨v0, o0, by rw [if_neg (fun e => ez (by injection e))]; exact a1, by rw [beq_eq_false_iff_ne.mpr ez]; exact a2, a3.put hk1⟩
      · exact Nat.le_trans putK_lenA (by omega)
    case fin =>
      obtain ⟨y6, y7, y8, rfl, hS, hX, hst, kvs0, hk0, hkl⟩ := hP
      have el : ((ps.take (m + 1)).map V.ref).length = m + 1 := by rw [List.length_map, pl2, List.length_take]; omega
      rw [el] at hst
      have ek : (knOf l.reverse c (bk.take (m + 1))).lookup n = some (some st) := by
        rw [List.take_add_one, hp0]
        show ((knowns (bk.take m ++ [p0])).map _).lookup n = _
        rw [knowns_snoc, List.map_cons, List.lookup_cons, ep0, beq_self_eq_true]
        have eu : unrolled (bk.take (m + 1)) = unrollIn (knowns (bk.take m)) p0.2 := by
          unfold unrolled
          rw [List.take_add_one, hp0]
          show ((knowns (bk.take m ++ [p0])).head?.map _).getD [] = _
          rw [knowns_snoc]
          rfl
        rw [← ho, eu]
      have hst' := hst
      obtain ⟨kvs, hk1, hkv⟩ := hst'
      obtain ⟨v, o, v1, v2, v3⟩ := hkv n (by
        rw [knOf_names, List.mem_reverse, List.take_add_one, hp0]
        exact List.mem_map.mpr ⟨p0, List.mem_append_right _ List.mem_cons_self, ep0⟩)
      rw [ek] at v2
      cases v2
      obtain ⟨sa, rfl, b, c', h1, h2, h3⟩ := v3
      have up := hS.trans (hid_sub (H := Hx) (b := p))
      try dsimp only [List.set]
      refine stepNoR (fun H' => H' = Hx) (fun nx hN => ?c5) (fun H6 hG => ?r5)
      case c5 =>
        refine ⟨_, rfl, _, rfl, p, _, rfl, by rw [← v1]; exact DGet.k (k := Sum.inr n) hk1, rfl, _, rfl, iteFD rfl (hN _ rfl)⟩
      case r5 =>
      subst hG
      refine ⟨_, rfl, _, rfl, p, _, rfl, by rw [← v1]; exact DGet.k (k := Sum.inr n) hk1, sa, _, rfl, h1, rfl, _, _, rfl, _, _, rfl, rfl, ?_⟩
      try dsimp only [List.set]
      refine ⟨_, rfl, _, rfl, ?_⟩
      exact Mp.map_made G.M h2 h3 fun r' H' s' h' => q r' H' ((s02.trans up).trans s') h'
end
end Pn

namespace Pn
open PySem PySem.Spec PyProof.Rows L2 TL
abbrev sGone : Stmt := top 85
/-! ### the law's own run over rows -/
structure TGone (K : PySem.W.Frag) (mg : Str → Option Value) extends TDP K mg where
  mDict : mg "dict" = none
  mList : mg "list" = none
theorem act_one (p : Int × Int) : Mp.act Mp.one1 p = p := by
  show (p.1 + 0, p.2 + 0) = p
  rw [Int.add_zero, Int.add_zero]
theorem steps_snoc {ch : List Str} {own : Str} {rs : List RowD} {i : Nat} {r : RowD} (h : rs[i]? = some r) (p : Int × Int) : Mp.act (stepsM ch own (rs.take (i + 1))) p = Mp.act (stepM r ch own) (Mp.act (stepsM ch own (rs.take i)) p) := by
  rw [List.take_add_one, h]
  show Mp.act (stepsM ch own (rs.take i ++ [r])) p = _
  rw [stepsM_app, Mp.act_join, stepsM_one]
def isRefB : RowD → Bool
  | .ref _ => true
  | _ => false
theorem refB_head (r : RowD) : decide (V.str (headW r) = V.str "ref") = isRefB r := by
  cases r <;> first | exact (by decide +kernel : decide (V.str "note" = V.str "ref") = false) | exact (by decide +kernel : decide (V.str "skip" = V.str "ref") = false) | exact (by decide +kernel : decide (V.str "set" = V.str "ref") = false) | exact (by decide +kernel : decide (V.str "keep" = V.str "ref") = false) | exact (by decide +kernel : decide (V.str "back" = V.str "ref") = false) | exact (by decide +kernel : decide (V.str "ref" = V.str "ref") = true) | exact (by decide +kernel : decide (V.str "put" = V.str "ref") = false) | exact (by decide +kernel : decide (V.str "open" = V.str "ref") = false)
section
variable {P : Program} {w : World} {K : PySem.W.Frag} {mg : Str → Option Value} {base : Heap}
def spGone (K : PySem.W.Frag) : Sp := fun vs H Q _ => ∃ (t c pl fl : Addr) (cs : List (Str × Str)) (rs : List RowD) (z : Str) (l : List Str) (n k : Int), vs = [.ref t, .ref fl, .str z, .int n, .int k] ∧ SqT K H t [.ref c, .ref pl] ∧ CsAt H c cs ∧ CsOk cs ∧ (∀ y ∈ cs.map (·.1), ∃ l, Climb cs y l) ∧ Climb cs z l ∧ z ∈ cs.map (·.1) ∧
  LstAt H fl rs ∧ (∀ r ∈ rs, PlayRow cs r) ∧ (∀ r ∈ rs, isRefB r = true ∨ ∃ w, cntOf r = some w) ∧ ∀ a H', Same H H' → SqT K H' a [.int (Mp.act (stepsM l.reverse z rs) (n, k)).1, .int (Mp.act (stepsM l.reverse z rs) (n, k)).2] → Q (.ref a) H'
theorem scGone : FnScope ["_law_told", "_law_rows", "_law_word", "_law_number", "_law_kept", "_law_numbers", "_law_boxes", "_law_row_here", "_law_one", "_law_upper"] ["_law_told", "_law_rows", "_law_word", "_law_number", "_law_kept"] (defScope sGone) := ⟨rfl, rfl, rfl, by decide +kernel, rfl, by decide +kernel, by decide +kernel⟩
theorem ok_gone (Y : TGone K mg) {f : Addr} {fd : FuncData} (F : Fun K "_law_gone" "_law_gone" sGone f fd) : FnOk P w K mg base CX0 3 f fd ["_law_told", "_law_rows", "_law_word", "_law_number", "_law_kept"] (spGone K) := by
  refine F.ok scGone (fun vs H Q E h => ?_) (fun cdv A outer s H vs Q E hr h => ?_)
  · obtain ⟨t, c, pl, fl, cs, rs, z, l, n, k, rfl, _⟩ := h
    rfl
  · obtain ⟨t, c, pl, fl, cs, rs, z, l, n, k, rfl, ht, hc, ok, hex, hl, hz, hfl, hrow, hcnt, q⟩ := h
    refine ⟨_, (pss_cons (ps_set (i := 5) scGone.nd rfl (Or.inl rfl) (pe_callTy (call_dictP rfl) (by rfl) Y.mDict (by decide +kernel) (pa_cons (pe_lc (own := [("_law_one", 8), ("_law_upper", 9)]) (g := gTup K 2 (gCons (gName 8) (gCons (gName 9) gNil))) (tt := tYes) (by rfl) scGone.nd (pi_list (pe_ix ix_tup (pv 0) pe_int (fun _ _ => rfl)))
 (blkOk_by (N := ["_law_told", "_law_rows", "_law_word", "_law_number", "_law_kept", "_law_numbers", "_law_boxes", "_law_row_here", "_law_one", "_law_upper"]) (sc := defScope sGone) (by decide +kernel)) (fun _ _ _ _ _ => (pg_tup (by rfl) (pgs_cons (pg_name (i := 8) scGone.nd rfl (Or.inl rfl)) (pgs_cons (pg_name (i := 9) scGone.nd rfl (Or.inl rfl)) pgs_nil)))) (fun _ _ _ _ _ => pts_nil) (fun _ _ _ _ _ => (pe_tup (pa_cons (pv 8) (pa_cons pe_int pa_nil))))) pa_nil)))
(pss_cons (ps_set (i := 6) scGone.nd rfl (Or.inl rfl) (pe_callTy (call_dictP rfl) (by rfl) Y.mDict (by decide +kernel) (pa_cons (LiI.pe_listItems rfl (pv 5) (by rfl) Y.mList (by decide +kernel)) pa_nil)))
(pss_cons (ps_dput (roomU hr) (pv 5) (pv 2) (pv 3) (by rfl))
(pss_cons (ps_dput (roomU hr) (pv 6) (pv 2) (pv 4) (by rfl))
(pss_cons (ps_for PassesOwn.never rfl (pi_list (pv 1)) (pg_name (i := 7) scGone.nd rfl (Or.inl rfl))
(pss_one (ps_if (pt_cmpR op_ne (pe_ix ix_tup (pv 7) pe_int (fun _ _ => rfl)) pe_str (nomark _)) (pss_one (ps_expr (pe_call (ok_doneD Y.toTDP) (hr.mono (by decide)) rfl Y.done.m Y.done.F.kp Y.done.b .nil pass0 (pa_cons (pv 0) (pa_cons (pv 5) (pa_cons (pv 6) (pa_cons (pv 7) pa_nil))))))) pss_nil)))
(pss_one (ps_ret (pe_tup (pa_cons (pe_dget (roomU hr) (pv 5) (pv 2) (fun _ _ => rfl)) (pa_cons (pe_dget (roomU hr) (pv 6) (pv 2) (fun _ _ => rfl)) pa_nil)))))))))), ?_⟩
    have two : 2 ≤ sizeLine := by decide
    have big : (2000 : Nat) ≤ sizeLine := by decide
    obtain ⟨ts0, hcl, hct⟩ := id hc
    have htl : ts0.length = cs.length := paired_len hct
    have cl100 := ok.len
    have nd : (cs.map (·.1)).Nodup := ok.nd
    have pz : ∀ {H' : Hp} {ps : List Addr}, Paired (fun t z => H' t = some (.tup [.str z, .int 0])) ps (cs.map (·.1)) → Paired (fun (p : Addr) (kv : Key × V) => SqT K H' p [kV kv.1, kv.2]) ps (dictF (cs.map (·.1)) fun _ => 0) := fun {H' ps} h => by
      unfold dictF
      generalize cs.map (·.1) = zs at h
      induction h with
      | nil => exact .nil
      | cons a b ih => exact .cons (SqT.of a) ih
    refine stepSet (fun v H' => ∃ np : Addr, v = .ref np ∧ Same H H' ∧ H np = none ∧ H' np = some (.dK (dictF (cs.map (·.1)) fun _ => 0))) (fun Q' hQ => ?c1) (fun v H1 hC => ?r1)
    case c1 =>
      dsimp only [tCB, tCons, tNil]
      refine lcw_objs (K := K) (tl := tOp (rIxT K) (tVar 0) (tC (V.int 0))) (p := c) (xs := ts0.map V.ref) (cs := cs.map (·.1)) (R := fun H t z => H t = some (.tup [.str z, .int 0])) (fun s e => s _ _ e (fun xs z => by cases z)) (fun R z => ⟨_, rfl, t, _, _, .ref c, rfl, rfl, ht, rfl, z⟩) (SqL.of hcl) (by rw [List.length_map]; omega) (by rw [List.length_map, List.length_map, htl]) ?tn ?fn
      case fn =>
        intro D H' ps hD sD hDl hps
        refine ⟨D, ps, _, rfl, SqL.of hDl, pz hps, fun kp hkp => hQ _ _ ⟨kp, rfl, sD.trans (Same.new hkp), sD.free hkp, ?_⟩⟩
        rw [merge_dictF nd]
        exact upd_same
      case tn =>
        intro i x y Hi S Y hx hy sI hh
        rw [List.getElem?_map] at hx
        obtain ⟨u, hu, rfl⟩ := Option.map_eq_some_iff.mp hx
        obtain ⟨p, hp, hup⟩ := paired_at hct hu
        have ez : p.1 = y := by
          rw [List.getElem?_map, hp] at hy
          exact Option.some.inj hy
        exact ⟨u, _, rfl, SqT.of (sI _ _ hup), rfl, _, _, rfl, _, _, rfl, rfl, rfl, _, rfl, two, fun t' ht' => hh t' _ (Same.new ht') (by rw [upd_same, ← ez])⟩
    case r1 =>
    obtain ⟨np, rfl, s1, hn1, hnp⟩ := hC
    try dsimp only [List.set]
    refine stepSet (fun v H' => ∃ bp : Addr, v = .ref bp ∧ Same H1 H' ∧ H1 bp = none ∧ H' bp = some (.dK (dictF (cs.map (·.1)) fun _ => 0))) (fun Q' hQ => ?c2) (fun v H2 hC => ?r2)
    case c2 =>
      refine ⟨_, rfl, np, _, rfl, hnp, fun H' p ts k1 k2 k3 k4 k5 k6 => ?_⟩
      have sH : Same H1 H' := fun b o e => k1 b o e
      refine ⟨p, ts, _, rfl, SqL.of k5, paired_mono (fun _ _ z => SqT.of z) k6, fun kp hkp => hQ _ _ ⟨kp, rfl, sH.trans (Same.new hkp), sH.free hkp, ?_⟩⟩
      rw [merge_dictF nd]
      exact upd_same
    case r2 =>
    obtain ⟨bp, rfl, s2, hn2, hbp⟩ := hC
    try dsimp only [List.set]
    have hnp2 := s2 _ _ hnp
    have nb : np ≠ bp := fun e => by rw [e, hn2] at hnp; cases hnp
    have nbH : H bp = none := s1.free hn2
    have sz : Same H (zz H2 np bp) := fun a o e => zz_get (s2 _ _ (s1 _ _ e)) (ne_of_none e hn1) (ne_of_none e nbH)
    have dl : ∀ f : Str → Int, (dictF (cs.map (·.1)) f).length < sizeLine := fun f => by
      unfold dictF
      rw [List.length_map, List.length_map]
      omega
    refine ⟨_, rfl, _, rfl, _, rfl, np, _, rfl, DPut.k (k := Sum.inr z) hnp2 (dl _), ?_⟩
    rw [dictF_put hz]
    have hnp3 : (upd H2 np (.dK (dictF (cs.map (·.1)) fun y => if y = z then n else 0))) np = some (.dK (dictF (cs.map (·.1)) fun y => if y = z then n else 0)) := upd_same
    have hbp3 : (upd H2 np (.dK (dictF (cs.map (·.1)) fun y => if y = z then n else 0))) bp = some (.dK (dictF (cs.map (·.1)) fun _ => 0)) := by rw [upd_ne nb.symm]; exact hbp
    refine ⟨_, rfl, _, rfl, _, rfl, bp, _, rfl, DPut.k (k := Sum.inr z) hbp3 (dl _), ?_⟩
    rw [dictF_put hz]
    have sz3 : Same H (zz (upd (upd H2 np (.dK (dictF (cs.map (·.1)) fun y => if y = z then n else 0))) bp (.dK (dictF (cs.map (·.1)) fun y => if y = z then k else 0))) np bp) := (sz.trans zz_putb).trans zz_put
    have hnp4 : (upd (upd H2 np (.dK (dictF (cs.map (·.1)) fun y => if y = z then n else 0))) bp (.dK (dictF (cs.map (·.1)) fun y => if y = z then k else 0))) np = some (.dK (dictF (cs.map (·.1)) fun y => if y = z then n else 0)) := by rw [upd_ne nb]; exact hnp3
    have hbp4 : (upd (upd H2 np (.dK (dictF (cs.map (·.1)) fun y => if y = z then n else 0))) bp (.dK (dictF (cs.map (·.1)) fun y => if y = z then k else 0))) bp = some (.dK (dictF (cs.map (·.1)) fun y => if y = z then k else 0)) := upd_same
    generalize upd (upd H2 np (.dK (dictF (cs.map (·.1)) fun y => if y = z then n else 0))) bp (.dK (dictF (cs.map (·.1)) fun y => if y = z then k else 0)) = H3 at sz3 hnp4 hbp4 ⊢
    clear hbp3 hnp3 sz hnp2 hbp hnp s2 s1
    obtain ⟨us, hu1, hu2⟩ := hfl
    have lu : us.length = rs.length := paired_len hu2
    have fld : ∀ Hx, Same H (zz Hx np bp) → SqL K Hx fl (us.map V.ref) := fun Hx s => SqL.of (zz_sub _ _ (s _ _ hu1))
    refine ⟨_, rfl, fl, rfl, ⟨_, fld _ sz3⟩, for_list (xs := us.map V.ref) (fun i σ Hx => ∃ (y7 y8 y9 : Option V) (f g : Str → Int), σ = [some (.ref t), some (.ref fl), some (.str z), some (.int n), some (.int k), some (.ref np), some (.ref bp), y7, y8, y9] ∧ Same H (zz Hx np bp) ∧ Hx np = some (.dK (dictF (cs.map (·.1)) f)) ∧ Hx bp = some (.dK (dictF (cs.map (·.1)) g)) ∧ (f z, g z) = Mp.act (stepsM l.reverse z (rs.take i)) (n, k)) ⟨_, _, _, _, _, rfl, sz3, hnp4, hbp4, ?base⟩ (fun i σ Hx _ hP => ?stays) (fun i y σ Hx hy hP => ?turn) (fun σ Hx hP => ?fin)⟩
    case base =>
      rw [List.take_zero]
      show ((if z = z then n else 0), (if z = z then k else 0)) = Mp.act Mp.one1 (n, k)
      rw [if_pos rfl, if_pos rfl, act_one]
    case stays =>
      obtain ⟨_, _, _, _, _, _, s, _⟩ := hP
      exact fld _ s
    case turn =>
      obtain ⟨y7, y8, y9, f, g, rfl, sx, h1, h2, he⟩ := hP
      rw [List.getElem?_map] at hy
      obtain ⟨u, hu, rfl⟩ := Option.map_eq_some_iff.mp hy
      obtain ⟨r, hr1, hr2⟩ := paired_at hu2 hu
      have hrm := List.mem_of_getElem? hr1
      try dsimp only [List.set]
      refine ⟨_, rfl, u, _, _, .str (headW r), rfl, rfl, SqT.of (zz_sub _ _ (sx _ _ hr2)), (by cases r <;> rfl), rfl, _, rfl, ?_⟩
      cases hb : isRefB r with
      | true =>
        refine iteFD (by rw [refB_head, hb]; rfl) ?_
        refine ⟨_, _, _, f, g, rfl, sx, h1, h2, ?_⟩
        rw [steps_snoc hr1, ← he]
        cases r with
        | ref _ => exact (act_one _).symm
        | _ => cases hb
      | false =>
        refine iteTD (by rw [refB_head, hb]; rfl) ?_
        obtain ⟨w0, hw0⟩ := (hcnt r hrm).resolve_left (by rw [hb]; exact Bool.false_ne_true)
        obtain ⟨p1, p2⟩ := hrow r hrm
        have hwm := p1 w0 hw0
        refine ⟨_, rfl, _, rfl, _, rfl, _, rfl, t, c, pl, np, bp, u, cs, r, w0, f, g, rfl, Same.sqt sx ht, hc.mono sx, ok.len, SqT.of (sx _ _ hr2), hw0, hwm, nb, h1, h2, fun H' s' m' d1 d2 => ?_⟩
        refine ⟨_, _, _, _, _, rfl, sx.trans s', d1, d2, ?_⟩
        rw [steps_snoc hr1, ← he, ← one_eq ok hex hw0 p2 hwm f g hl hz, done_M]
    case fin =>
      obtain ⟨y7, y8, y9, f, g, rfl, sx, h1, h2, he⟩ := hP
      rw [List.length_map, lu, List.take_length] at he
      refine ⟨_, rfl, _, rfl, np, _, rfl, by rw [← dictF_get (f := f) hz]; exact DGet.k (k := Sum.inr z) h1, ?_⟩
      refine ⟨_, rfl, _, rfl, bp, _, rfl, by rw [← dictF_get (f := g) hz]; exact DGet.k (k := Sum.inr z) h2, two, fun a ha => q a _ ((sx.trans zz_sub).trans (Same.new ha)) ?_⟩
      rw [← he]
      exact SqT.of upd_same
end
end Pn

namespace Pn
open PySem PySem.Spec PyProof.Rows L2 TL
/-! ### a dealt book's text is not long -/
theorem deal_len {bk : List PartD} (few : ∀ p ∈ bk, p.2.length ≤ 11 ∧ (putsOf p.2).length ≤ 2) (h : PutsOkD bk) : ∀ i, i ≤ bk.length → ∀ z rs, (z, rs) ∈ knowns (bk.take i) → rs.length + 11 ≤ 11 * 2 ^ i := by
  intro i
  induction i with
  | zero => intro _ z rs hm; cases hm
  | succ i ih =>
    intro hi z rs hm
    have lt : i < bk.length := hi
    have hp : bk[i]? = some bk[i] := List.getElem?_eq_getElem lt
    have hkt : knowns (bk.take (i + 1)) = (bk[i].1, unrollIn (knowns (bk.take i)) bk[i].2) :: knowns (bk.take i) := by
      rw [List.take_add_one, hp]
      exact knowns_snoc _ _
    rw [hkt] at hm
    have ih2 := ih (by omega)
    have p1 : 1 ≤ 2 ^ i := Nat.one_le_two_pow
    rw [Nat.pow_succ]
    rcases List.mem_cons.mp hm with e | hm
    · injection e with e1 e2
      subst e2
      obtain ⟨_, hput⟩ := h i _ hp
      have key : ∀ l : List RowD, (∀ y, RowD.put y ∈ l → y ∈ (bk.take i).map (·.1)) → (unrollIn (knowns (bk.take i)) l).length + 11 * (putsOf l).length ≤ l.length + (putsOf l).length * (11 * 2 ^ i) := by
        intro l
        induction l with
        | nil => intro _; exact Nat.zero_le _
        | cons r l ihl =>
          intro hl
          have q := ihl fun y hy => hl y (List.mem_cons_of_mem _ hy)
          have e : unrollIn (knowns (bk.take i)) (r :: l) = expand (knowns (bk.take i)) r ++ unrollIn (knowns (bk.take i)) l := rfl
          rw [e, List.length_append, List.length_cons]
          cases r with
          | put y =>
            have hy := hl y List.mem_cons_self
            have hyk : y ∈ (knowns (bk.take i)).map (·.1) := by rw [knowns_len]; exact List.mem_reverse.mpr hy
            obtain ⟨rs2, h1, h2⟩ := lookup_of_mem hyk
            have he : (expand (knowns (bk.take i)) (.put y)).length + 11 ≤ 11 * 2 ^ i := by
              show ((List.lookup y (knowns (bk.take i))).getD []).length + 11 ≤ _
              rw [h1]
              exact ih2 y rs2 h2
            have ep : putsOf (RowD.put y :: l) = y :: putsOf l := rfl
            rw [ep, List.length_cons, Nat.add_mul, Nat.one_mul]
            omega
          | note c l' => show 1 + _ + _ ≤ _; have ep : putsOf (RowD.note c l' :: l) = putsOf l := rfl; rw [ep]; omega
          | skip c n => show 1 + _ + _ ≤ _; have ep : putsOf (RowD.skip c n :: l) = putsOf l := rfl; rw [ep]; omega
          | set c n => show 1 + _ + _ ≤ _; have ep : putsOf (RowD.set c n :: l) = putsOf l := rfl; rw [ep]; omega
          | keep c => show 1 + _ + _ ≤ _; have ep : putsOf (RowD.keep c :: l) = putsOf l := rfl; rw [ep]; omega
          | back c => show 1 + _ + _ ≤ _; have ep : putsOf (RowD.back c :: l) = putsOf l := rfl; rw [ep]; omega
          | ref c => show 1 + _ + _ ≤ _; have ep : putsOf (RowD.ref c :: l) = putsOf l := rfl; rw [ep]; omega
          | opn c => show 1 + _ + _ ≤ _; have ep : putsOf (RowD.opn c :: l) = putsOf l := rfl; rw [ep]; omega
      have q := key bk[i].2 hput
      obtain ⟨f1, f2⟩ := few _ (List.getElem_mem lt)
      generalize (unrollIn (knowns (bk.take i)) bk[i].2).length = X at q ⊢
      generalize bk[i].2.length = Y at q f1
      generalize (putsOf bk[i].2).length = Z at q f2
      generalize 2 ^ i = W at q p1 ⊢
      have z3 : Z = 0 ∨ Z = 1 ∨ Z = 2 := by omega
      rcases z3 with rfl | rfl | rfl <;> omega
    · have q := ih2 z rs hm
      omega
theorem deal_flat {most : Nat} {pl : List Str} {cs : List (Str × Str)} {bk : List PartD} (h : DealBook most pl cs bk) : (unrolled bk).length ≤ 77 := by
  unfold unrolled
  cases hk : knowns bk with
  | nil => exact Nat.zero_le _
  | cons y l =>
    have q := deal_len (fun p hp => ⟨(h.few p hp).1, (h.few p hp).2.1⟩) h.puts bk.length (Nat.le_refl _) y.1 y.2 (by rw [List.take_length, hk]; exact List.mem_cons_self)
    have b3 := h.b3
    have : 2 ^ bk.length ≤ 2 ^ 3 := Nat.pow_le_pow_right (by decide) b3
    show y.2.length ≤ 77
    have e : (2 : Nat) ^ 3 = 8 := by decide
    omega
end Pn

namespace Pn
open PySem PySem.Spec PyProof.Rows L2
/-! ### a tuple told in few letters -/
def Told (B : Nat) (d : PyData) : Prop := PyData.showable d = true ∧ PyData.hasDict d = false ∧ (PyData.shown d).length ≤ B
theorem Told.mono {B B' : Nat} {d : PyData} (h : Told B d) (l : B ≤ B') : Told B' d := ⟨h.1, h.2.1, Nat.le_trans h.2.2 l⟩
theorem tell_all {B : Nat} : ∀ ds : List PyData, (∀ e ∈ ds, Told B e) → PyData.showableAll ds = true ∧ PyData.hasDictAll ds = false ∧ ((PyData.shownAll ds).map (·.length)).sum ≤ ds.length * B
  | [], _ => by simp [PyData.showableAll, PyData.hasDictAll, PyData.shownAll]
  | d :: ds, h => by
    obtain ⟨a, b, c⟩ := tell_all ds fun e he => h e (List.mem_cons_of_mem _ he)
    obtain ⟨a1, b1, c1⟩ := h d List.mem_cons_self
    refine ⟨by simp [PyData.showableAll, a, a1], by simp [PyData.hasDictAll, b, b1], ?_⟩
    have e : (d :: ds).length * B = ds.length * B + B := by rw [List.length_cons, Nat.add_mul, Nat.one_mul]
    simp only [PyData.shownAll, List.map_cons, List.sum_cons]
    omega
theorem tell_tup {B : Nat} {ds : List PyData} (h : ∀ e ∈ ds, Told B e) : Told (ds.length * B + 2 * ds.length + 3) (.tuple ds) := by
  obtain ⟨a, b, c⟩ := tell_all ds h
  have l := tupleText_len_le (PyData.shownAll ds)
  have n := PyData.shownAll_length ds
  refine ⟨by simpa only [PyData.showable] using a, by simpa only [PyData.hasDict] using b, ?_⟩
  simp only [PyData.shown]
  omega
end Pn

namespace Pn
open PySem PySem.Spec PyProof.Rows L2
/-! ### repr of any data, where no repr is under way -/
section
variable {X : Cx} {pins : List (Addr × Obj)} {σ : L2.St} {H : Hp} {s : Shared}
mutual
theorem dp_reads (I : Inv X pins σ H s) : ∀ (d : PyData) (v : V) (u : Value), Dp X.K H v d → RelV v u → ∃ as, Reads s.heap u d as
  | .none, _, u, h, r => by
    cases h
    cases (show u = Value.none from r)
    exact ⟨_, .none⟩
  | .bool b, _, u, h, r => by
    cases h
    cases (show u = Value.bool b from r)
    exact ⟨_, .bool b⟩
  | .int i, _, u, h, r => by
    cases h
    obtain ⟨t, rfl⟩ := r
    exact ⟨_, .int i t⟩
  | .str x, _, u, h, r => by
    cases h
    obtain ⟨t, rfl⟩ := r
    exact ⟨_, .str x t⟩
  | .list ds, _, u, h, r => by
    cases h with
    | @lst a vs _ sq al =>
      cases (show u = Value.ref a from r)
      obtain ⟨its, rv, ⟨o, n, e, c, dn, dd⟩, _⟩ := I.list sq
      obtain ⟨as, ra⟩ := dpAll_reads I ds _ _ al rv
      exact ⟨_, .list e c dd (by simpa using ra)⟩
  | .tuple ds, _, u, h, r => by
    cases h with
    | @tup a vs _ sq al =>
      cases (show u = Value.ref a from r)
      obtain ⟨its, rv, ⟨o, ho, hcl, n, hd⟩, _⟩ := I.tuple sq
      obtain ⟨as, ra⟩ := dpAll_reads I ds _ _ al rv
      exact ⟨_, .tuple ho hcl hd (by simpa using ra)⟩
  | .dict _, _, _, h, _ => by cases h
theorem dpAll_reads (I : Inv X pins σ H s) : ∀ (ds : List PyData) (vs : List V) (us : List Value), DpAll X.K H vs ds → Vals vs us → ∃ as, ReadsAll s.heap us ds as
  | [], _, us, h, r => by
    cases h
    cases r
    exact ⟨_, .nil⟩
  | d :: ds, _, us, h, r => by
    cases h with
    | cons a b =>
      cases r with
      | cons r1 r2 =>
        obtain ⟨as, x⟩ := dp_reads I d _ _ a r1
        obtain ⟨bs, y⟩ := dpAll_reads I ds _ _ b r2
        exact ⟨_, .cons x y⟩
end
end
section
variable {X : Cx}
/-- data whose repr is told -/
structure Telling (d : PyData) : Prop where
  sh : PyData.showable d = true
  nd : PyData.hasDict d = false
  dp : PyData.depth d ≤ 10
  len : (PyData.shown d).length ≤ sizeLine
@[irreducible] def rReprD (K : PySem.W.Frag) : List V → Hp → VK → Prop := fun xs H Q => ∃ (a : Addr) (d : PyData), xs = [.ref a] ∧ Dp K H (.ref a) d ∧ Telling d ∧ Q (.str (PyData.shown d)) H
theorem call_reprD (hg : X.A.guards = some []) {k : Nat} (hr : Room k X.A) : CallR X (.builtin "repr") (rReprD X.K) := by
  intro pins s σ H xs us Q I r h
  unfold rReprD at h
  obtain ⟨a, d, rfl, hd, T, q⟩ := h
  obtain ⟨u, rfl, ru⟩ := r.one
  cases (show u = Value.ref a from ru)
  obtain ⟨as, rd⟩ := dp_reads I d _ _ hd (show RelV (.ref a) (Value.ref a) from rfl)
  have hu := hr.units
  have dp := T.dp
  refine repr_of_reads' (h₀ := s.heap) (d := d) (as := as) rd T.sh (fun e => by rw [T.nd] at e; cases e) hg (by omega) (fun _ _ e => e) (fun h' u tk hk => ?_) T.len
  exact ⟨.str _, H, I.kept hk, ⟨u, rfl⟩, q⟩
theorem reprD_go {K : PySem.W.Frag} {H : Hp} {a : Addr} {d : PyData} {Q : VK} (hd : Dp K H (.ref a) d) (T : Telling d) (q : Q (.str (PyData.shown d)) H) : rReprD K [.ref a] H Q := by
  unfold rReprD
  exact ⟨a, d, rfl, hd, T, q⟩
end
end Pn

namespace Pn.Mp
open PySem L2
theorem lim_joins {B : Nat} : ∀ {l : List Stp}, (∀ s ∈ l, lim B s) → lim (l.length * B) (joins l)
  | [], _ => by rw [List.length_nil, Nat.zero_mul]; exact ⟨Nat.le_refl _, Nat.le_refl _⟩
  | s :: l, h => by
    rw [joins_cons, List.length_cons]
    have a := lim_join (h s List.mem_cons_self) (lim_joins fun x hx => h x (List.mem_cons_of_mem _ hx))
    rw [Nat.succ_mul, Nat.add_comm]
    exact a
theorem act_small {A B : Nat} {s : Stp} (h : lim B s) {n k : Int} (hn : 0 ≤ n ∧ n ≤ A) (hk : 0 ≤ k ∧ k ≤ A) : (0 ≤ reck s.1 n k ∧ reck s.1 n k ≤ ((A + B : Nat) : Int)) ∧ 0 ≤ reck s.2 n k ∧ reck s.2 n k ≤ ((A + B : Nat) : Int) := by
  have one : ∀ {t : Tm}, t.2 ≤ B → 0 ≤ reck t n k ∧ reck t n k ≤ ((A + B : Nat) : Int) := fun {t} ht => by
    obtain ⟨w, m⟩ := t
    have ht' : m ≤ B := ht
    cases w with
    | now => show 0 ≤ n + (m : Int) ∧ n + (m : Int) ≤ _; omega
    | box => show 0 ≤ k + (m : Int) ∧ k + (m : Int) ≤ _; omega
    | at_ => show 0 ≤ (m : Int) ∧ (m : Int) ≤ _; omega
  exact ⟨one h.1, one h.2⟩
end Pn.Mp

namespace Pn
open PySem PySem.Spec PyProof.Rows L2 TL
/-! ### the maps of a dealt book's parts -/
theorem earlier_take {bk : List PartD} (h : Earlier bk) (n : Nat) : Earlier (bk.take n) := fun i p hi z hz => by
  have il := (List.getElem?_eq_some_iff.mp hi).1
  rw [List.length_take] at il
  rw [List.getElem?_take_of_lt (by omega)] at hi
  rw [List.take_take, Nat.min_eq_left (by omega)]
  exact h i p hi z hz
theorem putsOkD_take {bk : List PartD} (h : PutsOkD bk) (n : Nat) : PutsOkD (bk.take n) := fun i p hi => by
  have il := (List.getElem?_eq_some_iff.mp hi).1
  rw [List.length_take] at il
  rw [List.getElem?_take_of_lt (by omega)] at hi
  rw [List.take_take, Nat.min_eq_left (by omega)]
  exact h i p hi
theorem numOf_eq {bk : List PartD} (nd : (bk.map (·.1)).Nodup) {i : Nat} {p : PartD} (hp : bk[i]? = some p) : numOf bk p.1 = i := by
  have hm : p.1 ∈ bk.map (·.1) := List.mem_map_of_mem (f := (·.1)) (List.mem_of_getElem? hp)
  obtain ⟨q, h1, h2, h3⟩ := numOf_at hm
  have a1 : (bk.map (·.1))[i]? = some p.1 := by rw [List.getElem?_map, hp]; rfl
  have a2 : (bk.map (·.1))[numOf bk p.1]? = some p.1 := by rw [List.getElem?_map, h1, ← h2]; rfl
  obtain ⟨b1, c1⟩ := List.getElem?_eq_some_iff.mp a1
  obtain ⟨b2, c2⟩ := List.getElem?_eq_some_iff.mp a2
  exact (List.getElem_inj nd).mp (c2.trans c1.symm)
/-- what stands in the text of a dealt part without places -/
structure FlatN (cs : List (Str × Str)) (rs : List RowD) : Prop where
  row : ∀ r ∈ rs, PlayRow cs r
  cnt : ∀ r ∈ rs, isRefB r = true ∨ ∃ w, cntOf r = some w
  opn : rs.any isOpn = false
  len : rs.length ≤ 77
  num : ∀ r ∈ rs, ∀ ch own, Mp.lim 3 (stepM r ch own)
theorem stay_lim : Mp.lim 3 Mp.one1 := ⟨Nat.zero_le _, Nat.zero_le _⟩
theorem stepM_lim {r : RowD} (h : Mp.lim 3 (ownM r)) (ch : List Str) (own : Str) : Mp.lim 3 (stepM r ch own) := by
  unfold stepM
  split
  · exact stay_lim
  · split
    · split
      · exact h
      · split
        · exact ⟨Nat.zero_le _, Nat.zero_le _⟩
        · exact stay_lim
    · exact stay_lim
theorem deal_part {most : Nat} {cs : List (Str × Str)} {bk : List PartD} (h : DealBook most [] cs bk) (e : Earlier bk) {i : Nat} (hi : i < bk.length) : FlatN cs (unrolled (bk.take (i + 1))) := by
  have sub : ∀ p ∈ bk.take (i + 1), p ∈ bk := fun p hp => List.mem_of_mem_take hp
  have noP : ∀ r ∈ unrolled (bk.take (i + 1)), ∀ z, r ≠ .put z := fun r hr z er => by
    have := flat_noPut (earlier_take e (i + 1)) r hr
    rw [er] at this
    cases this
  have kind : ∀ r ∈ unrolled (bk.take (i + 1)), goodD (cs.map (·.1)) [] r ∨ (∃ z, r = .put z) ∨ ∃ l, r = .ref l := unrolled_all (G := fun r => goodD (cs.map (·.1)) [] r ∨ (∃ z, r = .put z) ∨ ∃ l, r = .ref l) fun p hp r hr => (h.rows p (sub p hp) r hr).imp id (Or.imp id fun ⟨l, a, _⟩ => ⟨l, a⟩)
  have all : ∀ r ∈ unrolled (bk.take (i + 1)), PlayRow cs r ∧ (isRefB r = true ∨ ∃ w, cntOf r = some w) ∧ isOpn r = false ∧ Mp.lim 3 (ownM r) := fun r hr => by
    rcases kind r hr with g | ⟨z, er⟩ | ⟨l, rfl⟩
    · cases r with
      | note c l => exact ⟨⟨(fun w e => by cases e; exact g.1), fun _ _ e => nomatch e⟩, .inr ⟨c, rfl⟩, rfl, ⟨by show 1 ≤ 3; decide, Nat.zero_le _⟩⟩
      | skip c n => exact ⟨⟨(fun w e => by cases e; exact g.1), fun _ _ e => by cases e; exact g.2.1⟩, .inr ⟨c, rfl⟩, rfl, ⟨g.2.2, Nat.zero_le _⟩⟩
      | set c n => exact ⟨⟨(fun w e => by cases e; exact g.1), fun _ _ e => nomatch e⟩, .inr ⟨c, rfl⟩, rfl, ⟨g.2, Nat.zero_le _⟩⟩
      | keep c => exact ⟨⟨(fun w e => by cases e; exact g), fun _ _ e => nomatch e⟩, .inr ⟨c, rfl⟩, rfl, ⟨Nat.zero_le _, Nat.zero_le _⟩⟩
      | back c => exact ⟨⟨(fun w e => by cases e; exact g), fun _ _ e => nomatch e⟩, .inr ⟨c, rfl⟩, rfl, ⟨Nat.zero_le _, Nat.zero_le _⟩⟩
      | opn z => exact absurd g (fun hm => by cases hm)
      | put z => exact g.elim
      | ref z => exact g.elim
    · exact absurd er (noP r hr z)
    · exact ⟨⟨(fun w e => by cases e), fun _ _ e => nomatch e⟩, .inl rfl, rfl, ⟨Nat.zero_le _, Nat.zero_le _⟩⟩
  refine ⟨fun r hr => (all r hr).1, fun r hr => (all r hr).2.1, ?_, ?_, fun r hr ch own => stepM_lim (all r hr).2.2.2 ch own⟩
  · cases ha : (unrolled (bk.take (i + 1))).any isOpn with
    | false => rfl
    | true =>
      obtain ⟨r, hr, hb⟩ := List.any_eq_true.mp ha
      rw [(all r hr).2.2.1] at hb
      cases hb
  · unfold unrolled
    cases hk : knowns (bk.take (i + 1)) with
    | nil => exact Nat.zero_le _
    | cons y l =>
      have q := deal_len (fun p hp => ⟨(h.few p hp).1, (h.few p hp).2.1⟩) h.puts (i + 1) hi y.1 y.2 (by rw [hk]; exact List.mem_cons_self)
      have b3 := h.b3
      have : 2 ^ (i + 1) ≤ 2 ^ 3 := Nat.pow_le_pow_right (by decide) (by omega)
      have e8 : (2 : Nat) ^ 3 = 8 := by decide
      show y.2.length ≤ 77
      omega
theorem steps_lim {cs : List (Str × Str)} {rs : List RowD} (h : FlatN cs rs) (ch : List Str) (own : Str) : Mp.lim 231 (stepsM ch own rs) := by
  have q := Mp.lim_joins (B := 3) (l := rs.map fun r => stepM r ch own) fun s hs => by
    obtain ⟨r, hr, rfl⟩ := List.mem_map.mp hs
    exact h.num r hr ch own
  rw [List.length_map] at q
  have := h.len
  unfold stepsM
  exact ⟨Nat.le_trans q.1 (by omega), Nat.le_trans q.2 (by omega)⟩
theorem told_intA {i : Int} (h0 : 0 ≤ i) (h : i < 10 ^ 20) : Told 20 (.int i) := by
  obtain ⟨n, rfl⟩ := Int.eq_ofNat_of_zero_le h0
  have hn : n < 10 ^ 20 := by omega
  refine ⟨?_, by simp [PyData.hasDict], ?_⟩
  · simp only [PyData.showable]
    exact decide_eq_true (log_small hn)
  · show (PyData.shown (.int (n : Int))).length ≤ 20
    rw [PyData.shown_int]
    exact numStr_len hn
theorem two_told {u v : Int} (hu : 0 ≤ u ∧ u < 10 ^ 20) (hv : 0 ≤ v ∧ v < 10 ^ 20) : Telling (.tuple [.int u, .int v]) := by
  obtain ⟨a, b, c⟩ := tell_tup (B := 20) (ds := [.int u, .int v]) fun e he => by
    rcases List.mem_cons.mp he with rfl | he
    · exact told_intA hu.1 hu.2
    · rw [List.mem_singleton.mp he]
      exact told_intA hv.1 hv.2
  refine ⟨a, b, ?_, Nat.le_trans c (by show 2 * 20 + 2 * 2 + 3 ≤ sizeLine; decide)⟩
  simp only [PyData.depth, PyData.depthAll]
  decide
end Pn

namespace Pn
open PySem PySem.Spec PyProof.Rows L2 TL
/-! ### walks that number, comprehensions over a new list -/
section
variable {K : PySem.W.Frag} {tl : TE} {g : TG} {tt : TT} {te : TE} {tb : TS} {D : Ends} {vs : List Nat} {σ : L2.St} {H : Hp} {Q : VK} {a : Addr} {xs : List V}
theorem for_enumL (Pv : Nat → L2.St → Hp → Prop) (p0 : Pv 0 σ H) (stays : ∀ i σ' H', Pv i σ' H' → SqL K H' a xs) (turn : ∀ (i : Nat) (x : V) (T : Addr) (σ' : L2.St) (H' : Hp), xs[i]? = some x → H' T = none → Pv i σ' H' → g (.ref T) σ' (upd H' T (.tup [.int (i : Nat), x])) fun σ2 H2 => tb { D with nx := Pv (i + 1), ct := Pv (i + 1), bk := D.nx } σ2 H2)
    (fin : ∀ σ' H', Pv xs.length σ' H' → D.nx σ' H') : ∃ W : Nat → Nat → L2.St → Hp → Prop, (∃ m, W 0 m σ H) ∧ ∀ i m σ H, W i m σ H → ((Ite K a).stop i H ∧ D.nx σ H) ∨ ((Ite K a).go i H ∧ ∃ N : L2.St → Hp → Prop, (∀ σ' H', N σ' H' → ∃ m', m' < m ∧ W (i + 1) m' σ' H') ∧ ∀ x H', (Ite K a).yld i H x H' → g x σ H' fun σ2 H2 => tb { D with nx := N, ct := N, bk := D.nx } σ2 H2) := by
  have wk := walk_enum (K := K) (a := a) (xs := xs)
  refine ⟨fun j n s G => n + j = xs.length ∧ Pv j s G, ⟨xs.length, by omega, p0⟩, fun j n s G ⟨hn, hP⟩ => ?_⟩
  have hq := stays j s G hP
  rcases Nat.lt_or_ge j xs.length with lt | ge
  · refine .inr ⟨wk.goes j G lt hq, Pv (j + 1), fun s' G' z => ⟨n - 1, by omega, by omega, z⟩, fun v G' yd => ?_⟩
    obtain ⟨T, u, x, rfl, hT, rfl, hu, hx⟩ := wk.yields j G v G' lt hq yd
    cases hu
    exact turn j x T s G hx hT hP
  · obtain rfl : j = xs.length := by omega
    exact .inl ⟨wk.stops G hq, fin s G hP⟩
theorem lcw_listN (h0 : ∀ R : VK, (∀ p H1, Same H H1 → SqL K H1 p xs → R (.ref p) H1) → tl σ H R) (hl : xs.length ≤ 10000) {out : Nat → Option V} (turn : LcTurn xs H g tt te vs σ out)
    (fin : ∀ (D : Addr) (H' : Hp), H D = none → Same H H' → H' D = some (.lst ((List.range xs.length).filterMap out)) → Q (.ref D) H') : tLc (iList K tl) g tt te vs σ H Q := by
  refine h0 _ fun p H1 s1 hp => ⟨p, rfl, ⟨_, hp⟩, fun D hD => ?_⟩
  have turn1 : LcTurn xs H1 g tt te vs σ out := fun i x Hi S Y hx sI k0 k1 => turn i x Hi S Y hx (s1.trans sI) k0 k1
  exact lc_list (xs := xs) (fun i Hi => Same H1 Hi ∧ Hi D = some (.lst ((List.range i).filterMap out))) ⟨Same.new hD, upd_same⟩ (fun _ _ _ hP => hP.1.seq hp) (lc_keep hl turn1 hD) (fun Hi hP => fin D Hi (s1.free hD) (s1.trans hP.1) hP.2)
end
end Pn

namespace Pn
open PySem PySem.Spec PyProof.Rows L2 TL
theorem book_hh {K : PySem.W.Frag} {mg : Str → Option Value} {R : TRows K mg} {T : TPart R} {B : TBk T} {H : Hp} {d g a : Addr} {cs : List (Str × Str)} {bk : List PartD} (hD : DealAt H d g) (h : BookAt B H a cs bk) : BookAt B (hh H d g) a cs bk := by
  obtain ⟨ne, xs, m, h1, h2, _⟩ := hD
  exact book_hid (hid_get h2 ne.symm) (book_hid h1 h)
theorem lst_hhA {H : Hp} {d g l : Addr} {rs : List RowD} (hD : DealAt H d g) (n : l ≠ d ∧ l ≠ g) (h : LstAt H l rs) : LstAt (hh H d g) l rs := by
  obtain ⟨us, h1, h2⟩ := h
  refine ⟨us, hh_get h1 n.1 n.2, paired_mono (fun _ _ e => ?_) h2⟩
  obtain ⟨ne, xs, m, h1, h2, _⟩ := hD
  exact hh_get e (fun z => by rw [z, h1] at e; cases e) (fun z => by rw [z, h2] at e; cases e)
theorem climbs_of {cs : List (Str × Str)} (ok : CsOk cs) (hl : cs.length ≤ 900) : ∀ y ∈ cs.map (·.1), ∃ l, Climb cs y l ∧ l.length ≤ 1000 := fun y hy => by
  obtain ⟨c, hc, rfl⟩ := List.mem_map.mp hy
  obtain ⟨i, hi⟩ := List.getElem?_of_mem hc
  have il := (List.getElem?_eq_some_iff.mp hi).1
  obtain ⟨l, h1, h2⟩ := climbs ok.up i c hi
  exact ⟨l, h1, by omega⟩
theorem sqt_hhA {K : PySem.W.Frag} {H : Hp} {d g a : Addr} {zs : List V} (hD : DealAt H d g) (h : SqT K H a zs) : SqT K (hh H d g) a zs := by
  obtain ⟨ne, xs, m, h1, h2, _⟩ := hD
  exact sqt_hid (hid_get h2 ne.symm) (sqt_hid h1 h)
theorem map_hhA {K : PySem.W.Frag} {mg : Str → Option Value} {T : Mp.TMap K mg} {H : Hp} {d g x : Addr} {s : Mp.Stp} (hD : DealAt H d g) (h : Mp.MapAt T H x s) : Mp.MapAt T (hh H d g) x s := by
  obtain ⟨dx, a, b, h1, h2, h3⟩ := h
  refine ⟨dx, a, b, ?_, sqt_hhA hD h2, sqt_hhA hD h3⟩
  obtain ⟨ne, xs, m, e1, e2, _⟩ := hD
  exact hh_get h1 (fun z => by rw [z, e1] at h1; cases h1) (fun z => by rw [z, e2] at h1; cases h1)
theorem tup_hhA {H : Hp} {d g a : Addr} {vs : List V} (hD : DealAt H d g) (h : H a = some (.tup vs)) : hh H d g a = some (.tup vs) := by
  obtain ⟨ne, xs, m, h1, h2, _⟩ := hD
  exact hh_get h (fun z => by rw [z, h1] at h; cases h) (fun z => by rw [z, h2] at h; cases h)
theorem three_cases {α : Type} {a b c y : α} : ∀ {j : Nat}, [a, b, c][j]? = some y → y = a ∨ y = b ∨ y = c
  | 0, h => .inl (Option.some.inj h).symm
  | 1, h => .inr (.inl (Option.some.inj h).symm)
  | 2, h => .inr (.inr (Option.some.inj h).symm)
  | j + 3, h => by cases h
end Pn

namespace Pn
open PySem PySem.Spec PyProof.Rows L2 TL
abbrev sLaw26 : Stmt := top 86
section
variable {P : Program} {w : World} {K : PySem.W.Frag} {mg : Str → Option Value} {base : Heap}
structure TK26 (K : PySem.W.Frag) (mg : Str → Option Value) : Type where
  D : TDealC K mg
  X : TDB K mg
  Bk : At K mg "_law_book" sBookD ["_law_deal_here", "_law_most", "_law_long", "_law_places"]
  R : TRows K mg
  P : TPart R
  B : TBk P
  A : TAlong B
  Y : TGone K mg
  Z : At K mg "_law_row_of" sRowOf ["_law_row_here"]
  bookOf : At K mg "_law_book_of" sBookOf ["_law_told"]
  gone : At K mg "_law_gone" sGone ["_law_told", "_law_rows", "_law_word", "_law_number", "_law_kept"]
  mLen : mg "len" = none
  mEnum : mg "enumerate" = none
  mRepr : mg "repr" = none
  mStr : mg "str" = none
def spLaw26 (K : PySem.W.Frag) : Sp := fun vs H Q _ => ∃ (a : Addr) (ns : List Int), vs = [.ref a] ∧ SqL K H a (ns.map V.int) ∧ ns.length ≤ 63 ∧ ∀ H', Q (.bl true) H'
theorem scLaw26 : FnScope ["_law_script", "_law_deal_here", "_law_turn", "_law_told", "_law_made", "_law_at", "_law_name", "_law_rows", "_law_flat", "_law_word", "_law_upper", "_law_found", "_law_number", "_law_kept"] ["_law_script"] (defScope sLaw26) := ⟨rfl, rfl, rfl, by decide +kernel, rfl, by decide +kernel, by decide +kernel⟩
theorem stepEndB {tt : TT} {A : TS} {D : Ends} {σ : L2.St} {H : Hp} (G : Hp → Prop) (h1 : ∀ Q : Bool → Hp → Prop, (∀ H', G H' → Q false H') → tt σ H Q) (h2 : ∀ H', G H' → D.nx σ H') : tIfS tt A tNext D σ H := h1 _ fun H' g => by
  rw [if_neg Bool.false_ne_true]
  exact h2 H' g
theorem rNe_same {v : V} {H : Hp} {Q : VK} (hs : scal v v = true) (q : Q (.bl false) H) : rNe v v H Q := ⟨hs, by rw [decide_eq_true rfl]; exact q⟩
theorem stepIfS2 {tt : TT} {A B : TS} {D : Ends} {σ : L2.St} {H : Hp} (G : L2.St → Hp → Prop) (h1 : ∀ nx : L2.St → Hp → Prop, (∀ σ' H', G σ' H' → nx σ' H') → tt σ H fun b H' => if b = true then A { D with nx := nx } σ H' else nx σ H') (h2 : ∀ σ' H', G σ' H' → B D σ' H') : tSeq (tIfS tt A tNext) B D σ H := h1 (B D) h2
theorem stepPar {i j : Nat} {ta : TA} {B : TS} {D : Ends} {σ : L2.St} {H : Hp} (C : V → V → Hp → Prop) (h1 : ∀ Q' : List V → Hp → Prop, (∀ v w H', C v w H' → Q' [v, w] H') → ta σ H Q') (h2 : ∀ v w H', C v w H' → B D ((σ.set i (some v)).set j (some w)) H') : tSeq (tPar i j ta) B D σ H := h1 _ fun v w H' c => ⟨_, _, rfl, h2 v w H' c⟩
theorem ok_law26 (T : TK26 K mg) {f : Addr} {fd : FuncData} (F : Fun K "law" "law" sLaw26 f fd) {A : Around} (hrA : Room 12 A) (hgA : A.guards = some []) : RunAt P w K mg base A f fd ["_law_script"] (spLaw26 K) := by
  refine fun_at (k := 11) F scLaw26 hrA (fun vs H Q E h => ?_) (fun cdv s H vs Q E hr h => ?_)
  · obtain ⟨a, ns, rfl, _⟩ := h
    rfl
  · obtain ⟨a, ns, rfl, hS, hl, q⟩ := h
    have hgd : (A.deeper (PyProof.Rows.envOfC "law" (defScope sLaw26) s.heap.objs.size f cdv)).guards = some [] := hgA
    refine ⟨_, (pss_cons (ps_set (i := 1) scLaw26.nd rfl (Or.inl rfl) (pe_call T.D.okDeal (hr.mono (by decide)) rfl T.D.deal.m T.D.deal.F.kp T.D.deal.b .nil pass0 (pa_cons (pv 0) pa_nil)))
(pss_cons (ps_for PassesOwn.never rfl (pi_range1 (by rfl) T.X.mR (pa_cons pe_int pa_nil)) (pg_name (i := 2) scLaw26.nd rfl (Or.inl rfl))
(pss_cons (ps_set (i := 3) scLaw26.nd rfl (Or.inl rfl) (pe_call (ok_bookD T.D T.X T.Bk) (hr.mono (by decide)) rfl T.Bk.m T.Bk.F.kp T.Bk.b .nil pass0 (pa_cons (pv 1) (pa_cons pe_int (pa_cons pe_int (pa_cons (pe_lst pa_nil) pa_nil))))))
(pss_cons (ps_set (i := 4) scLaw26.nd rfl (Or.inl rfl) (pe_call (ok_bookOf T.B T.Z T.bookOf.F) (hr.mono (by decide)) rfl T.bookOf.m T.bookOf.F.kp T.bookOf.b .nil pass0 (pa_cons (pv 3) pa_nil)))
(pss_one (ps_for PassesOwn.never rfl (pi_enum (by rfl) T.mEnum (pa_cons (pe_ix ix_tup (pv 3) pe_int (fun _ _ => rfl)) pa_nil)) (pg_tup (by rfl) (pgs_cons (pg_name (i := 5) scLaw26.nd rfl (Or.inl rfl)) (pgs_cons (pg_tup (by rfl) (pgs_cons (pg_name (i := 6) scLaw26.nd rfl (Or.inl rfl)) (pgs_cons (pg_name (i := 7) scLaw26.nd rfl (Or.inl rfl)) pgs_nil))) pgs_nil)))
(pss_cons (ps_set (i := 8) scLaw26.nd rfl (Or.inl rfl) (pe_call (ok_unrD T.X) (hr.mono (by decide)) rfl T.X.unr.m T.X.unr.F.kp T.X.unr.b .nil pass0 (pa_cons (pe_tup (pa_cons (pe_ix ix_tup (pv 3) pe_int (fun _ _ => rfl)) (pa_cons (pe_slice sl_list (pe_ix ix_tup (pv 3) pe_int (fun _ _ => rfl)) po_none (po_some (pe_op op_add (pv 5) pe_int))) pa_nil))) pa_nil)))
(pss_one (ps_for PassesOwn.never rfl (pi_list (pe_ix ix_tup (pv 3) pe_int (fun _ _ => rfl))) (pg_tup (by rfl) (pgs_cons (pg_name (i := 9) scLaw26.nd rfl (Or.inl rfl)) (pgs_cons (pg_name (i := 10) scLaw26.nd rfl (Or.inl rfl)) pgs_nil)))
(pss_cons (ps_set (i := 11) scLaw26.nd rfl (Or.inl rfl) (pe_call (ok_mapOf T.A) (hr.mono (by decide)) rfl T.A.mapOf.m T.A.mapOf.F.kp T.A.mapOf.b .nil pass0 (pa_cons (pv 4) (pa_cons (pv 6) (pa_cons (pv 9) pa_nil)))))
(pss_cons (ps_for PassesOwn.never rfl (pi_tup (pe_tup (pa_cons (pe_tup (pa_cons pe_int (pa_cons pe_int pa_nil))) (pa_cons (pe_tup (pa_cons pe_int (pa_cons pe_int pa_nil))) (pa_cons (pe_tup (pa_cons (pe_call T.D.okDraw (hr.mono (by decide)) rfl T.D.draw.m T.D.draw.F.kp T.D.draw.b .nil pass0 (pa_cons (pv 1) (pa_cons pe_int pa_nil))) (pa_cons (pe_op op_pow pe_int pe_int) pa_nil))) pa_nil))))) (pg_tup (by rfl) (pgs_cons (pg_name (i := 12) scLaw26.nd rfl (Or.inl rfl)) (pgs_cons (pg_name (i := 13) scLaw26.nd rfl (Or.inl rfl)) pgs_nil)))
(pss_one (ps_if (pt_cmpR op_ne (pe_callB (call_reprD hgd hr) (by rfl) T.mRepr (by decide +kernel) (pa_cons (StX.pe_callO (pv 11) T.A.M.callC ((Mp.okMapCall T.A.M).raw T.A.M.call.b .nil) (hr.mono (by decide)) pass0 (pa_cons (pv 12) (pa_cons (pv 13) pa_nil))) pa_nil)) (pe_callB (call_reprD hgd hr) (by rfl) T.mRepr (by decide +kernel) (pa_cons (pe_call (ok_gone T.Y T.gone.F) (hr.mono (by decide)) rfl T.gone.m T.gone.F.kp T.gone.b .nil pass0 (pa_cons (pv 3) (pa_cons (pv 8) (pa_cons (pv 9) (pa_cons (pv 12) (pa_cons (pv 13) pa_nil)))))) pa_nil)) (nomark _)) (pss_one (ps_ret pe_bl)) pss_nil)))
(pss_one (ps_if (PW.pt (pw_or (pt_cmpR op_ne (pe_callTy (Mp.call_strMap T.A.M (hr.mono (by decide))) (by rfl) T.mStr (by decide +kernel) (pa_cons (pv 11) pa_nil)) (pe_callTy (Mp.call_strMap T.A.M (hr.mono (by decide))) (by rfl) T.mStr (by decide +kernel) (pa_cons (pe_make T.A.M.M (Mp.okMapInit T.A.M) (hr.mono (by decide)) rfl T.A.M.mC T.A.M.bI .nil Mp.passN0 (pa_cons (pe_fld (pv 11) rfl) (pa_cons (pe_fld (pv 11) rfl) pa_nil))) pa_nil)) (nomark _)) (pw_or1 (pt_cmpR (Mp.op_neMap T.A.M (hr.mono (by decide))) (pe_call (ok_mapOf T.A) (hr.mono (by decide)) rfl T.A.mapOf.m T.A.mapOf.F.kp T.A.mapOf.b .nil pass0 (pa_cons (pv 4) (pa_cons (pv 6) (pa_cons (pv 9) pa_nil)))) (pv 11) (nomark _))))) (pss_one (ps_ret pe_bl)) pss_nil))))))))))))
(pss_one (ps_ret pe_bl)))), ?_⟩
    have one : 1 ≤ sizeLine := by decide
    have two : 2 ≤ sizeLine := by decide
    have three : 3 ≤ sizeLine := by decide
    refine stepSet (fun v H' => ∃ d g, v = .ref d ∧ DealAt H' d g) (fun Q' hQ => ⟨_, rfl, a, ns, rfl, hS, hl, fun d g H' hD _ => hQ _ _ ⟨d, g, rfl, hD⟩⟩) (fun v H1 hC => ?r1)
    case r1 =>
    obtain ⟨d, g, rfl, hD1⟩ := hC
    try dsimp only [List.set]
    refine ⟨_, rfl, by decide, by decide, for_range (lo := 0) (n := 5) (fun j σ Hc => ∃ y2 y3 y4 y5 y6 y7 y8 y9 y10 y11 y12 y13, σ = [some (.ref a), some (.ref d), y2, y3, y4, y5, y6, y7, y8, y9, y10, y11, y12, y13] ∧ DealAt Hc d g) ⟨_, _, _, _, _, _, _, _, _, _, _, _, rfl, hD1⟩ (fun j σ Hc hj hP => ?turn) (fun σ Hc hP => ?fin)⟩
    case fin =>
      exact q _
    case turn =>
    obtain ⟨y2, y3, y4, y5, y6, y7, y8, y9, y10, y11, y12, y13, rfl, hDc⟩ := hP
    try dsimp only [List.set]
    refine stepSet (fun v H' => ∃ (t c l : Addr) (cs : List (Str × Str)) (bk : List PartD), v = .ref t ∧ DealAt H' d g ∧ hh H' d g t = some (.tup [.ref c, .ref l]) ∧ CsAt (hh H' d g) c cs ∧ PartsAt (hh H' d g) l bk ∧ DealBook 3 [] cs bk) (fun Q' hQ => ?c2) (fun v H2 hC => ?r2)
    case c2 =>
      refine ⟨_, rfl, Nat.zero_le _, fun pl hpl => ?_⟩
      refine ⟨d, g, pl, 3, 5, [], rfl, hDc.new hpl, by decide, by decide, by decide, by decide, SqL.of (hh_at hDc hpl), by decide, (fun _ h => nomatch h), fun t c l cs bk H' hD' s' m' h1 h2 h3 h4 => hQ _ _ ⟨t, c, l, cs, bk, rfl, hD', h1, h2, h3, h4⟩⟩
    case r2 =>
    obtain ⟨t, c, l, cs, bk, rfl, hD2, ht2, hc2, hl2, db⟩ := hC
    have BV := dealV db (by decide) (fun _ h => nomatch h)
    try dsimp only [List.set]

    obtain ⟨ts0, hcl0, hct0⟩ := id hc2
    have htl0 : ts0.length = cs.length := paired_len hct0
    have cm := db.cm
    have c0 := db.c0
    refine stepSet (fun v H' => ∃ x : Addr, v = .ref x ∧ Same H2 H' ∧ BookAt T.B H' x cs bk) (fun Q' hQ => ?c3) (fun v H3 hC => ?r3)
    case c3 =>
      exact ⟨_, rfl, t, c, l, cs, bk, rfl, SqT.of (hh_sub _ _ ht2), hc2.mono hh_sub, hl2.same hh_sub, BV, (fun p hp => names16_ok.2.2 _ (db.bnm _ (List.mem_map_of_mem (f := (·.1)) hp))), fun x H' s' hB => hQ _ _ ⟨x, rfl, s', hB⟩⟩
    case r3 =>
    obtain ⟨x, rfl, s3, hB3⟩ := hC
    try dsimp only [List.set]
    have hD3 := hD2.same s3
    have g3 := hh_same (d := d) (g := g) s3
    have ht3 := g3 _ _ ht2
    have hc3 := hc2.mono g3
    have hl3 := hl2.same g3
    have hB3 := book_hh hD3 hB3
    clear ht2 hc2 hl2 s3 g3 hD2 hct0 hcl0 htl0 ts0 hD1 hDc
    obtain ⟨ts, hl, hts⟩ := id hl3
    have ltb : ts.length = bk.length := paired_len hts
    obtain ⟨tc, hcl, hct⟩ := id hc3
    have lcs : tc.length = cs.length := paired_len hct
    have hex : ∀ y ∈ cs.map (·.1), ∃ l, Climb cs y l ∧ l.length ≤ 1000 := climbs_of BV.c (by omega)
    have hexC : ∀ y ∈ cs.map (·.1), ∃ l, Climb cs y l := fun y hy => by
      obtain ⟨l, h, _⟩ := hex y hy
      exact ⟨l, h⟩
    refine ⟨_, rfl, t, _, _, .ref l, rfl, rfl, SqT.of (hh_sub _ _ ht3), rfl, l, _, rfl, SqL.of (hh_sub _ _ hl), for_enumL (xs := ts.map V.ref) (fun i σ Hx => ∃ y2 y5 y6 y7 y8 y9 y10 y11 y12 y13, σ = [some (.ref a), some (.ref d), y2, some (.ref t), some (.ref x), y5, y6, y7, y8, y9, y10, y11, y12, y13] ∧ DealAt Hx d g ∧ Same (hh H3 d g) (hh Hx d g)) ⟨_, _, _, _, _, _, _, _, _, _, rfl, hD3, Same.refl _⟩ (fun i σ Hx hP => ?stays) (fun i y Tt σ Hx hy hTt hP => ?turn2) (fun σ Hx hP => ?fin2)⟩
    case stays =>
      obtain ⟨_, _, _, _, _, _, _, _, _, _, _, _, s⟩ := hP
      exact SqL.of (hh_sub _ _ (s _ _ hl))
    case fin2 =>
      obtain ⟨y2, y5, y6, y7, y8, y9, y10, y11, y12, y13, rfl, hDx, _⟩ := hP
      exact ⟨_, _, _, _, _, _, _, _, _, _, _, _, rfl, hDx⟩
    case turn2 =>
    obtain ⟨y2, y5, y6, y7, y8, y9, y10, y11, y12, y13, rfl, hDx, sx⟩ := hP
    rw [List.getElem?_map] at hy
    obtain ⟨u, hu, rfl⟩ := Option.map_eq_some_iff.mp hy
    obtain ⟨q1, hq1, ra, hra, hrl⟩ := paired_at hts hu
    have il := (List.getElem?_eq_some_iff.mp hq1).1
    have sT := Same.new (o := .tup [.int (i : Nat), .ref u]) hTt
    have hDy := hDx.new (o := .tup [.int (i : Nat), .ref u]) hTt
    have gT := hh_same (d := d) (g := g) sT
    have hra' := gT _ _ (sx _ _ hra)
    refine ⟨Tt, _, rfl, SqT.of upd_same, rfl, _, _, rfl, ?_⟩
    refine ⟨_, _, rfl, ⟨u, _, rfl, SqT.of (hh_sub _ _ hra'), rfl, _, _, rfl, _, _, rfl, rfl, ?_⟩⟩
    have sy := sx.trans gT
    have hty := sy _ _ ht3
    have hcy := hc3.mono sy
    have hly := hl3.same sy
    have hBy := hB3.same sy
    clear hra' gT sT hDx sx
    generalize upd Hx Tt (.tup [.int (i : Nat), .ref u]) = Hy at hDy hty hcy hly hBy sy ⊢
    refine ⟨rfl, ?_⟩
    try dsimp only [List.set]
    have hp1 : Paired (PartAt (hh Hy d g)) (ts.take (i + 1)) (bk.take (i + 1)) := paired_take (i + 1) (paired_mono (fun _ _ z => PartAt.same z sy) hts)
    have hly1 := sy _ _ hl
    refine stepSet (fun v H' => ∃ fl : Addr, v = .ref fl ∧ Same Hy H' ∧ LstAt (hh H' d g) fl (unrolled (bk.take (i + 1)))) (fun Q' hQ => ?c4) (fun v H4 hC => ?r4)
    case c4 =>
      refine ⟨_, rfl, t, _, _, .ref c, rfl, rfl, SqT.of (hh_sub _ _ hty), rfl, _, rfl, t, _, _, .ref l, rfl, rfl, SqT.of (hh_sub _ _ hty), rfl, _, rfl, _, _, rfl, rfl, _, rfl, l, _, rfl, SqL.of (hh_sub _ _ hly1), fun b hb => ⟨two, fun tt htt => ?_⟩⟩
      have eb := cut_toF (ts.map V.ref) (i + 1)
      rw [← List.map_take] at eb
      have z1 := Same.new (o := .lst (cutV (ts.map V.ref) none (some ((i + 1 : Nat) : Int)))) hb
      have z2 := Same.new (o := .tup [.ref c, .ref b]) htt
      refine ⟨tt, c, b, bk.take (i + 1), rfl, SqT.of upd_same, ⟨ts.take (i + 1), ?_, paired_mono (fun _ _ z => PartAt.same z (hh_sub.trans (z1.trans z2))) hp1⟩, putsOkD_take db.puts _, ?_, ?_, fun fl H' s' hfl hr _ => ?_⟩
      · rw [← eb]
        exact z2 _ _ upd_same
      · intro e
        have e2 : (bk.take (i + 1)).length = 0 := by rw [e]; rfl
        rw [List.length_take] at e2
        omega
      · rw [List.length_take]
        have := db.b3
        omega
      · have z3 := (z1.trans z2).trans s'
        have hD' := hDy.same z3
        exact hQ _ _ ⟨fl, rfl, z3, lst_hhA hD' (((hDy.new hb).new htt).nd hfl) hr⟩
    case r4 =>
    obtain ⟨fl, rfl, s4, hf4⟩ := hC
    try dsimp only [List.set]
    have hD4 := hDy.same s4
    have g4 := hh_same (d := d) (g := g) s4
    have ht4 := g4 _ _ hty
    have hc4 := hcy.mono g4
    have hB4 := hBy.same g4
    have gcl := sy.trans g4
    have fn := deal_part db BV.puts il
    have hnum : numOf bk q1.1 = i := numOf_eq db.bn hq1
    have hn1 : q1.1 ∈ bk.map (·.1) := List.mem_map_of_mem (f := (·.1)) (List.mem_of_getElem? hq1)
    generalize hfe : unrolled (bk.take (i + 1)) = flat at hf4 fn
    clear hty hcy hly hBy hly1 hp1 s4 hDy
    refine ⟨_, rfl, t, _, _, .ref c, rfl, rfl, SqT.of (hh_sub _ _ ht4), rfl, c, rfl, ⟨_, SqL.of (hh_sub _ _ (gcl _ _ hcl))⟩, for_list (xs := tc.map V.ref) (fun j σ Hx => ∃ y2 y9 y10 y11 y12 y13, σ = [some (.ref a), some (.ref d), y2, some (.ref t), some (.ref x), some (.int (i : Nat)), some (.str q1.1), some (.ref ra), some (.ref fl), y9, y10, y11, y12, y13] ∧ DealAt Hx d g ∧ Same (hh H4 d g) (hh Hx d g)) ⟨_, _, _, _, _, _, rfl, hD4, Same.refl _⟩ (fun j σ Hx _ hP => ?stays2) (fun j y σ Hx hy hP => ?turn3) (fun σ Hx hP => ?fin3)⟩
    case stays2 =>
      obtain ⟨_, _, _, _, _, _, _, _, s⟩ := hP
      exact SqL.of (hh_sub _ _ (s _ _ (gcl _ _ hcl)))
    case fin3 =>
      obtain ⟨y2, y9, y10, y11, y12, y13, rfl, hDx, sx⟩ := hP
      exact ⟨_, _, _, _, _, _, _, _, _, _, rfl, hDx, gcl.trans sx⟩
    case turn3 =>
    obtain ⟨y2, y9, y10, y11, y12, y13, rfl, hDx, sx⟩ := hP
    rw [List.getElem?_map] at hy
    obtain ⟨v, hv, rfl⟩ := Option.map_eq_some_iff.mp hy
    obtain ⟨pc, hpc, hvp⟩ := paired_at hct hv
    have hwd : pc.1 ∈ cs.map (·.1) := List.mem_map_of_mem (f := (·.1)) (List.mem_of_getElem? hpc)
    obtain ⟨lw, hlw, lw1⟩ := hex pc.1 hwd
    refine ⟨v, _, rfl, SqT.of (hh_sub _ _ (sx _ _ (gcl _ _ hvp))), rfl, _, _, rfl, _, _, rfl, rfl, ?_⟩
    try dsimp only [List.set]
    have htx := sx _ _ ht4
    have hcx := hc4.mono sx
    have hBx := hB4.same sx
    have hfx := hf4.same sx
    have small := steps_lim fn lw.reverse pc.1
    have mapGo : ∀ (Hg : Hp) (Q' : VK), Same (hh Hx d g) Hg → (∀ m H', Same Hg H' → Mp.MapAt T.A.M H' m (stepsM lw.reverse pc.1 flat) → Q' (.ref m) H') → ∀ σ : L2.St, σ[4]? = some (some (.ref x)) → σ[6]? = some (some (.str q1.1)) → σ[9]? = some (some (.str pc.1)) →
        tCall (spMapOf T.B T.A.M) [] E0 (tCons (tVar 4) (tCons (tVar 6) (tCons (tVar 9) tNil))) σ Hg Q' := fun Hg Q' sg hq σ h4 h6 h9 => by
      refine ⟨_, h4, _, h6, _, h9, x, q1.1, pc.1, cs, bk, lw, stepsM lw.reverse pc.1 flat, rfl, hBx.same sg, BV.c, hlw, lw1, hn1, db.bn, BV.puts, BV.len, ?_, fun m H' s' hm => hq m H' s' hm⟩
      rw [hnum, hfe]
      exact if_neg (by rw [fn.opn]; exact Bool.false_ne_true)
    refine stepSet (fun v H' => ∃ m : Addr, v = .ref m ∧ Same Hx H' ∧ Mp.MapAt T.A.M H' m (stepsM lw.reverse pc.1 flat)) (fun Q' hQ => ?c5) (fun v H5 hC => ?r5)
    case c5 => exact mapGo Hx Q' hh_sub (fun m H' s' hm => hQ _ _ ⟨m, rfl, s', hm⟩) _ rfl rfl rfl
    case r5 =>
    obtain ⟨m, rfl, s5, hm5⟩ := hC
    try dsimp only [List.set]
    have hD5 := hDx.same s5
    have g5 := hh_same (d := d) (g := g) s5
    have hm5 := map_hhA hD5 hm5
    have ht5 := g5 _ _ htx
    have hc5 := hcx.mono g5
    have hB5 := hBx.same g5
    have hf5 := hfx.same g5
    have g45 := sx.trans g5
    refine ⟨two, fun a1 h1 => ⟨two, fun a2 h2 => ⟨_, rfl, d, g, 9, rfl, (hD5.new h1).new h2, by decide, by decide, fun r H6 r0 r1 hD6 s6 m6 => ⟨_, _, rfl, rfl, ⟨by decide, by decide, by decide⟩, two, fun a3 h3 => ⟨three, fun tt htt => ?_⟩⟩⟩⟩⟩
    have za := Same.new (o := .tup [.int 0, .int 0]) h1
    have zb := Same.new (o := .tup [.int 7, .int 3]) h2
    have zc := Same.new (o := .tup [.int r, .int (10 ^ (6 : Int).toNat)]) h3
    have zd := Same.new (o := .tup [.ref a1, .ref a2, .ref a3]) htt
    have g56 : Same (hh H5 d g) (hh (upd (upd H6 a3 (.tup [.int r, .int (10 ^ (6 : Int).toNat)])) tt (.tup [.ref a1, .ref a2, .ref a3])) d g) := ((hh_same (za.trans zb)).trans s6).trans (hh_same (zc.trans zd))
    have hD7 := (hD6.new (o := .tup [.int r, .int (10 ^ (6 : Int).toNat)]) h3).new (o := .tup [.ref a1, .ref a2, .ref a3]) htt
    have e1 : (upd (upd H6 a3 (.tup [.int r, .int (10 ^ (6 : Int).toNat)])) tt (.tup [.ref a1, .ref a2, .ref a3])) a1 = some (.tup [.int 0, .int 0]) := zd _ _ (zc _ _ (hh_sub _ _ (s6 _ _ (tup_hhA ((hD5.new h1).new h2) (zb _ _ upd_same)))))
    have e2 : (upd (upd H6 a3 (.tup [.int r, .int (10 ^ (6 : Int).toNat)])) tt (.tup [.ref a1, .ref a2, .ref a3])) a2 = some (.tup [.int 7, .int 3]) := zd _ _ (zc _ _ (hh_sub _ _ (s6 _ _ (tup_hhA ((hD5.new h1).new h2) upd_same))))
    have e3 : (upd (upd H6 a3 (.tup [.int r, .int (10 ^ (6 : Int).toNat)])) tt (.tup [.ref a1, .ref a2, .ref a3])) a3 = some (.tup [.int r, .int (10 ^ (6 : Int).toNat)]) := zd _ _ upd_same
    have e4 : (upd (upd H6 a3 (.tup [.int r, .int (10 ^ (6 : Int).toNat)])) tt (.tup [.ref a1, .ref a2, .ref a3])) tt = some (.tup [.ref a1, .ref a2, .ref a3]) := upd_same
    generalize upd (upd H6 a3 (.tup [.int r, .int (10 ^ (6 : Int).toNat)])) tt (.tup [.ref a1, .ref a2, .ref a3]) = H7 at g56 hD7 e1 e2 e3 e4 ⊢
    clear za zb zc zd s6 m6 hD6 h1 h2 h3 htt hD5
    have ht7 := g56 _ _ ht5
    have hc7 := hc5.mono g56
    have hB7 := hB5.same g56
    have hf7 := hf5.same g56
    have hm7 := hm5.same g56
    have p6 : (0 : Int) ≤ 10 ^ (6 : Int).toNat ∧ (10 : Int) ^ (6 : Int).toNat ≤ ((1000000 : Nat) : Int) := by decide
    have pr : ∀ j (y : V), ([V.ref a1, V.ref a2, V.ref a3] : List V)[j]? = some y → ∃ (u : Addr) (n k : Int), y = .ref u ∧ H7 u = some (.tup [.int n, .int k]) ∧ (0 ≤ n ∧ n ≤ ((1000000 : Nat) : Int)) ∧ 0 ≤ k ∧ k ≤ ((1000000 : Nat) : Int) := fun j y hy => by
      rcases three_cases hy with rfl | rfl | rfl
      · exact ⟨a1, 0, 0, rfl, e1, by decide, by decide⟩
      · exact ⟨a2, 7, 3, rfl, e2, by decide, by decide⟩
      · exact ⟨a3, r, _, rfl, e3, ⟨r0, by omega⟩, p6⟩
    refine ⟨tt, rfl, ⟨_, SqT.of e4⟩, for_tup (xs := [V.ref a1, V.ref a2, V.ref a3]) (fun i' σ Hx => ∃ y12 y13, σ = [some (.ref a), some (.ref d), y2, some (.ref t), some (.ref x), some (.int (i : Nat)), some (.str q1.1), some (.ref ra), some (.ref fl), some (.str pc.1), some (.str pc.2), some (.ref m), y12, y13] ∧ Same H7 Hx) ⟨_, _, rfl, Same.refl _⟩ (fun i' σ Hx _ hP => by obtain ⟨_, _, _, s⟩ := hP; exact SqT.of (s _ _ e4)) (fun i' y σ Hx hy hP => ?turn4) (fun σ Hx hP => ?fin4)⟩
    case turn4 =>
      obtain ⟨y12, y13, rfl, s7⟩ := hP
      obtain ⟨u', n, k, rfl, hu', ⟨n0, n1⟩, k0, k1⟩ := pr i' y hy
      refine ⟨u', _, rfl, SqT.of (s7 _ _ hu'), rfl, _, _, rfl, _, _, rfl, rfl, ?_⟩
      try dsimp only [List.set]
      obtain ⟨⟨u0, u1⟩, v0, v1⟩ := Mp.act_small (A := 1000000) small ⟨n0, n1⟩ ⟨k0, k1⟩
      have tl : Telling (.tuple [.int (Mp.reck (stepsM lw.reverse pc.1 flat).1 n k), .int (Mp.reck (stepsM lw.reverse pc.1 flat).2 n k)]) := two_told ⟨u0, by omega⟩ ⟨v0, by omega⟩
      refine stepEndB (fun H' => Same Hx H') (fun Q' hQ => ?c6) (fun H' s' => ?r6)
      case c6 =>
        have hm8 := (hm7.same hh_sub).same s7
        have k8 := (hh_sub (H := H7) (d := d) (g := g)).trans s7
        obtain ⟨dm, am, bm, hins, _⟩ := id hm8
        refine ⟨_, rfl, m, rfl, _, rfl, _, rfl, .inr ⟨_, _, hins⟩, m, stepsM lw.reverse pc.1 flat, n, k, rfl, hm8, fun b1 Ha sa hra => ?_⟩
        refine reprD_go (.tup hra (.cons (.int _) (.cons (.int _) .nil))) tl ?_
        have ka := k8.trans sa
        refine ⟨_, rfl, _, rfl, _, rfl, _, rfl, _, rfl, t, c, l, fl, cs, flat, pc.1, lw, n, k, rfl, SqT.of (ka _ _ ht7), hc7.mono ka, BV.c, hexC, hlw, hwd, hf7.same ka, fn.row, fn.cnt, fun b2 Hb sb hrb => ?_⟩
        refine reprD_go (.tup hrb (.cons (.int _) (.cons (.int _) .nil))) tl ?_
        exact rNe_same rfl ⟨_, rfl, hQ _ (sa.trans sb)⟩
      case r6 =>
      exact ⟨_, _, rfl, s7.trans s'⟩
    case fin4 =>
    obtain ⟨y12, y13, rfl, s7⟩ := hP
    try dsimp only [List.set]
    have hm8 := (hm7.same hh_sub).same s7
    have k8 := (hh_sub (H := H7) (d := d) (g := g)).trans s7
    have sm : Mp.smallS (stepsM lw.reverse pc.1 flat) := ⟨Nat.lt_of_le_of_lt small.1 (by decide), Nat.lt_of_le_of_lt small.2 (by decide)⟩
    obtain ⟨dm, am, bm, hins, ham, hbm⟩ := id hm8
    refine stepEndB (fun H' => Same Hx H') (fun Q' hQ => ?c7) (fun H' s' => ?r7)
    case c7 =>
      refine ⟨_, rfl, m, _, rfl, hm8, sm, ?_⟩
      refine ⟨_, rfl, m, _, dm, _, .ref am, rfl, hins, T.A.M.cl, T.A.M.noN, Mp.map_now, _, rfl, m, _, dm, _, .ref bm, rfl, hins, T.A.M.cl, T.A.M.noB, Mp.map_box, ?_⟩
      refine Mp.map_made T.A.M ham hbm fun m2 Ha sa hm2 => ?_
      refine ⟨m2, _, rfl, hm2, sm, rNe_same rfl ⟨_, rfl, iteF ?_⟩⟩
      refine mapGo Ha _ ((((g5.trans g56).trans hh_sub).trans s7).trans sa) (fun m3 Hb sb hm3 => ?_) _ rfl rfl rfl
      · exact ⟨_, rfl, m3, m, _, _, rfl, rfl, hm3, (hm8.same sa).same sb, _, rfl, by rw [decide_eq_true rfl]; exact hQ _ (sa.trans sb)⟩
    case r7 =>
    exact ⟨_, _, _, _, _, _, rfl, hD7.same (s7.trans s'), g45.trans (g56.trans (hh_same (s7.trans s')))⟩
end
end Pn

namespace Pn
open PySem PySem.Spec PyProof.Rows L2
/-- the goal that the short head leaves, from the law's promise at callerA -/
theorem walk_gE {l : PySem.W.OpenLaw} {n : Nat} {q : Program} {loose : List Str} {XP : (Str → Option Value) → Heap → Prop} {YP : World → Heap → Prop} {d : DefRec} {x : Str}
    (hn : l.most = some n) (hn2 : n ≤ sizeLine) (hdf : d.params.defaults = [])
    (F : ∀ (w : World) (mg : Str → Option Value) (fa : Addr) (h : Heap), YP w h → h.Ns mainGlobals mg → mg d.name = some (.ref fa) →
      ∃ (K : PySem.W.Frag) (fd : FuncData) (sp : Sp), K.In h ∧ (∀ (s : Shared) (u : Value), BindsTo s fd ⟨[u], []⟩ [(x, u)]) ∧
        (∀ (H : Hp) (a : Addr) (ns : List Int), ns.length ≤ n → SqL K H a (ns.map V.int) → sp [.ref a] H (fun v _ => v = .bl true) fun _ _ _ => False) ∧
        ∀ base : Heap, K.In base → base.Ns mainGlobals mg → RunAt l.prog w K mg base callerA fa fd [x] sp) :
    PySem.W.WalkO q loose XP YP l.row.toRowW d [] (fun f vs => PySem.call f vs) := by
  refine Att.attach_call hn hdf fun w s₀ s₁ mg mb fa o pm cd doc a vs ns G Y ho hd hcd hmg hobj hints hlen hg => ?_
  obtain ⟨K, fd, sp, KX, hb, hsp, hF⟩ := F w mg fa _ Y G.T.g hmg
  obtain ⟨H, hO, hS, hok, hA⟩ := law_track (P := l.prog) (w := w) KX hobj hints (Nat.le_trans hlen hn2)
  obtain ⟨kin, hns, e0⟩ := law_env KX G.T.g G.T.b G.T.builtins G.T.nolimit hg hobj hok hA
  refine codeAny_mono (hF _ kin hns s₁ H [.ref a] [.ref a] (fun v _ => v = .bl true) (fun _ _ _ => False) e0 (hb s₁ (.ref a)) (.cons rfl .nil) (hsp H a ns hlen hS)) fun r s' h => ?_
  cases r with
  | error e => exact False.elim h
  | ok fl =>
    cases fl with
    | next => exact False.elim h
    | brk => exact False.elim h
    | cont => exact False.elim h
    | ret u =>
      obtain ⟨v, H', os, bare, un, hok', rv, hv⟩ := h
      cases (show v = V.bl true from hv)
      cases (show u = Value.bool true from rv)
      refine ⟨rfl, OldK.of_keep fun b o e => ?_, os, bare⟩
      rcases hO b with z | ⟨ob, xs, z⟩
      · exact un.keep b o e z (by intro z; cases (show b ∈ ([] : List Addr) from z)) (by simp)
      · obtain ⟨e1, _⟩ := hok b _ z
        obtain ⟨e2, _⟩ := hok' b _ (un.frzs b ob _ z)
        cases e.symm.trans e1
        exact e2
end Pn

namespace Pn
open PySem PySem.Spec PyProof.Rows L2
theorem stayQ_ok {K : PySem.W.Frag} {a : Addr} (h : stayQ K a = true) : ∀ H : Hp, StepAt K H a stayT := by
  unfold stayQ at h
  split at h
  · rename_i t d its n sl hl
    rw [Bool.and_eq_true, Bool.and_eq_true] at h
    obtain ⟨h1, h2, h3⟩ := h
    have e := of_decide_eq_true h1
    subst e
    split at h3
    · rename_i b c he
      rw [Bool.and_eq_true] at h3
      intro H
      refine ⟨b, c, .inr ⟨_, its, n, hl, rfl, rfl, of_decide_eq_true h2, ?_⟩, tupQ_ok (vs := [.str "now", .int 0]) h3.1 H, tupQ_ok (vs := [.str "box", .int 0]) h3.2 H⟩
      rw [he]
      exact .cons (show RelV (.ref b) (Value.ref b) from rfl) (.cons (show RelV (.ref c) (Value.ref c) from rfl) .nil)
    · cases h3
  · cases h
end Pn

namespace Pn
open PySem PySem.Spec PyProof.Rows L2 Mp
theorem facts {P : Program} {w : World} {K : PySem.W.Frag} {h : Heap} {mg : Str → Option Value} {fa : Addr} (X : K.In h) (G : h.Ns mainGlobals mg) (hfa : mg ("law" : Str) = some (.ref fa)) (c : askQ fnQ exQ K = toldQ fnQ) :
    ∃ fd : FuncData, (∀ (s : Shared) (v : Value), BindsTo s fd ⟨[v], []⟩ [("_law_script", v)]) ∧ ∀ base : Heap, K.In base → base.Ns mainGlobals mg → RunAt P w K mg base callerA fa fd ["_law_script"] (spLaw26 K) := by
  have zint : PySem.W.nsIn K mainGlobals "int" = some none := of_decide_eq_true (told_at c 0 0)
  have zbool : PySem.W.nsIn K mainGlobals "bool" = some none := of_decide_eq_true (told_at c 0 1)
  have zstr : PySem.W.nsIn K mainGlobals "str" = some none := of_decide_eq_true (told_at c 0 2)
  have zisinstance : PySem.W.nsIn K mainGlobals "isinstance" = some none := of_decide_eq_true (told_at c 0 3)
  have zlen : PySem.W.nsIn K mainGlobals "len" = some none := of_decide_eq_true (told_at c 0 4)
  have zall : PySem.W.nsIn K mainGlobals "all" = some none := of_decide_eq_true (told_at c 0 5)
  have zabs : PySem.W.nsIn K mainGlobals "abs" = some none := of_decide_eq_true (told_at c 0 6)
  have zrange : PySem.W.nsIn K mainGlobals "range" = some none := of_decide_eq_true (told_at c 0 7)
  have zlist : PySem.W.nsIn K mainGlobals "list" = some none := of_decide_eq_true (told_at c 0 8)
  have ztuple : PySem.W.nsIn K mainGlobals "tuple" = some none := of_decide_eq_true (told_at c 0 9)
  have zset : PySem.W.nsIn K mainGlobals "set" = some none := of_decide_eq_true (told_at c 1 0)
  have zreversed : PySem.W.nsIn K mainGlobals "reversed" = some none := of_decide_eq_true (told_at c 1 1)
  have zsorted : PySem.W.nsIn K mainGlobals "sorted" = some none := of_decide_eq_true (told_at c 1 2)
  have zdict : PySem.W.nsIn K mainGlobals "dict" = some none := of_decide_eq_true (told_at c 1 3)
  have zenumerate : PySem.W.nsIn K mainGlobals "enumerate" = some none := of_decide_eq_true (told_at c 1 4)
  have zrepr : PySem.W.nsIn K mainGlobals "repr" = some none := of_decide_eq_true (told_at c 1 5)
  have aROWWORDS : PySem.W.nsIn K mainGlobals "ROW_WORDS" = some (some (.ref (He.ga K "ROW_WORDS"))) := of_decide_eq_true (told_at c 1 6)
  have SROWWORDS : ∀ H : Hp, SqT K H (He.ga K "ROW_WORDS") [.str "note", .str "skip", .str "set", .str "keep", .str "back", .str "ref", .str "put", .str "open", .str "part"] := fun H => He.tupB_ok (x := "ROW_WORDS") (vs := [.str "note", .str "skip", .str "set", .str "keep", .str "back", .str "ref", .str "put", .str "open", .str "part"]) (told_at c 1 7) H
  obtain ⟨tkLONGESTNAME, ILONGESTNAME⟩ := He.int_ok X G (x := "LONGEST_NAME") (i := 4) (told_at c 1 8)
  have aisinteger : PySem.W.nsIn K mainGlobals "is_integer" = some (some (.ref (He.ga K "is_integer"))) := of_decide_eq_true (told_at c 1 9)
  obtain ⟨fdisinteger, Yisinteger⟩ := told_fn c 0
  have Xisinteger : Fun K "is_integer" "is_integer" sIsInteger (He.ga K "is_integer") fdisinteger := fun_of Yisinteger
  have aisnumber : PySem.W.nsIn K mainGlobals "is_number" = some (some (.ref (He.ga K "is_number"))) := of_decide_eq_true (told_at c 2 0)
  obtain ⟨fdisnumber, Yisnumber⟩ := told_fn c 1
  have Xisnumber : Fun K "is_number" "is_number" sIsNumber (He.ga K "is_number") fdisnumber := fun_of Yisnumber
  have aisname : PySem.W.nsIn K mainGlobals "is_name" = some (some (.ref (He.ga K "is_name"))) := of_decide_eq_true (told_at c 2 1)
  obtain ⟨fdisname, Yisname⟩ := told_fn c 2
  have Xisname : Fun K "is_name" "is_name" sIsName (He.ga K "is_name") fdisname := fun_of Yisname
  have aNoteError : PySem.W.nsIn K mainGlobals "NoteError" = some (some (.ref (He.ga K "NoteError"))) := of_decide_eq_true (told_at c 2 2)
  have aInvalidRow : PySem.W.nsIn K mainGlobals "InvalidRow" = some (some (.ref (He.ga K "InvalidRow"))) := of_decide_eq_true (told_at c 2 3)
  have xInvalidRow := excQ_ok (K := K) (C := (He.ga K "InvalidRow")) (nid := "ValueError.__new__") (told_at c 2 4)
  have saInvalidRow : PySem.W.findIn K (.ref (He.ga K "InvalidRow")) "__setattr__" = some (some (.builtin "object.__setattr__")) := of_decide_eq_true (told_at c 2 5)
  have gaInvalidRow : PySem.W.findIn K (.ref (He.ga K "InvalidRow")) "__getattribute__" = some (some (.builtin "BaseException.__getattribute__")) := of_decide_eq_true (told_at c 2 6)
  have ggInvalidRow : PySem.W.findIn K (.ref (He.ga K "InvalidRow")) "__getattr__" = some (none) := of_decide_eq_true (told_at c 2 7)
  have nfInvalidRow : PySem.W.findIn K (.ref (He.ga K "InvalidRow")) "word" = some (none) := of_decide_eq_true (told_at c 2 8)
  have inInvalidRow : PySem.W.findIn K (.ref (He.ga K "InvalidRow")) "__init__" = some (some (.ref (He.ma K (He.ga K "InvalidRow") "__init__"))) := of_decide_eq_true (told_at c 2 9)
  have haInvalidRow : PySem.W.findIn K (.ref (He.ga K "InvalidRow")) "__class__" = some (some (.builtin "object.__class__")) := of_decide_eq_true (told_at c 3 0)
  have tiInvalidRow : PySem.W.typeIn K (.ref (He.ma K (He.ga K "InvalidRow") "__init__")) = some (.type "function") := of_decide_eq_true (told_at c 3 1)
  obtain ⟨fdInvalidRow, YInvalidRow⟩ := told_fn c 3
  have XInvalidRow : Fun K "__init__" "InvalidRow.__init__" sIRInit (He.ma K (He.ga K "InvalidRow") "__init__") fdInvalidRow := fun_of YInvalidRow
  have kcInvalidRow : PySem.W.keepIn K (.ref (He.ga K "InvalidRow")) = true := (told_at c 3 2)
  have eCInvalidRow : PySem.W.subIn K (.ref (He.ga K "InvalidRow")) (.type "BaseException") = some true := of_decide_eq_true (told_at c 3 3)
  have tCInvalidRow : PySem.W.typeIn K (.ref (He.ga K "InvalidRow")) = some (.type "type") := of_decide_eq_true (told_at c 3 4)
  have hCInvalidRow : PySem.W.hasDictIn K (He.ga K "InvalidRow") = true := (told_at c 3 5)
  have iCInvalidRow : PySem.W.isClsIn K (He.ga K "InvalidRow") = true := (told_at c 3 6)
  have sCInvalidRow : PySem.W.subIn K (.ref (He.ga K "InvalidRow")) (.ref (He.ga K "InvalidRow")) = some true := of_decide_eq_true (told_at c 3 7)
  have hmInvalidRow : PySem.W.mroIn K (He.ga K "InvalidRow") (.type "object") = some true := of_decide_eq_true (told_at c 3 8)
  have aneedname : PySem.W.nsIn K mainGlobals "need_name" = some (some (.ref (He.ga K "need_name"))) := of_decide_eq_true (told_at c 3 9)
  obtain ⟨fdneedname, Yneedname⟩ := told_fn c 4
  have Xneedname : Fun K "need_name" "need_name" sNeedName (He.ga K "need_name") fdneedname := fun_of Yneedname
  have aNote : PySem.W.nsIn K mainGlobals "Note" = some (some (.ref (He.ga K "Note"))) := of_decide_eq_true (told_at c 4 0)
  have inNote : PySem.W.findIn K (.ref (He.ga K "Note")) "__init__" = some (some (.ref (He.ma K (He.ga K "Note") "__init__"))) := of_decide_eq_true (told_at c 4 1)
  have iNote : PySem.W.isFn K (.ref (He.ma K (He.ga K "Note") "__init__")) = true := (told_at c 4 2)
  obtain ⟨fdNote, YNote⟩ := told_fn c 5
  have FNote : FunD K "__init__" "Note.__init__" (defArgs sNoteInit) (defBody sNoteInit) (defScope sNoteInit) [.str ""] [] (He.ma K (He.ga K "Note") "__init__") fdNote := YNote
  have pgNote : PySem.W.plainGet K (He.ga K "Note") Str.empty = true := (told_at c 4 3)
  have hdNote : PySem.W.hasDictIn K (He.ga K "Note") = true := (told_at c 4 4)
  have poNote : PySem.W.plainOver K (He.ga K "Note") = true := (told_at c 4 5)
  have saNote : PySem.W.findIn K (.ref (He.ga K "Note")) "__setattr__" = some (some (.builtin "object.__setattr__")) := of_decide_eq_true (told_at c 4 6)
  have mkNote : PySem.W.makesIn K (He.ga K "Note") = true := (told_at c 4 7)
  have kcNote : PySem.W.keepIn K (.ref (He.ga K "Note")) = true := (told_at c 4 8)
  have nNote0 : PySem.W.findIn K (.ref (He.ga K "Note")) "word" = some none := of_decide_eq_true (told_at c 4 9)
  have nNote1 : PySem.W.findIn K (.ref (He.ga K "Note")) "counter" = some none := of_decide_eq_true (told_at c 5 0)
  have nNote2 : PySem.W.findIn K (.ref (He.ga K "Note")) "label" = some none := of_decide_eq_true (told_at c 5 1)
  have inSNote : PySem.W.findIn K (.ref (He.ga K "Note")) "__str__" = some (some (.ref (He.ma K (He.ga K "Note") "__str__"))) := of_decide_eq_true (told_at c 5 2)
  have iSNote : PySem.W.isFn K (.ref (He.ma K (He.ga K "Note") "__str__")) = true := (told_at c 5 3)
  obtain ⟨fdSNote, YSNote⟩ := told_fn c 6
  have XSNote : Fun K "__str__" "Note.__str__" sNoteStr (He.ma K (He.ga K "Note") "__str__") fdSNote := fun_of YSNote
  have aSkip : PySem.W.nsIn K mainGlobals "Skip" = some (some (.ref (He.ga K "Skip"))) := of_decide_eq_true (told_at c 5 4)
  have inSkip : PySem.W.findIn K (.ref (He.ga K "Skip")) "__init__" = some (some (.ref (He.ma K (He.ga K "Skip") "__init__"))) := of_decide_eq_true (told_at c 5 5)
  have iSkip : PySem.W.isFn K (.ref (He.ma K (He.ga K "Skip") "__init__")) = true := (told_at c 5 6)
  obtain ⟨fdSkip, YSkip⟩ := told_fn c 7
  have XSkip : Fun K "__init__" "Skip.__init__" sSkipInit (He.ma K (He.ga K "Skip") "__init__") fdSkip := fun_of YSkip
  have pgSkip : PySem.W.plainGet K (He.ga K "Skip") Str.empty = true := (told_at c 5 7)
  have hdSkip : PySem.W.hasDictIn K (He.ga K "Skip") = true := (told_at c 5 8)
  have poSkip : PySem.W.plainOver K (He.ga K "Skip") = true := (told_at c 5 9)
  have saSkip : PySem.W.findIn K (.ref (He.ga K "Skip")) "__setattr__" = some (some (.builtin "object.__setattr__")) := of_decide_eq_true (told_at c 6 0)
  have mkSkip : PySem.W.makesIn K (He.ga K "Skip") = true := (told_at c 6 1)
  have kcSkip : PySem.W.keepIn K (.ref (He.ga K "Skip")) = true := (told_at c 6 2)
  have nSkip0 : PySem.W.findIn K (.ref (He.ga K "Skip")) "word" = some none := of_decide_eq_true (told_at c 6 3)
  have nSkip1 : PySem.W.findIn K (.ref (He.ga K "Skip")) "counter" = some none := of_decide_eq_true (told_at c 6 4)
  have nSkip2 : PySem.W.findIn K (.ref (He.ga K "Skip")) "by" = some none := of_decide_eq_true (told_at c 6 5)
  have inSSkip : PySem.W.findIn K (.ref (He.ga K "Skip")) "__str__" = some (some (.ref (He.ma K (He.ga K "Skip") "__str__"))) := of_decide_eq_true (told_at c 6 6)
  have iSSkip : PySem.W.isFn K (.ref (He.ma K (He.ga K "Skip") "__str__")) = true := (told_at c 6 7)
  obtain ⟨fdSSkip, YSSkip⟩ := told_fn c 8
  have XSSkip : Fun K "__str__" "Skip.__str__" sSkipStr (He.ma K (He.ga K "Skip") "__str__") fdSSkip := fun_of YSSkip
  have aSet : PySem.W.nsIn K mainGlobals "Set" = some (some (.ref (He.ga K "Set"))) := of_decide_eq_true (told_at c 6 8)
  have inSet : PySem.W.findIn K (.ref (He.ga K "Set")) "__init__" = some (some (.ref (He.ma K (He.ga K "Set") "__init__"))) := of_decide_eq_true (told_at c 6 9)
  have iSet : PySem.W.isFn K (.ref (He.ma K (He.ga K "Set") "__init__")) = true := (told_at c 7 0)
  obtain ⟨fdSet, YSet⟩ := told_fn c 9
  have XSet : Fun K "__init__" "Set.__init__" sSetInit (He.ma K (He.ga K "Set") "__init__") fdSet := fun_of YSet
  have pgSet : PySem.W.plainGet K (He.ga K "Set") Str.empty = true := (told_at c 7 1)
  have hdSet : PySem.W.hasDictIn K (He.ga K "Set") = true := (told_at c 7 2)
  have poSet : PySem.W.plainOver K (He.ga K "Set") = true := (told_at c 7 3)
  have saSet : PySem.W.findIn K (.ref (He.ga K "Set")) "__setattr__" = some (some (.builtin "object.__setattr__")) := of_decide_eq_true (told_at c 7 4)
  have mkSet : PySem.W.makesIn K (He.ga K "Set") = true := (told_at c 7 5)
  have kcSet : PySem.W.keepIn K (.ref (He.ga K "Set")) = true := (told_at c 7 6)
  have nSet0 : PySem.W.findIn K (.ref (He.ga K "Set")) "word" = some none := of_decide_eq_true (told_at c 7 7)
  have nSet1 : PySem.W.findIn K (.ref (He.ga K "Set")) "counter" = some none := of_decide_eq_true (told_at c 7 8)
  have nSet2 : PySem.W.findIn K (.ref (He.ga K "Set")) "to" = some none := of_decide_eq_true (told_at c 7 9)
  have inSSet : PySem.W.findIn K (.ref (He.ga K "Set")) "__str__" = some (some (.ref (He.ma K (He.ga K "Set") "__str__"))) := of_decide_eq_true (told_at c 8 0)
  have iSSet : PySem.W.isFn K (.ref (He.ma K (He.ga K "Set") "__str__")) = true := (told_at c 8 1)
  obtain ⟨fdSSet, YSSet⟩ := told_fn c 10
  have XSSet : Fun K "__str__" "Set.__str__" sSetStr (He.ma K (He.ga K "Set") "__str__") fdSSet := fun_of YSSet
  have aKeep : PySem.W.nsIn K mainGlobals "Keep" = some (some (.ref (He.ga K "Keep"))) := of_decide_eq_true (told_at c 8 2)
  have inKeep : PySem.W.findIn K (.ref (He.ga K "Keep")) "__init__" = some (some (.ref (He.ma K (He.ga K "Keep") "__init__"))) := of_decide_eq_true (told_at c 8 3)
  have iKeep : PySem.W.isFn K (.ref (He.ma K (He.ga K "Keep") "__init__")) = true := (told_at c 8 4)
  obtain ⟨fdKeep, YKeep⟩ := told_fn c 11
  have XKeep : Fun K "__init__" "Keep.__init__" sKeepInit (He.ma K (He.ga K "Keep") "__init__") fdKeep := fun_of YKeep
  have pgKeep : PySem.W.plainGet K (He.ga K "Keep") Str.empty = true := (told_at c 8 5)
  have hdKeep : PySem.W.hasDictIn K (He.ga K "Keep") = true := (told_at c 8 6)
  have poKeep : PySem.W.plainOver K (He.ga K "Keep") = true := (told_at c 8 7)
  have saKeep : PySem.W.findIn K (.ref (He.ga K "Keep")) "__setattr__" = some (some (.builtin "object.__setattr__")) := of_decide_eq_true (told_at c 8 8)
  have mkKeep : PySem.W.makesIn K (He.ga K "Keep") = true := (told_at c 8 9)
  have kcKeep : PySem.W.keepIn K (.ref (He.ga K "Keep")) = true := (told_at c 9 0)
  have nKeep0 : PySem.W.findIn K (.ref (He.ga K "Keep")) "word" = some none := of_decide_eq_true (told_at c 9 1)
  have nKeep1 : PySem.W.findIn K (.ref (He.ga K "Keep")) "counter" = some none := of_decide_eq_true (told_at c 9 2)
  have inSKeep : PySem.W.findIn K (.ref (He.ga K "Keep")) "__str__" = some (some (.ref (He.ma K (He.ga K "Keep") "__str__"))) := of_decide_eq_true (told_at c 9 3)
  have iSKeep : PySem.W.isFn K (.ref (He.ma K (He.ga K "Keep") "__str__")) = true := (told_at c 9 4)
  obtain ⟨fdSKeep, YSKeep⟩ := told_fn c 12
  have XSKeep : Fun K "__str__" "Keep.__str__" sKeepStr (He.ma K (He.ga K "Keep") "__str__") fdSKeep := fun_of YSKeep
  have aBack : PySem.W.nsIn K mainGlobals "Back" = some (some (.ref (He.ga K "Back"))) := of_decide_eq_true (told_at c 9 5)
  have inBack : PySem.W.findIn K (.ref (He.ga K "Back")) "__init__" = some (some (.ref (He.ma K (He.ga K "Back") "__init__"))) := of_decide_eq_true (told_at c 9 6)
  have iBack : PySem.W.isFn K (.ref (He.ma K (He.ga K "Back") "__init__")) = true := (told_at c 9 7)
  obtain ⟨fdBack, YBack⟩ := told_fn c 13
  have XBack : Fun K "__init__" "Back.__init__" sBackInit (He.ma K (He.ga K "Back") "__init__") fdBack := fun_of YBack
  have pgBack : PySem.W.plainGet K (He.ga K "Back") Str.empty = true := (told_at c 9 8)
  have hdBack : PySem.W.hasDictIn K (He.ga K "Back") = true := (told_at c 9 9)
  have poBack : PySem.W.plainOver K (He.ga K "Back") = true := (told_at c 10 0)
  have saBack : PySem.W.findIn K (.ref (He.ga K "Back")) "__setattr__" = some (some (.builtin "object.__setattr__")) := of_decide_eq_true (told_at c 10 1)
  have mkBack : PySem.W.makesIn K (He.ga K "Back") = true := (told_at c 10 2)
  have kcBack : PySem.W.keepIn K (.ref (He.ga K "Back")) = true := (told_at c 10 3)
  have nBack0 : PySem.W.findIn K (.ref (He.ga K "Back")) "word" = some none := of_decide_eq_true (told_at c 10 4)
  have nBack1 : PySem.W.findIn K (.ref (He.ga K "Back")) "counter" = some none := of_decide_eq_true (told_at c 10 5)
  have inSBack : PySem.W.findIn K (.ref (He.ga K "Back")) "__str__" = some (some (.ref (He.ma K (He.ga K "Back") "__str__"))) := of_decide_eq_true (told_at c 10 6)
  have iSBack : PySem.W.isFn K (.ref (He.ma K (He.ga K "Back") "__str__")) = true := (told_at c 10 7)
  obtain ⟨fdSBack, YSBack⟩ := told_fn c 14
  have XSBack : Fun K "__str__" "Back.__str__" sBackStr (He.ma K (He.ga K "Back") "__str__") fdSBack := fun_of YSBack
  have aRef : PySem.W.nsIn K mainGlobals "Ref" = some (some (.ref (He.ga K "Ref"))) := of_decide_eq_true (told_at c 10 8)
  have inRef : PySem.W.findIn K (.ref (He.ga K "Ref")) "__init__" = some (some (.ref (He.ma K (He.ga K "Ref") "__init__"))) := of_decide_eq_true (told_at c 10 9)
  have iRef : PySem.W.isFn K (.ref (He.ma K (He.ga K "Ref") "__init__")) = true := (told_at c 11 0)
  obtain ⟨fdRef, YRef⟩ := told_fn c 15
  have XRef : Fun K "__init__" "Ref.__init__" sRefInit (He.ma K (He.ga K "Ref") "__init__") fdRef := fun_of YRef
  have pgRef : PySem.W.plainGet K (He.ga K "Ref") Str.empty = true := (told_at c 11 1)
  have hdRef : PySem.W.hasDictIn K (He.ga K "Ref") = true := (told_at c 11 2)
  have poRef : PySem.W.plainOver K (He.ga K "Ref") = true := (told_at c 11 3)
  have saRef : PySem.W.findIn K (.ref (He.ga K "Ref")) "__setattr__" = some (some (.builtin "object.__setattr__")) := of_decide_eq_true (told_at c 11 4)
  have mkRef : PySem.W.makesIn K (He.ga K "Ref") = true := (told_at c 11 5)
  have kcRef : PySem.W.keepIn K (.ref (He.ga K "Ref")) = true := (told_at c 11 6)
  have nRef0 : PySem.W.findIn K (.ref (He.ga K "Ref")) "word" = some none := of_decide_eq_true (told_at c 11 7)
  have nRef1 : PySem.W.findIn K (.ref (He.ga K "Ref")) "label" = some none := of_decide_eq_true (told_at c 11 8)
  have inSRef : PySem.W.findIn K (.ref (He.ga K "Ref")) "__str__" = some (some (.ref (He.ma K (He.ga K "Ref") "__str__"))) := of_decide_eq_true (told_at c 11 9)
  have iSRef : PySem.W.isFn K (.ref (He.ma K (He.ga K "Ref") "__str__")) = true := (told_at c 12 0)
  obtain ⟨fdSRef, YSRef⟩ := told_fn c 16
  have XSRef : Fun K "__str__" "Ref.__str__" sRefStr (He.ma K (He.ga K "Ref") "__str__") fdSRef := fun_of YSRef
  have aPut : PySem.W.nsIn K mainGlobals "Put" = some (some (.ref (He.ga K "Put"))) := of_decide_eq_true (told_at c 12 1)
  have inPut : PySem.W.findIn K (.ref (He.ga K "Put")) "__init__" = some (some (.ref (He.ma K (He.ga K "Put") "__init__"))) := of_decide_eq_true (told_at c 12 2)
  have iPut : PySem.W.isFn K (.ref (He.ma K (He.ga K "Put") "__init__")) = true := (told_at c 12 3)
  obtain ⟨fdPut, YPut⟩ := told_fn c 17
  have XPut : Fun K "__init__" "Put.__init__" sPutInit (He.ma K (He.ga K "Put") "__init__") fdPut := fun_of YPut
  have pgPut : PySem.W.plainGet K (He.ga K "Put") Str.empty = true := (told_at c 12 4)
  have hdPut : PySem.W.hasDictIn K (He.ga K "Put") = true := (told_at c 12 5)
  have poPut : PySem.W.plainOver K (He.ga K "Put") = true := (told_at c 12 6)
  have saPut : PySem.W.findIn K (.ref (He.ga K "Put")) "__setattr__" = some (some (.builtin "object.__setattr__")) := of_decide_eq_true (told_at c 12 7)
  have mkPut : PySem.W.makesIn K (He.ga K "Put") = true := (told_at c 12 8)
  have kcPut : PySem.W.keepIn K (.ref (He.ga K "Put")) = true := (told_at c 12 9)
  have nPut0 : PySem.W.findIn K (.ref (He.ga K "Put")) "word" = some none := of_decide_eq_true (told_at c 13 0)
  have nPut1 : PySem.W.findIn K (.ref (He.ga K "Put")) "part" = some none := of_decide_eq_true (told_at c 13 1)
  have inSPut : PySem.W.findIn K (.ref (He.ga K "Put")) "__str__" = some (some (.ref (He.ma K (He.ga K "Put") "__str__"))) := of_decide_eq_true (told_at c 13 2)
  have iSPut : PySem.W.isFn K (.ref (He.ma K (He.ga K "Put") "__str__")) = true := (told_at c 13 3)
  obtain ⟨fdSPut, YSPut⟩ := told_fn c 18
  have XSPut : Fun K "__str__" "Put.__str__" sPutStr (He.ma K (He.ga K "Put") "__str__") fdSPut := fun_of YSPut
  have aOpen : PySem.W.nsIn K mainGlobals "Open" = some (some (.ref (He.ga K "Open"))) := of_decide_eq_true (told_at c 13 4)
  have inOpen : PySem.W.findIn K (.ref (He.ga K "Open")) "__init__" = some (some (.ref (He.ma K (He.ga K "Open") "__init__"))) := of_decide_eq_true (told_at c 13 5)
  have iOpen : PySem.W.isFn K (.ref (He.ma K (He.ga K "Open") "__init__")) = true := (told_at c 13 6)
  obtain ⟨fdOpen, YOpen⟩ := told_fn c 19
  have XOpen : Fun K "__init__" "Open.__init__" sOpenInit (He.ma K (He.ga K "Open") "__init__") fdOpen := fun_of YOpen
  have pgOpen : PySem.W.plainGet K (He.ga K "Open") Str.empty = true := (told_at c 13 7)
  have hdOpen : PySem.W.hasDictIn K (He.ga K "Open") = true := (told_at c 13 8)
  have poOpen : PySem.W.plainOver K (He.ga K "Open") = true := (told_at c 13 9)
  have saOpen : PySem.W.findIn K (.ref (He.ga K "Open")) "__setattr__" = some (some (.builtin "object.__setattr__")) := of_decide_eq_true (told_at c 14 0)
  have mkOpen : PySem.W.makesIn K (He.ga K "Open") = true := (told_at c 14 1)
  have kcOpen : PySem.W.keepIn K (.ref (He.ga K "Open")) = true := (told_at c 14 2)
  have nOpen0 : PySem.W.findIn K (.ref (He.ga K "Open")) "word" = some none := of_decide_eq_true (told_at c 14 3)
  have nOpen1 : PySem.W.findIn K (.ref (He.ga K "Open")) "name" = some none := of_decide_eq_true (told_at c 14 4)
  have inSOpen : PySem.W.findIn K (.ref (He.ga K "Open")) "__str__" = some (some (.ref (He.ma K (He.ga K "Open") "__str__"))) := of_decide_eq_true (told_at c 14 5)
  have iSOpen : PySem.W.isFn K (.ref (He.ma K (He.ga K "Open") "__str__")) = true := (told_at c 14 6)
  obtain ⟨fdSOpen, YSOpen⟩ := told_fn c 20
  have XSOpen : Fun K "__str__" "Open.__str__" sOpenStr (He.ma K (He.ga K "Open") "__str__") fdSOpen := fun_of YSOpen
  have aRow : PySem.W.nsIn K mainGlobals "Row" = some (some (.ref (He.ga K "Row"))) := of_decide_eq_true (told_at c 14 7)
  have aissequence : PySem.W.nsIn K mainGlobals "is_sequence" = some (some (.ref (He.ga K "is_sequence"))) := of_decide_eq_true (told_at c 14 8)
  obtain ⟨fdissequence, Yissequence⟩ := told_fn c 21
  have Xissequence : Fun K "is_sequence" "is_sequence" sIsSeq (He.ga K "is_sequence") fdissequence := fun_of Yissequence
  have aInvalidPart : PySem.W.nsIn K mainGlobals "InvalidPart" = some (some (.ref (He.ga K "InvalidPart"))) := of_decide_eq_true (told_at c 14 9)
  have xInvalidPart := excQ_ok (K := K) (C := (He.ga K "InvalidPart")) (nid := "ValueError.__new__") (told_at c 15 0)
  have saInvalidPart : PySem.W.findIn K (.ref (He.ga K "InvalidPart")) "__setattr__" = some (some (.builtin "object.__setattr__")) := of_decide_eq_true (told_at c 15 1)
  have gaInvalidPart : PySem.W.findIn K (.ref (He.ga K "InvalidPart")) "__getattribute__" = some (some (.builtin "BaseException.__getattribute__")) := of_decide_eq_true (told_at c 15 2)
  have ggInvalidPart : PySem.W.findIn K (.ref (He.ga K "InvalidPart")) "__getattr__" = some (none) := of_decide_eq_true (told_at c 15 3)
  have nfInvalidPart : PySem.W.findIn K (.ref (He.ga K "InvalidPart")) "word" = some (none) := of_decide_eq_true (told_at c 15 4)
  have inInvalidPart : PySem.W.findIn K (.ref (He.ga K "InvalidPart")) "__init__" = some (some (.ref (He.ma K (He.ga K "InvalidPart") "__init__"))) := of_decide_eq_true (told_at c 15 5)
  have haInvalidPart : PySem.W.findIn K (.ref (He.ga K "InvalidPart")) "__class__" = some (some (.builtin "object.__class__")) := of_decide_eq_true (told_at c 15 6)
  have tiInvalidPart : PySem.W.typeIn K (.ref (He.ma K (He.ga K "InvalidPart") "__init__")) = some (.type "function") := of_decide_eq_true (told_at c 15 7)
  obtain ⟨fdInvalidPart, YInvalidPart⟩ := told_fn c 22
  have XInvalidPart : Fun K "__init__" "InvalidPart.__init__" sIPInit (He.ma K (He.ga K "InvalidPart") "__init__") fdInvalidPart := fun_of YInvalidPart
  have kcInvalidPart : PySem.W.keepIn K (.ref (He.ga K "InvalidPart")) = true := (told_at c 15 8)
  have eCInvalidPart : PySem.W.subIn K (.ref (He.ga K "InvalidPart")) (.type "BaseException") = some true := of_decide_eq_true (told_at c 15 9)
  have tCInvalidPart : PySem.W.typeIn K (.ref (He.ga K "InvalidPart")) = some (.type "type") := of_decide_eq_true (told_at c 16 0)
  have hCInvalidPart : PySem.W.hasDictIn K (He.ga K "InvalidPart") = true := (told_at c 16 1)
  have iCInvalidPart : PySem.W.isClsIn K (He.ga K "InvalidPart") = true := (told_at c 16 2)
  have sCInvalidPart : PySem.W.subIn K (.ref (He.ga K "InvalidPart")) (.ref (He.ga K "InvalidPart")) = some true := of_decide_eq_true (told_at c 16 3)
  have hmInvalidPart : PySem.W.mroIn K (He.ga K "InvalidPart") (.type "object") = some true := of_decide_eq_true (told_at c 16 4)
  have aPart : PySem.W.nsIn K mainGlobals "Part" = some (some (.ref (He.ga K "Part"))) := of_decide_eq_true (told_at c 16 5)
  have inPart : PySem.W.findIn K (.ref (He.ga K "Part")) "__init__" = some (some (.ref (He.ma K (He.ga K "Part") "__init__"))) := of_decide_eq_true (told_at c 16 6)
  have iPart : PySem.W.isFn K (.ref (He.ma K (He.ga K "Part") "__init__")) = true := (told_at c 16 7)
  have SDPart : ∀ H : Hp, SqT K H (He.dflAt ("Part", some "__init__") 0 K) [] := fun H => tupQ_ok (vs := []) (told_at c 16 8) H
  obtain ⟨fdPart, YPart⟩ := told_fn c 23
  have FPart : FunD K "__init__" "Part.__init__" (defArgs sPartInit) (defBody sPartInit) (defScope sPartInit) [.ref (He.dflAt ("Part", some "__init__") 0 K)] [] (He.ma K (He.ga K "Part") "__init__") fdPart := YPart
  have pgPart : PySem.W.plainGet K (He.ga K "Part") Str.empty = true := (told_at c 16 9)
  have hdPart : PySem.W.hasDictIn K (He.ga K "Part") = true := (told_at c 17 0)
  have poPart : PySem.W.plainOver K (He.ga K "Part") = true := (told_at c 17 1)
  have saPart : PySem.W.findIn K (.ref (He.ga K "Part")) "__setattr__" = some (some (.builtin "object.__setattr__")) := of_decide_eq_true (told_at c 17 2)
  have mkPart : PySem.W.makesIn K (He.ga K "Part") = true := (told_at c 17 3)
  have kcPart : PySem.W.keepIn K (.ref (He.ga K "Part")) = true := (told_at c 17 4)
  have nPart0 : PySem.W.findIn K (.ref (He.ga K "Part")) "name" = some none := of_decide_eq_true (told_at c 17 5)
  have nPart1 : PySem.W.findIn K (.ref (He.ga K "Part")) "rows" = some none := of_decide_eq_true (told_at c 17 6)
  have instrPart : PySem.W.findIn K (.ref (He.ga K "Part")) "__str__" = some (some (.ref (He.ma K (He.ga K "Part") "__str__"))) := of_decide_eq_true (told_at c 17 7)
  have istrPart : PySem.W.isFn K (.ref (He.ma K (He.ga K "Part") "__str__")) = true := (told_at c 17 8)
  obtain ⟨fdstrPart, YstrPart⟩ := told_fn c 24
  have XstrPart : Fun K "__str__" "Part.__str__" sPartStr (He.ma K (He.ga K "Part") "__str__") fdstrPart := fun_of YstrPart
  have ineqPart : PySem.W.findIn K (.ref (He.ga K "Part")) "__eq__" = some (some (.ref (He.ma K (He.ga K "Part") "__eq__"))) := of_decide_eq_true (told_at c 17 9)
  have ieqPart : PySem.W.isFn K (.ref (He.ma K (He.ga K "Part") "__eq__")) = true := (told_at c 18 0)
  obtain ⟨fdeqPart, YeqPart⟩ := told_fn c 25
  have XeqPart : Fun K "__eq__" "Part.__eq__" sPartEq (He.ma K (He.ga K "Part") "__eq__") fdeqPart := fun_of YeqPart
  have aCOUNTINGWORDS : PySem.W.nsIn K mainGlobals "COUNTING_WORDS" = some (some (.ref (He.ga K "COUNTING_WORDS"))) := of_decide_eq_true (told_at c 18 1)
  have SCOUNTINGWORDS : ∀ H : Hp, SqT K H (He.ga K "COUNTING_WORDS") [.str "note", .str "skip", .str "set", .str "keep", .str "back"] := fun H => He.tupB_ok (x := "COUNTING_WORDS") (vs := [.str "note", .str "skip", .str "set", .str "keep", .str "back"]) (told_at c 18 2) H
  have aispair : PySem.W.nsIn K mainGlobals "is_pair" = some (some (.ref (He.ga K "is_pair"))) := of_decide_eq_true (told_at c 18 3)
  obtain ⟨fdispair, Yispair⟩ := told_fn c 26
  have Xispair : Fun K "is_pair" "is_pair" sIsPair (He.ga K "is_pair") fdispair := fun_of Yispair
  have aarecounters : PySem.W.nsIn K mainGlobals "are_counters" = some (some (.ref (He.ga K "are_counters"))) := of_decide_eq_true (told_at c 18 4)
  obtain ⟨fdarecounters, Yarecounters⟩ := told_fn c 27
  have Xarecounters : Fun K "are_counters" "are_counters" sAreC (He.ga K "are_counters") fdarecounters := fun_of Yarecounters
  have aareparts : PySem.W.nsIn K mainGlobals "are_parts" = some (some (.ref (He.ga K "are_parts"))) := of_decide_eq_true (told_at c 18 5)
  obtain ⟨fdareparts, Yareparts⟩ := told_fn c 28
  have Xareparts : Fun K "are_parts" "are_parts" sAreP (He.ga K "are_parts") fdareparts := fun_of Yareparts
  have acountersareknown : PySem.W.nsIn K mainGlobals "counters_are_known" = some (some (.ref (He.ga K "counters_are_known"))) := of_decide_eq_true (told_at c 18 6)
  obtain ⟨fdcountersareknown, Ycountersareknown⟩ := told_fn c 29
  have Xcountersareknown : Fun K "counters_are_known" "counters_are_known" sCKnown (He.ga K "counters_are_known") fdcountersareknown := fun_of Ycountersareknown
  have anamesput : PySem.W.nsIn K mainGlobals "names_put" = some (some (.ref (He.ga K "names_put"))) := of_decide_eq_true (told_at c 18 7)
  obtain ⟨fdnamesput, Ynamesput⟩ := told_fn c 30
  have Xnamesput : Fun K "names_put" "names_put" sNPut (He.ga K "names_put") fdnamesput := fun_of Ynamesput
  have aputsareearlier : PySem.W.nsIn K mainGlobals "puts_are_earlier" = some (some (.ref (He.ga K "puts_are_earlier"))) := of_decide_eq_true (told_at c 18 8)
  obtain ⟨fdputsareearlier, Yputsareearlier⟩ := told_fn c 31
  have Xputsareearlier : Fun K "puts_are_earlier" "puts_are_earlier" sPEarly (He.ga K "puts_are_earlier") fdputsareearlier := fun_of Yputsareearlier
  have anamesreached : PySem.W.nsIn K mainGlobals "names_reached" = some (some (.ref (He.ga K "names_reached"))) := of_decide_eq_true (told_at c 18 9)
  obtain ⟨fdnamesreached, Ynamesreached⟩ := told_fn c 32
  have Xnamesreached : Fun K "names_reached" "names_reached" sNReach (He.ga K "names_reached") fdnamesreached := fun_of Ynamesreached
  have aunroll : PySem.W.nsIn K mainGlobals "unroll" = some (some (.ref (He.ga K "unroll"))) := of_decide_eq_true (told_at c 19 0)
  obtain ⟨fdunroll, Yunroll⟩ := told_fn c 33
  have Xunroll : Fun K "unroll" "unroll" sUnr1 (He.ga K "unroll") fdunroll := fun_of Yunroll
  have aunrolledtext : PySem.W.nsIn K mainGlobals "unrolled_text" = some (some (.ref (He.ga K "unrolled_text"))) := of_decide_eq_true (told_at c 19 1)
  obtain ⟨fdunrolledtext, Yunrolledtext⟩ := told_fn c 34
  have Xunrolledtext : Fun K "unrolled_text" "unrolled_text" sUText (He.ga K "unrolled_text") fdunrolledtext := fun_of Yunrolledtext
  have arefsareknown : PySem.W.nsIn K mainGlobals "refs_are_known" = some (some (.ref (He.ga K "refs_are_known"))) := of_decide_eq_true (told_at c 19 2)
  obtain ⟨fdrefsareknown, Yrefsareknown⟩ := told_fn c 35
  have Xrefsareknown : Fun K "refs_are_known" "refs_are_known" sRefsK (He.ga K "refs_are_known") fdrefsareknown := fun_of Yrefsareknown
  have aBook : PySem.W.nsIn K mainGlobals "Book" = some (some (.ref (He.ga K "Book"))) := of_decide_eq_true (told_at c 19 3)
  have inBook : PySem.W.findIn K (.ref (He.ga K "Book")) "__init__" = some (some (.ref (He.ma K (He.ga K "Book") "__init__"))) := of_decide_eq_true (told_at c 19 4)
  have iBook : PySem.W.isFn K (.ref (He.ma K (He.ga K "Book") "__init__")) = true := (told_at c 19 5)
  obtain ⟨fdBook, YBook⟩ := told_fn c 36
  have XBook : Fun K "__init__" "Book.__init__" sBInit (He.ma K (He.ga K "Book") "__init__") fdBook := fun_of YBook
  have pgBook : PySem.W.plainGet K (He.ga K "Book") Str.empty = true := (told_at c 19 6)
  have hdBook : PySem.W.hasDictIn K (He.ga K "Book") = true := (told_at c 19 7)
  have poBook : PySem.W.plainOver K (He.ga K "Book") = true := (told_at c 19 8)
  have saBook : PySem.W.findIn K (.ref (He.ga K "Book")) "__setattr__" = some (some (.builtin "object.__setattr__")) := of_decide_eq_true (told_at c 19 9)
  have mkBook : PySem.W.makesIn K (He.ga K "Book") = true := (told_at c 20 0)
  have kcBook : PySem.W.keepIn K (.ref (He.ga K "Book")) = true := (told_at c 20 1)
  have nBook0 : PySem.W.findIn K (.ref (He.ga K "Book")) "counters" = some none := of_decide_eq_true (told_at c 20 2)
  have nBook1 : PySem.W.findIn K (.ref (He.ga K "Book")) "parts" = some none := of_decide_eq_true (told_at c 20 3)
  have nBook2 : PySem.W.findIn K (.ref (He.ga K "Book")) "flat" = some none := of_decide_eq_true (told_at c 20 4)
  obtain ⟨fdnamesBook, YnamesBook⟩ := told_fn c 37
  have XnamesBook : Fun K "names" "Book.names" sBNames (getterQ K (He.ma K (He.ga K "Book") "names")) fdnamesBook := fun_of YnamesBook
  obtain ⟨fdtopsBook, YtopsBook⟩ := told_fn c 38
  have XtopsBook : Fun K "tops" "Book.tops" sBTops (getterQ K (He.ma K (He.ga K "Book") "tops")) fdtopsBook := fun_of YtopsBook
  obtain ⟨fdunrolledBook, YunrolledBook⟩ := told_fn c 39
  have XunrolledBook : Fun K "unrolled" "Book.unrolled" sBUnr (getterQ K (He.ma K (He.ga K "Book") "unrolled")) fdunrolledBook := fun_of YunrolledBook
  have inchainBook : PySem.W.findIn K (.ref (He.ga K "Book")) "chain" = some (some (.ref (He.ma K (He.ga K "Book") "chain"))) := of_decide_eq_true (told_at c 20 8)
  have ichainBook : PySem.W.isFn K (.ref (He.ma K (He.ga K "Book") "chain")) = true := (told_at c 20 9)
  obtain ⟨fdchainBook, YchainBook⟩ := told_fn c 40
  have XchainBook : Fun K "chain" "Book.chain" sBChain (He.ma K (He.ga K "Book") "chain") fdchainBook := fun_of YchainBook
  have aSAMENUMBER : PySem.W.nsIn K mainGlobals "SAME_NUMBER" = some (some (.ref (He.ga K "SAME_NUMBER"))) := of_decide_eq_true (told_at c 21 0)
  have SSAMENUMBER : ∀ H : Hp, SqT K H (He.ga K "SAME_NUMBER") [.str "now", .int 0] := fun H => He.tupB_ok (x := "SAME_NUMBER") (vs := [.str "now", .int 0]) (told_at c 21 1) H
  have aSAMEBOX : PySem.W.nsIn K mainGlobals "SAME_BOX" = some (some (.ref (He.ga K "SAME_BOX"))) := of_decide_eq_true (told_at c 21 2)
  have SSAMEBOX : ∀ H : Hp, SqT K H (He.ga K "SAME_BOX") [.str "box", .int 0] := fun H => He.tupB_ok (x := "SAME_BOX") (vs := [.str "box", .int 0]) (told_at c 21 3) H
  have aSTAY : PySem.W.nsIn K mainGlobals "STAY" = some (some (.ref (He.ga K "STAY"))) := of_decide_eq_true (told_at c 21 4)
  have SSTAY := stayQ_ok (K := K) (a := (He.ga K "STAY")) (told_at c 21 5)
  have agoingon : PySem.W.nsIn K mainGlobals "going_on" = some (some (.ref (He.ga K "going_on"))) := of_decide_eq_true (told_at c 21 6)
  obtain ⟨fdgoingon, Ygoingon⟩ := told_fn c 41
  have Xgoingon : Fun K "going_on" "going_on" sGoing (He.ga K "going_on") fdgoingon := fun_of Ygoingon
  have aownstep : PySem.W.nsIn K mainGlobals "own_step" = some (some (.ref (He.ga K "own_step"))) := of_decide_eq_true (told_at c 21 7)
  obtain ⟨fdownstep, Yownstep⟩ := told_fn c 42
  have Xownstep : Fun K "own_step" "own_step" sOwn (He.ga K "own_step") fdownstep := fun_of Yownstep
  have astepof : PySem.W.nsIn K mainGlobals "step_of" = some (some (.ref (He.ga K "step_of"))) := of_decide_eq_true (told_at c 21 8)
  obtain ⟨fdstepof, Ystepof⟩ := told_fn c 43
  have Xstepof : Fun K "step_of" "step_of" sStep (He.ga K "step_of") fdstepof := fun_of Ystepof
  have areckoned : PySem.W.nsIn K mainGlobals "reckoned" = some (some (.ref (He.ga K "reckoned"))) := of_decide_eq_true (told_at c 21 9)
  obtain ⟨fdreckoned, Yreckoned⟩ := told_fn c 44
  have Xreckoned : Fun K "reckoned" "reckoned" sReck (He.ga K "reckoned") fdreckoned := fun_of Yreckoned
  have aTERMWORDS : PySem.W.nsIn K mainGlobals "TERM_WORDS" = some (some (.ref (He.ga K "TERM_WORDS"))) := of_decide_eq_true (told_at c 22 0)
  have STERMWORDS : ∀ H : Hp, SqT K H (He.ga K "TERM_WORDS") [.str "now", .str "box", .str "at"] := fun H => He.tupB_ok (x := "TERM_WORDS") (vs := [.str "now", .str "box", .str "at"]) (told_at c 22 1) H
  have aInvalidMap : PySem.W.nsIn K mainGlobals "InvalidMap" = some (some (.ref (He.ga K "InvalidMap"))) := of_decide_eq_true (told_at c 22 2)
  have xInvalidMap := excQ_ok (K := K) (C := (He.ga K "InvalidMap")) (nid := "ValueError.__new__") (told_at c 22 3)
  have saInvalidMap : PySem.W.findIn K (.ref (He.ga K "InvalidMap")) "__setattr__" = some (some (.builtin "object.__setattr__")) := of_decide_eq_true (told_at c 22 4)
  have gaInvalidMap : PySem.W.findIn K (.ref (He.ga K "InvalidMap")) "__getattribute__" = some (some (.builtin "BaseException.__getattribute__")) := of_decide_eq_true (told_at c 22 5)
  have ggInvalidMap : PySem.W.findIn K (.ref (He.ga K "InvalidMap")) "__getattr__" = some (none) := of_decide_eq_true (told_at c 22 6)
  have nfInvalidMap : PySem.W.findIn K (.ref (He.ga K "InvalidMap")) "word" = some (none) := of_decide_eq_true (told_at c 22 7)
  have inInvalidMap : PySem.W.findIn K (.ref (He.ga K "InvalidMap")) "__init__" = some (some (.ref (He.ma K (He.ga K "InvalidMap") "__init__"))) := of_decide_eq_true (told_at c 22 8)
  have haInvalidMap : PySem.W.findIn K (.ref (He.ga K "InvalidMap")) "__class__" = some (some (.builtin "object.__class__")) := of_decide_eq_true (told_at c 22 9)
  have tiInvalidMap : PySem.W.typeIn K (.ref (He.ma K (He.ga K "InvalidMap") "__init__")) = some (.type "function") := of_decide_eq_true (told_at c 23 0)
  obtain ⟨fdInvalidMap, YInvalidMap⟩ := told_fn c 45
  have XInvalidMap : Fun K "__init__" "InvalidMap.__init__" sIMInit (He.ma K (He.ga K "InvalidMap") "__init__") fdInvalidMap := fun_of YInvalidMap
  have kcInvalidMap : PySem.W.keepIn K (.ref (He.ga K "InvalidMap")) = true := (told_at c 23 1)
  have eCInvalidMap : PySem.W.subIn K (.ref (He.ga K "InvalidMap")) (.type "BaseException") = some true := of_decide_eq_true (told_at c 23 2)
  have tCInvalidMap : PySem.W.typeIn K (.ref (He.ga K "InvalidMap")) = some (.type "type") := of_decide_eq_true (told_at c 23 3)
  have hCInvalidMap : PySem.W.hasDictIn K (He.ga K "InvalidMap") = true := (told_at c 23 4)
  have iCInvalidMap : PySem.W.isClsIn K (He.ga K "InvalidMap") = true := (told_at c 23 5)
  have sCInvalidMap : PySem.W.subIn K (.ref (He.ga K "InvalidMap")) (.ref (He.ga K "InvalidMap")) = some true := of_decide_eq_true (told_at c 23 6)
  have hmInvalidMap : PySem.W.mroIn K (He.ga K "InvalidMap") (.type "object") = some true := of_decide_eq_true (told_at c 23 7)
  have atraced : PySem.W.nsIn K mainGlobals "traced" = some (some (.ref (He.ga K "traced"))) := of_decide_eq_true (told_at c 23 8)
  obtain ⟨fdtraced, Ytraced⟩ := told_fn c 46
  have Xtraced : Fun K "traced" "traced" sTraced (He.ga K "traced") fdtraced := fun_of Ytraced
  have ajoined : PySem.W.nsIn K mainGlobals "joined" = some (some (.ref (He.ga K "joined"))) := of_decide_eq_true (told_at c 23 9)
  obtain ⟨fdjoined, Yjoined⟩ := told_fn c 47
  have Xjoined : Fun K "joined" "joined" sJoined (He.ga K "joined") fdjoined := fun_of Yjoined
  have aisterm : PySem.W.nsIn K mainGlobals "is_term" = some (some (.ref (He.ga K "is_term"))) := of_decide_eq_true (told_at c 24 0)
  obtain ⟨fdisterm, Yisterm⟩ := told_fn c 48
  have Xisterm : Fun K "is_term" "is_term" sIsTerm (He.ga K "is_term") fdisterm := fun_of Yisterm
  have atermtext : PySem.W.nsIn K mainGlobals "term_text" = some (some (.ref (He.ga K "term_text"))) := of_decide_eq_true (told_at c 24 1)
  obtain ⟨fdtermtext, Ytermtext⟩ := told_fn c 49
  have Xtermtext : Fun K "term_text" "term_text" sTermText (He.ga K "term_text") fdtermtext := fun_of Ytermtext
  have aMap : PySem.W.nsIn K mainGlobals "Map" = some (some (.ref (He.ga K "Map"))) := of_decide_eq_true (told_at c 24 2)
  have inMap : PySem.W.findIn K (.ref (He.ga K "Map")) "__init__" = some (some (.ref (He.ma K (He.ga K "Map") "__init__"))) := of_decide_eq_true (told_at c 24 3)
  have iMap : PySem.W.isFn K (.ref (He.ma K (He.ga K "Map") "__init__")) = true := (told_at c 24 4)
  have SDMap0 : ∀ H : Hp, SqT K H (He.dflAt ("Map", some "__init__") 0 K) [.str "now", .int 0] := fun H => tupQ_ok (vs := [.str "now", .int 0]) (told_at c 24 5) H
  have SDMap1 : ∀ H : Hp, SqT K H (He.dflAt ("Map", some "__init__") 1 K) [.str "box", .int 0] := fun H => tupQ_ok (vs := [.str "box", .int 0]) (told_at c 24 6) H
  obtain ⟨fdMap, YMap⟩ := told_fn c 50
  have FMap : FunD K "__init__" "Map.__init__" (defArgs sMapInit) (defBody sMapInit) (defScope sMapInit) [.ref (He.dflAt ("Map", some "__init__") 0 K), .ref (He.dflAt ("Map", some "__init__") 1 K)] [] (He.ma K (He.ga K "Map") "__init__") fdMap := YMap
  have pgMap : PySem.W.plainGet K (He.ga K "Map") Str.empty = true := (told_at c 24 7)
  have hdMap : PySem.W.hasDictIn K (He.ga K "Map") = true := (told_at c 24 8)
  have poMap : PySem.W.plainOver K (He.ga K "Map") = true := (told_at c 24 9)
  have saMap : PySem.W.findIn K (.ref (He.ga K "Map")) "__setattr__" = some (some (.builtin "object.__setattr__")) := of_decide_eq_true (told_at c 25 0)
  have mkMap : PySem.W.makesIn K (He.ga K "Map") = true := (told_at c 25 1)
  have kcMap : PySem.W.keepIn K (.ref (He.ga K "Map")) = true := (told_at c 25 2)
  have nMap0 : PySem.W.findIn K (.ref (He.ga K "Map")) "now" = some none := of_decide_eq_true (told_at c 25 3)
  have nMap1 : PySem.W.findIn K (.ref (He.ga K "Map")) "box" = some none := of_decide_eq_true (told_at c 25 4)
  have incallMap : PySem.W.findIn K (.ref (He.ga K "Map")) "__call__" = some (some (.ref (He.ma K (He.ga K "Map") "__call__"))) := of_decide_eq_true (told_at c 25 5)
  have icallMap : PySem.W.isFn K (.ref (He.ma K (He.ga K "Map") "__call__")) = true := (told_at c 25 6)
  obtain ⟨fdcallMap, YcallMap⟩ := told_fn c 51
  have XcallMap : Fun K "__call__" "Map.__call__" sMapCall (He.ma K (He.ga K "Map") "__call__") fdcallMap := fun_of YcallMap
  have inrshiftMap : PySem.W.findIn K (.ref (He.ga K "Map")) "__rshift__" = some (some (.ref (He.ma K (He.ga K "Map") "__rshift__"))) := of_decide_eq_true (told_at c 25 7)
  have irshiftMap : PySem.W.isFn K (.ref (He.ma K (He.ga K "Map") "__rshift__")) = true := (told_at c 25 8)
  obtain ⟨fdrshiftMap, YrshiftMap⟩ := told_fn c 52
  have XrshiftMap : Fun K "__rshift__" "Map.__rshift__" sMapShift (He.ma K (He.ga K "Map") "__rshift__") fdrshiftMap := fun_of YrshiftMap
  have instrMap : PySem.W.findIn K (.ref (He.ga K "Map")) "__str__" = some (some (.ref (He.ma K (He.ga K "Map") "__str__"))) := of_decide_eq_true (told_at c 25 9)
  have istrMap : PySem.W.isFn K (.ref (He.ma K (He.ga K "Map") "__str__")) = true := (told_at c 26 0)
  obtain ⟨fdstrMap, YstrMap⟩ := told_fn c 53
  have XstrMap : Fun K "__str__" "Map.__str__" sMapStr (He.ma K (He.ga K "Map") "__str__") fdstrMap := fun_of YstrMap
  have ineqMap : PySem.W.findIn K (.ref (He.ga K "Map")) "__eq__" = some (some (.ref (He.ma K (He.ga K "Map") "__eq__"))) := of_decide_eq_true (told_at c 26 1)
  have ieqMap : PySem.W.isFn K (.ref (He.ma K (He.ga K "Map") "__eq__")) = true := (told_at c 26 2)
  obtain ⟨fdeqMap, YeqMap⟩ := told_fn c 54
  have XeqMap : Fun K "__eq__" "Map.__eq__" sMapEq (He.ma K (He.ga K "Map") "__eq__") fdeqMap := fun_of YeqMap
  have innumber_ofBook : PySem.W.findIn K (.ref (He.ga K "Book")) "number_of" = some (some (.ref (He.ma K (He.ga K "Book") "number_of"))) := of_decide_eq_true (told_at c 26 3)
  have inumber_ofBook : PySem.W.isFn K (.ref (He.ma K (He.ga K "Book") "number_of")) = true := (told_at c 26 4)
  obtain ⟨fdnumber_ofBook, Ynumber_ofBook⟩ := told_fn c 55
  have Xnumber_ofBook : Fun K "number_of" "Book.number_of" sBNum (He.ma K (He.ga K "Book") "number_of") fdnumber_ofBook := fun_of Ynumber_ofBook
  have astepalong : PySem.W.nsIn K mainGlobals "step_along" = some (some (.ref (He.ga K "step_along"))) := of_decide_eq_true (told_at c 26 5)
  obtain ⟨fdstepalong, Ystepalong⟩ := told_fn c 56
  have Xstepalong : Fun K "step_along" "step_along" sAlong (He.ga K "step_along") fdstepalong := fun_of Ystepalong
  have amapof : PySem.W.nsIn K mainGlobals "map_of" = some (some (.ref (He.ga K "map_of"))) := of_decide_eq_true (told_at c 26 6)
  obtain ⟨fdmapof, Ymapof⟩ := told_fn c 57
  have Xmapof : Fun K "map_of" "map_of" sMapOf (He.ga K "map_of") fdmapof := fun_of Ymapof
  have alawdeal : PySem.W.nsIn K mainGlobals "_law_deal" = some (some (.ref (He.ga K "_law_deal"))) := of_decide_eq_true (told_at c 26 7)
  obtain ⟨fdlawdeal, Ylawdeal⟩ := told_fn c 58
  have Xlawdeal : Fun K "_law_deal" "_law_deal" sDeal (He.ga K "_law_deal") fdlawdeal := fun_of Ylawdeal
  have alawdraw : PySem.W.nsIn K mainGlobals "_law_draw" = some (some (.ref (He.ga K "_law_draw"))) := of_decide_eq_true (told_at c 26 8)
  obtain ⟨fdlawdraw, Ylawdraw⟩ := told_fn c 59
  have Xlawdraw : Fun K "_law_draw" "_law_draw" sDraw (He.ga K "_law_draw") fdlawdraw := fun_of Ylawdraw
  have alawpick : PySem.W.nsIn K mainGlobals "_law_pick" = some (some (.ref (He.ga K "_law_pick"))) := of_decide_eq_true (told_at c 26 9)
  obtain ⟨fdlawpick, Ylawpick⟩ := told_fn c 60
  have Xlawpick : Fun K "_law_pick" "_law_pick" sPick (He.ga K "_law_pick") fdlawpick := fun_of Ylawpick
  have alawmixed : PySem.W.nsIn K mainGlobals "_law_mixed" = some (some (.ref (He.ga K "_law_mixed"))) := of_decide_eq_true (told_at c 27 0)
  obtain ⟨fdlawmixed, Ylawmixed⟩ := told_fn c 61
  have Xlawmixed : Fun K "_law_mixed" "_law_mixed" sMixed (He.ga K "_law_mixed") fdlawmixed := fun_of Ylawmixed
  have alawnames : PySem.W.nsIn K mainGlobals "_law_names" = some (some (.ref (He.ga K "_law_names"))) := of_decide_eq_true (told_at c 27 1)
  obtain ⟨fdlawnames, Ylawnames⟩ := told_fn c 62
  have Xlawnames : Fun K "_law_names" "_law_names" sNames (He.ga K "_law_names") fdlawnames := fun_of Ylawnames
  have alawcounters : PySem.W.nsIn K mainGlobals "_law_counters" = some (some (.ref (He.ga K "_law_counters"))) := of_decide_eq_true (told_at c 27 2)
  obtain ⟨fdlawcounters, Ylawcounters⟩ := told_fn c 63
  have Xlawcounters : Fun K "_law_counters" "_law_counters" sCountersD (He.ga K "_law_counters") fdlawcounters := fun_of Ylawcounters
  have alawrow : PySem.W.nsIn K mainGlobals "_law_row" = some (some (.ref (He.ga K "_law_row"))) := of_decide_eq_true (told_at c 27 3)
  obtain ⟨fdlawrow, Ylawrow⟩ := told_fn c 64
  have Xlawrow : Fun K "_law_row" "_law_row" sRowD (He.ga K "_law_row") fdlawrow := fun_of Ylawrow
  have alawunrolled : PySem.W.nsIn K mainGlobals "_law_unrolled" = some (some (.ref (He.ga K "_law_unrolled"))) := of_decide_eq_true (told_at c 27 4)
  obtain ⟨fdlawunrolled, Ylawunrolled⟩ := told_fn c 65
  have Xlawunrolled : Fun K "_law_unrolled" "_law_unrolled" sUnrD (He.ga K "_law_unrolled") fdlawunrolled := fun_of Ylawunrolled
  have alawbook : PySem.W.nsIn K mainGlobals "_law_book" = some (some (.ref (He.ga K "_law_book"))) := of_decide_eq_true (told_at c 27 5)
  obtain ⟨fdlawbook, Ylawbook⟩ := told_fn c 66
  have Xlawbook : Fun K "_law_book" "_law_book" sBookD (He.ga K "_law_book") fdlawbook := fun_of Ylawbook
  have alawrowof : PySem.W.nsIn K mainGlobals "_law_row_of" = some (some (.ref (He.ga K "_law_row_of"))) := of_decide_eq_true (told_at c 27 6)
  obtain ⟨fdlawrowof, Ylawrowof⟩ := told_fn c 67
  have Xlawrowof : Fun K "_law_row_of" "_law_row_of" sRowOf (He.ga K "_law_row_of") fdlawrowof := fun_of Ylawrowof
  have alawbookof : PySem.W.nsIn K mainGlobals "_law_book_of" = some (some (.ref (He.ga K "_law_book_of"))) := of_decide_eq_true (told_at c 27 7)
  obtain ⟨fdlawbookof, Ylawbookof⟩ := told_fn c 68
  have Xlawbookof : Fun K "_law_book_of" "_law_book_of" sBookOf (He.ga K "_law_book_of") fdlawbookof := fun_of Ylawbookof
  have alawbelow : PySem.W.nsIn K mainGlobals "_law_below" = some (some (.ref (He.ga K "_law_below"))) := of_decide_eq_true (told_at c 27 8)
  obtain ⟨fdlawbelow, Ylawbelow⟩ := told_fn c 69
  have Xlawbelow : Fun K "_law_below" "_law_below" sBelow (He.ga K "_law_below") fdlawbelow := fun_of Ylawbelow
  have alawdone : PySem.W.nsIn K mainGlobals "_law_done" = some (some (.ref (He.ga K "_law_done"))) := of_decide_eq_true (told_at c 27 9)
  obtain ⟨fdlawdone, Ylawdone⟩ := told_fn c 70
  have Xlawdone : Fun K "_law_done" "_law_done" sDoneD (He.ga K "_law_done") fdlawdone := fun_of Ylawdone
  have alawgone : PySem.W.nsIn K mainGlobals "_law_gone" = some (some (.ref (He.ga K "_law_gone"))) := of_decide_eq_true (told_at c 28 0)
  obtain ⟨fdlawgone, Ylawgone⟩ := told_fn c 71
  have Xlawgone : Fun K "_law_gone" "_law_gone" sGone (He.ga K "_law_gone") fdlawgone := fun_of Ylawgone
  have alaw : PySem.W.nsIn K mainGlobals "law" = some (some (.ref (He.ga K "law"))) := of_decide_eq_true (told_at c 28 1)
  obtain ⟨fdlaw, Ylaw⟩ := told_fn c 72
  have Xlaw : Fun K "law" "law" sLaw26 (He.ga K "law") fdlaw := fun_of Ylaw
  have hnGet : PySem.W.specialIn K (.builtin "object.__class__") "__get__" = some (some (.builtin "getset_descriptor.__get__")) := of_decide_eq_true (told_at c 28 2)
  have htGet : PySem.W.takesIn K (.builtin "object.__class__") = some true := of_decide_eq_true (told_at c 28 3)
  have kDNoneType : PySem.W.kitOne K (.type "NoneType") (.ref (He.ga K "Row")) = some false := of_decide_eq_true (told_at c 28 4)
  have kDbool : PySem.W.kitOne K (.type "bool") (.ref (He.ga K "Row")) = some false := of_decide_eq_true (told_at c 28 5)
  have kDint : PySem.W.kitOne K (.type "int") (.ref (He.ga K "Row")) = some false := of_decide_eq_true (told_at c 28 6)
  have kDstr : PySem.W.kitOne K (.type "str") (.ref (He.ga K "Row")) = some false := of_decide_eq_true (told_at c 28 7)
  have kDlist : PySem.W.kitOne K (.type "list") (.ref (He.ga K "Row")) = some false := of_decide_eq_true (told_at c 28 8)
  have kDtuple : PySem.W.kitOne K (.type "tuple") (.ref (He.ga K "Row")) = some false := of_decide_eq_true (told_at c 28 9)
  have kDdict : PySem.W.kitOne K (.type "dict") (.ref (He.ga K "Row")) = some false := of_decide_eq_true (told_at c 29 0)
  have kRNote : PySem.W.kitOne K (.ref (He.ga K "Note")) (.ref (He.ga K "Row")) = some true := of_decide_eq_true (told_at c 29 1)
  have cANote : PySem.W.findIn K (.ref (He.ga K "Note")) "__class__" = some (some (.builtin "object.__class__")) := of_decide_eq_true (told_at c 29 2)
  have cMNote : PySem.W.mroIn K (He.ga K "Note") (.type "object") = some true := of_decide_eq_true (told_at c 29 3)
  have kRSkip : PySem.W.kitOne K (.ref (He.ga K "Skip")) (.ref (He.ga K "Row")) = some true := of_decide_eq_true (told_at c 29 4)
  have cASkip : PySem.W.findIn K (.ref (He.ga K "Skip")) "__class__" = some (some (.builtin "object.__class__")) := of_decide_eq_true (told_at c 29 5)
  have cMSkip : PySem.W.mroIn K (He.ga K "Skip") (.type "object") = some true := of_decide_eq_true (told_at c 29 6)
  have kRSet : PySem.W.kitOne K (.ref (He.ga K "Set")) (.ref (He.ga K "Row")) = some true := of_decide_eq_true (told_at c 29 7)
  have cASet : PySem.W.findIn K (.ref (He.ga K "Set")) "__class__" = some (some (.builtin "object.__class__")) := of_decide_eq_true (told_at c 29 8)
  have cMSet : PySem.W.mroIn K (He.ga K "Set") (.type "object") = some true := of_decide_eq_true (told_at c 29 9)
  have kRKeep : PySem.W.kitOne K (.ref (He.ga K "Keep")) (.ref (He.ga K "Row")) = some true := of_decide_eq_true (told_at c 30 0)
  have cAKeep : PySem.W.findIn K (.ref (He.ga K "Keep")) "__class__" = some (some (.builtin "object.__class__")) := of_decide_eq_true (told_at c 30 1)
  have cMKeep : PySem.W.mroIn K (He.ga K "Keep") (.type "object") = some true := of_decide_eq_true (told_at c 30 2)
  have kRBack : PySem.W.kitOne K (.ref (He.ga K "Back")) (.ref (He.ga K "Row")) = some true := of_decide_eq_true (told_at c 30 3)
  have cABack : PySem.W.findIn K (.ref (He.ga K "Back")) "__class__" = some (some (.builtin "object.__class__")) := of_decide_eq_true (told_at c 30 4)
  have cMBack : PySem.W.mroIn K (He.ga K "Back") (.type "object") = some true := of_decide_eq_true (told_at c 30 5)
  have kRRef : PySem.W.kitOne K (.ref (He.ga K "Ref")) (.ref (He.ga K "Row")) = some true := of_decide_eq_true (told_at c 30 6)
  have cARef : PySem.W.findIn K (.ref (He.ga K "Ref")) "__class__" = some (some (.builtin "object.__class__")) := of_decide_eq_true (told_at c 30 7)
  have cMRef : PySem.W.mroIn K (He.ga K "Ref") (.type "object") = some true := of_decide_eq_true (told_at c 30 8)
  have kRPut : PySem.W.kitOne K (.ref (He.ga K "Put")) (.ref (He.ga K "Row")) = some true := of_decide_eq_true (told_at c 30 9)
  have cAPut : PySem.W.findIn K (.ref (He.ga K "Put")) "__class__" = some (some (.builtin "object.__class__")) := of_decide_eq_true (told_at c 31 0)
  have cMPut : PySem.W.mroIn K (He.ga K "Put") (.type "object") = some true := of_decide_eq_true (told_at c 31 1)
  have kROpen : PySem.W.kitOne K (.ref (He.ga K "Open")) (.ref (He.ga K "Row")) = some true := of_decide_eq_true (told_at c 31 2)
  have cAOpen : PySem.W.findIn K (.ref (He.ga K "Open")) "__class__" = some (some (.builtin "object.__class__")) := of_decide_eq_true (told_at c 31 3)
  have cMOpen : PySem.W.mroIn K (He.ga K "Open") (.type "object") = some true := of_decide_eq_true (told_at c 31 4)
  have pAPart : PySem.W.findIn K (.ref (He.ga K "Part")) "__class__" = some (some (.builtin "object.__class__")) := of_decide_eq_true (told_at c 31 5)
  have pMPart : PySem.W.mroIn K (He.ga K "Part") (.type "object") = some true := of_decide_eq_true (told_at c 31 6)
  have nePart : PySem.W.findIn K (.ref (He.ga K "Part")) "__ne__" = some (some (.builtin "object.__ne__")) := of_decide_eq_true (told_at c 31 7)
  have kCPart : PySem.W.kitOne K (.ref (He.ga K "Part")) (.ref (He.ga K "Part")) = some true := of_decide_eq_true (told_at c 31 8)
  have kSPart : PySem.W.kitOne K (.type "str") (.ref (He.ga K "Part")) = some false := of_decide_eq_true (told_at c 31 9)
  have nCPart : PySem.W.notFirst K (He.ga K "Part") (.ref (He.ga K "Part")) = true := (told_at c 32 0)
  have nSPart : PySem.W.notFirst K (He.ga K "Part") (.type "str") = true := (told_at c 32 1)
  have sfMap : PySem.W.selfFirst K (He.ga K "Map") = true := (told_at c 32 2)
  have kCMap : PySem.W.kitOne K (.ref (He.ga K "Map")) (.ref (He.ga K "Map")) = some true := of_decide_eq_true (told_at c 32 3)
  have nCMap : PySem.W.notFirst K (He.ga K "Map") (.ref (He.ga K "Map")) = true := (told_at c 32 4)
  have cAMap : PySem.W.findIn K (.ref (He.ga K "Map")) "__class__" = some (some (.builtin "object.__class__")) := of_decide_eq_true (told_at c 32 5)
  have cMMap : PySem.W.mroIn K (He.ga K "Map") (.type "object") = some true := of_decide_eq_true (told_at c 32 6)
  have neMap : PySem.W.findIn K (.ref (He.ga K "Map")) "__ne__" = some (some (.builtin "object.__ne__")) := of_decide_eq_true (told_at c 32 7)
  have fiMap : PySem.W.fnIn K (He.ma K (He.ga K "Map") "__call__") = true := (told_at c 32 8)
  have e := hfa.symm.trans (PySem.W.mg_of X G alaw)
  cases e
  have Mint : mg "int" = none := PySem.W.mg_none_of X G zint
  have Mbool : mg "bool" = none := PySem.W.mg_none_of X G zbool
  have Mstr : mg "str" = none := PySem.W.mg_none_of X G zstr
  have Misinstance : mg "isinstance" = none := PySem.W.mg_none_of X G zisinstance
  have Mlen : mg "len" = none := PySem.W.mg_none_of X G zlen
  have Mall : mg "all" = none := PySem.W.mg_none_of X G zall
  have Mabs : mg "abs" = none := PySem.W.mg_none_of X G zabs
  have Mrange : mg "range" = none := PySem.W.mg_none_of X G zrange
  have Mlist : mg "list" = none := PySem.W.mg_none_of X G zlist
  have Mtuple : mg "tuple" = none := PySem.W.mg_none_of X G ztuple
  have Mset : mg "set" = none := PySem.W.mg_none_of X G zset
  have Mreversed : mg "reversed" = none := PySem.W.mg_none_of X G zreversed
  have Msorted : mg "sorted" = none := PySem.W.mg_none_of X G zsorted
  have Mdict : mg "dict" = none := PySem.W.mg_none_of X G zdict
  have Menumerate : mg "enumerate" = none := PySem.W.mg_none_of X G zenumerate
  have Mrepr : mg "repr" = none := PySem.W.mg_none_of X G zrepr
  let Disinteger : At K mg "is_integer" sIsInteger ["value"] := ⟨(He.ga K "is_integer"), _, Xisinteger, Xisinteger.binds (ps := ["value"]) fun _ _ _ _ _ _ us hl => match us, hl with | [_], _ => rfl, PySem.W.mg_of X G aisinteger⟩
  let Disnumber : At K mg "is_number" sIsNumber ["value"] := ⟨(He.ga K "is_number"), _, Xisnumber, Xisnumber.binds (ps := ["value"]) fun _ _ _ _ _ _ us hl => match us, hl with | [_], _ => rfl, PySem.W.mg_of X G aisnumber⟩
  let Disname : At K mg "is_name" sIsName ["value"] := ⟨(He.ga K "is_name"), _, Xisname, Xisname.binds (ps := ["value"]) fun _ _ _ _ _ _ us hl => match us, hl with | [_], _ => rfl, PySem.W.mg_of X G aisname⟩
  have OInvalidRow : OexC K (He.ga K "InvalidRow") := ⟨xInvalidRow, saInvalidRow, eCInvalidRow, tCInvalidRow, kcInvalidRow⟩
  let EInvalidRow : TExc K mg "InvalidRow" "InvalidRow.__init__" "word" sIRInit := { C := (He.ga K "InvalidRow"), fI := (He.ma K (He.ga K "InvalidRow") "__init__"), fd := _, F := XInvalidRow, b := XInvalidRow.binds (ps := ["self", "word"]) fun _ _ _ _ _ _ us hl => match us, hl with | [_, _], _ => rfl, m := PySem.W.mg_of X G aInvalidRow, O := OInvalidRow, iC := inInvalidRow, tI := tiInvalidRow, noF := nfInvalidRow, E := ⟨gaInvalidRow, ggInvalidRow, eCInvalidRow, hCInvalidRow, haInvalidRow, hnGet, htGet, hmInvalidRow⟩, isC := iCInvalidRow, te := PySem.W.exm_ref eCInvalidRow hCInvalidRow tCInvalidRow sCInvalidRow, xf := ⟨gaInvalidRow, ggInvalidRow, eCInvalidRow, hCInvalidRow⟩ }
  let Dneedname : At K mg "need_name" sNeedName ["value", "word"] := ⟨(He.ga K "need_name"), _, Xneedname, Xneedname.binds (ps := ["value", "word"]) fun _ _ _ _ _ _ us hl => match us, hl with | [_, _], _ => rfl, PySem.W.mg_of X G aneedname⟩
  let MSNote : TStr K (He.ga K "Note") "Note.__str__" sNoteStr := ⟨(He.ma K (He.ga K "Note") "__str__"), _, XSNote, XSNote.binds (ps := ["self"]) fun _ _ _ _ _ _ us hl => match us, hl with | [_], _ => rfl, inSNote, iSNote⟩
  let MSSkip : TStr K (He.ga K "Skip") "Skip.__str__" sSkipStr := ⟨(He.ma K (He.ga K "Skip") "__str__"), _, XSSkip, XSSkip.binds (ps := ["self"]) fun _ _ _ _ _ _ us hl => match us, hl with | [_], _ => rfl, inSSkip, iSSkip⟩
  let MSSet : TStr K (He.ga K "Set") "Set.__str__" sSetStr := ⟨(He.ma K (He.ga K "Set") "__str__"), _, XSSet, XSSet.binds (ps := ["self"]) fun _ _ _ _ _ _ us hl => match us, hl with | [_], _ => rfl, inSSet, iSSet⟩
  let MSKeep : TStr K (He.ga K "Keep") "Keep.__str__" sKeepStr := ⟨(He.ma K (He.ga K "Keep") "__str__"), _, XSKeep, XSKeep.binds (ps := ["self"]) fun _ _ _ _ _ _ us hl => match us, hl with | [_], _ => rfl, inSKeep, iSKeep⟩
  let MSBack : TStr K (He.ga K "Back") "Back.__str__" sBackStr := ⟨(He.ma K (He.ga K "Back") "__str__"), _, XSBack, XSBack.binds (ps := ["self"]) fun _ _ _ _ _ _ us hl => match us, hl with | [_], _ => rfl, inSBack, iSBack⟩
  let MSRef : TStr K (He.ga K "Ref") "Ref.__str__" sRefStr := ⟨(He.ma K (He.ga K "Ref") "__str__"), _, XSRef, XSRef.binds (ps := ["self"]) fun _ _ _ _ _ _ us hl => match us, hl with | [_], _ => rfl, inSRef, iSRef⟩
  let MSPut : TStr K (He.ga K "Put") "Put.__str__" sPutStr := ⟨(He.ma K (He.ga K "Put") "__str__"), _, XSPut, XSPut.binds (ps := ["self"]) fun _ _ _ _ _ _ us hl => match us, hl with | [_], _ => rfl, inSPut, iSPut⟩
  let MSOpen : TStr K (He.ga K "Open") "Open.__str__" sOpenStr := ⟨(He.ma K (He.ga K "Open") "__str__"), _, XSOpen, XSOpen.binds (ps := ["self"]) fun _ _ _ _ _ _ us hl => match us, hl with | [_], _ => rfl, inSOpen, iSOpen⟩
  let Dissequence : At K mg "is_sequence" sIsSeq ["value"] := ⟨(He.ga K "is_sequence"), _, Xissequence, Xissequence.binds (ps := ["value"]) fun _ _ _ _ _ _ us hl => match us, hl with | [_], _ => rfl, PySem.W.mg_of X G aissequence⟩
  have OInvalidPart : OexC K (He.ga K "InvalidPart") := ⟨xInvalidPart, saInvalidPart, eCInvalidPart, tCInvalidPart, kcInvalidPart⟩
  let EInvalidPart : TExc K mg "InvalidPart" "InvalidPart.__init__" "word" sIPInit := { C := (He.ga K "InvalidPart"), fI := (He.ma K (He.ga K "InvalidPart") "__init__"), fd := _, F := XInvalidPart, b := XInvalidPart.binds (ps := ["self", "word"]) fun _ _ _ _ _ _ us hl => match us, hl with | [_, _], _ => rfl, m := PySem.W.mg_of X G aInvalidPart, O := OInvalidPart, iC := inInvalidPart, tI := tiInvalidPart, noF := nfInvalidPart, E := ⟨gaInvalidPart, ggInvalidPart, eCInvalidPart, hCInvalidPart, haInvalidPart, hnGet, htGet, hmInvalidPart⟩, isC := iCInvalidPart, te := PySem.W.exm_ref eCInvalidPart hCInvalidPart tCInvalidPart sCInvalidPart, xf := ⟨gaInvalidPart, ggInvalidPart, eCInvalidPart, hCInvalidPart⟩ }
  obtain ⟨dsPart0, vPart0, bPart0⟩ := FPart.binds1 (ps := ["self", "name", "rows"]) 2 0 (by simp) rfl fun _ _ _ _ _ _ _ us its hl hi => match us, its, hl, hi with | [_, _], [_], _, _ => ⟨_, rfl, rfl⟩
  obtain ⟨dsPart1, vPart1, bPart1⟩ := FPart.binds1 (ps := ["self", "name", "rows"]) 3 1 (by simp) rfl fun _ _ _ _ _ _ _ us its hl hi => match us, its, hl, hi with | [_, _, _], [_], _, _ => ⟨_, rfl, rfl⟩
  have ePart : dsPart1 = [] := by cases vPart1; rfl
  subst ePart
  let MstrPart : TMeth K (He.ga K "Part") "__str__" "Part.__str__" sPartStr ["self"] := ⟨(He.ma K (He.ga K "Part") "__str__"), _, XstrPart, XstrPart.binds (ps := ["self"]) fun _ _ _ _ _ _ us hl => match us, hl with | [_], _ => rfl, instrPart, istrPart⟩
  let MeqPart : TMeth K (He.ga K "Part") "__eq__" "Part.__eq__" sPartEq ["self", "other"] := ⟨(He.ma K (He.ga K "Part") "__eq__"), _, XeqPart, XeqPart.binds (ps := ["self", "other"]) fun _ _ _ _ _ _ us hl => match us, hl with | [_, _], _ => rfl, ineqPart, ieqPart⟩
  let Dispair : At K mg "is_pair" sIsPair ["value"] := ⟨(He.ga K "is_pair"), _, Xispair, Xispair.binds (ps := ["value"]) fun _ _ _ _ _ _ us hl => match us, hl with | [_], _ => rfl, PySem.W.mg_of X G aispair⟩
  let Darecounters : At K mg "are_counters" sAreC ["counters"] := ⟨(He.ga K "are_counters"), _, Xarecounters, Xarecounters.binds (ps := ["counters"]) fun _ _ _ _ _ _ us hl => match us, hl with | [_], _ => rfl, PySem.W.mg_of X G aarecounters⟩
  let Dareparts : At K mg "are_parts" sAreP ["parts"] := ⟨(He.ga K "are_parts"), _, Xareparts, Xareparts.binds (ps := ["parts"]) fun _ _ _ _ _ _ us hl => match us, hl with | [_], _ => rfl, PySem.W.mg_of X G aareparts⟩
  let Dcountersareknown : At K mg "counters_are_known" sCKnown ["counters", "parts"] := ⟨(He.ga K "counters_are_known"), _, Xcountersareknown, Xcountersareknown.binds (ps := ["counters", "parts"]) fun _ _ _ _ _ _ us hl => match us, hl with | [_, _], _ => rfl, PySem.W.mg_of X G acountersareknown⟩
  let Dnamesput : At K mg "names_put" sNPut ["part"] := ⟨(He.ga K "names_put"), _, Xnamesput, Xnamesput.binds (ps := ["part"]) fun _ _ _ _ _ _ us hl => match us, hl with | [_], _ => rfl, PySem.W.mg_of X G anamesput⟩
  let Dputsareearlier : At K mg "puts_are_earlier" sPEarly ["parts"] := ⟨(He.ga K "puts_are_earlier"), _, Xputsareearlier, Xputsareearlier.binds (ps := ["parts"]) fun _ _ _ _ _ _ us hl => match us, hl with | [_], _ => rfl, PySem.W.mg_of X G aputsareearlier⟩
  let Dnamesreached : At K mg "names_reached" sNReach ["parts"] := ⟨(He.ga K "names_reached"), _, Xnamesreached, Xnamesreached.binds (ps := ["parts"]) fun _ _ _ _ _ _ us hl => match us, hl with | [_], _ => rfl, PySem.W.mg_of X G anamesreached⟩
  let Dunroll : At K mg "unroll" sUnr1 ["part", "flat"] := ⟨(He.ga K "unroll"), _, Xunroll, Xunroll.binds (ps := ["part", "flat"]) fun _ _ _ _ _ _ us hl => match us, hl with | [_, _], _ => rfl, PySem.W.mg_of X G aunroll⟩
  let Dunrolledtext : At K mg "unrolled_text" sUText ["parts"] := ⟨(He.ga K "unrolled_text"), _, Xunrolledtext, Xunrolledtext.binds (ps := ["parts"]) fun _ _ _ _ _ _ us hl => match us, hl with | [_], _ => rfl, PySem.W.mg_of X G aunrolledtext⟩
  let Drefsareknown : At K mg "refs_are_known" sRefsK ["rows"] := ⟨(He.ga K "refs_are_known"), _, Xrefsareknown, Xrefsareknown.binds (ps := ["rows"]) fun _ _ _ _ _ _ us hl => match us, hl with | [_], _ => rfl, PySem.W.mg_of X G arefsareknown⟩
  let MnamesBook : TPr K (He.ga K "Book") "names" "Book.names" sBNames := ⟨(He.ma K (He.ga K "Book") "names"), (getterQ K (He.ma K (He.ga K "Book") "names")), _, XnamesBook, XnamesBook.binds (ps := ["self"]) fun _ _ _ _ _ _ us hl => match us, hl with | [_], _ => rfl, propQ_ok (told_at c 20 5)⟩
  let MtopsBook : TPr K (He.ga K "Book") "tops" "Book.tops" sBTops := ⟨(He.ma K (He.ga K "Book") "tops"), (getterQ K (He.ma K (He.ga K "Book") "tops")), _, XtopsBook, XtopsBook.binds (ps := ["self"]) fun _ _ _ _ _ _ us hl => match us, hl with | [_], _ => rfl, propQ_ok (told_at c 20 6)⟩
  let MunrolledBook : TPr K (He.ga K "Book") "unrolled" "Book.unrolled" sBUnr := ⟨(He.ma K (He.ga K "Book") "unrolled"), (getterQ K (He.ma K (He.ga K "Book") "unrolled")), _, XunrolledBook, XunrolledBook.binds (ps := ["self"]) fun _ _ _ _ _ _ us hl => match us, hl with | [_], _ => rfl, propQ_ok (told_at c 20 7)⟩
  let MchainBook : TMeth K (He.ga K "Book") "chain" "Book.chain" sBChain ["self", "name"] := ⟨(He.ma K (He.ga K "Book") "chain"), _, XchainBook, XchainBook.binds (ps := ["self", "name"]) fun _ _ _ _ _ _ us hl => match us, hl with | [_, _], _ => rfl, inchainBook, ichainBook⟩
  let Dgoingon : At K mg "going_on" sGoing ["row"] := ⟨(He.ga K "going_on"), _, Xgoingon, Xgoingon.binds (ps := ["row"]) fun _ _ _ _ _ _ us hl => match us, hl with | [_], _ => rfl, PySem.W.mg_of X G agoingon⟩
  let Downstep : At K mg "own_step" sOwn ["row"] := ⟨(He.ga K "own_step"), _, Xownstep, Xownstep.binds (ps := ["row"]) fun _ _ _ _ _ _ us hl => match us, hl with | [_], _ => rfl, PySem.W.mg_of X G aownstep⟩
  let Dstepof : At K mg "step_of" sStep ["row", "chain"] := ⟨(He.ga K "step_of"), _, Xstepof, Xstepof.binds (ps := ["row", "chain"]) fun _ _ _ _ _ _ us hl => match us, hl with | [_, _], _ => rfl, PySem.W.mg_of X G astepof⟩
  let Dreckoned : At K mg "reckoned" sReck ["term", "number", "kept"] := ⟨(He.ga K "reckoned"), _, Xreckoned, Xreckoned.binds (ps := ["term", "number", "kept"]) fun _ _ _ _ _ _ us hl => match us, hl with | [_, _, _], _ => rfl, PySem.W.mg_of X G areckoned⟩
  have OInvalidMap : OexC K (He.ga K "InvalidMap") := ⟨xInvalidMap, saInvalidMap, eCInvalidMap, tCInvalidMap, kcInvalidMap⟩
  let EInvalidMap : TExc K mg "InvalidMap" "InvalidMap.__init__" "word" sIMInit := { C := (He.ga K "InvalidMap"), fI := (He.ma K (He.ga K "InvalidMap") "__init__"), fd := _, F := XInvalidMap, b := XInvalidMap.binds (ps := ["self", "word"]) fun _ _ _ _ _ _ us hl => match us, hl with | [_, _], _ => rfl, m := PySem.W.mg_of X G aInvalidMap, O := OInvalidMap, iC := inInvalidMap, tI := tiInvalidMap, noF := nfInvalidMap, E := ⟨gaInvalidMap, ggInvalidMap, eCInvalidMap, hCInvalidMap, haInvalidMap, hnGet, htGet, hmInvalidMap⟩, isC := iCInvalidMap, te := PySem.W.exm_ref eCInvalidMap hCInvalidMap tCInvalidMap sCInvalidMap, xf := ⟨gaInvalidMap, ggInvalidMap, eCInvalidMap, hCInvalidMap⟩ }
  let Dtraced : At K mg "traced" sTraced ["term", "earlier"] := ⟨(He.ga K "traced"), _, Xtraced, Xtraced.binds (ps := ["term", "earlier"]) fun _ _ _ _ _ _ us hl => match us, hl with | [_, _], _ => rfl, PySem.W.mg_of X G atraced⟩
  let Djoined : At K mg "joined" sJoined ["first", "second"] := ⟨(He.ga K "joined"), _, Xjoined, Xjoined.binds (ps := ["first", "second"]) fun _ _ _ _ _ _ us hl => match us, hl with | [_, _], _ => rfl, PySem.W.mg_of X G ajoined⟩
  let Disterm : At K mg "is_term" sIsTerm ["value"] := ⟨(He.ga K "is_term"), _, Xisterm, Xisterm.binds (ps := ["value"]) fun _ _ _ _ _ _ us hl => match us, hl with | [_], _ => rfl, PySem.W.mg_of X G aisterm⟩
  let Dtermtext : At K mg "term_text" sTermText ["term"] := ⟨(He.ga K "term_text"), _, Xtermtext, Xtermtext.binds (ps := ["term"]) fun _ _ _ _ _ _ us hl => match us, hl with | [_], _ => rfl, PySem.W.mg_of X G atermtext⟩
  obtain ⟨dsMap0, vMap0, bMap0⟩ := FMap.binds1 (ps := ["self", "now", "box"]) 1 0 (by simp) rfl fun _ _ _ _ _ _ _ us its hl hi => match us, its, hl, hi with | [_], [_, _], _, _ => ⟨_, rfl, rfl⟩
  obtain ⟨dsMap1, vMap1, bMap1⟩ := FMap.binds1 (ps := ["self", "now", "box"]) 2 1 (by simp) rfl fun _ _ _ _ _ _ _ us its hl hi => match us, its, hl, hi with | [_, _], [_, _], _, _ => ⟨_, rfl, rfl⟩
  obtain ⟨dsMap2, vMap2, bMap2⟩ := FMap.binds1 (ps := ["self", "now", "box"]) 3 2 (by simp) rfl fun _ _ _ _ _ _ _ us its hl hi => match us, its, hl, hi with | [_, _, _], [_, _], _, _ => ⟨_, rfl, rfl⟩
  have eMap : dsMap2 = [] := by cases vMap2; rfl
  subst eMap
  let McallMap : TMeth K (He.ga K "Map") "__call__" "Map.__call__" sMapCall ["self", "number", "kept"] := ⟨(He.ma K (He.ga K "Map") "__call__"), _, XcallMap, XcallMap.binds (ps := ["self", "number", "kept"]) fun _ _ _ _ _ _ us hl => match us, hl with | [_, _, _], _ => rfl, incallMap, icallMap⟩
  let MrshiftMap : TMeth K (He.ga K "Map") "__rshift__" "Map.__rshift__" sMapShift ["self", "other"] := ⟨(He.ma K (He.ga K "Map") "__rshift__"), _, XrshiftMap, XrshiftMap.binds (ps := ["self", "other"]) fun _ _ _ _ _ _ us hl => match us, hl with | [_, _], _ => rfl, inrshiftMap, irshiftMap⟩
  let MstrMap : TMeth K (He.ga K "Map") "__str__" "Map.__str__" sMapStr ["self"] := ⟨(He.ma K (He.ga K "Map") "__str__"), _, XstrMap, XstrMap.binds (ps := ["self"]) fun _ _ _ _ _ _ us hl => match us, hl with | [_], _ => rfl, instrMap, istrMap⟩
  let MeqMap : TMeth K (He.ga K "Map") "__eq__" "Map.__eq__" sMapEq ["self", "other"] := ⟨(He.ma K (He.ga K "Map") "__eq__"), _, XeqMap, XeqMap.binds (ps := ["self", "other"]) fun _ _ _ _ _ _ us hl => match us, hl with | [_, _], _ => rfl, ineqMap, ieqMap⟩
  let Mnumber_ofBook : TMeth K (He.ga K "Book") "number_of" "Book.number_of" sBNum ["self", "name"] := ⟨(He.ma K (He.ga K "Book") "number_of"), _, Xnumber_ofBook, Xnumber_ofBook.binds (ps := ["self", "name"]) fun _ _ _ _ _ _ us hl => match us, hl with | [_, _], _ => rfl, innumber_ofBook, inumber_ofBook⟩
  let Dstepalong : At K mg "step_along" sAlong ["part", "chain", "steps"] := ⟨(He.ga K "step_along"), _, Xstepalong, Xstepalong.binds (ps := ["part", "chain", "steps"]) fun _ _ _ _ _ _ us hl => match us, hl with | [_, _, _], _ => rfl, PySem.W.mg_of X G astepalong⟩
  let Dmapof : At K mg "map_of" sMapOf ["book", "name", "counter"] := ⟨(He.ga K "map_of"), _, Xmapof, Xmapof.binds (ps := ["book", "name", "counter"]) fun _ _ _ _ _ _ us hl => match us, hl with | [_, _, _], _ => rfl, PySem.W.mg_of X G amapof⟩
  let Dlawdeal : At K mg "_law_deal" sDeal ["_law_script"] := ⟨(He.ga K "_law_deal"), _, Xlawdeal, Xlawdeal.binds (ps := ["_law_script"]) fun _ _ _ _ _ _ us hl => match us, hl with | [_], _ => rfl, PySem.W.mg_of X G alawdeal⟩
  let Dlawdraw : At K mg "_law_draw" sDraw ["_law_deal_here", "_law_many"] := ⟨(He.ga K "_law_draw"), _, Xlawdraw, Xlawdraw.binds (ps := ["_law_deal_here", "_law_many"]) fun _ _ _ _ _ _ us hl => match us, hl with | [_, _], _ => rfl, PySem.W.mg_of X G alawdraw⟩
  let Dlawpick : At K mg "_law_pick" sPick ["_law_deal_here", "_law_some"] := ⟨(He.ga K "_law_pick"), _, Xlawpick, Xlawpick.binds (ps := ["_law_deal_here", "_law_some"]) fun _ _ _ _ _ _ us hl => match us, hl with | [_, _], _ => rfl, PySem.W.mg_of X G alawpick⟩
  let Dlawmixed : At K mg "_law_mixed" sMixed ["_law_deal_here", "_law_some"] := ⟨(He.ga K "_law_mixed"), _, Xlawmixed, Xlawmixed.binds (ps := ["_law_deal_here", "_law_some"]) fun _ _ _ _ _ _ us hl => match us, hl with | [_, _], _ => rfl, PySem.W.mg_of X G alawmixed⟩
  let Dlawnames : At K mg "_law_names" sNames ["_law_deal_here", "_law_many"] := ⟨(He.ga K "_law_names"), _, Xlawnames, Xlawnames.binds (ps := ["_law_deal_here", "_law_many"]) fun _ _ _ _ _ _ us hl => match us, hl with | [_, _], _ => rfl, PySem.W.mg_of X G alawnames⟩
  let Dlawcounters : At K mg "_law_counters" sCountersD ["_law_deal_here", "_law_most"] := ⟨(He.ga K "_law_counters"), _, Xlawcounters, Xlawcounters.binds (ps := ["_law_deal_here", "_law_most"]) fun _ _ _ _ _ _ us hl => match us, hl with | [_, _], _ => rfl, PySem.W.mg_of X G alawcounters⟩
  let Dlawrow : At K mg "_law_row" sRowD ["_law_deal_here", "_law_words", "_law_places"] := ⟨(He.ga K "_law_row"), _, Xlawrow, Xlawrow.binds (ps := ["_law_deal_here", "_law_words", "_law_places"]) fun _ _ _ _ _ _ us hl => match us, hl with | [_, _, _], _ => rfl, PySem.W.mg_of X G alawrow⟩
  let Dlawunrolled : At K mg "_law_unrolled" sUnrD ["_law_told"] := ⟨(He.ga K "_law_unrolled"), _, Xlawunrolled, Xlawunrolled.binds (ps := ["_law_told"]) fun _ _ _ _ _ _ us hl => match us, hl with | [_], _ => rfl, PySem.W.mg_of X G alawunrolled⟩
  let Dlawbook : At K mg "_law_book" sBookD ["_law_deal_here", "_law_most", "_law_long", "_law_places"] := ⟨(He.ga K "_law_book"), _, Xlawbook, Xlawbook.binds (ps := ["_law_deal_here", "_law_most", "_law_long", "_law_places"]) fun _ _ _ _ _ _ us hl => match us, hl with | [_, _, _, _], _ => rfl, PySem.W.mg_of X G alawbook⟩
  let Dlawrowof : At K mg "_law_row_of" sRowOf ["_law_row_here"] := ⟨(He.ga K "_law_row_of"), _, Xlawrowof, Xlawrowof.binds (ps := ["_law_row_here"]) fun _ _ _ _ _ _ us hl => match us, hl with | [_], _ => rfl, PySem.W.mg_of X G alawrowof⟩
  let Dlawbookof : At K mg "_law_book_of" sBookOf ["_law_told"] := ⟨(He.ga K "_law_book_of"), _, Xlawbookof, Xlawbookof.binds (ps := ["_law_told"]) fun _ _ _ _ _ _ us hl => match us, hl with | [_], _ => rfl, PySem.W.mg_of X G alawbookof⟩
  let Dlawbelow : At K mg "_law_below" sBelow ["_law_told", "_law_word"] := ⟨(He.ga K "_law_below"), _, Xlawbelow, Xlawbelow.binds (ps := ["_law_told", "_law_word"]) fun _ _ _ _ _ _ us hl => match us, hl with | [_, _], _ => rfl, PySem.W.mg_of X G alawbelow⟩
  let Dlawdone : At K mg "_law_done" sDoneD ["_law_told", "_law_numbers", "_law_boxes", "_law_row_here"] := ⟨(He.ga K "_law_done"), _, Xlawdone, Xlawdone.binds (ps := ["_law_told", "_law_numbers", "_law_boxes", "_law_row_here"]) fun _ _ _ _ _ _ us hl => match us, hl with | [_, _, _, _], _ => rfl, PySem.W.mg_of X G alawdone⟩
  let Dlawgone : At K mg "_law_gone" sGone ["_law_told", "_law_rows", "_law_word", "_law_number", "_law_kept"] := ⟨(He.ga K "_law_gone"), _, Xlawgone, Xlawgone.binds (ps := ["_law_told", "_law_rows", "_law_word", "_law_number", "_law_kept"]) fun _ _ _ _ _ _ us hl => match us, hl with | [_, _, _, _, _], _ => rfl, PySem.W.mg_of X G alawgone⟩
  let N : TNeed K mg := { mInt := Mint, mBool := Mbool, mStr := Mstr, mIsi := Misinstance, mLen := Mlen, mAll := Mall, words := (He.ga K "ROW_WORDS"), mWords := PySem.W.mg_of X G aROWWORDS, hWords := SROWWORDS, tok := tkLONGESTNAME, mLong := ILONGESTNAME, isInteger := Disinteger, isNumber := Disnumber, isName := Disname, IR := EInvalidRow, need := Dneedname }
  have FN := FNote
  obtain ⟨dsN, vN, bN⟩ := FN.binds1 (ps := ["self", "counter", "label"]) 3 1 (by simp) rfl fun _ _ _ _ _ _ _ us its hl hi => match us, its, hl, hi with | [_, _, _], [_], _, _ => ⟨_, rfl, rfl⟩
  have eN : dsN = [] := by cases vN; rfl
  subst eN
  obtain ⟨dsM, vM, bM⟩ := FN.binds1 (ps := ["self", "counter", "label"]) 2 0 (by simp) rfl fun _ _ _ _ _ _ _ us its hl hi => match us, its, hl, hi with | [_, _], [_], _, _ => ⟨_, rfl, rfl⟩
  let KNote : TNote K mg := { C := (He.ga K "Note"), fI := (He.ma K (He.ga K "Note") "__init__"), fd := _, F := FN, b := bN, m := PySem.W.mg_of X G aNote, M := ⟨mkNote, inNote, iNote, kcNote⟩, cl := ⟨pgNote, hdNote, poNote, saNote⟩, noW := nNote0, noC := nNote1, noL := nNote2 }
  let KSkip : TSkip K mg := { C := (He.ga K "Skip"), fI := (He.ma K (He.ga K "Skip") "__init__"), fd := _, F := XSkip, b := (XSkip).binds (ps := ["self", "counter", "by"]) fun _ _ _ _ _ _ us hl => match us, hl with | [_, _, _], _ => rfl, m := PySem.W.mg_of X G aSkip, M := ⟨mkSkip, inSkip, iSkip, kcSkip⟩, cl := ⟨pgSkip, hdSkip, poSkip, saSkip⟩, noW := nSkip0, noC := nSkip1, noF := nSkip2 }
  let KSet : TSet K mg := { C := (He.ga K "Set"), fI := (He.ma K (He.ga K "Set") "__init__"), fd := _, F := XSet, b := (XSet).binds (ps := ["self", "counter", "to"]) fun _ _ _ _ _ _ us hl => match us, hl with | [_, _, _], _ => rfl, m := PySem.W.mg_of X G aSet, M := ⟨mkSet, inSet, iSet, kcSet⟩, cl := ⟨pgSet, hdSet, poSet, saSet⟩, noW := nSet0, noC := nSet1, noF := nSet2 }
  let KKeep : TKeep K mg := { C := (He.ga K "Keep"), fI := (He.ma K (He.ga K "Keep") "__init__"), fd := _, F := XKeep, b := (XKeep).binds (ps := ["self", "counter"]) fun _ _ _ _ _ _ us hl => match us, hl with | [_, _], _ => rfl, m := PySem.W.mg_of X G aKeep, M := ⟨mkKeep, inKeep, iKeep, kcKeep⟩, cl := ⟨pgKeep, hdKeep, poKeep, saKeep⟩, noW := nKeep0, noF := nKeep1 }
  let KBack : TBack K mg := { C := (He.ga K "Back"), fI := (He.ma K (He.ga K "Back") "__init__"), fd := _, F := XBack, b := (XBack).binds (ps := ["self", "counter"]) fun _ _ _ _ _ _ us hl => match us, hl with | [_, _], _ => rfl, m := PySem.W.mg_of X G aBack, M := ⟨mkBack, inBack, iBack, kcBack⟩, cl := ⟨pgBack, hdBack, poBack, saBack⟩, noW := nBack0, noF := nBack1 }
  let KRef : TRef K mg := { C := (He.ga K "Ref"), fI := (He.ma K (He.ga K "Ref") "__init__"), fd := _, F := XRef, b := (XRef).binds (ps := ["self", "label"]) fun _ _ _ _ _ _ us hl => match us, hl with | [_, _], _ => rfl, m := PySem.W.mg_of X G aRef, M := ⟨mkRef, inRef, iRef, kcRef⟩, cl := ⟨pgRef, hdRef, poRef, saRef⟩, noW := nRef0, noF := nRef1 }
  let KPut : TPut K mg := { C := (He.ga K "Put"), fI := (He.ma K (He.ga K "Put") "__init__"), fd := _, F := XPut, b := (XPut).binds (ps := ["self", "part"]) fun _ _ _ _ _ _ us hl => match us, hl with | [_, _], _ => rfl, m := PySem.W.mg_of X G aPut, M := ⟨mkPut, inPut, iPut, kcPut⟩, cl := ⟨pgPut, hdPut, poPut, saPut⟩, noW := nPut0, noF := nPut1 }
  let KOpen : TOpen K mg := { C := (He.ga K "Open"), fI := (He.ma K (He.ga K "Open") "__init__"), fd := _, F := XOpen, b := (XOpen).binds (ps := ["self", "name"]) fun _ _ _ _ _ _ us hl => match us, hl with | [_, _], _ => rfl, m := PySem.W.mg_of X G aOpen, M := ⟨mkOpen, inOpen, iOpen, kcOpen⟩, cl := ⟨pgOpen, hdOpen, poOpen, saOpen⟩, noW := nOpen0, noF := nOpen1 }
  let R : TRows K mg := { N := N, note := KNote, skip := KSkip, set := KSet, keep := KKeep, back := KBack, ref := KRef, put := KPut, open_ := KOpen }
  let S : TStrs R := { note := MSNote, skip := MSSkip, set := MSSet, keep := MSKeep, back := MSBack, ref := MSRef, put := MSPut, open_ := MSOpen }
  let PP : TPart R := { S := S, CR := (He.ga K "Row"), mR := PySem.W.mg_of X G aRow, kR := fun r => match r with | .note _ _ => kRNote | .skip _ _ => kRSkip | .set _ _ => kRSet | .keep _ => kRKeep | .back _ => kRBack | .ref _ => kRRef | .put _ => kRPut | .opn _ => kROpen, kD := fun d => match d with | .none => kDNoneType | .bool _ => kDbool | .int _ => kDint | .str _ => kDstr | .list _ => kDlist | .tuple _ => kDtuple | .dict _ => kDdict, cA := fun r => match r with | .note _ _ => cANote | .skip _ _ => cASkip | .set _ _ => cASet | .keep _ => cAKeep | .back _ => cABack | .ref _ => cARef | .put _ => cAPut | .opn _ => cAOpen, cN := hnGet, cT := htGet, cM := fun r => match r with | .note _ _ => cMNote | .skip _ _ => cMSkip | .set _ _ => cMSet | .keep _ => cMKeep | .back _ => cMBack | .ref _ => cMRef | .put _ => cMPut | .opn _ => cMOpen, mList := Mlist, mTup := Mtuple, isSeq := Dissequence, IP := EInvalidPart, C := (He.ga K "Part"), mC := PySem.W.mg_of X G aPart, fI := (He.ma K (He.ga K "Part") "__init__"), fdI := _, dRows := (He.dflAt ("Part", some "__init__") 0 K), hRows := SDPart, FI := FPart, bI := bPart1, ds1 := dsPart0, v1 := vPart0, b1 := bPart0, M := ⟨mkPart, inPart, iPart, kcPart⟩, cl := ⟨pgPart, hdPart, poPart, saPart⟩, noN := nPart0, noR := nPart1, pA := pAPart, pM := pMPart, ne := nePart, kC := kCPart, kS := kSPart, nC := nCPart, nS := nSPart, str := MstrPart, eq := MeqPart }
  let BK : TBk PP := { mSet := Mset, mRev := Mreversed, cw := (He.ga K "COUNTING_WORDS"), mCW := PySem.W.mg_of X G aCOUNTINGWORDS, hCW := SCOUNTINGWORDS, isPair := Dispair, areC := Darecounters, areP := Dareparts, cKnown := Dcountersareknown, nPut := Dnamesput, pEarly := Dputsareearlier, nReach := Dnamesreached, unroll := Dunroll, uText := Dunrolledtext, refsK := Drefsareknown, mSort := Msorted, mDict := Mdict, C := (He.ga K "Book"), mC := PySem.W.mg_of X G aBook, fI := (He.ma K (He.ga K "Book") "__init__"), fdI := _, FI := XBook, bI := (XBook).binds (ps := ["self", "counters", "parts"]) fun _ _ _ _ _ _ us hl => match us, hl with | [_, _, _], _ => rfl, M := ⟨mkBook, inBook, iBook, kcBook⟩, cl := ⟨pgBook, hdBook, poBook, saBook⟩, noC := nBook0, noP := nBook1, noF := nBook2, names := MnamesBook, tops := MtopsBook, unr := MunrolledBook, chain := MchainBook }
  let MM : TMap K mg := { mInt := Mint, mBool := Mbool, mTup := Mtuple, mIsi := Misinstance, mLen := Mlen, isInteger := Disinteger, isNumber := Disnumber, isPair := Dispair, words := (He.ga K "TERM_WORDS"), mWords := PySem.W.mg_of X G aTERMWORDS, hWords := STERMWORDS, reck := Dreckoned, traced := Dtraced, joined := Djoined, isTerm := Disterm, termText := Dtermtext, IM := EInvalidMap, C := (He.ga K "Map"), mC := PySem.W.mg_of X G aMap, fI := (He.ma K (He.ga K "Map") "__init__"), fdI := _, dNow := (He.dflAt ("Map", some "__init__") 0 K), dBox := (He.dflAt ("Map", some "__init__") 1 K), hNow := SDMap0, hBox := SDMap1, FI := FMap, bI := bMap2, ds0 := dsMap0, v0 := vMap0, b0 := bMap0, ds1 := dsMap1, v1 := vMap1, b1 := bMap1, M := ⟨mkMap, inMap, iMap, kcMap⟩, cl := ⟨pgMap, hdMap, poMap, saMap⟩, noN := nMap0, noB := nMap1, sf := sfMap, kC := kCMap, nC := nCMap, cA := cAMap, cN := hnGet, cT := htGet, cM := cMMap, ne := neMap, call := McallMap, callC := ⟨incallMap, icallMap, fiMap⟩, shift := MrshiftMap, str := MstrMap, eq := MeqMap }
  let NN : TNum1 BK := { sn := (He.ga K "SAME_NUMBER"), mSN := PySem.W.mg_of X G aSAMENUMBER, hSN := SSAMENUMBER, sb := (He.ga K "SAME_BOX"), mSB := PySem.W.mg_of X G aSAMEBOX, hSB := SSAMEBOX, sy := (He.ga K "STAY"), mSY := PySem.W.mg_of X G aSTAY, hSY := SSTAY, going := Dgoingon, own := Downstep, step := Dstepof, reck := Dreckoned }
  let GG : TBNum BK := { num := Mnumber_ofBook, mEn := Menumerate }
  let AA : TAlong BK := { N := NN, M := MM, G := GG, along := Dstepalong, mapOf := Dmapof }
  let DC : TDealC K mg := { mI := Mint, mA := Mabs, mL := Mlen, mLs := Mlist, deal := Dlawdeal, draw := Dlawdraw, pick := Dlawpick, mixed := Dlawmixed, names := Dlawnames }
  let DX : TDB K mg := { mR := Mrange, counters := Dlawcounters, row := Dlawrow, unr := Dlawunrolled }
  let YY : TGone K mg := { below := Dlawbelow, done := Dlawdone, mDict := Mdict, mList := Mlist }
  let T : TK26 K mg := { D := DC, X := DX, Bk := Dlawbook, R := R, P := PP, B := BK, A := AA, Y := YY, Z := Dlawrowof, bookOf := Dlawbookof, gone := Dlawgone, mLen := Mlen, mEnum := Menumerate, mRepr := Mrepr, mStr := Mstr }
  have Flaw : FunD K "law" "law" (defArgs sLaw26) (defBody sLaw26) (defScope sLaw26) [] [] (He.ga K "law") fdlaw := Ylaw
  have blaw := FunD.bindsA (ps := ["_law_script"]) Flaw fun _ _ _ _ _ _ us hl => match us, hl with | [_], _ => rfl
  exact ⟨_, fun s v => blaw s [v] rfl, fun base _ _ => ok_law26 T (Xlaw) ⟨rfl, by decide, by decide⟩ rfl⟩
end Pn

open PySem PySem.W PySem.Calls PyProof.Rows
theorem PySem.Challenge.cw_partnotes_k26_maps_of_parts_holds : PySem.Challenge.rw_partnotes_k26_maps_of_parts.Holds := by
  w_on; o_law
  refine HandSHeadRun.head_any (M := 20000) (r := Pn.rowQ) (q := Pn.progQ) (H := Pn.hookQ 5 Pn.fnQ Pn.exQ) (ob := Pn.seenQ 5 Pn.fnQ Pn.exQ) (loose := Pn.namesQ) (kwd := []) (d := HandSHeadRun.topDef Pn.rowQ.prog 86) (Pn.seenQ_eq 5 Pn.fnQ Pn.exQ)
    (by kernel_rfl) (fun z => by kernel_rfl) Pn.runQ (by kernel_rfl) (by kernel_rfl) (by kernel_rfl) (by rfl) (by first | assumption | decide +kernel) (by decide +kernel) ⟨rfl, rfl, rfl, rfl, rfl, by decide +kernel⟩ ?hw ?hc
  case hw => w_witness2
  case hc =>
    refine Pn.walk_gE (l := PySem.Challenge.rw_partnotes_k26_maps_of_parts) (n := 63) (x := "_law_script") rfl (by decide) (by kernel_rfl) ?F
    intro w mg fa h Y G hm
    obtain ⟨K, KX, c⟩ := Y
    have hg : mg ("law" : PySem.Str) = some (.ref fa) := by
      have e : (HandSHeadRun.topDef Pn.rowQ.prog 86).name = ("law" : PySem.Str) := by kernel_rfl
      rw [← e]; exact hm
    obtain ⟨fd, hb, hF⟩ := Pn.facts (P := (PySem.Challenge.rw_partnotes_k26_maps_of_parts).prog) (w := w) KX G hg c
    exact ⟨K, fd, Pn.spLaw26 K, KX, hb, fun H a ns hl hS => ⟨a, ns, rfl, hS, hl, fun _ => rfl⟩, hF⟩
