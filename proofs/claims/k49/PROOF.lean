import PyProof.Rows.All
import Wide.All
import OpenK.AllK
import Wide.FinOn
import PyProof.EqAt
import PyProof.EqKinds
import PyProof.TupleCall
import KE.KLam
import KE.KStateDown
import HandS.ForMost
import HandS.Exc
import HandS.TryOnly
import HandS.ExcOwn
import HandS.WordsExc
import HandS.Codes
import HandS.Lambda
import HandS.EndTab
import HandS.IsInst
import HandS.ExcIs
import HandS.Wide
import HandS.Flow
import HandS.Style
import HandS.Defaults
import HandS.HeadHook4
import HandS.HeadWalk
import HandS.Base
import HandS.Call
import HandS.Ends
import HandS.More
import HandS.Words
import HandS.Head0
import HandS.Head1
import HandS.Head2
import HandS.HeadEnd
import HandS.HeadHook1
import HandS.HeadHook2
import HandS.HeadHook3
import HandS.ExcValue
import PyProof.DictMoreH
import PyProof.AutoSeq1
import PyProof.Rows.ChunkLeaf
import HandS.AnyAll
import HandS.GenList
import HandS.Zip
import HandS.Star
import HandS.Deep
import HandS.DeepEq
import HandS.DictTup
import HandS.Sort
import HandS.SortRule
import HandS.TupLe
import KE.KSortAsk
import KE.SortLaws
import KE.SortData
import KE.LtData
import KE.LtSeq
import KE.SortCalls
import HandS.Conv
import HandS.TupAny
import HandS.TupLen
import KE.BitLaws
import HandS.HotCalls
import HandS.SetFor
import KE.DataCmp
import HandS.Text
import PyProof.TupleOfStr
import HandS.SortKw
import KE.SortKeyHeap
import KE.KDictSum
import KE.DataMinMax
import KE.DataMinKey
import PySem.Challenge.RW_cutstairs_k49_webs_of_unlike_tops
set_option Elab.async false
set_option linter.all false
set_option maxRecDepth 100000
set_option maxHeartbeats 4000000
set_option maxHeartbeats 4000000
/-! ### general words of my own -/
namespace LB
open PySem PySem.Spec PyProof.Rows L2
/-- // by any divisor but 0, below 2 ^ 9000 in size -/
def CDivG (_ j : Int) : Prop := j ≠ 0 ∧ j.natAbs.log2 < 9000
theorem op_fdivG {X : Cx} : OpR X (binaryOp .FloorDiv) (rI CDivG fun i j => .int (i.fdiv j)) := opI fun i j _ _ _ _ _ hc q => floordiv_int hc.1 q (.inl (PyProof.noPylong_of_log2 hc.2))
theorem divG {i j : Int} {b : Nat} (h : j ≠ 0) (hb : j.natAbs < 2 ^ b) (h0 : 0 < b) (h9 : b ≤ 9000) : CDivG i j := ⟨h, Nat.lt_of_lt_of_le (PySem.Flt.log2_lt_of h0 hb) h9⟩
/-! ### defs by name -/
/-- the module's name x is a def that keeps sp -/
structure OwnFn (P : Program) (w : World) (K : PySem.W.Frag) (mg : Str → Option Value) (base : Heap) (k : Nat) (x : Str) (ps : List Str) (sp : Sp) : Prop where
  fn : ∃ (f : Addr) (fd : FuncData), FnOk P w K mg base (L2.CX P w) k f fd ps sp ∧ mg x = some (.ref f) ∧ PySem.W.keepIn K (.ref f) = true ∧ Binds K fd ps [] ∧ ∃ oc od osl, K.lookup f = some ⟨oc, od, .func fd, osl⟩
theorem pe_own {X : Cx} {k j : Nat} {x : Str} {ps : List Str} {sp : Sp} {E : XK} {e : Expr} {es : List Expr} {t : TA} {p pos : Pos} (F : OwnFn X.prog X.w X.K X.mg X.base k x ps sp) (hr : Room j X.A) (hx : Passes (L2.CX X.prog X.w) X E) (ha : PA X (e :: es) t)
    (hk : k ≤ j := by decide) (hg : Gl X x := by rfl) (hdb : (x == ("__debug__" : Str)) = false := by decide) (he : starEach (e :: es) X.env = (false, eval e X.env) :: starEach es X.env := by rfl) (hpl : (backTo pos (starEach es X.env)).any (·.1) = false := by rfl) :
    PE X (.Call (.Name x p) (e :: es) [] pos) (tCall sp [] E t) := by
  obtain ⟨f, fd, G, hm, kp, b, _⟩ := F.fn
  exact pe_call G (hr.mono hk) hg hm kp b .nil hx ha hdb he hpl
/-- a def of the text, behind the top -/
def Df (K : PySem.W.Frag) (mg : Str → Option Value) (x : Str) (st : Stmt) : Prop := ∃ fd, FunD K x x (defArgs st) (defBody st) (defScope st) [] [] (He.ga K x) fd ∧ mg x = some (.ref (He.ga K x))
theorem own_ok {P : Program} {w : World} {K : PySem.W.Frag} {mg : Str → Option Value} {base : Heap} {x : Str} {st : Stmt} {N ps : List Str} {k : Nat} {sp : Sp} (F : Df K mg x st) (S : FnScope N ps (defScope st))
    (hb : ∀ (kV doc pm : Value) (an : Option Addr) (cdv ct : Value) (us : List Value), us.length = ps.length → bindArgs (PySem.W.fnOf x x (defArgs st) (defBody st) (defScope st) .none kV doc pm an cdv ct) ⟨us, []⟩ = pure (ps.zip us))
    (len : ∀ vs H Q E, sp vs H Q E → vs.length = ps.length)
    (hbody : ∀ (cdv : Value) (A : Around) (outer : List Env) (s : Shared) (H : Hp) (vs : List V) (Q : VK) (E : XK), Room k (A.deeper (envOfC x (defScope st) s.heap.objs.size (He.ga K x) cdv)) → sp vs H Q E →
      ∃ t, PSs (cxOf (L2.CX P w) P w K mg base N x (defScope st) (He.ga K x) cdv A outer s H E) (defBody st) t ∧ t { nx := fun _ H' => Q .non H', rt := Q } (start N vs) H) : OwnFn P w K mg base (k + 1) x ps sp := by
  obtain ⟨fd, F, hm⟩ := F
  refine ⟨He.ga K x, fd, F.ok S len hbody, hm, F.kp, F.bindsN hb, ?_⟩
  obtain ⟨oc, od, dV, kV, doc, pm, an, cdv, ct, osl, rfl, lk, _⟩ := F.ex
  exact ⟨oc, od, osl, lk⟩
/-- the promise of the function object that stands at x -/
theorem OwnFn.at {P : Program} {w : World} {K : PySem.W.Frag} {mg : Str → Option Value} {base : Heap} {k : Nat} {x : Str} {ps : List Str} {sp : Sp} {f : Addr} {fd : FuncData} {oc : Value} {od : Option Addr} {osl : Array (Option Value)} (F : OwnFn P w K mg base k x ps sp)
    (hm : mg x = some (.ref f)) (lk : K.lookup f = some ⟨oc, od, .func fd, osl⟩) : FnOk P w K mg base (L2.CX P w) k f fd ps sp := by
  obtain ⟨f', fd', G, hm', _, _, oc', od', osl', lk'⟩ := F.fn
  rw [hm] at hm'
  cases hm'
  rw [lk] at lk'
  cases lk'
  exact G
/-- what is raised goes on to the caller -/
theorem passE {P : Program} {w : World} {K : PySem.W.Frag} {mg : Str → Option Value} {base : Heap} {N : List Str} {q : Str} {sc : Scope} {f : Addr} {cd : Value} {A : Around} {outer : List Env} {s : Shared} {H : Hp} {E : XK} :
    Passes (L2.CX P w) (cxOf (L2.CX P w) P w K mg base N q sc f cd A outer s H E) E := passes_call (takes_of rfl rfl rfl rfl) fun _ _ _ _ h => h
/-! ### data of any kind -/
def keyD : Key → PyData
  | .inl i => .int i
  | .inr x => .str x
mutual
inductive Rp (K : PySem.W.Frag) (H : Hp) : V → PyData → Prop
  | non : Rp K H .non .none
  | bl (b : Bool) : Rp K H (.bl b) (.bool b)
  | int (i : Int) : Rp K H (.int i) (.int i)
  | str (x : Str) : Rp K H (.str x) (.str x)
  | lst {a : Addr} {xs : List V} {ds : List PyData} : SqL K H a xs → RpAll K H xs ds → Rp K H (.ref a) (.list ds)
  | tup {a : Addr} {xs : List V} {ds : List PyData} : H a = some (.tup xs) → RpAll K H xs ds → Rp K H (.ref a) (.tuple ds)
  | dct {a : Addr} {kvs : List (Key × V)} {ds : List (PyData × PyData)} : H a = some (.dK kvs) → kvs.map (fun e => keyD e.1) = ds.map (·.1) → RpAll K H (kvs.map (·.2)) (ds.map (·.2)) → Rp K H (.ref a) (.dict ds)
  | dcT {a : Addr} {od : Obj} {kvs : List (List Key × V)} {ds : List (PyData × PyData)} : H a = some (.frz od (.dT kvs)) → kvs.map (fun e => PyData.tuple (e.1.map keyD)) = ds.map (·.1) → RpAll K H (kvs.map (·.2)) (ds.map (·.2)) → Rp K H (.ref a) (.dict ds)
inductive RpAll (K : PySem.W.Frag) (H : Hp) : List V → List PyData → Prop
  | nil : RpAll K H [] []
  | cons {v : V} {vs : List V} {d : PyData} {ds : List PyData} : Rp K H v d → RpAll K H vs ds → RpAll K H (v :: vs) (d :: ds)
end
/-- the name of a datum's class -/
def tyN : PyData → String
  | .none => "NoneType"
  | .bool _ => "bool"
  | .int _ => "int"
  | .str _ => "str"
  | .list _ => "list"
  | .tuple _ => "tuple"
  | .dict _ => "dict"
theorem sqL_ty {K : PySem.W.Frag} {H : Hp} {a : Addr} {xs : List V} (h : SqL K H a xs) : TyX K H (.ref a) (.type "list") := by
  rcases h with (h | ⟨o, h⟩) | ⟨o, its, n, hk, hc, _⟩
  · exact .base (.lst h)
  · exact .base (.frz h)
  · exact .kList hk hc
theorem sqT_ty {K : PySem.W.Frag} {H : Hp} {a : Addr} {xs : List V} (h : SqT K H a xs) : TyX K H (.ref a) (.type "tuple") := by
  rcases h with (h | ⟨o, h⟩) | ⟨o, its, n, hk, hc, _⟩
  · exact .base (.tup h)
  · exact .fTuple h
  · exact .kTuple hk hc
inductive TyY (K : PySem.W.Frag) (H : Hp) : V → Value → Prop where
  | x {v : V} {t : Value} (h : TyX K H v t) : TyY K H v t
  | fDT {a : Addr} {o : Obj} {kvs : List (List Key × V)} (e : H a = some (.frz o (.dT kvs))) : TyY K H (.ref a) (.type "dict")
def rIsiY (K : PySem.W.Frag) : List V → Hp → VK → Prop := fun xs H Q => ∃ (x c : V) (t u : Value) (b : Bool), xs = [x, c] ∧ ClsV c u ∧ TyY K H x t ∧ PySem.W.kitOne K t u = some b ∧ Q (.bl b) H
theorem call_isiY {X : Cx} : CallR X (.builtin "isinstance") (rIsiY X.K) := by
  intro pins s σ H xs us Q I r h
  obtain ⟨x, c, t, u, b, hx, k, ty, e, q⟩ := h
  cases ty with
  | x ty => exact call_isi pins s σ H xs us Q I r ⟨x, c, t, u, b, hx, k, ty, e, q⟩
  | @fDT a ob kvs ea =>
    subst hx
    obtain ⟨u1, u2, rfl, r1, r2⟩ := vals2 r
    have e2 := k.eq r2
    subst e2
    cases (show u1 = Value.ref a from r1)
    obtain ⟨_, _, zs, _, o, es, ep, h1, h2, _⟩ := dt_rd I.hok (.inr ⟨ob, ea⟩)
    exact PySem.W.kia_one PySem.W.kitx_dict I.kIn ⟨o, h1, h2.1⟩ e (fun z => nomatch z) fun tk => ⟨.bl b, H, I.tok tk, rfl, q⟩
theorem Rp.ty {K : PySem.W.Frag} {H : Hp} {v : V} {d : PyData} (h : Rp K H v d) : TyY K H v (.type (tyN d)) := by
  cases h with
  | non => exact .x (.base .non)
  | bl b => exact .x (.base (.bl b))
  | int i => exact .x (.base (.int i))
  | str x => exact .x (.base (.str x))
  | lst h _ => exact .x (sqL_ty h)
  | tup h _ => exact .x (sqT_ty (SqT.of h))
  | dct h _ _ => exact .x (.base (.dK h))
  | dcT h _ _ => exact .fDT h
/-- H' holds what H held, but tables -/
abbrev Ex (H H' : Hp) : Prop := LamX.ExtN H H'
theorem ex_refl (H : Hp) : Ex H H := LamX.ExtN.refl H
theorem ex_new {H : Hp} {p : Addr} {o : HO} (h : H p = none) : Ex H (upd H p o) := fun b u e _ => by
  rw [upd_ne (ne_of_none e h)]
  exact e
theorem ex_rd {H H' : Hp} {a : Addr} {u : HO} (e : Ex H H') (h : Rd H a u) (hu : ∀ ps, u ≠ .tbl ps) : Rd H' a u := by
  rcases h with h | ⟨o, h⟩
  · exact Or.inl (e a _ h hu)
  · exact Or.inr ⟨o, e a _ h fun _ z => nomatch z⟩
theorem ex_l {K : PySem.W.Frag} {H H' : Hp} {a : Addr} {xs : List V} (e : Ex H H') (h : SqL K H a xs) : SqL K H' a xs := by
  rcases h with h | h
  · exact Or.inl (ex_rd e h fun _ z => nomatch z)
  · exact Or.inr h
theorem ex_t {K : PySem.W.Frag} {H H' : Hp} {a : Addr} {xs : List V} (e : Ex H H') (h : SqT K H a xs) : SqT K H' a xs := by
  rcases h with h | h
  · exact Or.inl (ex_rd e h fun _ z => nomatch z)
  · exact Or.inr h
mutual
theorem Rp.ext {K : PySem.W.Frag} {H H' : Hp} (e : Ex H H') : ∀ {v : V} {d : PyData}, Rp K H v d → Rp K H' v d
  | _, _, .non => .non
  | _, _, .bl b => .bl b
  | _, _, .int i => .int i
  | _, _, .str x => .str x
  | _, _, .lst h r => .lst (ex_l e h) (RpAll.ext e r)
  | _, _, .tup h r => .tup (e _ _ h fun _ z => nomatch z) (RpAll.ext e r)
  | _, _, .dct h k r => .dct (e _ _ h fun _ z => nomatch z) k (RpAll.ext e r)
  | _, _, .dcT h k r => .dcT (e _ _ h fun _ z => nomatch z) k (RpAll.ext e r)
theorem RpAll.ext {K : PySem.W.Frag} {H H' : Hp} (e : Ex H H') : ∀ {vs : List V} {ds : List PyData}, RpAll K H vs ds → RpAll K H' vs ds
  | _, _, .nil => .nil
  | _, _, .cons h r => .cons (Rp.ext e h) (RpAll.ext e r)
end
theorem RpAll.length {K : PySem.W.Frag} {H : Hp} : ∀ {vs : List V} {ds : List PyData}, RpAll K H vs ds → vs.length = ds.length
  | _, _, .nil => rfl
  | _, _, .cons _ r => congrArg Nat.succ (RpAll.length r)
theorem RpAll.get {K : PySem.W.Frag} {H : Hp} : ∀ {vs : List V} {ds : List PyData} {i : Nat} {v : V}, RpAll K H vs ds → vs[i]? = some v → ∃ d, ds[i]? = some d ∧ Rp K H v d
  | _, _, _, _, .nil, e => by simp at e
  | _, _, 0, _, .cons h _, e => by
    have e' := Option.some.inj e
    subst e'
    exact ⟨_, rfl, h⟩
  | _, _, i + 1, v, .cons _ r, e => by
    obtain ⟨d, h1, h2⟩ := RpAll.get (i := i) (v := v) r e
    exact ⟨d, h1, h2⟩
/-! ### a caught error of an own class: isinstance with a tuple of classes -/
def rIsET (K : PySem.W.Frag) (D a : Addr) : List V → Hp → VK → Prop := fun xs H Q => ∃ (tp : Addr) (cs : List V) (us : List Value) (b : Bool), xs = [.ref a, .ref tp] ∧ H tp = some (.tup cs) ∧ Paired ClsV cs us ∧ PySem.W.kitAny K (.ref D) us = some b ∧ Q (.bl b) H
theorem call_isET {X : Cx} {a D : Addr} {oe : Obj} {pn : List (Addr × Obj)} (C : ExcC X.K D) (hz : Zc (.ref D) none oe) (hf : ∃ vs, oe.data = .fields vs) : CallR (X.suite a ((a, oe) :: pn)) (.builtin "isinstance") (rIsET X.K D a) := by
  intro pins s σ H xs us Q I r h
  obtain ⟨tp, cs, ws, b, rfl, hT, k, e, q⟩ := h
  obtain ⟨u1, u2, rfl, r1, r2⟩ := vals2 r
  cases (show u2 = Value.ref tp from r2)
  cases (show u1 = Value.ref a from r1)
  obtain ⟨hget, _⟩ := I.pin (a, oe) (List.mem_append.mpr (.inl List.mem_cons_self))
  obtain ⟨vs, hv⟩ := hf
  have J : PySem.W.InstAt s.heap a oe D none := by
    obtain ⟨oc, od, oda, osl⟩ := oe
    obtain ⟨h1, h2⟩ := hz
    dsimp only at h1 h2 hv
    subst h1 h2 hv
    exact ⟨hget, rfl, rfl, trivial⟩
  obtain ⟨_, its, rv, o, h1, h2, n, h3⟩ := (show ObjOk X.prog X.w H s.heap tp (.tup cs) from I.hok tp _ hT)
  have e3 := ClsV.all k rv
  subst e3
  obtain ⟨oc, od, dt, sl⟩ := o
  simp only at h2 h3
  subst h2 h3
  exact PySem.W.kia_tup (PySem.W.handS_kitx_exc C.hg C.hk C.hs C.hd C.ha C.hn C.ht C.hm) I.kIn J h1 e (fun z => nomatch z) fun tk => ⟨.bl b, H, I.kept (t' := tk) fun _ _ z => z, rfl, q⟩
/-- the class facts, checked in the top's run -/
def excCB (K : PySem.W.Frag) (D : Addr) : Bool :=
  He.eqO (PySem.W.findIn K (.ref D) "__getattribute__") (some (some (.builtin "BaseException.__getattribute__"))) && (He.eqO (PySem.W.findIn K (.ref D) "__getattr__") (some none) &&
  (decide (PySem.W.subIn K (.ref D) (.type "BaseException") = some true) && (PySem.W.hasDictIn K D && (He.eqO (PySem.W.findIn K (.ref D) "__class__") (some (some (.builtin "object.__class__"))) &&
  (He.eqO (PySem.W.specialIn K (.builtin "object.__class__") "__get__") (some (some (.builtin "getset_descriptor.__get__"))) && (decide (PySem.W.takesIn K (.builtin "object.__class__") = some true) && decide (PySem.W.mroIn K D (.type "object") = some true)))))))
theorem excCB_ok {K : PySem.W.Frag} {D : Addr} (h : excCB K D = true) : ExcC K D := by
  obtain ⟨h1, h⟩ := He.ba h
  obtain ⟨h2, h⟩ := He.ba h
  obtain ⟨h3, h⟩ := He.ba h
  obtain ⟨h4, h⟩ := He.ba h
  obtain ⟨h5, h⟩ := He.ba h
  obtain ⟨h6, h⟩ := He.ba h
  obtain ⟨h7, h8⟩ := He.ba h
  exact ⟨He.eqO_ok h1, He.eqO_ok h2, of_decide_eq_true h3, h4, He.eqO_ok h5, He.eqO_ok h6, of_decide_eq_true h7, of_decide_eq_true h8⟩
def refs (K : PySem.W.Frag) (l : List Str) : List Value := l.map fun x => .ref (He.ga K x)
theorem refs_cls (K : PySem.W.Frag) : ∀ l : List Str, Paired ClsV (l.map fun x => V.ref (He.ga K x)) (refs K l)
  | [] => .nil
  | _ :: l => .cons (.own _) (refs_cls K l)
end LB

namespace LB
open PySem PySem.Spec PyProof.Rows L2
/-! ### heaps that grow: what is no table stays, the tables T stay told -/
def Gw (T : List (Addr × Str)) (H H' : Hp) : Prop := Ex H H' ∧ (LamX.Tabs T H → LamX.Tabs T H')
theorem Gw.refl (T : List (Addr × Str)) (H : Hp) : Gw T H H := ⟨ex_refl H, id⟩
theorem Gw.trans {T : List (Addr × Str)} {H H1 H2 : Hp} (a : Gw T H H1) (b : Gw T H1 H2) : Gw T H H2 := ⟨a.1.trans b.1, fun t => b.2 (a.2 t)⟩
theorem gw_same {T : List (Addr × Str)} {H H' : Hp} (s : Same H H') : Gw T H H' := ⟨fun b o e _ => s b o e, fun t => t.ext s⟩
theorem same_new {H : Hp} {p : Addr} {o : HO} (h : H p = none) : Same H (upd H p o) := fun b u e => by
  rw [upd_ne (ne_of_none e h)]
  exact e
theorem gw_new {T : List (Addr × Str)} {H : Hp} {p : Addr} {o : HO} (h : H p = none) : Gw T H (upd H p o) := gw_same (same_new h)
theorem Gw.lst {T : List (Addr × Str)} {H H' : Hp} (g : Gw T H H') {p : Addr} {xs : List V} (h : H p = some (.lst xs)) : H' p = some (.lst xs) := g.1 _ _ h fun _ z => nomatch z
theorem Gw.tup {T : List (Addr × Str)} {H H' : Hp} (g : Gw T H H') {p : Addr} {xs : List V} (h : H p = some (.tup xs)) : H' p = some (.tup xs) := g.1 _ _ h fun _ z => nomatch z
theorem Gw.l {T : List (Addr × Str)} {K : PySem.W.Frag} {H H' : Hp} {a : Addr} {xs : List V} (g : Gw T H H') (h : SqL K H a xs) : SqL K H' a xs := ex_l g.1 h
theorem Gw.t {T : List (Addr × Str)} {K : PySem.W.Frag} {H H' : Hp} {a : Addr} {xs : List V} (g : Gw T H H') (h : SqT K H a xs) : SqT K H' a xs := ex_t g.1 h
theorem Gw.rp {T : List (Addr × Str)} {K : PySem.W.Frag} {H H' : Hp} {v : V} {d : PyData} (g : Gw T H H') (h : Rp K H v d) : Rp K H' v d := h.ext g.1
theorem Gw.rpAll {T : List (Addr × Str)} {K : PySem.W.Frag} {H H' : Hp} {v : List V} {d : List PyData} (g : Gw T H H') (h : RpAll K H v d) : RpAll K H' v d := h.ext g.1
/-! ### readings that give data -/
section
variable (K : PySem.W.Frag) (T : List (Addr × Str))
def Gv (te : TE) (σ : L2.St) (H : Hp) (d : PyData) : Prop := ∀ H1, Gw T H H1 → ∀ Q : VK, (∀ v H2, Gw T H1 H2 → Rp K H2 v d → Q v H2) → te σ H1 Q
def GvA (ta : TA) (σ : L2.St) (H : Hp) (ds : List PyData) : Prop := ∀ H1, Gw T H H1 → ∀ Q : List V → Hp → Prop, (∀ vs H2, Gw T H1 H2 → RpAll K H2 vs ds → Q vs H2) → ta σ H1 Q
/-- a new list of data -/
def GvL (te : TE) (σ : L2.St) (H : Hp) (ds : List PyData) : Prop := ∀ H1, Gw T H H1 → ∀ Q : VK, (∀ p xs H2, Gw T H1 H2 → H2 p = some (.lst xs) → RpAll K H2 xs ds → Q (.ref p) H2) → te σ H1 Q
end
section
variable {K : PySem.W.Frag} {T : List (Addr × Str)} {σ : L2.St} {H : Hp} {te ta tb : TE} {d : PyData} {ds : List PyData}
theorem gv_int {i : Int} : Gv K T (tC (.int i)) σ H (.int i) := fun H1 _ _ q => q _ H1 (Gw.refl T H1) (.int i)
theorem gv_str {x : Str} : Gv K T (tC (.str x)) σ H (.str x) := fun H1 _ _ q => q _ H1 (Gw.refl T H1) (.str x)
theorem gv_bl {b : Bool} : Gv K T (tC (.bl b)) σ H (.bool b) := fun H1 _ _ q => q _ H1 (Gw.refl T H1) (.bl b)
theorem gv_non : Gv K T (tC .non) σ H .none := fun H1 _ _ q => q _ H1 (Gw.refl T H1) .non
theorem gv_var {i : Nat} {v : V} (h : σ[i]? = some (some v)) (r : Rp K H v d) : Gv K T (tVar i) σ H d := fun H1 g _ q => ⟨v, h, q v H1 (Gw.refl T H1) (g.rp r)⟩
theorem gva_nil : GvA K T tNil σ H [] := fun H1 _ _ q => q [] H1 (Gw.refl T H1) .nil
theorem gva_cons {tr : TA} (h : Gv K T te σ H d) (hr : GvA K T tr σ H ds) : GvA K T (tCons te tr) σ H (d :: ds) := fun H1 g Q q =>
  h H1 g _ fun v H2 g2 r2 => hr H2 (g.trans g2) _ fun vs H3 g3 r3 => q (v :: vs) H3 (g2.trans g3) (.cons (g3.rp r2) r3)
theorem gv_tup {tr : TA} (h : GvA K T tr σ H ds) (hl : ds.length ≤ 100000) : Gv K T (tTup tr) σ H (.tuple ds) := fun H1 g Q q =>
  h H1 g _ fun vs H2 g2 r2 => ⟨Nat.le_trans (by rw [r2.length]; exact hl) (by decide), fun p hp => q _ _ (g2.trans (gw_new hp)) (.tup upd_same ((gw_new (T := T) hp).rpAll r2))⟩
theorem gv_lst {tr : TA} (h : GvA K T tr σ H ds) (hl : ds.length ≤ 100000) : Gv K T (tLst tr) σ H (.list ds) := fun H1 g Q q =>
  h H1 g _ fun vs H2 g2 r2 => ⟨Nat.le_trans (by rw [r2.length]; exact hl) (by decide), fun p hp => q _ _ (g2.trans (gw_new hp)) (.lst (SqL.of upd_same) ((gw_new (T := T) hp).rpAll r2))⟩
theorem gv_opI {C : Int → Int → Prop} {g : Int → Int → Int} {i j : Int} (ha : Gv K T ta σ H (.int i)) (hb : Gv K T tb σ H (.int j)) (hc : C i j) : Gv K T (tOp (rI C fun i j => .int (g i j)) ta tb) σ H (.int (g i j)) := fun H1 e Q q =>
  ha H1 e _ fun v H2 e2 r2 => hb H2 (e.trans e2) _ fun u H3 e3 r3 => by
    cases r2
    cases r3
    exact ⟨i, j, rfl, rfl, hc, q _ H3 (e2.trans e3) (.int _)⟩
theorem gv_opI0 {g : Int → Int → Int} {i j : Int} (ha : Gv K T ta σ H (.int i)) (hb : Gv K T tb σ H (.int j)) : Gv K T (tOp (rI0 fun i j => .int (g i j)) ta tb) σ H (.int (g i j)) := fun H1 e Q q =>
  ha H1 e _ fun v H2 e2 r2 => hb H2 (e.trans e2) _ fun u H3 e3 r3 => by
    cases r2
    cases r3
    exact ⟨i, j, rfl, rfl, q _ H3 (e2.trans e3) (.int _)⟩
theorem gv_cmpI0 {g : Int → Int → Bool} {i j : Int} (ha : Gv K T ta σ H (.int i)) (hb : Gv K T tb σ H (.int j)) : Gv K T (tOp (rI0 fun i j => .bl (g i j)) ta tb) σ H (.bool (g i j)) := fun H1 e Q q =>
  ha H1 e _ fun v H2 e2 r2 => hb H2 (e.trans e2) _ fun u H3 e3 r3 => by
    cases r2
    cases r3
    exact ⟨i, j, rfl, rfl, q _ H3 (e2.trans e3) (.bl _)⟩
theorem gv_neg {i : Int} (ha : Gv K T ta σ H (.int i)) : Gv K T (tUn (rU fun i => .int (-i)) ta) σ H (.int (-i)) := fun H1 e Q q =>
  ha H1 e _ fun v H2 e2 r2 => by
    cases r2
    exact ⟨i, rfl, q _ H2 e2 (.int _)⟩
theorem rpAll_at {xs : List V} (r : RpAll K H xs ds) {i : Int} (h : atI ds i = some d) : ∃ v, atI xs i = some v ∧ Rp K H v d := by
  have hl := r.length
  unfold atI at h ⊢
  rw [hl]
  cases e : ixN ds.length i with
  | none =>
    rw [e] at h
    cases h
  | some j =>
    rw [e] at h
    have h' : ds[j]? = some d := h
    have hj : j < xs.length := by
      have := (List.getElem?_eq_some_iff.mp h').1
      omega
    obtain ⟨d', e1, e2⟩ := r.get (List.getElem?_eq_getElem hj)
    rw [h'] at e1
    cases e1
    exact ⟨_, List.getElem?_eq_getElem hj, e2⟩
theorem gv_ixT {i : Int} (ha : Gv K T ta σ H (.tuple ds)) (hb : Gv K T tb σ H (.int i)) (hd : atI ds i = some d) : Gv K T (tOp (rIxT K) ta tb) σ H d := fun H1 e Q q =>
  ha H1 e _ fun v H2 e2 r2 => hb H2 (e.trans e2) _ fun u H3 e3 r3 => by
    cases r3
    cases r2 with
    | tup hs0 ra =>
      have hs := SqT.of (K := K) hs0
      obtain ⟨v, hv, rv⟩ := rpAll_at ra hd
      exact ⟨_, _, i, v, rfl, rfl, e3.t hs, hv, q _ H3 (e2.trans e3) (e3.rp rv)⟩
theorem gv_ixL {i : Int} (ha : Gv K T ta σ H (.list ds)) (hb : Gv K T tb σ H (.int i)) (hd : atI ds i = some d) : Gv K T (tOp (rIxL K) ta tb) σ H d := fun H1 e Q q =>
  ha H1 e _ fun v H2 e2 r2 => hb H2 (e.trans e2) _ fun u H3 e3 r3 => by
    cases r3
    cases r2 with
    | lst hs ra =>
      obtain ⟨v, hv, rv⟩ := rpAll_at ra hd
      exact ⟨_, _, i, v, rfl, rfl, e3.l hs, hv, q _ H3 (e2.trans e3) (e3.rp rv)⟩
theorem gvl_lst {tr : TA} (h : GvA K T tr σ H ds) (hl : ds.length ≤ 100000) : GvL K T (tLst tr) σ H ds := fun H1 g Q q =>
  h H1 g _ fun vs H2 g2 r2 => ⟨Nat.le_trans (by rw [r2.length]; exact hl) (by decide), fun p hp => q _ _ _ (g2.trans (gw_new hp)) upd_same ((gw_new (T := T) hp).rpAll r2)⟩
theorem gvl_var {i : Nat} {p : Addr} {xs : List V} (h : σ[i]? = some (some (.ref p))) (hp : H p = some (.lst xs)) (r : RpAll K H xs ds) : GvL K T (tVar i) σ H ds := fun H1 g _ q => ⟨_, h, q p xs H1 (Gw.refl T H1) (g.lst hp) (g.rpAll r)⟩
theorem RpAll.append {H : Hp} : ∀ {xs ys : List V} {ds es : List PyData}, RpAll K H xs ds → RpAll K H ys es → RpAll K H (xs ++ ys) (ds ++ es)
  | _, _, _, _, .nil, s => s
  | _, _, _, _, .cons h r, s => .cons h (RpAll.append r s)
theorem gvl_cat {es : List PyData} (ha : GvL K T ta σ H ds) (hb : GvL K T tb σ H es) (hl : ds.length + es.length ≤ 100000) : GvL K T (tOp rCat ta tb) σ H (ds ++ es) := fun H1 g Q q =>
  ha H1 g _ fun p xs H2 g2 hp r2 => hb H2 (g.trans g2) _ fun p2 ys H3 g3 hp2 r3 =>
    ⟨p, p2, xs, ys, rfl, rfl, g3.lst hp, hp2, Nat.le_trans (by rw [r2.length, r3.length]; exact hl) (by decide), fun l hl' => q l _ _ ((g2.trans g3).trans (gw_new hl')) upd_same (RpAll.append ((g3.trans (gw_new hl')).rpAll r2) ((gw_new (T := T) hl').rpAll r3))⟩
theorem GvL.gv (h : GvL K T te σ H ds) : Gv K T te σ H (.list ds) := fun H1 g Q q => h H1 g _ fun p xs H2 g2 hp r => q _ H2 g2 (.lst (SqL.of hp) r)
theorem gv_use {Q : VK} (h : Gv K T te σ H d) (q : ∀ v H2, Gw T H H2 → Rp K H2 v d → Q v H2) : te σ H Q := h H (Gw.refl T H) Q q
theorem gvl_use {Q : VK} (h : GvL K T te σ H ds) (q : ∀ p xs H2, Gw T H H2 → H2 p = some (.lst xs) → RpAll K H2 xs ds → Q (.ref p) H2) : te σ H Q := h H (Gw.refl T H) Q q
theorem s_seq {t u : TS} {D : Ends} {σ : L2.St} {H : Hp} (h : t { D with nx := u D } σ H) : tSeq t u D σ H := h
theorem s_asgL {D : Ends} {i : Nat} (h : GvL K T te σ H ds) (k : ∀ p xs H2, Gw T H H2 → H2 p = some (.lst xs) → RpAll K H2 xs ds → D.nx (σ.set i (some (.ref p))) H2) : tAsg te (gName i) D σ H := h H (Gw.refl T H) _ k
theorem s_asg {D : Ends} {i : Nat} (h : Gv K T te σ H d) (k : ∀ v H2, Gw T H H2 → Rp K H2 v d → D.nx (σ.set i (some v)) H2) : tAsg te (gName i) D σ H := h H (Gw.refl T H) _ k
theorem s_ret {D : Ends} (h : Gv K T te σ H d) (k : ∀ v H2, Gw T H H2 → Rp K H2 v d → D.rt v H2) : tRet te D σ H := h H (Gw.refl T H) _ k
theorem sq_asgL {u : TS} {D : Ends} {i : Nat} (h : GvL K T te σ H ds) (k : ∀ p xs H2, Gw T H H2 → H2 p = some (.lst xs) → RpAll K H2 xs ds → u D (σ.set i (some (.ref p))) H2) : tSeq (tAsg te (gName i)) u D σ H := h H (Gw.refl T H) _ k
theorem sq_asg {u : TS} {D : Ends} {i : Nat} (h : Gv K T te σ H d) (k : ∀ v H2, Gw T H H2 → Rp K H2 v d → u D (σ.set i (some v)) H2) : tSeq (tAsg te (gName i)) u D σ H := h H (Gw.refl T H) _ k
theorem sq_forG {g : TG} {tb u : TS} {D : Ends} (h : GvL K T te σ H ds) (Ps : Nat → L2.St → Prop) (h0 : Ps 0 σ)
    (hs : ∀ H1, Gw T H H1 → ∀ i v d σ' H', Gw T H1 H' → ds[i]? = some d → Rp K H' v d → Ps i σ' → g v σ' H' fun σ2 H2 => tb { nx := fun σ3 H3 => Gw T H1 H3 ∧ Ps (i + 1) σ3, rt := D.rt, bk := u D, ct := fun σ3 H3 => Gw T H1 H3 ∧ Ps (i + 1) σ3 } σ2 H2)
    (hd : ∀ σ' H', Gw T H H' → Ps ds.length σ' → u D σ' H') : tSeq (tFor (iList K te) g tb) u D σ H := h H (Gw.refl T H) _ fun p xs H1 g1 hp r1 =>
  ⟨p, rfl, ⟨xs, SqL.of hp⟩, for_list (K := K) (a := p) (xs := xs) (fun i σ' H' => Gw T H1 H' ∧ Ps i σ') ⟨Gw.refl T H1, h0⟩ (fun i σ' H' _ h => SqL.of (h.1.lst hp)) (fun i x σ' H' hx ⟨g2, ps⟩ => by
    obtain ⟨d, hd, rd⟩ := r1.get hx
    exact hs H1 g1 i x d σ' H' g2 hd (g2.rp rd) ps) (fun σ' H' ⟨g2, ps⟩ => hd σ' H' (g1.trans g2) (by rw [← r1.length]; exact ps))⟩
/-- list(t) of a tuple -/
theorem gv_listT (ha : Gv K T ta σ H (.tuple ds)) : Gv K T (tCB (fun xs H Q => ∃ p ys, xs = [.ref p] ∧ (SqL K H p ys ∨ SqT K H p ys) ∧ ∀ l, H l = none → Q (.ref l) (upd H l (.lst ys))) (tCons ta tNil)) σ H (.list ds) := fun H1 e Q q =>
  ha H1 e _ fun v H2 e2 r2 => by
    cases r2 with
    | tup hs ra => have hs := SqT.of (K := K) hs; exact ⟨_, _, rfl, .inr hs, fun l hl => q _ _ (e2.trans (gw_new hl)) (.lst (SqL.of upd_same) ((gw_new (T := T) hl).rpAll ra))⟩
theorem gv_dnew : Gv K T tDNewK σ H (.dict []) := fun H1 e Q q => fun p hp => q _ _ (gw_new hp) (.dct upd_same rfl .nil)
theorem take_more {α : Type} : ∀ {l : List α} {i : Nat} {x : α}, l[i]? = some x → l.take (i + 1) = l.take i ++ [x]
  | [], i, x, h => by simp at h
  | a :: l, 0, x, h => by
    have e : a = x := Option.some.inj h
    subst e
    rfl
  | a :: l, i + 1, x, h => by
    have ih := take_more (l := l) (i := i) (x := x) h
    show a :: l.take (i + 1) = a :: l.take i ++ [x]
    rw [ih]
    rfl
end
/-! ### a def whose code object's table is told; a lambda handed to a def -/
theorem own_okC {P : Program} {w : World} {K : PySem.W.Frag} {mg : Str → Option Value} {base : Heap} {x : Str} {st : Stmt} {N ps : List Str} {k : Nat} {sp : Sp} (F : Df K mg x st) (S : FnScope N ps (defScope st))
    (hb : ∀ (kV doc pm : Value) (an : Option Addr) (cdv ct : Value) (us : List Value), us.length = ps.length → bindArgs (PySem.W.fnOf x x (defArgs st) (defBody st) (defScope st) .none kV doc pm an cdv ct) ⟨us, []⟩ = pure (ps.zip us))
    (len : ∀ vs H Q E, sp vs H Q E → vs.length = ps.length)
    (hbody : ∀ (cdv : Value) (A : Around) (outer : List Env) (s : Shared) (H : Hp) (vs : List V) (Q : VK) (E : XK), cdv = .ref (He.codeOf K (x, none)) → Room k (A.deeper (envOfC x (defScope st) s.heap.objs.size (He.ga K x) cdv)) → sp vs H Q E →
      ∃ t, PSs (cxOf (L2.CX P w) P w K mg base N x (defScope st) (He.ga K x) cdv A outer s H E) (defBody st) t ∧ t { nx := fun _ H' => Q .non H', rt := Q } (start N vs) H) : OwnFn P w K mg base (k + 1) x ps sp := by
  obtain ⟨fd, F, hm⟩ := F
  have kp := F.kp
  have bb := F.bindsN hb
  obtain ⟨oc, od, dV, kV, doc, pm, an, cdv, ct, osl, rfl, lk, hcd, _, _⟩ := F.ex
  refine ⟨He.ga K x, _, ?_, hm, kp, bb, oc, od, osl, lk⟩
  refine fn_of lk hcd S len fun A outer s H vs Q E hr hsp => hbody cdv A outer s H vs Q E ?_ hr hsp
  obtain ⟨c, rfl⟩ := He.codeIn_ref hcd
  have e : He.codeOf K (x, none) = c := He.codeOf_eq (p := (x, none)) lk rfl
  rw [e]
theorem pss_pre {X : Cx} {st : List Stmt} {t : TS} {C : Prop} (h : C → PSs X st t) : PSs X st (fun D σ H => C ∧ t D σ H) := ⟨fun pins s σ H D I hh => (h hh.1).run pins s σ H D I hh.2⟩
theorem takes_len {X : Cx} {W : WX} (tk : Takes X W) : Takes X (fun cls d σ H => σ.length = X.N.length → W cls d σ H) := fun u s' ⟨a, B, sI, pins, σ, H, cls, d, e, I, nb, up, sky, na, os, ag, w⟩ => tk u s' ⟨a, B, sI, pins, σ, H, cls, d, e, I, nb, up, sky, na, os, ag, w I.len⟩
theorem passM {X : Cx} {A : Around} {outer : List Env} {s : Shared} {H : Hp} {E : XK} {scope : Scope} {f c : Addr} : Passes (L2.CX (LamX.lamCx X A outer s H E scope f c).prog (LamX.lamCx X A outer s H E scope f c).w) (LamX.lamCx X A outer s H E scope f c) E := passes_call (takes_of rfl rfl rfl rfl) fun _ _ _ _ h => h
theorem pe_lam1 {X : Cx} {T : List (Addr × Str)} {TT : (XK → Hp → VK → Prop) → Hp → VK → Prop} {x a : Str} {st : Stmt} {c P : Addr} {k : Nat} {Ng : List Str} {params : Arguments} {body : Expr} {scope : Scope} {t : XK → TE} {p lpos pos : Pos}
    (F : Df X.K X.mg x st) (Sg : FnScope Ng [a] (defScope st)) (hb : ∀ (kV doc pm : Value) (an : Option Addr) (cdv ct : Value) (us : List Value), us.length = [a].length → bindArgs (PySem.W.fnOf x x (defArgs st) (defBody st) (defScope st) .none kV doc pm an cdv ct) ⟨us, []⟩ = pure ([a].zip us))
    (hG : ∀ cdv, LamX.GivesTo X Ng x (defScope st) (He.ga X.K x) cdv (defBody st) a (X.env.qual ++ "<lambda>") TT)
    (TB : LamX.TabB X.base X.mg c P) (hcode : X.env.code = .ref c) (hmT : (P, X.env.qual ++ "<lambda>") ∈ T) (hu : ∀ p ∈ T, p.1 = P → p.2 = X.env.qual ++ "<lambda>") (hr : Room (k + 2) X.A) (L : LamX.LamS X.env.scope scope)
    (hbody : ∀ (A : Around) (outer : List Env) (s : Shared) (H : Hp) (E : XK) (f c' : Addr), Room k (A.deeper (LamX.lamEnv X scope s.heap.objs.size f c')) → PE (LamX.lamCx X A outer s H E scope f c') body (t E))
    (hg : Gl X x := by rfl) (hNg : Ng[0]? = some a := by rfl) (hva : Vis (defScope st) a := by exact Or.inl rfl) (hdef : defaultsOf params X.env = ([], []) := by rfl)
    (hbind : ∀ (q : Str) (cl : List (Str × Addr)) (pm cv ctv : Value), bindArgs (PySem.W.kla_fn "<lambda>" q params body scope cl pm cv ctv) ⟨[], []⟩ = pure [] := by intros; rfl)
    (hdb : (x == ("__debug__" : Str)) = false := by decide) (hd : (a == ("__debug__" : Str)) = false := by decide) (hcd : (a == ("__classdict__" : Str)) = false := by decide) :
    PE X (.Call (.Name x p) [.Lambda params body scope lpos] [] pos) (LamX.tLam T TT t) := by
  obtain ⟨fd, F, hm⟩ := F
  obtain ⟨oc, od, dV, kV, doc, pm, an, cdv, ct, osl, rfl, lk, hcd', _, _⟩ := F.ex
  exact LamX.pe_lamcall hg hm F.kp lk hcd' (F.bindsN hb) Sg hNg hva (hG cdv) TB hcode hmT hu hr L hdef hbind hbody hdb hd hcd
end LB

namespace GX
open PySem PySem.Spec PyProof.Rows L2 GenW
/-- the context of a generator expression's block: woken in A, made at s -/
def gCx (X : Cx) (A : Around) (s : Shared) (H : Hp) (cenv : Env) (fp : List Addr) (pn : List (Addr × Obj)) : Cx where
  prog := X.prog
  w := X.w
  K := X.K
  mg := X.mg
  base := X.base
  A := A.deeper cenv
  N := X.N
  s_0 := s
  H_0 := H
  env := cenv
  outer := X.stack
  stack := cenv :: X.stack
  ex := fp
  fn := fun _ => false
  calm := true
  pn := pn
  xe := fun _ _ => False
/-- its names: no cells; «.0» and the clause's own names; captured ones -/
structure GxS (N : List Str) (sc scope : Scope) (own : List (Str × Nat)) : Prop where
  kind : scope.kind = .function
  co : scope.isCoroutine = false
  cell : ∀ y ∈ scope.names, y.2 ≠ .cell
  dot : scope.names.lookup (".0" : Str) = some NameKind.local
  free : ∀ y ∈ scope.names, y.2 = .free → sc.names.lookup y.1 = some .cell ∨ sc.names.lookup y.1 = some .free
  loc : ∀ y ∈ scope.names, y.2 = .local → y.1 ∈ own.map (·.1) ∨ y.1 ∉ N
  ix : ∀ p ∈ own, N[p.2]? = some p.1
def gxB (N : List Str) (sc scope : Scope) (own : List (Str × Nat)) : Bool :=
  decide (scope.kind = .function) && (!scope.isCoroutine && (decide (scope.names.lookup (".0" : Str) = some NameKind.local) && ((scope.names.all fun y => !decide (y.2 = .cell) && ((!decide (y.2 = .free) || (decide (sc.names.lookup y.1 = some .cell) || decide (sc.names.lookup y.1 = some .free))) &&
    (!decide (y.2 = .local) || (decide (y.1 ∈ own.map (·.1)) || decide (y.1 ∉ N))))) && own.all fun p => decide (N[p.2]? = some p.1))))
theorem gx_by {N : List Str} {sc scope : Scope} {own : List (Str × Nat)} (h : gxB N sc scope own = true) : GxS N sc scope own := by
  unfold gxB at h
  simp only [Bool.and_eq_true, Bool.or_eq_true, Bool.not_eq_true', decide_eq_true_eq, decide_eq_false_iff_not, List.all_eq_true] at h
  obtain ⟨h1, h2, h3, h4, h5⟩ := h
  refine ⟨h1, h2, fun y hy => (h4 y hy).1, h3, fun y hy e => ?_, fun y hy e => ?_, h5⟩
  · rcases (h4 y hy).2.1 with z | z
    · exact absurd e z
    · exact z
  · rcases (h4 y hy).2.2 with z | z
    · exact absurd e z
    · exact z
theorem over_gx {A : Around} {elt : Expr} {gs : List Comprehension} {scope : Scope} {pos : Pos} {it acc : Value} {env : Env} : A.over (.compLoop (.GeneratorExp elt gs scope pos) 0 it acc env) [] = A.deeper env := by
  first
    | rfl
    | (obtain ⟨hd, d, fr, gs, u⟩ := A; simp [Around.over, Around.deeper, marksOver, frameCount, unitsOf, envsOf, guardsOf, pushEnvs, pushGuards, Code.envs, Code.env?, Code.isFrame, Code.guards, Code.isGuard, Code.weight, Code.frames, Code.isCreation, Code.cUnits])
theorem over_gx0 {A : Around} {elt : Expr} {gs : List Comprehension} {scope : Scope} {pos : Pos} {it acc : Value} {env : Env} : A.over (.compStart (.GeneratorExp elt gs scope pos) 0 it acc env) [] = A.deeper env := by
  first
    | rfl
    | (obtain ⟨hd, d, fr, gs, u⟩ := A; simp [Around.over, Around.deeper, marksOver, frameCount, unitsOf, envsOf, guardsOf, pushEnvs, pushGuards, Code.envs, Code.env?, Code.isFrame, Code.guards, Code.isGuard, Code.weight, Code.frames, Code.isCreation, Code.cUnits])
section
variable {X : Cx} {pins : List (Addr × Obj)} {σ : L2.St} {H : Hp} {s s2 : Shared}
/-- the block at its start -/
theorem gen_inv {A : Around} {scope : Scope} {own : List (Str × Nat)} {fp : List Addr} {code : Value} {m : Str → Option Value} {pn : List (Addr × Obj)} (I : Inv X pins σ H s) (ok : GxS X.N X.env.scope scope own) (hN : X.N.Nodup) (hA : A.handled = none) (hfr : A.frames = some X.stack)
    (hfp : ∀ b ∈ fp, FpOk X pins H b ∧ b < s.heap.objs.size) (kp : ∀ b o, s.heap.get? b = some o → s2.heap.get? b = some o) (hns : s2.heap.Ns s.heap.objs.size m) (hos : s2.os = s.os) (hb : AllBare s2.gens)
    (hpn : ∀ p ∈ pn, s2.heap.get? p.1 = some p.2 ∧ H p.1 = none ∧ p.1 ≠ s.heap.objs.size ∧ p.1 ∉ frs X.stack ∧ ∀ v, p.2.data ≠ .cell v) :
    Inv (gCx X A s H (genEnv scope (cloFrom X.env.cells scope.names []) s.heap.objs.size code builtinsNs X.env) fp pn) [] (wipe σ (own.map (·.2))) H s2 := by
  have hfree : ∀ y ∈ scope.names, y.2 = .free → ∃ c, X.env.cells.lookup y.1 = some c := fun y hy e => by
    rcases ok.free y hy e with k | k
    · exact I.ok.has _ (.inl k)
    · exact I.ok.has _ (.inr k)
  have cm : ∀ {y c}, (cloFrom X.env.cells scope.names []).lookup y = some c → X.env.cells.lookup y = some c := fun {y c} e => by
    rcases cloFrom_mem (PySem.mem_of_lookup e) with hm | ⟨h1, h2⟩
    · cases hm
    · obtain ⟨c1, hc⟩ := hfree _ h1 rfl
      have hc : X.env.cells.lookup y = some c1 := hc
      have h2 : c = (X.env.cells.lookup y).getD 0 := h2
      rw [hc] at h2
      rw [hc, h2] <;> rfl
  have look : ∀ {y}, scope.names.lookup y = some .free → ∃ c, (cloFrom X.env.cells scope.names []).lookup y = some c := fun {y} hl => mem_lookup (cloFrom_has (cells := X.env.cells) (acc := []) (PySem.mem_of_lookup hl))
  have noPn : ∀ {b}, b ∈ fp → b ≠ s.heap.objs.size := fun {b} hb => Nat.ne_of_lt (hfp b hb).2
  refine ⟨⟨I.ok.mod, ok.kind, I.ok.glob, rfl, Nat.le_refl _, fun y z c e1 e2 => I.ok.inj y z c (cm e1) (cm e2), fun y hy => ?_, fun y c z _ => ?_, fun _ => hA, Around.frames_deeper hfr, .inr ⟨rfl, rfl⟩, fun b hb => ⟨noPn hb, fun y c e z => (hfp b hb).1.2.2.2.2.1 y c (cm e) z⟩, I.bs, Nat.le_trans I.ok.bsz I.sz, fun b o e hb => ?_, fun b hb z => ?_, I.stack, I.stkFree⟩,
    hos, hb, Un.kept kp, ⟨_, hns, fun i y v e1 e2 e3 => ?_⟩, fun y c e => ?_, I.hok.fresh (Nat.le_refl _), fun y c e => I.freeC y c (cm e), fun p hp => (List.mem_append.mp hp).elim (fun z => hpn p z) (fun z => by cases z), I.hok.kept kp, by rw [wipe_length]; exact I.len⟩
  · have hy : scope.names.lookup y = some .cell ∨ scope.names.lookup y = some .free := hy
    rcases hy with hy | hy
    · exact absurd rfl (ok.cell _ (PySem.mem_of_lookup hy))
    · exact look hy
  · have z : false = true := z
    cases z
  · rcases (hfp b hb).1.2.2.2.1 with z | z
    · exact I.ok.noex b o e z
    · exact absurd (Nat.lt_of_lt_of_le (Heap.lt_size e) (Nat.le_trans I.ok.bsz z)) (Nat.lt_irrefl _)
  · rcases List.mem_cons.mp (I.stkSub b z) with z | z
    · exact (hfp b hb).1.2.1 z
    · exact (hfp b hb).1.2.2.1 z
  · obtain ⟨e2, hne⟩ := wipe_some e2
    have e3 : Vis scope y := e3
    rcases e3 with k | k | k
    · rcases ok.loc _ (PySem.mem_of_lookup k) rfl with e' | e'
      · obtain ⟨p, hp, hpy⟩ := List.mem_map.mp e'
        have e4 := ok.ix p hp
        have hpy : p.1 = y := hpy
        rw [hpy] at e4
        exact absurd (List.mem_map.mpr ⟨p, hp, nodup_ix hN e4 e1⟩) hne
      · exact absurd (List.mem_of_getElem? e1) e'
    · exact absurd rfl (ok.cell _ (PySem.mem_of_lookup k))
    · obtain ⟨m, hn, hl⟩ := I.loc
      have hvis : Vis X.env.scope y := (ok.free _ (PySem.mem_of_lookup k) rfl).elim (fun k => .inr (.inl k)) (fun k => .inr (.inr k))
      obtain ⟨w', r, q⟩ := hl i y v e1 e2 hvis
      obtain ⟨c2, h2⟩ := look k
      refine ⟨w', r, .inr ⟨.inr k, c2, h2, ?_⟩⟩
      have c1 := cm h2
      rcases q with ⟨k', _⟩ | ⟨_, c3, e', z⟩
      · have k' : X.env.scope.names.lookup y = some .local := k'
        rcases ok.free _ (PySem.mem_of_lookup k) rfl with k2 | k2 <;> rw [show X.env.scope.names.lookup y = _ from k2] at k' <;> cases k'
      · rw [c1] at e'
        cases e'
        exact z.keeps kp
  · obtain ⟨w', z⟩ := I.cell y c (cm e)
    exact ⟨w', z.keeps kp⟩
end
end GX

namespace GX
open PySem PySem.Spec PyProof.Rows L2 GenW
theorem seg_bx {M : Model} {A : Around} {R : GenEnd} {Y : Protocol} {n : Nat} {s₀ : Shared} {elt : Expr} {gs : List Comprehension} {scope : Scope} {pos : Pos} {it acc : Value} {env : Env} {s : Shared} {α β : Type} {m : Sem α} {K : α → Sem β} {K' : β → Sem PySem.Fin} {H' : Value → Sem PySem.Fin} {gd lv} {Q : α → Shared → Prop}
    (h : wpAny M (A.deeper env) m Q (fun _ _ => False) s) (hQ : ∀ a s', Q a s' → Seg M A R Y n s₀ (.compLoop (.GeneratorExp elt gs scope pos) 0 it acc env) ((K a).wrap K' H' gd lv) [] s') :
    Seg M A R Y n s₀ (.compLoop (.GeneratorExp elt gs scope pos) 0 it acc env) ((m >>= K).wrap K' H' gd lv) [] s := by
  refine seg_bind_wrap ?_
  rw [over_gx]
  exact wpAny_mono h hQ fun _ _ z => z.elim
theorem seg_wx {M : Model} {A : Around} {R : GenEnd} {Y : Protocol} {n : Nat} {s₀ : Shared} {elt : Expr} {gs : List Comprehension} {scope : Scope} {pos : Pos} {it acc : Value} {env : Env} {s : Shared} {α : Type} {m : Sem α} {K' : α → Sem PySem.Fin} {H' : Value → Sem PySem.Fin} {gd lv} {Q : α → Shared → Prop}
    (h : wpAny M (A.deeper env) m Q (fun _ _ => False) s) (hQ : ∀ a s', Q a s' → Seg M A R Y n s₀ (.compLoop (.GeneratorExp elt gs scope pos) 0 it acc env) (K' a) [] s') :
    Seg M A R Y n s₀ (.compLoop (.GeneratorExp elt gs scope pos) 0 it acc env) (m.wrap K' H' gd lv) [] s := by
  refine seg_wrap ?_
  rw [over_gx]
  exact wpAny_mono h hQ fun _ _ z => z.elim
/-- what a consumer wants of the block's walk -/
structure Eats (Z : Cx) (fp : List Addr) (J : It) (σ : L2.St) (vs : List Nat) (g : TG) (tt : TT) (te : TE) (W : Nat → Nat → List V → Hp → Prop) (K : List (Addr × Obj) → List V → Prop) (JN : Nat → Nat → List V → Prop) (QE : List V → Hp → Prop) (YC : Nat → Nat → List V → V → Hp → Prop) (RE : GenEnd) (YP : Protocol) : Prop where
  apart : ∀ ip ys, K ip ys → ∀ p ∈ ip, p.1 ∉ fp
  fin : ∀ n m s₀ ys ip H' s', JN n m ys → K ip ys → Inv Z ip σ H' s' → QE ys H' → RE n s₀ (.ok .next) s'
  pos : ∀ n m i ys y H', JN n m ys → YC i m ys y H' → ∃ n', n = n' + 1
  less : ∀ n m m' ys, m' < m → JN n m ys → JN n m' ys
  give : ∀ n m i s₀ ys ip σ' H' s' y v kap, JN (n + 1) m ys → K ip ys → Inv Z ip σ' H' s' → RelV y v → YC i m ys y H' →
    (∀ ip2 m' s2, m' < m → W (i + 1) m' (ys ++ [y]) H' → JN n m' (ys ++ [y]) → K ip2 (ys ++ [y]) → Inv Z ip2 σ' H' s2 → (∀ b ∈ fp, ∀ o, s'.heap.get? b = some o → s2.heap.get? b = some o) → kap (.send .none) s2) → YP n s₀ v s' kap
  turn : ∀ i m ys H, W i m ys H → (J.stop i H ∧ QE ys H) ∨ (J.go i H ∧ ∀ x H', J.yld i H x H' → g x σ H' fun σ2 H2 => wipe σ2 vs = σ ∧ tt σ2 H2 fun b H3 => if b = true then te σ2 H3 fun y H4 => YC i m ys y H4 else ∃ m', m' < m ∧ W (i + 1) m' ys H3)
section
variable {X : Cx} {A : Around} {s4 : Shared} {H4 : Hp} {cenv : Env} {fp : List Addr} {pn : List (Addr × Obj)} {J : It} {σ : L2.St} {vs : List Nat} {g : TG} {tt : TT} {te : TE} {W : Nat → Nat → List V → Hp → Prop} {K : List (Addr × Obj) → List V → Prop} {JN : Nat → Nat → List V → Prop} {QE : List V → Hp → Prop} {YC : Nat → Nat → List V → V → Hp → Prop} {RE : GenEnd} {YP : Protocol} {it : Addr} {tn : Nat → Heap → Prop}
  {elt tg iter : Expr} {ifs : List Expr} {scope : Scope} {pos : Pos}
theorem seg_gx (C : Eats (gCx X A s4 H4 cenv fp pn) fp J σ vs g tt te W K JN QE YC RE YP) (T : Turn X.prog X.w X.K tg J fp it tn) (hg : PG (gCx X A s4 H4 cenv fp pn) tg g) (ht : PTs (gCx X A s4 H4 cenv fp pn) ifs tt) (he : PE (gCx X A s4 H4 cenv fp pn) elt te)
    (hco : cenv.scope.isCoroutine = false) (hpn : ∀ p ∈ pn, p.1 ∉ fp) :
    ∀ (m n i : Nat) (ys : List V) (s₀ s : Shared) (H : Hp) (ip : List (Addr × Obj)), JN n m ys → W i m ys H → K ip ys → Inv (gCx X A s4 H4 cenv fp pn) ip σ H s → tn i s.heap → (∀ b ∈ fp, H b = none) →
      Seg (model X.prog X.w) A RE YP n s₀ (.compLoop (.GeneratorExp elt [⟨tg, iter, ifs, 0⟩] scope pos) 0 (.ref it) .none cenv) ((model X.prog X.w).den (.compLoop (.GeneratorExp elt [⟨tg, iter, ifs, 0⟩] scope pos) 0 (.ref it) .none cenv)) [] s := by
  intro m
  induction m using Nat.strongRecOn with
  | ind m ih =>
    intro n i ys s₀ s H ip hJ hW hK I hst hn
    have stat : ∀ {σ' : L2.St} {H' : Hp} {s' : Shared}, Inv (gCx X A s4 H4 cenv fp pn) ip σ' H' s' → (∀ b ∈ fp, H' b = none) → ∀ b ∈ fp, FpOk (gCx X A s4 H4 cenv fp pn) ip H' b := fun {σ' H' s'} I' hn b hb =>
      ⟨hn b hb, (I'.ok.exf b hb).1, I'.ok.exfs b hb, .inl hb, fun x c e => (I'.ok.exf b hb).2 x c e, fun p hp e => (List.mem_append.mp hp).elim (fun z => hpn p z (by rw [e]; exact hb)) (fun z => C.apart ip ys hK p z (by rw [e]; exact hb))⟩
    show Seg _ A _ _ _ s₀ _ ((compTurn (.GeneratorExp elt [⟨tg, iter, ifs, 0⟩] scope pos) 0 (.ref it) .none cenv).onRaise (leaving cenv)) [] s
    rw [compTurn_gen, Sem.onRaise_eq_wrap]
    refine seg_bind_wrap (wpAny_standAt ?_)
    rcases C.turn i m ys H hW with ⟨stop, qq⟩ | ⟨go, step⟩
    · refine seg_bx (T.done (gCx X A s4 H4 cenv fp pn) rfl rfl rfl rfl i ip s σ H (fun _ _ => False) I (stat I hn) hst stop) fun r s1 ⟨hr, I1⟩ => ?_
      subst hr
      exact seg_end (.ok .next) (C.fin n m s₀ ys ip H s1 hJ hK I1 qq)
    · refine seg_bx (T.item (gCx X A s4 H4 cenv fp pn) rfl rfl rfl rfl i ip s σ H (fun _ _ => False) I (stat I hn) hst go) fun r s1 ⟨u, hr, h1⟩ => ?_
      subst hr
      refine seg_bx h1 fun _ s2 ⟨x, H2, I2, r2, y2, st2, n2⟩ => ?_
      have I2' := I2.pinned (stat I2 n2) (T.obj _ _ st2)
      refine seg_bx (hg.run _ s2 _ H2 x u _ I2' r2 (step x H2 y2)) fun _ s3 ⟨σ3, H3, I3, hw3, q3⟩ => ?_
      refine seg_bx (ht.run _ s3 σ3 H3 _ I3 q3) fun b s5 ⟨H5, I5, q5⟩ => ?_
      have pin' : ∀ {s' : Shared} {H' : Hp}, Inv (gCx X A s4 H4 cenv fp pn) (ip ++ pinsAt fp s2.heap) σ3 H' s' → tn (i + 1) s'.heap ∧ (∀ b ∈ fp, H' b = none) := fun {s' H'} I' => by
        have q : ∀ b ∈ fp, ∀ o, s2.heap.get? b = some o → s'.heap.get? b = some o ∧ H' b = none := fun b hb o e =>
          let z := I'.pin (b, o) (List.mem_append_right _ (List.mem_append_right _ (mem_pinsAt hb e)))
          ⟨z.1, z.2.1⟩
        refine ⟨T.keep _ _ _ st2 fun b hb o e => (q b hb o e).1, fun b hb => ?_⟩
        obtain ⟨o, e, _⟩ := T.obj _ _ st2 b hb
        exact (q b hb o e).2
      have wk : ∀ {ip' : List (Addr × Obj)} {s' : Shared} {H' : Hp}, Inv (gCx X A s4 H4 cenv fp pn) ip' σ3 H' s' → Inv (gCx X A s4 H4 cenv fp pn) ip' σ H' s' := fun {ip' s' H'} I' => by
        have hl : σ.length = σ3.length := by rw [← hw3, wipe_length]
        refine I'.weak hl fun j v e => ?_
        rw [← hw3] at e
        exact (wipe_some e).1
      cases b with
      | false =>
        simp only [Bool.false_eq_true, if_false] at q5 ⊢
        obtain ⟨m', hm, w'⟩ := q5
        obtain ⟨p1, p2⟩ := pin' I5
        exact seg_again rfl (ih m' hm n (i + 1) ys s₀ s5 H5 ip (C.less n m m' ys hm hJ) w' hK (wk I5.unpinned) p1 p2)
      | true =>
        simp only [if_true] at q5 ⊢
        have hy : ∀ v, yieldOut cenv v = yieldValue v := fun v => by simp only [yieldOut, hco, Bool.false_eq_true, if_false]
        simp only [hy]
        rw [Sem.bind_eq_wrap', Sem.bind_eq_wrap', Sem.wrap_wrap, Sem.wrap_wrap]
        refine seg_wx (he.run _ s5 σ3 H5 _ I5 q5) fun z s6 ⟨yv, H6, I6, r6, y6⟩ => ?_
        obtain ⟨n', rfl⟩ := C.pos n m i ys yv H6 hJ y6
        obtain ⟨p1, p2⟩ := pin' I6
        refine seg_at (seg_yield rfl rfl rfl (C.give n' m i s₀ ys ip σ3 H6 s6 yv z _ hJ hK I6.unpinned r6 y6 fun ip2 m' s7 hm w' hj hk I7 hkeep => ?_))
        exact seg_again rfl (ih m' hm n' (i + 1) (ys ++ [yv]) s7 s7 H6 ip2 hj w' hk (wk I7) (T.keep _ _ _ p1 hkeep) p2)
theorem seg_gx0 (C : Eats (gCx X A s4 H4 cenv fp pn) fp J σ vs g tt te W K JN QE YC RE YP) (T : Turn X.prog X.w X.K tg J fp it tn) (hg : PG (gCx X A s4 H4 cenv fp pn) tg g) (ht : PTs (gCx X A s4 H4 cenv fp pn) ifs tt) (he : PE (gCx X A s4 H4 cenv fp pn) elt te)
    (hco : cenv.scope.isCoroutine = false) (hpn : ∀ p ∈ pn, p.1 ∉ fp)
    (m n : Nat) (s₀ s : Shared) (H : Hp) (ip : List (Addr × Obj)) (hJ : JN n m []) (hW : W 0 m [] H) (hK : K ip []) (I : Inv (gCx X A s4 H4 cenv fp pn) ip σ H s) (hst : tn 0 s.heap) (hn : ∀ b ∈ fp, H b = none) :
      Seg (model X.prog X.w) A RE YP n s₀ (.compStart (.GeneratorExp elt [⟨tg, iter, ifs, 0⟩] scope pos) 0 (.ref it) .none cenv) ((model X.prog X.w).den (.compStart (.GeneratorExp elt [⟨tg, iter, ifs, 0⟩] scope pos) 0 (.ref it) .none cenv)) [] s := by
  have loop := seg_gx (iter := iter) (scope := scope) (pos := pos) C T hg ht he hco hpn m n 0 [] s₀ s H ip hJ hW hK I hst hn
  show Seg _ A _ _ _ s₀ _ ((compStart (.GeneratorExp elt [⟨tg, iter, ifs, 0⟩] scope pos) 0 (.ref it) .none cenv).onRaise (leaving cenv)) [] s
  unfold compStart
  rw [Sem.onRaise_eq_wrap]
  show Seg _ A _ _ _ s₀ _ ((ask >>= _).wrap _ _ _ _) [] s
  refine seg_bind_wrap (wpAny_askSetting ?_)
  split
  · exact seg_again rfl loop
  · first
      | exact seg_bind_wrap (wpAny_rule (seg_bind_wrap (wpAny_standAt (seg_bind_wrap (T.self _ 0 s _ _ hst (seg_again rfl loop))))))
      | (refine seg_bind_wrap (wpAny_rule ?_); show Seg _ A _ _ _ s₀ _ ((standAt iter.pos >>= _).wrap _ _ _ _) [] s; exact seg_bind_wrap (wpAny_standAt (seg_bind_wrap (T.self _ 0 s _ _ hst (seg_again rfl loop)))))
end
end GX

namespace GX
open PySem PySem.Spec PyProof.Rows L2 GenW
section
variable {X : Cx} {pins : List (Addr × Obj)} {σ : L2.St} {H : Hp} {s : Shared}
/-- the block's code object stands in the def's table: found there, or new -/
theorem gen_code {T : List (Addr × Str)} {c P : Addr} {q : Str} {scope : Scope} {pos : Pos} {A : Around} {E : Value → Shared → Prop} {Q : Value → Shared → Prop} (I : Inv X pins σ H s) (TB : LamX.TabB X.base X.mg c P) (hcode : X.env.code = .ref c)
    (hm : (P, q) ∈ T) (hu : ∀ p ∈ T, p.1 = P → p.2 = q) (hT : LamX.Tabs T H)
    (h : ∀ (code : Value) (H1 : Hp) (s' : Shared), Inv X pins σ H1 s' → LamX.ExtN H H1 → LamX.Tabs T H1 → (∀ b o, H b = none → s.heap.get? b = some o → s'.heap.get? b = some o ∧ H1 b = none) → s.heap.objs.size ≤ s'.heap.objs.size → Q code s') :
    wpAny (model X.prog X.w) A (genexprCode X.env pos q scope) Q E s := by
  obtain ⟨ps, hP, ht, ha⟩ := hT _ hm
  have hP' : s.heap.get? P = some { cls := .none, data := .fields ps } := I.hok P _ hP
  have cd : PySem.W.CodeHd s.heap c P := TB.code.keeps I.bk
  cases hf : codeAmong pos ps.toList with
  | none =>
    refine wpAny_genexprCodeX hcode (cd.code hP' ht) (cd.tab hP') hf fun c' h' tk hx hge hlt hco' hrec htab' _ => ?_
    obtain ⟨c2, oc, vs, t, e2, hoc, hd, hv⟩ := hrec
    cases e2
    have nC : H c' = none := I.hok.fresh hge
    have I1 := LamX.inv_table (t' := tk) (q := q) (more := #[rawInt pos.line, rawInt pos.col, .ref c']) (h' := h') I hP (fun b o hb e => hx b o hb e) htab'.2 hge ⟨oc, vs, t, hoc, hd, hv⟩
    have hE : LamX.ExtN H (upd (upd H P (.tbl (ps ++ #[rawInt pos.line, rawInt pos.col, .ref c']))) c' (LamX.CodeO c' q)) := fun b o e n => by
      rw [upd_ne (ne_of_none e nC), upd_ne (fun z => n ps (Option.some.inj (e.symm.trans (by rw [z]; exact hP))))]
      exact e
    have eL : (ps ++ #[rawInt pos.line, rawInt pos.col, .ref c']).toList = ps.toList ++ [rawInt pos.line, rawInt pos.col, .ref c'] := by simp
    refine h (.ref c') _ _ I1 hE (fun p hp => ?_) (fun b o n e => ?_) (Nat.le_trans hge (Nat.le_of_lt hlt))
    · by_cases hb : p.1 = P
      · rw [hu p hp hb, hb]
        refine ⟨_, by rw [upd_ne (ne_of_none hP nC), upd_same], by rw [eL]; exact PySem.TriplesOk_snoc _ _ _ _ ht, fun p' cv hcv => ?_⟩
        rw [eL] at hcv
        rcases LamX.among_app _ ht hcv with z | z
        · obtain ⟨c0, e1, e2⟩ := ha p' cv z
          exact ⟨c0, e1, hE _ _ e2 LamX.codeO_ne⟩
        · exact ⟨c', z, upd_same⟩
      · obtain ⟨ps', a1, a2, a3⟩ := hT p hp
        refine ⟨ps', by rw [upd_ne (ne_of_none a1 nC), upd_ne hb]; exact a1, a2, fun p' cv hcv => ?_⟩
        obtain ⟨c0, e1, e2⟩ := a3 p' cv hcv
        exact ⟨c0, e1, hE _ _ e2 LamX.codeO_ne⟩
    · have n1 : b ≠ P := fun z => by rw [z, hP] at n; cases n
      have n2 : b ≠ c' := Nat.ne_of_lt (Nat.lt_of_lt_of_le (Heap.lt_size e) hge)
      exact ⟨hx b o n1 e, by rw [upd_ne n2, upd_ne n1]; exact n⟩
  | some cv =>
    refine wpAny_genexprCode_hit hcode (cd.code hP' ht) hf ?_
    exact h cv H s I (LamX.ExtN.refl H) hT (fun b o n e => ⟨e, n⟩) (Nat.le_refl _)
/-- the generator object -/
def genObj (g : Nat) (q : Str) (t1 t2 : Tok) : Obj := { cls := .type "generator", data := .fields #[.int g 0, .str "<genexpr>" t1, .str q t2] }
theorem genObj_at {g : Nat} {q : Str} {t1 t2 : Tok} {h : Heap} {a : Addr} (e : h.get? a = some (genObj g q t1 t2)) : h.IsGen a g := ⟨_, _, _, e, rfl, rfl, rfl⟩
/-- a generator has been made: it has not begun -/
structure Made (X : Cx) (pins : List (Addr × Obj)) (σ : L2.St) (elt tg iter : Expr) (ifs : List Expr) (scope : Scope) (pos : Pos) (s4 : Shared) (H4 : Hp) (code : Value) (J : It) (fp : List Addr) (it : Addr) (tn : Nat → Heap → Prop) (a : Addr) (t1 t2 : Tok) (s5 : Shared) : Prop where
  inv : Inv X pins σ H4 s4
  turn : Turn X.prog X.w X.K tg J fp it tn
  st : tn 0 s4.heap
  fp : ∀ b ∈ fp, FpOk X pins H4 b ∧ b < s4.heap.objs.size
  ns : ∃ m, s5.heap.Ns s4.heap.objs.size m
  keep : ∀ b o, s4.heap.get? b = some o → s5.heap.get? b = some o
  lt : s4.heap.objs.size < a
  lt' : a < s5.heap.objs.size
  obj : s5.heap.get? a = some (genObj s4.gens.size (X.env.qual ++ "<genexpr>") t1 t2)
  gens : s5.gens = s4.gens.push (.fresh (.compStart (.GeneratorExp elt [⟨tg, iter, ifs, 0⟩] scope pos) 0 (.ref it) .none (genEnv scope (cloFrom X.env.cells scope.names []) s4.heap.objs.size code builtinsNs X.env)))
  os : s5.os = s4.os
theorem gen_make {T : List (Addr × Str)} {c P : Addr} {elt tg iter : Expr} {ifs : List Expr} {scope : Scope} {pos : Pos} {own : List (Str × Nat)} {wi : TI} {RR : It → Hp → Prop} {Q : Value → Shared → Prop} (hd : X.A.depth < recursionLimit) (TB : LamX.TabB X.base X.mg c P) (hcode : X.env.code = .ref c)
    (hm : (P, X.env.qual ++ "<genexpr>") ∈ T) (hu : ∀ p ∈ T, p.1 = P → p.2 = X.env.qual ++ "<genexpr>") (ok : GxS X.N X.env.scope scope own) (hi : PI X tg iter wi) (hs : ∀ v, genFold iter X.env v = pure v) (I : Inv X pins σ H s)
    (h : wi σ H fun J H1 => LamX.Tabs T H1 ∧ ∀ H2, LamX.ExtN H1 H2 → LamX.Tabs T H2 → RR J H2)
    (hQ : ∀ s4 H4 code J fp it tn a t1 t2 s5, Made X pins σ elt tg iter ifs scope pos s4 H4 code J fp it tn a t1 t2 s5 → RR J H4 → Q (.ref a) s5) :
    wpAny (model X.prog X.w) X.A (eval (.GeneratorExp elt [⟨tg, iter, ifs, 0⟩] scope pos) X.env) Q X.xe s := by
  have hfree : ∀ y ∈ scope.names, y.2 = .free → ∃ c, X.env.cells.lookup y.1 = some c := fun y hy e => by
    rcases ok.free y hy e with k | k
    · exact I.ok.has _ (.inl k)
    · exact I.ok.has _ (.inr k)
  refine wpAny_GeneratorExp_make ok.co (closure_ok hfree) ok.cell ok.dot ok.kind hd (thn (hi.run pins s σ H _ I h) fun xv s1 hx => thn hx fun itv s2 h2 => ?_) hs
  obtain ⟨it, fp, tn, J, H2, e, I2, T2, st2, f2, hT, hR⟩ := h2
  subst e
  refine ⟨I2.nolimit, gen_code I2 TB hcode hm hu hT fun code H3 s3 I3 hE hT3 hk hsz => ?_⟩
  obtain ⟨bm, ob, e1, e2, e3, e4, e5, e6, e7, e8⟩ := TB.bm
  refine wpAny_builtinsFor (m := X.mg) (by rw [I3.ok.glob]; exact I3.mod.glob.keeps I3.bk) e1 e2 (I3.bk _ _ e5) e6 e7 e8 ?_
  intro h' hn' hs'
  have hsz' : h'.objs.size = s3.heap.objs.size + 1 := by rw [hs'.1, Heap.size_push]
  have keep' : ∀ b o, s3.heap.get? b = some o → h'.get? b = some o := fun b o e => hs'.extBut b o (Nat.ne_of_lt (Heap.lt_size e)) (Heap.get?_push_of_some _ e)
  refine hQ s3 H3 code J fp it tn h'.objs.size (s3.toks + 1) (s3.toks + 1 + 1) _ ⟨I3, T2, ?_, fun b hb => ?_, ⟨_, hn'.push _⟩, fun b o e => Heap.get?_push_of_some _ (keep' b o e), by omega, by show _ < (h'.push _).objs.size; rw [Heap.size_push]; omega, Heap.get?_push_size _ rfl, rfl, rfl⟩ (hR H3 hE hT3)
  · exact T2.keep _ _ _ st2 fun b hb o e => (hk b o (f2 b hb).1 e).1
  · obtain ⟨o, e, _⟩ := T2.obj _ _ st2 b hb
    exact ⟨⟨(hk b o (f2 b hb).1 e).2, (f2 b hb).2⟩, Nat.lt_of_lt_of_le (Heap.lt_size e) hsz⟩
/-- woken in A, at a heap that keeps all that stood when it was made -/
theorem Made.inv' {elt tg iter : Expr} {ifs : List Expr} {scope : Scope} {pos : Pos} {own : List (Str × Nat)} {s4 : Shared} {H4 : Hp} {code : Value} {J : It} {fp : List Addr} {it : Addr} {tn : Nat → Heap → Prop} {a : Addr} {t1 t2 : Tok} {s5 s6 : Shared} {A : Around}
    (M : Made X pins σ elt tg iter ifs scope pos s4 H4 code J fp it tn a t1 t2 s5) (ok : GxS X.N X.env.scope scope own) (hN : X.N.Nodup) (hA : A.handled = none) (hfr : A.frames = some X.stack) (kp : ∀ b o, s5.heap.get? b = some o → s6.heap.get? b = some o) (hos : s6.os = s5.os) (hb : AllBare s6.gens) :
    Inv (gCx X A s4 H4 (genEnv scope (cloFrom X.env.cells scope.names []) s4.heap.objs.size code builtinsNs X.env) fp [(a, genObj s4.gens.size (X.env.qual ++ "<genexpr>") t1 t2)]) [] (wipe σ (own.map (·.2))) H4 s6 := by
  obtain ⟨m, hns⟩ := M.ns
  refine gen_inv M.inv ok hN hA hfr M.fp (fun b o e => kp b o (M.keep b o e)) (hns.keeps kp) (hos.trans M.os) hb fun p hp => ?_
  rw [List.mem_singleton.mp hp]
  have hge : s4.heap.objs.size ≤ a := Nat.le_of_lt M.lt
  refine ⟨kp a _ M.obj, M.inv.hok.fresh hge, Nat.ne_of_gt M.lt, fun z => ?_, fun v q => by cases q⟩
  rcases List.mem_cons.mp (M.inv.stkSub _ z) with e | e
  · have h1 := M.inv.lt
    rw [← e] at h1
    exact Nat.lt_irrefl _ (Nat.lt_of_lt_of_le h1 hge)
  · exact M.inv.nofs hge e
end
end GX

namespace GX
open PySem PySem.Spec PyProof.Rows L2 GenW
section
variable {X : Cx} {pins : List (Addr × Obj)} {σ : L2.St} {H : Hp} {s : Shared}
/-- the heap at a place where the block sleeps or has ended -/
def Off (X : Cx) (fp : List Addr) (s4 : Shared) (H4 : Hp) (Q : Hp → Prop) (s' : Shared) : Prop := ∃ H', s'.os = s4.os ∧ AllBare s'.gens ∧ Un (frs X.stack) fp H4 H' s4.heap s'.heap ∧ HOk X.prog X.w H' s'.heap ∧ Q H'
theorem Off.back {elt tg iter : Expr} {ifs : List Expr} {scope : Scope} {pos : Pos} {s4 : Shared} {H4 : Hp} {code : Value} {J : It} {fp : List Addr} {it : Addr} {tn : Nat → Heap → Prop} {a : Addr} {t1 t2 : Tok} {s5 s' : Shared} {Q : Hp → Prop}
    (M : Made X pins σ elt tg iter ifs scope pos s4 H4 code J fp it tn a t1 t2 s5) (o : Off X fp s4 H4 Q s') : ∃ H', Inv X pins σ H' s' ∧ Q H' := by
  obtain ⟨H', h1, h2, h3, h4, h5⟩ := o
  exact ⟨H', M.inv.call' (ch := fp) h1 h3 h4 h2 fun b hb => let f := (M.fp b hb).1; ⟨f.2.2.2.1, f.2.1, f.2.2.2.2.1, f.2.2.2.2.2⟩, h5⟩
theorem Off.keeps {fp : List Addr} {s4 : Shared} {H4 : Hp} {Q : Hp → Prop} {s' s'' : Shared} (o : Off X fp s4 H4 Q s') (ho : s''.os = s'.os) (hb : AllBare s''.gens) (hk : ∀ b o, s'.heap.get? b = some o → s''.heap.get? b = some o) : Off X fp s4 H4 Q s'' := by
  obtain ⟨H', h1, h2, h3, h4, h5⟩ := o
  exact ⟨H', ho.trans h1, hb, h3.trans (Un.kept hk), h4.kept hk, h5⟩
def allE (X : Cx) (fp : List Addr) (s4 : Shared) (H4 : Hp) (QT : Hp → Prop) : GenEnd := fun n s₀ r s1 => ((r = .ok (.ret .none) ∨ r = .ok .next) ∧ Off X fp s4 H4 QT s1) ∨ ∃ e, r = .error e ∧ False
/-- an item is handed out: c says whether the consumer goes on -/
def allY (X : Cx) (fp : List Addr) (s4 : Shared) (H4 : Hp) (st : Bool) (a : Addr) (g : Nat) (QF : Hp → Prop) : Protocol := fun n s₀ v s1 kap =>
  s1.heap.IsGen a g ∧ s1.heap.NoLimit ∧ AllBare s1.gens ∧ ∃ c, v = .bool c ∧ (c = !st → ∀ s', s'.os = s1.os → AllBare s'.gens → (∀ b o, s1.heap.get? b = some o → s'.heap.get? b = some o) → kap (.send .none) s') ∧ (c = st → Off X fp s4 H4 QF s1)
/-- the loop of all -/
theorem all_loop {fp : List Addr} {s4 : Shared} {H4 : Hp} {QT QF : Hp → Prop} {a : Addr} {g : Nat} {A : Around} {R : Result → Shared → Prop} (hh : A.handled = none) (hd : A.depth < recursionLimit)
    (hT : ∀ s', Off X fp s4 H4 QT s' → R (.ok (.ret (.bool true))) s') (hF : ∀ s', Off X fp s4 H4 QF s' → R (.ok (.ret (.bool false))) s') :
    ∀ (n : Nat) (s : Shared), s.heap.IsGen a g → s.heap.NoLimit → AllBare s.gens → (∃ gs, s.gens[g]? = some gs ∧ gs.Goes (model X.prog X.w) A.in1.in1 (allE X fp s4 H4 QT) (allY X fp s4 H4 false a g QF) n (.send .none) (s.setGen g .running)) →
      codeAny (model X.prog X.w) A (.builtin "all.loop" ⟨[.ref a], []⟩) R s := by
  intro n
  induction n with
  | zero =>
    intro s hg hl hb ⟨gs, hgs, hgo⟩
    have hgl : g < s.gens.size := (Array.getElem?_eq_some_iff.mp hgs).1
    refine codeAny_builtin F.entry_all_loop ?_
    rw [Around.under_plainId F.plain_all_loop _]
    show wpAny _ A.in1 (pyNext (.ref a) >>= _) _ _ s
    refine wpAny_bind (wpAny_gsz (n := g + 1) hgl (next_genG (Er := fun _ _ => False) (F := fun _ _ s1 => Off X fp s4 H4 QT s1) (Y := allY X fp s4 H4 false a g QF) (A := A.in1) hh hl hd hg hgs hgo (fun v s₁ gs' hbare hv => ?_) (fun s₁ hp h' hk => ?_) fun e s₁ he => he.elim))
    · intro hsz
      obtain ⟨hg1, hl1, hb1, c, rfl, hc1, hc2⟩ := hv
      cases c with
      | true => exact (hc1 rfl s₁ rfl hb1 fun _ _ e => e).elim
      | false =>
        refine wpAny_bind (wpAny_holding (wpAny_truthy_bool ?_))
        refine wpAny_bind (wpAny_letGo ?_)
        simp only [Bool.false_eq_true, if_false]
        refine wpAny_bind (wpAny_rule (wpAny_pure ?_))
        exact hF _ ((hc2 rfl).keeps rfl (allBare_setGen hb1 hbare) fun _ _ e => e)
    · intro hsz
      refine wpAny_bind (wpAny_rule (wpAny_pure ?_))
      obtain ⟨H', z1, z2, z3⟩ := id hp
      exact hT _ (hp.keeps rfl (allBare_setGen z2 rfl) hk)
  | succ n ih =>
    intro s hg hl hb ⟨gs, hgs, hgo⟩
    have hgl : g < s.gens.size := (Array.getElem?_eq_some_iff.mp hgs).1
    refine codeAny_builtin F.entry_all_loop ?_
    rw [Around.under_plainId F.plain_all_loop _]
    show wpAny _ A.in1 (pyNext (.ref a) >>= _) _ _ s
    refine wpAny_bind (wpAny_gsz (n := g + 1) hgl (next_genG (Er := fun _ _ => False) (F := fun _ _ s1 => Off X fp s4 H4 QT s1) (Y := allY X fp s4 H4 false a g QF) (A := A.in1) hh hl hd hg hgs hgo (fun v s₁ gs' hbare hv => ?_) (fun s₁ hp h' hk => ?_) fun e s₁ he => he.elim))
    · intro hsz
      obtain ⟨hg1, hl1, hb1, c, rfl, hc1, hc2⟩ := hv
      have hsz1 : g < s₁.gens.size := by
        have q : (s₁.setGen g gs').gens.size = s₁.gens.size := setGen_size _ _ _
        have hsz' : g + 1 ≤ (s₁.setGen g gs').gens.size := hsz
        omega
      refine wpAny_bind (wpAny_holding (wpAny_truthy_bool ?_))
      refine wpAny_bind (wpAny_letGo ?_)
      cases c with
      | true =>
        simp only [if_true]
        refine wpAny_pure ⟨plainId_quiet F.plain_all_loop _, ih (s₁.setGen g gs') hg1 hl1 (allBare_setGen hb1 hbare) ⟨gs', setGen_at hsz1, ?_⟩⟩
        exact hc1 rfl _ rfl (allBare_setGen (s := s₁.setGen g gs') (allBare_setGen hb1 hbare) rfl) fun _ _ e => e
      | false =>
        simp only [Bool.false_eq_true, if_false]
        refine wpAny_bind (wpAny_rule (wpAny_pure ?_))
        exact hF _ ((hc2 rfl).keeps rfl (allBare_setGen hb1 hbare) fun _ _ e => e)
    · intro hsz
      refine wpAny_bind (wpAny_rule (wpAny_pure ?_))
      obtain ⟨H', z1, z2, z3⟩ := id hp
      exact hT _ (hp.keeps rfl (allBare_setGen z2 rfl) hk)
/-- all(elt for tg in iter if ..): W by the turn and a measure, Nx what a turn is to reach -/
def tAllG (T : List (Addr × Str)) (wi : TI) (g : TG) (tt : TT) (te : TE) (vs : List Nat) : TE := fun σ H Q => wi σ H fun J H1 => LamX.Tabs T H1 ∧ ∀ H2, LamX.ExtN H1 H2 → LamX.Tabs T H2 → ∃ W : Nat → Nat → Hp → Prop, (∃ m, W 0 m H2) ∧ ∀ i m H, W i m H →
  (J.stop i H ∧ Q (.bl true) H) ∨ (J.go i H ∧ ∀ x H', J.yld i H x H' → g x (wipe σ vs) H' fun σ2 H2 => wipe σ2 vs = wipe σ vs ∧ tt σ2 H2 fun b H3 =>
    if b = true then te σ2 H3 fun y H4 => ∃ c, y = .bl c ∧ (c = true → ∃ m', m' < m ∧ W (i + 1) m' H4) ∧ (c = false → Q (.bl false) H4) else ∃ m', m' < m ∧ W (i + 1) m' H3)
theorem pe_allG {k : Nat} {T : List (Addr × Str)} {c P : Addr} {elt tg iter : Expr} {ifs : List Expr} {scope : Scope} {gpos pos p : Pos} {own : List (Str × Nat)} {wi : TI} {g : TG} {tt : TT} {te : TE} (hr : Room (k + 2) X.A) (hgl : Gl X "all") (hmg : X.mg "all" = none) (TB : LamX.TabB X.base X.mg c P) (hcode : X.env.code = .ref c)
    (hm : (P, X.env.qual ++ "<genexpr>") ∈ T) (hu : ∀ p ∈ T, p.1 = P → p.2 = X.env.qual ++ "<genexpr>") (ok : GxS X.N X.env.scope scope own) (hN : X.N.Nodup) (hi : PI X tg iter wi) (hs : ∀ v, genFold iter X.env v = pure v)
    (hg : ∀ (A : Around) (s : Shared) (H : Hp) (C : Addr) (cl : List (Str × Addr)) (code : Value) (fp : List Addr) (pn : List (Addr × Obj)), PG (gCx X A s H (genEnv scope cl C code builtinsNs X.env) fp pn) tg g)
    (ht : ∀ (A : Around) (s : Shared) (H : Hp) (C : Addr) (cl : List (Str × Addr)) (code : Value) (fp : List Addr) (pn : List (Addr × Obj)), Room k (A.deeper (genEnv scope cl C code builtinsNs X.env)) → PTs (gCx X A s H (genEnv scope cl C code builtinsNs X.env) fp pn) ifs tt)
    (he : ∀ (A : Around) (s : Shared) (H : Hp) (C : Addr) (cl : List (Str × Addr)) (code : Value) (fp : List Addr) (pn : List (Addr × Obj)), Room k (A.deeper (genEnv scope cl C code builtinsNs X.env)) → PE (gCx X A s H (genEnv scope cl C code builtinsNs X.env) fp pn) elt te)
    (hb : bootBuiltins "all" = some (.builtin "all") := by rfl)
    (hst : starEach [.GeneratorExp elt [⟨tg, iter, ifs, 0⟩] scope gpos] X.env = (false, eval (.GeneratorExp elt [⟨tg, iter, ifs, 0⟩] scope gpos) X.env) :: starEach [] X.env := by rfl) :
    PE X (.Call (.Name "all" p) [.GeneratorExp elt [⟨tg, iter, ifs, 0⟩] scope gpos] [] pos) (tAllG T wi g tt te (own.map (·.2))) := by
  refine ⟨fun pins s σ H Q I h => ?_⟩
  refine wpAny_Call_Name_kw (ld_blt I hgl hmg hb ?_)
  refine PyProof.Rows.callWith_builtin1 ?_ hst (by rfl)
  rw [hst]
  show wpAny _ _ (spliced ((false, eval (.GeneratorExp elt [⟨tg, iter, ifs, 0⟩] scope gpos) X.env) :: backTo pos (starEach [] X.env))) _ _ s
  refine Calls.spliced_cons (gen_make (by have := hr.dp; omega) TB hcode hm hu ok hi hs I h fun s4 H4 code J fp it tn a t1 t2 s5 M ⟨W, ⟨m0, w0⟩, turn⟩ => ?_)
  refine Calls.spliced_nil ?_
  refine call_function_tree F.kind_all F.plain_all F.entry_all (F.args_all1 _) ?_
  unfold Builtin.«all»
  refine wpAny_bind (m := oneArg "all" _) (wpAny_pure ?_)
  have hgen : s5.heap.IsGen a s4.gens.size := genObj_at M.obj
  have hb5 : AllBare s5.gens := by rw [M.gens]; exact M.inv.bare.push rfl
  have hl5 : s5.heap.NoLimit := M.inv.nolimit.keeps M.keep
  refine wpAny_bind (wpAny_pyIter_gen hgen ?_)
  have hra : Room (k + 1) X.A.in1.in1 := ⟨hr.hd, by have := hr.dp; show X.A.depth + 3 * (k + 1) + 5 < _; omega, by have := hr.un; show X.A.units + 1 + 1 + 16 * (k + 1) + 200 < _; omega⟩
  generalize hce : genEnv scope (cloFrom X.env.cells scope.names []) s4.heap.objs.size code builtinsNs X.env = ce
  have cs : ce.scope = scope := by rw [← hce]; rfl
  have E : Eats (gCx X X.A.in1.in1 s4 H4 ce fp [(a, genObj s4.gens.size (X.env.qual ++ "<genexpr>") t1 t2)]) fp J (wipe σ (own.map (·.2))) (own.map (·.2)) g tt te (fun i m _ H => W i m H) (fun ip _ => ip = []) (fun n m _ => m < n) (fun _ H => Q (.bl true) H)
      (fun i m _ y H => ∃ c, y = .bl c ∧ (c = true → ∃ m', m' < m ∧ W (i + 1) m' H) ∧ (c = false → Q (.bl false) H)) (allE X fp s4 H4 fun H => Q (.bl true) H) (allY X fp s4 H4 false a s4.gens.size fun H => Q (.bl false) H) := by
    have off : ∀ {ip : List (Addr × Obj)} {σ' : L2.St} {H' : Hp} {s' : Shared} {R : Hp → Prop}, Inv (gCx X X.A.in1.in1 s4 H4 ce fp [(a, genObj s4.gens.size (X.env.qual ++ "<genexpr>") t1 t2)]) ip σ' H' s' → R H' → Off X fp s4 H4 R s' := fun I' r => ⟨_, I'.os, I'.bare, I'.base, I'.hok, r⟩
    refine ⟨fun ip ys h p hp => ?_, fun n m s₀ ys ip H' s' _ _ I' q => .inl ⟨.inr rfl, off I' q⟩, fun n m i ys y H' hj _ => ⟨n - 1, by omega⟩, fun n m m' ys h1 h2 => by omega, fun n m i s₀ ys ip σ' H' s' y v kap hj hk I' rv yc w => ?_, fun i m ys H hw => turn i m H hw⟩
    · rw [h] at hp
      cases hp
    · obtain ⟨c, rfl, c1, c2⟩ := yc
      obtain rfl : v = .bool c := rv
      subst hk
      refine ⟨genObj_at (I'.pin (a, _) (List.mem_append_left _ (List.mem_singleton.mpr rfl))).1, I'.nolimit, I'.bare, c, rfl, fun hc s2 ho hb2 hk2 => ?_, fun hc => off I' (c2 hc)⟩
      obtain ⟨m', hm', w'⟩ := c1 hc
      exact w [] m' s2 hm' w' (by omega) rfl (I'.call' (ch := []) ho (Un.kept hk2) (I'.hok.kept hk2) hb2 fun b z => by simp at z) fun b _ o e => hk2 b o e
  have hgs : s5.gens[s4.gens.size]? = some (.fresh (.compStart (.GeneratorExp elt [⟨tg, iter, ifs, 0⟩] scope gpos) 0 (.ref it) .none ce)) := by rw [M.gens, ← hce]; exact Array.getElem?_push_size ..
  have pg := hg X.A.in1.in1 s4 H4 s4.heap.objs.size (cloFrom X.env.cells scope.names []) code fp [(a, genObj s4.gens.size (X.env.qual ++ "<genexpr>") t1 t2)]
  have pt := ht X.A.in1.in1 s4 H4 s4.heap.objs.size (cloFrom X.env.cells scope.names []) code fp [(a, genObj s4.gens.size (X.env.qual ++ "<genexpr>") t1 t2)] (hra.deeper _)
  have pe := he X.A.in1.in1 s4 H4 s4.heap.objs.size (cloFrom X.env.cells scope.names []) code fp [(a, genObj s4.gens.size (X.env.qual ++ "<genexpr>") t1 t2)] (hra.deeper _)
  have I6 := M.inv' (s6 := s5.setGen s4.gens.size .running) (A := X.A.in1.in1) ok hN hr.hd M.inv.ok.frames (fun _ _ e => e) rfl (allBare_setGen hb5 rfl)
  rw [hce] at pg pt pe I6
  refine wpAny_pure ⟨plainId_quiet F.plain_all_loop _, all_loop (X := X) (QT := fun H => Q (.bl true) H) (QF := fun H => Q (.bl false) H) (fp := fp) (s4 := s4) (H4 := H4) hr.hd (by have := hr.dp; show X.A.depth < _; omega) (fun s' o => ?_) (fun s' o => ?_) (m0 + 1) s5 hgen hl5 hb5 ⟨_, hgs, rfl, ?_⟩⟩
  · obtain ⟨H', I', q⟩ := o.back M
    exact ⟨.bl true, H', I', rfl, q⟩
  · obtain ⟨H', I', q⟩ := o.back M
    exact ⟨.bl false, H', I', rfl, q⟩
  · exact seg_gx0 E M.turn pg pt pe (by rw [cs]; exact ok.co) (fun p hp z => by
      rw [List.mem_singleton.mp hp] at z
      exact absurd (M.fp _ z).2 (Nat.not_lt.mpr (Nat.le_of_lt M.lt))) m0 (m0 + 1) _ _ H4 [] (Nat.lt_succ_self _) w0 rfl I6 (M.turn.keep _ _ _ M.st fun b _ o e => M.keep b o e) fun b hb => (M.fp b hb).1.1
end
end GX

namespace GX
open PySem PySem.Spec PyProof.Rows L2 GenW
section
variable {X : Cx} {pins : List (Addr × Obj)} {σ : L2.St} {H : Hp} {s : Shared}
/-- (elt for tg in iter if ..), all of which will be taken: W by the turn, a measure and what is out -/
def tGx (T : List (Addr × Str)) (wi : TI) (g : TG) (tt : TT) (te : TE) (vs : List Nat) : TGen := fun σ H cont => wi σ H fun J H1 => LamX.Tabs T H1 ∧ ∀ H2, LamX.ExtN H1 H2 → LamX.Tabs T H2 → ∃ W : Nat → Nat → List V → Hp → Prop, (∃ m, W 0 m [] H2) ∧ ∀ i m ys H, W i m ys H →
  (J.stop i H ∧ cont ys H) ∨ (J.go i H ∧ ∀ x H', J.yld i H x H' → g x (wipe σ vs) H' fun σ2 H2 => wipe σ2 vs = wipe σ vs ∧ tt σ2 H2 fun b H3 =>
    if b = true then te σ2 H3 fun y H4 => ys.length < sizeLine ∧ ∃ m', m' < m ∧ W (i + 1) m' (ys ++ [y]) H4 else ∃ m', m' < m ∧ W (i + 1) m' ys H3)
theorem pgen_gx {k : Nat} {T : List (Addr × Str)} {c P : Addr} {elt tg iter : Expr} {ifs : List Expr} {scope : Scope} {gpos : Pos} {own : List (Str × Nat)} {wi : TI} {g : TG} {tt : TT} {te : TE} {E : XK} (hr : Room (k + 1) X.A) (TB : LamX.TabB X.base X.mg c P) (hcode : X.env.code = .ref c)
    (hm : (P, X.env.qual ++ "<genexpr>") ∈ T) (hu : ∀ p ∈ T, p.1 = P → p.2 = X.env.qual ++ "<genexpr>") (ok : GxS X.N X.env.scope scope own) (hN : X.N.Nodup) (hi : PI X tg iter wi) (hs : ∀ v, genFold iter X.env v = pure v)
    (hg : ∀ (A : Around) (s : Shared) (H : Hp) (C : Addr) (cl : List (Str × Addr)) (code : Value) (fp : List Addr) (pn : List (Addr × Obj)), PG (gCx X A s H (genEnv scope cl C code builtinsNs X.env) fp pn) tg g)
    (ht : ∀ (A : Around) (s : Shared) (H : Hp) (C : Addr) (cl : List (Str × Addr)) (code : Value) (fp : List Addr) (pn : List (Addr × Obj)), Room k (A.deeper (genEnv scope cl C code builtinsNs X.env)) → PTs (gCx X A s H (genEnv scope cl C code builtinsNs X.env) fp pn) ifs tt)
    (he : ∀ (A : Around) (s : Shared) (H : Hp) (C : Addr) (cl : List (Str × Addr)) (code : Value) (fp : List Addr) (pn : List (Addr × Obj)), Room k (A.deeper (genEnv scope cl C code builtinsNs X.env)) → PE (gCx X A s H (genEnv scope cl C code builtinsNs X.env) fp pn) elt te) :
    PGen X (k + 1) (.GeneratorExp elt [⟨tg, iter, ifs, 0⟩] scope gpos) (tGx T wi g tt te (own.map (·.2))) E := by
  refine ⟨fun pins s σ H cont I h => ?_⟩
  refine gen_make (by have := hr.dp; omega) TB hcode hm hu ok hi hs I h fun s4 H4 code J fp it tn a t1 t2 s5 M ⟨W, ⟨m0, w0⟩, turn⟩ => ?_
  have hgen : s5.heap.IsGen a s4.gens.size := genObj_at M.obj
  have hb5 : AllBare s5.gens := by rw [M.gens]; exact M.inv.bare.push rfl
  have hl5 : s5.heap.NoLimit := M.inv.nolimit.keeps M.keep
  refine ⟨H4, s4, fp, M.inv, fun b hb => let f := (M.fp b hb).1; ⟨f.2.2.2.1, f.2.1, f.2.2.2.2.1, f.2.2.2.2.2⟩, a, s4.gens.size, .compStart (.GeneratorExp elt [⟨tg, iter, ifs, 0⟩] scope gpos) 0 (.ref it) .none (genEnv scope (cloFrom X.env.cells scope.names []) s4.heap.objs.size code builtinsNs X.env), rfl, Nat.le_of_lt M.lt, M.lt', hgen, by rw [M.gens]; exact Array.getElem?_push_size .., M.os, hb5, hl5, M.keep, fun A S s2 hrA hfr hS hk2 hSo hos hb2 => ?_⟩
  obtain ⟨cS, hSe⟩ := hSo
  have pg := hg A s4 H4 s4.heap.objs.size (cloFrom X.env.cells scope.names []) code fp [(a, genObj s4.gens.size (X.env.qual ++ "<genexpr>") t1 t2)]
  have pt := ht A s4 H4 s4.heap.objs.size (cloFrom X.env.cells scope.names []) code fp [(a, genObj s4.gens.size (X.env.qual ++ "<genexpr>") t1 t2)] (hrA.deeper _)
  have pe := he A s4 H4 s4.heap.objs.size (cloFrom X.env.cells scope.names []) code fp [(a, genObj s4.gens.size (X.env.qual ++ "<genexpr>") t1 t2)] (hrA.deeper _)
  have I6 := M.inv' (s6 := s2) (A := A) ok hN hrA.hd hfr hk2 (hos.trans M.os.symm) hb2
  generalize hce : genEnv scope (cloFrom X.env.cells scope.names []) s4.heap.objs.size code builtinsNs X.env = ce at pg pt pe I6 ⊢
  have cs : ce.scope = scope := by rw [← hce]; rfl
  have cl : ce.locals = s4.heap.objs.size := by rw [← hce]; rfl
  have hSa : a < S := Nat.lt_of_lt_of_le M.lt' hS
  have hS4 : s4.heap.objs.size < S := Nat.lt_trans M.lt hSa
  have hSn : ∀ {ip : List (Addr × Obj)} {σ' : L2.St} {H' : Hp} {s' : Shared}, Inv (gCx X A s4 H4 ce fp [(a, genObj s4.gens.size (X.env.qual ++ "<genexpr>") t1 t2)]) ip σ' H' s' → True := fun _ => trivial
  have hSst : S ∉ frs X.stack := fun z => by
    rcases List.mem_cons.mp (M.inv.stkSub _ z) with e | e
    · have h1 := M.inv.lt
      rw [← e] at h1
      exact Nat.lt_irrefl _ (Nat.lt_trans h1 hS4)
    · exact M.inv.nofs (Nat.le_of_lt hS4) e
  have I7 : Inv (gCx X A s4 H4 ce fp [(a, genObj s4.gens.size (X.env.qual ++ "<genexpr>") t1 t2)]) [(S, lstObj #[] cS)] (wipe σ (own.map (·.2))) H4 s2 := I6.pins_of fun p hp => by
    rw [List.mem_singleton.mp hp]
    exact ⟨hSe, M.inv.hok.fresh (Nat.le_of_lt hS4), by show S ≠ ce.locals; rw [cl]; exact Nat.ne_of_gt hS4, hSst, fun v q => by cases q⟩
  have hcells : ∀ x c, ce.cells.lookup x = some c → c ≠ S := fun x c e z => by
    obtain ⟨v, q⟩ := I6.cell x c e
    have I6b := I6.freeC x c e
    have e2 : (cloFrom X.env.cells scope.names []).lookup x = some c := by rw [← hce] at e; exact e
    rcases cloFrom_mem (PySem.mem_of_lookup e2) with hm | ⟨h1, h2⟩
    · cases hm
    · have h3 : ∃ c1, X.env.cells.lookup x = some c1 := by
        rcases ok.free _ h1 rfl with k | k
        · exact M.inv.ok.has _ (.inl k)
        · exact M.inv.ok.has _ (.inr k)
      obtain ⟨c1, hc1⟩ := h3
      rw [hc1] at h2
      have h4 : c = c1 := h2
      obtain ⟨v1, q1⟩ := M.inv.cell x c1 hc1
      have := q1.lt
      rw [← h4, z] at this
      exact Nat.lt_irrefl _ (Nat.lt_trans this hS4)
  have hAp : Apart (gCx X A s4 H4 ce fp [(a, genObj s4.gens.size (X.env.qual ++ "<genexpr>") t1 t2)]) S := ⟨Nat.le_of_lt hS4, by show S ≠ ce.locals; rw [cl]; exact Nat.ne_of_gt hS4, hcells⟩
  have hSfp : S ∉ fp := fun z => Nat.lt_irrefl _ (Nat.lt_trans (M.fp S z).2 hS4)
  have E : Eats (gCx X A s4 H4 ce fp [(a, genObj s4.gens.size (X.env.qual ++ "<genexpr>") t1 t2)]) fp J (wipe σ (own.map (·.2))) (own.map (·.2)) g tt te W (fun ip ys => ∃ acc c, Vals ys acc.toList ∧ ip = [(S, lstObj acc c)]) (fun n _ ys => n + ys.length = sizeLine) cont
      (fun i m ys y H => ys.length < sizeLine ∧ ∃ m', m' < m ∧ W (i + 1) m' (ys ++ [y]) H) (REnd X.prog X.w X.stack H4 s4 fp S a s4.gens.size cont E) (YItem s4 S a s4.gens.size) := by
    refine ⟨fun ip ys h p hp => ?_, fun n m s₀ ys ip H' s' hj hk I' q => ?_, fun n m i ys y H' hj hy => ⟨n - 1, ?_⟩, fun n m m' ys h1 h2 => h2, fun n m i s₀ ys ip σ' H' s' y v kap hj hk I' rv yc w => ?_, fun i m ys H hw => turn i m ys H hw⟩
    · obtain ⟨acc, c, _, rfl⟩ := h
      rw [List.mem_singleton.mp hp]
      exact hSfp
    · obtain ⟨acc, c, hv, rfl⟩ := hk
      obtain ⟨p1, p2, _⟩ := I'.pin (S, lstObj acc c) (List.mem_append_right _ (List.mem_singleton.mpr rfl))
      exact .inl ⟨.inr rfl, H', ys, acc, c, I'.os, I'.bare, I'.base, I'.hok, p2, p1, hv, by omega, q⟩
    · have := hy.1
      have hj : n + ys.length = sizeLine := hj
      omega
    · obtain ⟨acc, c, hv, rfl⟩ := hk
      obtain ⟨p1, p2, _⟩ := I'.pin (S, lstObj acc c) (List.mem_append_right _ (List.mem_singleton.mpr rfl))
      obtain ⟨_, m', hm', w'⟩ := yc
      have hj : n + 1 + ys.length = sizeLine := hj
      have hsz : acc.size = ys.length := by
        have e1 := hv.length
        have e2 : acc.toList.length = acc.size := by simp
        omega
      refine ⟨I'.os, I'.bare, I'.nolimit, genObj_at (I'.pin (a, _) (List.mem_append_left _ (List.mem_singleton.mpr rfl))).1, ⟨acc, c, p1, by rw [hsz]; exact hj⟩, fun s3 sl => ?_⟩
      obtain ⟨acc', c', hv', I3⟩ := GI.woken (ip := []) (fun p hp => by rw [List.mem_singleton.mp hp]; exact Nat.ne_of_lt hSa) (fun p hp => by cases hp) hAp (⟨acc, c, hv, I'⟩ : GI _ S [] ys σ' H' s') rv sl
      exact w [(S, lstObj acc' c')] m' s3 hm' w' (by show n + (ys ++ [y]).length = sizeLine; rw [List.length_append]; simp; omega) ⟨acc', c', hv', rfl⟩ I3 fun b hb o e => sl.keep b o (fun z => hSfp (by rw [← z]; exact hb)) e
  exact seg_gx0 E M.turn pg pt pe (by rw [cs]; exact ok.co) (fun p hp z => by
      rw [List.mem_singleton.mp hp] at z
      exact absurd (M.fp _ z).2 (Nat.not_lt.mpr (Nat.le_of_lt M.lt))) m0 sizeLine _ _ H4 _ (by show sizeLine + 0 = sizeLine; omega) w0 ⟨#[], cS, .nil, rfl⟩ I7 (M.turn.keep _ _ _ M.st fun b _ o e => hk2 b o (M.keep b o e)) fun b hb => (M.fp b hb).1.1
end
end GX

namespace GX
open PySem PySem.Spec PyProof.Rows L2 GenW
section
variable {P : Program} {w : World} {outer : List Env} {H : Hp} {sc s : Shared} {ex : List Addr} {Q : List V → Hp → Prop} {EX : XK} {A : Around} {k : Nat} {u : Value} {E : Value → Shared → Prop}
theorem noCX (hx : ∀ cls d H, ¬ EX cls d H) {e : Value} {s' : Shared} (c : CX P w outer H sc EX e s') : False := by
  obtain ⟨a, B, H', cls, d, _, _, _, _, _, _, _, hW⟩ := c
  exact hx cls d H' hW
/-- all that the generator gives, in a list of the consumer's own -/
theorem collectG {Q' : List Value → Shared → Prop} (hx : ∀ cls d H, ¬ EX cls d H) (hr : Room (k + 2) A) (hfr : A.frames = some outer) (h : GMade P w k outer H sc ex Q EX u s)
    (hQ : ∀ (s' : Shared) (acc : Array Value) (H' : Hp) (ys : List V), Vals ys acc.toList → ys.length ≤ sizeLine → s'.os = sc.os → AllBare s'.gens → Un (frs outer) ex H H' sc.heap s'.heap → HOk P w H' s'.heap → Q ys H' → Q' acc.toList s') :
    wpAny (model P w) A (collect u) Q' E s := by
  obtain ⟨a, g, c, rfl, ha1, ha2, hg, hgs, hos, hb, hl, hkp, wake⟩ := h
  have hSa : s.heap.objs.size ≠ a := Nat.ne_of_gt ha2
  have hcl : cStatics < s.heap.objs.size := let ⟨_, hn, _⟩ := hl; hn.lt
  have hSc : s.heap.objs.size ≠ cStatics := Nat.ne_of_gt hcl
  unfold collect
  refine wpAny_bind (wpAny_runValue (codeAny_builtin F.entry_proto_collect ?_))
  rw [Around.under_plainId F.plain_proto_collect _]
  show wpAny _ A.in1 (newList [] >>= fun l => again (.builtin "list.__iadd__" ⟨[l, .ref a], []⟩)) _ _ s
  refine wpAny_bind (wpAny_newObj_type ?_)
  refine wpAny_pure ⟨plainId_quiet F.plain_list_iadd _, codeAny_builtin F.entry_list_iadd ?_⟩
  rw [Around.under_plainId F.plain_list_iadd _]
  have up : ∀ (h : Heap) (f : Obj → Obj), (∀ b o, s.heap.get? b = some o → h.get? b = some o) → ∀ b o, s.heap.get? b = some o → (h.update s.heap.objs.size f).get? b = some o := fun h f q b o e =>
    (Heap.get?_update_other _ _ (Ne.symm (Nat.ne_of_lt (Heap.lt_size e)))).trans (q b o e)
  have k1 : ∀ b o, s.heap.get? b = some o → (s.heap.push { cls := .type "list", data := .seq ([] : List Value).toArray }).get? b = some o := fun b o e => Heap.get?_push_of_some _ e
  have gty : ∀ {h : Heap}, (∀ b o, s.heap.get? b = some o → h.get? b = some o) → h.IsGen a g := fun {h} q => hg.keeps q
  show wpAny _ A.in1 (Builtin.List.listExtendWith (.ref s.heap.objs.size) (.ref a) (.ref s.heap.objs.size)) _ _ _
  unfold Builtin.List.listExtendWith
  refine wpAny_bind (wpAny_typeOf (Heap.IsGen.typeIs (s := { s with heap := _ }) (gty k1)) ?_)
  have h1 : Builtin.List.listSameRef (.ref s.heap.objs.size) (.ref a) = false := by simp [Builtin.List.listSameRef, hSa]
  have h2 : (Value.type "generator" == Value.type "list") = false := by decide
  have h3 : (Value.type "generator" == Value.type "tuple") = false := by decide
  simp only [h1, h2, h3, Bool.or_false, Bool.false_eq_true, if_false]
  refine wpAny_bind (wpAny_pyIter_gen (s := { s with heap := _ }) (gty k1) ?_)
  refine wpAny_bind (wpAny_holding ?_)
  unfold Builtin.List.listLengthHint
  refine wpAny_bind (wpAny_specialOf (Heap.IsGen.typeIs (s := { s with heap := _ }) (gty k1)) F.gen_no_len ?_)
  show wpAny _ A.in1 (specialOf (Value.ref a) (Str.ofString "__length_hint__") >>= _) _ _ _
  refine wpAny_bind (wpAny_specialOf (Heap.IsGen.typeIs (s := { s with heap := _ }) (gty k1)) F.gen_no_hint ?_)
  refine wpAny_pure ?_
  show wpAny _ A.in1 (rule "list.extend.makes-room" >>= fun _ => Builtin.List.listTouch (.ref s.heap.objs.size) >>= fun _ =>
    again (.builtin "list.extend.loop" ⟨[.ref s.heap.objs.size, .ref a, .ref s.heap.objs.size], []⟩)) _ _ _
  refine wpAny_bind (wpAny_rule ?_)
  have hS1 : (s.heap.push { cls := .type "list", data := .seq ([] : List Value).toArray }).get? s.heap.objs.size = some { cls := .type "list", data := .seq ([] : List Value).toArray } := Heap.get?_push_size _ rfl
  refine wpAny_bind ?_
  show wpAny _ A.in1 (updateSeq s.heap.objs.size (·.push .none) >>= fun _ => updateSeq s.heap.objs.size (·.pop)) _ _ _
  refine wpAny_bind (wpAny_updateSeq hS1 rfl ?_)
  have hS2 := Heap.get?_update_self (Obj.mapSeq (·.push Value.none)) hS1 rfl
  refine wpAny_updateSeq (hz := by seq_fits) hS2 rfl ?_
  have hS3 := Heap.get?_update_self (Obj.mapSeq (·.pop)) hS2 rfl
  have k4 := up _ (Obj.mapSeq (·.pop)) (up _ (Obj.mapSeq (·.push Value.none)) k1)
  refine wpAny_pure ⟨plainId_quiet F.plain_extend_loop _, ?_⟩
  refine drain (P := P) (w := w) (outer := outer) (H := H) (sc := sc) (ex := ex) (Q := Q) (EX := EX) (A := A) (g := g) hr.hd (by have := hr.dp; show A.depth < _; omega) hSa hSc
    (fun s' acc c H' ys q1 q2 q3 q4 q5 q6 q7 q8 q9 => ?_) (fun e s' hc => (noCX hx hc).elim)
    sizeLine _ (gty k4) (hl.keeps k4) ⟨_, hgs, rfl, ?_⟩
  · show wpAny _ A (load s.heap.objs.size >>= _) _ _ s'
    refine wpAny_bind (wpAny_load q1 ?_)
    exact wpAny_pure (hQ s' acc H' ys q2 q3 q4 q5 q6 q7 q9)
  · refine wake _ _ _ ⟨hr.hd, ?_, ?_⟩ hfr (Nat.le_refl _) k4 ⟨_, hS3⟩ hos (allBare_setGen (s := { s with heap := _ }) hb rfl)
    · have := hr.dp
      show A.depth + 3 * k + 5 < _
      omega
    · have := hr.un
      show A.units + 1 + 1 + 16 * k + 200 < _
      omega
theorem tuple_newG {Q1 : Value → Shared → Prop} (hx : ∀ cls d H, ¬ EX cls d H) (hr : Room (k + 3) A) (hfr : A.frames = some outer) (h : GMade P w k outer H sc ex Q EX u s)
    (hQ : ∀ (s' : Shared) (acc : Array Value) (H' : Hp) (ys : List V), Vals ys acc.toList → ys.length ≤ sizeLine → s'.os = sc.os → AllBare s'.gens → Un (frs outer) ex H H' sc.heap s'.heap → HOk P w H' s'.heap → Q ys H' → Q1 (.ref s'.heap.objs.size) { s' with heap := s'.heap.push { cls := .type "tuple", data := .seq acc } }) :
    codeAny (model P w) A (.call (.builtin "tuple.__new__") ⟨[.type "tuple", u], []⟩) (wants Q1 E) s := by
  have hh := h
  obtain ⟨a, g, c, rfl, ha1, ha2, hg, hgs, hos, hb, hl, hkp, wake⟩ := h
  refine codeAny_of_tree ?_
  show wpAny _ A.in1 (do checkBuiltinCall "tuple.__new__" ⟨[.type "tuple", .ref a], []⟩; again (.builtin "tuple.__new__" ⟨[.type "tuple", .ref a], []⟩)) _ _ s
  refine wpAny_bind (wpAny_of_eq (F.newCall_tuple_1 _) (wpAny_pure ⟨plainId_quiet F.plain_tuple_new _, codeAny_builtin F.entry_tuple_new ?_⟩))
  rw [Around.under_plainId F.plain_tuple_new _]
  have hsub := sub_tuple_self
  have hinit := init_tuple_lookup
  have hmh := madeHere_tuple
  have hTI : s.TypeIs (.ref a) "generator" := Heap.IsGen.typeIs hg
  have hr1 : Room (k + 2) A.in1 := ⟨hr.hd, by have := hr.dp; show A.depth + 3 * (k + 2) + 5 < _; omega, by have := hr.un; show A.units + 1 + 16 * (k + 2) + 200 < _; omega⟩
  wp_walk using wpAny_typeOf hTI, collectG (A := A.in1) hx hr1 hfr hh
  intro s' acc H' ys q1 q2 q3 q4 q5 q6 q7
  show wpAny _ _ (Builtin.Tuple.tupleExact acc.toList.toArray >>= fun v => ret v) _ _ _
  unfold Builtin.Tuple.tupleExact
  have hsz : acc.size ≤ sizeLine := by
    have e1 := q1.length
    have e2 : acc.toList.length = acc.size := by simp
    omega
  refine wpAny_bind (wpAny_newObj_type ?_ (by show acc.toList.toArray.size ≤ sizeLine; simp only [Array.toArray_toList]; exact hsz))
  refine wpAny_pure ?_
  have e : acc.toList.toArray = acc := by simp
  rw [e]
  exact hQ s' acc H' ys q1 q2 q3 q4 q5 q6 q7
theorem call_tupleG {Q' : Value → Shared → Prop} (hx : ∀ cls d H, ¬ EX cls d H) (hr : Room (k + 4) A) (hfr : A.frames = some outer) (h : GMade P w k outer H sc ex Q EX u s)
    (hQ : ∀ (s' : Shared) (acc : Array Value) (H' : Hp) (ys : List V), Vals ys acc.toList → ys.length ≤ sizeLine → s'.os = sc.os → AllBare s'.gens → Un (frs outer) ex H H' sc.heap s'.heap → HOk P w H' s'.heap → Q ys H' → Q' (.ref s'.heap.objs.size) { s' with heap := s'.heap.push { cls := .type "tuple", data := .seq acc } }) :
    wpAny (model P w) A (call (.type "tuple") [u]) Q' E s := by
  have hr1 : Room (k + 3) A.in1 := ⟨hr.hd, by have := hr.dp; show A.depth + 3 * (k + 3) + 5 < _; omega, by have := hr.un; show A.units + 1 + 16 * (k + 3) + 200 < _; omega⟩
  have hu : ∃ a, u = .ref a := by
    obtain ⟨a, g, c, rfl, _⟩ := h
    exact ⟨a, rfl⟩
  obtain ⟨a, rfl⟩ := hu
  refine callType_codes (Q₁ := fun obj s₁ => s₁.TypeIs obj "tuple" ∧ Q' obj s₁) F.called_tuple (F.typeCall_tuple_1 _) F.entry_object_init
    (tuple_newG (A := A.in1) hx hr1 hfr h fun s' acc H' ys q1 q2 q3 q4 q5 q6 q7 => ⟨⟨_, Heap.get?_push_size _ rfl, rfl⟩, hQ s' acc H' ys q1 q2 q3 q4 q5 q6 q7⟩) fun obj s₁ h₁ => ?_
  exact ⟨h₁.1, F.args_object_init_2 obj _, object_init_meets F.called_tuple.init.lookup F.called_tuple.made (by decide) P w A.in1 _ s₁ ⟨h₁.1, rfl, h₁.2⟩⟩
end
section
variable {X : Cx}
def tTupG (tg : TGen) : TE := fun σ H Q => tg σ H fun out H2 => ∀ p, H2 p = none → Q (.ref p) (upd H2 p (.tup out))
/-- tuple(g) -/
theorem pe_tupG {k : Nat} {e : Expr} {tg : TGen} {p pos : Pos} (h : PGen X k e tg (fun _ _ _ => False)) (hr : Room (k + 4) X.A) (hg : Gl X "tuple") (hm : X.mg "tuple" = none) (na : starEach [e] X.env = (false, eval e X.env) :: starEach [] X.env := by rfl) :
    PE X (.Call (.Name "tuple" p) [e] [] pos) (tTupG tg) := by
  refine ⟨fun pins s σ H Q I hq => ?_⟩
  refine Call_ (ld_blt I hg hm boot_tuple (PyProof.Rows.callWith_type1 ?_ na))
  refine args_cons (thn (h.run pins s σ H _ I hq) fun u s1 ⟨H1, sc, ex, I1, hex, hG⟩ => args_nil ?_) na
  refine call_tupleG (fun _ _ _ z => z) hr I1.ok.frames hG fun s' acc H' ys q1 q2 q3 q4 q5 q6 q7 => ?_
  have I2 : Inv X pins σ H' s' := I1.call' (ch := ex) q3 q5 q6 q4 hex
  have I3 : Inv X pins σ (upd H' s'.heap.objs.size (.tup ys)) { s' with heap := s'.heap.push { cls := .type "tuple", data := .seq acc } } :=
    I2.laid (t' := s'.toks) (fun b o e => Heap.get?_push_of_some _ e) (Nat.le_refl _) (show ObjOk X.prog X.w _ _ _ (.tup ys) from ⟨q2, acc.toList, q1, by have := IsTup.new s'.heap acc.toList.toArray; simpa using this⟩)
  exact ⟨.ref s'.heap.objs.size, _, I3, rfl, q7 _ (I2.hok.fresh (Nat.le_refl _))⟩
end
end GX

namespace LB
open PySem PySem.Spec PyProof.Rows L2
/-! ### text * n -/
def repS (x : Str) (n : Nat) : Str := ⟨((List.replicate n x.cps.toList).flatten).toArray⟩
theorem fold_app : ∀ (l : List (Array Nat)) (a : Array Nat), (l.foldl (· ++ ·) a).toList = a.toList ++ (l.map (·.toList)).flatten
  | [], a => by simp
  | b :: l, a => by
    rw [List.foldl_cons, fold_app l (a ++ b)]
    simp
theorem fold_rep (x : Str) (n : Nat) : (⟨(List.replicate n x.cps).foldl (· ++ ·) #[]⟩ : Str) = repS x n := by
  unfold repS
  congr 1
  apply Array.toList_inj.mp
  rw [fold_app]
  simp [List.map_replicate]
def rRepS : R2 := fun x y H Q => ∃ (z : Str) (n : Nat), x = .str z ∧ y = .int (n : Int) ∧ n ≤ 1000 ∧ z.length ≤ 1000 ∧ Q (.str (repS z n)) H
theorem repS_one (x : Str) : repS x 1 = x := by
  cases x
  simp [repS]
theorem repS_nil (x : Str) : repS x 0 = Str.empty := by
  simp [repS]
  rfl
theorem repS_length (x : Str) (n : Nat) : (repS x n).length = n * x.length := by
  show ((List.replicate n x.cps.toList).flatten).toArray.size = n * x.cps.size
  rw [List.size_toArray, List.length_flatten, List.map_replicate, List.sum_replicate_nat, Array.length_toList]
theorem repS_len (x : Str) (n : Nat) (h : x.length * n ≤ 1000000) : (repS x n).length ≤ sizeLine := by
  rw [repS_length, sizeLine_eq, Nat.mul_comm]
  omega
theorem op_repS {X : Cx} : OpR X (binaryOp .Mult) rRepS := by
  intro pins s σ H x y v u Q I rx ry h
  obtain ⟨z, n, rfl, rfl, hn, hz, q⟩ := h
  obtain ⟨t, rfl⟩ := rx
  obtain ⟨t', rfl⟩ := ry
  have hlen : z.length * n ≤ 1000000 := Nat.mul_le_mul hz hn
  refine P.mul_str ?_ (fun h1 h2 h3 => ?_) (fun h1 h2 => ?_) ?_
  · rw [decide_eq_false (by omega), decide_eq_false (by omega)] <;> rfl
  · have h4 : (z.length : Int) ≤ 1000 := by omega
    have h5 : (n : Int) ≤ 1000 := by omega
    have h6 : (1000 : Int) * n ≤ 2 ^ 63 - 1 := by omega
    have h7 : (1000 : Int) ≤ (2 ^ 63 - 1) / (n : Int) := by
      rw [Int.le_ediv_iff_mul_le (by omega)]
      exact h6
    omega
  · have e : ((n : Int)).toNat = n := by omega
    rw [e]
    show decide (z.length * n > sizeLine) = false
    exact decide_eq_false (by rw [sizeLine_eq]; omega)
  · by_cases h1 : (n : Int) < 1
    · rw [if_pos h1]
      have e : n = 0 := by omega
      subst e
      rw [repS_nil] at q
      exact ⟨by decide, ⟨.str Str.empty, H, I.tok _, ⟨_, rfl⟩, q⟩⟩
    · rw [if_neg h1]
      by_cases h2 : ((n : Int) == 1 || z.length == 0) = true
      · rw [if_pos h2]
        have e : repS z n = z := by
          rcases Bool.or_eq_true _ _ ▸ h2 with k | k
          · have e : n = 1 := by
              have := eq_of_beq k
              omega
            rw [e, repS_one]
          · have e : z.length = 0 := eq_of_beq k
            have e2 : z.cps = #[] := Array.eq_empty_of_size_eq_zero e
            cases z
            simp at e2
            subst e2
            simp [repS]
        rw [e] at q
        exact ⟨.str z, H, I, ⟨_, rfl⟩, q⟩
      · rw [if_neg h2]
        have e : ((n : Int)).toNat = n := by omega
        rw [e, fold_rep]
        exact ⟨repS_len z n hlen, ⟨.str (repS z n), H, I.tok _, ⟨_, rfl⟩, q⟩⟩
/-! ### t[::-1] -/
theorem fm_congr {α β : Type} {f g : α → Option β} : ∀ (l : List α), (∀ x ∈ l, f x = g x) → l.filterMap f = l.filterMap g
  | [], _ => rfl
  | x :: l, h => by
    rw [List.filterMap_cons, List.filterMap_cons, h x List.mem_cons_self, fm_congr l fun y hy => h y (List.mem_cons_of_mem _ hy)]
theorem rev_pick (xs : Array Value) : ((List.range xs.size).filterMap fun (m : Nat) => xs[(((xs.size : Int) - 1) + (m : Int) * (-1)).toNat]?).toArray = xs.toList.reverse.toArray := by
  congr 1
  apply List.ext_getElem?
  intro j
  have e : ((List.range xs.size).filterMap fun (m : Nat) => xs[(((xs.size : Int) - 1) + (m : Int) * (-1)).toNat]?) = (List.range xs.size).map fun m => xs.toList.reverse.getD m .none := by
    rw [← List.filterMap_eq_map]
    refine fm_congr _ fun m hm => ?_
    have hm' : m < xs.size := List.mem_range.mp hm
    have e1 : (((xs.size : Int) - 1) + (m : Int) * (-1)).toNat = xs.size - 1 - m := by omega
    rw [e1, ← Array.getElem?_toList]
    show xs.toList[xs.size - 1 - m]? = some (xs.toList.reverse.getD m .none)
    rw [List.getD_eq_getElem?_getD, List.getElem?_reverse (by simpa using hm'), Array.length_toList, List.getElem?_eq_getElem (by simp; omega)] <;> rfl
  rw [e, List.getElem?_map]
  by_cases hj : j < xs.size
  · rw [List.getElem?_range hj, List.getElem?_eq_getElem (by simpa using hj)]
    show some (xs.toList.reverse.getD j .none) = _
    rw [List.getD_eq_getElem?_getD, List.getElem?_eq_getElem (by simpa using hj)] <;> rfl
  · rw [List.getElem?_eq_none (by simpa using hj), List.getElem?_eq_none (by simpa using hj)] <;> rfl
section
variable {prog : Program} {w : World} {A : Around} {E : Value → Shared → Prop} {s : Shared}
theorem sliceApplied_rev {sl : Addr} {vs : Value} {n : Nat} {Q : Int × Int × Nat → Shared → Prop} (hs : s.heap.IsSliceOf sl .none .none vs) (ps : IsPart vs (some (-1)))
    (h : Q ((n : Int) - 1, -1, n) s) : wpAny (model prog w) A (Builtin.Slice.sliceApplied (.ref sl) (pure (n : Int))) Q E s := by
  obtain ⟨os, hos, hcs, hds⟩ := id hs
  unfold Builtin.Slice.sliceApplied Builtin.Slice.sliceFields
  refine wpAny_bind (wpAny_bind (wpAny_field hos hds (x := .none) rfl (wpAny_bind (wpAny_field hos hds (x := .none) rfl (wpAny_bind (wpAny_field hos hds (x := vs) rfl (wpAny_pure ?_)))))))
  refine wpAny_bind (HT.slicePart_ ps ?_)
  show wpAny _ _ (if ((-1 : Int) == 0) = true then _ else _) _ _ s
  rw [if_neg (by decide)]
  refine wpAny_bind (PyProof.Rows.slicePart_none (wpAny_bind (PyProof.Rows.slicePart_none (wpAny_bind (wpAny_pure ?_)))))
  have e1 : Builtin.Slice.sliceAdjust none none (-1) (n : Int) = ((n : Int) - 1, -1) := by
    unfold Builtin.Slice.sliceAdjust
    simp
  have e2 : Builtin.Slice.slicePlaces ((n : Int) - 1) (-1) (-1) = n := by
    unfold Builtin.Slice.slicePlaces
    rw [if_neg (by decide)]
    simp only [Int.neg_neg, Int.ediv_one]
    split <;> omega
  show wpAny _ _ (match Builtin.Slice.sliceAdjust none none (-1) (n : Int) with | (lo, hi) => pure (lo, (-1 : Int), Builtin.Slice.slicePlaces lo hi (-1))) _ _ s
  rw [e1]
  show wpAny _ _ (pure ((n : Int) - 1, (-1 : Int), Builtin.Slice.slicePlaces ((n : Int) - 1) (-1) (-1))) _ _ s
  rw [e2]
  exact wpAny_pure h
theorem getItem_tuple_rev {t sl : Addr} {items : Array Value} {vs : Value} {Q : Value → Shared → Prop} (ht : IsTup s.heap t items) (hs : s.heap.IsSliceOf sl .none .none vs) (ps : IsPart vs (some (-1)))
    (h : Q (.ref s.heap.objs.size) { s with heap := s.heap.push { cls := .type "tuple", data := .seq items.toList.reverse.toArray } })
    (hsz : items.size ≤ sizeLine) : wpAny (model prog w) A (getItem (.ref t) (.ref sl)) Q E s := by
  have htake : sizeOk (.seq items.toList.reverse.toArray) := by
    show items.toList.reverse.toArray.size ≤ sizeLine
    rw [List.size_toArray, List.length_reverse, Array.length_toList]
    exact hsz
  obtain ⟨os, hos, hcs, hds⟩ := id hs
  have hTs : s.TypeIs (.ref sl) "slice" := ⟨os, hos, hcs⟩
  unfold getItem
  try with_reducible refine wpAny_holding ?_
  first | refine wpAny_bind (wpAny_pure ?_) | skip
  refine wpAny_bind (wpAny_sequenceKey ht.typeIs (by decide) ?_)
  refine wpAny_bind (wpAny_callSpecial?_slot (name := Str.ofString "__getitem__") ht.typeIs PyProof.Rows.slot_tuple_getitem
    (wpAny_call_entry PyProof.Rows.slot_tuple_getitem ht.typeIs PyProof.Rows.entry_tuple_getitem ?_ (PyProof.Rows.args_tuple_getitem _ _)))
  show wpAny _ _ (Builtin.Tuple.tupleItemsOf (.ref t) >>= _) _ _ s
  refine wpAny_bind (PyProof.Rows.tupleItemsOf_ ht ?_)
  refine wpAny_bind (wpAny_typeOf hTs ?_)
  rw [if_pos (by decide)]
  refine wpAny_bind (sliceApplied_rev hs ps ?_)
  have hno : ¬ ((((items.size : Int) - 1) == 0 && (-1 : Int) == 1 && items.size == items.size) = true) := by
    intro q
    rw [Bool.and_eq_true, Bool.and_eq_true] at q
    exact absurd q.1.2 (by decide)
  show wpAny _ _ (if (((items.size : Int) - 1) == 0 && (-1 : Int) == 1 && items.size == items.size) = true then _ else _) _ _ s
  rw [if_neg hno, rev_pick]
  first
    | exact wpAny_bind (m := Builtin.Tuple.tupleExact _) (wpAny_newObj_type (wpAny_pure ⟨_, rfl, wpAny_pure h⟩) htake)
    | exact wpAny_bind (m := Builtin.Tuple.tupleExact _) (wpAny_newObj_type (wpAny_bind (wpAny_pure (wpAny_pure ⟨_, rfl, wpAny_pure h⟩))) htake)
    | exact wpAny_bind (wpAny_bind (m := Builtin.Tuple.tupleExact _) (wpAny_newObj_type (wpAny_pure (wpAny_pure ⟨_, rfl, wpAny_pure h⟩)) htake))
    | exact wpAny_bind (wpAny_bind (m := Builtin.Tuple.tupleExact _) (wpAny_newObj_type (wpAny_pure ⟨_, rfl, wpAny_pure h⟩) htake))
end
def tRevT (K : PySem.W.Frag) (te : TE) : TE := fun σ H Q => te σ H fun x H1 => ∃ a xs, x = .ref a ∧ SqT K H1 a xs ∧ ∀ p, H1 p = none → Q (.ref p) (upd H1 p (.tup xs.reverse))
theorem pe_revT {X : Cx} {e : Expr} {te : TE} {k : Nat} {p1 p2 p3 pos : Pos} (he : PE X e te) : PE X (.Subscript e (.Slice none none (some (.UnaryOp .USub (.Constant (.int 1) k p1) p2)) p3) pos) (tRevT X.K te) := by
  refine ⟨fun pins s σ H Q I h => ?_⟩
  refine Subscript_ (thn (he.run pins s σ H _ I h) fun v s1 ⟨x, H1, I1, r1, q1⟩ => ?_)
  obtain ⟨a, xs, ex, hx, q⟩ := q1
  subst ex
  cases r1
  have hst : PO X (some (.UnaryOp .USub (.Constant (.int 1) k p1) p2)) (tPart (tUn (rU fun i => .int (-i)) (tC (.int 1)))) := po_some (pe_un un_neg pe_int)
  refine wpAny_Slice (thn (po_none.run pins s1 σ H1 (fun o H2 => o = none ∧ H2 = H1) I1 ⟨rfl, rfl⟩) fun vl s2 ⟨l, H2, I2, pl, el, e2⟩ => ?_)
  subst el e2
  refine thn (po_none.run pins s2 σ H2 (fun o H3 => o = none ∧ H3 = H2) I2 ⟨rfl, rfl⟩) fun vu s3 ⟨u, H3, I3, pu, eu, e3⟩ => ?_
  subst eu e3
  refine thn (hst.run pins s3 σ H3 (fun o H4 => o = some (-1) ∧ H4 = H3) I3 ⟨1, rfl, -1, rfl, rfl, rfl⟩) fun vs s4 ⟨o, H4, I4, ps, eo, e4⟩ => ?_
  subst eo e4
  have I5 : Inv X pins σ H4 { s4 with heap := s4.heap.push { cls := .type "slice", data := .fields #[vl, vu, vs] } } := I4.kept (t' := s4.toks) fun b ob q => Heap.get?_push_of_some _ q
  obtain ⟨its, r, ht, hz⟩ := I5.tuple hx
  have hlen := r.length
  cases pl
  cases pu
  show wpAny (model X.prog X.w) X.A (subscriptTail e (.Slice none none (some (.UnaryOp .USub (.Constant (.int 1) k p1) p2)) p3) (.ref a) (.ref s4.heap.objs.size)) (EP X pins σ Q) X.xe { s4 with heap := s4.heap.push { cls := .type "slice", data := .fields #[.none, .none, vs] } }
  refine tail_any (ops := [.ref a, .ref s4.heap.objs.size]) ht.typeIs (PyProof.Rows.slot_tuple_getitem.lookup) ?_ (by with_unfolding_all rfl)
  refine getItem_tuple_rev ht (Heap.IsSliceOf.new _ .none .none vs) ps ?_ (by rw [List.size_toArray]; omega)
  refine ⟨.ref _, _, I5.laid (t' := s4.toks) (o := .tup xs.reverse) (fun b ob q => Heap.get?_push_of_some _ q) (Nat.le_refl _) ?_, rfl, q _ (I5.hok.fresh (Nat.le_refl _))⟩
  exact ⟨by rw [List.length_reverse]; exact hz, _, r.reverse, IsTup.new _ _⟩
end LB

namespace LB
open PySem PySem.Spec PyProof.Rows L2
/-! ### small facts -/
theorem Same.toEx {H H' : Hp} (s : Same H H') : Ex H H' := fun b o e _ => s b o e
theorem same_t {K : PySem.W.Frag} {H H' : Hp} {a : Addr} {xs : List V} (e : Same H H') (h : SqT K H a xs) : SqT K H' a xs := ex_t (Same.toEx e) h
theorem same_l {K : PySem.W.Frag} {H H' : Hp} {a : Addr} {xs : List V} (e : Same H H') (h : SqL K H a xs) : SqL K H' a xs := ex_l (Same.toEx e) h
theorem cut_map (ns : List Int) (lo hi : Option Int) : ∃ ms : List Int, cutV (ns.map V.int) lo hi = ms.map V.int ∧ ms.length ≤ ns.length := by
  refine ⟨(ns.drop (HT.sIx ns.length 0 lo)).take (HT.sIx ns.length ns.length hi - HT.sIx ns.length 0 lo), ?_, ?_⟩
  · unfold cutV
    rw [List.length_map, List.map_take, List.map_drop]
  · rw [List.length_take, List.length_drop]
    omega
theorem int_at {ns : List Int} {i : Nat} {v : V} (h : (ns.map V.int)[i]? = some v) : ∃ z, ns[i]? = some z ∧ v = .int z := by
  rw [List.getElem?_map] at h
  cases e : ns[i]? with
  | none =>
    rw [e] at h
    cases h
  | some z =>
    rw [e] at h
    exact ⟨z, rfl, (Option.some.inj h).symm⟩
theorem fm (a : Int) {b : Int} (h : 0 < b) : 0 ≤ a.fmod b ∧ a.fmod b < b := ⟨Int.fmod_nonneg_of_pos a h, Int.fmod_lt_of_pos a h⟩
theorem mulS {i j : Int} (hi : i.natAbs < 2 ^ 200) (hj : j.natAbs < 2 ^ 200) : CMulW i j := wide_mul hi hj (by decide) (by decide) (by decide)
theorem nz {j : Int} (h : j ≠ 0) : j ≠ 0 := h
theorem sz {n : Nat} (h : n ≤ 100000) : n ≤ sizeLine := Nat.le_trans h (by decide)
theorem szl {n : Nat} (h : n < 100000) : n < sizeLine := Nat.lt_of_lt_of_le h (by decide)
theorem at0 {α : Type} {x : α} {l : List α} : atI (x :: l) 0 = some x := atI_nat (j := 0) rfl
theorem at1 {α : Type} {x y : α} {l : List α} : atI (x :: y :: l) 1 = some y := atI_nat (j := 1) rfl
theorem at2 {α : Type} {x y z : α} {l : List α} : atI (x :: y :: z :: l) 2 = some z := atI_nat (j := 2) rfl
theorem at3 {α : Type} {x y z u : α} {l : List α} : atI (x :: y :: z :: u :: l) 3 = some u := atI_nat (j := 3) rfl
theorem at4 {α : Type} {x y z u v : α} {l : List α} : atI (x :: y :: z :: u :: v :: l) 4 = some v := atI_nat (j := 4) rfl
theorem at5 {α : Type} {a0 a1 a2 a3 a4 a5 : α} {l : List α} : atI (a0 :: a1 :: a2 :: a3 :: a4 :: a5 :: l) 5 = some a5 := atI_nat (j := 5) rfl
theorem at6 {α : Type} {a0 a1 a2 a3 a4 a5 a6 : α} {l : List α} : atI (a0 :: a1 :: a2 :: a3 :: a4 :: a5 :: a6 :: l) 6 = some a6 := atI_nat (j := 6) rfl
theorem at7 {α : Type} {a0 a1 a2 a3 a4 a5 a6 a7 : α} {l : List α} : atI (a0 :: a1 :: a2 :: a3 :: a4 :: a5 :: a6 :: a7 :: l) 7 = some a7 := atI_nat (j := 7) rfl
theorem pick2 {x y : V} (b : Bool) : atI [x, y] (if b = true then 1 else 0) = some (if b = true then y else x) := by
  cases b
  · exact at0
  · exact at1
theorem at_lt {α : Type} {l : List α} {i : Int} (h0 : 0 ≤ i) (h1 : i < (l.length : Int)) : ∃ x, atI l i = some x ∧ x ∈ l ∧ l[i.toNat]? = some x := by
  have hj : i.toNat < l.length := by omega
  have e : ((i.toNat : Nat) : Int) = i := by omega
  refine ⟨l[i.toNat], ?_, List.getElem_mem hj, List.getElem?_eq_getElem hj⟩
  have z := atI_nat (xs := l) (j := i.toNat) (v := l[i.toNat]) (List.getElem?_eq_getElem hj)
  rw [e] at z
  exact z
theorem same_mut {H H' : Hp} {p : Addr} {o : HO} (s : Same H H') (h : H p = none) : Same H (upd H' p o) := fun b u e => by
  rw [upd_ne (ne_of_none e h)]
  exact s b u e
/-- an own list is changed -/
theorem gw_mut {T : List (Addr × Str)} {H H' : Hp} {p : Addr} {xs ys : List V} (g : Gw T H H') (h : H p = none) (hp : H' p = some (.lst xs)) : Gw T H (upd H' p (.lst ys)) := by
  refine ⟨fun b o e n => ?_, fun t q hq => ?_⟩
  · rw [upd_ne (ne_of_none e h)]
    exact g.1 b o e n
  · obtain ⟨ps, h1, h2, h3⟩ := g.2 t q hq
    have ne1 : q.1 ≠ p := fun z => by rw [z, hp] at h1; cases h1
    refine ⟨ps, by rw [upd_ne ne1]; exact h1, h2, fun pos cv hc => ?_⟩
    obtain ⟨c, e1, e2⟩ := h3 pos cv hc
    have ne2 : c ≠ p := fun z => by
      rw [z, hp] at e2
      exact absurd (Option.some.inj e2) (fun k => by unfold LamX.CodeO at k; cases k)
    exact ⟨c, e1, by rw [upd_ne ne2]; exact e2⟩
theorem gw_mutT {T : List (Addr × Str)} {H H' : Hp} {p : Addr} {xs ys : List (List Key × V)} (g : Gw T H H') (h : H p = none) (hp : H' p = some (.dT xs)) : Gw T H (upd H' p (.dT ys)) := by
  refine ⟨fun b o e n => ?_, fun t q hq => ?_⟩
  · rw [upd_ne (ne_of_none e h)]
    exact g.1 b o e n
  · obtain ⟨ps, h1, h2, h3⟩ := g.2 t q hq
    have ne1 : q.1 ≠ p := fun z => by rw [z, hp] at h1; cases h1
    refine ⟨ps, by rw [upd_ne ne1]; exact h1, h2, fun pos cv hc => ?_⟩
    obtain ⟨c, e1, e2⟩ := h3 pos cv hc
    have ne2 : c ≠ p := fun z => by
      rw [z, hp] at e2
      exact absurd (Option.some.inj e2) (fun k => by unfold LamX.CodeO at k; cases k)
    exact ⟨c, e1, by rw [upd_ne ne2]; exact e2⟩
/-! ### kinds -/
def isI : PyData → Bool
  | .int _ => true
  | .bool _ => true
  | _ => false
def isB : PyData → Bool
  | .bool _ => true
  | _ => false
def isU : PyData → Bool
  | .tuple _ => true
  | _ => false
def isS : PyData → Bool
  | .str _ => true
  | _ => false
def isL : PyData → Bool
  | .list _ => true
  | _ => false
theorem kit_int : ∀ d : PyData, kitB (tyN d) "int" = some (isI d)
  | .none => (by decide +kernel : kitB "NoneType" "int" = some false)
  | .bool _ => (by decide +kernel : kitB "bool" "int" = some true)
  | .int _ => (by decide +kernel : kitB "int" "int" = some true)
  | .str _ => (by decide +kernel : kitB "str" "int" = some false)
  | .list _ => (by decide +kernel : kitB "list" "int" = some false)
  | .tuple _ => (by decide +kernel : kitB "tuple" "int" = some false)
  | .dict _ => (by decide +kernel : kitB "dict" "int" = some false)
theorem kit_bool : ∀ d : PyData, kitB (tyN d) "bool" = some (isB d)
  | .none => (by decide +kernel : kitB "NoneType" "bool" = some false)
  | .bool _ => (by decide +kernel : kitB "bool" "bool" = some true)
  | .int _ => (by decide +kernel : kitB "int" "bool" = some false)
  | .str _ => (by decide +kernel : kitB "str" "bool" = some false)
  | .list _ => (by decide +kernel : kitB "list" "bool" = some false)
  | .tuple _ => (by decide +kernel : kitB "tuple" "bool" = some false)
  | .dict _ => (by decide +kernel : kitB "dict" "bool" = some false)
theorem kit_tuple : ∀ d : PyData, kitB (tyN d) "tuple" = some (isU d)
  | .none => (by decide +kernel : kitB "NoneType" "tuple" = some false)
  | .bool _ => (by decide +kernel : kitB "bool" "tuple" = some false)
  | .int _ => (by decide +kernel : kitB "int" "tuple" = some false)
  | .str _ => (by decide +kernel : kitB "str" "tuple" = some false)
  | .list _ => (by decide +kernel : kitB "list" "tuple" = some false)
  | .tuple _ => (by decide +kernel : kitB "tuple" "tuple" = some true)
  | .dict _ => (by decide +kernel : kitB "dict" "tuple" = some false)
theorem kit_str : ∀ d : PyData, kitB (tyN d) "str" = some (isS d)
  | .none => (by decide +kernel : kitB "NoneType" "str" = some false)
  | .bool _ => (by decide +kernel : kitB "bool" "str" = some false)
  | .int _ => (by decide +kernel : kitB "int" "str" = some false)
  | .str _ => (by decide +kernel : kitB "str" "str" = some true)
  | .list _ => (by decide +kernel : kitB "list" "str" = some false)
  | .tuple _ => (by decide +kernel : kitB "tuple" "str" = some false)
  | .dict _ => (by decide +kernel : kitB "dict" "str" = some false)
theorem kit_list : ∀ d : PyData, kitB (tyN d) "list" = some (isL d)
  | .none => (by decide +kernel : kitB "NoneType" "list" = some false)
  | .bool _ => (by decide +kernel : kitB "bool" "list" = some false)
  | .int _ => (by decide +kernel : kitB "int" "list" = some false)
  | .str _ => (by decide +kernel : kitB "str" "list" = some false)
  | .list _ => (by decide +kernel : kitB "list" "list" = some true)
  | .tuple _ => (by decide +kernel : kitB "tuple" "list" = some false)
  | .dict _ => (by decide +kernel : kitB "dict" "list" = some false)
/-! ### more readings -/
section
variable {K : PySem.W.Frag} {T : List (Addr × Str)} {σ : L2.St} {H : Hp} {te ta tb : TE} {d : PyData} {ds : List PyData}
theorem rp_ints {H : Hp} : ∀ ns : List Int, RpAll K H (ns.map V.int) (ns.map PyData.int)
  | [] => .nil
  | n :: ns => .cons (.int n) (rp_ints ns)
theorem rp_strs {H : Hp} : ∀ ns : List Str, RpAll K H (ns.map V.str) (ns.map PyData.str)
  | [] => .nil
  | n :: ns => .cons (.str n) (rp_strs ns)
theorem gv_ixS {z : Str} {i : Int} {c : Nat} (ha : Gv K T ta σ H (.str z)) (hb : Gv K T tb σ H (.int i)) (hz : z.length ≤ 1000) (hc : atI z.cps.toList i = some c) : Gv K T (tOp rIxS ta tb) σ H (.str ⟨#[c]⟩) := fun H1 e Q q =>
  ha H1 e _ fun v H2 e2 r2 => hb H2 (e.trans e2) _ fun u H3 e3 r3 => by
    cases r2
    cases r3
    exact ⟨z, i, c, rfl, rfl, Nat.le_trans hz (by decide), hc, q _ H3 (e2.trans e3) (.str _)⟩
theorem gv_repS {z : Str} {n : Nat} (ha : Gv K T ta σ H (.str z)) (hb : Gv K T tb σ H (.int (n : Int))) (hz : z.length ≤ 1000) (hn : n ≤ 1000) : Gv K T (tOp rRepS ta tb) σ H (.str (repS z n)) := fun H1 e Q q =>
  ha H1 e _ fun v H2 e2 r2 => hb H2 (e.trans e2) _ fun u H3 e3 r3 => by
    cases r2
    cases r3
    exact ⟨z, n, rfl, rfl, hn, hz, q _ H3 (e2.trans e3) (.str _)⟩
def rAddS : R2 := fun x y H Q => ∃ i j, x = .str i ∧ y = .str j ∧ i.length + j.length ≤ sizeLine ∧ Q (.str (i ++ j)) H
theorem op_addS {X : Cx} : OpR X (binaryOp .Add) rAddS := op_add_str
theorem gv_addS {z y : Str} (ha : Gv K T ta σ H (.str z)) (hb : Gv K T tb σ H (.str y)) (hz : z.length + y.length ≤ 10000) : Gv K T (tOp rAddS ta tb) σ H (.str (z ++ y)) := fun H1 e Q q =>
  ha H1 e _ fun v H2 e2 r2 => hb H2 (e.trans e2) _ fun u H3 e3 r3 => by
    cases r2
    cases r3
    exact ⟨z, y, rfl, rfl, Nat.le_trans hz (by decide), q _ H3 (e2.trans e3) (.str _)⟩
theorem Gv.to {d' : PyData} (h : Gv K T te σ H d) (e : d = d') : Gv K T te σ H d' := e ▸ h
end
end LB

namespace LB
open PySem PySem.Spec PyProof.Rows L2
/-! ### data without lists stay when an own list is changed -/
mutual
def tupD : PyData → Bool
  | .none => true
  | .bool _ => true
  | .int _ => true
  | .str _ => true
  | .tuple ds => tupDs ds
  | .list _ => false
  | .dict _ => false
def tupDs : List PyData → Bool
  | [] => true
  | d :: ds => tupD d && tupDs ds
end
theorem tupDs_all : ∀ {ds : List PyData}, (∀ d ∈ ds, tupD d = true) → tupDs ds = true
  | [], _ => rfl
  | d :: ds, h => by
    unfold tupDs
    rw [h d List.mem_cons_self, tupDs_all fun x hx => h x (List.mem_cons_of_mem _ hx)] <;> rfl
/-- no tuple stands at p -/
def NoTup (H : Hp) (p : Addr) : Prop := ∀ xs, ¬ Rd H p (.tup xs)
theorem noTup_lst {H : Hp} {p : Addr} {xs : List V} (h : H p = some (.lst xs)) : NoTup H p := fun ys z => by
  rcases z with z | ⟨o, z⟩ <;> rw [h] at z <;> cases z
theorem noTup_dT {H : Hp} {p : Addr} {xs : List (List Key × V)} (h : H p = some (.dT xs)) : NoTup H p := fun ys z => by
  rcases z with z | ⟨o, z⟩ <;> rw [h] at z <;> cases z
theorem sqT_mut {K : PySem.W.Frag} {H : Hp} {p a : Addr} {o : HO} {xs : List V} (hp : NoTup H p) (h : SqT K H a xs) : SqT K (upd H p o) a xs := by
  rcases h with h | h
  · have n : a ≠ p := fun z => hp xs (by rw [← z]; exact h)
    refine .inl ?_
    rcases h with h | ⟨u, h⟩
    · exact .inl (by rw [upd_ne n]; exact h)
    · exact .inr ⟨u, by rw [upd_ne n]; exact h⟩
  · exact .inr h
theorem tp_mut {H : Hp} {p a : Addr} {o : HO} {xs : List V} (hp : NoTup H p) (h : H a = some (.tup xs)) : upd H p o a = some (.tup xs) := by
  rw [upd_ne fun z => hp xs (by rw [← z]; exact .inl h)]
  exact h
mutual
theorem rp_mut {K : PySem.W.Frag} {H : Hp} {p : Addr} {o : HO} (hp : NoTup H p) : ∀ {v : V} {d : PyData}, tupD d = true → Rp K H v d → Rp K (upd H p o) v d
  | _, _, _, .non => .non
  | _, _, _, .bl b => .bl b
  | _, _, _, .int i => .int i
  | _, _, _, .str x => .str x
  | _, _, h, .lst _ _ => absurd h (by simp [tupD])
  | _, _, h, .tup hs ha => .tup (tp_mut hp hs) (rps_mut hp (by simpa [tupD] using h) ha)
  | _, _, h, .dct _ _ _ => absurd h (by simp [tupD])
  | _, _, h, .dcT _ _ _ => absurd h (by simp [tupD])
theorem rps_mut {K : PySem.W.Frag} {H : Hp} {p : Addr} {o : HO} (hp : NoTup H p) : ∀ {vs : List V} {ds : List PyData}, tupDs ds = true → RpAll K H vs ds → RpAll K (upd H p o) vs ds
  | _, _, _, .nil => .nil
  | _, _, h, .cons h1 h2 => by
    unfold tupDs at h
    rw [Bool.and_eq_true] at h
    exact .cons (rp_mut hp h.1 h1) (rps_mut hp h.2 h2)
end
/-! ### readings that give some datum; tests -/
section
variable (K : PySem.W.Frag) (T : List (Addr × Str))
def Gn (te : TE) (σ : L2.St) (H : Hp) (Pd : PyData → Prop) : Prop := ∀ H1, Gw T H H1 → ∀ Q : VK, (∀ v d H2, Pd d → Gw T H1 H2 → Rp K H2 v d → Q v H2) → te σ H1 Q
def Gt (t : TT) (σ : L2.St) (H : Hp) (b : Bool) : Prop := ∀ H1, Gw T H H1 → ∀ Q : Bool → Hp → Prop, (∀ H2, Gw T H1 H2 → Q b H2) → t σ H1 Q
end
section
variable {K : PySem.W.Frag} {T : List (Addr × Str)} {σ : L2.St} {H : Hp} {te ta tb : TE} {d : PyData} {ds : List PyData} {b c : Bool} {tt tu : TT}
theorem Gv.n (h : Gv K T te σ H d) : Gn K T te σ H (· = d) := fun H1 g Q q => h H1 g Q fun v H2 g2 r => q v d H2 rfl g2 r
theorem Gv.up {H' : Hp} (h : Gv K T te σ H d) (g : Gw T H H') : Gv K T te σ H' d := fun H1 g1 Q q => h H1 (g.trans g1) Q q
theorem gt_test (h : Gv K T te σ H (.bool b)) : Gt T (tTest te) σ H b := fun H1 g Q q => h H1 g _ fun v H2 g2 r => by
  cases r
  exact ⟨b, rfl, q H2 g2⟩
theorem gt_val (h : Gv K T te σ H (.bool b)) : Gt T (tB te) σ H b := fun H1 g Q q => h H1 g _ fun v H2 g2 r => by
  cases r
  exact ⟨b, rfl, q H2 g2⟩
theorem gt_not (h : Gt T tt σ H b) : Gt T (tNot tt) σ H (!b) := fun H1 g Q q => h H1 g _ fun H2 g2 => q H2 g2
theorem gt_and (h : Gt T tt σ H b) (h2 : b = true → Gt T tu σ H c) : Gt T (tAnd tt tu) σ H (b && c) := fun H1 g Q q => h H1 g _ fun H2 g2 => by
  cases b with
  | false => exact iteF (q H2 g2)
  | true => exact iteT (h2 rfl H2 (g.trans g2) _ fun H3 g3 => q H3 (g2.trans g3))
theorem gt_or (h : Gt T tt σ H b) (h2 : b = false → Gt T tu σ H c) : Gt T (tOr tt tu) σ H (b || c) := fun H1 g Q q => h H1 g _ fun H2 g2 => by
  cases b with
  | false => exact iteF (h2 rfl H2 (g.trans g2) _ fun H3 g3 => q H3 (g2.trans g3))
  | true => exact iteT (q H2 g2)
theorem gv_and (h : Gv K T ta σ H (.bool b)) (h2 : b = true → Gv K T tb σ H (.bool c)) : Gv K T (tAndV ta tb) σ H (.bool (b && c)) := fun H1 g Q q => h H1 g _ fun v H2 g2 r => by
  cases r
  refine ⟨b, rfl, ?_⟩
  cases b with
  | false => exact iteF (q _ H2 g2 (.bl _))
  | true => exact iteT (h2 rfl H2 (g.trans g2) _ fun v H3 g3 r3 => q v H3 (g2.trans g3) r3)
theorem gv_eqI {i j : Int} (ha : Gv K T ta σ H (.int i)) (hb : Gv K T tb σ H (.int j)) : Gv K T (tOp rEq ta tb) σ H (.bool (decide (i = j))) := fun H1 e Q q =>
  ha H1 e _ fun v H2 e2 r2 => hb H2 (e.trans e2) _ fun u H3 e3 r3 => by
    cases r2
    cases r3
    refine ⟨rfl, q _ H3 (e2.trans e3) ?_⟩
    have e : decide (V.int i = V.int j) = decide (i = j) := by rw [dec_int, Bool.beq_eq_decide_eq]
    rw [e]
    exact .bl _
theorem gv_neI {i j : Int} (ha : Gv K T ta σ H (.int i)) (hb : Gv K T tb σ H (.int j)) : Gv K T (tOp rNe ta tb) σ H (.bool (!decide (i = j))) := fun H1 e Q q =>
  ha H1 e _ fun v H2 e2 r2 => hb H2 (e.trans e2) _ fun u H3 e3 r3 => by
    cases r2
    cases r3
    refine ⟨rfl, q _ H3 (e2.trans e3) ?_⟩
    have e : decide (V.int i = V.int j) = decide (i = j) := by rw [dec_int, Bool.beq_eq_decide_eq]
    rw [e]
    exact .bl _
theorem gv_len (ha : Gv K T ta σ H d) (h : d = .list ds ∨ d = .tuple ds) : Gv K T (tCB (fun xs H Q => ∃ x n, xs = [x] ∧ LenV K x H n ∧ Q (.int n) H) (tCons ta tNil)) σ H (.int (ds.length : Int)) := fun H1 e Q q =>
  ha H1 e _ fun v H2 e2 r2 => by
    rcases h with rfl | rfl
    · cases r2 with
      | lst hs ra => exact ⟨_, ds.length, rfl, .inl ⟨_, hs, ra.length.symm⟩, q _ H2 e2 (.int _)⟩
    · cases r2 with
      | tup hs ra => have hs := SqT.of (K := K) hs; exact ⟨_, ds.length, rfl, .inr ⟨_, hs, ra.length.symm⟩, q _ H2 e2 (.int _)⟩
theorem gv_isi {n : String} {b : Bool} (ha : Gv K T ta σ H d) (hk : kitB (tyN d) n = some b) : Gv K T (tCB (rIsiY K) (tCons ta (tCons (tC (.ty n)) tNil))) σ H (.bool b) := fun H1 e Q q =>
  ha H1 e _ fun v H2 e2 r2 => ⟨_, _, _, _, b, rfl, .ty n, r2.ty, kit_ty hk, q _ H2 e2 (.bl b)⟩
/-! own calls -/
theorem gn_call {sp : Sp} {E : XK} {ta : TA} {Pd : PyData → Prop} (ha : GvA K T ta σ H ds) (hs : ∀ vs H1, Gw T H H1 → RpAll K H1 vs ds → ∀ Q : VK, (∀ v d H2, Pd d → Gw T H1 H2 → Rp K H2 v d → Q v H2) → sp (vs ++ []) H1 Q E) : Gn K T (tCall sp [] E ta) σ H Pd := fun H1 e Q q =>
  ha H1 e _ fun vs H2 e2 r2 => hs vs H2 (e.trans e2) r2 Q fun v d H3 p g r => q v d H3 p (e2.trans g) r
theorem gv_call {sp : Sp} {E : XK} {ta : TA} (ha : GvA K T ta σ H ds) (hs : ∀ vs H1, Gw T H H1 → RpAll K H1 vs ds → ∀ Q : VK, (∀ v H2, Gw T H1 H2 → Rp K H2 v d → Q v H2) → sp (vs ++ []) H1 Q E) : Gv K T (tCall sp [] E ta) σ H d := fun H1 e Q q =>
  ha H1 e _ fun vs H2 e2 r2 => hs vs H2 (e.trans e2) r2 Q fun v H3 g r => q v H3 (e2.trans g) r
/-! statements -/
theorem s_if {t u : TS} {D : Ends} (h : Gt T tt σ H b) (h1 : b = true → ∀ H2, Gw T H H2 → t D σ H2) (h2 : b = false → ∀ H2, Gw T H H2 → u D σ H2) : tIfS tt t u D σ H := h H (Gw.refl T H) _ fun H2 g => by
  cases b with
  | false => exact iteF (h2 rfl H2 g)
  | true => exact iteT (h1 rfl H2 g)
theorem sq_if {t u v : TS} {D : Ends} (h : Gt T tt σ H b) (h1 : b = true → ∀ H2, Gw T H H2 → t { D with nx := v D } σ H2) (h2 : b = false → ∀ H2, Gw T H H2 → u { D with nx := v D } σ H2) : tSeq (tIfS tt t u) v D σ H := s_if h h1 h2
theorem cut_if {t u v : TS} {D : Ends} (Mid : L2.St → Hp → Prop) (h : Gt T tt σ H b) (h1 : b = true → ∀ H2, Gw T H H2 → t { D with nx := Mid } σ H2) (h2 : b = false → ∀ H2, Gw T H H2 → u { D with nx := Mid } σ H2) (h3 : ∀ σ' H', Mid σ' H' → v D σ' H') : C8.tCut (tIfS tt t u) v D σ H := ⟨Mid, s_if h h1 h2, h3⟩
theorem sq_asgn {u : TS} {D : Ends} {i : Nat} {Pd : PyData → Prop} (h : Gn K T te σ H Pd) (k : ∀ v d H2, Pd d → Gw T H H2 → Rp K H2 v d → u D (σ.set i (some v)) H2) : tSeq (tAsg te (gName i)) u D σ H := h H (Gw.refl T H) _ k
theorem s_ret1 {D : Ends} (h : Gv K T te σ H d) (k : ∀ v H2, Gw T H H2 → Rp K H2 v d → D.rt v H2) : tRet te D σ H := h H (Gw.refl T H) _ k
theorem sq_forR {g : TG} {tb u : TS} {D : Ends} {m : Nat} (h : Gv K T te σ H (.int (m : Int))) (hm : m < 100000) (Ps : Nat → L2.St → Hp → Prop) (h0 : ∀ H1, Gw T H H1 → Ps 0 σ H1)
    (hs : ∀ i σ' H', i < m → Ps i σ' H' → g (.int (i : Int)) σ' H' fun σ2 H2 => tb { nx := fun σ3 H3 => Ps (i + 1) σ3 H3, rt := D.rt, bk := u D, ct := fun σ3 H3 => Ps (i + 1) σ3 H3 } σ2 H2)
    (hd : ∀ σ' H', Ps m σ' H' → u D σ' H') : tSeq (tFor (iRng1 (tCons te tNil)) g tb) u D σ H := h H (Gw.refl T H) _ fun v H1 g1 r => by
  cases r
  have em : (m : Int).toNat = m := by omega
  refine ⟨(m : Int), rfl, by omega, by omega, for_range (lo := 0) (n := (m : Int).toNat) (fun i σ H' => Ps i σ H') (h0 H1 g1) (fun i σ' H' hi hp => ?_) fun σ' H' hp => hd σ' H' (em ▸ hp)⟩
  have z := hs i σ' H' (by omega) hp
  have e : (0 : Int) + (i : Int) = (i : Int) := by omega
  rw [e]
  exact z
end
end LB

namespace LB
open PySem PySem.Spec PyProof.Rows L2 PySem.W PySem.SeqAt
section
variable {A : Around} {s : Shared}
/-- the call of tuple's own __lt__, as sorting makes it -/
theorem call_tuple_lt {prog : Program} {w : World} {E : Value → Shared → Prop} {Q : Value → Shared → Prop} {l b : Addr} {items items2 : Array Value} {e r : Nat → Bool} (hl : s.heap.IsTuple l items) (hb : s.heap.IsTuple b items2)
    (he : ∀ j (h1 : j < items.size) (h2 : j < items2.size), EqAt A.in1 s items[j] items2[j] (e j)) (hr : ∀ j (h1 : j < items.size) (h2 : j < items2.size), e j = false → RcLt A.in1 s items[j] items2[j] (r j))
    (h : Q (.bool (firstLt e r (decide (items.size < items2.size)) (List.range (min items.size items2.size)))) s) : wpAny (model prog w) A (call (.builtin "tuple.__lt__") [.ref l, .ref b]) Q E s := by
  obtain ⟨⟨cls, dd, data, sl⟩, ho, hc, n, hd⟩ := id hl
  obtain ⟨⟨cls2, dd2, data2, sl2⟩, ho2, hc2, n2, hd2⟩ := id hb
  simp only at hc hd hc2 hd2
  subst hc hd hc2 hd2
  exact call_meets F.slot_tuple_lt ⟨_, ho, rfl⟩ F.entry_tuple_lt (F.args_tuple_lt_2 _ _) (tuple_ltAt l b items items2 n n2 dd dd2 sl sl2 e r) ⟨ho, ho2, he, hr, h⟩
theorem oneLt_tuple {prog : Program} {w : World} {E : Value → Shared → Prop} {xs ys : List PyData} {a b : Value} {as bs : List Addr} {Q : Bool → Shared → Prop} (ra : Reads s.heap a (.tuple xs) as) (rb : Reads s.heap b (.tuple ys) bs) (h : alike (.tuple xs) (.tuple ys) = true)
    (hu : A.units + min (PyData.tuple xs).depth (PyData.tuple ys).depth < cLine) (hq : Q (dataLt (.tuple xs) (.tuple ys)) s) : wpAny (model prog w) A (oneLt' true a b) Q E s := by
  have hal : alikeAll xs ys = true := by simpa [alike] using h
  cases ra with
  | @tuple l o vs n _ as₁ h1 h2 h3 h4 =>
    cases rb with
    | @tuple l' o' vs' n' _ bs₁ k1 k2 k3 k4 =>
      have n1 : vs.size = xs.length := by simpa using ReadsAll.length _ _ _ h4
      have n2 : vs'.size = ys.length := by simpa using ReadsAll.length _ _ _ k4
      rw [dataLt_tuple, ← firstLt_toks xs ys hal, ← n1, ← n2] at hq
      rw [oneLt'_eq]
      simp only [if_true]
      refine wpAny_bind (wpAny_cRoomFor (room_here hu) ?_)
      refine wpAny_bind (wpAny_callSpecialIfBound?_slot (T := "tuple") ⟨_, h1, h2⟩ F.slot_tuple_lt (call_tuple_lt (e := pairEq xs ys) (r := fun j => dataLt (xs.getD j .none) (ys.getD j .none)) ⟨_, h1, h2, _, h3⟩ ⟨_, k1, k2, _, k3⟩ (fun j j1 j2 => ?_) (fun j j1 j2 hj => ?_) ?_))
      · have := eqAt_alikeAll xs ys A.in1 s vs.toList vs'.toList _ _ h4 k4 hal (room_in hu) j (by simpa using j1) (by simpa using j2)
        simpa using this
      · have := rcLt_alikeAll xs ys A.in1 s vs.toList vs'.toList _ _ h4 k4 hal (room_in hu) j (by simpa using j1) (by simpa using j2) hj
        simpa using this
      · exact wpAny_truthy_bool hq
/-- tuples, the first of them empty -/
def Led (ds : List PyData) : Prop := ∃ r, ds = .tuple [] :: r ∧ ∀ d ∈ ds, ∃ xs, d = .tuple xs
theorem first_tup {M : Model} {E : Value → Shared → Prop} {v : Value} {xs : List PyData} {as : List Addr} {Q : Option Value → Shared → Prop} (r : Reads s.heap v (.tuple xs) as) (hq : ∀ o : Option Value, (xs = [] → o = none) → Q o s) : wpAny M A (firstOfTuple' v) Q E s := by
  rw [kas_first_eq]
  cases r with
  | @tuple l o vs n _ as₁ h1 h2 h3 h4 =>
    refine wpAny_bind (wpAny_typeOf_ref h1 ?_)
    rw [h2, if_neg (by decide)]
    refine wpAny_bind ?_
    unfold Builtin.List.listItems
    refine wpAny_bind (wpAny_seqItems h1 h3 (wpAny_pure (wpAny_pure (hq _ fun e => ?_))))
    subst e
    have h5 : vs.toList = [] := by
      cases q : vs.toList with
      | nil => rfl
      | cons a l =>
        rw [q] at h4
        cases h4
    have h6 : vs = #[] := by
      cases vs
      simp at h5
      rw [h5]
    rw [h6]
    rfl
theorem mapM_firsts {M : Model} {E : Value → Shared → Prop} : ∀ {vs : List Value} {ds : List PyData} {Q : List (Option Value) → Shared → Prop}, EachIs (fun v d => ∃ as, Reads s.heap v d as) vs ds → (∀ d ∈ ds, ∃ xs, d = .tuple xs) →
    (∀ os : List (Option Value), os.length = vs.length → (∀ r, ds = .tuple [] :: r → ∃ t, os = none :: t) → Q os s) → wpAny M A (vs.mapM firstOfTuple') Q E s
  | _, _, Q, .nil, _, h => by
    rw [List.mapM_nil]
    exact wpAny_pure (h [] rfl fun r e => nomatch e)
  | v :: vs, d :: ds, Q, .cons ⟨as, r⟩ t, ht, h => by
    rw [List.mapM_cons]
    obtain ⟨xs, rfl⟩ := ht d List.mem_cons_self
    refine wpAny_bind (first_tup r fun o ho => wpAny_bind (mapM_firsts t (fun d hd => ht d (List.mem_cons_of_mem _ hd)) fun os hl _ => wpAny_pure (h (o :: os) (by simp [hl]) fun r e => ?_)))
    have e1 : xs = [] := by
      injection e with e1 e2
      injection e1
    exact ⟨os, by rw [ho e1]⟩
theorem kind_led {M : Model} {E : Value → Shared → Prop} {vs : List Value} {ds : List PyData} {Q : SortKind → Shared → Prop} (e : EachIs (fun v d => ∃ as, Reads s.heap v d as) vs ds) (hl : Led ds) (h : Q oneType' s) : wpAny M A (keyKind' vs.toArray) Q E s := by
  obtain ⟨r, e1, ht⟩ := hl
  rw [keyKind'_eq, List.mapM_toArray, map_eq_pure_bind]
  refine wpAny_bind (wpAny_bind (mapM_firsts e ht fun os hlen h0 => wpAny_pure ?_))
  obtain ⟨t, rfl⟩ := h0 r e1
  rw [if_neg (by simp), if_neg (by simp)]
  rw [oneTypeOnly'_eq, List.mapM_toArray, map_eq_pure_bind]
  have hT : ∀ v ∈ vs, Looks M s.heap (typeOf v) (.type "tuple") := fun v hv => by
    obtain ⟨d, hd, as, q⟩ := e.left v hv
    obtain ⟨xs, rfl⟩ := ht d hd
    exact looks_reads q
  refine wpAny_bind (wpAny_bind (wpAny_bind (kas_mapM (r := Value.type "tuple") _ (fun v hv Q' hq => (hT v hv).here hq) (wpAny_pure ?_))))
  subst e1
  cases e with
  | cons q1 q2 =>
    rename_i v1 vs1
    have hall : ((List.map (fun _ => Value.type "tuple") (v1 :: vs1)).toArray.all fun x => x == Value.type "tuple") = true := by
      simp only [List.all_toArray, List.all_map, List.all_eq_true]
      intro _ _
      exact beq_self_eq_true _
    have h0 : (List.map (fun _ => Value.type "tuple") (v1 :: vs1)).toArray[0]? = some (Value.type "tuple") := by simp
    rw [h0]
    simp only [hall, if_true]
    exact wpAny_pure (wpAny_pure h)
theorem sorts_led {prog : Program} {w : World} {vs : List Value} {ds : List PyData} (e : EachIs (fun v d => ∃ as, Reads s.heap v d as) vs ds) (hal : AllAlike ds) (hk : Led ds) (hu : ∀ d, d ∈ ds → A.units + d.depth < cLine) : SortsAt prog w A s (dataKind s.heap ds) vs := by
  have room : ∀ {d d' : PyData}, d ∈ ds → A.units + min d.depth d'.depth < cLine := fun {d d'} hd => Nat.lt_of_le_of_lt (Nat.add_le_add_left (Nat.min_le_left _ _) _) (hu d hd)
  refine ⟨fun v hv => ?_, oneType', ?_, fun h2 E Q hq => kind_led e hk hq⟩
  · obtain ⟨d, hd, as, r⟩ := e.left v hv
    exact ⟨_, dataKind_some hal hd r⟩
  · intro E x y a b Q ha hb hq
    obtain ⟨d, as, hd, ra, rfl⟩ := dataKind_inv ha
    obtain ⟨d', as', hd', rb, rfl⟩ := dataKind_inv hb
    have al := hal d hd d' hd'
    have rm := room (d' := d') hd
    rw [keyLt'_oneType]
    obtain ⟨_, _, ht⟩ := hk
    obtain ⟨xs, rfl⟩ := ht d hd
    obtain ⟨ys, rfl⟩ := ht d' hd'
    exact oneLt_tuple ra rb al rm hq
theorem sorted_led {prog : Program} {w : World} {E : Value → Shared → Prop} {vs : List Value} {bs : List PyData} {R : Value → PyData → Prop} {l : Addr} {Q : Value → Shared → Prop} (hl : s.heap.IsList l vs.toArray) (e : EachIs R vs bs) (er : EachIs (fun v b => ∃ as, Reads s.heap v b as) vs bs) (hal : AllAlike bs) (hk : Led bs) (hL : bs.length ≤ sizeLine)
    (hu : ∀ b, b ∈ bs → A.units + 2 + b.depth < cLine) (h : ∀ out, out.length = bs.length → EachIs R out (bs.mergeSort (dataLe false id)) → Q (.ref (s.heap.objs.size + 1)) { s with heap := sortedAll s.heap vs (List.toArray out) }) :
    wpAny (model prog w) A (call (.builtin "sorted") [.ref l]) Q E s := by
  have er' : EachIs (fun v b => ∃ as, Reads (sortingHeap (copyHeap s.heap vs) (s.heap.objs.size + 1) vs) v b as) vs bs := er.mono fun _ _ ⟨as, r⟩ => ⟨as, PyProof.Rows.Reads.keeps (fun _ _ => sorting_copy_old) r⟩
  have hal' : AllAlike (bs.map id) := by rw [List.map_id]; exact hal
  have hf := sortVals_data (enc := id) (R := R) false e (er' : EachIs (fun v b => ∃ as, Reads (sortingHeap (copyHeap s.heap vs) (s.heap.objs.size + 1) vs) v (id b) as) vs bs) hal'
  rw [List.map_id] at hf
  exact sorted_vals hl (sorts_led (s := { s with heap := sortingHeap (copyHeap s.heap vs) (s.heap.objs.size + 1) vs }) er' hal hk hu) (by rw [e.length]; exact hL) (h _ (by rw [sortVals_length false rfl]; exact e.length) hf)
end
end LB
namespace LB
open PySem PySem.Spec PyProof.Rows L2 PySem.W PySem.SeqAt
/-- the sorted list of data -/
def sortD (ds : List PyData) : List PyData := ds.mergeSort (dataLe false id)
theorem sortD_perm (ds : List PyData) : (sortD ds).Perm ds := List.mergeSort_perm ds _
section
variable {X : Cx} {pins : List (Addr × Obj)} {σ : L2.St} {H : Hp} {s : Shared}
mutual
theorem reads_of (I : Inv X pins σ H s) : ∀ (d : PyData) (v : V) (u : Value), alike d d = true → Rp X.K H v d → RelV v u → ∃ as, Reads s.heap u d as
  | .none, _, _, _, .non, r => by
    cases (show _ = Value.none from r)
    exact ⟨_, .none⟩
  | .bool _, _, _, _, .bl b, r => by
    cases (show _ = Value.bool b from r)
    exact ⟨_, .bool b⟩
  | .int _, _, _, _, .int i, r => by
    obtain ⟨t, rfl⟩ := r
    exact ⟨_, .int i t⟩
  | .str _, _, _, _, .str x, r => by
    obtain ⟨t, rfl⟩ := r
    exact ⟨_, .str x t⟩
  | .list ds, _, _, h, .lst hs ha, r => by
    cases (show _ = Value.ref _ from r)
    obtain ⟨its, rv, pl, hz⟩ := I.list hs
    obtain ⟨as, q⟩ := readsAll_of I ds _ its (by simpa [alike] using h) ha rv
    obtain ⟨o, h1, h2, n, h3⟩ := pl.isList
    exact ⟨_, .list h1 h2 h3 (by simpa using q)⟩
  | .tuple ds, _, _, h, .tup hs0 ha, r => by
    have hs := SqT.of (K := X.K) hs0
    cases (show _ = Value.ref _ from r)
    obtain ⟨its, rv, pl, hz⟩ := I.tuple hs
    obtain ⟨as, q⟩ := readsAll_of I ds _ its (by simpa [alike] using h) ha rv
    obtain ⟨o, h1, h2, n, h3⟩ := pl
    exact ⟨_, .tuple h1 h2 h3 (by simpa using q)⟩
  | .dict _, _, _, h, _, _ => absurd h (by simp [alike])
theorem readsAll_of (I : Inv X pins σ H s) : ∀ (ds : List PyData) (vs : List V) (us : List Value), alikeAll ds ds = true → RpAll X.K H vs ds → Vals vs us → ∃ as, ReadsAll s.heap us ds as
  | [], _, _, _, .nil, .nil => ⟨_, .nil⟩
  | d :: ds, _, _, h, .cons h1 h2, .cons r1 r2 => by
    obtain ⟨a1, a2⟩ := alike_all_cons h
    obtain ⟨as, q1⟩ := reads_of I d _ _ a1 h1 r1
    obtain ⟨bs, q2⟩ := readsAll_of I ds _ _ a2 h2 r2
    exact ⟨_, .cons q1 q2⟩
end
theorem each_of (I : Inv X pins σ H s) : ∀ {ds : List PyData} {vs : List V} {us : List Value}, (∀ d ∈ ds, alike d d = true) → RpAll X.K H vs ds → Vals vs us →
    EachIs (fun u d => ∃ v, Rp X.K H v d ∧ RelV v u) us ds ∧ EachIs (fun u d => ∃ as, Reads s.heap u d as) us ds
  | [], _, _, _, .nil, .nil => ⟨.nil, .nil⟩
  | d :: ds, _, _, h, .cons h1 h2, .cons r1 r2 => by
    obtain ⟨q1, q2⟩ := each_of I (fun d hd => h d (List.mem_cons_of_mem _ hd)) h2 r2
    exact ⟨.cons ⟨_, h1, r1⟩ q1, .cons (reads_of I d _ _ (h d List.mem_cons_self) h1 r1) q2⟩
theorem of_each : ∀ {us : List Value} {ds : List PyData}, EachIs (fun u d => ∃ v, Rp X.K H v d ∧ RelV v u) us ds → ∃ vs, RpAll X.K H vs ds ∧ Vals vs us
  | _, _, .nil => ⟨[], .nil, .nil⟩
  | _, _, .cons ⟨v, h1, h2⟩ t => by
    obtain ⟨vs, q1, q2⟩ := of_each t
    exact ⟨v :: vs, .cons h1 q1, .cons h2 q2⟩
/-- data that sorted takes -/
structure Srt (ds : List PyData) : Prop where
  al : AllAlike ds
  ok : Sortable ds ∨ Led ds
  dp : ∀ d ∈ ds, d.depth ≤ 40
  len : ds.length ≤ 100000
def rSortD (K : PySem.W.Frag) : List V → Hp → VK → Prop := fun vs H Q => ∃ (a : Addr) (xs : List V) (ds : List PyData), vs = [.ref a] ∧ SqL K H a xs ∧ RpAll K H xs ds ∧ Srt ds ∧ ∀ (p : Addr) (ys : List V), H p = none → RpAll K H ys (sortD ds) → Q (.ref p) (upd H p (.lst ys))
theorem cr_sortD (hu : X.A.units + 64 < cLine) : CallR X (.builtin "sorted") (rSortD X.K) := by
  intro pins s σ H xs us Q I r h
  obtain ⟨a, xs, ds, rfl, hs, ra, S, q⟩ := h
  obtain rfl := Vals.ref1 r
  obtain ⟨its, rv, pl, hz⟩ := I.list hs
  obtain ⟨e1, e2⟩ := each_of I (fun d hd => S.al d hd d hd) ra rv
  have hL : ds.length ≤ sizeLine := Nat.le_trans S.len (by decide)
  have hd : ∀ b, b ∈ ds → X.A.units + 2 + (id b : PyData).depth < cLine := fun b hb => by
    have := S.dp b hb
    show X.A.units + 2 + b.depth < cLine
    omega
  have fin : ∀ out : List Value, out.length = ds.length → EachIs (fun u d => ∃ v, Rp X.K H v d ∧ RelV v u) out (ds.mergeSort (dataLe false id)) → EP X pins σ Q (.ref (s.heap.objs.size + 1)) { s with heap := sortedAll s.heap its (List.toArray out) } := fun out hl e => by
    obtain ⟨ys, q1, q2⟩ := of_each e
    obtain ⟨c, hc⟩ := sortedAll_at s.heap its out.toArray
    have hn : H (s.heap.objs.size + 1) = none := I.hok.fresh (Nat.le_succ _)
    refine ⟨.ref (s.heap.objs.size + 1), upd H (s.heap.objs.size + 1) (.lst ys), I.laid (t' := s.toks) (fun b o e => sortedAll_old e) (Nat.le_succ _) (show ObjOk X.prog X.w _ _ _ (.lst ys) from ⟨?_, out, c, q2, hc⟩), rfl, q _ ys hn q1⟩
    rw [q2.length, hl]
    exact hL
  rcases S.ok with ok | ok
  · exact sorted_data (enc := id) (R := fun u d => ∃ v, Rp X.K H v d ∧ RelV v u) pl.isList e1 e2 (by rw [List.map_id]; exact S.al) (by rw [List.map_id]; exact ok) hL hd fin
  · exact sorted_led (R := fun u d => ∃ v, Rp X.K H v d ∧ RelV v u) pl.isList e1 e2 S.al ok hL hd fin
end
end LB

namespace LB
open PySem PySem.Spec PyProof.Rows L2 PySem.W PySem.SeqAt
def keysD (kvs : List (List Key × V)) : List PyData := kvs.map fun p => .tuple (p.1.map keyD)
/-- b is a tracked tuple of these keys -/
def TupK (H : Hp) (b : Addr) (d : PyData) : Prop := ∃ ks : List Key, d = .tuple (ks.map keyD) ∧ H b = some (.tup (ks.map kV))
theorem reads_keys {h : Heap} : ∀ {ks : List Key} {us : List Value}, Vals (ks.map kV) us → ReadsAll h us (ks.map keyD) []
  | [], _, .nil => .nil
  | .inl i :: ks, _, .cons r t => by
    obtain ⟨tk, rfl⟩ := r
    exact .cons (as := []) (bs := []) (.int i tk) (reads_keys t)
  | .inr x :: ks, _, .cons r t => by
    obtain ⟨tk, rfl⟩ := r
    exact .cons (as := []) (bs := []) (.str x tk) (reads_keys t)
theorem rp_keys {K : PySem.W.Frag} {H : Hp} : ∀ ks : List Key, RpAll K H (ks.map kV) (ks.map keyD)
  | [] => .nil
  | .inl i :: ks => .cons (.int i) (rp_keys ks)
  | .inr x :: ks => .cons (.str x) (rp_keys ks)
theorem TupK.rp {K : PySem.W.Frag} {H : Hp} {b : Addr} {d : PyData} (h : TupK H b d) : Rp K H (.ref b) d := by
  obtain ⟨ks, rfl, e⟩ := h
  exact .tup e (rp_keys ks)
section
variable {X : Cx} {pins : List (Addr × Obj)} {σ : L2.St} {H : Hp} {s : Shared}
theorem each_keys (I : Inv X pins σ H s) : ∀ {kvs : List (List Key × V)} {ks : List (List Key × Addr × Value)}, KT H kvs ks → EachIs (fun u d => ∃ b, u = Value.ref b ∧ TupK H b d) (ks.map fun x => Value.ref x.2.1) (keysD kvs) ∧ EachIs (fun u d => Reads s.heap u d []) (ks.map fun x => Value.ref x.2.1) (keysD kvs)
  | _, _, .nil => ⟨.nil, .nil⟩
  | p :: kvs, x :: ks, .cons h t => by
    obtain ⟨q1, q2⟩ := each_keys I t
    obtain ⟨e1, e2, _⟩ := h
    refine ⟨.cons ⟨_, rfl, p.1, rfl, e2⟩ q1, .cons ?_ q2⟩
    obtain ⟨_, its, rv, o, h1, h2, n, h3⟩ := (show ObjOk X.prog X.w H s.heap x.2.1 (.tup (p.1.map kV)) from I.hok _ _ e2)
    exact .tuple h1 h2 h3 (by simpa using reads_keys rv)
theorem of_keys : ∀ {us : List Value} {ds : List PyData}, EachIs (fun u d => ∃ b, u = Value.ref b ∧ TupK H b d) us ds → ∃ bs : List Addr, us = bs.map Value.ref ∧ EachIs (TupK H) bs ds
  | _, _, .nil => ⟨[], rfl, .nil⟩
  | _, _, .cons ⟨b, e, h⟩ t => by
    obtain ⟨bs, q1, q2⟩ := of_keys t
    exact ⟨b :: bs, by rw [e, q1]; rfl, .cons h q2⟩
def rSortDT : List V → Hp → VK → Prop := fun vs H Q => ∃ (d : Addr) (kvs : List (List Key × V)), vs = [.ref d] ∧ Rd H d (.dT kvs) ∧ Srt (keysD kvs) ∧ Sortable (keysD kvs) ∧ ∀ (p : Addr) (bs : List Addr), H p = none → EachIs (TupK H) bs (sortD (keysD kvs)) → Q (.ref p) (upd H p (.lst (bs.map V.ref)))
theorem cr_sortDT (hcalm : X.calm = true) (hu : X.A.units + 64 < cLine) : CallR X (.builtin "sorted") rSortDT := by
  intro pins s σ H xs us Q I r h
  obtain ⟨d, kvs, rfl, hd, S, ok, q⟩ := h
  obtain rfl := Vals.ref1 r
  obtain ⟨z, lo, ks, pr, o, es, ep, ho, hx, hdt, he, hn⟩ := (show ObjOk X.prog X.w H s.heap d (.dT kvs) from hd.ok I.hok)
  have l1 : es.size = ks.length := size_of_entries he
  have l2 : kvs.length = ks.length := Paired.length pr
  have hL : (keysD kvs).length ≤ sizeLine := Nat.le_trans S.len (by decide)
  refine Calls.call_function_entry PyProof.Rows.kind_sorted PyProof.Rows.plain_sorted PyProof.Rows.entry_sorted (PyProof.Rows.args_sorted1 _) ?_
  unfold Builtin.«sorted»
  refine wpAny_bind (m := checkCount "sorted" 1 1 _) (wpAny_pure ?_)
  refine wpAny_bind (PySem.W.kdu_collect (A := X.A.in1) (kdl_raw lo hx hdt) (I.ok.hd hcalm) ho (by omega) fun h' tk acc hk it => ?_)
  have ea : acc.toList = ks.map fun x => Value.ref x.2.1 := by
    have hl : acc.toList.length = ks.length := by rw [Array.length_toList, it.1]; exact l1
    apply List.ext_getElem?
    intro j
    rw [List.getElem?_map]
    cases hj : acc.toList[j]? with
    | none =>
      have h1 := List.getElem?_eq_none_iff.mp hj
      rw [List.getElem?_eq_none (by omega)]
      all_goals rfl
    | some v =>
      obtain ⟨en, hen, hv⟩ := it.2 j v (by rw [← Array.getElem?_toList]; exact hj)
      have qe := entry_at he j
      rw [hen] at qe
      cases hb : ks[j]? with
      | none =>
        rw [hb] at qe
        exact nomatch (show some en = none from qe)
      | some x =>
        rw [hb] at qe
        have e1 : en = entryOfKey (tupleKind (mixKind X.prog X.w)) x := Option.some.inj qe
        rw [hv, e1] <;> rfl
  have I1 : Inv X pins σ H { s with heap := h', toks := tk } := I.kept hk
  have hll : acc.toList.length = (keysD kvs).length := by rw [ea, List.length_map]; unfold keysD; rw [List.length_map]; exact l2.symm
  refine wpAny_bind (wpAny_newList ?_ (by rw [hll]; exact hL))
  have hoL : (h'.push (seqObj "list" acc.toList.toArray 0)).get? h'.objs.size = some (seqObj "list" acc.toList.toArray 0) := Heap.get?_push_size _ rfl
  have I2 : Inv X pins σ H { s with heap := h'.push (seqObj "list" acc.toList.toArray 0), toks := tk } := I1.kept (t' := tk) fun b o e => Heap.get?_push_of_some _ e
  obtain ⟨e1, e2⟩ := each_keys I2 pr
  rw [← ea] at e1 e2
  show wpAny _ _ _ _ _ { s with heap := h'.push (seqObj "list" acc.toList.toArray 0), toks := tk }
  refine wpAny_bind (wpAny_holding (list_sort_data (enc := id) (R := fun u d => ∃ b, u = Value.ref b ∧ TupK H b d) (s := { s with heap := h'.push (seqObj "list" acc.toList.toArray 0), toks := tk }) hoL e1 (e2.mono fun _ _ r => ⟨[], r, by simp⟩) (by rw [List.map_id]; exact S.al) (by rw [List.map_id]; exact ok) hL (fun b hb => ?_) fun out hlo eo => ?_))
  · have := S.dp b hb
    show X.A.units + 1 + 1 + b.depth < cLine
    omega
  · obtain ⟨bs, q1, q2⟩ := of_keys eo
    obtain ⟨e', he'⟩ := PyProof.Rows.sortedHeap_at (vs := acc.toList) (out := out.toArray) hoL
    have hn : H h'.objs.size = none := I1.hok.fresh (Nat.le_refl _)
    refine wpAny_pure ⟨_, rfl, .ref h'.objs.size, upd H h'.objs.size (.lst (bs.map V.ref)), I1.laid (t' := tk) (fun b u e => ?_) (Nat.le_refl _) (show ObjOk X.prog X.w _ _ _ (.lst (bs.map V.ref)) from ⟨?_, out, e', by rw [q1]; exact vals_refs bs, he'⟩), rfl, q _ bs hn q2⟩
    · have hb : b < h'.objs.size := Heap.lt_size e
      rw [PyProof.Rows.sortedHeap_old (Nat.ne_of_lt hb) (by rw [size_push']; exact Nat.lt_succ_of_lt hb)]
      exact Heap.get?_push_of_some _ e
    · rw [List.length_map]
      have e3 : bs.length = out.length := by rw [q1, List.length_map]
      rw [e3, hlo]
      exact hL
end
end LB

namespace LB
open PySem PySem.Spec PyProof.Rows L2
theorem room_u {k : Nat} {A : Around} (r : Room k A) : A.units + 1 < cLine := by have := r.un; omega
theorem room_u64 {k : Nat} {A : Around} (r : Room k A) : A.units + 64 < cLine := by have := r.un; omega
theorem room_u65 {k : Nat} {A : Around} (r : Room k A) : A.units + 65 < cLine := by have := r.un; omega
theorem szl' {n m : Nat} (h : n < m) (hm : m ≤ 100000) : n < sizeLine := Nat.lt_of_lt_of_le h (Nat.le_trans hm (by decide))
/-! ### list comprehensions over data, the target one name -/
section
variable {K : PySem.W.Frag} {T : List (Addr × Str)} {σ : L2.St} {H : Hp} {te ta tb tel : TE} {tt : TT} {d : PyData} {ds : List PyData} {wi : TI}
theorem wipe_one (σ : L2.St) (j : Nat) (x : Option V) : wipe ((wipe σ [j]).set j x) [j] = wipe σ [j] := by
  show (((σ.set j none).set j x).set j none) = σ.set j none
  rw [List.set_set, List.set_set]
/-- what a walk gives, whatever grows meanwhile -/
structure WalksR (R : Hp → V → PyData → Prop) (T : List (Addr × Str)) (J : It) (H1 : Hp) (ds : List PyData) : Prop where
  stop : ∀ H', Gw T H1 H' → J.stop ds.length H'
  go : ∀ i H', i < ds.length → Gw T H1 H' → J.go i H'
  yld : ∀ i H' x H'', i < ds.length → Gw T H1 H' → J.yld i H' x H'' → H'' = H' ∧ ∃ d, ds[i]? = some d ∧ R H' x d
abbrev Walks (K : PySem.W.Frag) (T : List (Addr × Str)) (J : It) (H1 : Hp) (ds : List PyData) : Prop := WalksR (fun H v d => Rp K H v d) T J H1 ds
theorem walks_l {H1 : Hp} {a : Addr} {xs : List V} (hs : SqL K H1 a xs) (ra : RpAll K H1 xs ds) : Walks K T (Itl K a) H1 ds := by
  refine ⟨fun H' g => ⟨xs, g.l hs, by rw [ra.length]; exact Nat.le_refl _⟩, fun i H' hi g => ?_, fun i H' x H'' hi g y => ⟨y.1, ?_⟩⟩
  · have hi' : i < xs.length := by rw [ra.length]; exact hi
    exact ⟨xs, xs[i], g.l hs, List.getElem?_eq_getElem hi'⟩
  · obtain ⟨d, h1, h2⟩ := ra.get (y.2 xs (g.l hs))
    exact ⟨d, h1, g.rp h2⟩
theorem walks_t {H1 : Hp} {a : Addr} {xs : List V} (hs : SqT K H1 a xs) (ra : RpAll K H1 xs ds) : Walks K T (Itt K a) H1 ds := by
  refine ⟨fun H' g => ⟨xs, g.t hs, by rw [ra.length]; exact Nat.le_refl _⟩, fun i H' hi g => ?_, fun i H' x H'' hi g y => ⟨y.1, ?_⟩⟩
  · have hi' : i < xs.length := by rw [ra.length]; exact hi
    exact ⟨xs, xs[i], g.t hs, List.getElem?_eq_getElem hi'⟩
  · obtain ⟨d, h1, h2⟩ := ra.get (y.2 xs (g.t hs))
    exact ⟨d, h1, g.rp h2⟩
/-- the numbers below m -/
def rngD (m : Nat) : List PyData := (List.range m).map fun i => PyData.int ((i : Nat) : Int)
theorem rngD_length (m : Nat) : (rngD m).length = m := by simp [rngD]
theorem walks_r {H1 : Hp} {m : Nat} : Walks K T (Itr 0 m) H1 (rngD m) := by
  refine ⟨fun H' g => ?_, fun i H' hi g => ?_, fun i H' x H'' hi g y => ⟨y.1, .int (i : Int), ?_, ?_⟩⟩
  · show m ≤ (rngD m).length
    rw [rngD_length]
    exact Nat.le_refl _
  · show i < m
    rw [rngD_length] at hi
    exact hi
  · rw [rngD_length] at hi
    unfold rngD
    rw [List.getElem?_map, List.getElem?_range hi] <;> rfl
  · have e : x = .int (0 + (i : Int)) := y.2
    rw [e, show (0 : Int) + (i : Int) = (i : Int) by omega]
    exact .int _
/-- the iterator's reading gives such a walk -/
def GiR (R : Hp → V → PyData → Prop) (T : List (Addr × Str)) (wi : TI) (σ : L2.St) (H : Hp) (ds : List PyData) : Prop := ∀ H1, Gw T H H1 → ∀ Q : It → Hp → Prop, (∀ J H2, Gw T H1 H2 → WalksR R T J H2 ds → Q J H2) → wi σ H1 Q
abbrev Gi (K : PySem.W.Frag) (T : List (Addr × Str)) (wi : TI) (σ : L2.St) (H : Hp) (ds : List PyData) : Prop := GiR (fun H v d => Rp K H v d) T wi σ H ds
theorem gi_l (h : Gv K T te σ H (.list ds)) : Gi K T (iList K te) σ H ds := fun H1 g R q => h H1 g _ fun v H2 g2 r => by
  cases r with
  | lst hs ra => exact ⟨_, rfl, ⟨_, hs⟩, q _ H2 g2 (walks_l hs ra)⟩
theorem gi_t (h : Gv K T te σ H (.tuple ds)) : Gi K T (iTup K te) σ H ds := fun H1 g R q => h H1 g _ fun v H2 g2 r => by
  cases r with
  | tup hs ra => have hs := SqT.of (K := K) hs; exact ⟨_, rfl, ⟨_, hs⟩, q _ H2 g2 (walks_t hs ra)⟩
theorem gi_r {m : Nat} (h : Gv K T te σ H (.int (m : Int))) (hm : m < 100000) : Gi K T (iRng1 (tCons te tNil)) σ H (rngD m) := fun H1 g R q => h H1 g _ fun v H2 g2 r => by
  cases r
  exact ⟨(m : Int), rfl, by omega, by omega, q _ H2 g2 walks_r⟩
theorem gt_yes : Gt T tYes σ H true := fun H1 _ Q q => q H1 (Gw.refl T H1)
theorem gv_lc {j : Nat} {R : Hp → V → PyData → Prop} (hw : GiR R T wi σ H ds) (hl : ds.length ≤ 100000) (p : PyData → Bool) (F : PyData → PyData) (hF : ∀ d ∈ ds, p d = true → tupD (F d) = true)
    (hs : ∀ v d H', Gw T H H' → d ∈ ds → R H' v d → Gt T tt ((wipe σ [j]).set j (some v)) H' (p d) ∧ (p d = true → Gv K T tel ((wipe σ [j]).set j (some v)) H' (F d))) :
    Gv K T (tLc wi (gName j) tt tel [j]) σ H (.list ((ds.filter p).map F)) := fun H0 g0 Q q => hw H0 g0 _ fun J H1 g1 W => by
  intro D hD
  have gn : Gw T H1 (upd H1 D (.lst [])) := gw_new hD
  refine ⟨fun i m H' => m = ds.length - i ∧ i ≤ ds.length ∧ Gw T H1 H' ∧ ∃ acc, H' D = some (.lst acc) ∧ RpAll K H' acc (((ds.take i).filter p).map F), ⟨ds.length, by simp, Nat.zero_le _, gn, [], upd_same, .nil⟩, ?_⟩
  rintro i m H' ⟨rfl, hi, g, acc, hacc, ra⟩
  by_cases hlt : i < ds.length
  · refine .inr ⟨W.go i H' hlt g, fun H'' => ∃ m', m' < ds.length - i ∧ (m' = ds.length - (i + 1) ∧ i + 1 ≤ ds.length ∧ Gw T H1 H'' ∧ ∃ acc, H'' D = some (.lst acc) ∧ RpAll K H'' acc (((ds.take (i + 1)).filter p).map F)), fun H'' h => h, fun x H'' y => ?_⟩
    obtain ⟨rfl, d, hd, rx⟩ := W.yld i H' x H'' hlt g y
    have hm : d ∈ ds := List.mem_of_getElem? hd
    obtain ⟨h1, h2⟩ := hs x d H'' (g0.trans (g1.trans g)) hm rx
    refine ⟨wipe_one σ j _, h1 H'' (Gw.refl T H'') _ fun H3 g3 => ?_⟩
    have tk := take_more hd
    cases hp : p d with
    | false =>
      refine iteF ⟨_, by omega, rfl, hlt, g.trans g3, acc, g3.lst hacc, ?_⟩
      rw [tk, List.filter_append, List.filter_cons_of_neg (by rw [hp]; decide)]
      simpa using g3.rpAll ra
    | true =>
      refine iteT (h2 hp H3 g3 _ fun v H4 g4 r4 => ?_)
      have hacc4 := g4.lst (g3.lst hacc)
      have la : acc.length ≤ ds.length := by
        rw [ra.length, List.length_map]
        exact Nat.le_trans (List.length_filter_le _ _) (by rw [List.length_take]; omega)
      refine ⟨acc, hacc4, szl' (Nat.lt_of_le_of_lt (by
        rw [ra.length, List.length_map]
        exact Nat.le_trans (List.length_filter_le _ _) (by rw [List.length_take]; omega)) hlt) hl, _, by omega, rfl, hlt, gw_mut (g.trans (g3.trans g4)) hD hacc4, acc ++ [v], upd_same, ?_⟩
      rw [tk, List.filter_append, List.filter_cons_of_pos hp, List.map_append]
      refine RpAll.append (rps_mut (noTup_lst hacc4) (tupDs_all fun e he => ?_) ((g3.trans g4).rpAll ra)) (.cons (rp_mut (noTup_lst hacc4) (hF d hm hp) r4) .nil)
      obtain ⟨e', he', rfl⟩ := List.mem_map.mp he
      obtain ⟨a1, a2⟩ := List.mem_filter.mp he'
      exact hF e' (List.mem_of_mem_take a1) a2
  · have e : i = ds.length := by omega
    subst e
    refine .inl ⟨W.stop H' g, q _ H' (g1.trans g) ?_⟩
    rw [List.take_length] at ra
    exact .lst (SqL.of hacc) ra
end
end LB

namespace LB
open PySem PySem.Spec PyProof.Rows L2
section
variable {K : PySem.W.Frag} {T : List (Addr × Str)} {σ : L2.St} {H : Hp} {te ta tb : TE} {d : PyData} {ds es : List PyData} {tl th : TO} {lo hi : Option Int}
/-- a cut of data -/
def cutD {α : Type} (xs : List α) (lo hi : Option Int) : List α := (xs.drop (HT.sIx xs.length 0 lo)).take (HT.sIx xs.length xs.length hi - HT.sIx xs.length 0 lo)
theorem RpAll.drop {H : Hp} : ∀ {xs : List V} {ds : List PyData} (n : Nat), RpAll K H xs ds → RpAll K H (xs.drop n) (ds.drop n)
  | _, _, 0, r => r
  | _, _, n + 1, .nil => .nil
  | _, _, n + 1, .cons _ r => RpAll.drop n r
theorem RpAll.take {H : Hp} : ∀ {xs : List V} {ds : List PyData} (n : Nat), RpAll K H xs ds → RpAll K H (xs.take n) (ds.take n)
  | _, _, 0, _ => .nil
  | _, _, n + 1, .nil => .nil
  | _, _, n + 1, .cons h r => .cons h (RpAll.take n r)
theorem RpAll.cut {H : Hp} {xs : List V} {ds : List PyData} (r : RpAll K H xs ds) (lo hi : Option Int) : RpAll K H (cutV xs lo hi) (cutD ds lo hi) := by
  unfold cutV cutD
  rw [r.length]
  exact (r.drop _).take _
theorem RpAll.reverse {H : Hp} : ∀ {xs : List V} {ds : List PyData}, RpAll K H xs ds → RpAll K H xs.reverse ds.reverse
  | _, _, .nil => .nil
  | _, _, .cons h r => by
    rw [List.reverse_cons, List.reverse_cons]
    exact RpAll.append (RpAll.reverse r) (.cons h .nil)
/-- an end of a slice -/
def Go (T : List (Addr × Str)) (tp : TO) (σ : L2.St) (H : Hp) (o : Option Int) : Prop := ∀ H1, Gw T H H1 → ∀ Q : Option Int → Hp → Prop, (∀ H2, Gw T H1 H2 → Q o H2) → tp σ H1 Q
theorem go_none : Go T tNoPart σ H none := fun H1 _ Q q => q H1 (Gw.refl T H1)
theorem go_some {i : Int} (h : Gv K T te σ H (.int i)) : Go T (tPart te) σ H (some i) := fun H1 g Q q => h H1 g _ fun v H2 g2 r => by
  cases r
  exact ⟨i, rfl, q H2 g2⟩
theorem gv_slL (h : Gv K T te σ H (.list ds)) (hl : Go T tl σ H lo) (hh : Go T th σ H hi) : Gv K T (tSl (rSlL K) te tl th) σ H (.list (cutD ds lo hi)) := fun H1 g Q q => h H1 g _ fun v H2 g2 r => hl H2 (g.trans g2) _ fun H3 g3 => hh H3 (g.trans (g2.trans g3)) _ fun H4 g4 => by
  cases r with
  | lst hs ra => exact ⟨_, _, rfl, (g3.trans g4).l hs, fun p hp => q _ _ ((g2.trans (g3.trans g4)).trans (gw_new hp)) (.lst (SqL.of upd_same) (RpAll.cut (((g3.trans g4).trans (gw_new hp)).rpAll ra) lo hi))⟩
theorem gv_slT (h : Gv K T te σ H (.tuple ds)) (hl : Go T tl σ H lo) (hh : Go T th σ H hi) : Gv K T (tSl (rSlA K) te tl th) σ H (.tuple (cutD ds lo hi)) := fun H1 g Q q => h H1 g _ fun v H2 g2 r => hl H2 (g.trans g2) _ fun H3 g3 => hh H3 (g.trans (g2.trans g3)) _ fun H4 g4 => by
  cases r with
  | tup hs0 ra =>
    have hs := SqT.of (K := K) hs0
    refine ⟨_, _, rfl, (g3.trans g4).t hs, fun hw => q _ _ (g2.trans (g3.trans g4)) ?_, fun _ p hp => q _ _ ((g2.trans (g3.trans g4)).trans (gw_new hp)) (.tup upd_same (RpAll.cut (((g3.trans g4).trans (gw_new hp)).rpAll ra) lo hi))⟩
    have e : cutD ds lo hi = ds := by
      unfold cutD
      rw [ra.length] at hw
      rw [hw.1, hw.2]
      simp
    rw [e]
    exact .tup ((g3.trans g4).tup hs0) ((g3.trans g4).rpAll ra)
theorem gv_revT (h : Gv K T te σ H (.tuple ds)) : Gv K T (tRevT K te) σ H (.tuple ds.reverse) := fun H1 g Q q => h H1 g _ fun v H2 g2 r => by
  cases r with
  | tup hs ra => have hs := SqT.of (K := K) hs; exact ⟨_, _, rfl, hs, fun p hp => q _ _ (g2.trans (gw_new hp)) (.tup upd_same (RpAll.reverse ((gw_new (T := T) hp).rpAll ra)))⟩
/-- t + u -/
theorem gv_catT (ha : Gv K T ta σ H (.tuple ds)) (hb : Gv K T tb σ H (.tuple es)) (hl : ds.length + es.length ≤ 100000) : Gv K T (tOp (rCatA K) ta tb) σ H (.tuple (ds ++ es)) := fun H1 e Q q =>
  ha H1 e _ fun v H2 e2 r2 => hb H2 (e.trans e2) _ fun u H3 e3 r3 => by
    cases r2 with
    | tup hs0 ra =>
      have hs := SqT.of (K := K) hs0
      cases r3 with
      | tup ht0 rb =>
        have ht := SqT.of (K := K) ht0
        refine ⟨_, _, _, _, rfl, rfl, e3.t hs, ht, Nat.le_trans (by rw [ra.length, rb.length]; exact hl) (by decide), fun hx => q _ H3 (e2.trans e3) ?_, fun _ hy => q _ H3 (e2.trans e3) ?_, fun _ _ p hp => q _ _ ((e2.trans e3).trans (gw_new hp)) (.tup upd_same (RpAll.append ((e3.trans (gw_new hp)).rpAll ra) ((gw_new (T := T) hp).rpAll rb)))⟩
        · subst hx
          cases ra
          exact .tup ht0 rb
        · subst hy
          cases rb
          rw [List.append_nil]
          exact .tup (e3.tup hs0) (e3.rpAll ra)
/-- tuple(xs) of a list or a tuple -/
theorem gv_tupL (ha : Gv K T ta σ H (.list ds)) : Gv K T (tCB (fun xs H Q => ∃ p ys, xs = [.ref p] ∧ ((SqL K H p ys ∧ ∀ l, H l = none → Q (.ref l) (upd H l (.tup ys))) ∨ (SqT K H p ys ∧ Q (.ref p) H))) (tCons ta tNil)) σ H (.tuple ds) := fun H1 e Q q =>
  ha H1 e _ fun v H2 e2 r2 => by
    cases r2 with
    | lst hs ra => exact ⟨_, _, rfl, .inl ⟨hs, fun l hl => q _ _ (e2.trans (gw_new hl)) (.tup upd_same ((gw_new (T := T) hl).rpAll ra))⟩⟩
end
end LB

namespace LB
open PySem PySem.Spec PyProof.Rows L2
/-! ### the names of a drawn web -/
def abc : Str := "abcdefghijklmnopqrstuvwxyz"
def ch (c : Nat) : Str := ⟨#[c]⟩
theorem abc_nat : ∀ n : Nat, n < 26 → abc.cps.toList[n]? = some (97 + n) := by decide +kernel
theorem abc_at {i : Int} (h0 : 0 ≤ i) (h1 : i < 26) : atI abc.cps.toList i = some (97 + i.toNat) := by
  have e : ((i.toNat : Nat) : Int) = i := by omega
  have z := atI_nat (abc_nat i.toNat (by omega))
  rw [e] at z
  exact z
theorem abc_len : abc.length ≤ 1000 := by decide +kernel
def abch : Str := "abcdefgh"
theorem abch_nat : ∀ n : Nat, n < 8 → abch.cps.toList[n]? = some (97 + n) := by decide +kernel
theorem abch_at {i : Nat} (h : i < 8) : atI abch.cps.toList (i : Int) = some (97 + i) := atI_nat (abch_nat i h)
theorem abch_len : abch.length ≤ 1000 := by decide +kernel
def lt26 (i : Int) : Nat := 97 + (i.fmod 26).toNat
/-- the k-th drawn name -/
def nmOf (x0 x1 x2 x3 : Int) (k : Nat) : Str :=
  if x1.fmod 4 = 3 then (ch (lt26 x2) ++ ch (lt26 (x3 + 5 * (k : Int)))) ++ ch (lt26 x0)
  else if x1.fmod 4 = 2 then repS (ch (lt26 x2)) (1 + k)
  else if x1.fmod 4 = 1 then ch (97 + k) ++ repS (ch (lt26 x2)) (x3.fmod 8).toNat
  else repS (ch (lt26 (x0 + 7 * (k : Int)))) (1 + ((x2 + 3 * (k : Int)).fmod (if x3.fmod 2 = 1 then 5 else 1)).toNat)
/-- a name: one to eight letters -/
def NameOk (x : Str) : Prop := 1 ≤ x.length ∧ x.length ≤ 8 ∧ ∀ c ∈ x.cps.toList, 97 ≤ c ∧ c ≤ 122
theorem lt26_ok (i : Int) : 97 ≤ lt26 i ∧ lt26 i ≤ 122 := by
  have := fm i (b := 26) (by decide)
  unfold lt26
  omega
theorem app_cps (x y : Str) : (x ++ y).cps.toList = x.cps.toList ++ y.cps.toList := by
  show (x.cps ++ y.cps).toList = _
  simp
theorem app_length (x y : Str) : (x ++ y).length = x.length + y.length := by
  show (x.cps ++ y.cps).size = _
  simp
  rfl
theorem rep_cps (c n : Nat) : (repS (ch c) n).cps.toList = List.replicate n c := by
  show ((List.replicate n [c]).flatten).toArray.toList = _
  rw [List.toList_toArray]
  induction n with
  | zero => rfl
  | succ n ih =>
    rw [List.replicate_succ, List.flatten_cons, ih, List.replicate_succ]
    rfl
theorem rep_length (c n : Nat) : (repS (ch c) n).length = n := by
  rw [repS_length]
  show n * 1 = n
  omega
theorem ch_length (c : Nat) : (ch c).length = 1 := rfl
theorem ch_cps (c : Nat) : (ch c).cps.toList = [c] := rfl
theorem nm_ok (x0 x1 x2 x3 : Int) {k : Nat} (hk : k < 8) : NameOk (nmOf x0 x1 x2 x3 k) := by
  unfold nmOf
  split
  · refine ⟨?_, ?_, fun c hc => ?_⟩
    · rw [app_length, app_length, ch_length, ch_length, ch_length]; omega
    · rw [app_length, app_length, ch_length, ch_length, ch_length]; omega
    · rw [app_cps, app_cps, ch_cps, ch_cps, ch_cps] at hc
      simp at hc
      rcases hc with rfl | rfl | rfl <;> exact lt26_ok _
  · split
    · refine ⟨?_, ?_, fun c hc => ?_⟩
      · rw [rep_length]; omega
      · rw [rep_length]; omega
      · rw [rep_cps] at hc
        rw [List.eq_of_mem_replicate hc]
        exact lt26_ok _
    · split
      · have := fm x3 (b := 8) (by decide)
        refine ⟨?_, ?_, fun c hc => ?_⟩
        · rw [app_length, ch_length, rep_length]; omega
        · rw [app_length, ch_length, rep_length]; omega
        · rw [app_cps, ch_cps, rep_cps] at hc
          rcases List.mem_append.mp hc with h | h
          · rw [List.mem_singleton.mp h]; omega
          · rw [List.eq_of_mem_replicate h]
            exact lt26_ok _
      · have := fm (x2 + 3 * (k : Int)) (b := if x3.fmod 2 = 1 then 5 else 1) (by split <;> decide)
        have h5 : (if x3.fmod 2 = 1 then (5 : Int) else 1) ≤ 5 := by split <;> decide
        refine ⟨?_, ?_, fun c hc => ?_⟩
        · rw [rep_length]; omega
        · rw [rep_length]; omega
        · rw [rep_cps] at hc
          rw [List.eq_of_mem_replicate hc]
          exact lt26_ok _
theorem fm26 {a : Int} {i j c : Nat} (hi : i < 8) (hj : j < 8) (hc : c = 5 ∨ c = 7) (h : lt26 (a + (c : Int) * (i : Int)) = lt26 (a + (c : Int) * (j : Int))) : i = j := by
  unfold lt26 at h
  have h1 := fm (a + (c : Int) * (i : Int)) (b := 26) (by decide)
  have h2 := fm (a + (c : Int) * (j : Int)) (b := 26) (by decide)
  have e1 : (a + (c : Int) * (i : Int)).fmod 26 = (a + (c : Int) * (i : Int)) % 26 := Int.fmod_eq_emod_of_nonneg _ (by decide)
  have e2 : (a + (c : Int) * (j : Int)).fmod 26 = (a + (c : Int) * (j : Int)) % 26 := Int.fmod_eq_emod_of_nonneg _ (by decide)
  rcases hc with rfl | rfl <;> omega
theorem nm_inj (x0 x1 x2 x3 : Int) {i j : Nat} (hi : i < 8) (hj : j < 8) (h : nmOf x0 x1 x2 x3 i = nmOf x0 x1 x2 x3 j) : i = j := by
  unfold nmOf at h
  split at h
  · have e := congrArg (fun x : Str => x.cps.toList) h
    simp only [app_cps, ch_cps] at e
    simp at e
    exact fm26 (c := 5) hi hj (.inl rfl) e
  · split at h
    · have e := congrArg (fun x : Str => x.length) h
      simp only [rep_length] at e
      omega
    · split at h
      · have e := congrArg (fun x : Str => x.cps.toList) h
        simp only [app_cps, ch_cps, rep_cps] at e
        simp at e
        omega
      · have e := congrArg (fun x : Str => x.cps.toList.head?) h
        simp only [rep_cps] at e
        rw [Nat.add_comm 1, Nat.add_comm 1, List.replicate_succ, List.replicate_succ] at e
        simp at e
        exact fm26 (c := 7) hi hj (.inr rfl) e
/-- names that rise -/
def Rise (ns : List Str) : Prop := ns.Pairwise fun a b => a.cps.toList < b.cps.toList
structure NamesOk (m : Nat) (ns : List Str) : Prop where
  len : ns.length = m
  rise : Rise ns
  each : ∀ x ∈ ns, NameOk x
theorem str_ext {x y : Str} (h : x.cps.toList = y.cps.toList) : x = y := by
  cases x
  cases y
  congr 1
  exact Array.toList_inj.mp h
theorem rising_all : ∀ (ns : List Str) (x : Str), risingS x ns = true → (∀ y ∈ ns, x.cps.toList ≤ y.cps.toList) ∧ ns.Pairwise fun a b => a.cps.toList ≤ b.cps.toList
  | [], _, _ => ⟨fun y hy => (List.not_mem_nil hy).elim, List.Pairwise.nil⟩
  | z :: ns, x, h => by
    unfold risingS at h
    rw [Bool.and_eq_true] at h
    obtain ⟨q1, q2⟩ := rising_all ns z h.2
    have q0 : x.cps.toList ≤ z.cps.toList := by
      have h1 := h.1
      rw [ltCps_eq, Bool.not_eq_true', decide_eq_false_iff_not] at h1
      exact List.not_lt.mp h1
    refine ⟨fun y hy => ?_, List.Pairwise.cons q1 q2⟩
    rcases List.mem_cons.mp hy with e | hy
    · rw [e]
      exact q0
    · exact List.le_trans q0 (q1 y hy)
theorem rise_of {ns : List Str} (hs : sortedS ns = true) (hn : ns.Nodup) : Rise ns := by
  have h1 : ns.Pairwise fun a b => ¬ b.cps.toList < a.cps.toList := by
    cases ns with
    | nil => exact List.Pairwise.nil
    | cons x r =>
      obtain ⟨q1, q2⟩ := rising_all r x hs
      exact List.Pairwise.cons (fun y hy => List.not_lt.mpr (q1 y hy)) (q2.imp fun h => List.not_lt.mpr h)
  refine (h1.and hn).imp fun {a b} ⟨p, q⟩ => ?_
  by_cases h : a.cps.toList < b.cps.toList
  · exact h
  · exact absurd (str_ext (List.le_antisymm p h)) q
end LB

namespace LB
open PySem PySem.Spec PyProof.Rows L2
/-! ### promises of the defs by which a web is drawn -/
def spCel (K : PySem.W.Frag) : Sp := fun vs H Q _ => ∃ (a : Addr) (ns : List Int) (j : Nat), vs = [.ref a, .int (j : Int)] ∧ SqL K H a (ns.map V.int) ∧ j ≤ 1000 ∧ ∀ (n : Int) H', Same H H' → Q (.int n) H'
def spNums : Sp := fun vs H Q _ => ∃ (c : Int) (m : Nat), vs = [.int c, .int (m : Int)] ∧ m ≤ 1000 ∧ ∀ (xs : List Int) p H', xs.length = m → (∀ x ∈ xs, 0 ≤ x ∧ x < 2000000000) → Same H H' → H' p = some (.lst (xs.map V.int)) → Q (.ref p) H'
/-- drawn numbers -/
def NumsOk (m : Nat) (xs : List Int) : Prop := xs.length = m ∧ ∀ x ∈ xs, 0 ≤ x ∧ x < 2000000000
def IsNums (m : Nat) (d : PyData) : Prop := ∃ xs : List Int, NumsOk m xs ∧ d = .list (xs.map PyData.int)
def IsNames (m : Nat) (d : PyData) : Prop := ∃ ns : List Str, NamesOk m ns ∧ d = .list (ns.map PyData.str)
def spNames (K : PySem.W.Frag) (T : List (Addr × Str)) : Sp := fun vs H Q _ => ∃ (v : V) (m n : Nat) (d : PyData), vs = [v, .int (m : Int)] ∧ Rp K H v d ∧ IsNums n d ∧ 4 ≤ n ∧ 1 ≤ m ∧ m ≤ 8 ∧ ∀ (u : V) (e : PyData) H', IsNames m e → Gw T H H' → Rp K H' u e → Q u H'
section
variable {K : PySem.W.Frag} {T : List (Addr × Str)} {σ : L2.St} {H : Hp} {te ta tb : TE} {d : PyData} {ds : List PyData}
theorem rp_ints_inv {H : Hp} : ∀ {ns : List Int} {xs : List V}, RpAll K H xs (ns.map PyData.int) → xs = ns.map V.int
  | [], _, .nil => rfl
  | n :: ns, _, .cons (.int _) t => by rw [List.map_cons, ← rp_ints_inv t]
theorem rp_strs_inv {H : Hp} : ∀ {ns : List Str} {xs : List V}, RpAll K H xs (ns.map PyData.str) → xs = ns.map V.str
  | [], _, .nil => rfl
  | n :: ns, _, .cons (.str _) t => by rw [List.map_cons, ← rp_strs_inv t]
theorem gn_cell {E : XK} {ns : List Int} {j : Nat} (h1 : Gv K T ta σ H (.list (ns.map PyData.int))) (h2 : Gv K T tb σ H (.int (j : Int))) (hj : j ≤ 1000) : Gn K T (tCall (spCel K) [] E (tCons ta (tCons tb tNil))) σ H (fun d => ∃ n, d = .int n) := by
  refine gn_call (gva_cons h1 (gva_cons h2 gva_nil)) fun vs H1 g r Q q => ?_
  cases r with
  | cons r1 r =>
    cases r with
    | cons r2 r =>
      cases r
      cases r2
      cases r1 with
      | lst hs ra =>
        rw [rp_ints_inv ra] at hs
        exact ⟨_, ns, j, rfl, hs, hj, fun n H' sm => q _ _ H' ⟨n, rfl⟩ (gw_same sm) (.int n)⟩
theorem gn_nums {E : XK} {m : Nat} (h1 : Gn K T ta σ H (fun d => ∃ n, d = .int n)) (h2 : Gv K T tb σ H (.int (m : Int))) (hm : m ≤ 1000) : Gn K T (tCall spNums [] E (tCons ta (tCons tb tNil))) σ H (IsNums m) := fun H1 g Q q =>
  h1 H1 g _ fun v d H2 pd g2 r2 => h2 H2 (g.trans g2) _ fun u H3 g3 r3 => by
    obtain ⟨n, rfl⟩ := pd
    cases r2
    cases r3
    exact ⟨n, m, rfl, hm, fun xs p H4 hl hb sm hp => q _ _ H4 ⟨xs, ⟨hl, hb⟩, rfl⟩ (g2.trans (g3.trans (gw_same sm))) (.lst (SqL.of hp) (rp_ints xs))⟩
theorem gn_nums1 {E : XK} {m : Nat} {n : Int} (h1 : Gv K T ta σ H (.int n)) (h2 : Gv K T tb σ H (.int (m : Int))) (hm : m ≤ 1000) : Gn K T (tCall spNums [] E (tCons ta (tCons tb tNil))) σ H (IsNums m) := gn_nums (fun H1 g Q q => h1 H1 g Q fun v H2 g2 r => q v _ H2 ⟨n, rfl⟩ g2 r) h2 hm
end
end LB

namespace LB
open PySem PySem.Spec PyProof.Rows L2 PySem.W
/-! ### places, ties, webs among data -/
def PlaceOk (top : Int) (x : Str) (d : PyData) : Prop := ∃ a b c e : Int, d = .tuple [.str x, .int a, .int b, .int c, .int e] ∧ (0 ≤ a ∧ a < 100) ∧ (0 ≤ b ∧ b < 100) ∧ (0 ≤ e ∧ e < 100) ∧ e * top ≤ c ∧ c ≤ 999
def TieOk (ns : List Str) (d : PyData) : Prop := ∃ (a b : Str) (s : Int), d = .tuple [.str a, .str b, .int s] ∧ a ∈ ns ∧ b ∈ ns ∧ a ≠ b ∧ 1 ≤ s ∧ s ≤ 999
structure WebOk (top : Int) (ns : List Str) (ps ts : List PyData) : Prop where
  t1 : 1 ≤ top
  t9 : top ≤ 9
  n1 : 1 ≤ ns.length
  n8 : ns.length ≤ 8
  rise : Rise ns
  each : ∀ x ∈ ns, NameOk x
  pl : EachIs (PlaceOk top) ns ps
  tl : ts.length ≤ 16
  ti : ∀ t ∈ ts, TieOk ns t
def webD (top : Int) (ps ts : List PyData) : PyData := .tuple [.int top, .tuple ps, .tuple ts]
def IsWeb (d : PyData) : Prop := ∃ top ns ps ts, WebOk top ns ps ts ∧ d = webD top ps ts
def spPlace (K : PySem.W.Frag) (T : List (Addr × Str)) : Sp := fun vs H Q _ => ∃ (x : Str) (v : V) (d : PyData) (n : Nat) (top : Int) (w : Nat), vs = [.str x, v, .int top, .int (w : Int)] ∧ Rp K H v d ∧ IsNums n d ∧ 5 ≤ n ∧ 1 ≤ top ∧ top ≤ 9 ∧ w < 4 ∧ ∀ (u : V) (e : PyData) H', PlaceOk top x e → Gw T H H' → Rp K H' u e → Q u H'
def spTies (K : PySem.W.Frag) (T : List (Addr × Str)) : Sp := fun vs H Q _ => ∃ (v1 v2 : V) (ns : List Str) (script : List Int) (at' many w : Nat), vs = [v1, v2, .int (at' : Int), .int (many : Int), .int (w : Int)] ∧ Rp K H v1 (.list (ns.map PyData.str)) ∧ Rp K H v2 (.list (script.map PyData.int)) ∧ ns.Nodup ∧ 1 ≤ ns.length ∧ ns.length ≤ 8 ∧ at' ≤ 100 ∧ many ≤ 20 ∧ w < 4 ∧
  ∀ (u : V) (ts : List PyData) H', ts.length ≤ 16 → (∀ t ∈ ts, TieOk ns t) → Gw T H H' → Rp K H' u (.tuple ts) → Q u H'
def spWeb (K : PySem.W.Frag) (T : List (Addr × Str)) : Sp := fun vs H Q _ => ∃ (v : V) (script : List Int) (at' most : Nat), vs = [v, .int (at' : Int), .int (most : Int)] ∧ Rp K H v (.list (script.map PyData.int)) ∧ at' ≤ 50 ∧ 1 ≤ most ∧ most ≤ 8 ∧ ∀ (u : V) (e : PyData) H', IsWeb e → Gw T H H' → Rp K H' u e → Q u H'
def pk4 (p q r s : Int) (w : Nat) : Int := [p, q, r, s].getD w 0
theorem pk4_at {p q r s : Int} {w : Nat} (h : w < 4) : atI [PyData.int p, PyData.int q, PyData.int r, PyData.int s] (w : Int) = some (.int (pk4 p q r s w)) := by
  match w, h with
  | 0, _ => exact at0
  | 1, _ => exact at1
  | 2, _ => exact at2
  | 3, _ => exact at3
theorem pk4_in {p q r s lo hi : Int} {w : Nat} (h : w < 4) (h1 : lo ≤ p ∧ p ≤ hi) (h2 : lo ≤ q ∧ q ≤ hi) (h3 : lo ≤ r ∧ r ≤ hi) (h4 : lo ≤ s ∧ s ≤ hi) : lo ≤ pk4 p q r s w ∧ pk4 p q r s w ≤ hi := by
  match w, h with
  | 0, _ => exact h1
  | 1, _ => exact h2
  | 2, _ => exact h3
  | 3, _ => exact h4
section
variable {K : PySem.W.Frag} {T : List (Addr × Str)} {σ : L2.St} {H : Hp} {te ta tb : TE} {d : PyData} {ds : List PyData}
theorem s_par {D : Ends} {i j : Nat} {ta : TA} {d1 d2 : PyData} (ha : GvA K T ta σ H [d1, d2]) (k : ∀ v1 v2 H2, Gw T H H2 → Rp K H2 v1 d1 → Rp K H2 v2 d2 → D.nx ((σ.set i (some v1)).set j (some v2)) H2) : tPar i j ta D σ H := ha H (Gw.refl T H) _ fun vs H2 g r => by
  cases r with
  | cons r1 r =>
    cases r with
    | cons r2 r =>
      cases r
      exact ⟨_, _, rfl, k _ _ H2 g r1 r2⟩
theorem divG8 {i : Int} : CDivG i 8 := ⟨by decide, by decide⟩
end
end LB

namespace LB
open PySem PySem.Spec PyProof.Rows L2 PySem.W
/-! ### the dict of ties -/
def TK (ns : List Str) (kvs : List (List Key × V)) : Prop := ∀ e ∈ kvs, ∃ (a b : Str) (s : Int), e = ([.inr a, .inr b], .int s) ∧ a ∈ ns ∧ b ∈ ns ∧ a ≠ b ∧ 1 ≤ s ∧ s ≤ 999
theorem TK.put {ns : List Str} {kvs : List (List Key × V)} (h : TK ns kvs) {a b : Str} {s : Int} (ha : a ∈ ns) (hb : b ∈ ns) (hn : a ≠ b) (h1 : 1 ≤ s) (h9 : s ≤ 999) : TK ns (putK kvs [.inr a, .inr b] (.int s)) := by
  intro e he
  unfold putK at he
  split at he
  · obtain ⟨kv, hk, rfl⟩ := List.mem_map.mp he
    by_cases z : kv.1 = [.inr a, .inr b]
    · rw [if_pos z, z]
      exact ⟨a, b, s, rfl, ha, hb, hn, h1, h9⟩
    · rw [if_neg z]
      exact h kv hk
  · rcases List.mem_append.mp he with h' | h'
    · exact h e h'
    · rw [List.mem_singleton.mp h']
      exact ⟨a, b, s, rfl, ha, hb, hn, h1, h9⟩
theorem putK_len (kvs : List (List Key × V)) (k : List Key) (v : V) : (putK kvs k v).length ≤ kvs.length + 1 := by
  unfold putK
  split <;> simp
theorem TK.key {ns : List Str} {kvs : List (List Key × V)} (h : TK ns kvs) : ∀ d ∈ keysD kvs, ∃ a b : Str, d = .tuple [.str a, .str b] := by
  intro d hd
  obtain ⟨p, hp, rfl⟩ := List.mem_map.mp hd
  obtain ⟨a, b, s, rfl, _⟩ := h p hp
  exact ⟨a, b, rfl⟩
theorem TK.srt {ns : List Str} {kvs : List (List Key × V)} (h : TK ns kvs) (hl : kvs.length ≤ 1000) : Srt (keysD kvs) ∧ Sortable (keysD kvs) := by
  have ok : Sortable (keysD kvs) := .inl fun d hd => by
    obtain ⟨a, b, rfl⟩ := h.key d hd
    exact ⟨_, _, rfl⟩
  refine ⟨⟨fun d hd d' hd' => ?_, .inl ok, fun d hd => ?_, by unfold keysD; rw [List.length_map]; omega⟩, ok⟩
  · obtain ⟨a, b, rfl⟩ := h.key d hd
    obtain ⟨a', b', rfl⟩ := h.key d' hd'
    rfl
  · obtain ⟨a, b, rfl⟩ := h.key d hd
    exact Nat.le_of_ble_eq_true rfl
/-- what a key leads to -/
theorem TK.val {ns : List Str} {kvs : List (List Key × V)} (h : TK ns kvs) {d : PyData} (hd : d ∈ keysD kvs) : ∃ (a b : Str) (s : Int), d = .tuple [.str a, .str b] ∧ valV kvs [.inr a, .inr b] = some (.int s) ∧ a ∈ ns ∧ b ∈ ns ∧ a ≠ b ∧ 1 ≤ s ∧ s ≤ 999 := by
  obtain ⟨p, hp, rfl⟩ := List.mem_map.mp hd
  obtain ⟨a, b, s, rfl, _⟩ := h p hp
  cases hf : kvs.find? (fun kv => decide (kv.1 = [.inr a, .inr b])) with
  | none =>
    have := List.find?_eq_none.mp hf _ hp
    simp at this
  | some q =>
    have hq := List.mem_of_find?_eq_some hf
    have hk : q.1 = [.inr a, .inr b] := by simpa using List.find?_some hf
    obtain ⟨a', b', s', e, h1, h2, h3, h4, h5⟩ := h q hq
    rw [e] at hk
    cases hk
    refine ⟨a, b, s', rfl, ?_, h1, h2, h3, h4, h5⟩
    unfold valV
    rw [hf, e] <;> rfl
section
variable {K : PySem.W.Frag} {T : List (Addr × Str)} {σ : L2.St} {H : Hp} {te ta tb : TE} {d : PyData} {ds : List PyData}
theorem rp_keys_inv {H : Hp} : ∀ {ks : List Key} {xs : List V}, RpAll K H xs (ks.map keyD) → xs = ks.map kV
  | [], _, .nil => rfl
  | .inl n :: ks, _, .cons (.int _) t => by rw [List.map_cons, ← rp_keys_inv t]; rfl
  | .inr n :: ks, _, .cons (.str _) t => by rw [List.map_cons, ← rp_keys_inv t]; rfl
theorem gv_max2 {i j : Int} (ha : Gv K T ta σ H (.int i)) (hb : Gv K T tb σ H (.int j)) : Gv K T (tCB (fun xs H Q => ∃ i j, xs = [.int i, .int j] ∧ Q (.int (if j > i then j else i)) H) (tCons ta (tCons tb tNil))) σ H (.int (if j > i then j else i)) := fun H1 e Q q =>
  ha H1 e _ fun v H2 e2 r2 => hb H2 (e.trans e2) _ fun u H3 e3 r3 => by
    cases r2
    cases r3
    exact ⟨i, j, rfl, q _ H3 (e2.trans e3) (.int _)⟩
theorem TupK.up {H H' : Hp} {b : Addr} (h : TupK H b d) (g : Gw T H H') : TupK H' b d := by
  obtain ⟨ks, rfl, e⟩ := h
  exact ⟨ks, rfl, g.tup e⟩
theorem each_at {α β : Type} {R : α → β → Prop} : ∀ {as : List α} {bs : List β}, EachIs R as bs → ∀ (i : Nat) (h : i < as.length), ∃ b, bs[i]? = some b ∧ R as[i] b
  | _, _, .nil, i, h => by simp at h
  | _, _, .cons r t, 0, h => ⟨_, rfl, r⟩
  | _, _, .cons r t, i + 1, h => by
    obtain ⟨b, h1, h2⟩ := each_at t i (by simpa using h)
    exact ⟨b, h1, h2⟩
/-- d[k1, k2] = v, d an own dict -/
theorem s_dputT {D : Ends} {j : Nat} {p : Addr} {kvs : List (List Key × V)} {ks : List Key} {tv : TE} {ta : TA} {s : Int} (hv : Gv K T tv σ H (.int s)) (hd : σ[j]? = some (some (.ref p))) (hp : H p = some (.dT kvs)) (hl : kvs.length ≤ 1000) (ha : GvA K T ta σ H (ks.map keyD)) (hk : ks.length ≤ 1000)
    (k : ∀ H2 q, Gw T H H2 → H2 q = none → H2 p = some (.dT kvs) → D.nx σ (upd (upd H2 q (.tup (ks.map kV))) p (.dT (putK kvs ks (.int s))))) : sDPut (tVar j) (tTup ta) tv D σ H := hv H (Gw.refl T H) _ fun v H1 g1 r1 => by
  cases r1
  refine ⟨_, hd, ha H1 g1 _ fun vs H2 g2 r2 => ?_⟩
  rw [rp_keys_inv r2]
  refine ⟨Nat.le_trans (by rw [List.length_map]; exact hk) (by decide), fun q hq => ?_⟩
  have hp2 : H2 p = some (.dT kvs) := g2.1 _ _ (g1.1 _ _ hp fun _ z => nomatch z) fun _ z => nomatch z
  have ne : p ≠ q := ne_of_none hp2 hq
  exact ⟨p, _, rfl, DPut.t (by rw [upd_ne ne]; exact hp2) upd_same (Nat.lt_of_le_of_lt hl (by decide)), k H2 q (g1.trans g2) hq hp2⟩
theorem gi_sortDT {j : Nat} {p : Addr} {kvs : List (List Key × V)} (hd : σ[j]? = some (some (.ref p))) (hp : H p = some (.dT kvs)) (S : Srt (keysD kvs)) (ok : Sortable (keysD kvs)) : GiR (fun H v d => ∃ b, v = .ref b ∧ TupK H b d) T (iList K (tCB rSortDT (tCons (tVar j) tNil))) σ H (sortD (keysD kvs)) := fun H1 g Q q => by
  have hp1 : H1 p = some (.dT kvs) := g.1 _ _ hp fun _ z => nomatch z
  refine ⟨_, hd, p, kvs, rfl, .inl hp1, S, ok, fun l bs hl e => ⟨l, rfl, ⟨_, SqL.of upd_same⟩, q _ _ (gw_new hl) ?_⟩⟩
  have len : bs.length = (sortD (keysD kvs)).length := e.length
  refine ⟨fun H' g' => ⟨_, SqL.of (g'.lst upd_same), by rw [List.length_map, len]; exact Nat.le_refl _⟩, fun i H' hi g' => ?_, fun i H' x H'' hi g' y => ⟨y.1, ?_⟩⟩
  · have hi' : i < (bs.map V.ref).length := by rw [List.length_map, len]; exact hi
    exact ⟨_, _, SqL.of (g'.lst upd_same), List.getElem?_eq_getElem hi'⟩
  · have hx := y.2 _ (SqL.of (g'.lst upd_same))
    have hi' : i < bs.length := by rw [len]; exact hi
    rw [List.getElem?_map, List.getElem?_eq_getElem hi'] at hx
    have ex : V.ref bs[i] = x := Option.some.inj hx
    obtain ⟨d, h1, h2⟩ := each_at e i hi'
    exact ⟨d, h1, bs[i], ex.symm, TupK.up (TupK.up h2 (gw_new (T := T) hl)) g'⟩
end
end LB

namespace LB
open PySem PySem.Spec PyProof.Rows L2
/-! ### rules that name the written part: for the blocks of comprehensions -/
section
variable (K : PySem.W.Frag) {X : Cx}
theorem ix_listK (h : X.K = K := by rfl) : IxR X (rIxL K) := by
  subst h
  exact ix_list
theorem ix_tupK (h : X.K = K := by rfl) : IxR X (rIxT K) := by
  subst h
  exact ix_tup
theorem op_inK (h : X.K = K := by rfl) : OpR X (compareOp .In) (rIn K false) := by
  subst h
  exact op_in_seq
theorem op_notInK (h : X.K = K := by rfl) : OpR X (compareOp .NotIn) (rIn K true) := by
  subst h
  exact op_notIn_seq
theorem op_catK (h : X.K = K := by rfl) : OpR X (binaryOp .Add) (rCatA K) := by
  subst h
  exact op_catA
theorem call_lenK (h : X.K = K := by rfl) : CallR X (.builtin "len") (fun xs H Q => ∃ x n, xs = [x] ∧ LenV K x H n ∧ Q (.int n) H) := by
  subst h
  exact call_len
theorem call_isK (h : X.K = K := by rfl) : CallR X (.builtin "isinstance") (rIsiY K) := by
  subst h
  exact call_isiY
theorem sl_listK (h : X.K = K := by rfl) : SlR X (rSlL K) := by
  subst h
  exact sl_list
theorem sl_tupK (h : X.K = K := by rfl) : SlR X (rSlA K) := by
  subst h
  exact sl_tupA
theorem call_tupK (h : X.K = K := by rfl) : CallR X (.type "tuple") (fun xs H Q => ∃ p ys, xs = [.ref p] ∧ ((SqL K H p ys ∧ ∀ l, H l = none → Q (.ref l) (upd H l (.tup ys))) ∨ (SqT K H p ys ∧ Q (.ref p) H))) := by
  subst h
  exact call_tuple_of
theorem pa_starK {e : Expr} {es : List Expr} {te : TE} {t : TA} {p : Pos} (he : PE X e te) (hr : PA X es t) (h : X.K = K := by rfl) (hs : starEach (.Starred e p :: es) X.env = (true, eval e X.env) :: starEach es X.env := by rfl) : PA X (.Starred e p :: es) (StX.tStar K te t) := by
  subst h
  exact StX.pa_star he hr hs
end
end LB

namespace LB
open PySem PySem.Spec PyProof.Rows L2
mutual
def ndD : PyData → Bool
  | .none => true
  | .bool _ => true
  | .int _ => true
  | .str _ => true
  | .tuple ds => ndDs ds
  | .list ds => ndDs ds
  | .dict _ => false
def ndDs : List PyData → Bool
  | [] => true
  | d :: ds => ndD d && ndDs ds
end
def NoSeq (H : Hp) (p : Addr) : Prop := ∀ xs, ¬ Rd H p (.tup xs) ∧ ¬ Rd H p (.lst xs)
theorem noSeq_dT {H : Hp} {p : Addr} {xs : List (List Key × V)} (h : H p = some (.dT xs)) : NoSeq H p := by
  intro ys
  constructor
  · rintro (z | ⟨o, z⟩)
    · rw [h] at z
      cases z
    · rw [h] at z
      cases z
  · rintro (z | ⟨o, z⟩)
    · rw [h] at z
      cases z
    · rw [h] at z
      cases z
theorem keyD_str {k : Key} {a : Str} (h : keyD k = .str a) : k = .inr a := by
  cases k with
  | inl i => exact nomatch (show PyData.int i = .str a from h)
  | inr x =>
    have h' : PyData.str x = .str a := h
    injection h' with e
    rw [e]
theorem keys2 {a b : Str} : ∀ {ks : List Key}, ks.map keyD = [.str a, .str b] → ks = [.inr a, .inr b]
  | [], h => by simp at h
  | [_], h => by simp at h
  | [k1, k2], h => by
    simp only [List.map_cons, List.map_nil, List.cons.injEq, and_true] at h
    rw [keyD_str h.1, keyD_str h.2]
  | _ :: _ :: _ :: _, h => by simp at h
theorem sqT_mutD {K : PySem.W.Frag} {H : Hp} {p a : Addr} {o : HO} {xs : List V} (hp : NoSeq H p) (h : SqT K H a xs) : SqT K (upd H p o) a xs := sqT_mut (fun ys => (hp ys).1) h
theorem sqL_mutD {K : PySem.W.Frag} {H : Hp} {p a : Addr} {o : HO} {xs : List V} (hp : NoSeq H p) (h : SqL K H a xs) : SqL K (upd H p o) a xs := by
  rcases h with h | h
  · have n : a ≠ p := fun z => (hp xs).2 (by rw [← z]; exact h)
    refine .inl ?_
    rcases h with h | ⟨u, h⟩
    · exact .inl (by rw [upd_ne n]; exact h)
    · exact .inr ⟨u, by rw [upd_ne n]; exact h⟩
  · exact .inr h
mutual
theorem rp_mutD {K : PySem.W.Frag} {H : Hp} {p : Addr} {o : HO} (hp : NoSeq H p) : ∀ {v : V} {d : PyData}, ndD d = true → Rp K H v d → Rp K (upd H p o) v d
  | _, _, _, .non => .non
  | _, _, _, .bl b => .bl b
  | _, _, _, .int i => .int i
  | _, _, _, .str x => .str x
  | _, _, h, .lst hs ha => .lst (sqL_mutD hp hs) (rps_mutD hp (by simpa [ndD] using h) ha)
  | _, _, h, .tup hs ha => .tup (tp_mut (fun ys => (hp ys).1) hs) (rps_mutD hp (by simpa [ndD] using h) ha)
  | _, _, h, .dct _ _ _ => absurd h (by simp [ndD])
  | _, _, h, .dcT _ _ _ => absurd h (by simp [ndD])
theorem rps_mutD {K : PySem.W.Frag} {H : Hp} {p : Addr} {o : HO} (hp : NoSeq H p) : ∀ {vs : List V} {ds : List PyData}, ndDs ds = true → RpAll K H vs ds → RpAll K (upd H p o) vs ds
  | _, _, _, .nil => .nil
  | _, _, h, .cons h1 h2 => by
    unfold ndDs at h
    rw [Bool.and_eq_true] at h
    exact .cons (rp_mutD hp h.1 h1) (rps_mutD hp h.2 h2)
end
section
variable {K : PySem.W.Frag} {T : List (Addr × Str)} {σ : L2.St} {H : Hp}
theorem gv_lenD {j : Nat} {p : Addr} {kvs : List (List Key × V)} (hd : σ[j]? = some (some (.ref p))) (hp : H p = some (.dT kvs)) : Gv K T (tCB rLenT (tCons (tVar j) tNil)) σ H (.int ((kvs.length : Nat) : Int)) := fun H1 g Q q => ⟨_, hd, p, kvs, rfl, g.1 _ _ hp (fun _ z => nomatch z), q _ H1 (Gw.refl T H1) (.int _)⟩
theorem str_at {ns : List Str} {i : Nat} (h : i < ns.length) : atI (ns.map PyData.str) (i : Int) = some (.str ns[i]) := atI_nat (by rw [List.getElem?_map, List.getElem?_eq_getElem h]; rfl)
end
end LB

namespace PM
open PySem PySem.Spec PyProof.Rows L2 LB
/-! ### two heaps: M what data may stand on, H all -/
abbrev Tb := List (Addr × Str)
structure Pr (T : Tb) where
  M : Hp
  H : Hp
  sub : Ex M H
  tab : LamX.Tabs T H
  nt : ∀ a ps, M a ≠ some (.tbl ps)
def Loose (H : Hp) (a : Addr) : Prop := ∀ o, H a = some o → ∃ ps, o = HO.tbl ps
/-- free to be stood on: new, or a tuple -/
def Opn (H : Hp) (a : Addr) : Prop := Loose H a ∨ ∃ vs, H a = some (.tup vs)
structure Le {T : Tb} (P P' : Pr T) : Prop where
  m : Ex P.M P'.M
  h : Ex P.H P'.H
  f : ∀ a, P.M a = none → P'.M a ≠ none → Opn P.H a
variable {T : Tb} {K : PySem.W.Frag}
theorem Le.refl (P : Pr T) : Le P P := ⟨ex_refl _, ex_refl _, fun a h n => absurd h n⟩
theorem loose_back {H H' : Hp} (e : Ex H H') {a : Addr} (h : Loose H' a) : Loose H a := fun o ho => by
  by_cases t : ∃ ps, o = HO.tbl ps
  · exact t
  · exact h o (e a o ho fun ps z => t ⟨ps, z⟩)
theorem opn_back {H H' : Hp} (e : Ex H H') {a : Addr} (h : Opn H' a) : Opn H a := by
  rcases h with h | ⟨vs, h⟩
  · exact .inl (loose_back e h)
  · cases z : H a with
    | none => exact .inl fun o ho => by rw [z] at ho; cases ho
    | some o =>
      by_cases t : ∃ ps, o = HO.tbl ps
      · exact .inl fun o' ho => by
          rw [z] at ho
          cases ho
          exact t
      · have := e a o z fun ps w => t ⟨ps, w⟩
        rw [h] at this
        cases this
        exact .inr ⟨vs, z⟩
theorem Le.trans {P P' P'' : Pr T} (a : Le P P') (b : Le P' P'') : Le P P'' := ⟨a.m.trans b.m, a.h.trans b.h, fun p h n => by
  by_cases z : P'.M p = none
  · exact opn_back a.h (b.f p z n)
  · exact a.f p h z⟩
theorem loose_none {H : Hp} {a : Addr} (h : H a = none) : Loose H a := fun o e => by rw [h] at e; cases e
theorem Loose.lst {H : Hp} {a : Addr} {xs : List V} (h : Loose H a) (e : H a = some (.lst xs)) : False := by
  obtain ⟨ps, z⟩ := h _ e
  cases z
theorem Loose.dT {H : Hp} {a : Addr} {xs : List (List Key × V)} (h : Loose H a) (e : H a = some (.dT xs)) : False := by
  obtain ⟨ps, z⟩ := h _ e
  cases z
theorem Loose.dK {H : Hp} {a : Addr} {xs : List (Key × V)} (h : Loose H a) (e : H a = some (.dK xs)) : False := by
  obtain ⟨ps, z⟩ := h _ e
  cases z
/-- o is no table -/
def Plain (o : HO) : Prop := ∀ ps, o ≠ .tbl ps
theorem Pr.none (P : Pr T) {p : Addr} (h : P.H p = Option.none) : P.M p = Option.none := by
  cases e : P.M p with
  | none => rfl
  | some o =>
    have := P.sub p o e fun ps z => P.nt p ps (by rw [e, z])
    rw [h] at this
    cases this
theorem ex_upd {M H : Hp} (s : Ex M H) {p : Addr} {o : HO} (h : H p = none) : Ex M (upd H p o) := fun b u e n => by
  have := s b u e n
  rw [upd_ne (ne_of_none this h)]
  exact this
theorem ex_upd2 {M H : Hp} (s : Ex M H) {p : Addr} {o : HO} : Ex (upd M p o) (upd H p o) := fun b u e n => by
  by_cases z : b = p
  · subst z
    rw [upd_same] at e ⊢
    exact e
  · rw [upd_ne z] at e ⊢
    exact s b u e n
theorem ex_updM {M H : Hp} (s : Ex M H) {p : Addr} {o : HO} (h : H p = none) : Ex M (upd M p o) := fun b u e n => by
  have := s b u e n
  rw [upd_ne (ne_of_none this h)]
  exact e
theorem nt_upd {M : Hp} {p : Addr} {o : HO} (h : ∀ a ps, M a ≠ some (.tbl ps)) (n : Plain o) : ∀ a ps, upd M p o a ≠ some (.tbl ps) := fun a ps z => by
  by_cases e : a = p
  · subst e
    rw [upd_same] at z
    exact n ps (Option.some.inj z)
  · rw [upd_ne e] at z
    exact h a ps z
/-- a new object that data may stand on -/
def Pr.put (P : Pr T) (p : Addr) (o : HO) (h : P.H p = Option.none) (n : Plain o := by exact fun _ z => nomatch z) : Pr T := ⟨upd P.M p o, upd P.H p o, ex_upd2 P.sub, (gw_new (T := T) h).2 P.tab, nt_upd P.nt n⟩
/-- a new object of its own -/
def Pr.hid (P : Pr T) (p : Addr) (o : HO) (h : P.H p = Option.none) : Pr T := ⟨P.M, upd P.H p o, ex_upd P.sub h, (gw_new (T := T) h).2 P.tab, P.nt⟩
theorem le_put (P : Pr T) {p : Addr} {o : HO} (h : P.H p = none) (n : Plain o := by exact fun _ z => nomatch z) : Le P (P.put p o h n) := ⟨ex_updM P.sub h, ex_new h, fun a z n => by
  by_cases e : a = p
  · subst e
    exact .inl (loose_none h)
  · exact absurd z (by
      have : (upd P.M p o) a ≠ none := n
      rw [upd_ne e] at this
      exact this)⟩
theorem le_hid (P : Pr T) {p : Addr} {o : HO} (h : P.H p = none) : Le P (P.hid p o h) := ⟨ex_refl _, ex_new h, fun a z n => absurd z n⟩
/-! ### what stands in a slot -/
inductive Sl where
  | no | val (d : PyData) | own (d : PyData) | exn (a : Addr) | ods (ds : List (Str × PyData)) | lck (ds : List (PyData × PyData))
abbrev Ev := List Sl
def DT (K : PySem.W.Frag) (M : Hp) (e : List Key × V) (f : PyData × PyData) : Prop := f.1 = .tuple (e.1.map keyD) ∧ Rp K M e.2 f.2
def DS (K : PySem.W.Frag) (M : Hp) (e : Key × V) (f : Str × PyData) : Prop := e.1 = .inr f.1 ∧ Rp K M e.2 f.2
inductive OwnAt (K : PySem.W.Frag) (P : Pr T) (p : Addr) : PyData → Prop
  | lst {xs : List V} {ds : List PyData} : P.M p = none → P.H p = some (.lst xs) → RpAll K P.M xs ds → OwnAt K P p (.list ds)
  | dT {kvs : List (List Key × V)} {ds : List (PyData × PyData)} : P.M p = none → P.H p = some (.dT kvs) → PySem.W.EachIs (DT K P.M) kvs ds → OwnAt K P p (.dict ds)
theorem own_none {P P' : Pr T} (l : Le P P') {p : Addr} {o : HO} (h : P.M p = none) (e : P.H p = some o) (n : Plain o) (n2 : ∀ vs, o ≠ .tup vs) : P'.M p = none := by
  cases z : P'.M p with
  | none => rfl
  | some u =>
    rcases l.f p h (by rw [z]; exact fun q => nomatch q) with w | ⟨vs, w⟩
    · obtain ⟨ps, w⟩ := w o e
      exact absurd w (n ps)
    · rw [e] at w
      exact absurd (Option.some.inj w) (n2 vs)
theorem OwnAt.up {P P' : Pr T} (l : Le P P') {p : Addr} {d : PyData} (h : OwnAt K P p d) : OwnAt K P' p d := by
  cases h with
  | lst h1 h2 h3 => exact .lst (own_none l h1 h2 (fun _ z => nomatch z) fun _ z => nomatch z) (l.h _ _ h2 fun _ z => nomatch z) (h3.ext l.m)
  | dT h1 h2 h3 => exact .dT (own_none l h1 h2 (fun _ z => nomatch z) fun _ z => nomatch z) (l.h _ _ h2 fun _ z => nomatch z) (h3.mono fun _ _ r => ⟨r.1, r.2.ext l.m⟩)
/-- the object of an own thing -/
theorem OwnAt.obj {P : Pr T} {p : Addr} {d : PyData} (h : OwnAt K P p d) : P.M p = none ∧ ∃ o, P.H p = some o ∧ Plain o := by
  cases h with
  | lst h1 h2 h3 => exact ⟨h1, _, h2, fun _ z => nomatch z⟩
  | dT h1 h2 h3 => exact ⟨h1, _, h2, fun _ z => nomatch z⟩
theorem OwnAt.tight {P : Pr T} {p : Addr} {d : PyData} (h : OwnAt K P p d) (l : Loose P.H p) : False := by
  obtain ⟨_, o, h1, h2⟩ := h.obj
  obtain ⟨ps, z⟩ := l o h1
  exact h2 ps z
inductive SlOk (K : PySem.W.Frag) (P : Pr T) : Option V → Sl → Prop
  | no {o : Option V} : SlOk K P o .no
  | val {v : V} {d : PyData} : Rp K P.M v d → SlOk K P (some v) (.val d)
  | own {p : Addr} {d : PyData} : OwnAt K P p d → SlOk K P (some (.ref p)) (.own d)
  | exn {a : Addr} : SlOk K P (some (.ref a)) (.exn a)
  | ods {p : Addr} {kvs : List (Key × V)} {ds : List (Str × PyData)} : P.M p = none → P.H p = some (.dK kvs) → PySem.W.EachIs (DS K P.M) kvs ds → SlOk K P (some (.ref p)) (.ods ds)
  | lck {p : Addr} {od : Obj} {kvs : List (List Key × V)} {ds : List (PyData × PyData)} : P.M p = none → P.H p = some (.frz od (.dT kvs)) → PySem.W.EachIs (DT K P.M) kvs ds → SlOk K P (some (.ref p)) (.lck ds)
theorem SlOk.up {P P' : Pr T} (l : Le P P') {o : Option V} {s : Sl} (h : SlOk K P o s) : SlOk K P' o s := by
  cases h with
  | no => exact .no
  | val h => exact .val (h.ext l.m)
  | own h => exact .own (h.up l)
  | exn => exact .exn
  | ods h1 h2 h3 => exact .ods (own_none l h1 h2 (fun _ z => nomatch z) fun _ z => nomatch z) (l.h _ _ h2 fun _ z => nomatch z) (h3.mono fun _ _ r => ⟨r.1, r.2.ext l.m⟩)
  | lck h1 h2 h3 => exact .lck (own_none l h1 h2 (fun _ z => nomatch z) fun _ z => nomatch z) (l.h _ _ h2 fun _ z => nomatch z) (h3.mono fun _ _ r => ⟨r.1, r.2.ext l.m⟩)
/-- dicts of one's own that are rows of names -/
def Ods (P0 : Pr T) (σ : L2.St) (ρ : Ev) : Prop := (∀ (i j : Nat) p ks ls, i ≠ j → ρ[i]? = some (.ods ks) → ρ[j]? = some (.ods ls) → σ[i]? = some (some (.ref p)) → σ[j]? = some (some (.ref p)) → False) ∧ ∀ (i : Nat) ks p, ρ[i]? = some (.ods ks) → σ[i]? = some (some (.ref p)) → Loose P0.H p
structure St (K : PySem.W.Frag) (P0 P : Pr T) (σ : L2.St) (ρ : Ev) : Prop where
  le : Le P0 P
  len : σ.length = ρ.length
  ok : ∀ (i : Nat) s, ρ[i]? = some s → ∃ o, σ[i]? = some o ∧ SlOk K P o s
  dis : ∀ (i j : Nat) p d e, i ≠ j → ρ[i]? = some (.own d) → ρ[j]? = some (.own e) → σ[i]? = some (some (.ref p)) → σ[j]? = some (some (.ref p)) → False
  fr : ∀ (i : Nat) d p, ρ[i]? = some (.own d) → σ[i]? = some (some (.ref p)) → Loose P0.H p
  od : Ods P0 σ ρ
variable {P0 P P' : Pr T} {σ : L2.St} {ρ : Ev}
theorem St.up (s : St K P0 P σ ρ) (l : Le P P') : St K P0 P' σ ρ := ⟨s.le.trans l, s.len, fun i x h => let ⟨o, h1, h2⟩ := s.ok i x h; ⟨o, h1, h2.up l⟩, s.dis, s.fr, s.od⟩
theorem getset {α : Type} {l : List α} {i j : Nat} {x y : α} (h : (l.set i x)[j]? = some y) : (i = j ∧ y = x ∧ j < l.length) ∨ (i ≠ j ∧ l[j]? = some y) := by
  by_cases e : i = j
  · subst e
    have hl : i < l.length := by
      have := (List.getElem?_eq_some_iff.mp h).1
      simpa using this
    rw [List.getElem?_set_self hl] at h
    exact .inl ⟨rfl, (Option.some.inj h).symm, hl⟩
  · rw [List.getElem?_set_ne e] at h
    exact .inr ⟨e, h⟩
theorem Ods.put {P0 : Pr T} {σ : L2.St} {ρ : Ev} (h : Ods P0 σ ρ) (i : Nat) (o : Option V) (s : Sl) (hs : ∀ ks, s ≠ .ods ks) : Ods P0 (σ.set i o) (ρ.set i s) := by
  refine ⟨fun j k p ks ls ne h1 h2 h3 h4 => ?_, fun j ks p h1 h2 => ?_⟩
  · rcases getset h1 with ⟨_, z, _⟩ | ⟨n1, h1⟩
    · exact hs ks z.symm
    rcases getset h2 with ⟨_, z, _⟩ | ⟨n2, h2⟩
    · exact hs ls z.symm
    rw [List.getElem?_set_ne n1] at h3
    rw [List.getElem?_set_ne n2] at h4
    exact h.1 j k p ks ls ne h1 h2 h3 h4
  · rcases getset h1 with ⟨_, z, _⟩ | ⟨n1, h1⟩
    · exact absurd z.symm (hs ks)
    rw [List.getElem?_set_ne n1] at h2
    exact h.2 j ks p h1 h2
theorem Ods.same {P0 : Pr T} {σ : L2.St} {ρ : Ev} (h : Ods P0 σ ρ) (i : Nat) (s : Sl) (hs : ∀ ks, s ≠ .ods ks) : Ods P0 σ (ρ.set i s) := by
  refine ⟨fun j k p ks ls ne h1 h2 h3 h4 => ?_, fun j ks p h1 h2 => ?_⟩
  · rcases getset h1 with ⟨_, z, _⟩ | ⟨n1, h1⟩
    · exact hs ks z.symm
    rcases getset h2 with ⟨_, z, _⟩ | ⟨n2, h2⟩
    · exact hs ls z.symm
    exact h.1 j k p ks ls ne h1 h2 h3 h4
  · rcases getset h1 with ⟨_, z, _⟩ | ⟨n1, h1⟩
    · exact absurd z.symm (hs ks)
    exact h.2 j ks p h1 h2
theorem St.set (s : St K P0 P σ ρ) {v : V} {d : PyData} (r : Rp K P.M v d) (i : Nat) : St K P0 P (σ.set i (some v)) (ρ.set i (.val d)) := by
  refine ⟨s.le, by rw [List.length_set, List.length_set]; exact s.len, fun j x h => ?_, fun j k p d1 e ne h1 h2 h3 h4 => ?_, fun j e p h1 h2 => ?_, s.od.put i _ _ fun _ z => nomatch z⟩
  · rcases getset h with ⟨rfl, rfl, hl⟩ | ⟨ne, h⟩
    · exact ⟨_, List.getElem?_set_self (by rw [s.len]; exact hl), .val r⟩
    · rw [List.getElem?_set_ne ne]
      exact s.ok j x h
  · rcases getset h1 with ⟨_, z, _⟩ | ⟨ne1, h1⟩
    · cases z
    rcases getset h2 with ⟨_, z, _⟩ | ⟨ne2, h2⟩
    · cases z
    rw [List.getElem?_set_ne ne1] at h3
    rw [List.getElem?_set_ne ne2] at h4
    exact s.dis j k p d1 e ne h1 h2 h3 h4
  · rcases getset h1 with ⟨_, z, _⟩ | ⟨ne1, h1⟩
    · cases z
    rw [List.getElem?_set_ne ne1] at h2
    exact s.fr j e p h1 h2
/-- a slot is forgotten -/
theorem St.wipe (s : St K P0 P σ ρ) (i : Nat) (o : Option V) : St K P0 P (σ.set i o) (ρ.set i .no) := by
  refine ⟨s.le, by rw [List.length_set, List.length_set]; exact s.len, fun j x h => ?_, fun j k p d1 e ne h1 h2 h3 h4 => ?_, fun j e p h1 h2 => ?_, s.od.put i _ _ fun _ z => nomatch z⟩
  · rcases getset h with ⟨rfl, rfl, hl⟩ | ⟨ne, h⟩
    · exact ⟨_, List.getElem?_set_self (by rw [s.len]; exact hl), .no⟩
    · rw [List.getElem?_set_ne ne]
      exact s.ok j x h
  · rcases getset h1 with ⟨_, z, _⟩ | ⟨ne1, h1⟩
    · cases z
    rcases getset h2 with ⟨_, z, _⟩ | ⟨ne2, h2⟩
    · cases z
    rw [List.getElem?_set_ne ne1] at h3
    rw [List.getElem?_set_ne ne2] at h4
    exact s.dis j k p d1 e ne h1 h2 h3 h4
  · rcases getset h1 with ⟨_, z, _⟩ | ⟨ne1, h1⟩
    · cases z
    rw [List.getElem?_set_ne ne1] at h2
    exact s.fr j e p h1 h2
theorem St.setO (s : St K P0 P σ ρ) {p : Addr} {d : PyData} (r : OwnAt K P p d) (l : Loose P0.H p) (i : Nat) (ap : ∀ (j : Nat) e q, ρ[j]? = some (.own e) → σ[j]? = some (some (.ref q)) → q ≠ p) : St K P0 P (σ.set i (some (.ref p))) (ρ.set i (.own d)) := by
  refine ⟨s.le, by rw [List.length_set, List.length_set]; exact s.len, fun j x h => ?_, fun j k q d1 e ne h1 h2 h3 h4 => ?_, fun j e q h1 h2 => ?_, s.od.put i _ _ fun _ z => nomatch z⟩
  · rcases getset h with ⟨rfl, rfl, hl⟩ | ⟨ne, h⟩
    · exact ⟨_, List.getElem?_set_self (by rw [s.len]; exact hl), .own r⟩
    · rw [List.getElem?_set_ne ne]
      exact s.ok j x h
  · rcases getset h1 with ⟨rfl, z, hl⟩ | ⟨ne1, h1⟩
    · rcases getset h2 with ⟨z2, _, _⟩ | ⟨ne2, h2⟩
      · exact ne z2
      · rw [List.getElem?_set_self (by rw [s.len]; exact hl)] at h3
        cases h3
        rw [List.getElem?_set_ne ne2] at h4
        exact ap k e _ h2 h4 rfl
    · rcases getset h2 with ⟨rfl, z, hl⟩ | ⟨ne2, h2⟩
      · rw [List.getElem?_set_self (by rw [s.len]; exact hl)] at h4
        cases h4
        rw [List.getElem?_set_ne ne1] at h3
        exact ap j d1 _ h1 h3 rfl
      · rw [List.getElem?_set_ne ne1] at h3
        rw [List.getElem?_set_ne ne2] at h4
        exact s.dis j k q d1 e ne h1 h2 h3 h4
  · rcases getset h1 with ⟨rfl, z, hl⟩ | ⟨ne1, h1⟩
    · rw [List.getElem?_set_self (by rw [s.len]; exact hl)] at h2
      cases h2
      exact l
    · rw [List.getElem?_set_ne ne1] at h2
      exact s.fr j e q h1 h2
theorem tabs_mut {H : Hp} {p : Addr} {o o' : HO} (t : LamX.Tabs T H) (hp : H p = some o) (n : Plain o) (nc : ∀ c q, o ≠ LamX.CodeO c q) : LamX.Tabs T (upd H p o') := fun q hq => by
  obtain ⟨ps, h1, h2, h3⟩ := t q hq
  have ne1 : q.1 ≠ p := fun z => by
    rw [z, hp] at h1
    exact n ps (Option.some.inj h1)
  refine ⟨ps, by rw [upd_ne ne1]; exact h1, h2, fun pos cv hc => ?_⟩
  obtain ⟨c, e1, e2⟩ := h3 pos cv hc
  have ne2 : c ≠ p := fun z => by
    rw [z, hp] at e2
    exact nc _ _ (Option.some.inj e2)
  exact ⟨c, e1, by rw [upd_ne ne2]; exact e2⟩
/-- an own thing is changed -/
theorem St.mut (s : St K P0 P σ ρ) {i : Nat} {p : Addr} {d d' : PyData} {o o' : HO} (hρ : ρ[i]? = some (.own d)) (hσ : σ[i]? = some (some (.ref p))) (hM : P.M p = none) (hp : P.H p = some o) (n : Plain o) (nc : ∀ c q, o ≠ LamX.CodeO c q)
    (hd : ∀ Q : Pr T, Q.M = P.M → Q.H = upd P.H p o' → OwnAt K Q p d') : ∃ Q : Pr T, Q.M = P.M ∧ Q.H = upd P.H p o' ∧ St K P0 Q σ (ρ.set i (.own d')) := by
  have hl : i < ρ.length := (List.getElem?_eq_some_iff.mp hρ).1
  have lo := s.fr i d p hρ hσ
  refine ⟨⟨P.M, upd P.H p o', fun b u e q => ?_, tabs_mut P.tab hp n nc, P.nt⟩, rfl, rfl, ⟨⟨s.le.m, fun b u e q => ?_, s.le.f⟩, by rw [List.length_set]; exact s.len, fun j x h => ?_, fun j k q d1 e ne h1 h2 h3 h4 => ?_, fun j e q h1 h2 => ?_, s.od.same i _ fun _ z => nomatch z⟩⟩
  · have ne : b ≠ p := fun z => by rw [z, hM] at e; cases e
    rw [upd_ne ne]
    exact P.sub b u e q
  · have ne : b ≠ p := fun z => by
      rw [z] at e
      obtain ⟨ps, w⟩ := lo u e
      exact q ps w
    show upd P.H p o' b = some u
    rw [upd_ne ne]
    exact s.le.h b u e q
  · rcases getset h with ⟨rfl, rfl, _⟩ | ⟨ne, h⟩
    · exact ⟨_, hσ, .own (hd _ rfl rfl)⟩
    · obtain ⟨u, h1, h2⟩ := s.ok j x h
      refine ⟨u, h1, ?_⟩
      cases h2 with
      | no => exact .no
      | val r => exact .val r
      | exn => exact .exn
      | @ods q kvs ks b1 b2 b3 =>
        have nq : q ≠ p := fun z => by
          obtain ⟨u', k1, k2⟩ := s.ok i _ hρ
          rw [hσ] at k1
          cases k1
          rw [z] at b2
          cases k2 with
          | own r =>
            cases r with
            | lst a1 a2 a3 =>
              rw [b2] at a2
              cases a2
            | dT a1 a2 a3 =>
              rw [b2] at a2
              cases a2
        exact .ods b1 (by show upd P.H p o' q = _; rw [upd_ne nq]; exact b2) b3
      | @lck q od kvs ds b1 b2 b3 =>
        have nq : q ≠ p := fun z => by
          obtain ⟨u', k1, k2⟩ := s.ok i _ hρ
          rw [hσ] at k1
          cases k1
          rw [z] at b2
          cases k2 with
          | own r =>
            cases r with
            | lst a1 a2 a3 =>
              rw [b2] at a2
              cases a2
            | dT a1 a2 a3 =>
              rw [b2] at a2
              cases a2
        exact .lck b1 (by show upd P.H p o' q = _; rw [upd_ne nq]; exact b2) b3
      | @own q e r =>
        have nq : q ≠ p := fun z => s.dis i j p d e ne hρ h hσ (by rw [h1, z])
        refine .own ?_
        cases r with
        | lst a1 a2 a3 => exact .lst a1 (by show upd P.H p o' q = _; rw [upd_ne nq]; exact a2) a3
        | dT a1 a2 a3 => exact .dT a1 (by show upd P.H p o' q = _; rw [upd_ne nq]; exact a2) a3
  · have g1 : ∃ d1', ρ[j]? = some (.own d1') := by
      rcases getset h1 with ⟨rfl, _, _⟩ | ⟨_, h⟩
      · exact ⟨d, hρ⟩
      · exact ⟨d1, h⟩
    have g2 : ∃ d1', ρ[k]? = some (.own d1') := by
      rcases getset h2 with ⟨rfl, _, _⟩ | ⟨_, h⟩
      · exact ⟨d, hρ⟩
      · exact ⟨e, h⟩
    obtain ⟨u1, g1⟩ := g1
    obtain ⟨u2, g2⟩ := g2
    exact s.dis j k q u1 u2 ne g1 g2 h3 h4
  · rcases getset h1 with ⟨rfl, _, _⟩ | ⟨_, h⟩
    · exact s.fr i d q hρ h2
    · exact s.fr j e q h h2
/-- an own list is one's own no more: data may stand on it -/
theorem St.rel (s : St K P0 P σ ρ) {i : Nat} {ds : List PyData} (hρ : ρ[i]? = some (.own (.list ds))) : ∃ Q : Pr T, Q.H = P.H ∧ St K P0 Q σ (ρ.set i (.val (.list ds))) := by
  have hl : i < ρ.length := (List.getElem?_eq_some_iff.mp hρ).1
  obtain ⟨o, hσ, k⟩ := s.ok i _ hρ
  cases k with
  | @own p _ r =>
    cases r with
    | @lst xs _ a1 a2 a3 =>
      have lo := s.fr i _ p hρ hσ
      have eM : Ex P.M (upd P.M p (.lst xs)) := fun b u e q => by
        have ne : b ≠ p := fun z => by rw [z, a1] at e; cases e
        rw [upd_ne ne]
        exact e
      refine ⟨⟨upd P.M p (.lst xs), P.H, fun b u e q => ?_, P.tab, nt_upd P.nt fun _ z => nomatch z⟩, rfl, ⟨⟨s.le.m.trans eM, s.le.h, fun a h1 h2 => ?_⟩, by rw [List.length_set]; exact s.len, fun j x h => ?_, fun j k q d1 e ne h1 h2 h3 h4 => ?_, fun j e q h1 h2 => ?_, s.od.same i _ fun _ z => nomatch z⟩⟩
      · by_cases z : b = p
        · subst z
          rw [upd_same] at e
          cases e
          exact a2
        · rw [upd_ne z] at e
          exact P.sub b u e q
      · by_cases z : a = p
        · subst z
          exact .inl lo
        · refine s.le.f a h1 ?_
          have h2 : upd P.M p (.lst xs) a ≠ none := h2
          rw [upd_ne z] at h2
          exact h2
      · rcases getset h with ⟨rfl, rfl, _⟩ | ⟨ne, h⟩
        · exact ⟨_, hσ, .val (.lst (SqL.of upd_same) (a3.ext eM))⟩
        · obtain ⟨u, h1, h2⟩ := s.ok j x h
          refine ⟨u, h1, ?_⟩
          cases h2 with
          | no => exact .no
          | val r => exact .val (r.ext eM)
          | exn => exact .exn
          | @ods q kvs ks b1 b2 b3 =>
            have nq : q ≠ p := fun z => by
              rw [z, a2] at b2
              cases b2
            exact .ods (by show upd P.M p _ q = _; rw [upd_ne nq]; exact b1) b2 (b3.mono fun _ _ r => ⟨r.1, r.2.ext eM⟩)
          | @lck q od kvs ds b1 b2 b3 =>
            have nq : q ≠ p := fun z => by
              rw [z, a2] at b2
              cases b2
            exact .lck (by show upd P.M p _ q = _; rw [upd_ne nq]; exact b1) b2 (b3.mono fun _ _ r => ⟨r.1, r.2.ext eM⟩)
          | @own q e r =>
            have nq : q ≠ p := fun z => s.dis i j p _ e ne hρ h hσ (by rw [h1, z])
            refine .own ?_
            cases r with
            | lst b1 b2 b3 => exact .lst (by show upd P.M p _ q = _; rw [upd_ne nq]; exact b1) b2 (b3.ext eM)
            | dT b1 b2 b3 => exact .dT (by show upd P.M p _ q = _; rw [upd_ne nq]; exact b1) b2 (b3.mono fun _ _ r => ⟨r.1, r.2.ext eM⟩)
      · rcases getset h1 with ⟨_, z, _⟩ | ⟨_, h1⟩
        · cases z
        rcases getset h2 with ⟨_, z, _⟩ | ⟨_, h2⟩
        · cases z
        exact s.dis j k q d1 e ne h1 h2 h3 h4
      · rcases getset h1 with ⟨_, z, _⟩ | ⟨_, h1⟩
        · cases z
        exact s.fr j e q h1 h2
/-! ### shallow readings -/
def Rw (K : PySem.W.Frag) (P : Pr T) (v : V) (d : PyData) : Prop := Rp K P.M v d ∨ ∃ p, v = .ref p ∧ OwnAt K P p d
theorem Rw.up {v : V} {d : PyData} (h : Rw K P v d) (l : Le P P') : Rw K P' v d := h.elim (fun r => .inl (r.ext l.m)) fun ⟨p, e, r⟩ => .inr ⟨p, e, r.up l⟩
theorem Rw.int {v : V} {i : Int} (h : Rw K P v (.int i)) : v = .int i := by
  rcases h with h | ⟨p, _, h⟩
  · cases h
    rfl
  · cases h
theorem Rw.str {v : V} {i : Str} (h : Rw K P v (.str i)) : v = .str i := by
  rcases h with h | ⟨p, _, h⟩
  · cases h
    rfl
  · cases h
theorem Rw.bool {v : V} {i : Bool} (h : Rw K P v (.bool i)) : v = .bl i := by
  rcases h with h | ⟨p, _, h⟩
  · cases h
    rfl
  · cases h
theorem Rw.tuple {v : V} {ds : List PyData} (h : Rw K P v (.tuple ds)) : ∃ a xs, v = .ref a ∧ P.M a = some (.tup xs) ∧ SqT K P.H a xs ∧ RpAll K P.M xs ds := by
  rcases h with h | ⟨p, _, h⟩
  · cases h with
    | tup hs ra => exact ⟨_, _, rfl, hs, ex_t P.sub (SqT.of hs), ra⟩
  · cases h
theorem Rw.list {v : V} {ds : List PyData} (h : Rw K P v (.list ds)) : ∃ a xs, v = .ref a ∧ SqL K P.H a xs ∧ RpAll K P.M xs ds := by
  rcases h with h | ⟨p, rfl, h⟩
  · cases h with
    | lst hs ra => exact ⟨_, _, rfl, ex_l P.sub hs, ra⟩
  · cases h with
    | lst h1 h2 h3 => exact ⟨_, _, rfl, SqL.of h2, h3⟩
theorem Rp.up {v : V} {d : PyData} (h : Rp K P.M v d) (l : Le P P') : Rp K P'.M v d := h.ext l.m
end PM

namespace PM
open PySem PySem.Spec PyProof.Rows L2 LB
theorem bind_eq {α β : Type} {o : Option α} {f : α → Option β} {b : β} (h : o.bind f = some b) : ∃ a, o = some a ∧ f a = some b := by
  cases o with
  | none => cases h
  | some a => exact ⟨a, rfl, h⟩
theorem map_eq {α β : Type} {o : Option α} {f : α → β} {b : β} (h : o.map f = some b) : ∃ a, o = some a ∧ f a = b := by
  cases o with
  | none => cases h
  | some a => exact ⟨a, rfl, Option.some.inj h⟩
abbrev ME := Ev → Option PyData
abbrev MT := Ev → Option Bool
abbrev MA := Ev → Option (List PyData)
section
variable (K : PySem.W.Frag) (T : Tb)
def tD (m : ME) : TE := fun σ H Q => ∃ (P0 P : Pr T) (ρ : Ev) (d : PyData), P.H = H ∧ St K P0 P σ ρ ∧ m ρ = some d ∧ ∀ v (P' : Pr T), Le P P' → Rp K P'.M v d → Q v P'.H
def tW (m : ME) : TE := fun σ H Q => ∃ (P0 P : Pr T) (ρ : Ev) (d : PyData), P.H = H ∧ St K P0 P σ ρ ∧ m ρ = some d ∧ ∀ v (P' : Pr T), Le P P' → Rw K P' v d → Q v P'.H
def tF (m : ME) : TE := fun σ H Q => ∃ (P0 P : Pr T) (ρ : Ev) (d : PyData), P.H = H ∧ St K P0 P σ ρ ∧ m ρ = some d ∧ ∀ p (P' : Pr T), Le P P' → OwnAt K P' p d → Loose P.H p → Q (.ref p) P'.H
def tQ (m : MT) : TT := fun σ H Q => ∃ (P0 P : Pr T) (ρ : Ev) (b : Bool), P.H = H ∧ St K P0 P σ ρ ∧ m ρ = some b ∧ ∀ (P' : Pr T), Le P P' → Q b P'.H
def tA (m : MA) : TA := fun σ H Q => ∃ (P0 P : Pr T) (ρ : Ev) (ds : List PyData), P.H = H ∧ St K P0 P σ ρ ∧ m ρ = some ds ∧ ∀ vs (P' : Pr T), Le P P' → RpAll K P'.M vs ds → Q vs P'.H
inductive RwAll (P : Pr T) : List V → List PyData → Prop
  | nil : RwAll P [] []
  | cons {v : V} {vs : List V} {d : PyData} {ds : List PyData} : Rw K P v d → RwAll P vs ds → RwAll P (v :: vs) (d :: ds)
def tAw (m : MA) : TA := fun σ H Q => ∃ (P0 P : Pr T) (ρ : Ev) (ds : List PyData), P.H = H ∧ St K P0 P σ ρ ∧ m ρ = some ds ∧ ∀ vs (P' : Pr T), Le P P' → RwAll K T P' vs ds → Q vs P'.H
def tP (m : Ev → Option (Option Int)) : TO := fun σ H Q => ∃ (P0 P : Pr T) (ρ : Ev) (o : Option Int), P.H = H ∧ St K P0 P σ ρ ∧ m ρ = some o ∧ ∀ (P' : Pr T), Le P P' → Q o P'.H
end
variable {T : Tb} {K : PySem.W.Frag} {X : Cx} {e : Expr}
theorem RwAll.up {P P' : Pr T} (l : Le P P') : ∀ {vs : List V} {ds : List PyData}, RwAll K T P vs ds → RwAll K T P' vs ds
  | _, _, .nil => .nil
  | _, _, .cons h r => .cons (h.up l) (RwAll.up l r)
theorem pe_to {t t' : TE} (h : PE X e t) (i : ∀ σ H Q, t' σ H Q → t σ H Q) : PE X e t' := ⟨fun pins s σ H Q I q => h.run pins s σ H Q I (i σ H Q q)⟩
theorem pt_to {t t' : TT} (h : PT X e t) (i : ∀ σ H Q, t' σ H Q → t σ H Q) : PT X e t' := ⟨fun pins s σ H Q I q => h.run pins s σ H Q I (i σ H Q q)⟩
theorem pw_to {t t' : TT} (h : PW X e t) (i : ∀ σ H Q, t' σ H Q → t σ H Q) : PW X e t' := ⟨fun w pins s σ H Q I q => h.run w pins s σ H Q I (i σ H Q q)⟩
theorem pa_to {es : List Expr} {t t' : TA} (h : PA X es t) (i : ∀ σ H Q, t' σ H Q → t σ H Q) : PA X es t' := ⟨fun p pins s σ H Q I q => h.run p pins s σ H Q I (i σ H Q q)⟩
theorem po_to {o : Option Expr} {t t' : TO} (h : PO X o t) (i : ∀ σ H Q, t' σ H Q → t σ H Q) : PO X o t' := ⟨fun pins s σ H Q I q => h.run pins s σ H Q I (i σ H Q q)⟩
theorem pi_to {tg : Expr} {t t' : TI} (h : PI X tg e t) (i : ∀ σ H Q, t' σ H Q → t σ H Q) : PI X tg e t' := ⟨fun pins s σ H Q I q => h.run pins s σ H Q I (i σ H Q q)⟩
theorem pg_to {t t' : TG} (h : PG X e t) (i : ∀ v σ H Q, t' v σ H Q → t v σ H Q) : PG X e t' := ⟨fun pins s σ H v u Q I r q => h.run pins s σ H v u Q I r (i v σ H Q q)⟩
theorem ps_to {st : Stmt} {t t' : TS} (h : PS X st t) (i : ∀ D σ H, t' D σ H → t D σ H) : PS X st t' := ⟨fun pins s σ H D I q => h.run pins s σ H D I (i D σ H q)⟩
theorem pss_to {st : List Stmt} {t t' : TS} (h : PSs X st t) (i : ∀ D σ H, t' D σ H → t D σ H) : PSs X st t' := ⟨fun pins s σ H D I q => h.run pins s σ H D I (i D σ H q)⟩
theorem pts_to {st : List Expr} {t t' : TT} (h : PTs X st t) (i : ∀ D σ H, t' D σ H → t D σ H) : PTs X st t' := ⟨fun pins s σ H D I q => h.run pins s σ H D I (i σ H D q)⟩
/-- what is deep is shallow -/
theorem c_w {m : ME} (h : PE X e (tD K T m)) : PE X e (tW K T m) := pe_to h fun σ H Q ⟨P0, P, ρ, d, h1, s, h2, q⟩ => ⟨P0, P, ρ, d, h1, s, h2, fun v P' l r => q v P' l (.inl r)⟩
theorem c_fw {m : ME} (h : PE X e (tF K T m)) : PE X e (tW K T m) := pe_to h fun σ H Q ⟨P0, P, ρ, d, h1, s, h2, q⟩ => ⟨P0, P, ρ, d, h1, s, h2, fun p P' l r lo => q _ P' l (.inr ⟨p, rfl, r⟩)⟩
/-- an own new list becomes one that data may stand on -/
theorem own_put {P P' : Pr T} {p : Addr} {ds : List PyData} (l : Le P P') (r : OwnAt K P' p (.list ds)) (lo : Loose P.H p) : ∃ P'' : Pr T, P''.H = P'.H ∧ Le P P'' ∧ Rp K P''.M (.ref p) (.list ds) := by
  cases r with
  | @lst xs _ a1 a2 a3 =>
    have eM : Ex P'.M (upd P'.M p (.lst xs)) := fun b u e q => by
      have ne : b ≠ p := fun z => by rw [z, a1] at e; cases e
      rw [upd_ne ne]
      exact e
    refine ⟨⟨upd P'.M p (.lst xs), P'.H, fun b u e q => ?_, P'.tab, nt_upd P'.nt fun _ z => nomatch z⟩, rfl, ⟨l.m.trans eM, l.h, fun a h1 h2 => ?_⟩, .lst (SqL.of upd_same) (a3.ext eM)⟩
    · by_cases z : b = p
      · subst z
        rw [upd_same] at e
        cases e
        exact a2
      · rw [upd_ne z] at e
        exact P'.sub b u e q
    · by_cases z : a = p
      · subst z
        exact .inl lo
      · refine l.f a h1 ?_
        have h2 : upd P'.M p (.lst xs) a ≠ none := h2
        rw [upd_ne z] at h2
        exact h2
def isLst : PyData → Bool
  | .list _ => true
  | _ => false
theorem fd_in {m : ME} (hl : ∀ ρ d, m ρ = some d → isLst d = true) {σ : L2.St} {H : Hp} {Q : VK} (h : tD K T m σ H Q) : tF K T m σ H Q := by
  obtain ⟨P0, P, ρ, d, h1, s, h2, q⟩ := h
  refine ⟨P0, P, ρ, d, h1, s, h2, fun p P' l r lo => ?_⟩
  have hi := hl ρ d h2
  match d, hi with
  | .list ds, _ =>
    obtain ⟨P'', e, l'', r''⟩ := own_put l r lo
    rw [← e]
    exact q _ P'' l'' r''
theorem c_f {m : ME} (h : PE X e (tF K T m)) (hl : ∀ ρ d, m ρ = some d → isLst d = true) : PE X e (tD K T m) := pe_to h fun σ H Q z => fd_in hl z
/-! ### names, constants -/
def mC (d : PyData) : ME := fun _ => some d
def mV (i : Nat) : ME := fun ρ => match ρ[i]? with
  | some (.val d) => some d
  | _ => none
def mW (i : Nat) : ME := fun ρ => match ρ[i]? with
  | some (.val d) => some d
  | some (.own d) => some d
  | _ => none
theorem c_c {v : V} {d : PyData} (h : PE X e (tC v)) (r : ∀ M, Rp K M v d) : PE X e (tD K T (mC d)) := pe_to h fun σ H Q ⟨P0, P, ρ, d', h1, s, h2, q⟩ => by
  cases h2
  subst h1
  exact q v P (Le.refl P) (r _)
theorem c_v {i : Nat} (h : PE X e (tVar i)) : PE X e (tD K T (mV i)) := pe_to h fun σ H Q ⟨P0, P, ρ, d', h1, s, h2, q⟩ => by
  subst h1
  unfold mV at h2
  split at h2
  · rename_i d hd
    cases h2
    obtain ⟨o, g1, g2⟩ := s.ok i _ hd
    cases g2 with
    | val r => exact ⟨_, g1, q _ P (Le.refl P) r⟩
  · cases h2
theorem c_vw {i : Nat} (h : PE X e (tVar i)) : PE X e (tW K T (mW i)) := pe_to h fun σ H Q ⟨P0, P, ρ, d', h1, s, h2, q⟩ => by
  subst h1
  unfold mW at h2
  split at h2
  · rename_i d hd
    cases h2
    obtain ⟨o, g1, g2⟩ := s.ok i _ hd
    cases g2 with
    | val r => exact ⟨_, g1, q _ P (Le.refl P) (.inl r)⟩
  · rename_i d hd
    cases h2
    obtain ⟨o, g1, g2⟩ := s.ok i _ hd
    cases g2 with
    | own r => exact ⟨_, g1, q _ P (Le.refl P) (.inr ⟨_, rfl, r⟩)⟩
  · cases h2
/-! ### two-place operations -/
def OpD (K : PySem.W.Frag) (T : Tb) (r : R2) (f : PyData → PyData → Option PyData) : Prop := ∀ (P : Pr T) x y a b d, Rw K P x a → Rw K P y b → f a b = some d → ∀ Q : VK, (∀ v (P' : Pr T), Le P P' → Rp K P'.M v d → Q v P'.H) → r x y P.H Q
def mOp (f : PyData → PyData → Option PyData) (a b : ME) : ME := fun ρ => (a ρ).bind fun x => (b ρ).bind fun y => f x y
theorem c_op {r : R2} {f : PyData → PyData → Option PyData} {a b : ME} (hD : OpD K T r f) (h : PE X e (tOp r (tW K T a) (tW K T b))) : PE X e (tD K T (mOp f a b)) := pe_to h fun σ H Q ⟨P0, P, ρ, d, h1, s, h2, q⟩ => by
  subst h1
  obtain ⟨x, ex, h2⟩ := bind_eq h2
  obtain ⟨y, ey, h2⟩ := bind_eq h2
  exact ⟨P0, P, ρ, x, rfl, s, ex, fun v P1 l1 r1 => ⟨P0, P1, ρ, y, rfl, s.up l1, ey, fun u P2 l2 r2 => hD P2 v u x y d (r1.up l2) r2 h2 Q fun w P3 l3 r3 => q w P3 ((l1.trans l2).trans l3) r3⟩⟩
/-- the test of a comparison -/
def asB : PyData → Option Bool
  | .bool b => some b
  | _ => none
def qV (a : ME) : MT := fun ρ => (a ρ).bind asB
theorem asB_eq {d : PyData} {b : Bool} (h : asB d = some b) : d = .bool b := by
  unfold asB at h
  split at h
  · cases h
    rfl
  · cases h
theorem c_opT {r : R2} {f : PyData → PyData → Option PyData} {a b : ME} (hD : OpD K T r f) (h : PT X e (tTest (tOp r (tW K T a) (tW K T b)))) : PT X e (tQ K T (qV (mOp f a b))) := pt_to h fun σ H Q ⟨P0, P, ρ, c, h1, s, h2, q⟩ => by
  subst h1
  obtain ⟨z, h2, ez⟩ := bind_eq h2
  rw [asB_eq ez] at h2
  obtain ⟨x, ex, h2⟩ := bind_eq h2
  obtain ⟨y, ey, h2⟩ := bind_eq h2
  refine ⟨P0, P, ρ, x, rfl, s, ex, fun v P1 l1 r1 => ⟨P0, P1, ρ, y, rfl, s.up l1, ey, fun u P2 l2 r2 => hD P2 v u x y _ (r1.up l2) r2 h2 _ fun w P3 l3 r3 => ?_⟩⟩
  cases r3
  exact ⟨c, rfl, q P3 ((l1.trans l2).trans l3)⟩
theorem c_tv {a : ME} (h : PT X e (tB (tD K T a))) : PT X e (tQ K T (qV a)) := pt_to h fun σ H Q ⟨P0, P, ρ, c, h1, s, h2, q⟩ => by
  subst h1
  obtain ⟨z, h2, ez⟩ := bind_eq h2
  rw [asB_eq ez] at h2
  refine ⟨P0, P, ρ, _, rfl, s, h2, fun v P1 l1 r1 => ?_⟩
  cases r1
  exact ⟨c, rfl, q P1 l1⟩
def qNot (a : MT) : MT := fun ρ => (a ρ).map fun b => !b
def qAnd (a b : MT) : MT := fun ρ => (a ρ).bind fun c => if c = true then b ρ else some false
def qOr (a b : MT) : MT := fun ρ => (a ρ).bind fun c => if c = true then some true else b ρ
theorem c_not {a : MT} (h : PT X e (tNot (tQ K T a))) : PT X e (tQ K T (qNot a)) := pt_to h fun σ H Q ⟨P0, P, ρ, c, h1, s, h2, q⟩ => by
  obtain ⟨b, h3, rfl⟩ := map_eq h2
  exact ⟨P0, P, ρ, b, h1, s, h3, q⟩
theorem c_and {a b : MT} (h : PW X e (tAnd (tQ K T a) (tQ K T b))) : PW X e (tQ K T (qAnd a b)) := pw_to h fun σ H Q ⟨P0, P, ρ, c, h1, s, h2, q⟩ => by
  subst h1
  obtain ⟨x, ex, h2⟩ := bind_eq h2
  refine ⟨P0, P, ρ, x, rfl, s, ex, fun P1 l1 => ?_⟩
  cases x with
  | true => exact iteT ⟨P0, P1, ρ, c, rfl, s.up l1, by simpa using h2, fun P2 l2 => q P2 (l1.trans l2)⟩
  | false =>
    have : c = false := by simpa using h2.symm
    subst this
    exact iteF (q P1 l1)
theorem c_or {a b : MT} (h : PW X e (tOr (tQ K T a) (tQ K T b))) : PW X e (tQ K T (qOr a b)) := pw_to h fun σ H Q ⟨P0, P, ρ, c, h1, s, h2, q⟩ => by
  subst h1
  obtain ⟨x, ex, h2⟩ := bind_eq h2
  refine ⟨P0, P, ρ, x, rfl, s, ex, fun P1 l1 => ?_⟩
  cases x with
  | false => exact iteF ⟨P0, P1, ρ, c, rfl, s.up l1, by simpa using h2, fun P2 l2 => q P2 (l1.trans l2)⟩
  | true =>
    have : c = true := by simpa using h2.symm
    subst this
    exact iteT (q P1 l1)
/-! ### and, or, not as values; chains -/
def mAnd (a b : ME) : ME := fun ρ => (a ρ).bind fun x => (asB x).bind fun c => if c = true then b ρ else some (.bool false)
def mOr (a b : ME) : ME := fun ρ => (a ρ).bind fun x => (asB x).bind fun c => if c = true then some (.bool true) else b ρ
def mNot (a : ME) : ME := fun ρ => (a ρ).bind fun x => (asB x).map fun c => .bool (!c)
def mIf (t : MT) (a b : ME) : ME := fun ρ => (t ρ).bind fun c => if c = true then a ρ else b ρ
theorem c_andV {a b : ME} (h : PE X e (tAndV (tD K T a) (tD K T b))) : PE X e (tD K T (mAnd a b)) := pe_to h fun σ H Q ⟨P0, P, ρ, d, h1, s, h2, q⟩ => by
  subst h1
  obtain ⟨x, ex, h2⟩ := bind_eq h2
  obtain ⟨c, ec, h3⟩ := bind_eq h2
  have := asB_eq ec
  subst this
  refine ⟨P0, P, ρ, _, rfl, s, ex, fun v P1 l1 r1 => ?_⟩
  cases r1
  refine ⟨c, rfl, ?_⟩
  cases c with
  | true => exact iteT ⟨P0, P1, ρ, d, rfl, s.up l1, by simpa using h3, fun v P2 l2 r2 => q v P2 (l1.trans l2) r2⟩
  | false =>
    have : d = .bool false := by simpa using h3.symm
    subst this
    exact iteF (q _ P1 l1 (.bl _))
theorem c_orV {a b : ME} (h : PE X e (tOrV (tD K T a) (tD K T b))) : PE X e (tD K T (mOr a b)) := pe_to h fun σ H Q ⟨P0, P, ρ, d, h1, s, h2, q⟩ => by
  subst h1
  obtain ⟨x, ex, h2⟩ := bind_eq h2
  obtain ⟨c, ec, h3⟩ := bind_eq h2
  have := asB_eq ec
  subst this
  refine ⟨P0, P, ρ, _, rfl, s, ex, fun v P1 l1 r1 => ?_⟩
  cases r1
  refine ⟨c, rfl, ?_⟩
  cases c with
  | false => exact iteF ⟨P0, P1, ρ, d, rfl, s.up l1, by simpa using h3, fun v P2 l2 r2 => q v P2 (l1.trans l2) r2⟩
  | true =>
    have : d = .bool true := by simpa using h3.symm
    subst this
    exact iteT (q _ P1 l1 (.bl _))
theorem c_notV {a : ME} (h : PE X e (tNotV (tD K T a))) : PE X e (tD K T (mNot a)) := pe_to h fun σ H Q ⟨P0, P, ρ, d, h1, s, h2, q⟩ => by
  subst h1
  obtain ⟨x, ex, h2⟩ := bind_eq h2
  obtain ⟨c, ec, rfl⟩ := map_eq h2
  have := asB_eq ec
  subst this
  refine ⟨P0, P, ρ, _, rfl, s, ex, fun v P1 l1 r1 => ?_⟩
  cases r1
  exact ⟨c, rfl, q _ P1 l1 (.bl _)⟩
theorem c_if {t : MT} {a b : ME} (h : PE X e (tIf (tQ K T t) (tD K T a) (tD K T b))) : PE X e (tD K T (mIf t a b)) := pe_to h fun σ H Q ⟨P0, P, ρ, d, h1, s, h2, q⟩ => by
  subst h1
  obtain ⟨c, ec, h2⟩ := bind_eq h2
  refine ⟨P0, P, ρ, c, rfl, s, ec, fun P1 l1 => ?_⟩
  cases c with
  | true => exact iteT ⟨P0, P1, ρ, d, rfl, s.up l1, by simpa using h2, fun v P2 l2 r2 => q v P2 (l1.trans l2) r2⟩
  | false => exact iteF ⟨P0, P1, ρ, d, rfl, s.up l1, by simpa using h2, fun v P2 l2 r2 => q v P2 (l1.trans l2) r2⟩
def mCh (f g : PyData → PyData → Option PyData) (a b c : ME) : ME := fun ρ => (a ρ).bind fun x => (b ρ).bind fun y => (f x y).bind fun z => (asB z).bind fun k => if k = true then (c ρ).bind fun w => g y w else some (.bool false)
theorem ch_in {r r' : R2} {f g : PyData → PyData → Option PyData} {a b c : ME} (hD : OpD K T r f) (hD' : OpD K T r' g) {σ : L2.St} {H : Hp} {Q : VK} (h : tD K T (mCh f g a b c) σ H Q) : tChain r r' (tW K T a) (tW K T b) (tW K T c) σ H Q := by
  obtain ⟨P0, P, ρ, d, h1, s, h2, q⟩ := h
  subst h1
  obtain ⟨x, ex, h2⟩ := bind_eq h2
  obtain ⟨y, ey, h2⟩ := bind_eq h2
  obtain ⟨z, ez, h2⟩ := bind_eq h2
  obtain ⟨k, ek, h3⟩ := bind_eq h2
  have := asB_eq ek
  subst this
  refine ⟨P0, P, ρ, x, rfl, s, ex, fun v P1 l1 r1 => ⟨P0, P1, ρ, y, rfl, s.up l1, ey, fun u P2 l2 r2 => hD P2 v u x y _ (r1.up l2) r2 ez _ fun w P3 l3 r3 => ?_⟩⟩
  cases r3
  refine ⟨k, rfl, ?_⟩
  cases k with
  | false =>
    have : d = .bool false := by simpa using h3.symm
    subst this
    exact iteF (q _ P3 ((l1.trans l2).trans l3) (.bl _))
  | true =>
    obtain ⟨w, ew, h2⟩ := bind_eq (show ((c ρ).bind fun w => g y w) = some d by simpa using h3)
    exact iteT ⟨P0, P3, ρ, w, rfl, s.up ((l1.trans l2).trans l3), ew, fun v' P4 l4 r4 => hD' P4 u v' y w d ((r2.up l3).up l4) r4 h2 Q fun w' P5 l5 r5 => q w' P5 (((l1.trans l2).trans l3).trans (l4.trans l5)) r5⟩
theorem c_ch {r r' : R2} {f g : PyData → PyData → Option PyData} {a b c : ME} (hD : OpD K T r f) (hD' : OpD K T r' g) (h : PE X e (tChain r r' (tW K T a) (tW K T b) (tW K T c))) : PE X e (tD K T (mCh f g a b c)) := pe_to h fun σ H Q z => ch_in hD hD' z
theorem c_chT {r r' : R2} {f g : PyData → PyData → Option PyData} {a b c : ME} (hD : OpD K T r f) (hD' : OpD K T r' g) (h : PT X e (tTest (tChain r r' (tW K T a) (tW K T b) (tW K T c)))) : PT X e (tQ K T (qV (mCh f g a b c))) := pt_to h fun σ H Q ⟨P0, P, ρ, k, h1, s, h2, q⟩ => by
  obtain ⟨z, h2, ez⟩ := bind_eq h2
  rw [asB_eq ez] at h2
  refine ch_in hD hD' ⟨P0, P, ρ, _, h1, s, h2, fun v P' l r => ?_⟩
  cases r
  exact ⟨k, rfl, q P' l⟩
/-! ### one place -/
def mUn (f : PyData → Option PyData) (a : ME) : ME := fun ρ => (a ρ).bind f
def oNeg : PyData → Option PyData
  | .int i => some (.int (-i))
  | _ => none
theorem c_neg {a : ME} (h : PE X e (tUn (rU fun i => .int (-i)) (tD K T a))) : PE X e (tD K T (mUn oNeg a)) := pe_to h fun σ H Q ⟨P0, P, ρ, d, h1, s, h2, q⟩ => by
  subst h1
  obtain ⟨x, ex, h2⟩ := bind_eq h2
  unfold oNeg at h2
  split at h2
  · cases h2
    refine ⟨P0, P, ρ, _, rfl, s, ex, fun v P1 l1 r1 => ?_⟩
    cases r1
    exact ⟨_, rfl, q _ P1 l1 (.int _)⟩
  · cases h2
/-! ### rows of expressions -/
def aNil : MA := fun _ => some []
def aCons (a : ME) (b : MA) : MA := fun ρ => (a ρ).bind fun x => (b ρ).map fun xs => x :: xs
theorem a_nil {es : List Expr} (h : PA X es tNil) : PA X es (tA K T aNil) := pa_to h fun σ H Q ⟨P0, P, ρ, d, h1, s, h2, q⟩ => by
  cases h2
  subst h1
  exact q [] P (Le.refl P) .nil
theorem a_cons {es : List Expr} {a : ME} {b : MA} (h : PA X es (tCons (tD K T a) (tA K T b))) : PA X es (tA K T (aCons a b)) := pa_to h fun σ H Q ⟨P0, P, ρ, d, h1, s, h2, q⟩ => by
  subst h1
  obtain ⟨x, ex, h2⟩ := bind_eq h2
  obtain ⟨xs, es', rfl⟩ := map_eq h2
  exact ⟨P0, P, ρ, x, rfl, s, ex, fun v P1 l1 r1 => ⟨P0, P1, ρ, xs, rfl, s.up l1, es', fun vs P2 l2 r2 => q _ P2 (l1.trans l2) (.cons (r1.ext l2.m) r2)⟩⟩
theorem a_nilw {es : List Expr} (h : PA X es tNil) : PA X es (tAw K T aNil) := pa_to h fun σ H Q ⟨P0, P, ρ, d, h1, s, h2, q⟩ => by
  cases h2
  subst h1
  exact q [] P (Le.refl P) .nil
theorem a_consw {es : List Expr} {a : ME} {b : MA} (h : PA X es (tCons (tW K T a) (tAw K T b))) : PA X es (tAw K T (aCons a b)) := pa_to h fun σ H Q ⟨P0, P, ρ, d, h1, s, h2, q⟩ => by
  subst h1
  obtain ⟨x, ex, h2⟩ := bind_eq h2
  obtain ⟨xs, es', rfl⟩ := map_eq h2
  exact ⟨P0, P, ρ, x, rfl, s, ex, fun v P1 l1 r1 => ⟨P0, P1, ρ, xs, rfl, s.up l1, es', fun vs P2 l2 r2 => q _ P2 (l1.trans l2) (.cons (r1.up l2) r2)⟩⟩
/-- *x -/
def oStar : PyData → Option (List PyData)
  | .tuple xs => some xs
  | .list xs => some xs
  | _ => none
def aStar (a : ME) (b : MA) : MA := fun ρ => (a ρ).bind fun x => (oStar x).bind fun ys => (b ρ).map fun xs => ys ++ xs
theorem a_star {es : List Expr} {a : ME} {b : MA} (h : PA X es (StX.tStar K (tW K T a) (tA K T b))) : PA X es (tA K T (aStar a b)) := pa_to h fun σ H Q ⟨P0, P, ρ, d, h1, s, h2, q⟩ => by
  subst h1
  obtain ⟨x, ex, h2⟩ := bind_eq h2
  obtain ⟨ys, ey, h2⟩ := bind_eq h2
  obtain ⟨xs, es', rfl⟩ := map_eq h2
  refine ⟨P0, P, ρ, x, rfl, s, ex, fun v P1 l1 r1 => ?_⟩
  unfold oStar at ey
  split at ey
  · cases ey
    obtain ⟨p, zs, rfl, _, hs, ra⟩ := r1.tuple
    exact ⟨p, zs, rfl, .inl hs, P0, P1, ρ, xs, rfl, s.up l1, es', fun vs P2 l2 r2 => q _ P2 (l1.trans l2) (RpAll.append (ra.ext l2.m) r2)⟩
  · cases ey
    obtain ⟨p, zs, rfl, hs, ra⟩ := r1.list
    exact ⟨p, zs, rfl, .inr hs, P0, P1, ρ, xs, rfl, s.up l1, es', fun vs P2 l2 r2 => q _ P2 (l1.trans l2) (RpAll.append (ra.ext l2.m) r2)⟩
  · cases ey
def oFew (ds : List PyData) : Option (List PyData) := if ds.length ≤ 100000 then some ds else none
theorem oFew_eq {ds es : List PyData} (h : oFew ds = some es) : es = ds ∧ ds.length ≤ 100000 := by
  unfold oFew at h
  split at h
  · cases h
    exact ⟨rfl, by assumption⟩
  · cases h
def mTup (a : MA) : ME := fun ρ => (a ρ).bind fun xs => (oFew xs).map fun ys => .tuple ys
def mLst (a : MA) : ME := fun ρ => (a ρ).bind fun xs => (oFew xs).map fun ys => .list ys
theorem c_tup {a : MA} (h : PE X e (tTup (tA K T a))) : PE X e (tD K T (mTup a)) := pe_to h fun σ H Q ⟨P0, P, ρ, d, h1, s, h2, q⟩ => by
  subst h1
  obtain ⟨xs, ex, h2⟩ := bind_eq h2
  obtain ⟨ys, ey, rfl⟩ := map_eq h2
  obtain ⟨rfl, hl⟩ := oFew_eq ey
  exact ⟨P0, P, ρ, _, rfl, s, ex, fun vs P1 l1 r1 => ⟨Nat.le_trans (by rw [r1.length]; exact hl) (by decide), fun p hp => q _ (P1.put p (.tup vs) hp) (l1.trans (le_put P1 hp)) (.tup upd_same (r1.ext (le_put P1 hp).m))⟩⟩
theorem c_lst {a : MA} (h : PE X e (tLst (tA K T a))) : PE X e (tF K T (mLst a)) := pe_to h fun σ H Q ⟨P0, P, ρ, d, h1, s, h2, q⟩ => by
  subst h1
  obtain ⟨xs, ex, h2⟩ := bind_eq h2
  obtain ⟨ys, ey, rfl⟩ := map_eq h2
  obtain ⟨rfl, hl⟩ := oFew_eq ey
  refine ⟨P0, P, ρ, _, rfl, s, ex, fun vs P1 l1 r1 => ⟨Nat.le_trans (by rw [r1.length]; exact hl) (by decide), fun p hp => q _ (P1.hid p (.lst vs) hp) (l1.trans (le_hid P1 hp)) (.lst (P1.none hp) upd_same r1) (loose_back l1.h (loose_none hp))⟩⟩
theorem mLst_is {a : MA} (ρ : Ev) (d : PyData) (h : mLst a ρ = some d) : isLst d = true := by
  obtain ⟨xs, ex, h2⟩ := bind_eq h
  obtain ⟨ys, ey, rfl⟩ := map_eq h2
  rfl
end PM

namespace PM
open PySem PySem.Spec PyProof.Rows L2 LB
variable {T : Tb} {K : PySem.W.Frag} {X : Cx} {e : Expr}
theorem opR_or {g : Value → Value → Sem Value} {r r' : R2} (h1 : OpR X g r) (h2 : OpR X g r') : OpR X g (fun x y H Q => r x y H Q ∨ r' x y H Q) := fun pins s σ H x y v u Q I rx ry h => h.elim (h1 pins s σ H x y v u Q I rx ry) (h2 pins s σ H x y v u Q I rx ry)
theorem callR_or {g : Value} {r r' : List V → Hp → VK → Prop} (h1 : CallR X g r) (h2 : CallR X g r') : CallR X g (fun x H Q => r x H Q ∨ r' x H Q) := fun pins s σ H x u Q I rx h => h.elim (h1 pins s σ H x u Q I rx) (h2 pins s σ H x u Q I rx)
/-! ### ints -/
def oI (c : Int → Int → Bool) (g : Int → Int → PyData) : PyData → PyData → Option PyData
  | .int i, .int j => if c i j = true then some (g i j) else none
  | _, _ => none
theorem od_I {C : Int → Int → Prop} {gv : Int → Int → V} {c : Int → Int → Bool} {g : Int → Int → PyData} (hc : ∀ i j, c i j = true → C i j) (hr : ∀ M i j, Rp K M (gv i j) (g i j)) : OpD K T (rI C gv) (oI c g) := by
  intro P x y a b d ra rb h Q q
  unfold oI at h
  split at h
  · split at h
    · cases h
      rename_i i j hh
      exact ⟨i, j, ra.int, rb.int, hc i j hh, q _ P (Le.refl P) (hr _ _ _)⟩
    · cases h
  · cases h
theorem od_I0 {gv : Int → Int → V} {g : Int → Int → PyData} (hr : ∀ M i j, Rp K M (gv i j) (g i j)) : OpD K T (rI0 gv) (oI (fun _ _ => true) g) := by
  intro P x y a b d ra rb h Q q
  unfold oI at h
  split at h
  · rename_i i j
    rw [if_pos rfl] at h
    cases h
    exact ⟨i, j, ra.int, rb.int, q _ P (Le.refl P) (hr _ _ _)⟩
  · cases h
def oSub := oI (fun _ _ => true) fun i j => .int (i - j)
theorem od_sub : OpD K T (rI0 fun i j => .int (i - j)) oSub := od_I0 fun _ _ _ => .int _
def oMod := oI (fun _ j => decide (j ≠ 0)) fun i j => .int (i.fmod j)
theorem od_mod : OpD K T (rI (fun _ j => j ≠ 0) fun i j => .int (i.fmod j)) oMod := od_I (fun _ _ h => of_decide_eq_true h) fun _ _ _ => .int _
def oFdv := oI (fun _ j => decide (j ≠ 0 ∧ j.natAbs < 2 ^ 200)) fun i j => .int (i.fdiv j)
theorem od_fdv : OpD K T (rI CDivG fun i j => .int (i.fdiv j)) oFdv := od_I (fun _ _ h => let ⟨h1, h2⟩ := of_decide_eq_true h; divG (b := 200) h1 h2 (by decide) (by decide)) fun _ _ _ => .int _
def oPow := oI (fun i j => decide (0 ≤ j ∧ j ≤ 1000 ∧ i.natAbs < 1000)) fun i j => .int (i ^ j.toNat)
theorem od_pow : OpD K T (rI CPow fun i j => .int (i ^ j.toNat)) oPow := od_I (fun i j h => by
  obtain ⟨h1, h2, h3⟩ := of_decide_eq_true h
  exact ⟨h1, by omega, by omega⟩) fun _ _ _ => .int _
def oShl := oI (fun i j => decide (0 ≤ j ∧ j ≤ 1000 ∧ i.natAbs < 1000)) fun i j => .int (i * 2 ^ j.toNat)
theorem od_shl : OpD K T (rI CPow fun i j => .int (i * 2 ^ j.toNat)) oShl := od_I (fun i j h => by
  obtain ⟨h1, h2, h3⟩ := of_decide_eq_true h
  exact ⟨h1, by omega, by omega⟩) fun _ _ _ => .int _
def oShr := oI (fun _ j => decide (0 ≤ j)) fun i j => .int (i / 2 ^ j.toNat)
theorem od_shr : OpD K T (rI (fun _ j => 0 ≤ j) fun i j => .int (i / 2 ^ j.toNat)) oShr := od_I (fun _ _ h => of_decide_eq_true h) fun _ _ _ => .int _
def oBan := oI (fun _ _ => true) fun i j => .int (Builtin.bitAnd i j)
theorem od_ban : OpD K T (rI0 fun i j => .int (Builtin.bitAnd i j)) oBan := od_I0 fun _ _ _ => .int _
def oLe := oI (fun _ _ => true) fun i j => .bool (decide (i ≤ j))
theorem od_le : OpD K T (rI0 fun i j => .bl (decide (i ≤ j))) oLe := od_I0 fun _ _ _ => .bl _
def oGt := oI (fun _ _ => true) fun i j => .bool (decide (j < i))
theorem od_gt : OpD K T (rI0 fun i j => .bl (decide (j < i))) oGt := od_I0 fun _ _ _ => .bl _
def oGe := oI (fun _ _ => true) fun i j => .bool (decide (j ≤ i))
theorem od_ge : OpD K T (rI0 fun i j => .bl (decide (j ≤ i))) oGe := od_I0 fun _ _ _ => .bl _
/-! ### ints or texts -/
def oLt : PyData → PyData → Option PyData
  | .int i, .int j => some (.bool (decide (i < j)))
  | .str i, .str j => some (.bool (decide (i.cps.toList < j.cps.toList)))
  | _, _ => none
def uLt : R2 := fun x y H Q => rI0 (fun i j => .bl (decide (i < j))) x y H Q ∨ (∃ i j, x = .str i ∧ y = .str j ∧ Q (.bl (decide (i.cps.toList < j.cps.toList))) H)
theorem op_uLt : OpR X (compareOp .Lt) uLt := opR_or op_lt op_lt_str
theorem od_lt : OpD K T uLt oLt := by
  intro P x y a b d ra rb h Q q
  unfold oLt at h
  split at h
  · cases h
    exact .inl ⟨_, _, ra.int, rb.int, q _ P (Le.refl P) (.bl _)⟩
  · cases h
    exact .inr ⟨_, _, ra.str, rb.str, q _ P (Le.refl P) (.bl _)⟩
  · cases h
def oMul : PyData → PyData → Option PyData
  | .int i, .int j => if i.natAbs < 2 ^ 200 ∧ j.natAbs < 2 ^ 200 then some (.int (i * j)) else none
  | .str z, .int n => if 0 ≤ n ∧ n ≤ 1000 ∧ z.length ≤ 1000 then some (.str (repS z n.toNat)) else none
  | _, _ => none
def uMul : R2 := fun x y H Q => rI CMulW (fun i j => .int (i * j)) x y H Q ∨ rRepS x y H Q
theorem op_uMul : OpR X (binaryOp .Mult) uMul := opR_or op_mulW op_repS
theorem od_mul : OpD K T uMul oMul := by
  intro P x y a b d ra rb h Q q
  unfold oMul at h
  split at h
  · split at h
    · cases h
      rename_i hh
      exact .inl ⟨_, _, ra.int, rb.int, wide_mul (a := 200) (b := 200) hh.1 hh.2 (by decide) (by decide) (by decide), q _ P (Le.refl P) (.int _)⟩
    · cases h
  · split at h
    · cases h
      rename_i z n hh
      refine .inr ⟨z, n.toNat, ra.str, ?_, by omega, hh.2.2, q _ P (Le.refl P) (.str _)⟩
      rw [rb.int]
      congr 1
      omega
    · cases h
  · cases h
/-! ### + -/
def rCatL (K : PySem.W.Frag) : R2 := fun x y H Q => ∃ l b xs zs, x = .ref l ∧ y = .ref b ∧ SqL K H l xs ∧ SqL K H b zs ∧ xs.length + zs.length ≤ sizeLine ∧ ∀ p, H p = none → Q (.ref p) (upd H p (.lst (xs ++ zs)))
theorem op_catLL (hK : X.K = K := by rfl) : OpR X (binaryOp .Add) (rCatL K) := by
  subst hK
  intro pins s σ H x y v u Q I rx ry h
  obtain ⟨l, b, xs, zs, rfl, rfl, hH, hB, hz, q⟩ := h
  cases rx
  cases ry
  obtain ⟨its, r, pl, _⟩ := I.list hH
  obtain ⟨its2, r2, pl2, _⟩ := I.list hB
  obtain ⟨⟨cls, dd, data, sl⟩, ho, hc, n, hd⟩ := pl.isList
  obtain ⟨⟨cls2, dd2, data2, sl2⟩, ho2, hc2, n2, hd2⟩ := pl2.isList
  simp only at hc hd hc2 hd2
  subst hc hd hc2 hd2
  have l1 := r.length
  have l2 := r2.length
  have ea : its.toArray ++ its2.toArray = (its ++ its2).toArray := by simp
  refine concat_meets ⟨_, ho, rfl⟩ ⟨_, ho2, rfl⟩ noFill_list_add seq_list_add PySem.F.slot_list_add PySem.F.entry_list_add (PySem.F.args_list_add_2 _ _) (list_addW l b its.toArray its2.toArray n n2 dd dd2 sl sl2 (by rw [List.size_toArray, List.size_toArray]; omega)) ⟨ho, ho2, ?_⟩
  rw [ea]
  show EP X pins σ Q (.ref s.heap.objs.size) _
  exact ⟨.ref _, _, I.lnew (t' := s.toks) (r.append r2) (by rw [List.length_append]; omega), rfl, q _ I.fresh⟩
def oAdd : PyData → PyData → Option PyData
  | .int i, .int j => some (.int (i + j))
  | .str x, .str y => if x.length + y.length ≤ 10000 then some (.str (x ++ y)) else none
  | .list x, .list y => if x.length + y.length ≤ 100000 then some (.list (x ++ y)) else none
  | .tuple x, .tuple y => if x.length + y.length ≤ 100000 then some (.tuple (x ++ y)) else none
  | _, _ => none
def uAdd (K : PySem.W.Frag) : R2 := fun x y H Q => rI0 (fun i j => .int (i + j)) x y H Q ∨ (rAddS x y H Q ∨ (rCatL K x y H Q ∨ rCatA K x y H Q))
theorem op_uAdd (hK : X.K = K := by rfl) : OpR X (binaryOp .Add) (uAdd K) := by
  subst hK
  exact opR_or op_add (opR_or op_addS (opR_or op_catLL op_catA))
theorem od_add : OpD K T (uAdd K) oAdd := by
  intro P x y a b d ra rb h Q q
  unfold oAdd at h
  split at h
  · cases h
    exact .inl ⟨_, _, ra.int, rb.int, q _ P (Le.refl P) (.int _)⟩
  · split at h
    · cases h
      rename_i hh
      exact .inr (.inl ⟨_, _, ra.str, rb.str, Nat.le_trans hh (by decide), q _ P (Le.refl P) (.str _)⟩)
    · cases h
  · split at h
    · cases h
      rename_i hh
      obtain ⟨l, xs, rfl, hs, r1⟩ := ra.list
      obtain ⟨l2, ys, rfl, hs2, r2⟩ := rb.list
      refine .inr (.inr (.inl ⟨l, l2, xs, ys, rfl, rfl, hs, hs2, Nat.le_trans (by rw [r1.length, r2.length]; exact hh) (by decide), fun p hp => q _ (P.put p (.lst (xs ++ ys)) hp) (le_put P hp) (.lst (SqL.of upd_same) ((RpAll.append r1 r2).ext (le_put P hp).m))⟩))
    · cases h
  · split at h
    · cases h
      rename_i hh
      obtain ⟨l, xs, rfl, hm, hs, r1⟩ := ra.tuple
      obtain ⟨l2, ys, rfl, hm2, hs2, r2⟩ := rb.tuple
      refine .inr (.inr (.inr ⟨l, l2, xs, ys, rfl, rfl, hs, hs2, Nat.le_trans (by rw [r1.length, r2.length]; exact hh) (by decide), fun z => q _ P (Le.refl P) ?_, fun _ z => q _ P (Le.refl P) ?_, fun _ _ p hp => q _ (P.put p (.tup (xs ++ ys)) hp) (le_put P hp) (.tup upd_same ((RpAll.append r1 r2).ext (le_put P hp).m))⟩))
      · subst z
        cases r1
        exact .tup hm2 r2
      · subst z
        cases r2
        rw [List.append_nil]
        exact .tup hm r1
    · cases h
  · cases h
/-! ### ==, != -/
mutual
theorem rp_dp {M : Hp} : ∀ {v : V} {d : PyData}, d.canLay0 = true → Rp K M v d → Dp K M v d
  | _, _, _, .non => .non
  | _, _, _, .bl b => .bl b
  | _, _, _, .int i => .int i
  | _, _, _, .str x => .str x
  | _, _, h, .lst hs r => .lst hs (rps_dp (by simpa [PyData.canLay0] using h) r)
  | _, _, h, .tup hs r => .tup (SqT.of hs) (rps_dp (by simpa [PyData.canLay0] using h) r)
  | _, _, h, .dct _ _ _ => absurd h (by simp [PyData.canLay0])
  | _, _, h, .dcT _ _ _ => absurd h (by simp [PyData.canLay0])
theorem rps_dp {M : Hp} : ∀ {v : List V} {d : List PyData}, PyData.canLayAll0 d = true → RpAll K M v d → DpAll K M v d
  | _, _, _, .nil => .nil
  | _, _, h, .cons h1 r => by
    unfold PyData.canLayAll0 at h
    rw [Bool.and_eq_true] at h
    exact .cons (rp_dp h.1 h1) (rps_dp h.2 r)
end
theorem Rw.dp {P : Pr T} {v : V} {d : PyData} (h : Rw K P v d) (hc : d.canLay0 = true) : Dp K P.H v d := by
  refine rp_dp hc ?_
  rcases h with h | ⟨p, rfl, h⟩
  · exact h.ext P.sub
  · cases h with
    | lst h1 h2 h3 => exact .lst (SqL.of h2) (h3.ext P.sub)
    | dT h1 h2 h3 => simp [PyData.canLay0] at hc
def oEq (a b : PyData) : Option PyData := if SeqAt.shaped a = true ∧ SeqAt.shaped b = true then some (.bool (PyData.eqv a b)) else none
def oNe (a b : PyData) : Option PyData := if SeqAt.shaped a = true ∧ SeqAt.shaped b = true then some (.bool (!PyData.eqv a b)) else none
theorem op_eqK (hu : X.A.units + 64 < cLine) (hK : X.K = K := by rfl) : OpR X (compareOp .Eq) (rEqD K) := by
  subst hK
  exact op_eqD hu
theorem op_neK (hu : X.A.units + 64 < cLine) (hK : X.K = K := by rfl) : OpR X (compareOp .NotEq) (rNeD K) := by
  subst hK
  exact op_neD hu
theorem od_eq : OpD K T (rEqD K) oEq := by
  intro P x y a b d ra rb h Q q
  unfold oEq at h
  split at h
  · cases h
    rename_i hh
    exact ⟨a, b, ra.dp (SeqAt.canLay_of_shaped hh.1), rb.dp (SeqAt.canLay_of_shaped hh.2), hh.1, hh.2, q _ P (Le.refl P) (.bl _)⟩
  · cases h
theorem od_ne : OpD K T (rNeD K) oNe := by
  intro P x y a b d ra rb h Q q
  unfold oNe at h
  split at h
  · cases h
    rename_i hh
    exact ⟨a, b, ra.dp (SeqAt.canLay_of_shaped hh.1), rb.dp (SeqAt.canLay_of_shaped hh.2), hh.1, hh.2, q _ P (Le.refl P) (.bl _)⟩
  · cases h
/-! ### in, not in -/
def flD : PyData → Bool
  | .none => true
  | .bool _ => true
  | .int _ => true
  | .str _ => true
  | _ => false
theorem fl_v {M : Hp} {v : V} {d : PyData} (r : Rp K M v d) (h : flD d = true) : flatV v = true := by
  cases r <;> first | rfl | (simp [flD] at h)
theorem fl_vs {M : Hp} : ∀ {vs : List V} {ds : List PyData}, RpAll K M vs ds → ds.all flD = true → vs.all flatV = true
  | _, _, .nil, _ => rfl
  | _, _, .cons h r, q => by
    rw [List.all_cons, Bool.and_eq_true] at q
    rw [List.all_cons, Bool.and_eq_true]
    exact ⟨fl_v h q.1, fl_vs r q.2⟩
theorem fl_eq {M : Hp} {v u : V} {d e : PyData} (r : Rp K M v d) (h : flD d = true) (r' : Rp K M u e) (h' : flD e = true) : eqV v u = PyData.eqv d e := by
  cases r <;> cases r' <;> first | rfl | (simp [flD] at h) | (simp [flD] at h')
theorem fl_in {M : Hp} {v : V} {d : PyData} (r : Rp K M v d) (h : flD d = true) : ∀ {vs : List V} {ds : List PyData}, RpAll K M vs ds → ds.all flD = true → inV v vs = ds.any fun z => PyData.eqv z d
  | _, _, .nil, _ => rfl
  | _, _, .cons h1 r1, q => by
    rw [List.all_cons, Bool.and_eq_true] at q
    have ih := fl_in r h r1 q.2
    unfold inV at ih ⊢
    rw [List.any_cons, List.any_cons, ih, fl_eq h1 q.1 r h]
def itemsD : PyData → Option (List PyData)
  | .list xs => some xs
  | .tuple xs => some xs
  | _ => none
def oIn (x y : PyData) : Option PyData := (itemsD y).bind fun ds => if flD x = true ∧ ds.all flD = true then some (.bool (ds.any fun z => PyData.eqv z x)) else none
def oNin (x y : PyData) : Option PyData := (itemsD y).bind fun ds => if flD x = true ∧ ds.all flD = true then some (.bool (!ds.any fun z => PyData.eqv z x)) else none
theorem Rw.fl {P : Pr T} {v : V} {d : PyData} (h : Rw K P v d) (f : flD d = true) : Rp K P.M v d := by
  rcases h with h | ⟨p, rfl, h⟩
  · exact h
  · cases h <;> simp [flD] at f
theorem items_of {P : Pr T} {v : V} {d : PyData} {ds : List PyData} (h : Rw K P v d) (e : itemsD d = some ds) : ∃ p xs, v = .ref p ∧ (SqL K P.H p xs ∨ SqT K P.H p xs) ∧ RpAll K P.M xs ds := by
  unfold itemsD at e
  split at e
  · cases e
    obtain ⟨a, xs, rfl, hs, r⟩ := h.list
    exact ⟨a, xs, rfl, .inl hs, r⟩
  · cases e
    obtain ⟨a, xs, rfl, _, hs, r⟩ := h.tuple
    exact ⟨a, xs, rfl, .inr hs, r⟩
  · cases e
theorem od_in : OpD K T (rIn K false) oIn := by
  intro P x y a b d ra rb h Q q
  obtain ⟨ds, ed, h⟩ := bind_eq h
  split at h
  · cases h
    rename_i hh
    obtain ⟨p, xs, rfl, hs, r⟩ := items_of rb ed
    have r1 := ra.fl hh.1
    refine ⟨p, xs, rfl, hs, fl_v r1 hh.1, fl_vs r hh.2, ?_⟩
    have e1 := fl_in r1 hh.1 r hh.2
    show Q (.bl (inV x xs)) P.H
    rw [e1]
    exact q _ P (Le.refl P) (.bl _)
  · cases h
theorem od_nin : OpD K T (rIn K true) oNin := by
  intro P x y a b d ra rb h Q q
  obtain ⟨ds, ed, h⟩ := bind_eq h
  split at h
  · cases h
    rename_i hh
    obtain ⟨p, xs, rfl, hs, r⟩ := items_of rb ed
    have r1 := ra.fl hh.1
    refine ⟨p, xs, rfl, hs, fl_v r1 hh.1, fl_vs r hh.2, ?_⟩
    have e1 := fl_in r1 hh.1 r hh.2
    show Q (.bl (!inV x xs)) P.H
    rw [e1]
    exact q _ P (Le.refl P) (.bl _)
  · cases h
/-! ### a[i] -/
def oIx : PyData → PyData → Option PyData
  | .list xs, .int i => atI xs i
  | .tuple xs, .int i => atI xs i
  | .str z, .int i => if z.length ≤ 1000 then (atI z.cps.toList i).map fun c => .str ⟨#[c]⟩ else none
  | _, _ => none
def uIx (K : PySem.W.Frag) : R2 := fun x y H Q => rIxL K x y H Q ∨ (rIxT K x y H Q ∨ rIxS x y H Q)
theorem ix_u (hK : X.K = K := by rfl) : IxR X (uIx K) := by
  subst hK
  exact IxR.or ix_list (IxR.or ix_tup ix_str)
theorem od_ix : OpD K T (uIx K) oIx := by
  intro P x y a b d ra rb h Q q
  unfold oIx at h
  split at h
  · obtain ⟨p, xs, rfl, hs, r⟩ := ra.list
    obtain ⟨v, hv, rv⟩ := rpAll_at r h
    exact .inl ⟨p, xs, _, v, rfl, rb.int, hs, hv, q _ P (Le.refl P) rv⟩
  · obtain ⟨p, xs, rfl, _, hs, r⟩ := ra.tuple
    obtain ⟨v, hv, rv⟩ := rpAll_at r h
    exact .inr (.inl ⟨p, xs, _, v, rfl, rb.int, hs, hv, q _ P (Le.refl P) rv⟩)
  · split at h
    · rename_i hh
      obtain ⟨c, hc, rfl⟩ := map_eq h
      exact .inr (.inr ⟨_, _, c, ra.str, rb.int, Nat.le_trans hh (by decide), hc, q _ P (Le.refl P) (.str _)⟩)
    · cases h
  · cases h
/-! ### a[lo:hi] -/
def pNo : Ev → Option (Option Int) := fun _ => some none
def asI : PyData → Option Int
  | .int i => some i
  | _ => none
theorem asI_eq {d : PyData} {b : Int} (h : asI d = some b) : d = .int b := by
  unfold asI at h
  split at h
  · cases h
    rfl
  · cases h
def pSo (a : ME) : Ev → Option (Option Int) := fun ρ => (a ρ).bind fun x => (asI x).map some
theorem c_pno {o : Option Expr} (h : PO X o tNoPart) : PO X o (tP K T pNo) := po_to h fun σ H Q ⟨P0, P, ρ, d, h1, s, h2, q⟩ => by
  cases h2
  subst h1
  exact q P (Le.refl P)
theorem c_pso {o : Option Expr} {a : ME} (h : PO X o (tPart (tD K T a))) : PO X o (tP K T (pSo a)) := po_to h fun σ H Q ⟨P0, P, ρ, d, h1, s, h2, q⟩ => by
  subst h1
  obtain ⟨x, ex, h2⟩ := bind_eq h2
  obtain ⟨i, ei, rfl⟩ := map_eq h2
  rw [asI_eq ei] at ex
  refine ⟨P0, P, ρ, _, rfl, s, ex, fun v P1 l r => ?_⟩
  cases r
  exact ⟨i, rfl, q P1 l⟩
def oSl (x : PyData) (lo hi : Option Int) : Option PyData := match x with
  | .list xs => some (.list (LB.cutD xs lo hi))
  | .tuple xs => some (.tuple (LB.cutD xs lo hi))
  | .str z => if z.length ≤ 10000 then some (.str (cutS z lo hi)) else none
  | _ => none
def uSl (K : PySem.W.Frag) : V → Option Int → Option Int → Hp → VK → Prop := fun x lo hi H Q => rSlL K x lo hi H Q ∨ (rSlA K x lo hi H Q ∨ rSlS x lo hi H Q)
theorem sl_u (hK : X.K = K := by rfl) : SlR X (uSl K) := by
  subst hK
  exact SlR.or sl_list (SlR.or sl_tupA sl_str)
def mSl (a : ME) (lo hi : Ev → Option (Option Int)) : ME := fun ρ => (a ρ).bind fun x => (lo ρ).bind fun l => (hi ρ).bind fun u => oSl x l u
theorem c_sl {a : ME} {lo hi : Ev → Option (Option Int)} (h : PE X e (tSl (uSl K) (tW K T a) (tP K T lo) (tP K T hi))) : PE X e (tD K T (mSl a lo hi)) := pe_to h fun σ H Q ⟨P0, P, ρ, d, h1, s, h2, q⟩ => by
  subst h1
  obtain ⟨x, ex, h3⟩ := bind_eq h2
  obtain ⟨l, el, h4⟩ := bind_eq h3
  obtain ⟨u, eu, h5⟩ := bind_eq h4
  clear h2 h3 h4
  refine ⟨P0, P, ρ, x, rfl, s, ex, fun v P1 l1 r1 => ⟨P0, P1, ρ, l, rfl, s.up l1, el, fun P2 l2 => ⟨P0, P2, ρ, u, rfl, s.up (l1.trans l2), eu, fun P3 l3 => ?_⟩⟩⟩
  have r3 := r1.up (l2.trans l3)
  have q3 : ∀ v (P' : Pr T), Le P3 P' → Rp K P'.M v d → Q v P'.H := fun v P' l' r' => q v P' ((l1.trans (l2.trans l3)).trans l') r'
  unfold oSl at h5
  split at h5
  · cases h5
    obtain ⟨p, xs, rfl, hs, r⟩ := r3.list
    exact .inl ⟨p, xs, rfl, hs, fun p' hp => q3 _ (P3.put p' (.lst (cutV xs l u)) hp) (le_put P3 hp) (.lst (SqL.of upd_same) ((RpAll.cut r l u).ext (le_put P3 hp).m))⟩
  · cases h5
    obtain ⟨p, xs, rfl, hm, hs, r⟩ := r3.tuple
    refine .inr (.inl ⟨p, xs, rfl, hs, fun hw => q3 _ P3 (Le.refl P3) ?_, fun _ p' hp => q3 _ (P3.put p' (.tup (cutV xs l u)) hp) (le_put P3 hp) (.tup upd_same ((RpAll.cut r l u).ext (le_put P3 hp).m))⟩)
    rename_i ds
    have e : LB.cutD ds l u = ds := by
      unfold LB.cutD
      rw [r.length] at hw
      rw [hw.1, hw.2]
      simp
    rw [e]
    exact .tup hm r
  · split at h5
    · cases h5
      rename_i hh
      exact .inr (.inr ⟨_, r3.str, Nat.le_trans hh (by decide), q3 _ P3 (Le.refl P3) (.str _)⟩)
    · cases h5
  · cases h5
def oRev : PyData → Option PyData
  | .tuple xs => some (.tuple xs.reverse)
  | _ => none
theorem pe_revK {e0 : Expr} {te : TE} {k : Nat} {p1 p2 p3 pos : Pos} (he : PE X e0 te) (hK : X.K = K := by rfl) : PE X (.Subscript e0 (.Slice none none (some (.UnaryOp .USub (.Constant (.int 1) k p1) p2)) p3) pos) (tRevT K te) := by
  subst hK
  exact pe_revT he
theorem c_rev {a : ME} (h : PE X e (tRevT K (tW K T a))) : PE X e (tD K T (mUn oRev a)) := pe_to h fun σ H Q ⟨P0, P, ρ, d, h1, s, h2, q⟩ => by
  subst h1
  obtain ⟨x, ex, h2⟩ := bind_eq h2
  refine ⟨P0, P, ρ, x, rfl, s, ex, fun v P1 l1 r1 => ?_⟩
  unfold oRev at h2
  split at h2
  · cases h2
    obtain ⟨p, xs, rfl, hm, hs, r⟩ := r1.tuple
    exact ⟨p, xs, rfl, hs, fun p' hp => q _ (P1.put p' (.tup xs.reverse) hp) (l1.trans (le_put P1 hp)) (.tup upd_same ((RpAll.reverse r).ext (le_put P1 hp).m))⟩
  · cases h2
/-! ### calls of builtins -/
def CbD (K : PySem.W.Frag) (T : Tb) (r : List V → Hp → VK → Prop) (f : List PyData → Option PyData) : Prop := ∀ (P : Pr T) vs ds d, RwAll K T P vs ds → f ds = some d → ∀ Q : VK, (∀ v (P' : Pr T), Le P P' → Rp K P'.M v d → Q v P'.H) → r vs P.H Q
def CbF (K : PySem.W.Frag) (T : Tb) (r : List V → Hp → VK → Prop) (f : List PyData → Option PyData) : Prop := ∀ (P : Pr T) vs ds d, RwAll K T P vs ds → f ds = some d → ∀ Q : VK, (∀ p (P' : Pr T), Le P P' → OwnAt K P' p d → Loose P.H p → Q (.ref p) P'.H) → r vs P.H Q
def mCb (f : List PyData → Option PyData) (a : MA) : ME := fun ρ => (a ρ).bind f
theorem c_cb {r : List V → Hp → VK → Prop} {f : List PyData → Option PyData} {a : MA} (hD : CbD K T r f) (h : PE X e (tCB r (tAw K T a))) : PE X e (tD K T (mCb f a)) := pe_to h fun σ H Q ⟨P0, P, ρ, d, h1, s, h2, q⟩ => by
  subst h1
  obtain ⟨x, ex, h2⟩ := bind_eq h2
  exact ⟨P0, P, ρ, x, rfl, s, ex, fun vs P1 l1 r1 => hD P1 vs x d r1 h2 Q fun v P2 l2 r2 => q v P2 (l1.trans l2) r2⟩
theorem c_cbF {r : List V → Hp → VK → Prop} {f : List PyData → Option PyData} {a : MA} (hD : CbF K T r f) (h : PE X e (tCB r (tAw K T a))) : PE X e (tF K T (mCb f a)) := pe_to h fun σ H Q ⟨P0, P, ρ, d, h1, s, h2, q⟩ => by
  subst h1
  obtain ⟨x, ex, h2⟩ := bind_eq h2
  exact ⟨P0, P, ρ, x, rfl, s, ex, fun vs P1 l1 r1 => hD P1 vs x d r1 h2 Q fun v P2 l2 r2 lo => q v P2 (l1.trans l2) r2 (loose_back l1.h lo)⟩
def oLen : List PyData → Option PyData
  | [.list xs] => some (.int (xs.length : Int))
  | [.tuple xs] => some (.int (xs.length : Int))
  | [.str z] => if z.length ≤ 10000 then some (.int (z.length : Int)) else none
  | _ => none
theorem cb_len : CbD K T (fun xs H Q => ∃ x n, xs = [x] ∧ LenV K x H n ∧ Q (.int n) H) oLen := by
  intro P vs ds d ra h Q q
  unfold oLen at h
  split at h
  · cases h
    cases ra with
    | cons r1 r2 =>
      cases r2
      obtain ⟨p, xs, rfl, hs, r⟩ := r1.list
      exact ⟨_, _, rfl, .inl ⟨xs, hs, r.length.symm⟩, q _ P (Le.refl P) (.int _)⟩
  · cases h
    cases ra with
    | cons r1 r2 =>
      cases r2
      obtain ⟨p, xs, rfl, _, hs, r⟩ := r1.tuple
      exact ⟨_, _, rfl, .inr ⟨xs, hs, r.length.symm⟩, q _ P (Le.refl P) (.int _)⟩
  · split at h
    · cases h
      rename_i hh
      cases ra with
      | cons r1 r2 =>
        cases r2
        rw [r1.str]
        exact ⟨_, _, rfl, ⟨Nat.le_trans hh (by decide), rfl⟩, q _ P (Le.refl P) (.int _)⟩
    · cases h
  · cases h
def oAbs : List PyData → Option PyData
  | [.int i] => some (.int (if i < 0 then -i else i))
  | _ => none
theorem cb_abs : CbD K T (fun xs H Q => ∃ i, xs = [.int i] ∧ Q (.int (if i < 0 then -i else i)) H) oAbs := by
  intro P vs ds d ra h Q q
  unfold oAbs at h
  split at h
  · cases h
    cases ra with
    | cons r1 r2 =>
      cases r2
      rw [r1.int]
      exact ⟨_, rfl, q _ P (Le.refl P) (.int _)⟩
  · cases h
def oInt : List PyData → Option PyData
  | [.int i] => some (.int i)
  | [.bool k] => some (.int (if k = true then 1 else 0))
  | _ => none
theorem cb_int : CbD K T (fun xs H Q => (∃ i, xs = [.int i] ∧ Q (.int i) H) ∨ ∃ k, xs = [.bl k] ∧ Q (.int (if k = true then 1 else 0)) H) oInt := by
  intro P vs ds d ra h Q q
  unfold oInt at h
  split at h
  · cases h
    cases ra with
    | cons r1 r2 =>
      cases r2
      rw [r1.int]
      exact .inl ⟨_, rfl, q _ P (Le.refl P) (.int _)⟩
  · cases h
    cases ra with
    | cons r1 r2 =>
      cases r2
      rw [r1.bool]
      exact .inr ⟨_, rfl, q _ P (Le.refl P) (.int _)⟩
  · cases h
def oMax : List PyData → Option PyData
  | [.int i, .int j] => some (.int (if j > i then j else i))
  | _ => none
theorem cb_max : CbD K T (fun xs H Q => ∃ i j, xs = [.int i, .int j] ∧ Q (.int (if j > i then j else i)) H) oMax := by
  intro P vs ds d ra h Q q
  unfold oMax at h
  split at h
  · cases h
    cases ra with
    | cons r1 r2 =>
      cases r2 with
      | cons r2 r3 =>
        cases r3
        rw [r1.int, r2.int]
        exact ⟨_, _, rfl, q _ P (Le.refl P) (.int _)⟩
  · cases h
def oMin : List PyData → Option PyData
  | [.int i, .int j] => some (.int (if j < i then j else i))
  | _ => none
theorem cb_min : CbD K T (fun xs H Q => ∃ i j, xs = [.int i, .int j] ∧ Q (.int (if j < i then j else i)) H) oMin := by
  intro P vs ds d ra h Q q
  unfold oMin at h
  split at h
  · cases h
    cases ra with
    | cons r1 r2 =>
      cases r2 with
      | cons r2 r3 =>
        cases r3
        rw [r1.int, r2.int]
        exact ⟨_, _, rfl, q _ P (Le.refl P) (.int _)⟩
  · cases h
def bls : List PyData → Option (List Bool)
  | [] => some []
  | .bool b :: r => (bls r).map fun l => b :: l
  | _ :: _ => none
theorem bls_rp {M : Hp} : ∀ {vs : List V} {ds : List PyData} {bs : List Bool}, RpAll K M vs ds → bls ds = some bs → vs = bs.map V.bl
  | _, _, _, .nil, h => by
    cases h
    rfl
  | _, _, _, .cons h1 r, h => by
    unfold bls at h
    split at h
    · rename_i e
      cases e
    · rename_i e
      cases e
      obtain ⟨l, hl, rfl⟩ := map_eq h
      cases h1
      rw [bls_rp r hl]
      rfl
    · cases h
def oAll : List PyData → Option PyData
  | [.list xs] => (bls xs).map fun l => .bool (l.all id)
  | _ => none
theorem cb_all : CbD K T (rAll K) oAll := by
  intro P vs ds d ra h Q q
  unfold oAll at h
  split at h
  · obtain ⟨l, hl, rfl⟩ := map_eq h
    cases ra with
    | cons r1 r2 =>
      cases r2
      obtain ⟨p, xs, rfl, hs, r⟩ := r1.list
      rw [bls_rp r hl] at hs
      exact ⟨p, l, rfl, hs, q _ P (Le.refl P) (.bl _)⟩
  · cases h
theorem cr_allK (hc : X.calm = true) (hK : X.K = K := by rfl) : CallR X (.builtin "all") (rAll K) := by
  subst hK
  exact cr_all hc
def oAny : List PyData → Option PyData
  | [.list xs] => (bls xs).map fun l => .bool (l.any id)
  | _ => none
theorem cb_any : CbD K T (rAny K) oAny := by
  intro P vs ds d ra h Q q
  unfold oAny at h
  split at h
  · obtain ⟨l, hl, rfl⟩ := map_eq h
    cases ra with
    | cons r1 r2 =>
      cases r2
      obtain ⟨p, xs, rfl, hs, r⟩ := r1.list
      rw [bls_rp r hl] at hs
      exact ⟨p, l, rfl, hs, q _ P (Le.refl P) (.bl _)⟩
  · cases h
theorem cr_anyK (hc : X.calm = true) (hK : X.K = K := by rfl) : CallR X (.builtin "any") (rAny K) := by
  subst hK
  exact cr_any hc
def rListOf (K : PySem.W.Frag) : List V → Hp → VK → Prop := fun xs H Q => ∃ p ys, xs = [.ref p] ∧ (SqL K H p ys ∨ SqT K H p ys) ∧ ∀ l, H l = none → Q (.ref l) (upd H l (.lst ys))
theorem call_listK (hK : X.K = K := by rfl) : CallR X (.type "list") (rListOf K) := by
  subst hK
  exact call_list_of
def oList : List PyData → Option PyData
  | [x] => (itemsD x).map .list
  | _ => none
theorem cb_list : CbF K T (rListOf K) oList := by
  intro P vs ds d ra h Q q
  unfold oList at h
  split at h
  · obtain ⟨l, hl, rfl⟩ := map_eq h
    cases ra with
    | cons r1 r2 =>
      cases r2
      obtain ⟨p, xs, rfl, hs, r⟩ := items_of r1 hl
      exact ⟨p, xs, rfl, hs, fun l hl => q _ (P.hid l (.lst xs) hl) (le_hid P hl) (.lst (P.none hl) upd_same r) (loose_none hl)⟩
  · cases h
def oTuple : List PyData → Option PyData
  | [x] => (itemsD x).map .tuple
  | _ => none
theorem cb_tuple : CbD K T (fun xs H Q => ∃ p ys, xs = [.ref p] ∧ ((SqL K H p ys ∧ ∀ l, H l = none → Q (.ref l) (upd H l (.tup ys))) ∨ (SqT K H p ys ∧ Q (.ref p) H))) oTuple := by
  intro P vs ds d ra h Q q
  unfold oTuple at h
  split at h
  · obtain ⟨l, hl, rfl⟩ := map_eq h
    cases ra with
    | cons r1 r2 =>
      cases r2
      unfold itemsD at hl
      split at hl
      · cases hl
        obtain ⟨p, xs, rfl, hs, r⟩ := r1.list
        exact ⟨p, xs, rfl, .inl ⟨hs, fun l hl => q _ (P.put l (.tup xs) hl) (le_put P hl) (.tup upd_same (r.ext (le_put P hl).m))⟩⟩
      · cases hl
        obtain ⟨p, xs, rfl, hm, hs, r⟩ := r1.tuple
        exact ⟨p, xs, rfl, .inr ⟨hs, q _ P (Le.refl P) (.tup hm r)⟩⟩
      · cases hl
  · cases h
/-! sorted -/
open PySem.W PySem.SeqAt in
theorem each_m {M : Hp} : ∀ {ds : List PyData} {vs : List V} {us : List Value}, RpAll K M vs ds → Vals vs us → EachIs (fun u d => ∃ v, Rp K M v d ∧ RelV v u) us ds
  | [], _, _, .nil, .nil => .nil
  | d :: ds, _, _, .cons h1 h2, .cons r1 r2 => .cons ⟨_, h1, r1⟩ (each_m h2 r2)
open PySem.W PySem.SeqAt in
theorem m_each {M : Hp} : ∀ {us : List Value} {ds : List PyData}, EachIs (fun u d => ∃ v, Rp K M v d ∧ RelV v u) us ds → ∃ vs, RpAll K M vs ds ∧ Vals vs us
  | _, _, .nil => ⟨[], .nil, .nil⟩
  | _, _, .cons ⟨v, h1, h2⟩ t => by
    obtain ⟨vs, q1, q2⟩ := m_each t
    exact ⟨v :: vs, .cons h1 q1, .cons h2 q2⟩
def rSortM (K : PySem.W.Frag) : List V → Hp → VK → Prop := fun vs H Q => ∃ (M : Hp) (a : Addr) (xs : List V) (ds : List PyData), Ex M H ∧ vs = [.ref a] ∧ SqL K H a xs ∧ RpAll K M xs ds ∧ Srt ds ∧ ∀ (p : Addr) (ys : List V), H p = none → RpAll K M ys (sortD ds) → Q (.ref p) (upd H p (.lst ys))
open PySem.W PySem.SeqAt in
theorem cr_sortM (hu : X.A.units + 64 < cLine) (hK : X.K = K := by rfl) : CallR X (.builtin "sorted") (rSortM K) := by
  subst hK
  intro pins s σ H xs us Q I r h
  obtain ⟨M, a, xs, ds, hM, rfl, hs, ra, S, q⟩ := h
  obtain rfl := Vals.ref1 r
  obtain ⟨its, rv, pl, hz⟩ := I.list hs
  obtain ⟨_, e2⟩ := each_of I (fun d hd => S.al d hd d hd) (ra.ext hM) rv
  have e1 := each_m ra rv
  have hL : ds.length ≤ sizeLine := Nat.le_trans S.len (by decide)
  have hd : ∀ b, b ∈ ds → X.A.units + 2 + (id b : PyData).depth < cLine := fun b hb => by
    have := S.dp b hb
    show X.A.units + 2 + b.depth < cLine
    omega
  have fin : ∀ out : List Value, out.length = ds.length → EachIs (fun u d => ∃ v, Rp X.K M v d ∧ RelV v u) out (ds.mergeSort (dataLe false id)) → EP X pins σ Q (.ref (s.heap.objs.size + 1)) { s with heap := sortedAll s.heap its (List.toArray out) } := fun out hl e => by
    obtain ⟨ys, q1, q2⟩ := m_each e
    obtain ⟨c, hc⟩ := sortedAll_at s.heap its out.toArray
    have hn : H (s.heap.objs.size + 1) = none := I.hok.fresh (Nat.le_succ _)
    refine ⟨.ref (s.heap.objs.size + 1), upd H (s.heap.objs.size + 1) (.lst ys), I.laid (t' := s.toks) (fun b o e => sortedAll_old e) (Nat.le_succ _) (show ObjOk X.prog X.w _ _ _ (.lst ys) from ⟨?_, out, c, q2, hc⟩), rfl, q _ ys hn q1⟩
    rw [q2.length, hl]
    exact hL
  rcases S.ok with ok | ok
  · exact sorted_data (enc := id) (R := fun u d => ∃ v, Rp X.K M v d ∧ RelV v u) pl.isList e1 e2 (by rw [List.map_id]; exact S.al) (by rw [List.map_id]; exact ok) hL hd fin
  · exact sorted_led (R := fun u d => ∃ v, Rp X.K M v d ∧ RelV v u) pl.isList e1 e2 S.al ok hL hd fin
open Classical in
noncomputable def oSorted : List PyData → Option PyData
  | [.list xs] => if LB.Srt xs then some (.list (LB.sortD xs)) else none
  | _ => none
theorem cb_sorted : CbF K T (rSortM K) oSorted := by
  intro P vs ds d ra h Q q
  unfold oSorted at h
  split at h
  · split at h
    · cases h
      rename_i hh
      cases ra with
      | cons r1 r2 =>
        cases r2
        obtain ⟨p, xs, rfl, hs, r⟩ := r1.list
        exact ⟨P.M, p, xs, _, P.sub, rfl, hs, r, hh, fun p' ys hp ry => q _ (P.hid p' (.lst ys) hp) (le_hid P hp) (.lst (P.none hp) upd_same ry) (loose_none hp)⟩
    · cases h
  · cases h
theorem mSorted_is {a : MA} (ρ : Ev) (d : PyData) (h : mCb oSorted a ρ = some d) : isLst d = true := by
  obtain ⟨x, _, h⟩ := bind_eq h
  unfold oSorted at h
  split at h
  · split at h
    · cases h
      rfl
    · cases h
  · cases h
theorem mList_is {a : MA} (ρ : Ev) (d : PyData) (h : mCb oList a ρ = some d) : isLst d = true := by
  obtain ⟨x, _, h⟩ := bind_eq h
  unfold oList at h
  split at h
  · obtain ⟨l, _, rfl⟩ := map_eq h
    rfl
  · cases h
/-! isinstance -/
def mIs (n : String) (a : ME) : ME := fun ρ => (a ρ).bind fun d => (kitB (tyN d) n).map .bool
theorem Rw.ty {P : Pr T} {v : V} {d : PyData} (h : Rw K P v d) : TyY K P.H v (.type (tyN d)) := by
  rcases h with h | ⟨p, rfl, h⟩
  · exact (h.ext P.sub).ty
  · cases h with
    | lst h1 h2 h3 => exact .x (.base (.lst h2))
    | dT h1 h2 h3 => exact .x (.base (.dT h2))
theorem c_is {n : String} {a : ME} (h : PE X e (tCB (rIsiY K) (tCons (tW K T a) (tCons (tC (.ty n)) tNil)))) : PE X e (tD K T (mIs n a)) := pe_to h fun σ H Q ⟨P0, P, ρ, d, h1, s, h2, q⟩ => by
  subst h1
  obtain ⟨x, ex, h2⟩ := bind_eq h2
  obtain ⟨b, hb, rfl⟩ := map_eq h2
  exact ⟨P0, P, ρ, x, rfl, s, ex, fun v P1 l1 r1 => ⟨_, _, _, _, b, rfl, .ty n, r1.ty, kit_ty hb, q _ P1 l1 (.bl b)⟩⟩
end PM

namespace PM
open PySem PySem.Spec PyProof.Rows L2 LB
variable {T : Tb} {K : PySem.W.Frag} {X : Cx} {e : Expr}
/-! ### iterators -/
structure WkM (K : PySem.W.Frag) (P1 : Pr T) (J : It) (ds : List PyData) : Prop where
  stop : ∀ P' : Pr T, Ex P1.M P'.M → J.stop ds.length P'.H
  go : ∀ i (P' : Pr T), i < ds.length → Ex P1.M P'.M → J.go i P'.H
  yld : ∀ i (P' : Pr T) x H'', i < ds.length → Ex P1.M P'.M → J.yld i P'.H x H'' → ∃ P'' : Pr T, P''.H = H'' ∧ Le P' P'' ∧ ∃ d, ds[i]? = some d ∧ Rp K P''.M x d
structure WkH (K : PySem.W.Frag) (P1 : Pr T) (J : It) (ds : List PyData) : Prop where
  stop : ∀ P' : Pr T, Le P1 P' → J.stop ds.length P'.H
  go : ∀ i (P' : Pr T), i < ds.length → Le P1 P' → J.go i P'.H
  yld : ∀ i (P' : Pr T) x H'', i < ds.length → Le P1 P' → J.yld i P'.H x H'' → ∃ P'' : Pr T, P''.H = H'' ∧ Le P' P'' ∧ ∃ d, ds[i]? = some d ∧ Rp K P''.M x d
theorem WkM.h {P1 : Pr T} {J : It} {ds : List PyData} (w : WkM K P1 J ds) : WkH K P1 J ds := ⟨fun P' l => w.stop P' l.m, fun i P' h l => w.go i P' h l.m, fun i P' x H'' h l y => w.yld i P' x H'' h l.m y⟩
def tI (K : PySem.W.Frag) (T : Tb) (m : MA) : TI := fun σ H R => ∃ (P0 P : Pr T) (ρ : Ev) (ds : List PyData), P.H = H ∧ St K P0 P σ ρ ∧ m ρ = some ds ∧ ∀ J (P' : Pr T), Le P P' → WkM K P' J ds → R J P'.H
def tIh (K : PySem.W.Frag) (T : Tb) (m : MA) : TI := fun σ H R => ∃ (P0 P : Pr T) (ρ : Ev) (ds : List PyData), P.H = H ∧ St K P0 P σ ρ ∧ m ρ = some ds ∧ ∀ J (P' : Pr T), Le P P' → WkH K P' J ds → R J P'.H
theorem c_ih {tg : Expr} {m : MA} (h : PI X tg e (tI K T m)) : PI X tg e (tIh K T m) := pi_to h fun σ H Q ⟨P0, P, ρ, d, h1, s, h2, q⟩ => ⟨P0, P, ρ, d, h1, s, h2, fun J P' l w => q J P' l w.h⟩
/-- a list, a tuple or a text -/
def iSeq (K : PySem.W.Frag) (tl : TE) : TI := fun σ H R => tl σ H fun x H1 => (∃ a, x = .ref a ∧ (∃ xs, SqL K H1 a xs) ∧ R (Itl K a) H1) ∨ (∃ a, x = .ref a ∧ (∃ xs, SqT K H1 a xs) ∧ R (Itt K a) H1) ∨ ∃ z, x = .str z ∧ R (Its z) H1
theorem pi_seq {tg l : Expr} {tl : TE} (hl : PE X l tl) (hK : X.K = K := by rfl) : PI X tg l (iSeq K tl) := by
  subst hK
  refine ⟨fun pins s σ H R I h => thn (hl.run pins s σ H _ I h) fun v s1 ⟨x, H1, I1, r1, q1⟩ => ?_⟩
  rcases q1 with ⟨a, rfl, ⟨xs, hq⟩, q⟩ | ⟨a, rfl, ⟨xs, hq⟩, q⟩ | ⟨z, rfl, q⟩
  · cases r1
    obtain ⟨its, _, p, _⟩ := I1.list hq
    exact wpAny_pyIter_list p.isList (pi_one (tk := s1.toks) I1 _ (turn_list a _) ⟨_, Heap.get?_push_size _ rfl, rfl, rfl⟩ q)
  · cases r1
    obtain ⟨its, _, p, _⟩ := I1.tuple hq
    exact wpAny_pyIter_tuple (show s1.heap.IsTuple a its.toArray from p) (pi_one (tk := s1.toks) I1 _ (turn_tuple a _) ⟨_, Heap.get?_push_size _ rfl, rfl, rfl⟩ q)
  · obtain ⟨t, rfl⟩ := r1
    cases ha : z.cps.all (· < 128)
    · exact wpAny_pyIter_wide ha (pi_one (tk := s1.toks) I1 _ (turn_str _ z t "str_iterator" (Or.inr rfl)) ⟨_, Heap.get?_push_size _ rfl, rfl, rfl⟩ q)
    · exact wpAny_pyIter_ascii ha (pi_one (tk := s1.toks) I1 _ (turn_str _ z t "str_ascii_iterator" (Or.inl rfl)) ⟨_, Heap.get?_push_size _ rfl, rfl, rfl⟩ q)
theorem wk_l {P1 : Pr T} {a : Addr} {xs : List V} {ds : List PyData} (hs : SqL K P1.M a xs) (ra : RpAll K P1.M xs ds) : WkM K P1 (Itl K a) ds := by
  have g : ∀ {P' : Pr T}, Ex P1.M P'.M → SqL K P'.H a xs := fun {P'} x => ex_l P'.sub (ex_l x hs)
  refine ⟨fun P' x => ⟨xs, g x, by rw [ra.length]; exact Nat.le_refl _⟩, fun i P' hi x => ?_, fun i P' v H'' hi x y => ⟨P', y.1.symm, Le.refl P', ?_⟩⟩
  · exact ⟨xs, xs[i]'(by rw [ra.length]; exact hi), g x, List.getElem?_eq_getElem _⟩
  · obtain ⟨d, h1, h2⟩ := ra.get (y.2 xs (g x))
    exact ⟨d, h1, h2.ext x⟩
theorem wk_t {P1 : Pr T} {a : Addr} {xs : List V} {ds : List PyData} (hs : SqT K P1.M a xs) (ra : RpAll K P1.M xs ds) : WkM K P1 (Itt K a) ds := by
  have g : ∀ {P' : Pr T}, Ex P1.M P'.M → SqT K P'.H a xs := fun {P'} x => ex_t P'.sub (ex_t x hs)
  refine ⟨fun P' x => ⟨xs, g x, by rw [ra.length]; exact Nat.le_refl _⟩, fun i P' hi x => ?_, fun i P' v H'' hi x y => ⟨P', y.1.symm, Le.refl P', ?_⟩⟩
  · exact ⟨xs, xs[i]'(by rw [ra.length]; exact hi), g x, List.getElem?_eq_getElem _⟩
  · obtain ⟨d, h1, h2⟩ := ra.get (y.2 xs (g x))
    exact ⟨d, h1, h2.ext x⟩
def signsD (z : Str) : List PyData := z.cps.toList.map fun c => .str ⟨#[c]⟩
theorem wk_s {P1 : Pr T} {z : Str} : WkM K P1 (Its z) (signsD z) := by
  have l : (signsD z).length = z.cps.size := by simp [signsD]
  refine ⟨fun P' x => by show z.cps.size ≤ _; omega, fun i P' hi x => by show i < z.cps.size; omega, fun i P' v H'' hi x y => ⟨P', y.1.symm, Le.refl P', ?_⟩⟩
  obtain ⟨c, hc, rfl⟩ := y.2
  refine ⟨.str ⟨#[c]⟩, ?_, .str _⟩
  unfold signsD
  rw [List.getElem?_map, Array.getElem?_toList, hc] <;> rfl
theorem wk_r {P1 : Pr T} {m : Nat} : WkM K P1 (Itr 0 m) (rngD m) := by
  have l := rngD_length m
  refine ⟨fun P' x => by show m ≤ _; omega, fun i P' hi x => by show i < m; omega, fun i P' v H'' hi x y => ⟨P', y.1.symm, Le.refl P', .int (i : Int), ?_, ?_⟩⟩
  · unfold rngD
    rw [List.getElem?_map, List.getElem?_range (by omega)] <;> rfl
  · rw [y.2, show (0 : Int) + (i : Int) = (i : Int) by omega]
    exact .int _
def seqD : PyData → Option (List PyData)
  | .list xs => some xs
  | .tuple xs => some xs
  | .str z => some (signsD z)
  | _ => none
def iS (a : ME) : MA := fun ρ => (a ρ).bind seqD
theorem c_iseq {tg : Expr} {a : ME} (h : PI X tg e (iSeq K (tD K T a))) : PI X tg e (tI K T (iS a)) := pi_to h fun σ H Q ⟨P0, P, ρ, ds, h1, s, h2, q⟩ => by
  subst h1
  obtain ⟨x, ex, h3⟩ := bind_eq h2
  refine ⟨P0, P, ρ, x, rfl, s, ex, fun v P1 l1 r1 => ?_⟩
  unfold seqD at h3
  split at h3
  · cases h3
    cases r1 with
    | lst hs ra => exact .inl ⟨_, rfl, ⟨_, ex_l P1.sub hs⟩, q _ P1 l1 (wk_l hs ra)⟩
  · cases h3
    cases r1 with
    | tup hs ra => have hs := SqT.of (K := K) hs; exact .inr (.inl ⟨_, rfl, ⟨_, ex_t P1.sub hs⟩, q _ P1 l1 (wk_t hs ra)⟩)
  · cases h3
    cases r1
    exact .inr (.inr ⟨_, rfl, q _ P1 l1 wk_s⟩)
  · cases h3
/-- an own list, for a comprehension -/
theorem wh_l {P1 : Pr T} {a : Addr} {xs : List V} {ds : List PyData} (hs : SqL K P1.H a xs) (ra : RpAll K P1.M xs ds) : WkH K P1 (Itl K a) ds := by
  have g : ∀ {P' : Pr T}, Le P1 P' → SqL K P'.H a xs := fun {P'} x => ex_l x.h hs
  refine ⟨fun P' x => ⟨xs, g x, by rw [ra.length]; exact Nat.le_refl _⟩, fun i P' hi x => ?_, fun i P' v H'' hi x y => ⟨P', y.1.symm, Le.refl P', ?_⟩⟩
  · exact ⟨xs, xs[i]'(by rw [ra.length]; exact hi), g x, List.getElem?_eq_getElem _⟩
  · obtain ⟨d, h1, h2⟩ := ra.get (y.2 xs (g x))
    exact ⟨d, h1, h2.ext x.m⟩
theorem c_iseqw {tg : Expr} {a : ME} (h : PI X tg e (iSeq K (tW K T a))) : PI X tg e (tIh K T (iS a)) := pi_to h fun σ H Q ⟨P0, P, ρ, ds, h1, s, h2, q⟩ => by
  subst h1
  obtain ⟨x, ex, h3⟩ := bind_eq h2
  refine ⟨P0, P, ρ, x, rfl, s, ex, fun v P1 l1 r1 => ?_⟩
  unfold seqD at h3
  split at h3
  · cases h3
    obtain ⟨p, xs, rfl, hs, ra⟩ := r1.list
    exact .inl ⟨_, rfl, ⟨_, hs⟩, q _ P1 l1 (wh_l hs ra)⟩
  · cases h3
    obtain ⟨p, xs, rfl, hm, hs, ra⟩ := r1.tuple
    exact .inr (.inl ⟨_, rfl, ⟨_, hs⟩, q _ P1 l1 (wk_t (SqT.of hm) ra).h⟩)
  · cases h3
    have := r1.str
    subst this
    exact .inr (.inr ⟨_, rfl, q _ P1 l1 wk_s.h⟩)
  · cases h3
/-- range(n) -/
def oRng : List PyData → Option (List PyData)
  | [.int j] => if -100000 ≤ j ∧ j < 100000 then some (rngD j.toNat) else none
  | _ => none
def iR (a : MA) : MA := fun ρ => (a ρ).bind oRng
theorem c_irng {tg : Expr} {a : MA} (h : PI X tg e (iRng1 (tA K T a))) : PI X tg e (tI K T (iR a)) := pi_to h fun σ H Q ⟨P0, P, ρ, ds, h1, s, h2, q⟩ => by
  subst h1
  obtain ⟨x, ex, h3⟩ := bind_eq h2
  unfold oRng at h3
  split at h3
  · split at h3
    · cases h3
      rename_i j hh
      refine ⟨P0, P, ρ, _, rfl, s, ex, fun vs P1 l1 r1 => ?_⟩
      cases r1 with
      | cons r1 r2 =>
        cases r2
        cases r1
        exact ⟨j, rfl, by omega, by omega, q _ P1 l1 wk_r⟩
    · cases h3
  · cases h3
end PM

namespace PM
open PySem PySem.Spec PyProof.Rows L2 LB
variable {T : Tb} {K : PySem.W.Frag} {X : Cx} {e : Expr}
/-! ### zip -/
def zipD (xs ys : List PyData) : List PyData := (xs.zip ys).map fun p => .tuple [p.1, p.2]
theorem zipD_at {xs ys : List PyData} {i : Nat} {a b : PyData} (h1 : xs[i]? = some a) (h2 : ys[i]? = some b) : (zipD xs ys)[i]? = some (.tuple [a, b]) := by
  unfold zipD
  rw [List.getElem?_map, List.getElem?_zip_eq_some (z := (a, b)).mpr ⟨h1, h2⟩] <;> rfl
theorem zipD_len (xs ys : List PyData) : (zipD xs ys).length = min xs.length ys.length := by simp [zipD]
def oZip : List PyData → Option (List PyData)
  | [.list xs, .list ys] => some (zipD xs ys)
  | [.tuple xs, .tuple ys] => some (zipD xs ys)
  | _ => none
def iZ (a : MA) : MA := fun ρ => (a ρ).bind oZip
theorem wk_zl {P1 : Pr T} {a b : Addr} {xs ys : List V} {ds es : List PyData} (hs : SqL K P1.M a xs) (ra : RpAll K P1.M xs ds) (hs2 : SqL K P1.M b ys) (rb : RpAll K P1.M ys es) : WkM K P1 (Itz K a b) (zipD ds es) := by
  have g : ∀ {P' : Pr T}, Ex P1.M P'.M → SqL K P'.H a xs := fun {P'} x => ex_l P'.sub (ex_l x hs)
  have g2 : ∀ {P' : Pr T}, Ex P1.M P'.M → SqL K P'.H b ys := fun {P'} x => ex_l P'.sub (ex_l x hs2)
  have l := zipD_len ds es
  have l1 := ra.length
  have l2 := rb.length
  refine ⟨fun P' x => ⟨xs, ys, g x, g2 x, by omega⟩, fun i P' hi x => ?_, fun i P' v H'' hi x y => ?_⟩
  · exact ⟨xs, ys, xs[i]'(by omega), ys[i]'(by omega), g x, g2 x, List.getElem?_eq_getElem _, List.getElem?_eq_getElem _⟩
  · obtain ⟨t, v1, v2, rfl, hn, rfl, h1, h2⟩ := y
    obtain ⟨d1, e1, r1⟩ := ra.get (h1 xs (g x))
    obtain ⟨d2, e2, r2⟩ := rb.get (h2 ys (g2 x))
    have lp := (le_put P' (o := .tup [v1, v2]) hn).m
    exact ⟨P'.put t (.tup [v1, v2]) hn, rfl, le_put P' hn, _, zipD_at e1 e2, .tup upd_same (.cons ((r1.ext x).ext lp) (.cons ((r2.ext x).ext lp) .nil))⟩
theorem wk_zt {P1 : Pr T} {a b : Addr} {xs ys : List V} {ds es : List PyData} (hs : SqT K P1.M a xs) (ra : RpAll K P1.M xs ds) (hs2 : SqT K P1.M b ys) (rb : RpAll K P1.M ys es) : WkM K P1 (RZ.ItzT K a b) (zipD ds es) := by
  have g : ∀ {P' : Pr T}, Ex P1.M P'.M → SqT K P'.H a xs := fun {P'} x => ex_t P'.sub (ex_t x hs)
  have g2 : ∀ {P' : Pr T}, Ex P1.M P'.M → SqT K P'.H b ys := fun {P'} x => ex_t P'.sub (ex_t x hs2)
  have l := zipD_len ds es
  have l1 := ra.length
  have l2 := rb.length
  refine ⟨fun P' x => ⟨xs, ys, g x, g2 x, by omega⟩, fun i P' hi x => ?_, fun i P' v H'' hi x y => ?_⟩
  · exact ⟨xs, ys, xs[i]'(by omega), ys[i]'(by omega), g x, g2 x, List.getElem?_eq_getElem _, List.getElem?_eq_getElem _⟩
  · obtain ⟨t, v1, v2, rfl, hn, rfl, h1, h2⟩ := y
    obtain ⟨d1, e1, r1⟩ := ra.get (h1 xs (g x))
    obtain ⟨d2, e2, r2⟩ := rb.get (h2 ys (g2 x))
    have lp := (le_put P' (o := .tup [v1, v2]) hn).m
    exact ⟨P'.put t (.tup [v1, v2]) hn, rfl, le_put P' hn, _, zipD_at e1 e2, .tup upd_same (.cons ((r1.ext x).ext lp) (.cons ((r2.ext x).ext lp) .nil))⟩
theorem c_izip {tg : Expr} {a : MA} (h : PI X tg e (RZ.iZipA K (tA K T a))) : PI X tg e (tI K T (iZ a)) := pi_to h fun σ H Q ⟨P0, P, ρ, ds, h1, s, h2, q⟩ => by
  subst h1
  obtain ⟨x, ex, h3⟩ := bind_eq h2
  refine ⟨P0, P, ρ, x, rfl, s, ex, fun vs P1 l1 r1 => ?_⟩
  unfold oZip at h3
  split at h3
  · cases h3
    cases r1 with
    | cons r1 r2 =>
      cases r2 with
      | cons r2 r3 =>
        cases r3
        cases r1 with
        | lst hs ra =>
          cases r2 with
          | lst hs2 rb => exact ⟨_, _, _, _, rfl, .inl ⟨ex_l P1.sub hs, ex_l P1.sub hs2, q _ P1 l1 (wk_zl hs ra hs2 rb)⟩⟩
  · cases h3
    cases r1 with
    | cons r1 r2 =>
      cases r2 with
      | cons r2 r3 =>
        cases r3
        cases r1 with
        | tup hs0 ra =>
          have hs := SqT.of (K := K) hs0
          cases r2 with
          | tup hs2 rb => have hs2 := SqT.of (K := K) hs2; exact ⟨_, _, _, _, rfl, .inr ⟨ex_t P1.sub hs, ex_t P1.sub hs2, q _ P1 l1 (wk_zt hs ra hs2 rb)⟩⟩
  · cases h3
theorem pi_zipK {e1 e2 : Expr} {ta : TA} {p pos tpos : Pos} {elts : List Expr} {kk : Nat} (hg : Gl X "zip") (hm : X.mg "zip" = none) (ha : PA X [e1, e2] ta) (hK : X.K = K := by rfl)
    (hs : starEach [e1, e2] X.env = (false, eval e1 X.env) :: starEach [e2] X.env := by rfl) (hpl : (backTo pos (starEach [e2] X.env)).any (·.1) = false := by rfl) : PI X (.Tuple elts kk tpos) (.Call (.Name "zip" p) [e1, e2] [] pos) (RZ.iZipA K ta) := by
  subst hK
  exact RZ.pi_zipA hg hm ha hs hpl
/-! ### targets -/
abbrev MG := PyData → Ev → Option Ev
def tG (K : PySem.W.Frag) (T : Tb) (vs : List Nat) (gm : MG) : TG := fun v σ H Q => ∃ (P0 P : Pr T) (ρ : Ev) (d : PyData) (ρ' : Ev), P.H = H ∧ St K P0 P σ ρ ∧ Rp K P.M v d ∧ gm d ρ = some ρ' ∧ ∀ σ', St K P0 P σ' ρ' → σ'.length = σ.length → (∀ k, k ∉ vs → σ'[k]? = σ[k]?) → Q σ' H
def gN (i : Nat) : MG := fun d ρ => some (ρ.set i (.val d))
theorem c_gn {i : Nat} (h : PG X e (gName i)) : PG X e (tG K T [i] (gN i)) := pg_to h fun v σ H Q ⟨P0, P, ρ, d, ρ', h1, s, r, h2, q⟩ => by
  subst h1
  cases h2
  exact q _ (s.set r i) (by simp) fun k hk => List.getElem?_set_ne fun z => hk (by simp [z])
def gNs : List Nat → TGs
  | [] => gNil
  | i :: is => gCons (gName i) (gNs is)
def setAll : List Nat → List PyData → Ev → Ev
  | i :: is, d :: ds, ρ => setAll is ds (ρ.set i (.val d))
  | _, _, ρ => ρ
def gT (is : List Nat) : MG := fun d ρ => match d with
  | .tuple ds => if ds.length = is.length then some (setAll is ds ρ) else none
  | _ => none
theorem gns_ok {P0 P : Pr T} {H : Hp} {Q : L2.St → Hp → Prop} : ∀ (is : List Nat) (xs : List V) (ds : List PyData) (σ : L2.St) (ρ : Ev), ds.length = is.length → RpAll K P.M xs ds → St K P0 P σ ρ → (∀ σ', St K P0 P σ' (setAll is ds ρ) → σ'.length = σ.length → (∀ k, k ∉ is → σ'[k]? = σ[k]?) → Q σ' H) → gNs is xs σ H Q
  | [], _, _, σ, ρ, hl, .nil, s, q => ⟨rfl, q σ s rfl fun _ _ => rfl⟩
  | [], _, _, σ, ρ, hl, .cons _ _, s, q => by simp at hl
  | i :: is, _, _, σ, ρ, hl, .nil, s, q => by simp at hl
  | i :: is, _, _, σ, ρ, hl, .cons r rr, s, q => ⟨_, _, rfl, gns_ok is _ _ _ _ (by simpa using hl) rr (s.set r i) fun σ' s' l' f' => q σ' s' (by rw [l']; simp) fun k hk => by
      rw [f' k fun z => hk (List.mem_cons_of_mem _ z), List.getElem?_set_ne fun z => hk (by simp [z])]⟩
theorem c_gt {n : Nat} (is : List Nat) (h : PG X e (gTup K n (gNs is))) (hn : is.length = n := by rfl) : PG X e (tG K T is (gT is)) := pg_to h fun v σ H Q ⟨P0, P, ρ, d, ρ', h1, s, r, h2, q⟩ => by
  subst h1
  unfold gT at h2
  split at h2
  · split at h2
    · cases h2
      rename_i hl
      cases r with
      | tup hs ra => have hs := SqT.of (K := K) hs; exact ⟨_, _, rfl, ex_t P.sub hs, by rw [ra.length, hl, hn], gns_ok is _ _ σ ρ hl ra s q⟩
    · cases h2
  · cases h2
theorem pg_tupK {es : List Expr} {k : Nat} {t : TGs} {n : Nat} {pos : Pos} (hc : X.calm = true) (h : PGs X es t) (hK : X.K = K := by rfl)
    (hn : (assignEach es X.env).length = n := by rfl) (hst : (assignEach es X.env).findIdx? (·.1) = none := by rfl) : PG X (.Tuple es k pos) (gTup K n t) := by
  subst hK
  exact pg_tup hc h hn hst
/-! ### blocks -/
def wipeM (ρ : Ev) : List Nat → Ev
  | [] => ρ
  | v :: vs => (wipeM ρ vs).set v .no
theorem st_wipe {P0 P : Pr T} {σ : L2.St} {ρ : Ev} (s : St K P0 P σ ρ) : ∀ vs, St K P0 P (wipe σ vs) (wipeM ρ vs)
  | [] => s
  | v :: vs => by
    unfold wipe wipeM
    exact (st_wipe s vs).wipe v none
theorem wipe_in {σ : L2.St} {i : Nat} : ∀ {vs : List Nat}, i ∈ vs → i < σ.length → (wipe σ vs)[i]? = some none
  | v :: vs, h, hl => by
    unfold wipe
    by_cases z : v = i
    · subst z
      exact List.getElem?_set_self (by rw [wipe_length]; exact hl)
    · rw [List.getElem?_set_ne z]
      rcases List.mem_cons.mp h with h | h
      · exact absurd h.symm z
      · exact wipe_in h hl
theorem wipe_frame {σ σ2 : L2.St} {vs : List Nat} (hl : σ2.length = (wipe σ vs).length) (hf : ∀ k, k ∉ vs → σ2[k]? = (wipe σ vs)[k]?) : wipe σ2 vs = wipe σ vs := by
  rw [wipe_length] at hl
  refine List.ext_getElem? fun k => ?_
  by_cases h : k ∈ vs
  · by_cases hk : k < σ.length
    · rw [wipe_in h hk, wipe_in h (by omega)]
    · rw [List.getElem?_eq_none (by rw [wipe_length]; omega), List.getElem?_eq_none (by rw [wipe_length]; omega)]
  · rw [wipe_out h, hf k h]
def lcGo (gm : MG) (mt : MT) (me : ME) (ρ : Ev) : List PyData → Option (List PyData)
  | [] => some []
  | d :: ds => (gm d ρ).bind fun ρ1 => (mt ρ1).bind fun b => if b = true then (me ρ1).bind fun x => (lcGo gm mt me ρ ds).map fun l => x :: l else lcGo gm mt me ρ ds
def mLc (mi : MA) (vs : List Nat) (gm : MG) (mt : MT) (me : ME) : ME := fun ρ => (mi ρ).bind fun ds0 => (oFew ds0).bind fun ds => (lcGo gm mt me (wipeM ρ vs) ds).map .list
theorem mLc_is {mi : MA} {vs : List Nat} {gm : MG} {mt : MT} {me : ME} (ρ : Ev) (d : PyData) (h : mLc mi vs gm mt me ρ = some d) : isLst d = true := by
  obtain ⟨_, _, h⟩ := bind_eq h
  obtain ⟨_, _, h⟩ := bind_eq h
  obtain ⟨_, _, rfl⟩ := map_eq h
  rfl
theorem drop_some {α : Type} {l : List α} {i : Nat} {x : α} (h : l[i]? = some x) : l.drop i = x :: l.drop (i + 1) := by
  obtain ⟨hi, e⟩ := List.getElem?_eq_some_iff.mp h
  rw [List.drop_eq_getElem_cons hi, e]
/-- an own list grows -/
theorem own_grow {P1 P5 : Pr T} {D : Addr} {acc : List V} {out : List PyData} {y : V} {d : PyData} (l : Le P1 P5) (hD : Loose P1.H D) (hM : P5.M D = none) (hp : P5.H D = some (.lst acc)) (ra : RpAll K P5.M acc out) (r : Rp K P5.M y d) :
    ∃ Pn : Pr T, Pn.H = upd P5.H D (.lst (acc ++ [y])) ∧ Le P1 Pn ∧ OwnAt K Pn D (.list (out ++ [d])) := by
  refine ⟨⟨P5.M, upd P5.H D (.lst (acc ++ [y])), fun b u e q => ?_, tabs_mut P5.tab hp (fun _ z => nomatch z) (fun _ _ z => by unfold LamX.CodeO at z; cases z), P5.nt⟩, rfl, ⟨l.m, fun b u e q => ?_, l.f⟩, .lst hM upd_same (RpAll.append ra (.cons r .nil))⟩
  · have ne : b ≠ D := fun z => by rw [z, hM] at e; cases e
    rw [upd_ne ne]
    exact P5.sub b u e q
  · have ne : b ≠ D := fun z => by
      rw [z] at e
      obtain ⟨ps, w⟩ := hD u e
      exact q ps w
    show upd P5.H D _ b = some u
    rw [upd_ne ne]
    exact l.h b u e q
theorem lc_in {mi : MA} {vs : List Nat} {gm : MG} {mt : MT} {me : ME} {σ : L2.St} {H : Hp} {Q : VK} (h : tF K T (mLc mi vs gm mt me) σ H Q) : tLc (tIh K T mi) (tG K T vs gm) (tQ K T mt) (tD K T me) vs σ H Q := by
  obtain ⟨P0, P, ρ, d, h1, s, h2, q⟩ := h
  subst h1
  obtain ⟨ds0, e0, h3⟩ := bind_eq h2
  obtain ⟨ds, e1, h4⟩ := bind_eq h3
  obtain ⟨tot, et, rfl⟩ := map_eq h4
  obtain ⟨rfl, hl⟩ := oFew_eq e1
  refine ⟨P0, P, ρ, ds, rfl, s, e0, fun J P1 l1 wk D hD => ?_⟩
  have lo : Loose P1.H D := loose_none hD
  refine ⟨fun i m H' => m = ds.length - i ∧ i ≤ ds.length ∧ ∃ (Pc : Pr T) (out rest : List PyData), Pc.H = H' ∧ Le P1 Pc ∧ OwnAt K Pc D (.list out) ∧ lcGo gm mt me (wipeM ρ vs) (ds.drop i) = some rest ∧ out ++ rest = tot ∧ out.length ≤ i, ⟨ds.length, by simp, Nat.zero_le _, P1.hid D (.lst []) hD, [], tot, rfl, le_hid P1 hD, .lst (P1.none hD) upd_same .nil, et, rfl, Nat.le_refl _⟩, ?_⟩
  rintro i m H' ⟨rfl, hi, Pc, out, rest, rfl, lc, ow, eg, eo, el⟩
  by_cases hlt : i < ds.length
  · refine .inr ⟨wk.go i Pc hlt lc, fun H'' => ∃ m', m' < ds.length - i ∧ (m' = ds.length - (i + 1) ∧ i + 1 ≤ ds.length ∧ ∃ (Pc : Pr T) (out rest : List PyData), Pc.H = H'' ∧ Le P1 Pc ∧ OwnAt K Pc D (.list out) ∧ lcGo gm mt me (wipeM ρ vs) (ds.drop (i + 1)) = some rest ∧ out ++ rest = tot ∧ out.length ≤ i + 1), fun H'' hh => hh, fun x H'' y => ?_⟩
    obtain ⟨P3, rfl, l3, dd, hdd, rx⟩ := wk.yld i Pc x H'' hlt lc y
    rw [drop_some hdd] at eg
    obtain ⟨ρ1, eρ, eg⟩ := bind_eq eg
    obtain ⟨b, eb, eg⟩ := bind_eq eg
    refine ⟨P0, P3, wipeM ρ vs, dd, ρ1, rfl, (st_wipe s vs).up (l1.trans (lc.trans l3)), rx, eρ, fun σ2 s2 hl2 hf2 => ⟨wipe_frame hl2 hf2, P0, P3, ρ1, b, rfl, s2, eb, fun P4 l4 => ?_⟩⟩
    cases b with
    | false =>
      refine iteF ⟨_, by omega, rfl, hlt, P4, out, rest, rfl, lc.trans (l3.trans l4), ow.up (l3.trans l4), by simpa using eg, eo, by omega⟩
    | true =>
      rw [if_pos rfl] at eg
      obtain ⟨z, ez, eg⟩ := bind_eq eg
      obtain ⟨rest', er, rfl⟩ := map_eq eg
      refine iteT ⟨P0, P4, ρ1, z, rfl, s2.up l4, ez, fun yv P5 l5 r5 => ?_⟩
      have ow5 := ow.up (l3.trans (l4.trans l5))
      cases ow5 with
      | @lst acc _ a1 a2 a3 =>
        obtain ⟨Pn, en, ln, on⟩ := own_grow (lc.trans (l3.trans (l4.trans l5))) lo a1 a2 a3 r5
        have : acc.length = out.length := a3.length
        exact ⟨acc, a2, szl' (by omega) hl, _, by omega, rfl, hlt, Pn, out ++ [z], rest', en, ln, on, er, by rw [← eo]; simp, by rw [List.length_append]; show _ + 1 ≤ _; omega⟩
  · have ei : i = ds.length := by omega
    subst ei
    rw [List.drop_length] at eg
    cases eg
    rw [List.append_nil] at eo
    subst eo
    exact .inl ⟨wk.stop Pc lc, q _ Pc (l1.trans lc) ow (loose_back l1.h lo)⟩
theorem c_lc {mi : MA} {vs : List Nat} {gm : MG} {mt : MT} {me : ME} (h : PE X e (tLc (tIh K T mi) (tG K T vs gm) (tQ K T mt) (tD K T me) vs)) : PE X e (tF K T (mLc mi vs gm mt me)) := pe_to h fun σ H Q z => lc_in z
theorem s_lc {st : Stmt} {i : Nat} {mi : MA} {vs : List Nat} {gm : MG} {mt : MT} {me : ME} (h : PS X st (tAsg (tLc (tIh K T mi) (tG K T vs gm) (tQ K T mt) (tD K T me) vs) (gName i))) : PS X st (tAsg (tF K T (mLc mi vs gm mt me)) (gName i)) := ps_to h fun D σ H z => lc_in z
theorem s_fd {st : Stmt} {g : TG} {m : ME} (h : PS X st (tAsg (tF K T m) g)) (hl : ∀ ρ d, m ρ = some d → isLst d = true) : PS X st (tAsg (tD K T m) g) := ps_to h fun D σ H z => fd_in hl z
def qT : MT := fun _ => some true
theorem q_nil {ifs : List Expr} (h : PTs X ifs tYes) : PTs X ifs (tQ K T qT) := pts_to h fun σ H Q ⟨P0, P, ρ, b, h1, s, h2, q⟩ => by
  subst h1
  cases h2
  exact q P (Le.refl P)
/-! ### generator expressions -/
def agGo (gm : MG) (mt : MT) (me : ME) (ρ : Ev) : List PyData → Option Bool
  | [] => some true
  | d :: ds => (gm d ρ).bind fun ρ1 => (mt ρ1).bind fun b => if b = true then (me ρ1).bind fun x => (asB x).bind fun c => if c = true then agGo gm mt me ρ ds else some false else agGo gm mt me ρ ds
def mAg (mi : MA) (vs : List Nat) (gm : MG) (mt : MT) (me : ME) : ME := fun ρ => (mi ρ).bind fun ds => (agGo gm mt me (wipeM ρ vs) ds).map .bool
theorem ext_pr (P1 : Pr T) {H2 : Hp} (h : LamX.ExtN P1.H H2) (t : LamX.Tabs T H2) : ∃ P2 : Pr T, P2.H = H2 ∧ Le P1 P2 := ⟨⟨P1.M, H2, P1.sub.trans h, t, P1.nt⟩, rfl, ex_refl _, h, fun _ a b => absurd a b⟩
theorem c_ag {mi : MA} {vs : List Nat} {gm : MG} {mt : MT} {me : ME} (h : PE X e (GX.tAllG T (tIh K T mi) (tG K T vs gm) (tQ K T mt) (tD K T me) vs)) : PE X e (tD K T (mAg mi vs gm mt me)) := pe_to h fun σ H Q ⟨P0, P, ρ, d, h1, s, h2, q⟩ => by
  subst h1
  obtain ⟨ds, e0, h3⟩ := bind_eq h2
  obtain ⟨tot, et, rfl⟩ := map_eq h3
  refine ⟨P0, P, ρ, ds, rfl, s, e0, fun J P1 l1 wk => ⟨P1.tab, fun H2 hx ht => ?_⟩⟩
  obtain ⟨P2, rfl, l2⟩ := ext_pr P1 hx ht
  refine ⟨fun i m H' => m = ds.length - i ∧ i ≤ ds.length ∧ ∃ (Pc : Pr T), Pc.H = H' ∧ Le P2 Pc ∧ agGo gm mt me (wipeM ρ vs) (ds.drop i) = some tot, ⟨ds.length, by simp, Nat.zero_le _, P2, rfl, Le.refl P2, et⟩, ?_⟩
  rintro i m H' ⟨rfl, hi, Pc, rfl, lc, eg⟩
  have l12 := l2.trans lc
  by_cases hlt : i < ds.length
  · refine .inr ⟨wk.go i Pc hlt l12, fun x H'' y => ?_⟩
    obtain ⟨P3, rfl, l3, dd, hdd, rx⟩ := wk.yld i Pc x H'' hlt l12 y
    rw [drop_some hdd] at eg
    obtain ⟨ρ1, eρ, eg⟩ := bind_eq eg
    obtain ⟨b, eb, eg⟩ := bind_eq eg
    refine ⟨P0, P3, wipeM ρ vs, dd, ρ1, rfl, (st_wipe s vs).up (l1.trans (l12.trans l3)), rx, eρ, fun σ2 s2 hl2 hf2 => ⟨wipe_frame hl2 hf2, P0, P3, ρ1, b, rfl, s2, eb, fun P4 l4 => ?_⟩⟩
    cases b with
    | false => exact iteF ⟨_, by omega, rfl, hlt, P4, rfl, lc.trans (l3.trans l4), by simpa using eg⟩
    | true =>
      rw [if_pos rfl] at eg
      obtain ⟨z, ez, eg⟩ := bind_eq eg
      obtain ⟨c, ec, eg2⟩ := bind_eq eg
      rw [asB_eq ec] at ez
      refine iteT ⟨P0, P4, ρ1, _, rfl, s2.up l4, ez, fun yv P5 l5 r5 => ?_⟩
      cases r5
      refine ⟨c, rfl, fun hc => ⟨_, Nat.sub_lt_sub_left hlt (Nat.lt_succ_self i), rfl, hlt, P5, rfl, lc.trans (l3.trans (l4.trans l5)), ?_⟩, fun hc => ?_⟩
      · rw [if_pos hc] at eg2
        exact eg2
      · rw [if_neg (by rw [hc]; decide)] at eg2
        cases eg2
        exact q _ P5 (l1.trans (l12.trans (l3.trans (l4.trans l5)))) (.bl _)
  · have ei : i = ds.length := by omega
    subst ei
    rw [List.drop_length] at eg
    cases eg
    exact .inl ⟨wk.stop Pc l12, q _ Pc (l1.trans l12) (.bl _)⟩
def mTg (mi : MA) (vs : List Nat) (gm : MG) (mt : MT) (me : ME) : ME := fun ρ => (mi ρ).bind fun ds0 => (oFew ds0).bind fun ds => (lcGo gm mt me (wipeM ρ vs) ds).map .tuple
theorem c_tg {mi : MA} {vs : List Nat} {gm : MG} {mt : MT} {me : ME} (h : PE X e (GX.tTupG (GX.tGx T (tIh K T mi) (tG K T vs gm) (tQ K T mt) (tD K T me) vs))) : PE X e (tD K T (mTg mi vs gm mt me)) := pe_to h fun σ H Q ⟨P0, P, ρ, d, h1, s, h2, q⟩ => by
  subst h1
  obtain ⟨ds0, e0, h3⟩ := bind_eq h2
  obtain ⟨ds, e1, h4⟩ := bind_eq h3
  obtain ⟨tot, et, rfl⟩ := map_eq h4
  obtain ⟨rfl, hl⟩ := oFew_eq e1
  refine ⟨P0, P, ρ, ds, rfl, s, e0, fun J P1 l1 wk => ⟨P1.tab, fun H2 hx ht => ?_⟩⟩
  obtain ⟨P2, rfl, l2⟩ := ext_pr P1 hx ht
  refine ⟨fun i m ys H' => m = ds.length - i ∧ i ≤ ds.length ∧ ∃ (Pc : Pr T) (out rest : List PyData), Pc.H = H' ∧ Le P2 Pc ∧ RpAll K Pc.M ys out ∧ lcGo gm mt me (wipeM ρ vs) (ds.drop i) = some rest ∧ out ++ rest = tot ∧ out.length ≤ i, ⟨ds.length, by simp, Nat.zero_le _, P2, [], tot, rfl, Le.refl P2, .nil, et, rfl, Nat.le_refl _⟩, ?_⟩
  rintro i m ys H' ⟨rfl, hi, Pc, out, rest, rfl, lc, ra, eg, eo, el⟩
  have l12 := l2.trans lc
  by_cases hlt : i < ds.length
  · refine .inr ⟨wk.go i Pc hlt l12, fun x H'' y => ?_⟩
    obtain ⟨P3, rfl, l3, dd, hdd, rx⟩ := wk.yld i Pc x H'' hlt l12 y
    rw [drop_some hdd] at eg
    obtain ⟨ρ1, eρ, eg⟩ := bind_eq eg
    obtain ⟨b, eb, eg⟩ := bind_eq eg
    refine ⟨P0, P3, wipeM ρ vs, dd, ρ1, rfl, (st_wipe s vs).up (l1.trans (l12.trans l3)), rx, eρ, fun σ2 s2 hl2 hf2 => ⟨wipe_frame hl2 hf2, P0, P3, ρ1, b, rfl, s2, eb, fun P4 l4 => ?_⟩⟩
    cases b with
    | false => exact iteF ⟨_, by omega, rfl, hlt, P4, out, rest, rfl, lc.trans (l3.trans l4), ra.ext (l3.trans l4).m, by simpa using eg, eo, by omega⟩
    | true =>
      rw [if_pos rfl] at eg
      obtain ⟨z, ez, eg⟩ := bind_eq eg
      obtain ⟨rest', er, rfl⟩ := map_eq eg
      refine iteT ⟨P0, P4, ρ1, z, rfl, s2.up l4, ez, fun yv P5 l5 r5 => ?_⟩
      have := ra.length
      exact ⟨szl' (by omega) hl, _, Nat.sub_lt_sub_left hlt (Nat.lt_succ_self i), rfl, hlt, P5, out ++ [z], rest', rfl, lc.trans (l3.trans (l4.trans l5)), RpAll.append (ra.ext (l3.trans (l4.trans l5)).m) (.cons r5 .nil), er, by rw [← eo]; simp, by rw [List.length_append]; show _ + 1 ≤ _; omega⟩
  · have ei : i = ds.length := by omega
    subst ei
    rw [List.drop_length] at eg
    cases eg
    rw [List.append_nil] at eo
    subst eo
    refine .inl ⟨wk.stop Pc l12, fun p hp => q _ (Pc.put p (.tup ys) hp) ((l1.trans l12).trans (le_put Pc hp)) (.tup upd_same (ra.ext (le_put Pc hp).m))⟩
/-! ### calls of defs -/
def spM (K : PySem.W.Frag) (T : Tb) (f : List PyData → Option PyData) : Sp := fun vs H Q _ => ∃ (P : Pr T) (ds : List PyData) (d : PyData), P.H = H ∧ RpAll K P.M vs ds ∧ f ds = some d ∧ ∀ v (P' : Pr T), Le P P' → Rp K P'.M v d → Q v P'.H
def spF (K : PySem.W.Frag) (T : Tb) (f : List PyData → Option PyData) : Sp := fun vs H Q _ => ∃ (P : Pr T) (ds : List PyData) (d : PyData), P.H = H ∧ RpAll K P.M vs ds ∧ f ds = some d ∧ ∀ p (P' : Pr T), Le P P' → OwnAt K P' p d → Loose P.H p → Q (.ref p) P'.H
theorem c_call {E : XK} {f : List PyData → Option PyData} {a : MA} (h : PE X e (tCall (spM K T f) [] E (tA K T a))) : PE X e (tD K T (mCb f a)) := pe_to h fun σ H Q ⟨P0, P, ρ, d, h1, s, h2, q⟩ => by
  subst h1
  obtain ⟨x, ex, h3⟩ := bind_eq h2
  refine ⟨P0, P, ρ, x, rfl, s, ex, fun vs P1 l1 r1 => ?_⟩
  show spM K T f (vs ++ []) P1.H Q E
  rw [List.append_nil]
  exact ⟨P1, x, d, rfl, r1, h3, fun v P2 l2 r2 => q v P2 (l1.trans l2) r2⟩
theorem c_callF {E : XK} {f : List PyData → Option PyData} {a : MA} (h : PE X e (tCall (spF K T f) [] E (tA K T a))) : PE X e (tF K T (mCb f a)) := pe_to h fun σ H Q ⟨P0, P, ρ, d, h1, s, h2, q⟩ => by
  subst h1
  obtain ⟨x, ex, h3⟩ := bind_eq h2
  refine ⟨P0, P, ρ, x, rfl, s, ex, fun vs P1 l1 r1 => ?_⟩
  show spF K T f (vs ++ []) P1.H Q E
  rw [List.append_nil]
  exact ⟨P1, x, d, rfl, r1, h3, fun v P2 l2 r2 lo => q v P2 (l1.trans l2) r2 (loose_back l1.h lo)⟩
end PM

namespace PM
open PySem PySem.Spec PyProof.Rows L2 LB
variable {T : Tb} {K : PySem.W.Frag} {X : Cx} {e : Expr} {st : Stmt} {sts : List Stmt}
inductive Out where
  | nx (ρ : Ev) | rt (d : PyData) | rf (d : PyData) | bk (ρ : Ev) | ct (ρ : Ev) | er (c : Str) (ρ : Ev)
/-- what is wanted where a class is raised -/
abbrev ER := Str → L2.St → Hp → Prop
abbrev MS := Ev → Option Out
def Endk (K : PySem.W.Frag) (R : ER) (P0 : Pr T) (D : Ends) : Out → Prop
  | .nx ρ => ∀ (P : Pr T) σ, St K P0 P σ ρ → D.nx σ P.H
  | .rt d => ∀ v (P : Pr T), Le P0 P → Rp K P.M v d → D.rt v P.H
  | .rf d => ∀ p (P : Pr T), Le P0 P → OwnAt K P p d → Loose P0.H p → D.rt (.ref p) P.H
  | .bk ρ => ∀ (P : Pr T) σ, St K P0 P σ ρ → D.bk σ P.H
  | .ct ρ => ∀ (P : Pr T) σ, St K P0 P σ ρ → D.ct σ P.H
  | .er c ρ => ∀ (P : Pr T) σ, St K P0 P σ ρ → R c σ P.H
def tSR (K : PySem.W.Frag) (T : Tb) (R : ER) (m : MS) : TS := fun D σ H => ∃ (P0 P : Pr T) (ρ : Ev) (o : Out), P.H = H ∧ St K P0 P σ ρ ∧ m ρ = some o ∧ Endk K R P0 D o
abbrev noR : ER := fun _ _ _ => False
abbrev tS (K : PySem.W.Frag) (T : Tb) (m : MS) : TS := tSR K T noR m
variable {R : ER}
def mNx : MS := fun ρ => some (.nx ρ)
theorem s_nil (h : PSs X sts tNext) : PSs X sts (tSR K T R mNx) := pss_to h fun D σ H ⟨P0, P, ρ, o, h1, s, h2, q⟩ => by
  subst h1
  cases h2
  exact q P σ s
theorem s_pass (h : PS X st tNext) : PS X st (tSR K T R mNx) := ps_to h fun D σ H ⟨P0, P, ρ, o, h1, s, h2, q⟩ => by
  subst h1
  cases h2
  exact q P σ s
def mBk : MS := fun ρ => some (.bk ρ)
theorem s_bk (h : PS X st tBreak) : PS X st (tSR K T R mBk) := ps_to h fun D σ H ⟨P0, P, ρ, o, h1, s, h2, q⟩ => by
  subst h1
  cases h2
  exact q P σ s
def mCt : MS := fun ρ => some (.ct ρ)
theorem s_ct (h : PS X st tCont) : PS X st (tSR K T R mCt) := ps_to h fun D σ H ⟨P0, P, ρ, o, h1, s, h2, q⟩ => by
  subst h1
  cases h2
  exact q P σ s
def mSeq (a b : MS) : MS := fun ρ => (a ρ).bind fun o => match o with
  | .nx ρ' => b ρ'
  | o => some o
theorem s_seq {a b : MS} (h : PSs X sts (tSeq (tSR K T R a) (tSR K T R b))) : PSs X sts (tSR K T R (mSeq a b)) := pss_to h fun D σ H ⟨P0, P, ρ, o, h1, s, h2, q⟩ => by
  subst h1
  obtain ⟨o1, e1, h3⟩ := bind_eq h2
  refine ⟨P0, P, ρ, o1, rfl, s, e1, ?_⟩
  cases o1 with
  | nx ρ' => exact fun P' σ' s' => ⟨P0, P', ρ', o, rfl, s', h3, q⟩
  | rt d =>
    cases h3
    exact q
  | rf d =>
    cases h3
    exact q
  | bk d =>
    cases h3
    exact q
  | ct d =>
    cases h3
    exact q
  | er d ρ2 =>
    cases h3
    exact q
def mRet (a : ME) : MS := fun ρ => (a ρ).map .rt
def mRetF (a : ME) : MS := fun ρ => (a ρ).map .rf
theorem s_ret {a : ME} (h : PS X st (tRet (tD K T a))) : PS X st (tSR K T R (mRet a)) := ps_to h fun D σ H ⟨P0, P, ρ, o, h1, s, h2, q⟩ => by
  obtain ⟨d, e1, rfl⟩ := map_eq h2
  exact ⟨P0, P, ρ, d, h1, s, e1, fun v P' l r => q v P' (s.le.trans l) r⟩
theorem s_retF {a : ME} (h : PS X st (tRet (tF K T a))) : PS X st (tSR K T R (mRetF a)) := ps_to h fun D σ H ⟨P0, P, ρ, o, h1, s, h2, q⟩ => by
  subst h1
  obtain ⟨d, e1, rfl⟩ := map_eq h2
  exact ⟨P0, P, ρ, d, rfl, s, e1, fun p P' l r lo => q p P' (s.le.trans l) r (loose_back s.le.h lo)⟩
/-- return x, x an own list -/
def mRetO (i : Nat) : MS := fun ρ => match ρ[i]? with
  | some (.own d) => some (.rf d)
  | _ => none
theorem s_retO {i : Nat} (h : PS X st (tRet (tVar i))) : PS X st (tSR K T R (mRetO i)) := ps_to h fun D σ H ⟨P0, P, ρ, o, h1, s, h2, q⟩ => by
  subst h1
  unfold mRetO at h2
  split at h2
  · rename_i d hd
    cases h2
    obtain ⟨u, g1, g2⟩ := s.ok i _ hd
    cases g2 with
    | own r => exact ⟨_, g1, q _ P s.le r (s.fr i _ _ hd g1)⟩
  · cases h2
def mDrop (a : ME) : MS := fun ρ => (a ρ).map fun _ => .nx ρ
theorem s_drop {a : ME} (h : PS X st (tDrop (tD K T a))) : PS X st (tSR K T R (mDrop a)) := ps_to h fun D σ H ⟨P0, P, ρ, o, h1, s, h2, q⟩ => by
  obtain ⟨d, e1, rfl⟩ := map_eq h2
  exact ⟨P0, P, ρ, d, h1, s, e1, fun v P' l r => q P' σ (s.up l)⟩
def mSet (i : Nat) (a : ME) : MS := fun ρ => (a ρ).map fun d => .nx (ρ.set i (.val d))
theorem s_set {i : Nat} {a : ME} (h : PS X st (tAsg (tD K T a) (gName i))) : PS X st (tSR K T R (mSet i a)) := ps_to h fun D σ H ⟨P0, P, ρ, o, h1, s, h2, q⟩ => by
  obtain ⟨d, e1, rfl⟩ := map_eq h2
  exact ⟨P0, P, ρ, d, h1, s, e1, fun v P' l r => q P' _ ((s.up l).set r i)⟩
def mSetO (i : Nat) (a : ME) : MS := fun ρ => (a ρ).map fun d => .nx (ρ.set i (.own d))
theorem s_setO {i : Nat} {a : ME} (h : PS X st (tAsg (tF K T a) (gName i))) : PS X st (tSR K T R (mSetO i a)) := ps_to h fun D σ H ⟨P0, P, ρ, o, h1, s, h2, q⟩ => by
  subst h1
  obtain ⟨d, e1, rfl⟩ := map_eq h2
  refine ⟨P0, P, ρ, d, rfl, s, e1, fun p P' l r lo => q P' _ ((s.up l).setO r (loose_back s.le.h lo) i fun j e' q' h1 h2 z => ?_)⟩
  obtain ⟨u, g1, g2⟩ := s.ok j _ h1
  rw [h2] at g1
  cases g1
  cases g2 with
  | own r' =>
    subst z
    exact r'.tight lo
def mAsg (a : ME) (gm : MG) : MS := fun ρ => (a ρ).bind fun d => (gm d ρ).map .nx
theorem s_asg {vs : List Nat} {a : ME} {gm : MG} (h : PS X st (tAsg (tD K T a) (tG K T vs gm))) : PS X st (tSR K T R (mAsg a gm)) := ps_to h fun D σ H ⟨P0, P, ρ, o, h1, s, h2, q⟩ => by
  subst h1
  obtain ⟨d, e1, h3⟩ := bind_eq h2
  obtain ⟨ρ', e2, rfl⟩ := map_eq h3
  exact ⟨P0, P, ρ, d, rfl, s, e1, fun v P' l r => ⟨P0, P', ρ, d, ρ', rfl, s.up l, r, e2, fun σ' s' _ _ => q P' σ' s'⟩⟩
def mPar (i j : Nat) (a : MA) : MS := fun ρ => (a ρ).bind fun ds => match ds with
  | [x, y] => some (.nx ((ρ.set i (.val x)).set j (.val y)))
  | _ => none
theorem s_par {i j : Nat} {a : MA} (h : PS X st (tPar i j (tA K T a))) : PS X st (tSR K T R (mPar i j a)) := ps_to h fun D σ H ⟨P0, P, ρ, o, h1, s, h2, q⟩ => by
  obtain ⟨ds, e1, h3⟩ := bind_eq h2
  refine ⟨P0, P, ρ, ds, h1, s, e1, fun vs P' l r => ?_⟩
  split at h3
  · cases h3
    cases r with
    | cons r1 r =>
      cases r with
      | cons r2 r =>
        cases r
        exact ⟨_, _, rfl, q P' _ (((s.up l).set r1 i).set r2 j)⟩
  · cases h3
def mIfS (t : MT) (a b : MS) : MS := fun ρ => (t ρ).bind fun c => if c = true then a ρ else b ρ
theorem s_if {t : MT} {a b : MS} (h : PS X st (tIfS (tQ K T t) (tSR K T R a) (tSR K T R b))) : PS X st (tSR K T R (mIfS t a b)) := ps_to h fun D σ H ⟨P0, P, ρ, o, h1, s, h2, q⟩ => by
  subst h1
  obtain ⟨c, e1, h3⟩ := bind_eq h2
  refine ⟨P0, P, ρ, c, rfl, s, e1, fun P' l => ?_⟩
  cases c with
  | true => exact iteT ⟨P0, P', ρ, o, rfl, s.up l, by simpa using h3, q⟩
  | false => exact iteF ⟨P0, P', ρ, o, rfl, s.up l, by simpa using h3, q⟩
/-! own lists change -/
def mApp (i : Nat) (a : ME) : MS := fun ρ => (a ρ).bind fun d => match ρ[i]? with
  | some (.own (.list ds)) => if ds.length < 100000 then some (.nx (ρ.set i (.own (.list (ds ++ [d]))))) else none
  | _ => none
theorem s_app {i : Nat} {a : ME} (h : PS X st (tDrop (tBM K "list" rAppend (tVar i) (tCons (tD K T a) tNil)))) : PS X st (tSR K T R (mApp i a)) := ps_to h fun D σ H ⟨P0, P, ρ, o, h1, s, h2, q⟩ => by
  subst h1
  obtain ⟨d, e1, h3⟩ := bind_eq h2
  split at h3
  · rename_i ds hd
    split at h3
    · rename_i hlt
      cases h3
      obtain ⟨u, g1, g2⟩ := s.ok i _ hd
      cases g2 with
      | @own p _ r =>
        refine ⟨_, g1, .inl ⟨rfl, ?_⟩, P0, P, ρ, d, rfl, s, e1, fun v P' l rv => ?_⟩
        · cases r with
          | lst a1 a2 a3 => exact ⟨_, SqL.of a2⟩
        · have r' := r.up l
          cases r' with
          | @lst xs _ a1 a2 a3 =>
            obtain ⟨Q', hQ, hQ', s'⟩ := (s.up l).mut (o' := .lst (xs ++ [v])) (d' := .list (ds ++ [d])) hd g1 a1 a2 (fun _ z => nomatch z) (fun _ _ z => by unfold LamX.CodeO at z; cases z) fun R hM hH => .lst (by rw [hM]; exact a1) (by rw [hH]; exact upd_same) (by rw [hM]; exact RpAll.append a3 (.cons rv .nil))
            refine ⟨p, xs, v, rfl, rfl, a2, szl (by rw [a3.length]; exact hlt), ?_⟩
            rw [← hQ']
            exact q Q' σ s'
    · cases h3
  · cases h3
def mRev (i : Nat) : MS := fun ρ => match ρ[i]? with
  | some (.own (.list ds)) => some (.nx (ρ.set i (.own (.list ds.reverse))))
  | _ => none
theorem s_rev {i : Nat} (h : PS X st (tDrop (tBM0 K "list" rReverse (tVar i)))) : PS X st (tSR K T R (mRev i)) := ps_to h fun D σ H ⟨P0, P, ρ, o, h1, s, h2, q⟩ => by
  subst h1
  unfold mRev at h2
  split at h2
  · rename_i ds hd
    cases h2
    obtain ⟨u, g1, g2⟩ := s.ok i _ hd
    cases g2 with
    | @own p _ r =>
      cases r with
      | @lst xs _ a1 a2 a3 =>
        obtain ⟨Q', hQ, hQ', s'⟩ := s.mut (o' := .lst xs.reverse) (d' := .list ds.reverse) hd g1 a1 a2 (fun _ z => nomatch z) (fun _ _ z => by unfold LamX.CodeO at z; cases z) fun R hM hH => .lst (by rw [hM]; exact a1) (by rw [hH]; exact upd_same) (by rw [hM]; exact RpAll.reverse a3)
        refine ⟨_, g1, .inl ⟨rfl, _, SqL.of a2⟩, p, xs, rfl, rfl, a2, ?_⟩
        rw [← hQ']
        exact q Q' σ s'
  · cases h2
/-- from here on an own list is one's own no more -/
def mRel (i : Nat) (m : MS) : MS := fun ρ => match ρ[i]? with
  | some (.own (.list ds)) => m (ρ.set i (.val (.list ds)))
  | _ => m ρ
theorem rel_in {i : Nat} {m : MS} {D : Ends} {σ : L2.St} {H : Hp} (h : tSR K T R (mRel i m) D σ H) : tSR K T R m D σ H := by
  obtain ⟨P0, P, ρ, o, h1, s, h2, q⟩ := h
  subst h1
  unfold mRel at h2
  split at h2
  · rename_i ds hd
    obtain ⟨R, hR, s'⟩ := s.rel hd
    exact ⟨P0, R, _, o, hR, s', h2, q⟩
  · exact ⟨P0, P, ρ, o, rfl, s, h2, q⟩
theorem s_rel (i : Nat) {m : MS} (h : PS X st (tSR K T R m)) : PS X st (tSR K T R (mRel i m)) := ps_to h fun D σ H z => rel_in z
/-! loops -/
theorem St.base {P0 Pb P : Pr T} {σ : L2.St} {ρ : Ev} (l : Le P0 Pb) (s : St K Pb P σ ρ) : St K P0 P σ ρ := ⟨l.trans s.le, s.len, s.ok, s.dis, fun i d p h1 h2 => loose_back l.h (s.fr i d p h1 h2), s.od.1, fun i ks p h1 h2 => loose_back l.h (s.od.2 i ks p h1 h2)⟩
open Classical in
/-- the same from a later entry, on which all data stands that stands now -/
theorem St.rebase {P0 P : Pr T} {σ : L2.St} {ρ : Ev} (s : St K P0 P σ ρ) : ∃ Pb : Pr T, Pb.M = P.M ∧ Le P0 Pb ∧ St K Pb P σ ρ := by
  have agree : ∀ {b : Addr} {u o : HO}, P.M b = some u → P0.H b = some o → Plain o → u = o := fun {b u o} h1 h2 n => by
    have e1 := P.sub b u h1 fun ps z => P.nt b ps (by rw [h1, z])
    have e2 := s.le.h b o h2 n
    rw [e1] at e2
    exact Option.some.inj e2
  refine ⟨⟨P.M, fun a => if P.M a = none then P0.H a else P.M a, fun b u h n => ?_, fun q hq => ?_, P.nt⟩, rfl, ⟨s.le.m, fun b o h n => ?_, s.le.f⟩, ⟨⟨ex_refl _, fun b o h n => ?_, fun a h1 h2 => absurd h1 h2⟩, s.len, s.ok, s.dis, fun i d p h1 h2 => ?_, s.od.1, fun i ks p h1 h2 => ?_⟩⟩
  · show (if P.M b = none then P0.H b else P.M b) = some u
    rw [if_neg (by rw [h]; exact fun z => nomatch z)]
    exact h
  · obtain ⟨ps, h1, h2, h3⟩ := P0.tab q hq
    have e : ∀ {a : Addr} {o : HO}, P0.H a = some o → (∀ u, P.M a = some u → u = o) → (if P.M a = none then P0.H a else P.M a) = some o := fun {a o} h hu => by
      cases z : P.M a with
      | none =>
        rw [if_pos rfl]
        exact h
      | some u =>
        rw [if_neg (fun z => nomatch z), hu u z]
    refine ⟨ps, e h1 fun u hu => ?_, h2, fun pos cv hc => ?_⟩
    · obtain ⟨ps', h1', _⟩ := P.tab q hq
      have := P.sub _ u hu fun ps z => P.nt _ ps (by rw [hu, z])
      rw [h1'] at this
      exact absurd hu (by rw [← Option.some.inj this]; exact P.nt _ _)
    · obtain ⟨c, e1, e2⟩ := h3 pos cv hc
      exact ⟨c, e1, e e2 fun u hu => agree hu e2 LamX.codeO_ne⟩
  · show (if P.M b = none then P0.H b else P.M b) = some o
    cases z : P.M b with
    | none =>
      rw [if_pos rfl]
      exact h
    | some u => rw [if_neg (fun z => nomatch z), agree z h n]
  · have h : (if P.M b = none then P0.H b else P.M b) = some o := h
    cases z : P.M b with
    | none =>
      rw [z, if_pos rfl] at h
      exact s.le.h b o h n
    | some u =>
      rw [z, if_neg (fun z => nomatch z)] at h
      cases h
      exact P.sub b o z n
  · intro o h
    have h : (if P.M p = none then P0.H p else P.M p) = some o := h
    obtain ⟨u, g1, g2⟩ := s.ok i _ h1
    rw [h2] at g1
    cases g1
    cases g2 with
    | own r =>
      rw [if_pos r.obj.1] at h
      exact s.fr i d p h1 h2 o h
  · intro o h
    have h : (if P.M p = none then P0.H p else P.M p) = some o := h
    obtain ⟨u, g1, g2⟩ := s.ok i _ h1
    rw [h2] at g1
    cases g1
    cases g2 with
    | ods b1 b2 b3 =>
      rw [if_pos b1] at h
      exact s.od.2 i ks p h1 h2 o h
theorem Endk.base {P0 Pb : Pr T} {D : Ends} {o : Out} (l : Le P0 Pb) (h : Endk K R P0 D o) : Endk K R Pb D o := by
  cases o with
  | nx ρ => exact fun P σ s => h P σ (s.base l)
  | rt d => exact fun v P l' r => h v P (l.trans l') r
  | rf d => exact fun p P l' r lo => h p P (l.trans l') r (loose_back l.h lo)
  | bk ρ => exact fun P σ s => h P σ (s.base l)
  | ct ρ => exact fun P σ s => h P σ (s.base l)
  | er c ρ => exact fun P σ s => h P σ (s.base l)
def forGo (gm : MG) (mb : MS) : List PyData → Ev → Option Out
  | [], ρ => some (.nx ρ)
  | d :: ds, ρ => (gm d ρ).bind fun ρ1 => (mb ρ1).bind fun o => match o with
    | .nx ρ2 => forGo gm mb ds ρ2
    | .ct ρ2 => forGo gm mb ds ρ2
    | .bk ρ2 => some (.nx ρ2)
    | .rt d => some (.rt d)
    | .rf d => some (.rf d)
    | .er c ρ2 => some (.er c ρ2)
def mFor (mi : MA) (gm : MG) (mb : MS) : MS := fun ρ => (mi ρ).bind fun ds => forGo gm mb ds ρ
theorem s_for {vs : List Nat} {mi : MA} {gm : MG} {mb : MS} (h : PS X st (tFor (tI K T mi) (tG K T vs gm) (tSR K T R mb))) : PS X st (tSR K T R (mFor mi gm mb)) := ps_to h fun D σ H ⟨P0, P, ρ, o, h1, s, h2, q⟩ => by
  subst h1
  obtain ⟨ds, e0, h3⟩ := bind_eq h2
  refine ⟨P0, P, ρ, ds, rfl, s, e0, fun J P1 l1 wk => ?_⟩
  refine ⟨fun i m σ' H' => m = ds.length - i ∧ i ≤ ds.length ∧ ∃ (Pc : Pr T) (ρ' : Ev), Pc.H = H' ∧ Ex P1.M Pc.M ∧ St K P0 Pc σ' ρ' ∧ forGo gm mb (ds.drop i) ρ' = some o, ⟨ds.length, by simp, Nat.zero_le _, P1, ρ, rfl, ex_refl _, s.up l1, h3⟩, ?_⟩
  rintro i m σ' H' ⟨rfl, hi, Pc, ρ', rfl, lc, sc, eg⟩
  by_cases hlt : i < ds.length
  · refine .inr ⟨wk.go i Pc hlt lc, fun σ2 H2 => ∃ m', m' < ds.length - i ∧ (m' = ds.length - (i + 1) ∧ i + 1 ≤ ds.length ∧ ∃ (Pc : Pr T) (ρ' : Ev), Pc.H = H2 ∧ Ex P1.M Pc.M ∧ St K P0 Pc σ2 ρ' ∧ forGo gm mb (ds.drop (i + 1)) ρ' = some o), fun σ2 H2 hh => hh, fun x H'' y => ?_⟩
    obtain ⟨P3, rfl, l3, dd, hdd, rx⟩ := wk.yld i Pc x H'' hlt lc y
    rw [drop_some hdd] at eg
    obtain ⟨ρ1, eρ, eg⟩ := bind_eq eg
    obtain ⟨o1, eo, eg⟩ := bind_eq eg
    refine ⟨P0, P3, ρ', dd, ρ1, rfl, sc.up l3, rx, eρ, fun σ2 s2 _ _ => ?_⟩
    have lm : Ex P1.M P3.M := lc.trans l3.m
    obtain ⟨Pb, hb, lb, s2'⟩ := s2.rebase
    have q' := Endk.base lb q
    refine ⟨Pb, P3, ρ1, o1, rfl, s2', eo, ?_⟩
    have nxt : ∀ (P' : Pr T) σ3 ρ2, forGo gm mb (ds.drop (i + 1)) ρ2 = some o → St K Pb P' σ3 ρ2 → ∃ m', m' < ds.length - i ∧ (m' = ds.length - (i + 1) ∧ i + 1 ≤ ds.length ∧ ∃ (Pc : Pr T) (ρ' : Ev), Pc.H = P'.H ∧ Ex P1.M Pc.M ∧ St K P0 Pc σ3 ρ' ∧ forGo gm mb (ds.drop (i + 1)) ρ' = some o) := fun P' σ3 ρ2 hg s3 => ⟨_, Nat.sub_lt_sub_left hlt (Nat.lt_succ_self i), rfl, hlt, P', ρ2, rfl, lm.trans (by rw [← hb]; exact s3.le.m), s3.base lb, hg⟩
    cases o1 with
    | nx ρ2 => exact fun P' σ3 s3 => nxt P' σ3 ρ2 eg s3
    | ct ρ2 => exact fun P' σ3 s3 => nxt P' σ3 ρ2 eg s3
    | bk ρ2 =>
      cases eg
      exact q'
    | rt d =>
      cases eg
      exact q'
    | rf d =>
      cases eg
      exact q'
    | er c ρ2 =>
      cases eg
      exact q'
  · have ei : i = ds.length := by omega
    subst ei
    rw [List.drop_length] at eg
    cases eg
    exact .inl ⟨wk.stop Pc lc, q Pc σ' sc⟩
/-! ### defs -/
def outR : Out → Option PyData
  | .rt d => some d
  | .rf (.list ds) => some (.list ds)
  | .nx _ => some .none
  | _ => none
def outF : Out → Option PyData
  | .rf d => some d
  | _ => none
def evOf (n N : Nat) (ds : List PyData) : Ev := ds.map .val ++ List.replicate (N - n) .no
def fnM (n N : Nat) (m : MS) : List PyData → Option PyData := fun ds => if ds.length = n then (m (evOf n N ds)).bind outR else none
def fnF (n N : Nat) (m : MS) : List PyData → Option PyData := fun ds => if ds.length = n then (m (evOf n N ds)).bind outF else none
theorem start_st {N : List Str} {P : Pr T} {vs : List V} {ds : List PyData} {n : Nat} (r : RpAll K P.M vs ds) (hn : ds.length = n) : St K P P (L2.start N vs) (evOf n N.length ds) := by
  have hl := r.length
  refine ⟨Le.refl P, ?_, fun i x h => ?_, fun i j p d e ne h1 h2 h3 h4 => ?_, fun i d p h1 h2 => ?_, fun i j p ks ls ne h1 h2 h3 h4 => ?_, fun i ks p h1 h2 => ?_⟩
  · unfold L2.start evOf
    simp [hl, hn]
  · unfold evOf at h
    unfold L2.start
    by_cases hi : i < ds.length
    · rw [List.getElem?_append_left (by simpa using hi), List.getElem?_map, List.getElem?_eq_getElem hi] at h
      cases h
      rw [List.getElem?_append_left (by simp; omega), List.getElem?_map]
      have hv : i < vs.length := by omega
      obtain ⟨d, h1, h2⟩ := r.get (List.getElem?_eq_getElem hv)
      rw [List.getElem?_eq_getElem hi] at h1
      cases h1
      exact ⟨_, by rw [List.getElem?_eq_getElem hv]; rfl, .val h2⟩
    · rw [List.getElem?_append_right (by simpa using hi)] at h
      have : x = .no := by
        have := List.getElem?_eq_some_iff.mp h
        obtain ⟨h1, h2⟩ := this
        rw [← h2, List.getElem_replicate]
      subst this
      have hr := (List.getElem?_eq_some_iff.mp h).1
      simp at hr
      rw [List.getElem?_append_right (by simp; omega)]
      exact ⟨none, by rw [List.getElem?_eq_getElem (by simp; omega), List.getElem_replicate], .no⟩
  · unfold evOf at h1
    have hm := List.mem_of_getElem? h1
    rcases List.mem_append.mp hm with z | z
    · obtain ⟨_, _, z⟩ := List.mem_map.mp z
      cases z
    · cases List.eq_of_mem_replicate z
  · unfold evOf at h1
    have hm := List.mem_of_getElem? h1
    rcases List.mem_append.mp hm with z | z
    · obtain ⟨_, _, z⟩ := List.mem_map.mp z
      cases z
    · cases List.eq_of_mem_replicate z
  · unfold evOf at h1
    have hm := List.mem_of_getElem? h1
    rcases List.mem_append.mp hm with z | z
    · obtain ⟨_, _, z⟩ := List.mem_map.mp z
      cases z
    · cases List.eq_of_mem_replicate z
  · unfold evOf at h1
    have hm := List.mem_of_getElem? h1
    rcases List.mem_append.mp hm with z | z
    · obtain ⟨_, _, z⟩ := List.mem_map.mp z
      cases z
    · cases List.eq_of_mem_replicate z
theorem spM_len {n N : Nat} {m : MS} {vs : List V} {H : Hp} {Q : VK} {E : XK} (h : spM K T (fnM n N m) vs H Q E) : vs.length = n := by
  obtain ⟨P, ds, d, _, r, h, _⟩ := h
  unfold fnM at h
  split at h
  · rw [r.length]
    assumption
  · cases h
theorem spF_len {n N : Nat} {m : MS} {vs : List V} {H : Hp} {Q : VK} {E : XK} (h : spF K T (fnF n N m) vs H Q E) : vs.length = n := by
  obtain ⟨P, ds, d, _, r, h, _⟩ := h
  unfold fnF at h
  split at h
  · rw [r.length]
    assumption
  · cases h
theorem spM_in {R : ER} {N : List Str} {n : Nat} {m : MS} {vs : List V} {H : Hp} {Q : VK} {E : XK} (h : spM K T (fnM n N.length m) vs H Q E) : tSR K T R m { nx := fun _ H' => Q .non H', rt := Q } (L2.start N vs) H := by
  obtain ⟨P, ds, d, rfl, r, h, q⟩ := h
  unfold fnM at h
  split at h
  · rename_i hn
    obtain ⟨o, eo, h⟩ := bind_eq h
    refine ⟨P, P, _, o, rfl, start_st r hn, eo, ?_⟩
    unfold outR at h
    split at h
    · cases h
      exact fun v P' l r' => q v P' l r'
    · cases h
      intro p P' l r' lo
      obtain ⟨P'', e, l'', r''⟩ := own_put l r' lo
      show Q (.ref p) P'.H
      rw [← e]
      exact q _ P'' l'' r''
    · cases h
      exact fun P' σ s => q .non P' s.le .non
    · cases h
  · cases h
theorem spF_in {R : ER} {N : List Str} {n : Nat} {m : MS} {vs : List V} {H : Hp} {Q : VK} {E : XK} (h : spF K T (fnF n N.length m) vs H Q E) : tSR K T R m { nx := fun _ H' => Q .non H', rt := Q } (L2.start N vs) H := by
  obtain ⟨P, ds, d, rfl, r, h, q⟩ := h
  unfold fnF at h
  split at h
  · rename_i hn
    obtain ⟨o, eo, h⟩ := bind_eq h
    refine ⟨P, P, _, o, rfl, start_st r hn, eo, ?_⟩
    unfold outF at h
    split at h
    · cases h
      exact fun v P' l r' lo => q v P' l r' lo
    · cases h
  · cases h
end PM

namespace PM
open PySem PySem.Spec PyProof.Rows L2 LB
variable {T : Tb} {K : PySem.W.Frag} {X : Cx} {e : Expr} {st : Stmt} {sts : List Stmt} {R : ER}
/-! ### own dicts with tuples of ints and texts as keys -/
def keyK : PyData → Option Key
  | .int i => some (.inl i)
  | .str x => some (.inr x)
  | _ => none
def keysK : List PyData → Option (List Key)
  | [] => some []
  | d :: ds => (keyK d).bind fun k => (keysK ds).map fun l => k :: l
def keyL : PyData → Option (List Key)
  | .tuple ds => keysK ds
  | _ => none
theorem keyK_eq {d : PyData} {k : Key} (h : keyK d = some k) : d = keyD k := by
  unfold keyK at h
  split at h
  · cases h
    rfl
  · cases h
    rfl
  · cases h
theorem keysK_eq : ∀ {ds : List PyData} {ks : List Key}, keysK ds = some ks → ds = ks.map keyD
  | [], _, h => by
    cases h
    rfl
  | d :: ds, _, h => by
    obtain ⟨k, hk, h⟩ := bind_eq h
    obtain ⟨l, hl, rfl⟩ := map_eq h
    rw [keyK_eq hk, keysK_eq hl]
    rfl
theorem keyK_of (k : Key) : keyK (keyD k) = some k := by cases k <;> rfl
theorem keysK_of : ∀ ks : List Key, keysK (ks.map keyD) = some ks
  | [] => rfl
  | k :: ks => by
    show (keyK (keyD k)).bind (fun k' => (keysK (ks.map keyD)).map fun l => k' :: l) = _
    rw [keyK_of, keysK_of ks]
    rfl
def putD (kvs : List (PyData × PyData)) (k : List Key) (v : PyData) : List (PyData × PyData) :=
  if (kvs.any fun e => decide (keyL e.1 = some k)) = true then kvs.map (fun e => if keyL e.1 = some k then (e.1, v) else e) else kvs ++ [(.tuple (k.map keyD), v)]
def getD (kvs : List (PyData × PyData)) (k : List Key) : Option PyData := (kvs.find? fun e => decide (keyL e.1 = some k)).map (·.2)
theorem dt_key {M : Hp} {a : List Key × V} {b : PyData × PyData} (h : DT K M a b) (k : List Key) : (keyL b.1 = some k) ↔ a.1 = k := by
  rw [h.1]
  show keysK (a.1.map keyD) = some k ↔ _
  rw [keysK_of]
  simp
theorem dt_any {M : Hp} {k : List Key} : ∀ {as : List (List Key × V)} {bs : List (PyData × PyData)}, PySem.W.EachIs (DT K M) as bs → (as.any fun kv => decide (kv.1 = k)) = bs.any fun e => decide (keyL e.1 = some k)
  | _, _, .nil => rfl
  | _, _, .cons h t => by
    rw [List.any_cons, List.any_cons, dt_any t]
    congr 1
    exact decide_eq_decide.mpr (dt_key h k).symm
theorem dt_map {M : Hp} {k : List Key} {v : V} {d : PyData} (r : Rp K M v d) : ∀ {as : List (List Key × V)} {bs : List (PyData × PyData)}, PySem.W.EachIs (DT K M) as bs → PySem.W.EachIs (DT K M) (as.map fun kv => if kv.1 = k then (kv.1, v) else kv) (bs.map fun e => if keyL e.1 = some k then (e.1, d) else e)
  | _, _, .nil => .nil
  | a :: _, _, .cons h t => by
    refine .cons ?_ (dt_map r t)
    by_cases z : a.1 = k
    all_goals dsimp only
    · rw [if_pos z, if_pos ((dt_key h k).mpr z)]
      exact ⟨h.1, r⟩
    · rw [if_neg z, if_neg fun w => z ((dt_key h k).mp w)]
      exact h
theorem each_app {α β : Type} {R : α → β → Prop} : ∀ {as cs : List α} {bs ds : List β}, PySem.W.EachIs R as bs → PySem.W.EachIs R cs ds → PySem.W.EachIs R (as ++ cs) (bs ++ ds)
  | _, _, _, _, .nil, t => t
  | _, _, _, _, .cons h r, t => .cons h (each_app r t)
theorem dt_put {M : Hp} {k : List Key} {v : V} {d : PyData} (r : Rp K M v d) {as : List (List Key × V)} {bs : List (PyData × PyData)} (h : PySem.W.EachIs (DT K M) as bs) : PySem.W.EachIs (DT K M) (putK as k v) (putD bs k d) := by
  unfold putK putD
  rw [dt_any h]
  split
  · exact dt_map r h
  · exact each_app h (.cons ⟨rfl, r⟩ .nil)
theorem dt_get {M : Hp} {k : List Key} {d : PyData} : ∀ {as : List (List Key × V)} {bs : List (PyData × PyData)}, PySem.W.EachIs (DT K M) as bs → getD bs k = some d → ∃ v, valV as k = some v ∧ Rp K M v d
  | _, _, .nil, h => by cases h
  | a :: as, b :: bs, .cons h t, hg => by
    unfold getD at hg
    unfold valV
    rw [List.find?_cons] at hg ⊢
    by_cases z : a.1 = k
    · rw [decide_eq_true ((dt_key h k).mpr z)] at hg
      cases hg
      rw [decide_eq_true z]
      exact ⟨_, rfl, h.2⟩
    · rw [decide_eq_false fun w => z ((dt_key h k).mp w)] at hg
      rw [decide_eq_false z]
      exact dt_get t hg
theorem dt_keys {M : Hp} : ∀ {as : List (List Key × V)} {bs : List (PyData × PyData)}, PySem.W.EachIs (DT K M) as bs → keysD as = bs.map (·.1)
  | _, _, .nil => rfl
  | _, _, .cons h t => by
    have := dt_keys t
    unfold keysD at this ⊢
    rw [List.map_cons, List.map_cons, this, h.1]
theorem c_dnew (h : PE X e tDNewT) : PE X e (tF K T (mC (.dict []))) := pe_to h fun σ H Q ⟨P0, P, ρ, d, h1, s, h2, q⟩ => by
  subst h1
  cases h2
  exact fun p hp => q p (P.hid p (.dT []) hp) (le_hid P hp) (.dT (P.none hp) upd_same .nil) (loose_none hp)
def mDput (j : Nat) (a : MA) (v : ME) : MS := fun ρ => (v ρ).bind fun dv => (a ρ).bind fun kd => (keysK kd).bind fun ks => match ρ[j]? with
  | some (.own (.dict kvs)) => if kvs.length < 1000 ∧ kd.length ≤ 1000 then some (.nx (ρ.set j (.own (.dict (putD kvs ks dv))))) else none
  | _ => none
theorem rpk_inv {M : Hp} : ∀ {ks : List Key} {xs : List V}, RpAll K M xs (ks.map keyD) → xs = ks.map kV
  | [], _, .nil => rfl
  | .inl n :: ks, _, .cons (.int _) t => by rw [List.map_cons, ← rpk_inv t]; rfl
  | .inr n :: ks, _, .cons (.str _) t => by rw [List.map_cons, ← rpk_inv t]; rfl
theorem s_dput {j : Nat} {a : MA} {v : ME} (h : PS X st (sDPut (tVar j) (tTup (tA K T a)) (tD K T v))) : PS X st (tSR K T R (mDput j a v)) := ps_to h fun D σ H ⟨P0, P, ρ, o, h1, s, h2, q⟩ => by
  subst h1
  obtain ⟨dv, ev, h3⟩ := bind_eq h2
  obtain ⟨kd, ek, h4⟩ := bind_eq h3
  obtain ⟨ks, es, h5⟩ := bind_eq h4
  split at h5
  · rename_i kvs hd
    split at h5
    · rename_i hlt
      cases h5
      obtain ⟨u, g1, g2⟩ := s.ok j _ hd
      cases g2 with
      | @own p _ r =>
        refine ⟨P0, P, ρ, dv, rfl, s, ev, fun w P1 l1 rv => ⟨_, g1, P0, P1, ρ, kd, rfl, s.up l1, ek, fun vs P2 l2 r2 => ?_⟩⟩
        refine ⟨Nat.le_trans (by rw [r2.length]; exact hlt.2) (by decide), fun t ht => ?_⟩
        have lt := l1.trans (l2.trans (le_put P2 (o := .tup vs) ht))
        have r3 := r.up lt
        rw [keysK_eq es] at r2
        have ew := rpk_inv r2
        cases r3 with
        | @dT as _ a1 a2 a3 =>
          have la : as.length = kvs.length := a3.length
          obtain ⟨Q', hQ, hQ', s'⟩ := (s.up lt).mut (o' := .dT (putK as ks w)) (d' := .dict (putD kvs ks dv)) hd g1 a1 a2 (fun _ z => nomatch z) (fun _ _ z => by unfold LamX.CodeO at z; cases z) fun R hM hH => .dT (by rw [hM]; exact a1) (by rw [hH]; exact upd_same) (by rw [hM]; exact dt_put ((rv.ext l2.m).ext (le_put P2 ht).m) a3)
          refine ⟨p, _, rfl, DPut.t a2 (by rw [ew]; exact upd_same) (Nat.lt_trans (by rw [la]; exact hlt.1) (by decide)), ?_⟩
          rw [show upd (upd P2.H t (.tup vs)) p (.dT (putK as ks w)) = Q'.H from hQ'.symm]
          exact q Q' σ s'
    · cases h5
  · cases h5
def mLenD (j : Nat) : ME := fun ρ => match ρ[j]? with
  | some (.own (.dict kvs)) => some (.int (kvs.length : Int))
  | _ => none
theorem c_lenD {j : Nat} (h : PE X e (tCB rLenT (tCons (tVar j) tNil))) : PE X e (tD K T (mLenD j)) := pe_to h fun σ H Q ⟨P0, P, ρ, d, h1, s, h2, q⟩ => by
  subst h1
  unfold mLenD at h2
  split at h2
  · rename_i kvs hd
    cases h2
    obtain ⟨u, g1, g2⟩ := s.ok j _ hd
    cases g2 with
    | @own p _ r =>
      cases r with
      | @dT as _ a1 a2 a3 =>
        refine ⟨_, g1, p, as, rfl, a2, q _ P (Le.refl P) ?_⟩
        rw [show as.length = kvs.length from a3.length]
        exact .int _
  · cases h2
/-- [k + (d[k],) for k in sorted(d)] -/
def tieGo (kvs : List (PyData × PyData)) : List PyData → Option (List PyData)
  | [] => some []
  | k :: r => (keyL k).bind fun ks => (getD kvs ks).bind fun v => (tieGo kvs r).map fun l => .tuple (ks.map keyD ++ [v]) :: l
open Classical in
noncomputable def mTies (i j : Nat) : ME := fun ρ => match ρ[j]? with
  | some (.own (.dict kvs)) => if i < ρ.length ∧ Srt (kvs.map (·.1)) ∧ PySem.W.Sortable (kvs.map (·.1)) ∧ (∀ e ∈ kvs, ∀ ks, keyL e.1 = some ks → ks ≠ [] ∧ ks.length ≤ 1000) then (tieGo kvs (sortD (kvs.map (·.1)))).map .list else none
  | _ => none
theorem mTies_is {i j : Nat} (ρ : Ev) (d : PyData) (h : mTies i j ρ = some d) : isLst d = true := by
  unfold mTies at h
  split at h
  · split at h
    · obtain ⟨_, _, rfl⟩ := map_eq h
      rfl
    · cases h
  · cases h
theorem wipe1 (σ : L2.St) (j : Nat) (x : Option V) : wipe ((wipe σ [j]).set j x) [j] = wipe σ [j] := LB.wipe_one σ j x
theorem c_ties {i j : Nat} (hij : j ≠ i) (h : PE X e (tLc (iList K (tCB rSortDT (tCons (tVar j) tNil))) (gName i) tYes (tOp (uAdd K) (tVar i) (tTup (tCons (tDGet (tVar j) (tVar i)) tNil))) [i])) : PE X e (tF K T (mTies i j)) := pe_to h fun σ H Q ⟨P0, P, ρ, d, h1, s, h2, q⟩ => by
  subst h1
  unfold mTies at h2
  split at h2
  · rename_i kvs hd
    split at h2
    · rename_i hh
      obtain ⟨hil, hS, hO, hk⟩ := hh
      rw [← s.len] at hil
      obtain ⟨tot, et, rfl⟩ := map_eq h2
      obtain ⟨u, g1, g2⟩ := s.ok j _ hd
      cases g2 with
      | @own p _ r =>
        cases r with
        | @dT as _ a1 a2 a3 =>
          have ek := dt_keys a3
          refine ⟨_, g1, p, as, rfl, .inl a2, by rw [ek]; exact hS, by rw [ek]; exact hO, fun l bs hl eb => ⟨l, rfl, ⟨_, SqL.of upd_same⟩, ?_⟩⟩
          rw [ek] at eb
          have lenb : bs.length = (sortD (kvs.map (·.1))).length := eb.length
          intro D hD
          let P1 := P.hid l (.lst (bs.map V.ref)) hl
          have l1 : Le P P1 := le_hid P hl
          have hD1 : P1.H D = none := hD
          have lo : Loose P1.H D := loose_none hD1
          have hlen : (sortD (kvs.map (·.1))).length ≤ 100000 := by
            have := hS.len
            rw [(sortD_perm _).length_eq]
            exact this
          refine ⟨fun n m H' => m = (sortD (kvs.map (·.1))).length - n ∧ n ≤ (sortD (kvs.map (·.1))).length ∧ ∃ (Pc : Pr T) (out rest : List PyData), Pc.H = H' ∧ Le P1 Pc ∧ OwnAt K Pc D (.list out) ∧ tieGo kvs ((sortD (kvs.map (·.1))).drop n) = some rest ∧ out ++ rest = tot ∧ out.length ≤ n, ⟨(sortD (kvs.map (·.1))).length, by simp, Nat.zero_le _, P1.hid D (.lst []) hD1, [], tot, rfl, le_hid P1 hD1, .lst (P1.none hD1) upd_same .nil, et, rfl, Nat.le_refl _⟩, ?_⟩
          rintro n m H' ⟨rfl, hn, Pc, out, rest, rfl, lc, ow, eg, eo, el⟩
          have hlst : Pc.H l = some (.lst (bs.map V.ref)) := lc.h _ _ upd_same fun _ z => nomatch z
          by_cases hlt : n < (sortD (kvs.map (·.1))).length
          · have hb : n < (bs.map V.ref).length := by rw [List.length_map]; omega
            refine .inr ⟨⟨_, (bs.map V.ref)[n], SqL.of hlst, List.getElem?_eq_getElem hb⟩, fun H'' => ∃ m', m' < (sortD (kvs.map (·.1))).length - n ∧ (m' = (sortD (kvs.map (·.1))).length - (n + 1) ∧ n + 1 ≤ (sortD (kvs.map (·.1))).length ∧ ∃ (Pc : Pr T) (out rest : List PyData), Pc.H = H'' ∧ Le P1 Pc ∧ OwnAt K Pc D (.list out) ∧ tieGo kvs ((sortD (kvs.map (·.1))).drop (n + 1)) = some rest ∧ out ++ rest = tot ∧ out.length ≤ n + 1), fun H'' hh => hh, fun x H'' y => ?_⟩
            obtain ⟨rfl, y⟩ := y
            have ex := y _ (SqL.of hlst)
            rw [List.getElem?_map] at ex
            have hbn : n < bs.length := by omega
            rw [List.getElem?_eq_getElem hbn] at ex
            have ex : x = .ref bs[n] := (Option.some.inj ex).symm
            subst ex
            obtain ⟨dk, hdk, ks, rfl, hbk⟩ := LB.each_at eb n hbn
            rw [drop_some hdk] at eg
            obtain ⟨ks', e1, eg⟩ := bind_eq eg
            have e1 : keysK (ks.map keyD) = some ks' := e1
            rw [keysK_of] at e1
            cases e1
            obtain ⟨dv, e2, eg⟩ := bind_eq eg
            obtain ⟨rest', er, rfl⟩ := map_eq eg
            obtain ⟨v, hv, rv⟩ := dt_get a3 e2
            have hbk1 : Pc.H bs[n] = some (.tup (ks.map kV)) := lc.h _ _ (l1.h _ _ hbk fun _ z => nomatch z) fun _ z => nomatch z
            have hpd : Pc.H p = some (.dT as) := lc.h _ _ (l1.h _ _ a2 fun _ z => nomatch z) fun _ z => nomatch z
            have hkk : ks ≠ [] ∧ ks.length ≤ 1000 := by
              have hm : PyData.tuple (ks.map keyD) ∈ kvs.map (·.1) := (sortD_perm _).mem_iff.mp (List.mem_of_getElem? hdk)
              obtain ⟨en, hen, e3⟩ := List.mem_map.mp hm
              refine hk en hen ks ?_
              rw [e3]
              exact keysK_of ks
            have vi : ((wipe σ [i]).set i (some (.ref bs[n])))[i]? = some (some (.ref bs[n])) := List.getElem?_set_self (by rw [wipe_length]; exact hil)
            have vj : ((wipe σ [i]).set i (some (.ref bs[n])))[j]? = some (some (.ref p)) := by
              rw [List.getElem?_set_ne (Ne.symm hij), wipe_out (by simpa using hij)]
              exact g1
            refine ⟨wipe1 σ i _, ?_⟩
            unfold tYes
            dsimp only
            rw [if_pos rfl]
            refine ⟨_, vi, _, vj, _, vi, p, v, rfl, by rw [← hv]; exact DGet.t hpd hbk1, by show 1 ≤ sizeLine; decide, fun t ht => ?_⟩
            have nb : bs[n] ≠ t := ne_of_none hbk1 ht
            refine .inr (.inr (.inr ⟨bs[n], t, ks.map kV, [v], rfl, rfl, SqT.of (by rw [upd_ne nb]; exact hbk1), SqT.of upd_same, ?_, fun z => ?_, fun _ z => absurd z (by simp), fun _ _ p2 hp2 => ?_⟩))
            · have := hkk.2
              rw [List.length_map]
              exact Nat.le_trans (show ks.length + 1 ≤ 1001 by omega) (by decide)
            · exact absurd (List.map_eq_nil_iff.mp z) hkk.1
            · let P4 := Pc.put t (.tup [v]) ht
              have l4 : Le Pc P4 := le_put Pc ht
              let P5 := P4.put p2 (.tup (ks.map kV ++ [v])) hp2
              have l5 : Le P4 P5 := le_put P4 hp2
              have ow5 := ow.up (l4.trans l5)
              have r5 : Rp K P5.M (.ref p2) (.tuple (ks.map keyD ++ [dv])) := .tup upd_same (RpAll.append (LB.rp_keys ks) (.cons ((((rv.ext l1.m).ext lc.m).ext l4.m).ext l5.m) .nil))
              cases ow5 with
              | @lst acc _ b1 b2 b3 =>
                obtain ⟨Pn, en, ln, on⟩ := own_grow (lc.trans (l4.trans l5)) lo b1 b2 b3 r5
                have : acc.length = out.length := b3.length
                exact ⟨acc, b2, szl' (by omega) hlen, _, Nat.sub_lt_sub_left hlt (Nat.lt_succ_self n), rfl, hlt, Pn, _, rest', en, ln, on, er, by rw [← eo]; simp, by rw [List.length_append]; show _ + 1 ≤ _; omega⟩
          · have ei : n = (sortD (kvs.map (·.1))).length := by omega
            subst ei
            rw [List.drop_length] at eg
            cases eg
            rw [List.append_nil] at eo
            subst eo
            refine .inl ⟨⟨_, SqL.of hlst, by rw [List.length_map, lenb]; exact Nat.le_refl _⟩, q _ Pc (l1.trans lc) ow (loose_back l1.h lo)⟩
    · cases h2
  · cases h2
/-! ### l.index(x) -/
def oIndex (a b : PyData) : Option PyData := match a with
  | .list ds => if flD b = true ∧ ds.all flD = true then (ds.findIdx? fun z => PyData.eqv z b).map fun (i : Nat) => .int (i : Int) else none
  | _ => none
theorem rp_nth {M : Hp} {vs : List V} {ds : List PyData} (r : RpAll K M vs ds) {i : Nat} {d : PyData} (h : ds[i]? = some d) : ∃ v, vs[i]? = some v ∧ Rp K M v d := by
  have hi := (List.getElem?_eq_some_iff.mp h).1
  have hv : i < vs.length := by rw [r.length]; exact hi
  obtain ⟨d', h1, h2⟩ := r.get (List.getElem?_eq_getElem hv)
  rw [h] at h1
  cases h1
  exact ⟨_, List.getElem?_eq_getElem hv, h2⟩
theorem c_index {a b : ME} (h : PE X e (tBM K "list" (rIndex K) (tW K T a) (tCons (tD K T b) tNil))) : PE X e (tD K T (mOp oIndex a b)) := pe_to h fun σ H Q ⟨P0, P, ρ, d, h1, s, h2, q⟩ => by
  subst h1
  obtain ⟨x, ex, h3⟩ := bind_eq h2
  obtain ⟨y, ey, h4⟩ := bind_eq h3
  unfold oIndex at h4
  split at h4
  · rename_i ds
    split at h4
    · rename_i hh
      obtain ⟨j, hj, rfl⟩ := map_eq h4
      refine ⟨P0, P, ρ, _, rfl, s, ex, fun v P1 l1 r1 => ?_⟩
      obtain ⟨p, xs, rfl, hs, ra⟩ := r1.list
      refine ⟨.inl ⟨rfl, _, hs⟩, P0, P1, ρ, y, rfl, s.up l1, ey, fun u P2 l2 r2 => ?_⟩
      have ra2 := ra.ext l2.m
      obtain ⟨hjl, he, hm⟩ := List.findIdx?_eq_some_iff_getElem.mp hj
      obtain ⟨z, hz, rz⟩ := rp_nth ra2 (List.getElem?_eq_getElem hjl)
      have fd : ∀ {i : Nat} {d : PyData}, ds[i]? = some d → flD d = true := fun {i d} h => List.all_eq_true.mp hh.2 d (List.mem_of_getElem? h)
      refine ⟨p, xs, u, j, z, rfl, rfl, ex_l l2.h hs, fl_v r2 hh.1, fl_vs ra2 hh.2, hz, ?_, fun m z' hm' hz' => ?_, q _ P2 (l1.trans l2) (.int _)⟩
      · rw [fl_eq rz (fd (List.getElem?_eq_getElem hjl)) r2 hh.1]
        exact he
      · obtain ⟨d', h1', h2'⟩ := ra2.get hz'
        rw [fl_eq h2' (fd h1') r2 hh.1]
        have hml : m < ds.length := by omega
        rw [List.getElem?_eq_getElem hml] at h1'
        cases h1'
        have := hm m hm'
        simpa using this
    · cases h4
  · cases h4
theorem mt_indexK (hK : X.K = K := by rfl) : MtR X "list.index" (rIndex K) := by
  subst hK
  exact mt_index
end PM

namespace PM
open PySem PySem.Spec PyProof.Rows L2 LB
/-! ### tables of the defs that make generators -/
def qOf (x : Str) : Str := x ++ ".<locals>." ++ "<genexpr>"
def tabsOf (K : PySem.W.Frag) (fs : List Str) : Tb := fs.map fun x => ((He.cT K (x, none)).2, qOf x)
theorem tab_mem {K : PySem.W.Frag} {fs : List Str} {x : Str} (h : x ∈ fs) : ((He.cT K (x, none)).2, qOf x) ∈ tabsOf K fs := List.mem_map.mpr ⟨x, h, rfl⟩
theorem nodup_map {α β : Type} {f : α → β} : ∀ {l : List α}, (l.map f).Nodup → ∀ {x y : α}, x ∈ l → y ∈ l → f x = f y → x = y
  | [], _, _, _, h, _, _ => (List.not_mem_nil h).elim
  | a :: l, nd, x, y, hx, hy, e => by
    rw [List.map_cons, List.nodup_cons] at nd
    rcases List.mem_cons.mp hx with h1 | h1
    · rcases List.mem_cons.mp hy with h2 | h2
      · rw [h1, h2]
      · exact absurd (List.mem_map.mpr ⟨y, h2, by rw [← e, h1]⟩) nd.1
    · rcases List.mem_cons.mp hy with h2 | h2
      · exact absurd (List.mem_map.mpr ⟨x, h1, by rw [e, h2]⟩) nd.1
      · exact nodup_map nd.2 h1 h2 e
theorem tab_uniq {K : PySem.W.Frag} {fs : List Str} {x : Str} (nd : (fs.map fun x => (He.cT K (x, none)).2).Nodup) (h : x ∈ fs) : ∀ p ∈ tabsOf K fs, p.1 = (He.cT K (x, none)).2 → p.2 = qOf x := fun p hp e => by
  obtain ⟨y, hy, rfl⟩ := List.mem_map.mp hp
  have := nodup_map nd hy h e
  subst this
  rfl
end PM
namespace PM
open PySem PySem.Spec PyProof.Rows L2 LB
theorem c_dct {T : Tb} {K : PySem.W.Frag} {X : Cx} {e : Expr} (h : PE X e tDNewK) : PE X e (tD K T (mC (.dict []))) := pe_to h fun σ H Q ⟨P0, P, ρ, d, h1, s, h2, q⟩ => by
  subst h1
  cases h2
  exact fun p hp => q _ (P.put p (.dK []) hp) (le_put P hp) (.dct upd_same rfl .nil)
end PM

namespace PM
open PySem PySem.Spec PyProof.Rows L2 LB
/-! ### reckoning with models -/
section
variable {a b : MS} {ρ ρ' : Ev} {o : Option Out} {d x y : PyData} {i : Nat} {e f : ME} {t : MT}
theorem x_seq (h : a ρ = some (.nx ρ')) (h2 : b ρ' = o) : mSeq a b ρ = o := by
  unfold mSeq
  rw [h]
  exact h2
theorem x_ret (h : a ρ = some (.rt d)) : mSeq a b ρ = some (.rt d) := by
  unfold mSeq
  rw [h]
  rfl
theorem x_set (h : e ρ = some d) : mSet i e ρ = some (.nx (ρ.set i (.val d))) := by
  unfold mSet
  rw [h]
  rfl
theorem x_setO (h : e ρ = some d) : mSetO i e ρ = some (.nx (ρ.set i (.own d))) := by
  unfold mSetO
  rw [h]
  rfl
theorem x_rt (h : e ρ = some d) : mRet e ρ = some (.rt d) := by
  unfold mRet
  rw [h]
  rfl
theorem x_rf (h : e ρ = some d) : mRetF e ρ = some (.rf d) := by
  unfold mRetF
  rw [h]
  rfl
theorem x_ifT (h : t ρ = some true) (h2 : a ρ = o) : mIfS t a b ρ = o := by
  unfold mIfS
  rw [h]
  exact h2
theorem x_ifF (h : t ρ = some false) (h2 : b ρ = o) : mIfS t a b ρ = o := by
  unfold mIfS
  rw [h]
  exact h2
theorem x_op {g : PyData → PyData → Option PyData} (h1 : e ρ = some x) (h2 : f ρ = some y) (h : g x y = some d) : mOp g e f ρ = some d := by
  unfold mOp
  rw [h1, h2]
  exact h
theorem x_app {ds : List PyData} (h : e ρ = some d) (ho : ρ[i]? = some (.own (.list ds))) (hl : ds.length < 100000) : mApp i e ρ = some (.nx (ρ.set i (.own (.list (ds ++ [d]))))) := by
  unfold mApp
  rw [h, ho]
  show (if ds.length < 100000 then _ else none) = _
  rw [if_pos hl]
theorem x_cb {g : List PyData → Option PyData} {as : MA} {ds : List PyData} (h : as ρ = some ds) (h2 : g ds = some d) : mCb g as ρ = some d := by
  unfold mCb
  rw [h]
  exact h2
theorem x_cons {as : MA} {ds : List PyData} (h : e ρ = some d) (h2 : as ρ = some ds) : aCons e as ρ = some (d :: ds) := by
  unfold aCons
  rw [h, h2]
  rfl
theorem x_tup {as : MA} {ds : List PyData} (h : as ρ = some ds) (hl : ds.length ≤ 100000) : mTup as ρ = some (.tuple ds) := by
  unfold mTup oFew
  rw [h]
  show (if ds.length ≤ 100000 then some ds else none).map _ = _
  rw [if_pos hl]
  rfl
theorem x_lst {as : MA} {ds : List PyData} (h : as ρ = some ds) (hl : ds.length ≤ 100000) : mLst as ρ = some (.list ds) := by
  unfold mLst oFew
  rw [h]
  show (if ds.length ≤ 100000 then some ds else none).map _ = _
  rw [if_pos hl]
  rfl
theorem x_qv {c : Bool} (h : e ρ = some (.bool c)) : qV e ρ = some c := by
  unfold qV
  rw [h]
  rfl
theorem x_not {c : Bool} (h : t ρ = some c) : qNot t ρ = some (!c) := by
  unfold qNot
  rw [h]
  rfl
theorem x_andT {u : MT} {c : Bool} (h : t ρ = some true) (h2 : u ρ = some c) : qAnd t u ρ = some c := by
  unfold qAnd
  rw [h]
  exact h2
theorem x_andF {u : MT} (h : t ρ = some false) : qAnd t u ρ = some false := by
  unfold qAnd
  rw [h]
  rfl
theorem x_orT {u : MT} (h : t ρ = some true) : qOr t u ρ = some true := by
  unfold qOr
  rw [h]
  rfl
theorem x_orF {u : MT} {c : Bool} (h : t ρ = some false) (h2 : u ρ = some c) : qOr t u ρ = some c := by
  unfold qOr
  rw [h]
  exact h2
theorem x_mandT (h : e ρ = some (.bool true)) (h2 : f ρ = some d) : mAnd e f ρ = some d := by
  unfold mAnd
  rw [h]
  exact h2
theorem x_mandF (h : e ρ = some (.bool false)) : mAnd e f ρ = some (.bool false) := by
  unfold mAnd
  rw [h]
  rfl
theorem x_fn {n N : Nat} {m : MS} {ds : List PyData} {q : Out} (hl : ds.length = n) (h : m (evOf n N ds) = some q) (h2 : outR q = some d) : fnM n N m ds = some d := by
  unfold fnM
  rw [if_pos hl, h]
  exact h2
theorem x_fnF {n N : Nat} {m : MS} {ds : List PyData} {q : Out} (hl : ds.length = n) (h : m (evOf n N ds) = some q) (h2 : outF q = some d) : fnF n N m ds = some d := by
  unfold fnF
  rw [if_pos hl, h]
  exact h2
end
theorem mul_ii {i j : Int} (h1 : i.natAbs < 2 ^ 200) (h2 : j.natAbs < 2 ^ 200) : oMul (.int i) (.int j) = some (.int (i * j)) := by
  show (if i.natAbs < 2 ^ 200 ∧ j.natAbs < 2 ^ 200 then some (PyData.int (i * j)) else none) = _
  rw [if_pos ⟨h1, h2⟩]
theorem mul_si {z : Str} {n : Nat} (h1 : n ≤ 1000) (h2 : z.length ≤ 1000) : oMul (.str z) (.int (n : Int)) = some (.str (repS z n)) := by
  show (if 0 ≤ (n : Int) ∧ (n : Int) ≤ 1000 ∧ z.length ≤ 1000 then some (PyData.str (repS z (n : Int).toNat)) else none) = _
  rw [if_pos ⟨by omega, by omega, h2⟩, Int.toNat_natCast]
theorem mul_sk {z : Str} {k : Int} {n : Nat} (hk : k = (n : Int)) (h1 : n ≤ 1000) (h2 : z.length ≤ 1000) : oMul (.str z) (.int k) = some (.str (repS z n)) := by
  rw [hk]
  exact mul_si h1 h2
theorem add_ss {x y : Str} (h : x.length + y.length ≤ 10000) : oAdd (.str x) (.str y) = some (.str (x ++ y)) := by
  show (if x.length + y.length ≤ 10000 then some (PyData.str (x ++ y)) else none) = _
  rw [if_pos h]
theorem add_ll {x y : List PyData} (h : x.length + y.length ≤ 100000) : oAdd (.list x) (.list y) = some (.list (x ++ y)) := by
  show (if x.length + y.length ≤ 100000 then some (PyData.list (x ++ y)) else none) = _
  rw [if_pos h]
theorem add_tt {x y : List PyData} (h : x.length + y.length ≤ 100000) : oAdd (.tuple x) (.tuple y) = some (.tuple (x ++ y)) := by
  show (if x.length + y.length ≤ 100000 then some (PyData.tuple (x ++ y)) else none) = _
  rw [if_pos h]
theorem mod_ii {i j : Int} (h : j ≠ 0) : oMod (.int i) (.int j) = some (.int (i.fmod j)) := by
  show (if decide (j ≠ 0) = true then some (PyData.int (i.fmod j)) else none) = _
  rw [if_pos (decide_eq_true h)]
theorem ix_l {l : List PyData} {i : Int} {d : PyData} (h : atI l i = some d) : oIx (.list l) (.int i) = some d := h
theorem ix_t {l : List PyData} {i : Int} {d : PyData} (h : atI l i = some d) : oIx (.tuple l) (.int i) = some d := h
theorem ix_s {z : Str} {i : Int} {c : Nat} (hz : z.length ≤ 1000) (h : atI z.cps.toList i = some c) : oIx (.str z) (.int i) = some (.str ⟨#[c]⟩) := by
  show (if z.length ≤ 1000 then (atI z.cps.toList i).map fun c => PyData.str ⟨#[c]⟩ else none) = _
  rw [if_pos hz, h] <;> rfl
theorem rng_n {n : Nat} (h : n < 100000) : oRng [.int (n : Int)] = some (rngD n) := by
  show (if -100000 ≤ (n : Int) ∧ (n : Int) < 100000 then some (rngD (n : Int).toNat) else none) = _
  rw [if_pos ⟨by omega, by omega⟩, Int.toNat_natCast]
theorem x_rng {as : MA} {ρ : Ev} {n : Nat} (h : as ρ = some [.int (n : Int)]) (hn : n < 100000) : iR as ρ = some (rngD n) := by
  unfold iR
  rw [h, Option.bind_some]
  exact rng_n hn
theorem eq_ii (i j : Int) : oEq (.int i) (.int j) = some (.bool (decide (i = j))) := by
  show (if SeqAt.shaped (.int i) = true ∧ SeqAt.shaped (.int j) = true then some (PyData.bool (i == j)) else none) = _
  rw [if_pos ⟨rfl, rfl⟩]
  congr 2
theorem ne_ii (i j : Int) : oNe (.int i) (.int j) = some (.bool (!decide (i = j))) := by
  show (if SeqAt.shaped (.int i) = true ∧ SeqAt.shaped (.int j) = true then some (PyData.bool (!(i == j))) else none) = _
  rw [if_pos ⟨rfl, rfl⟩]
  congr 2
theorem x_ties {i j : Nat} {ρ : Ev} {kvs : List (PyData × PyData)} {ts : List PyData} (hρ : ρ[j]? = some (.own (.dict kvs))) (hi : i < ρ.length) (S : Srt (kvs.map (·.1))) (ok : PySem.W.Sortable (kvs.map (·.1))) (hk : ∀ e ∈ kvs, ∀ ks, keyL e.1 = some ks → ks ≠ [] ∧ ks.length ≤ 1000) (h : tieGo kvs (sortD (kvs.map (·.1))) = some ts) : mTies i j ρ = some (.list ts) := by
  unfold mTies
  rw [hρ]
  dsimp only
  rw [if_pos ⟨hi, S, ok, hk⟩, h]
  rfl
theorem x_par {i j : Nat} {as : MA} {ρ : Ev} {x y : PyData} (h : as ρ = some [x, y]) : mPar i j as ρ = some (.nx ((ρ.set i (.val x)).set j (.val y))) := by
  unfold mPar
  rw [h]
  rfl
/-- a loop by its invariant -/
theorem x_go {gm : MG} {mb : MS} (I : Nat → Ev → Prop) : ∀ (ds : List PyData) (k : Nat) (ρ : Ev), I k ρ → (∀ i d ρ, ds[i]? = some d → I (k + i) ρ → ∃ ρ1 ρ2, gm d ρ = some ρ1 ∧ mb ρ1 = some (.nx ρ2) ∧ I (k + i + 1) ρ2) → ∃ ρ', forGo gm mb ds ρ = some (.nx ρ') ∧ I (k + ds.length) ρ'
  | [], k, ρ, h, _ => ⟨ρ, rfl, h⟩
  | d :: ds, k, ρ, h, hs => by
    obtain ⟨ρ1, ρ2, h1, h2, h3⟩ := hs 0 d ρ rfl h
    obtain ⟨ρ', h4, h5⟩ := x_go I ds (k + 1) ρ2 h3 fun i d' ρ hd hi => by
      have e : k + 1 + i = k + (i + 1) := by omega
      rw [e] at hi ⊢
      exact hs (i + 1) d' ρ hd hi
    refine ⟨ρ', ?_, ?_⟩
    · show (gm d ρ).bind _ = _
      rw [h1]
      show (mb ρ1).bind _ = _
      rw [h2]
      exact h4
    · have e : k + 1 + ds.length = k + (ds.length + 1) := by omega
      rw [e] at h5
      exact h5
theorem x_for {mi : MA} {gm : MG} {mb : MS} {ds : List PyData} {ρ : Ev} (I : Nat → Ev → Prop) (hi : mi ρ = some ds) (h0 : I 0 ρ) (hs : ∀ i d ρ, ds[i]? = some d → I i ρ → ∃ ρ1 ρ2, gm d ρ = some ρ1 ∧ mb ρ1 = some (.nx ρ2) ∧ I (i + 1) ρ2) : ∃ ρ', mFor mi gm mb ρ = some (.nx ρ') ∧ I ds.length ρ' := by
  obtain ⟨ρ', h1, h2⟩ := x_go I ds 0 ρ h0 fun i d ρ hd h => by
    rw [Nat.zero_add] at h ⊢
    exact hs i d ρ hd h
  refine ⟨ρ', ?_, by rw [Nat.zero_add] at h2; exact h2⟩
  unfold mFor
  rw [hi]
  exact h1
/-- m runs, and what comes of it keeps to Post -/
def Run (m : MS) (ρ : Ev) (Post : Out → Prop) : Prop := ∃ q, m ρ = some q ∧ Post q
section
variable {a b rest : MS} {ρ ρ' : Ev} {Post : Out → Prop} {e : ME} {t : MT} {d : PyData} {c : Bool}
theorem r_seq (h : a ρ = some (.nx ρ')) (h2 : Run b ρ' Post) : Run (mSeq a b) ρ Post := by
  obtain ⟨q, h3, h4⟩ := h2
  exact ⟨q, x_seq h h3, h4⟩
theorem r_end (h : a ρ = some (.nx ρ')) (h2 : Post (.nx ρ')) : Run a ρ Post := ⟨_, h, h2⟩
theorem r_ret (h : e ρ = some d) (h2 : Post (.rt d)) : Run (mRet e) ρ Post := ⟨_, x_rt h, h2⟩
theorem r_rf (h : e ρ = some d) (h2 : Post (.rf d)) : Run (mRetF e) ρ Post := ⟨_, x_rf h, h2⟩
theorem r_if (h : t ρ = some c) (h1 : c = true → Run a ρ Post) (h2 : c = false → Run b ρ Post) : Run (mIfS t a b) ρ Post := by
  cases c with
  | true =>
    obtain ⟨q, h3, h4⟩ := h1 rfl
    exact ⟨q, x_ifT h h3, h4⟩
  | false =>
    obtain ⟨q, h3, h4⟩ := h2 rfl
    exact ⟨q, x_ifF h h3, h4⟩
/-- goes on with some environment -/
def Nx (Mid : Ev → Prop) : Out → Prop
  | .nx ρ => Mid ρ
  | _ => False
theorem r_mid (Mid : Ev → Prop) (h : Run a ρ (Nx Mid)) (h2 : ∀ ρ', Mid ρ' → Run b ρ' Post) : Run (mSeq a b) ρ Post := by
  obtain ⟨q, h3, h4⟩ := h
  cases q with
  | nx ρ' => exact r_seq h3 (h2 ρ' h4)
  | rt d => exact h4.elim
  | rf d => exact h4.elim
  | bk d => exact h4.elim
  | ct d => exact h4.elim
  | er d ρ2 => exact h4.elim
theorem r_for {mi : MA} {gm : MG} {mb : MS} {ds : List PyData} (I : Nat → Ev → Prop) (hi : mi ρ = some ds) (h0 : I 0 ρ) (hs : ∀ i d ρ, ds[i]? = some d → I i ρ → ∃ ρ1, gm d ρ = some ρ1 ∧ Run mb ρ1 (Nx (I (i + 1)))) (he : ∀ ρ', I ds.length ρ' → Run rest ρ' Post) : Run (mSeq (mFor mi gm mb) rest) ρ Post := by
  obtain ⟨ρ', h1, h2⟩ := x_for I hi h0 fun i d ρ hd h => by
    obtain ⟨ρ1, h1, q, h2, h3⟩ := hs i d ρ hd h
    cases q with
    | nx ρ2 => exact ⟨ρ1, ρ2, h1, h2, h3⟩
    | rt d => exact h3.elim
    | rf d => exact h3.elim
    | bk d => exact h3.elim
    | ct d => exact h3.elim
    | er d ρ2 => exact h3.elim
  exact r_seq h1 (he ρ' h2)
theorem r_fn {n N : Nat} {m : MS} {ds : List PyData} {Pd : PyData → Prop} (hl : ds.length = n) (h : Run m (evOf n N ds) fun q => ∃ d, outR q = some d ∧ Pd d) : ∃ d, fnM n N m ds = some d ∧ Pd d := by
  obtain ⟨q, h1, d, h2, h3⟩ := h
  exact ⟨d, x_fn hl h1 h2, h3⟩
theorem r_eq {n N : Nat} {m : MS} {ds : List PyData} (hl : ds.length = n) (h : Run m (evOf n N ds) fun q => outR q = some d) : fnM n N m ds = some d := by
  obtain ⟨q, h1, h2⟩ := h
  exact x_fn hl h1 h2
theorem rng_at {n i : Nat} (h : (rngD n)[i]? = some d) : i < n ∧ d = .int (i : Int) := by
  have hi := (List.getElem?_eq_some_iff.mp h).1
  rw [rngD_length] at hi
  unfold rngD at h
  rw [List.getElem?_map, List.getElem?_range hi] at h
  exact ⟨hi, (Option.some.inj h).symm⟩
end
/-- a comprehension whose every turn is told -/
theorem x_lcGo {gm : MG} {mt : MT} {me : ME} {ρ : Ev} (p : PyData → Bool) (F : PyData → PyData) : ∀ (ds : List PyData), (∀ d ∈ ds, ∃ ρ1, gm d ρ = some ρ1 ∧ mt ρ1 = some (p d) ∧ (p d = true → me ρ1 = some (F d))) → lcGo gm mt me ρ ds = some ((ds.filter p).map F)
  | [], _ => rfl
  | d :: ds, h => by
    obtain ⟨ρ1, h1, h2, h3⟩ := h d List.mem_cons_self
    have ih := x_lcGo p F ds fun x hx => h x (List.mem_cons_of_mem _ hx)
    show (gm d ρ).bind _ = _
    rw [h1]
    show (mt ρ1).bind _ = _
    rw [h2]
    cases hp : p d with
    | true =>
      show (me ρ1).bind _ = _
      rw [h3 hp]
      show (lcGo gm mt me ρ ds).map _ = _
      rw [ih, List.filter_cons_of_pos hp]
      rfl
    | false =>
      show lcGo gm mt me ρ ds = _
      rw [ih, List.filter_cons_of_neg (by rw [hp]; decide)]
theorem x_few {ds : List PyData} (h : ds.length ≤ 100000) : oFew ds = some ds := if_pos h
theorem x_lc {mi : MA} {vs : List Nat} {gm : MG} {mt : MT} {me : ME} {ρ : Ev} {ds es : List PyData} (hi : mi ρ = some ds) (hl : ds.length ≤ 100000) (h : lcGo gm mt me (wipeM ρ vs) ds = some es) : mLc mi vs gm mt me ρ = some (.list es) := by
  unfold mLc
  rw [hi]
  show (oFew ds).bind _ = _
  rw [x_few hl]
  show (lcGo gm mt me (wipeM ρ vs) ds).map _ = _
  rw [h]
  rfl
theorem x_tg {mi : MA} {vs : List Nat} {gm : MG} {mt : MT} {me : ME} {ρ : Ev} {ds es : List PyData} (hi : mi ρ = some ds) (hl : ds.length ≤ 100000) (h : lcGo gm mt me (wipeM ρ vs) ds = some es) : mTg mi vs gm mt me ρ = some (.tuple es) := by
  unfold mTg
  rw [hi]
  show (oFew ds).bind _ = _
  rw [x_few hl]
  show (lcGo gm mt me (wipeM ρ vs) ds).map _ = _
  rw [h]
  rfl
theorem x_agGo {gm : MG} {mt : MT} {me : ME} {ρ : Ev} (p : PyData → Bool) : ∀ (ds : List PyData), (∀ d ∈ ds, ∃ ρ1, gm d ρ = some ρ1 ∧ mt ρ1 = some true ∧ me ρ1 = some (.bool (p d))) → agGo gm mt me ρ ds = some (ds.all p)
  | [], _ => rfl
  | d :: ds, h => by
    obtain ⟨ρ1, h1, h2, h3⟩ := h d List.mem_cons_self
    have ih := x_agGo p ds fun x hx => h x (List.mem_cons_of_mem _ hx)
    show (gm d ρ).bind _ = _
    rw [h1]
    show (mt ρ1).bind _ = _
    rw [h2]
    show (me ρ1).bind _ = _
    rw [h3, List.all_cons]
    cases hp : p d with
    | true =>
      show agGo gm mt me ρ ds = _
      rw [ih, Bool.true_and]
    | false => rfl
theorem x_ag {mi : MA} {vs : List Nat} {gm : MG} {mt : MT} {me : ME} {ρ : Ev} {ds : List PyData} {c : Bool} (hi : mi ρ = some ds) (h : agGo gm mt me (wipeM ρ vs) ds = some c) : mAg mi vs gm mt me ρ = some (.bool c) := by
  unfold mAg
  rw [hi]
  show (agGo gm mt me (wipeM ρ vs) ds).map _ = _
  rw [h]
  rfl
theorem x_sorted {ds : List PyData} (h : Srt ds) : oSorted [.list ds] = some (.list (sortD ds)) := by
  show (open Classical in if Srt ds then some (PyData.list (sortD ds)) else none) = _
  rw [if_pos h]
theorem cut_mem {α : Type} {l : List α} {lo hi : Option Int} {x : α} (h : x ∈ LB.cutD l lo hi) : x ∈ l := List.mem_of_mem_drop (List.mem_of_mem_take h)
theorem cut_len {α : Type} (l : List α) (lo hi : Option Int) : (LB.cutD l lo hi).length ≤ l.length := by
  unfold LB.cutD
  rw [List.length_take, List.length_drop]
  omega
/-! sorted lists of names -/
def leS (a b : Str) : Bool := !decide (b.cps.toList < a.cps.toList)
theorem sort_strs (ns : List Str) : sortD (ns.map PyData.str) = (ns.mergeSort leS).map PyData.str := by
  unfold sortD
  refine (List.map_mergeSort fun a _ b _ => ?_).symm
  show leS a b = !PySem.W.dataLt (.str b) (.str a)
  rw [PySem.W.dataLt_str]
  rfl
theorem srt_strs {ns : List Str} (h : ns.length ≤ 1000) : Srt (ns.map PyData.str) := by
  refine ⟨fun d hd d' hd' => ?_, .inl (.inr fun d hd => ?_), fun d hd => ?_, by rw [List.length_map]; omega⟩
  · obtain ⟨x, _, rfl⟩ := List.mem_map.mp hd
    obtain ⟨y, _, rfl⟩ := List.mem_map.mp hd'
    rfl
  · obtain ⟨x, _, rfl⟩ := List.mem_map.mp hd
    exact ⟨(fun z => nomatch z), (fun _ z => nomatch z)⟩
  · obtain ⟨x, _, rfl⟩ := List.mem_map.mp hd
    exact Nat.zero_le _
theorem leS_sorted (ns : List Str) : (ns.mergeSort leS).Pairwise fun a b => leS a b = true := by
  refine List.pairwise_mergeSort (fun a b c h1 h2 => ?_) (fun a b => ?_) ns
  · unfold leS at *
    simp only [Bool.not_eq_true', decide_eq_false_iff_not] at *
    exact List.not_lt.mpr (List.le_trans (List.not_lt.mp h1) (List.not_lt.mp h2))
  · unfold leS
    simp only [Bool.or_eq_true, Bool.not_eq_true', decide_eq_false_iff_not]
    rcases List.le_total a.cps.toList b.cps.toList with h | h
    · exact .inl (List.not_lt.mpr h)
    · exact .inr (List.not_lt.mpr h)
theorem rise_sort {ns : List Str} (hn : ns.Nodup) : Rise (ns.mergeSort leS) := by
  have nd : (ns.mergeSort leS).Nodup := (List.mergeSort_perm ns leS).nodup_iff.mpr hn
  refine ((leS_sorted ns).and nd).imp fun {a b} ⟨p, q⟩ => ?_
  unfold leS at p
  simp only [Bool.not_eq_true', decide_eq_false_iff_not] at p
  by_cases h : a.cps.toList < b.cps.toList
  · exact h
  · exact absurd (str_ext (List.le_antisymm (List.not_lt.mp p) (List.not_lt.mp h))) q
end PM

namespace PM
open PySem PySem.Spec PyProof.Rows L2 LB
/-! ### cuts, among data -/
def nmD : PyData → PyData
  | .tuple (x :: _) => x
  | _ => .none
theorem nmD_all {top : Int} : ∀ {ns : List Str} {ps : List PyData}, PySem.W.EachIs (PlaceOk top) ns ps → ps.map nmD = ns.map .str
  | _, _, .nil => rfl
  | _, _, .cons ⟨a, b, c, e, h, _⟩ t => by
    subst h
    rw [List.map_cons, List.map_cons, nmD_all t]
    rfl
theorem nmD_at {top : Int} : ∀ {ns : List Str} {ps : List PyData}, PySem.W.EachIs (PlaceOk top) ns ps → ∀ d ∈ ps, ∃ (x : Str) (a b c e : Int), x ∈ ns ∧ d = .tuple [.str x, .int a, .int b, .int c, .int e] ∧ (0 ≤ a ∧ a < 100) ∧ (0 ≤ b ∧ b < 100) ∧ (0 ≤ e ∧ e < 100) ∧ e * top ≤ c ∧ c ≤ 999
  | _, _, .nil, d, h => (List.not_mem_nil h).elim
  | _, _, .cons ⟨a, b, c, e, h, h1⟩ t, d, hd => by
    rcases List.mem_cons.mp hd with z | hd
    · exact ⟨_, a, b, c, e, List.mem_cons_self, z.trans h, h1⟩
    · obtain ⟨x, a, b, c, e, hx, h⟩ := nmD_at t d hd
      exact ⟨x, a, b, c, e, List.mem_cons_of_mem _ hx, h⟩
def riseB : List Str → Bool
  | a :: b :: r => decide (a.cps.toList < b.cps.toList) && riseB (b :: r)
  | _ => true
def ltD : PyData → Bool
  | .tuple [.str a, .str b] => decide (a.cps.toList < b.cps.toList)
  | _ => false
theorem rise_zip : ∀ xs : List Str, (zipD (xs.map .str) ((xs.map PyData.str).drop 1)).all ltD = riseB xs
  | [] => rfl
  | [_] => rfl
  | a :: b :: r => by
    have ih := rise_zip (b :: r)
    unfold riseB
    rw [← ih]
    rfl
theorem cut_tail (l : List PyData) : LB.cutD l (some 1) none = l.drop 1 := by
  unfold LB.cutD
  have e : HT.sIx l.length 0 (some 1) = min 1 l.length := HT.sIx_nat l.length 0 1
  rw [e, show HT.sIx l.length l.length none = l.length from rfl]
  cases l with
  | nil => rfl
  | cons a l =>
    rw [show min 1 (a :: l).length = 1 by simp]
    simp
theorem zip_strs {xs : List Str} {d : PyData} (h : d ∈ zipD (xs.map .str) ((xs.map PyData.str).drop 1)) : ∃ a b : Str, d = .tuple [.str a, .str b] := by
  unfold zipD at h
  obtain ⟨⟨p, q⟩, hp, rfl⟩ := List.mem_map.mp h
  obtain ⟨a, _, rfl⟩ := List.mem_map.mp (List.of_mem_zip hp).1
  obtain ⟨b, _, rfl⟩ := List.mem_map.mp (List.mem_of_mem_drop (List.of_mem_zip hp).2)
  exact ⟨a, b, rfl⟩
/-- a text that is one of ns -/
def inN (ns : List Str) : PyData → Bool
  | .str x => decide (x ∈ ns)
  | _ => false
def txs : List PyData → List Str
  | .str x :: r => x :: txs r
  | _ :: r => txs r
  | [] => []
theorem strs_all {ns : List Str} : ∀ {es : List PyData}, es.all (inN ns) = true → es = (txs es).map .str ∧ ∀ x ∈ txs es, x ∈ ns
  | [], _ => ⟨rfl, fun x h => (List.not_mem_nil h).elim⟩
  | e :: es, h => by
    rw [List.all_cons, Bool.and_eq_true] at h
    obtain ⟨h1, h2⟩ := strs_all h.2
    cases e with
    | str x =>
      refine ⟨?_, fun y hy => ?_⟩
      · show _ = PyData.str x :: (txs es).map .str
        rw [← h1]
      · rcases List.mem_cons.mp (show y ∈ x :: txs es from hy) with rfl | hy
        · exact of_decide_eq_true h.1
        · exact h2 y hy
    | _ => exact absurd h.1 (by simp [inN])
def cutB (ns : List Str) : PyData → Bool
  | .tuple es => es.all (inN ns) && riseB (txs es)
  | _ => false
theorem eqv_str (a b : Str) : PyData.eqv (.str a) (.str b) = (a == b) := by
  first
    | rfl
    | (unfold PyData.eqv; rfl)
theorem any_str {ns : List Str} {x : Str} : ((ns.map PyData.str).any fun z => PyData.eqv z (.str x)) = decide (x ∈ ns) := by
  induction ns with
  | nil => simp
  | cons a ns ih =>
    rw [List.map_cons, List.any_cons, ih, eqv_str]
    by_cases z : a = x
    · subst z
      rw [beq_self_eq_true, Bool.true_or, decide_eq_true List.mem_cons_self]
    · rw [beq_eq_false_iff_ne.mpr z, Bool.false_or]
      exact decide_eq_decide.mpr ⟨List.mem_cons_of_mem _, fun h => (List.mem_cons.mp h).resolve_left fun w => z w.symm⟩
theorem fl_strs (ns : List Str) : (ns.map PyData.str).all flD = true := by
  rw [List.all_eq_true]
  intro d hd
  obtain ⟨x, _, rfl⟩ := List.mem_map.mp hd
  rfl
theorem in_strs {ns : List Str} {x : Str} {c : PyData} (hc : itemsD c = some (ns.map .str)) : oIn (.str x) c = some (.bool (decide (x ∈ ns))) := by
  unfold oIn
  rw [hc]
  show (if flD (.str x) = true ∧ (ns.map PyData.str).all flD = true then _ else none) = _
  rw [if_pos ⟨rfl, fl_strs ns⟩, any_str]
theorem nin_strs {ns : List Str} {x : Str} {c : PyData} (hc : itemsD c = some (ns.map .str)) : oNin (.str x) c = some (.bool (!decide (x ∈ ns))) := by
  unfold oNin
  rw [hc]
  show (if flD (.str x) = true ∧ (ns.map PyData.str).all flD = true then _ else none) = _
  rw [if_pos ⟨rfl, fl_strs ns⟩, any_str]
theorem index_strs {ns : List Str} (nd : ns.Nodup) {i : Nat} (hi : i < ns.length) : oIndex (.list (ns.map .str)) (.str ns[i]) = some (.int (i : Int)) := by
  show (if flD (.str ns[i]) = true ∧ (ns.map PyData.str).all flD = true then _ else none) = _
  rw [if_pos ⟨rfl, fl_strs ns⟩]
  have e : (ns.map PyData.str).findIdx? (fun z => PyData.eqv z (.str ns[i])) = some i := by
    rw [List.findIdx?_eq_some_iff_getElem]
    refine ⟨by simpa using hi, ?_, fun j hj => ?_⟩
    · rw [List.getElem_map, eqv_str]
      exact beq_self_eq_true _
    · rw [List.getElem_map, eqv_str]
      have hjl : j < ns.length := by omega
      have : ns[j] ≠ ns[i] := fun z => by
        have := (List.getElem_inj nd).mp z
        omega
      simpa using this
  rw [e]
  rfl
theorem rise_nodup {ns : List Str} (h : Rise ns) : ns.Nodup := List.nodup_iff_pairwise_ne.mpr (h.imp fun h e => by
  rw [e] at h
  exact absurd h (List.lt_irrefl _))
theorem rise_lt {ns : List Str} (h : Rise ns) {i j : Nat} (hi : i < ns.length) (hj : j < ns.length) : ns[i].cps.toList < ns[j].cps.toList ↔ i < j := by
  have hp := List.pairwise_iff_getElem.mp h
  constructor
  · intro z
    rcases Nat.lt_trichotomy i j with k | k | k
    · exact k
    · subst k
      exact absurd z (List.lt_irrefl _)
    · exact absurd (hp j i hj hi k) (List.lt_asymm z)
  · exact fun k => hp i j hi hj k
/-- the law's own walk over a thing -/
def goB (ns : List Str) : Int → List PyData → Bool
  | _, [] => true
  | a, e :: es => match e with
    | .str x => if x ∈ ns ∧ a < ((ns.idxOf x : Nat) : Int) then goB ns ((ns.idxOf x : Nat) : Int) es else false
    | _ => false
theorem idx_at {ns : List Str} (nd : ns.Nodup) {i : Nat} (hi : i < ns.length) : ns.idxOf ns[i] = i := by
  have h1 : ns.idxOf ns[i] < ns.length := List.idxOf_lt_length_of_mem (List.getElem_mem hi)
  have h2 : ns[ns.idxOf ns[i]] = ns[i] := List.getElem_idxOf h1
  exact (List.getElem_inj nd).mp h2
theorem goB_eq {ns : List Str} (h : Rise ns) : ∀ (es : List PyData) (p : Nat) (hp : p < ns.length), goB ns (p : Int) es = (es.all (inN ns) && riseB (ns[p] :: txs es))
  | [], p, hp => rfl
  | e :: es, p, hp => by
    cases e with
    | str x =>
      by_cases hx : x ∈ ns
      · obtain ⟨i, hi, rfl⟩ := List.mem_iff_getElem.mp hx
        show (if ns[i] ∈ ns ∧ (p : Int) < ((ns.idxOf ns[i] : Nat) : Int) then goB ns ((ns.idxOf ns[i] : Nat) : Int) es else false) = _
        rw [idx_at (rise_nodup h) hi, List.all_cons, show inN ns (.str ns[i]) = true from decide_eq_true hx, Bool.true_and]
        show _ = (es.all (inN ns) && (decide (ns[p].cps.toList < ns[i].cps.toList) && riseB (ns[i] :: txs es)))
        by_cases hlt : p < i
        · rw [if_pos ⟨hx, by omega⟩, goB_eq h es i hi, decide_eq_true ((rise_lt h hp hi).mpr hlt), Bool.true_and]
        · rw [if_neg (by omega), decide_eq_false (fun z => hlt ((rise_lt h hp hi).mp z))]
          simp
      · show (if x ∈ ns ∧ _ then _ else false) = _
        rw [if_neg fun z => hx z.1, List.all_cons, show inN ns (.str x) = false from decide_eq_false hx]
        rfl
    | _ =>
      show false = _
      rw [List.all_cons]
      simp [inN]
theorem goB_start {ns : List Str} (h : Rise ns) (es : List PyData) : goB ns (-1) es = (es.all (inN ns) && riseB (txs es)) := by
  cases es with
  | nil => rfl
  | cons e es =>
    cases e with
    | str x =>
      by_cases hx : x ∈ ns
      · obtain ⟨i, hi, rfl⟩ := List.mem_iff_getElem.mp hx
        show (if ns[i] ∈ ns ∧ (-1 : Int) < ((ns.idxOf ns[i] : Nat) : Int) then goB ns ((ns.idxOf ns[i] : Nat) : Int) es else false) = _
        rw [if_pos ⟨hx, by omega⟩, idx_at (rise_nodup h) hi, goB_eq h es i hi, List.all_cons, show inN ns (.str ns[i]) = true from decide_eq_true hx, Bool.true_and]
        rfl
      · show (if x ∈ ns ∧ _ then _ else false) = _
        rw [if_neg fun z => hx z.1, List.all_cons, show inN ns (.str x) = false from decide_eq_false hx]
        rfl
    | _ =>
      show false = _
      rw [List.all_cons]
      simp [inN]
/-! all cuts -/
def tupS (xs : List Str) : PyData := .tuple (xs.map .str)
def cutsF (ns : List Str) : List (List Str) := ns.foldl (fun C n => C ++ C.map fun c => c ++ [n]) [[]]
theorem cutsF_snoc (l : List Str) (n : Str) : cutsF (l ++ [n]) = cutsF l ++ (cutsF l).map fun c => c ++ [n] := by
  unfold cutsF
  rw [List.foldl_append]
  rfl
def pick (ns : List Str) (m : Nat) : List Str := ((List.range ns.length).filter fun k => decide (m / 2 ^ k % 2 = 1)).map fun k => ns.getD k Str.empty
theorem snoc_ind {α : Type} {P : List α → Prop} (h0 : P []) (hs : ∀ l a, P l → P (l ++ [a])) (l : List α) : P l := by
  have : ∀ r : List α, P r.reverse := fun r => by
    induction r with
    | nil => exact h0
    | cons a r ih =>
      rw [List.reverse_cons]
      exact hs _ _ ih
  have h := this l.reverse
  rw [List.reverse_reverse] at h
  exact h
theorem cutsF_len (ns : List Str) : (cutsF ns).length = 2 ^ ns.length := by
  refine snoc_ind (P := fun l => (cutsF l).length = 2 ^ l.length) rfl (fun l a ih => ?_) ns
  rw [cutsF_snoc, List.length_append, List.length_map, ih, List.length_append]
  show _ = 2 ^ (l.length + 1)
  rw [Nat.pow_succ]
  omega
theorem pick_snoc_low {l : List Str} {a : Str} {m : Nat} (hm : m < 2 ^ l.length) : pick (l ++ [a]) m = pick l m := by
  unfold pick
  rw [List.length_append, show l.length + [a].length = l.length + 1 from rfl, List.range_succ, List.filter_append, List.map_append]
  have e : m / 2 ^ l.length = 0 := Nat.div_eq_of_lt hm
  rw [List.filter_cons_of_neg (by rw [e]; decide)]
  rw [List.filter_nil, List.map_nil, List.append_nil]
  refine List.map_congr_left fun k hk => ?_
  have hk := List.mem_range.mp (List.mem_filter.mp hk).1
  rw [List.getD_eq_getElem?_getD, List.getD_eq_getElem?_getD, List.getElem?_append_left hk]
theorem bit_high {n m k : Nat} (hk : k < n) : (2 ^ n + m) / 2 ^ k % 2 = m / 2 ^ k % 2 := by
  have e : 2 ^ n = 2 ^ k * (2 * 2 ^ (n - k - 1)) := by
    rw [← Nat.mul_assoc, Nat.mul_comm (2 ^ k) 2, ← Nat.pow_succ', ← Nat.pow_add]
    congr 1
    omega
  rw [e, Nat.mul_add_div (Nat.two_pow_pos k)]
  omega
theorem pick_snoc_high {l : List Str} {a : Str} {m : Nat} (hm : m < 2 ^ l.length) : pick (l ++ [a]) (2 ^ l.length + m) = pick l m ++ [a] := by
  unfold pick
  rw [List.length_append, show l.length + [a].length = l.length + 1 from rfl, List.range_succ, List.filter_append, List.map_append]
  have e : (2 ^ l.length + m) / 2 ^ l.length = 1 := by
    rw [Nat.add_comm, Nat.add_div_right _ (Nat.two_pow_pos _), Nat.div_eq_of_lt hm]
  rw [List.filter_cons_of_pos (by rw [e]; decide)]
  congr 1
  · have e2 : ((List.range l.length).filter fun k => decide ((2 ^ l.length + m) / 2 ^ k % 2 = 1)) = (List.range l.length).filter fun k => decide (m / 2 ^ k % 2 = 1) := by
      refine List.filter_congr fun k hk => ?_
      rw [bit_high (List.mem_range.mp hk)]
    rw [e2]
    refine List.map_congr_left fun k hk => ?_
    have hk := List.mem_range.mp (List.mem_filter.mp hk).1
    rw [List.getD_eq_getElem?_getD, List.getD_eq_getElem?_getD, List.getElem?_append_left hk]
  · show [(l ++ [a]).getD l.length Str.empty] = [a]
    rw [List.getD_eq_getElem?_getD, List.getElem?_append_right (Nat.le_refl _)]
    simp
theorem range_add (a b : Nat) : List.range (a + b) = List.range a ++ (List.range b).map fun x => a + x := by
  rw [List.range_add]
theorem picks (ns : List Str) : (List.range (2 ^ ns.length)).map (pick ns) = cutsF ns := by
  refine snoc_ind (P := fun l => (List.range (2 ^ l.length)).map (pick l) = cutsF l) rfl (fun l a ih => ?_) ns
  rw [cutsF_snoc, ← ih, List.length_append, show l.length + [a].length = l.length + 1 from rfl, Nat.pow_succ, Nat.mul_two, range_add, List.map_append, List.map_map, List.map_map]
  congr 1
  · exact List.map_congr_left fun m hm => pick_snoc_low (List.mem_range.mp hm)
  · exact List.map_congr_left fun m hm => pick_snoc_high (List.mem_range.mp hm)
theorem cutsF_mem {ns : List Str} : ∀ c ∈ cutsF ns, ∀ x ∈ c, x ∈ ns := by
  refine snoc_ind (P := fun l => ∀ c ∈ cutsF l, ∀ x ∈ c, x ∈ l) (fun c hc x hx => ?_) (fun l a ih c hc x hx => ?_) ns
  · rw [List.mem_singleton.mp (show c ∈ [[]] from hc)] at hx
    exact hx
  · rw [cutsF_snoc] at hc
    rcases List.mem_append.mp hc with hc | hc
    · exact List.mem_append_left _ (ih c hc x hx)
    · obtain ⟨c', hc', rfl⟩ := List.mem_map.mp hc
      rcases List.mem_append.mp hx with hx | hx
      · exact List.mem_append_left _ (ih c' hc' x hx)
      · exact List.mem_append_right _ hx
theorem cutsF_head (ns : List Str) : ∃ r, cutsF ns = [] :: r := by
  refine snoc_ind (P := fun l => ∃ r, cutsF l = [] :: r) ⟨[], rfl⟩ (fun l a ih => ?_) ns
  obtain ⟨r, e⟩ := ih
  rw [cutsF_snoc, e]
  exact ⟨_, rfl⟩
theorem alike_strs : ∀ xs ys : List Str, PySem.W.alikeAll (xs.map .str) (ys.map .str) = true
  | [], _ => by
    rw [List.map_nil]
    unfold PySem.W.alikeAll
    rfl
  | x :: xs, [] => by
    rw [List.map_cons, List.map_nil]
    unfold PySem.W.alikeAll
    rfl
  | x :: xs, y :: ys => by
    rw [List.map_cons, List.map_cons]
    unfold PySem.W.alikeAll
    rw [alike_strs xs ys, Bool.and_true]
    unfold PySem.W.alike
    rfl
theorem depth_strs : ∀ xs : List Str, PyData.depthAll (xs.map .str) = 0
  | [] => by
    rw [List.map_nil]
    unfold PyData.depthAll
    rfl
  | x :: xs => by
    rw [List.map_cons]
    unfold PyData.depthAll
    rw [depth_strs xs]
    unfold PyData.depth
    rfl
theorem srt_cuts {ns : List Str} (h : ns.length ≤ 8) : Srt ((cutsF ns).map tupS) := by
  refine ⟨fun d hd d' hd' => ?_, .inr ?_, fun d hd => ?_, ?_⟩
  · obtain ⟨x, _, rfl⟩ := List.mem_map.mp hd
    obtain ⟨y, _, rfl⟩ := List.mem_map.mp hd'
    unfold tupS PySem.W.alike
    exact alike_strs x y
  · obtain ⟨r, e⟩ := cutsF_head ns
    refine ⟨r.map tupS, by rw [e]; rfl, fun d hd => ?_⟩
    obtain ⟨x, _, rfl⟩ := List.mem_map.mp hd
    exact ⟨_, rfl⟩
  · obtain ⟨x, _, rfl⟩ := List.mem_map.mp hd
    unfold tupS PyData.depth
    rw [depth_strs]
    omega
  · rw [List.length_map, cutsF_len]
    have : 2 ^ ns.length ≤ 2 ^ 8 := Nat.pow_le_pow_right (by decide) h
    omega
/-- data that == takes -/
theorem lay_strs : ∀ {xs : List Str}, (∀ x ∈ xs, PyData.strOk x = true) → PyData.canLayAll0 (xs.map .str) = true
  | [], _ => by
    rw [List.map_nil]
    unfold PyData.canLayAll0
    rfl
  | x :: xs, h => by
    rw [List.map_cons]
    unfold PyData.canLayAll0
    rw [lay_strs fun y hy => h y (List.mem_cons_of_mem _ hy), Bool.and_true]
    unfold PyData.canLay0
    exact h x List.mem_cons_self
end PM

namespace PM
open PySem PySem.Spec PyProof.Rows L2 LB
/-- where a law begins -/
theorem start_pr {T : Tb} {K : PySem.W.Frag} {H : Hp} {a : Addr} {xs : List V} (t : LamX.Tabs T H) (h : SqL K H a xs) : ∃ P : Pr T, P.H = H ∧ SqL K P.M a xs := by
  rcases h with h | h
  · have hn : ∀ ps, H a ≠ some (.tbl ps) := fun ps z => by
      rcases h with h | ⟨o, h⟩
      · rw [z] at h
        cases h
      · rw [z] at h
        cases h
    refine ⟨⟨fun b => if b = a then H a else none, H, fun b u e _ => ?_, t, fun b ps z => ?_⟩, rfl, .inl ?_⟩
    · have e : (if b = a then H a else none) = some u := e
      by_cases q : b = a
      · rw [if_pos q] at e
        rw [q]
        exact e
      · rw [if_neg q] at e
        cases e
    · have z : (if b = a then H a else none) = some (.tbl ps) := z
      by_cases q : b = a
      · rw [if_pos q] at z
        exact hn ps z
      · rw [if_neg q] at z
        cases z
    · rcases h with h | ⟨o, h⟩
      · exact .inl (by show (if a = a then H a else none) = _; rw [if_pos rfl]; exact h)
      · exact .inr ⟨o, by show (if a = a then H a else none) = _; rw [if_pos rfl]; exact h⟩
  · exact ⟨⟨fun _ => none, H, fun b u e _ => (nomatch e), t, fun b ps z => (nomatch z)⟩, rfl, .inr h⟩
end PM

namespace PM
open PySem PySem.Spec PyProof.Rows L2 LB
variable {T : Tb} {K : PySem.W.Frag} {X : Cx} {e : Expr} {st : Stmt} {sts : List Stmt} {R : ER}
/-! ### what is never reached -/
def mNo : MS := fun _ => none
theorem s_no : PS X st (tSR K T R mNo) := ⟨fun _ _ _ _ _ _ ⟨_, _, _, _, _, _, h, _⟩ => nomatch h⟩
/-! ### x op= y, of ints -/
def oIadd := oI (fun _ _ => true) fun i j => .int (i + j)
theorem od_iadd : OpD K T (ipI fun i j => i + j) oIadd := od_I0 fun _ _ _ => .int _
theorem od_isub : OpD K T (ipI fun i j => i - j) oSub := od_I0 fun _ _ _ => .int _
def mAug (i : Nat) (f : PyData → PyData → Option PyData) (a : ME) : MS := fun ρ => match ρ[i]? with
  | some (.val x) => (a ρ).bind fun y => (f x y).map fun z => .nx (ρ.set i (.val z))
  | _ => none
theorem s_aug {i : Nat} {r : R2} {f : PyData → PyData → Option PyData} {a : ME} (hD : OpD K T r f) (h : PS X st (tAug i (tW K T a) r)) : PS X st (tSR K T R (mAug i f a)) := ps_to h fun D σ H ⟨P0, P, ρ, o, h1, s, h2, q⟩ => by
  subst h1
  unfold mAug at h2
  split at h2
  · rename_i x hx
    obtain ⟨y, ey, h3⟩ := bind_eq h2
    obtain ⟨z, ez, rfl⟩ := map_eq h3
    obtain ⟨u, g1, g2⟩ := s.ok i _ hx
    cases g2 with
    | @val v _ rv => exact ⟨v, g1, P0, P, ρ, y, rfl, s, ey, fun w P1 l1 r1 => hD P1 v w x y z (.inl (rv.ext l1.m)) r1 ez _ fun u P2 l2 r2 => q P2 _ ((s.up (l1.trans l2)).set r2 i)⟩
  · cases h2
/-! ### while -/
def whGo (mc : MT) (mb : MS) : Nat → Ev → Option Out
  | 0, _ => none
  | n + 1, ρ => (mc ρ).bind fun c => if c = true then (mb ρ).bind fun o => match o with
    | .nx ρ2 => whGo mc mb n ρ2
    | .ct ρ2 => whGo mc mb n ρ2
    | .bk ρ2 => some (.nx ρ2)
    | .rt d => some (.rt d)
    | .rf d => some (.rf d)
    | .er c ρ2 => some (.er c ρ2) else some (.nx ρ)
open Classical in
noncomputable def mWhile (mc : MT) (mb : MS) : MS := fun ρ => if h : ∃ n o, whGo mc mb n ρ = some o then whGo mc mb h.choose ρ else none
theorem mWhile_n {mc : MT} {mb : MS} {ρ : Ev} {o : Out} (h : mWhile mc mb ρ = some o) : ∃ n, whGo mc mb n ρ = some o := by
  unfold mWhile at h
  split at h
  · exact ⟨_, h⟩
  · cases h
theorem s_while {mc : MT} {mb : MS} (h : PS X st (tWhile (tQ K T mc) (tSR K T R mb))) : PS X st (tSR K T R (mWhile mc mb)) := ps_to h fun D σ H ⟨P0, P, ρ, o, h1, s, h2, q⟩ => by
  subst h1
  obtain ⟨n, hn⟩ := mWhile_n h2
  refine ⟨fun m σ' H' => ∃ (Pc : Pr T) (ρ' : Ev), Pc.H = H' ∧ St K P0 Pc σ' ρ' ∧ whGo mc mb m ρ' = some o, ⟨n, P, ρ, rfl, s, hn⟩, ?_⟩
  rintro m σ' H' ⟨Pc, ρ', rfl, sc, eg⟩
  cases m with
  | zero => cases eg
  | succ m =>
    obtain ⟨c, ec, eg⟩ := bind_eq eg
    refine ⟨P0, Pc, ρ', c, rfl, sc, ec, fun P1 l1 => ?_⟩
    cases c with
    | false =>
      have : o = .nx ρ' := (Option.some.inj eg).symm
      subst this
      exact iteF (q P1 σ' (sc.up l1))
    | true =>
      rw [if_pos rfl] at eg
      obtain ⟨o1, eo, eg⟩ := bind_eq eg
      refine iteT ⟨fun σ2 H2 => ∃ (Pc : Pr T) (ρ' : Ev), Pc.H = H2 ∧ St K P0 Pc σ2 ρ' ∧ whGo mc mb m ρ' = some o, fun σ2 H2 hh => ⟨m, Nat.lt_succ_self m, hh⟩, P0, P1, ρ', o1, rfl, sc.up l1, eo, ?_⟩
      cases o1 with
      | nx ρ2 => exact fun P' σ3 s3 => ⟨P', ρ2, rfl, s3, eg⟩
      | ct ρ2 => exact fun P' σ3 s3 => ⟨P', ρ2, rfl, s3, eg⟩
      | bk ρ2 =>
        cases eg
        exact q
      | rt d =>
        cases eg
        exact q
      | rf d =>
        cases eg
        exact q
      | er c ρ2 =>
        cases eg
        exact q
theorem wh_more {mc : MT} {mb : MS} : ∀ (n : Nat) (ρ : Ev) (o : Out), whGo mc mb n ρ = some o → whGo mc mb (n + 1) ρ = some o
  | 0, _, _, h => nomatch h
  | n + 1, ρ, o, h => by
    obtain ⟨c, ec, h⟩ := bind_eq h
    show (mc ρ).bind _ = _
    rw [ec]
    cases c with
    | false => exact h
    | true =>
      rw [if_pos rfl] at h
      obtain ⟨o1, eo, h⟩ := bind_eq h
      show (mb ρ).bind _ = _
      rw [eo]
      cases o1 with
      | nx ρ2 => exact wh_more n ρ2 o h
      | ct ρ2 => exact wh_more n ρ2 o h
      | bk ρ2 => exact h
      | rt d => exact h
      | rf d => exact h
      | er c ρ2 => exact h
theorem wh_mono {mc : MT} {mb : MS} {n : Nat} {ρ : Ev} {o : Out} (h : whGo mc mb n ρ = some o) : ∀ k, whGo mc mb (n + k) ρ = some o
  | 0 => h
  | k + 1 => wh_more _ _ _ (wh_mono h k)
theorem x_while {mc : MT} {mb : MS} {n : Nat} {ρ : Ev} {o : Out} (h : whGo mc mb n ρ = some o) : mWhile mc mb ρ = some o := by
  have hh : ∃ n o, whGo mc mb n ρ = some o := ⟨n, o, h⟩
  unfold mWhile
  rw [dif_pos hh]
  obtain ⟨o', h'⟩ := hh.choose_spec
  have h1 := wh_mono h hh.choose
  have h2 := wh_mono h' n
  rw [Nat.add_comm] at h2
  rw [h1] at h2
  rw [h']
  exact h2.symm
theorem wh_stop {mc : MT} {mb : MS} {n : Nat} {ρ : Ev} (h : mc ρ = some false) : whGo mc mb (n + 1) ρ = some (.nx ρ) := by
  show (mc ρ).bind _ = _
  rw [h]
  rfl
theorem wh_step {mc : MT} {mb : MS} {n : Nat} {ρ ρ' : Ev} {o : Option Out} (h : mc ρ = some true) (h2 : mb ρ = some (.nx ρ')) (h3 : whGo mc mb n ρ' = o) : whGo mc mb (n + 1) ρ = o := by
  show (mc ρ).bind _ = _
  rw [h]
  show (mb ρ).bind _ = _
  rw [h2]
  exact h3
theorem x_aug {i : Nat} {f : PyData → PyData → Option PyData} {a : ME} {ρ : Ev} {x y z : PyData} (h : ρ[i]? = some (.val x)) (h2 : a ρ = some y) (h3 : f x y = some z) : mAug i f a ρ = some (.nx (ρ.set i (.val z))) := by
  unfold mAug
  rw [h]
  show (a ρ).bind _ = _
  rw [h2]
  show (f x y).map _ = _
  rw [h3]
  rfl
end PM
namespace PM
open PySem PySem.Spec PyProof.Rows L2 LB
section
variable {T : Tb} {K : PySem.W.Frag} {X : Cx} {e : Expr}
/-! ### list(range(n)), l[::-1] -/
def oLrg : PyData → Option PyData
  | .int n => if 0 ≤ n ∧ n ≤ 100000 then some (.list (rngD n.toNat)) else none
  | _ => none
theorem rp_rng {M : Hp} (n : Nat) : RpAll K M ((List.range n).map fun i => V.int (0 + (i : Nat))) (rngD n) := by
  unfold rngD
  induction List.range n with
  | nil => exact .nil
  | cons i l ih =>
    rw [List.map_cons, List.map_cons, Int.zero_add]
    exact .cons (.int _) ih
theorem c_lrg {a : ME} (h : PE X e (tLstRg (tRg1 (tD K T a)))) : PE X e (tF K T (mUn oLrg a)) := pe_to h fun σ H Q ⟨P0, P, ρ, d, h1, s, h2, q⟩ => by
  subst h1
  obtain ⟨x, ex, h3⟩ := bind_eq h2
  unfold oLrg at h3
  split at h3
  · split at h3
    · cases h3
      rename_i n hh
      refine ⟨P0, P, ρ, _, rfl, s, ex, fun v P1 l1 r1 => ?_⟩
      cases r1
      refine ⟨n, rfl, RgOk.of_le (by decide) (by omega) (by decide) hh.1, fun p hp => ?_⟩
      refine q p (P1.hid p (.lst (rgV 0 n)) hp) (l1.trans (le_hid P1 hp)) (.lst (P1.none hp) upd_same ?_) (loose_back l1.h (loose_none hp))
      unfold rgV
      rw [Int.sub_zero]
      exact rp_rng _
    · cases h3
  · cases h3
theorem mLrg_is {a : ME} (ρ : Ev) (d : PyData) (h : mUn oLrg a ρ = some d) : isLst d = true := by
  obtain ⟨x, _, h⟩ := bind_eq h
  unfold oLrg at h
  split at h
  · split at h
    · cases h
      rfl
    · cases h
  · cases h
def oRevL : PyData → Option PyData
  | .list xs => some (.list xs.reverse)
  | _ => none
theorem c_revL {a : ME} (h : PE X e (tRevL K (tW K T a))) : PE X e (tD K T (mUn oRevL a)) := pe_to h fun σ H Q ⟨P0, P, ρ, d, h1, s, h2, q⟩ => by
  subst h1
  obtain ⟨x, ex, h3⟩ := bind_eq h2
  refine ⟨P0, P, ρ, x, rfl, s, ex, fun v P1 l1 r1 => ?_⟩
  unfold oRevL at h3
  split at h3
  · cases h3
    obtain ⟨p, xs, rfl, hs, r⟩ := r1.list
    exact ⟨p, xs, rfl, hs, fun p' hp => q _ (P1.put p' (.lst xs.reverse) hp) (l1.trans (le_put P1 hp)) (.lst (SqL.of upd_same) ((RpAll.reverse r).ext (le_put P1 hp).m))⟩
  · cases h3
end
end PM

namespace PM
open PySem PySem.Spec PyProof.Rows L2 LB
section
variable {T : Tb} {K : PySem.W.Frag} {X : Cx} {e : Expr} {st : Stmt} {sts : List Stmt} {R : ER}
/-! ### what may be refused -/
abbrev Rs := Except Str PyData
abbrev MX := Ev → Option Rs
def ResK (K : PySem.W.Frag) (R : ER) (P : Pr T) (σ : L2.St) (Q : VK) : Rs → Prop
  | .ok d => ∀ v (P' : Pr T), Le P P' → Rp K P'.M v d → Q v P'.H
  | .error c => ∀ (P' : Pr T), Le P P' → R c σ P'.H
def tDX (K : PySem.W.Frag) (T : Tb) (R : ER) (m : MX) : TE := fun σ H Q => ∃ (P0 P : Pr T) (ρ : Ev) (r : Rs), P.H = H ∧ St K P0 P σ ρ ∧ m ρ = some r ∧ ResK K R P σ Q r
/-- a def that may refuse -/
def spX (K : PySem.W.Frag) (T : Tb) (f : List PyData → Option Rs) : Sp := fun vs H Q E => ∃ (P : Pr T) (ds : List PyData) (r : Rs), P.H = H ∧ RpAll K P.M vs ds ∧ f ds = some r ∧ ResK K (fun c _ H => E (.ref (He.ga K c)) none H) P [] Q r
def erE (K : PySem.W.Frag) (E : XK) : ER := fun c _ H => E (.ref (He.ga K c)) none H
def mCbX (f : List PyData → Option Rs) (a : MA) : MX := fun ρ => (a ρ).bind f
theorem ResK.up {P P1 : Pr T} {σ : L2.St} {Q : VK} {r : Rs} (l : Le P P1) (h : ResK K R P σ Q r) : ResK K R P1 σ Q r := by
  cases r with
  | ok d => exact fun v P' l' r' => h v P' (l.trans l') r'
  | error c => exact fun P' l' => h P' (l.trans l')
theorem c_callX {E : XK} {f : List PyData → Option Rs} {a : MA} (h : PE X e (tCall (spX K T f) [] E (tA K T a))) : PE X e (tDX K T (erE K E) (mCbX f a)) := pe_to h fun σ H Q ⟨P0, P, ρ, r, h1, s, h2, q⟩ => by
  subst h1
  obtain ⟨x, ex, h3⟩ := bind_eq h2
  refine ⟨P0, P, ρ, x, rfl, s, ex, fun vs P1 l1 r1 => ?_⟩
  show spX K T f (vs ++ []) P1.H Q E
  rw [List.append_nil]
  refine ⟨P1, x, r, rfl, r1, h3, ?_⟩
  have q1 := q.up l1
  cases r with
  | ok d => exact q1
  | error c => exact q1
def mDropX (a : MX) : MS := fun ρ => (a ρ).map fun r => match r with
  | .ok _ => .nx ρ
  | .error c => .er c ρ
def mRetX (a : MX) : MS := fun ρ => (a ρ).map fun r => match r with
  | .ok d => .rt d
  | .error c => .er c ρ
def mSetX (i : Nat) (a : MX) : MS := fun ρ => (a ρ).map fun r => match r with
  | .ok d => .nx (ρ.set i (.val d))
  | .error c => .er c ρ
def mAsgX (a : MX) (gm : MG) : MS := fun ρ => (a ρ).bind fun r => match r with
  | .ok d => (gm d ρ).map .nx
  | .error c => some (.er c ρ)
theorem s_dropX {a : MX} (h : PS X st (tDrop (tDX K T R a))) : PS X st (tSR K T R (mDropX a)) := ps_to h fun D σ H ⟨P0, P, ρ, o, h1, s, h2, q⟩ => by
  obtain ⟨r, e1, rfl⟩ := map_eq h2
  refine ⟨P0, P, ρ, r, h1, s, e1, ?_⟩
  cases r with
  | ok d => exact fun v P' l r => q P' σ (s.up l)
  | error c => exact fun P' l => q P' σ (s.up l)
theorem s_retX {a : MX} (h : PS X st (tRet (tDX K T R a))) : PS X st (tSR K T R (mRetX a)) := ps_to h fun D σ H ⟨P0, P, ρ, o, h1, s, h2, q⟩ => by
  obtain ⟨r, e1, rfl⟩ := map_eq h2
  refine ⟨P0, P, ρ, r, h1, s, e1, ?_⟩
  cases r with
  | ok d => exact fun v P' l r => q v P' (s.le.trans l) r
  | error c => exact fun P' l => q P' σ (s.up l)
theorem s_setX {i : Nat} {a : MX} (h : PS X st (tAsg (tDX K T R a) (gName i))) : PS X st (tSR K T R (mSetX i a)) := ps_to h fun D σ H ⟨P0, P, ρ, o, h1, s, h2, q⟩ => by
  obtain ⟨r, e1, rfl⟩ := map_eq h2
  refine ⟨P0, P, ρ, r, h1, s, e1, ?_⟩
  cases r with
  | ok d => exact fun v P' l r => q P' _ ((s.up l).set r i)
  | error c => exact fun P' l => q P' σ (s.up l)
theorem s_asgX {vs : List Nat} {a : MX} {gm : MG} (h : PS X st (tAsg (tDX K T R a) (tG K T vs gm))) : PS X st (tSR K T R (mAsgX a gm)) := ps_to h fun D σ H ⟨P0, P, ρ, o, h1, s, h2, q⟩ => by
  subst h1
  obtain ⟨r, e1, h3⟩ := bind_eq h2
  refine ⟨P0, P, ρ, r, rfl, s, e1, ?_⟩
  cases r with
  | ok d =>
    obtain ⟨ρ', e2, rfl⟩ := map_eq h3
    exact fun v P' l r => ⟨P0, P', ρ, d, ρ', rfl, s.up l, r, e2, fun σ' s' _ _ => q P' σ' s'⟩
  | error c =>
    cases h3
    exact fun P' l => q P' σ (s.up l)
def mEr (c : Str) : MS := fun ρ => some (.er c ρ)
theorem s_er {E : XK} (c : Str) (h : PS X st (fun _ _ H => E (.ref (He.ga K c)) none H)) : PS X st (tSR K T (erE K E) (mEr c)) := ps_to h fun D σ H ⟨P0, P, ρ, o, h1, s, h2, q⟩ => by
  subst h1
  cases h2
  exact q P σ s
def outX : Out → Option Rs
  | .rt d => some (.ok d)
  | .rf (.list ds) => some (.ok (.list ds))
  | .nx _ => some (.ok .none)
  | .er c _ => some (.error c)
  | _ => none
def fnX (n N : Nat) (m : MS) : List PyData → Option Rs := fun ds => if ds.length = n then (m (evOf n N ds)).bind outX else none
theorem spX_len {n N : Nat} {m : MS} {vs : List V} {H : Hp} {Q : VK} {E : XK} (h : spX K T (fnX n N m) vs H Q E) : vs.length = n := by
  obtain ⟨P, ds, d, _, r, h, _⟩ := h
  unfold fnX at h
  split at h
  · rw [r.length]
    assumption
  · cases h
theorem spX_in {N : List Str} {n : Nat} {m : MS} {vs : List V} {H : Hp} {Q : VK} {E : XK} (h : spX K T (fnX n N.length m) vs H Q E) : tSR K T (erE K E) m { nx := fun _ H' => Q .non H', rt := Q } (L2.start N vs) H := by
  obtain ⟨P, ds, d, rfl, r, h, q⟩ := h
  unfold fnX at h
  split at h
  · rename_i hn
    obtain ⟨o, eo, h⟩ := bind_eq h
    refine ⟨P, P, _, o, rfl, start_st r hn, eo, ?_⟩
    unfold outX at h
    split at h
    · cases h
      exact fun v P' l r' => q v P' l r'
    · cases h
      intro p P' l r' lo
      obtain ⟨P'', e, l'', r''⟩ := own_put l r' lo
      show Q (.ref p) P'.H
      rw [← e]
      exact q _ P'' l'' r''
    · cases h
      exact fun P' σ s => q .non P' s.le .non
    · cases h
      exact fun P' σ s => q P' s.le
    · cases h
  · cases h
/-- x = f(..), where f does not refuse: as before -/
theorem x_mx {f : List PyData → Option Rs} {a : MA} {ρ : Ev} {ds : List PyData} {r : Rs} (h : a ρ = some ds) (h2 : f ds = some r) : mCbX f a ρ = some r := by
  unfold mCbX
  rw [h]
  exact h2
end
end PM

namespace PM
open PySem PySem.Spec PyProof.Rows L2 LB
section
variable {T : Tb} {K : PySem.W.Frag} {X : Cx}
/-! ### try: body, except C as e: a suite that gives one thing for each class -/
def mTry (g : Str → Option PyData) (m : MS) : MS := fun ρ => (m ρ).bind fun o => match o with
  | .er c _ => (g c).map .rt
  | o => some o
/-- what the suite is asked: it gives d -/
def tSu (K : PySem.W.Frag) (T : Tb) (N i : Nat) (a : Addr) (d : PyData) : TS := fun D σ H => ∃ P : Pr T, P.H = H ∧ σ.length = N ∧ σ[i]? = some (some (.ref a)) ∧ ∀ v (P' : Pr T), Le P P' → Rp K P'.M v d → D.rt v P'.H
theorem s_try {x n C : Str} {i : Nat} {body suite : List Stmt} {b₀ : Stmt} {np pos pos' : Pos} {g : Str → Option PyData} {m : MS}
    (hs : X.stack = X.env :: X.outer) (hf : X.env.frame = some X.env.locals) (hN : X.N.Nodup) (hi : X.N[i]? = some n) (hln : X.env.kindOf n = some .local) (hc : Names X x (.ref (He.ga X.K C)))
    (hx : ∀ c d, g c = some d → PySem.W.exmOne X.K (.ref (He.ga X.K c)) (.ref (He.ga X.K C)) = some true)
    (hb : ∀ (E : XK) (pn : List (Addr × Obj)) (xe : Value → Shared → Prop), Passes (L2.CX X.prog X.w) (X.tr pn xe) E → PSs (X.tr pn xe) body (tSR X.K T (erE X.K E) m))
    (hsu : ∀ (a : Addr) (oe : Obj) (c : Str) (d : PyData) (pn : List (Addr × Obj)), g c = some d → Zc (.ref (He.ga X.K c)) none oe → (∃ vs, oe.data = .fields vs) → PSs (X.suite a ((a, oe) :: pn)) (b₀ :: suite) (tSu X.K T X.N.length i a d)) :
    PS X (.Try body [.ExceptHandler (some (.Name x np)) (some n) (b₀ :: suite) pos'] [] [] pos) (tS X.K T (mTry g m)) := by
  refine ps_to (ps_try_as (i := i) (c := .ref (He.ga X.K C))
    (tb := fun W => tSR X.K T (erE X.K (fun cls d H => ∀ σ' : L2.St, σ'.length = X.N.length → W cls d σ' H)) m)
    (ts := fun a cls d' D σ H => ∃ c d, cls = .ref (He.ga X.K c) ∧ d' = none ∧ g c = some d ∧ tSu X.K T X.N.length i a d D σ H)
    (Wout := fun _ _ _ _ => False) hs hf hN hi hln hc LamX.takes0 (fun W pn xe tk _ => hb _ pn xe (passes_call (takes_len tk) fun _ _ _ _ h => h _)) (fun a oe cls d' pn hz hfl => ⟨fun pins s σ H D I h => ?_⟩)) ?_
  · obtain ⟨c, d, rfl, rfl, hg, h⟩ := h
    exact (hsu a oe c d pn hg hz hfl).run pins s σ H D I h
  · intro D σ H ⟨P0, P, ρ, o, h1, s, h2, q⟩
    obtain ⟨o1, e1, h3⟩ := bind_eq h2
    refine ⟨P0, P, ρ, o1, h1, s, e1, ?_⟩
    cases o1 with
    | er c ρ2 =>
      obtain ⟨d, hg, rfl⟩ := map_eq h3
      intro P' _ sl σ' hl
      have l := sl.le
      refine ⟨true, hx c d hg, fun _ a _ => ⟨c, d, rfl, rfl, hg, P', rfl, ?_, ?_, ?_⟩, fun z => nomatch z⟩
      · rw [List.length_set]
        exact hl
      · have : i < σ'.length := by
          rw [hl]
          exact (List.getElem?_eq_some_iff.mp hi).1
        rw [List.getElem?_set_self this]
      · exact fun v P'' l' r => q v P'' (l.trans l') r
    | nx => cases h3; exact q
    | rt => cases h3; exact q
    | rf => cases h3; exact q
    | bk => cases h3; exact q
    | ct => cases h3; exact q
end
end PM
namespace PM
open PySem PySem.Spec PyProof.Rows L2 LB
def g1 (c0 : Str) (d0 : PyData) : Str → Option PyData := fun c => if c = c0 then some d0 else none
theorem g1_is {c0 c : Str} {d0 d : PyData} (h : g1 c0 d0 c = some d) : c = c0 ∧ d = d0 := by
  unfold g1 at h
  split at h
  · cases h
    exact ⟨by assumption, rfl⟩
  · cases h
end PM
namespace PM
open PySem PySem.Spec PyProof.Rows L2 LB
section
variable {T : Tb} {K : PySem.W.Frag} {X : Cx} {st : Stmt} {R : ER}
theorem St.nw {P0 P : Pr T} {σ : L2.St} {ρ : Ev} (s : St K P0 P σ ρ) {p : Addr} (hp : P.H p = none) (i : Nat) : St K P0 (P.hid p (.lst []) hp) (σ.set i (some (.ref p))) (ρ.set i (.own (.list []))) := by
  refine (s.up (le_hid P hp)).setO (.lst (P.none hp) upd_same .nil) (loose_back s.le.h (loose_none hp)) i fun j e' q' h1 h2 z => ?_
  obtain ⟨u, g1, g2⟩ := s.ok j _ h1
  rw [h2] at g1
  cases g1
  cases g2 with
  | own r' =>
    subst z
    exact r'.tight (loose_none hp)
/-- x, y = [], []: two lists of one's own -/
def mParO (i j : Nat) : MS := fun ρ => some (.nx ((ρ.set i (.own (.list []))).set j (.own (.list []))))
theorem s_parO {i j : Nat} (h : PS X st (tPar i j (tCons (tLst tNil) (tCons (tLst tNil) tNil)))) : PS X st (tSR K T R (mParO i j)) := ps_to h fun D σ H ⟨P0, P, ρ, o, h1, s, h2, q⟩ => by
  subst h1
  cases h2
  refine ⟨by show 0 ≤ sizeLine; decide, fun p1 hp1 => ⟨by show 0 ≤ sizeLine; decide, fun p2 hp2 => ?_⟩⟩
  refine ⟨_, _, rfl, ?_⟩
  exact q ((P.hid p1 (.lst []) hp1).hid p2 (.lst []) hp2) _ ((s.nw hp1 i).nw hp2 j)
end
end PM

namespace PM
open PySem PySem.Spec PyProof.Rows L2 LB
section
variable {T : Tb} {K : PySem.W.Frag} {X : Cx} {e : Expr} {st : Stmt} {sts : List Stmt} {R : ER}
/-! ### calls within a try: what is raised is told with the slots -/
def erW (K : PySem.W.Frag) (W : WX) : ER := fun c σ H => W (.ref (He.ga K c)) none σ H
theorem pe_ownS {k j : Nat} {x : Str} {ps : List Str} {sp : Sp} {W : WX} {e : Expr} {es : List Expr} {t : TA} {p pos : Pos} (F : OwnFn X.prog X.w X.K X.mg X.base k x ps sp) (hr : Room j X.A) (tk : Takes X W) (ha : PA X (e :: es) t)
    (hk : k ≤ j := by decide) (hg : Gl X x := by rfl) (hdb : (x == ("__debug__" : Str)) = false := by decide) (he : starEach (e :: es) X.env = (false, eval e X.env) :: starEach es X.env := by rfl) (hpl : (backTo pos (starEach es X.env)).any (·.1) = false := by rfl) :
    PE X (.Call (.Name x p) (e :: es) [] pos) (tCallS sp (WE W) t) := by
  obtain ⟨f, fd, G, hm, kp, b, _⟩ := F.fn
  exact pe_callS G (hr.mono hk) hg hm kp b (fun σ => passAt tk σ) ha hdb he hpl
theorem c_callW {W : WX} {f : List PyData → Option Rs} {a : MA} (h : PE X e (tCallS (spX K T f) (WE W) (tA K T a))) : PE X e (tDX K T (erW K W) (mCbX f a)) := pe_to h fun σ H Q ⟨P0, P, ρ, r, h1, s, h2, q⟩ => by
  subst h1
  obtain ⟨x, ex, h3⟩ := bind_eq h2
  refine ⟨P0, P, ρ, x, rfl, s, ex, fun vs P1 l1 r1 => ?_⟩
  refine ⟨P1, x, r, rfl, r1, h3, ?_⟩
  have q1 := q.up l1
  cases r with
  | ok d => exact q1
  | error c => exact q1
/-! ### try: body, except C as e: suite, the suite a model too -/
def clr (i : Nat) : Out → Out
  | .nx ρ => .nx (ρ.set i .no)
  | .bk ρ => .bk (ρ.set i .no)
  | .ct ρ => .ct (ρ.set i .no)
  | o => o
open Classical in
noncomputable def exV (f : Addr → Option Out) : Option Out := if h : ∃ o, ∀ a, f a = some o then some h.choose else none
theorem exV_is {f : Addr → Option Out} {o : Out} (h : exV f = some o) (a : Addr) : f a = some o := by
  unfold exV at h
  split at h
  · rename_i hh
    cases h
    exact hh.choose_spec a
  · cases h
theorem exV_of {f : Addr → Option Out} {o : Out} (h : ∀ a, f a = some o) : exV f = some o := by
  have hh : ∃ o, ∀ a, f a = some o := ⟨o, h⟩
  have : exV f = some hh.choose := by
    unfold exV
    rw [dif_pos hh]
  rw [this]
  have h1 := hh.choose_spec 0
  rw [h 0] at h1
  exact h1.symm
/-- the suite's model for each class -/
abbrev Su := List (Str × (Addr → MS))
noncomputable def mTryE (i : Nat) (l : Su) (m : MS) : MS := fun ρ => (m ρ).bind fun o => match o with
  | .er c ρ' => (l.lookup c).bind fun g => exV fun a => (g a (ρ'.set i (.exn a))).map (clr i)
  | o => some o
def SuOk (X : Cx) (T : Tb) (sts : List Stmt) (l : Su) : Prop := ∀ (a : Addr) (oe : Obj) (c : Str) (pn : List (Addr × Obj)) (g : Addr → MS), l.lookup c = some g → Zc (.ref (He.ga X.K c)) none oe → (∃ vs, oe.data = .fields vs) → PSs (X.suite a ((a, oe) :: pn)) sts (tS X.K T (g a))
theorem su_nil : SuOk X T sts [] := fun _ _ _ _ _ h => nomatch h
theorem su_cons {c0 : Str} {g0 : Addr → MS} {l : Su} (h : ∀ (a : Addr) (oe : Obj) (pn : List (Addr × Obj)), Zc (.ref (He.ga X.K c0)) none oe → (∃ vs, oe.data = .fields vs) → PSs (X.suite a ((a, oe) :: pn)) sts (tS X.K T (g0 a))) (hl : SuOk X T sts l) : SuOk X T sts ((c0, g0) :: l) := fun a oe c pn g hg hz hf => by
  rw [List.lookup_cons] at hg
  by_cases e : c = c0
  · subst e
    rw [beq_self_eq_true] at hg
    cases hg
    exact h a oe pn hz hf
  · rw [beq_eq_false_iff_ne.mpr e] at hg
    exact hl a oe c pn g hg hz hf
theorem look_mem : ∀ {l : Su} {c : Str} {g : Addr → MS}, l.lookup c = some g → c ∈ l.map (·.1)
  | [], _, _, h => nomatch h
  | (c0, g0) :: l, c, g, h => by
    rw [List.lookup_cons] at h
    by_cases e : c = c0
    · subst e
      exact List.mem_cons_self
    · rw [beq_eq_false_iff_ne.mpr e] at h
      exact List.mem_cons_of_mem _ (look_mem h)
theorem St.setE {P0 P : Pr T} {σ : L2.St} {ρ : Ev} (s : St K P0 P σ ρ) (i : Nat) (a : Addr) : St K P0 P (σ.set i (some (.ref a))) (ρ.set i (.exn a)) := by
  refine ⟨s.le, by rw [List.length_set, List.length_set]; exact s.len, fun j x h => ?_, fun j k p d e ne h1 h2 h3 h4 => ?_, fun j d p h1 h2 => ?_, s.od.put i _ _ fun _ z => nomatch z⟩
  · rcases getset h with ⟨rfl, rfl, hl⟩ | ⟨ne, h⟩
    · exact ⟨_, List.getElem?_set_self (by rw [s.len]; exact hl), .exn⟩
    · rw [List.getElem?_set_ne ne]
      exact s.ok j x h
  · rcases getset h1 with ⟨_, z, _⟩ | ⟨n1, h1⟩
    · cases z
    rcases getset h2 with ⟨_, z, _⟩ | ⟨n2, h2⟩
    · cases z
    rw [List.getElem?_set_ne n1] at h3
    rw [List.getElem?_set_ne n2] at h4
    exact s.dis j k p d e ne h1 h2 h3 h4
  · rcases getset h1 with ⟨_, z, _⟩ | ⟨n1, h1⟩
    · cases z
    rw [List.getElem?_set_ne n1] at h2
    exact s.fr j d p h1 h2
theorem St.clr {P0 P : Pr T} {σ : L2.St} {ρ : Ev} (s : St K P0 P σ ρ) (i : Nat) : St K P0 P (σ.set i none) (ρ.set i .no) := by
  refine ⟨s.le, by rw [List.length_set, List.length_set]; exact s.len, fun j x h => ?_, fun j k p d e ne h1 h2 h3 h4 => ?_, fun j d p h1 h2 => ?_, s.od.put i _ _ fun _ z => nomatch z⟩
  · rcases getset h with ⟨rfl, rfl, hl⟩ | ⟨ne, h⟩
    · exact ⟨_, List.getElem?_set_self (by rw [s.len]; exact hl), .no⟩
    · rw [List.getElem?_set_ne ne]
      exact s.ok j x h
  · rcases getset h1 with ⟨_, z, _⟩ | ⟨n1, h1⟩
    · cases z
    rcases getset h2 with ⟨_, z, _⟩ | ⟨n2, h2⟩
    · cases z
    rw [List.getElem?_set_ne n1] at h3
    rw [List.getElem?_set_ne n2] at h4
    exact s.dis j k p d e ne h1 h2 h3 h4
  · rcases getset h1 with ⟨_, z, _⟩ | ⟨n1, h1⟩
    · cases z
    rw [List.getElem?_set_ne n1] at h2
    exact s.fr j d p h1 h2
theorem s_tryE {x n C : Str} {i : Nat} {body suite : List Stmt} {b₀ : Stmt} {np pos pos' : Pos} {l : Su} {m : MS}
    (hs : X.stack = X.env :: X.outer) (hf : X.env.frame = some X.env.locals) (hN : X.N.Nodup) (hi : X.N[i]? = some n) (hln : X.env.kindOf n = some .local) (hc : Names X x (.ref (He.ga X.K C)))
    (hx : ∀ c ∈ l.map (·.1), PySem.W.exmOne X.K (.ref (He.ga X.K c)) (.ref (He.ga X.K C)) = some true)
    (hb : ∀ (W : WX) (pn : List (Addr × Obj)) (xe : Value → Shared → Prop), Takes (X.tr pn xe) W → PSs (X.tr pn xe) body (tSR X.K T (erW X.K W) m))
    (hsu : SuOk X T (b₀ :: suite) l) :
    PS X (.Try body [.ExceptHandler (some (.Name x np)) (some n) (b₀ :: suite) pos'] [] [] pos) (tS X.K T (mTryE i l m)) := by
  refine ps_to (ps_try_as (i := i) (c := .ref (He.ga X.K C))
    (tb := fun W => tSR X.K T (erW X.K W) m)
    (ts := fun a cls d' D σ H => ∃ (c : Str) (g : Addr → MS), cls = .ref (He.ga X.K c) ∧ d' = none ∧ l.lookup c = some g ∧ tS X.K T (g a) D σ H)
    (Wout := fun _ _ _ _ => False) hs hf hN hi hln hc LamX.takes0 (fun W pn xe tk _ => hb W pn xe tk) (fun a oe cls d' pn hz hfl => ⟨fun pins s σ H D I h => ?_⟩)) ?_
  · obtain ⟨c, g, rfl, rfl, hg, h⟩ := h
    exact (hsu a oe c pn g hg hz hfl).run pins s σ H D I h
  · intro D σ H ⟨P0, P, ρ, o, h1, s, h2, q⟩
    obtain ⟨o1, e1, h3⟩ := bind_eq h2
    refine ⟨P0, P, ρ, o1, h1, s, e1, ?_⟩
    cases o1 with
    | er c ρ2 =>
      obtain ⟨g, hg, h3⟩ := bind_eq h3
      intro P' σ' s'
      refine ⟨true, hx c (look_mem hg), fun _ a _ => ⟨c, g, rfl, rfl, hg, ?_⟩, fun z => nomatch z⟩
      obtain ⟨o2, e2, e3⟩ := map_eq (exV_is h3 a)
      refine ⟨P0, P', _, o2, rfl, s'.setE i a, e2, ?_⟩
      subst e3
      cases o2 with
      | nx ρ3 => exact fun P3 σ3 s3 => q P3 _ (s3.clr i)
      | rt d => exact q
      | rf d => exact q
      | bk ρ3 => exact fun P3 σ3 s3 => q P3 _ (s3.clr i)
      | ct ρ3 => exact fun P3 σ3 s3 => q P3 _ (s3.clr i)
      | er c' ρ3 => exact fun P3 σ3 s3 => q P3 σ3 s3
    | nx => cases h3; exact q
    | rt => cases h3; exact q
    | rf => cases h3; exact q
    | bk => cases h3; exact q
    | ct => cases h3; exact q
theorem x_tryN {i : Nat} {l : Su} {m : MS} {ρ : Ev} {o : Out} (h : m ρ = some o) (hn : ∀ c ρ', o ≠ .er c ρ') : mTryE i l m ρ = some o := by
  unfold mTryE
  rw [h]
  cases o with
  | er c ρ' => exact absurd rfl (hn c ρ')
  | nx => rfl
  | rt => rfl
  | rf => rfl
  | bk => rfl
  | ct => rfl
theorem x_tryE {i : Nat} {l : Su} {g : Addr → MS} {m : MS} {ρ ρ' : Ev} {c : Str} {o : Out} (h : m ρ = some (.er c ρ')) (hc : l.lookup c = some g) (hg : ∀ a, (g a (ρ'.set i (.exn a))).map (clr i) = some o) : mTryE i l m ρ = some o := by
  unfold mTryE
  rw [h]
  show (l.lookup c).bind (fun g => exV fun a => (g a (ρ'.set i (.exn a))).map (clr i)) = some o
  rw [hc]
  exact exV_of hg
/-! ### the caught error: isinstance, and a def that is handed it -/
def mE (i : Nat) (a : Addr) (d : PyData) : ME := fun ρ => match ρ[i]? with
  | some (.exn a') => if a' = a then some d else none
  | _ => none
theorem x_mE {i : Nat} {a : Addr} {d : PyData} {ρ : Ev} (h : ρ[i]? = some (.exn a)) : mE i a d ρ = some d := by
  unfold mE
  rw [h]
  show (if a = a then some d else none) = some d
  rw [if_pos rfl]
theorem mE_at {P0 P : Pr T} {σ : L2.St} {ρ : Ev} {i : Nat} {a : Addr} {d d' : PyData} (s : St K P0 P σ ρ) (h : mE i a d ρ = some d') : σ[i]? = some (some (.ref a)) ∧ d' = d := by
  unfold mE at h
  split at h
  · rename_i a' ha
    split at h
    · rename_i hh
      subst hh
      cases h
      obtain ⟨o, g1, g2⟩ := s.ok i _ ha
      cases g2
      exact ⟨g1, rfl⟩
    · cases h
  · cases h
theorem call_isP {X : Cx} {a D : Addr} {oe : Obj} (C : ExcC X.K D) (hp : (a, oe) ∈ X.pn) (hz : Zc (.ref D) none oe) (hf : ∃ vs, oe.data = .fields vs) : CallR X (.builtin "isinstance") (rIsE X.K D a) := by
  intro pins s σ H xs us Q I r h
  obtain ⟨c, cv, b, rfl, hcv, e, q⟩ := h
  obtain ⟨u1, u2, rfl, r1, r2⟩ := vals2 r
  cases (show u1 = Value.ref a from r1)
  have ec := hcv _ r2
  subst ec
  obtain ⟨hget, _⟩ := I.pin (a, oe) (List.mem_append.mpr (.inl hp))
  obtain ⟨vs, hv⟩ := hf
  have J : PySem.W.InstAt s.heap a oe D none := by
    obtain ⟨oc, od, oda, osl⟩ := oe
    obtain ⟨h1, h2⟩ := hz
    dsimp only at h1 h2 hv
    subst h1 h2 hv
    exact ⟨hget, rfl, rfl, trivial⟩
  exact PySem.W.kia_one (PySem.W.handS_kitx_exc C.hg C.hk C.hs C.hd C.ha C.hn C.ht C.hm) I.kIn J e (fun z => nomatch z) fun tk => ⟨.bl b, H, I.kept (t' := tk) fun _ _ z => z, rfl, q⟩
/-- isinstance(e, C), C a class of the program or of Python's own -/
theorem c_isE {i : Nat} {a D : Addr} {b : Bool} {c : V} {cv : Value} (hcv : ∀ u, RelV c u → u = cv) (hk : PySem.W.kitOne K (.ref D) cv = some b) (h : PE X e (tCB (rIsE K D a) (tCons (tVar i) (tCons (tC c) tNil)))) : PE X e (tD K T (mE i a (.bool b))) := pe_to h fun σ H Q ⟨P0, P, ρ, d, h1, s, h2, q⟩ => by
  subst h1
  obtain ⟨g1, rfl⟩ := mE_at s h2
  exact ⟨_, g1, c, cv, b, rfl, hcv, hk, q _ P (Le.refl P) (.bl b)⟩
end
end PM

namespace PM
open PySem PySem.Spec PyProof.Rows L2 LB
/-! ### a def that is handed the caught error -/
/-- the slots of such a def: the error, and nothing else yet -/
def evE (N : Nat) (a : Addr) : Ev := .exn a :: List.replicate (N - 1) .no
section
variable {T : Tb} {K : PySem.W.Frag} {X : Cx} {e : Expr}
theorem start_e {N : List Str} {a : Addr} (P : Pr T) (hN : 0 < N.length) : St K P P (L2.start N [.ref a]) (evE N.length a) := by
  have e1 : L2.start N [.ref a] = some (.ref a) :: List.replicate (N.length - 1) none := rfl
  rw [e1]
  refine ⟨Le.refl P, ?_, fun i x h => ?_, fun i j p d e' ne h1 h2 h3 h4 => ?_, fun i d p h1 h2 => ?_, fun i j p ks ls ne h1 h2 h3 h4 => ?_, fun i ks p h1 h2 => ?_⟩
  · show (List.replicate _ _).length + 1 = (List.replicate _ _).length + 1
    rw [List.length_replicate, List.length_replicate]
  · cases i with
    | zero =>
      cases h
      exact ⟨_, rfl, .exn⟩
    | succ i =>
      have h : (List.replicate (N.length - 1) Sl.no)[i]? = some x := h
      rw [List.getElem?_replicate] at h
      split at h
      · rename_i hi
        cases h
        refine ⟨none, ?_, .no⟩
        show (List.replicate (N.length - 1) (none : Option V))[i]? = _
        rw [List.getElem?_replicate, if_pos hi]
      · cases h
  · cases i with
    | zero => cases h1
    | succ i =>
      have h : (List.replicate (N.length - 1) Sl.no)[i]? = some (.own d) := h1
      rw [List.getElem?_replicate] at h
      split at h <;> cases h
  · cases i with
    | zero => cases h1
    | succ i =>
      have h : (List.replicate (N.length - 1) Sl.no)[i]? = some (.own d) := h1
      rw [List.getElem?_replicate] at h
      split at h <;> cases h
  · cases i with
    | zero => cases h1
    | succ i =>
      have h : (List.replicate (N.length - 1) Sl.no)[i]? = some (.ods ks) := h1
      rw [List.getElem?_replicate] at h
      split at h <;> cases h
  · cases i with
    | zero => cases h1
    | succ i =>
      have h : (List.replicate (N.length - 1) Sl.no)[i]? = some (.ods ks) := h1
      rw [List.getElem?_replicate] at h
      split at h <;> cases h
theorem roomM {j k : Nat} {A : Around} {h : Option Value} (r : Room j A) (hk : k ≤ j := by decide) : L2H.RoomH k (A.mark h) := ⟨(r.mono hk).dp, (r.mono hk).un⟩
theorem roomU {k : Nat} {A : Around} (r : L2H.RoomH k A) : A.units + 64 < cLine := by have := r.un; omega
/-- what x gives of an error of the class c: d -/
def HotF (P : Program) (w : World) (K : PySem.W.Frag) (T : Tb) (mg : Str → Option Value) (base : Heap) (k : Nat) (x : Str) (c : Str) (d : PyData) : Prop :=
  ∃ (f : Addr) (fd : FuncData) (y : Str), mg x = some (.ref f) ∧ PySem.W.keepIn K (.ref f) = true ∧ Binds K fd [y] [] ∧
    ∀ (A : Around) (outer : List Env) (s : Shared) (args : Args) (us : List Value) (a : Addr) (oe : Obj) (P0 : Pr T) (Q : VK) (E : XK), L2H.RoomH k A → L2H.PinOk outer P0.H s (a, oe) → Zc (.ref (He.ga K c)) none oe → (∃ vs, oe.data = .fields vs) →
      Env0 P w K mg base A outer s P0.H → BindsTo s fd args ([y].zip us) → Vals [.ref a] us → (∀ v (P' : Pr T), Le P0 P' → Rp K P'.M v d → Q v P'.H) → codeAny (model P w) A (.call (.ref f) args) (CR (L2.CX P w) outer P w P0.H s Q E) s
theorem hot_ok {P : Program} {w : World} {mg : Str → Option Value} {base : Heap} {x y c : Str} {st : Stmt} {N : List Str} {k : Nat} {d : PyData} {m : Addr → MS} (F : Df K mg x st) (S : FnScope N [y] (defScope st))
    (hb : ∀ (kV doc pm : Value) (an : Option Addr) (cdv ct : Value) (us : List Value), us.length = [y].length → bindArgs (PySem.W.fnOf x x (defArgs st) (defBody st) (defScope st) .none kV doc pm an cdv ct) ⟨us, []⟩ = pure ([y].zip us))
    (hN : 0 < N.length)
    (hbody : ∀ (cdv : Value) (A : Around) (outer : List Env) (s : Shared) (H : Hp) (E : XK) (a : Addr) (oe : Obj), Zc (.ref (He.ga K c)) none oe → (∃ vs, oe.data = .fields vs) → L2H.RoomH k (A.deeper (envOfC x (defScope st) s.heap.objs.size (He.ga K x) cdv)) →
      PSs (L2H.cxH (L2.CX P w) P w K mg base N x (defScope st) (He.ga K x) cdv A outer s H E (a, oe)) (defBody st) (tS K T (m a)))
    (hm : ∀ a, ∃ o, m a (evE N.length a) = some o ∧ outR o = some d) : HotF P w K T mg base (k + 1) x c d := by
  obtain ⟨fd, F, hmg⟩ := F
  have kp := F.kp
  have bb := F.bindsN hb
  obtain ⟨oc, od, dV, kV, doc, pm, an, cdv, ct, osl, rfl, lk, hcd, _, _⟩ := F.ex
  refine ⟨He.ga K x, _, y, hmg, kp, bb, fun A outer s args us a oe P0 Q E hr hpin hz hfl e0 hbt r q => ?_⟩
  have kx : K.In s.heap := e0.mod.kin.keeps fun b o h => (e0.bs b o h).1
  have nl : s.heap.NoLimit := e0.mod.nolimit.keeps fun b o h => (e0.bs b o h).1
  refine codeAny_call_function hr.depth (kx _ _ lk) rfl S.co S.gen rfl (PySem.W.codeRec_of kx hcd) (hbt _ _ _ _ ?_)
  refine wpAny_newFunctionEnv_cells S.kind (fun z hz' => ?_) fun env he s1 x1 => ?_
  · obtain ⟨n, v⟩ := z
    rcases S.par n (List.of_mem_zip hz').1 with h | h
    · exact .inl h
    · exact .inr ⟨h, PySem.W.cellsFrom_some _ _ _ (.inl h)⟩
  · subst he
    refine ⟨nl.keeps x1.toInCall.keep, codeAny_func ?_⟩
    have I := L2H.inv_startH (E := E) (CX := L2.CX P w) S hpin e0 rfl r x1
    obtain ⟨o, eo, ho⟩ := hm a
    refine wpAny_mono ((hbody cdv A outer s P0.H E a oe hz hfl (hr.deeper _)).run [] s1 (L2.start N [.ref a]) P0.H { nx := fun _ H' => Q .non H', rt := Q } I ⟨P0, P0, _, o, rfl, start_e P0 hN, eo, ?_⟩) (fun fl s' hs => ?_) fun _ _ h => h
    · cases o with
      | nx ρ =>
        cases ho
        exact fun P' σ s => q .non P' s.le .non
      | rt d' =>
        cases ho
        exact q
      | rf d' =>
        cases d' with
        | list ds =>
          cases ho
          intro p P' l r' lo
          obtain ⟨P'', e2, l'', r''⟩ := own_put l r' lo
          show Q (.ref p) P'.H
          rw [← e2]
          exact q _ P'' l'' r''
        | _ => cases ho
      | bk ρ => cases ho
      | ct ρ => cases ho
      | er c' ρ => cases ho
    · cases fl with
      | ret u =>
        obtain ⟨v, σ', H', J, rv, q'⟩ := hs
        exact ⟨v, H', J.os, J.bare, J.base, J.hok, rv, q'⟩
      | next =>
        obtain ⟨σ', H', J, q'⟩ := hs
        exact ⟨.non, H', J.os, J.bare, J.base, J.hok, rfl, q'⟩
      | brk =>
        obtain ⟨_, _, _, q'⟩ := hs
        exact q'.elim
      | cont =>
        obtain ⟨_, _, _, q'⟩ := hs
        exact q'.elim
/-- x(e) in a suite -/
theorem c_callE {k : Nat} {x n c : Str} {d : PyData} {i : Nat} {a : Addr} {oe : Obj} {np p pos : Pos} (F : HotF X.prog X.w X.K T X.mg X.base k x c d) (hr : L2H.RoomH k X.A) (hp : (a, oe) ∈ X.pn) (hz : Zc (.ref (He.ga X.K c)) none oe) (hf : ∃ vs, oe.data = .fields vs)
    (hv : PE X (.Name n np) (tVar i)) (hK : X.K = K := by rfl) (hg : Gl X x := by rfl) (hdb : (x == ("__debug__" : Str)) = false := by decide) (he : starEach [.Name n np] X.env = [(false, eval (.Name n np) X.env)] := by rfl) :
    PE X (.Call (.Name x p) [.Name n np] [] pos) (tD K T (mE i a d)) := by
  subst hK
  obtain ⟨f, fd, y, hm, kp, b, run⟩ := F
  refine ⟨fun pins s σ H Q I h => ?_⟩
  obtain ⟨P0, P, ρ, d', h1, st, h2, q⟩ := h
  obtain ⟨g1, rfl⟩ := mE_at st h2
  subst h1
  refine wpAny_Call_Name_kw (ld_glob I hg hm ?_ hdb)
  refine PySem.W.callWith_K (h₀ := X.base) I.ok.mod.kin kp (thn ((pa_cons hv pa_nil).run pos pins s σ P.H (fun vs H1 => vs = [.ref a] ∧ H1 = P.H) I ⟨_, g1, rfl, rfl⟩) fun us s1 ⟨vs, H1, I1, r, hvs, hH⟩ => ⟨I1.kIn, ?_⟩) he rfl
  subst hvs hH
  have pn := I1.pin (a, oe) (List.mem_append_left _ hp)
  have hpin : L2H.PinOk X.stack P.H s1 (a, oe) := ⟨pn.1, pn.2.1, fun hm => (List.mem_cons.mp (I1.stkSub a hm)).elim pn.2.2.1 pn.2.2.2.1, pn.2.2.2.2⟩
  have bt := b s1 us I1.kIn (by rw [List.append_nil, ← r.length]; rfl)
  rw [List.append_nil] at bt
  refine wpAny_call (codeAny_mono (run X.A X.stack s1 ⟨us, []⟩ us a oe P Q (fun _ _ _ => False) hr hpin hz hf I1.env0 bt r q) fun r' s' hq => ?_)
  cases r' with
  | error u =>
    obtain ⟨_, _, _, _, _, _, _, _, _, _, _, _, z⟩ := hq
    exact z.elim
  | ok fl =>
    cases fl with
    | ret u => exact I1.after hq
    | next => exact hq.elim
    | brk => exact hq.elim
    | cont => exact hq.elim
end
end PM

namespace PM
open PySem PySem.Spec PyProof.Rows L2 LB
section
variable {T : Tb} {K : PySem.W.Frag} {X : Cx} {e : Expr}
/-! ### l.count(x), flat items -/
def rCountF (K : PySem.W.Frag) : V → List V → Hp → VK → Prop := fun x xs H Q => ∃ (a : Addr) (ys : List V) (y : V), x = V.ref a ∧ xs = [y] ∧ SqL K H a ys ∧ flatV y = true ∧ ys.all flatV = true ∧ Q (.int ((ys.countP fun z => eqV z y : Nat) : Int)) H
theorem countF {y : V} {ys : List V} {us : List Value} (h : Vals ys us) : ys.all flatV = true → us.countP (eqU y) = ys.countP fun z => eqV z y := by
  induction h with
  | nil => exact fun _ => rfl
  | @cons z zs u us r rs ih =>
    intro h
    rw [List.all_cons, Bool.and_eq_true] at h
    rw [List.countP_cons, List.countP_cons, ih h.2, eqU_of r h.1]
theorem mt_countF : MtR X "list.count" (rCountF X.K) := by
  intro pins s σ H x xs v us Q I rx rxs h
  obtain ⟨a, ys, y, rfl, rfl, hs, fy, fys, q⟩ := h
  cases rx
  obtain ⟨u, rfl, ru⟩ := rxs.one
  obtain ⟨its, rv, ⟨⟨cls, dd, data, sl⟩, n, ho, hc, hdn, hd⟩, hlen⟩ := I.list hs
  simp only at hc hd
  subst hc hd
  refine call_meets PySem.F.slot_list_count ⟨_, ho, rfl⟩ PySem.F.entry_list_count (PySem.F.args_list_count_2 _ _)
    (SeqAt.list_countAt a its.toArray n dd sl u (eqU y)) ⟨ho, fun u' hu' => mem_eqAt ru fy rv fys u' (by simpa using hu'), ?_⟩
  have ec : its.toArray.toList.countP (eqU y) = ys.countP fun z => eqV z y := countF rv fys
  refine ⟨.int ((ys.countP fun z => eqV z y : Nat) : Int), H, I.tok _, ⟨s.toks, ?_⟩, q⟩
  show Value.int ((its.toArray.toList.countP (eqU y) : Nat) : Int) s.toks = _
  rw [ec]
def oCount (a b : PyData) : Option PyData := match a with
  | .list ds => if flD b = true ∧ ds.all flD = true then some (.int ((ds.countP fun z => PyData.eqv z b : Nat) : Int)) else none
  | _ => none
theorem count_rp {y : V} {dy : PyData} {M : Hp} (ry : Rp K M y dy) (fy : flD dy = true) : ∀ {vs : List V} {ds : List PyData}, RpAll K M vs ds → ds.all flD = true → (vs.countP fun z => eqV z y) = ds.countP fun z => PyData.eqv z dy
  | _, _, .nil, _ => rfl
  | _, _, .cons (d := d) (ds := ds) r rs, h => by
    have h : (flD d && ds.all flD) = true := h
    rw [Bool.and_eq_true] at h
    rw [List.countP_cons, List.countP_cons, count_rp ry fy rs h.2, fl_eq r h.1 ry fy]
theorem c_count {a b : ME} (h : PE X e (tBM K "list" (rCountF K) (tW K T a) (tCons (tD K T b) tNil))) : PE X e (tD K T (mOp oCount a b)) := pe_to h fun σ H Q ⟨P0, P, ρ, d, h1, s, h2, q⟩ => by
  subst h1
  obtain ⟨x, ex, h3⟩ := bind_eq h2
  obtain ⟨y, ey, h4⟩ := bind_eq h3
  unfold oCount at h4
  split at h4
  · rename_i ds
    split at h4
    · rename_i hh
      cases h4
      refine ⟨P0, P, ρ, _, rfl, s, ex, fun v P1 l1 r1 => ?_⟩
      obtain ⟨p, xs, rfl, hs, ra⟩ := r1.list
      refine ⟨.inl ⟨rfl, _, hs⟩, P0, P1, ρ, y, rfl, s.up l1, ey, fun u P2 l2 r2 => ?_⟩
      have ra2 := ra.ext l2.m
      refine ⟨p, xs, u, rfl, rfl, ex_l l2.h hs, fl_v r2 hh.1, fl_vs ra2 hh.2, ?_⟩
      rw [count_rp r2 hh.1 ra2 hh.2]
      exact q _ P2 (l1.trans l2) (.int _)
    · cases h4
  · cases h4
theorem mt_countK (hK : X.K = K := by rfl) : MtR X "list.count" (rCountF K) := by
  subst hK
  exact mt_countF
end
end PM
namespace PM
open PySem PySem.Spec PyProof.Rows L2 LB
section
variable {T : Tb} {K : PySem.W.Frag}
/-! ### a is b, a is not b, of truths -/
def oIs (a b : PyData) : Option PyData := match a, b with
  | .bool x, .bool y => some (.bool (decide (x = y)))
  | _, _ => none
def oIsn (a b : PyData) : Option PyData := match a, b with
  | .bool x, .bool y => some (.bool (!decide (x = y)))
  | _, _ => none
theorem od_is : OpD K T (fun x y H Q => ∃ a b, x = .bl a ∧ y = .bl b ∧ Q (.bl (decide (a = b))) H) oIs := fun P x y a b d rx ry h Q q => by
  unfold oIs at h
  split at h
  · rename_i p r
    cases h
    have e1 := Rw.bool rx
    have e2 := Rw.bool ry
    exact ⟨_, _, e1, e2, q _ P (Le.refl P) (.bl _)⟩
  · cases h
theorem od_isn : OpD K T (fun x y H Q => ∃ a b, x = .bl a ∧ y = .bl b ∧ Q (.bl (!decide (a = b))) H) oIsn := fun P x y a b d rx ry h Q q => by
  unfold oIsn at h
  split at h
  · rename_i p r
    cases h
    have e1 := Rw.bool rx
    have e2 := Rw.bool ry
    exact ⟨_, _, e1, e2, q _ P (Le.refl P) (.bl _)⟩
  · cases h
end
end PM
namespace PM
open PySem PySem.Spec PyProof.Rows L2 LB
section
variable {T : Tb} {K : PySem.W.Frag} {X : Cx} {e : Expr}
/-! ### x[::-1], a tuple or a list -/
def oRevU (x : PyData) : Option PyData := match x with
  | .tuple xs => oRev (.tuple xs)
  | x => oRevL x
theorem c_revU {a : ME} (h1 : PE X e (tD K T (mUn oRev a))) (h2 : PE X e (tD K T (mUn oRevL a))) : PE X e (tD K T (mUn oRevU a)) := ⟨fun pins s σ H Q I ⟨P0, P, ρ, d, e1, st, e2, q⟩ => by
  obtain ⟨x, ex, e3⟩ := bind_eq e2
  unfold oRevU at e3
  split at e3
  · refine h1.run pins s σ H Q I ⟨P0, P, ρ, d, e1, st, ?_, q⟩
    show (a ρ).bind oRev = some d
    rw [ex]
    exact e3
  · refine h2.run pins s σ H Q I ⟨P0, P, ρ, d, e1, st, ?_, q⟩
    show (a ρ).bind oRevL = some d
    rw [ex]
    exact e3⟩
end
/-! ### what ends a row of statements by a refusal -/
theorem x_erS {a b : MS} {ρ ρ' : Ev} {c : Str} (h : a ρ = some (.er c ρ')) : mSeq a b ρ = some (.er c ρ') := by
  unfold mSeq
  rw [h]
  rfl
theorem x_dropO {f : List PyData → Option Rs} {a : MA} {ρ : Ev} {ds : List PyData} {v : PyData} (h : a ρ = some ds) (h2 : f ds = some (.ok v)) : mDropX (mCbX f a) ρ = some (.nx ρ) := by
  unfold mDropX
  rw [x_mx h h2]
  rfl
theorem x_dropE {f : List PyData → Option Rs} {a : MA} {ρ : Ev} {ds : List PyData} {c : Str} (h : a ρ = some ds) (h2 : f ds = some (.error c)) : mDropX (mCbX f a) ρ = some (.er c ρ) := by
  unfold mDropX
  rw [x_mx h h2]
  rfl
theorem x_asgO {f : List PyData → Option Rs} {a : MA} {gm : MG} {ρ ρ' : Ev} {ds : List PyData} {v : PyData} (h : a ρ = some ds) (h2 : f ds = some (.ok v)) (h3 : gm v ρ = some ρ') : mAsgX (mCbX f a) gm ρ = some (.nx ρ') := by
  unfold mAsgX
  rw [x_mx h h2]
  show (gm v ρ).map Out.nx = _
  rw [h3]
  rfl
theorem x_asgE {f : List PyData → Option Rs} {a : MA} {gm : MG} {ρ : Ev} {ds : List PyData} {c : Str} (h : a ρ = some ds) (h2 : f ds = some (.error c)) : mAsgX (mCbX f a) gm ρ = some (.er c ρ) := by
  unfold mAsgX
  rw [x_mx h h2]
  rfl
theorem r_fnX {n N : Nat} {m : MS} {ds : List PyData} {r : Rs} (hl : ds.length = n) (h : Run m (evOf n N ds) fun q => outX q = some r) : fnX n N m ds = some r := by
  obtain ⟨q, h1, h2⟩ := h
  unfold fnX
  rw [if_pos hl, h1]
  exact h2
theorem r_er {n N : Nat} {m : MS} {ds : List PyData} {c : Str} {ρ : Ev} (hl : ds.length = n) (h : m (evOf n N ds) = some (.er c ρ)) : fnX n N m ds = some (.error c) := by
  unfold fnX
  rw [if_pos hl, h]
  rfl
end PM

namespace PM
open PySem PySem.Spec PyProof.Rows L2 LB
section
variable {T : Tb} {K : PySem.W.Frag} {X : Cx} {e : Expr}
/-! ### tuples that are there may be stood on -/
theorem show1 (P : Pr T) {b : Addr} {vs : List V} (h : P.H b = some (.tup vs)) : ∃ P' : Pr T, P'.H = P.H ∧ Le P P' ∧ P'.M b = some (.tup vs) := by
  cases z : P.M b with
  | some u =>
    have := P.sub b u z fun ps w => P.nt b ps (by rw [z, w])
    rw [h] at this
    cases this
    exact ⟨P, rfl, Le.refl P, z⟩
  | none =>
    refine ⟨⟨upd P.M b (.tup vs), P.H, fun a u e q => ?_, P.tab, nt_upd P.nt fun _ w => nomatch w⟩, rfl, ⟨fun a u e q => ?_, ex_refl _, fun a h1 h2 => ?_⟩, upd_same⟩
    · by_cases w : a = b
      · subst w
        rw [upd_same] at e
        cases e
        exact h
      · rw [upd_ne w] at e
        exact P.sub a u e q
    · have ne : a ≠ b := fun w => by
        rw [w, z] at e
        cases e
      show upd P.M b (.tup vs) a = some u
      rw [upd_ne ne]
      exact e
    · by_cases w : a = b
      · subst w
        exact .inr ⟨vs, h⟩
      · have h2 : upd P.M b (.tup vs) a ≠ none := h2
        rw [upd_ne w] at h2
        exact absurd h1 h2
theorem showAll : ∀ {bs : List Addr} {ds : List PyData} (P : Pr T), PySem.W.EachIs (TupK P.H) bs ds → ∃ P' : Pr T, P'.H = P.H ∧ Le P P' ∧ RpAll K P'.M (bs.map V.ref) ds
  | _, _, P, .nil => ⟨P, rfl, Le.refl P, .nil⟩
  | _, _, P, .cons (a := b) h t => by
    obtain ⟨ks, rfl, hb⟩ := h
    obtain ⟨P1, e1, l1, m1⟩ := show1 P hb
    obtain ⟨P2, e2, l2, r2⟩ := showAll P1 (by rw [e1]; exact t)
    exact ⟨P2, e2.trans e1, l1.trans l2, .cons (.tup (l2.m _ _ m1 fun _ z => nomatch z) (LB.rp_keys ks)) r2⟩
/-! ### sorted(d), d a dict of one's own, its keys tuples -/
open Classical in
noncomputable def mSortD (j : Nat) : ME := fun ρ => match ρ[j]? with
  | some (.own (.dict kvs)) => if Srt (kvs.map (·.1)) ∧ PySem.W.Sortable (kvs.map (·.1)) then some (.list (sortD (kvs.map (·.1)))) else none
  | _ => none
theorem mSortD_is {j : Nat} (ρ : Ev) (d : PyData) (h : mSortD j ρ = some d) : isLst d = true := by
  unfold mSortD at h
  split at h
  · split at h
    · cases h
      rfl
    · cases h
  · cases h
theorem c_sortD {j : Nat} (h : PE X e (tCB rSortDT (tCons (tVar j) tNil))) : PE X e (tF K T (mSortD j)) := pe_to h fun σ H Q ⟨P0, P, ρ, d, h1, s, h2, q⟩ => by
  subst h1
  unfold mSortD at h2
  split at h2
  · rename_i kvs hd
    split at h2
    · rename_i hh
      cases h2
      obtain ⟨u, g1, g2⟩ := s.ok j _ hd
      cases g2 with
      | @own p _ r =>
        cases r with
        | @dT as _ a1 a2 a3 =>
          have ek := dt_keys a3
          refine ⟨_, g1, p, as, rfl, .inl a2, by rw [ek]; exact hh.1, by rw [ek]; exact hh.2, fun l bs hl eb => ?_⟩
          rw [ek] at eb
          obtain ⟨P1, e1, l1, r1⟩ := showAll (K := K) P eb
          have hl1 : P1.H l = none := by rw [e1]; exact hl
          have := q l (P1.hid l (.lst (bs.map V.ref)) hl1) (l1.trans (le_hid P1 hl1)) (.lst (P1.none hl1) upd_same r1) (loose_none hl)
          have eh : (P1.hid l (.lst (bs.map V.ref)) hl1).H = upd P.H l (.lst (bs.map V.ref)) := by
            show upd P1.H l _ = _
            rw [e1]
          rw [eh] at this
          exact this
    · cases h2
  · cases h2
theorem x_sortD {j : Nat} {ρ : Ev} {kvs : List (PyData × PyData)} (h : ρ[j]? = some (.own (.dict kvs))) (S : Srt (kvs.map (·.1))) (ok : PySem.W.Sortable (kvs.map (·.1))) : mSortD j ρ = some (.list (sortD (kvs.map (·.1)))) := by
  unfold mSortD
  rw [h]
  show (open Classical in if Srt (kvs.map (·.1)) ∧ PySem.W.Sortable (kvs.map (·.1)) then some (PyData.list (sortD (kvs.map (·.1)))) else none) = _
  rw [if_pos ⟨S, ok⟩]
/-! ### a < b of tuples -/
def rLtX (K : PySem.W.Frag) : R2 := fun x y H Q => ∃ d e, Rp K H x d ∧ Rp K H y e ∧ PySem.W.alike d d = true ∧ PySem.W.alike e e = true ∧ PySem.W.alike d e = true ∧ d ≠ .none ∧ d.depth ≤ 40 ∧ Q (.bl (PySem.W.dataLt d e)) H
theorem op_ltX (hu : X.A.units + 64 < cLine) (hK : X.K = K := by rfl) : OpR X (compareOp .Lt) (rLtX K) := by
  subst hK
  intro pins s σ H x y v u Q I rx ry h
  obtain ⟨d, e, hd, he, ad, ae, al, nn, dp, q⟩ := h
  obtain ⟨as, r1⟩ := reads_of I d x v ad hd rx
  obtain ⟨bs, r2⟩ := reads_of I e y u ae he ry
  exact PySem.W.lt_data r1 r2 al nn (by have := Nat.min_le_left d.depth e.depth; omega) ⟨.bl _, H, I, rfl, q⟩
def oLtX (a b : PyData) : Option PyData := match a with
  | .tuple xs => if PySem.W.alike (.tuple xs) (.tuple xs) = true ∧ PySem.W.alike b b = true ∧ PySem.W.alike (.tuple xs) b = true ∧ (PyData.tuple xs).depth ≤ 40 then some (.bool (PySem.W.dataLt (.tuple xs) b)) else none
  | a => oLt a b
def uLtX (K : PySem.W.Frag) : R2 := fun x y H Q => uLt x y H Q ∨ rLtX K x y H Q
theorem op_uLtX (hu : X.A.units + 64 < cLine) (hK : X.K = K := by rfl) : OpR X (compareOp .Lt) (uLtX K) := opR_or op_uLt (op_ltX hu hK)
theorem rw_tup {P : Pr T} {v : V} {xs : List PyData} (h : Rw K P v (.tuple xs)) : Rp K P.M v (.tuple xs) := by
  rcases h with h | ⟨p, _, h⟩
  · exact h
  · cases h
theorem od_ltX : OpD K T (uLtX K) oLtX := by
  intro P x y a b d ra rb h Q q
  unfold oLtX at h
  split at h
  · split at h
    · rename_i xs hh
      cases h
      have eb : ∃ ys, b = .tuple ys := by
        have := hh.2.2.1
        cases b <;> first | exact ⟨_, rfl⟩ | (simp [PySem.W.alike] at this)
      obtain ⟨ys, rfl⟩ := eb
      exact .inr ⟨_, _, (rw_tup ra).ext P.sub, (rw_tup rb).ext P.sub, hh.1, hh.2.1, hh.2.2.1, (fun z => nomatch z), hh.2.2.2, q _ P (Le.refl P) (.bl _)⟩
    · cases h
  · exact .inl (od_lt P x y a b d ra rb h Q q)
/-! ### a sign in a text -/
def rInSg : R2 := fun x y H Q => ∃ (c : Nat) (z : Str), x = .str ⟨#[c]⟩ ∧ y = .str z ∧ Q (.bl (decide (c ∈ z.cps.toList))) H
def sg1 : Str → Option Nat
  | ⟨⟨[c]⟩⟩ => some c
  | _ => none
def oInX (a b : PyData) : Option PyData := match b with
  | .str z => match a with
    | .str x => (sg1 x).map fun c => .bool (decide (c ∈ z.cps.toList))
    | _ => none
  | b => oIn a b
theorem sg1_is {x : Str} {c : Nat} (h : sg1 x = some c) : x = ⟨#[c]⟩ := by
  unfold sg1 at h
  split at h
  · cases h
    rfl
  · cases h
theorem op_uInX (hK : X.K = K := by rfl) : OpR X (compareOp .In) (fun x y H Q => rIn K false x y H Q ∨ rInSg x y H Q) := opR_or (op_inK K hK) op_in_sign
theorem od_inX : OpD K T (fun x y H Q => rIn K false x y H Q ∨ rInSg x y H Q) oInX := by
  intro P x y a b d ra rb h Q q
  unfold oInX at h
  split at h
  · split at h
    · obtain ⟨c, hc, rfl⟩ := map_eq h
      have e := sg1_is hc
      subst e
      exact .inr ⟨c, _, ra.str, rb.str, q _ P (Le.refl P) (.bl _)⟩
    · cases h
  · exact .inl (od_in P x y a b d ra rb h Q q)
/-! ### range(i, j) -/
def rngF (i : Int) (n : Nat) : List PyData := (List.range n).map fun (k : Nat) => .int (i + (k : Int))
theorem rngF_length (i : Int) (n : Nat) : (rngF i n).length = n := by
  unfold rngF
  rw [List.length_map, List.length_range]
def oRng2 : List PyData → Option (List PyData)
  | [.int i, .int j] => if -100000 ≤ i ∧ i < 100000 ∧ -100000 ≤ j ∧ j < 100000 then some (rngF i (j - i).toNat) else none
  | _ => none
def iR2 (a : MA) : MA := fun ρ => (a ρ).bind oRng2
theorem wk_r2 {P1 : Pr T} {i0 : Int} {m : Nat} : WkM K P1 (Itr i0 m) (rngF i0 m) := by
  have l := rngF_length i0 m
  refine ⟨fun P' x => by show m ≤ _; omega, fun i P' hi x => by show i < m; omega, fun i P' v H'' hi x y => ⟨P', y.1.symm, Le.refl P', .int (i0 + (i : Int)), ?_, ?_⟩⟩
  · unfold rngF
    rw [List.getElem?_map, List.getElem?_range (by omega)] <;> rfl
  · rw [y.2]
    exact .int _
theorem c_irng2 {tg : Expr} {a : MA} (h : PI X tg e (iRng2 (tA K T a))) : PI X tg e (tI K T (iR2 a)) := pi_to h fun σ H Q ⟨P0, P, ρ, ds, h1, s, h2, q⟩ => by
  subst h1
  obtain ⟨x, ex, h3⟩ := bind_eq h2
  unfold oRng2 at h3
  split at h3
  · split at h3
    · cases h3
      rename_i i j hh
      refine ⟨P0, P, ρ, _, rfl, s, ex, fun vs P1 l1 r1 => ?_⟩
      cases r1 with
      | cons r1 r2 =>
        cases r2 with
        | cons r2 r3 =>
          cases r3
          cases r1
          cases r2
          exact ⟨i, j, rfl, ⟨by omega, by omega, by omega, by omega⟩, q _ P1 l1 wk_r2⟩
    · cases h3
  · cases h3
/-! ### l + m, a new list of one's own -/
def oCat : PyData → PyData → Option PyData
  | .list x, .list y => if x.length + y.length ≤ 100000 then some (.list (x ++ y)) else none
  | _, _ => none
theorem cat_ll {x y : List PyData} (h : x.length + y.length ≤ 100000) : oCat (.list x) (.list y) = some (.list (x ++ y)) := by
  show (if x.length + y.length ≤ 100000 then some (PyData.list (x ++ y)) else none) = _
  rw [if_pos h]
theorem mCat_is {a b : ME} (ρ : Ev) (d : PyData) (h : mOp oCat a b ρ = some d) : isLst d = true := by
  obtain ⟨x, _, h⟩ := bind_eq h
  obtain ⟨y, _, h⟩ := bind_eq h
  unfold oCat at h
  split at h
  · split at h
    · cases h
      rfl
    · cases h
  · cases h
theorem c_catF {a b : ME} (h : PE X e (tOp (uAdd K) (tW K T a) (tW K T b))) : PE X e (tF K T (mOp oCat a b)) := pe_to h fun σ H Q ⟨P0, P, ρ, d, h1, s, h2, q⟩ => by
  subst h1
  obtain ⟨x, ex, h2⟩ := bind_eq h2
  obtain ⟨y, ey, h2⟩ := bind_eq h2
  unfold oCat at h2
  split at h2
  · rename_i xs ys
    split at h2
    · rename_i hh
      cases h2
      refine ⟨P0, P, ρ, _, rfl, s, ex, fun v P1 l1 r1 => ⟨P0, P1, ρ, _, rfl, s.up l1, ey, fun u P2 l2 r2 => ?_⟩⟩
      obtain ⟨l, vs, rfl, hs, ra⟩ := (r1.up l2).list
      obtain ⟨l', ws, rfl, hs', rb⟩ := r2.list
      refine .inr (.inr (.inl ⟨l, l', vs, ws, rfl, rfl, hs, hs', Nat.le_trans (by rw [ra.length, rb.length]; exact hh) (by decide), fun p hp => ?_⟩))
      exact q _ (P2.hid p (.lst (vs ++ ws)) hp) ((l1.trans l2).trans (le_hid P2 hp)) (.lst (P2.none hp) upd_same (RpAll.append ra rb)) (loose_back (l1.trans l2).h (loose_none hp))
    · cases h2
  · cases h2
/-! ### tuple(text) -/
theorem vals_signs : ∀ (l : List Nat) (us : List Value), us.length = l.length → (∀ (j : Nat) (u : Value), us[j]? = some u → ∃ c t, l[j]? = some c ∧ u = .str ⟨#[c]⟩ t) → Vals (l.map fun c => V.str ⟨#[c]⟩) us
  | [], [], _, _ => .nil
  | c :: l, u :: us, h, hh => by
    obtain ⟨c', t, h1, rfl⟩ := hh 0 u rfl
    cases h1
    exact .cons ⟨t, rfl⟩ (vals_signs l us (Nat.succ.inj h) fun j v hv => hh (j + 1) v hv)
theorem call_tupS (hh : X.calm = true) : CallR X (.type "tuple") (fun xs H Q => ∃ z : Str, xs = [.str z] ∧ z.length ≤ 10000 ∧ ∀ l, H l = none → Q (.ref l) (upd H l (.tup (z.cps.toList.map fun c => V.str ⟨#[c]⟩)))) := by
  intro pins s σ H xs us Q I r h
  obtain ⟨z, rfl, hz, q⟩ := h
  obtain ⟨u, rfl, t, rfl⟩ := vals1 r
  have hsz : z.cps.size ≤ sizeLine := Nat.le_trans hz (by decide)
  refine call_tuple_str (I.ok.hd hh) z t (fun h' tk acc kp ha => ?_) hsz
  have I1 : Inv X pins σ H { s with heap := h', toks := tk } := I.kept (t' := tk) kp
  have hv : Vals (z.cps.toList.map fun c => V.str ⟨#[c]⟩) acc.toList := by
    refine vals_signs _ _ (by rw [Array.length_toList, ha.1, Array.length_toList]) fun j v hv => ?_
    obtain ⟨c, u, hc, e⟩ := ha.2 j v (by rw [← Array.getElem?_toList]; exact hv)
    exact ⟨c, u, by rw [Array.getElem?_toList]; exact hc, e⟩
  have I2 : Inv X pins σ (upd H h'.objs.size (.tup (z.cps.toList.map fun c => V.str ⟨#[c]⟩))) { s with heap := h'.push { cls := .type "tuple", data := .seq acc }, toks := tk } :=
    I1.laid (t' := tk) (fun b o e => Heap.get?_push_of_some _ e) (Nat.le_refl _) (show ObjOk X.prog X.w _ _ _ (.tup _) from ⟨by rw [List.length_map]; exact hsz, acc.toList, hv, by have := IsTup.new h' acc; simpa using this⟩)
  exact ⟨.ref h'.objs.size, _, I2, rfl, q _ (I1.hok.fresh (Nat.le_refl _))⟩
def oTupS : List PyData → Option PyData
  | [.str z] => if z.length ≤ 10000 then some (.tuple (signsD z)) else none
  | _ => none
theorem rp_signs {M : Hp} : ∀ l : List Nat, RpAll K M (l.map fun c => V.str ⟨#[c]⟩) (l.map fun c => PyData.str ⟨#[c]⟩)
  | [] => .nil
  | _ :: l => .cons (.str _) (rp_signs l)
theorem cb_tupS : CbD K T (fun xs H Q => ∃ z : Str, xs = [.str z] ∧ z.length ≤ 10000 ∧ ∀ l, H l = none → Q (.ref l) (upd H l (.tup (z.cps.toList.map fun c => V.str ⟨#[c]⟩)))) oTupS := by
  intro P vs ds d ra h Q q
  unfold oTupS at h
  split at h
  · split at h
    · rename_i z hh
      cases h
      cases ra with
      | cons r1 r2 =>
        cases r2
        obtain rfl := r1.str
        exact ⟨z, rfl, hh, fun l hl => q _ (P.put l (.tup _) hl) (le_put P hl) (.tup upd_same (rp_signs _))⟩
    · cases h
  · cases h
end
end PM

namespace PM
open PySem PySem.Spec PyProof.Rows L2 LB
section
variable {T : Tb} {K : PySem.W.Frag} {X : Cx} {e : Expr} {st : Stmt} {R : ER}
/-! ### a dict of one's own, its keys names, its values True -/
theorem St.setS {P0 P : Pr T} {σ : L2.St} {ρ : Ev} (s : St K P0 P σ ρ) {p : Addr} {kvs : List (Key × V)} {ks : List (Str × PyData)} (h1 : P.M p = none) (h2 : P.H p = some (.dK kvs)) (h3 : PySem.W.EachIs (DS K P.M) kvs ks) (l : Loose P0.H p) (i : Nat) (ap : ∀ (j : Nat) ls q, ρ[j]? = some (.ods ls) → σ[j]? = some (some (.ref q)) → q ≠ p) : St K P0 P (σ.set i (some (.ref p))) (ρ.set i (.ods ks)) := by
  refine ⟨s.le, by rw [List.length_set, List.length_set]; exact s.len, fun j x h => ?_, fun j k q d1 e ne h1 h2 h3 h4 => ?_, fun j e q h1 h2 => ?_, fun j k q ls ms ne g1 g2 g3 g4 => ?_, fun j ls q g1 g2 => ?_⟩
  · rcases getset h with ⟨rfl, rfl, hl⟩ | ⟨ne, h⟩
    · exact ⟨_, List.getElem?_set_self (by rw [s.len]; exact hl), .ods h1 h2 h3⟩
    · rw [List.getElem?_set_ne ne]
      exact s.ok j x h
  · rcases getset h1 with ⟨_, z, _⟩ | ⟨n1, h1⟩
    · cases z
    rcases getset h2 with ⟨_, z, _⟩ | ⟨n2, h2⟩
    · cases z
    rw [List.getElem?_set_ne n1] at h3
    rw [List.getElem?_set_ne n2] at h4
    exact s.dis j k q d1 e ne h1 h2 h3 h4
  · rcases getset h1 with ⟨_, z, _⟩ | ⟨n1, h1⟩
    · cases z
    rw [List.getElem?_set_ne n1] at h2
    exact s.fr j e q h1 h2
  · rcases getset g1 with ⟨rfl, z, hl⟩ | ⟨n1, g1⟩
    · rcases getset g2 with ⟨z2, _, _⟩ | ⟨n2, g2⟩
      · exact ne z2
      · rw [List.getElem?_set_self (by rw [s.len]; exact hl)] at g3
        cases g3
        rw [List.getElem?_set_ne n2] at g4
        exact ap k ms _ g2 g4 rfl
    · rcases getset g2 with ⟨rfl, z, hl⟩ | ⟨n2, g2⟩
      · rw [List.getElem?_set_self (by rw [s.len]; exact hl)] at g4
        cases g4
        rw [List.getElem?_set_ne n1] at g3
        exact ap j ls _ g1 g3 rfl
      · rw [List.getElem?_set_ne n1] at g3
        rw [List.getElem?_set_ne n2] at g4
        exact s.od.1 j k q ls ms ne g1 g2 g3 g4
  · rcases getset g1 with ⟨rfl, z, hl⟩ | ⟨n1, g1⟩
    · rw [List.getElem?_set_self (by rw [s.len]; exact hl)] at g2
      cases g2
      exact l
    · rw [List.getElem?_set_ne n1] at g2
      exact s.od.2 j ls q g1 g2
theorem St.mutS {P0 P : Pr T} {σ : L2.St} {ρ : Ev} (s : St K P0 P σ ρ) {i : Nat} {p : Addr} {kvs lvs : List (Key × V)} {ks ls : List (Str × PyData)} (hρ : ρ[i]? = some (.ods ks)) (hσ : σ[i]? = some (some (.ref p))) (hM : P.M p = none) (hp : P.H p = some (.dK kvs)) (hd : PySem.W.EachIs (DS K P.M) lvs ls) :
    ∃ Q : Pr T, Q.M = P.M ∧ Q.H = upd P.H p (.dK lvs) ∧ St K P0 Q σ (ρ.set i (.ods ls)) := by
  have hl : i < ρ.length := (List.getElem?_eq_some_iff.mp hρ).1
  have lo := s.od.2 i ks p hρ hσ
  have tm : ∀ {x : Nat} {y : Sl}, (ρ.set i (.ods ls))[x]? = some y → (i = x ∧ y = .ods ls) ∨ (i ≠ x ∧ ρ[x]? = some y) := fun h => by
    rcases getset h with ⟨rfl, rfl, _⟩ | ⟨ne, h⟩
    · exact .inl ⟨rfl, rfl⟩
    · exact .inr ⟨ne, h⟩
  refine ⟨⟨P.M, upd P.H p (.dK lvs), fun b u e q => ?_, tabs_mut P.tab hp (fun _ z => nomatch z) (fun _ _ z => by unfold LamX.CodeO at z; cases z), P.nt⟩, rfl, rfl, ⟨⟨s.le.m, fun b u e q => ?_, s.le.f⟩, by rw [List.length_set]; exact s.len, fun j x h => ?_, fun j k q d1 e ne h1 h2 h3 h4 => ?_, fun j e q h1 h2 => ?_, fun j k q k1 k2 ne g1 g2 g3 g4 => ?_, fun j k1 q g1 g2 => ?_⟩⟩
  · have ne : b ≠ p := fun z => by rw [z, hM] at e; cases e
    rw [upd_ne ne]
    exact P.sub b u e q
  · have ne : b ≠ p := fun z => by
      rw [z] at e
      obtain ⟨ps, w⟩ := lo u e
      exact q ps w
    show upd P.H p _ b = some u
    rw [upd_ne ne]
    exact s.le.h b u e q
  · rcases tm h with ⟨rfl, rfl⟩ | ⟨ne, h⟩
    · exact ⟨_, hσ, .ods hM upd_same hd⟩
    · obtain ⟨u, h1, h2⟩ := s.ok j x h
      refine ⟨u, h1, ?_⟩
      cases h2 with
      | no => exact .no
      | val r => exact .val r
      | exn => exact .exn
      | @ods q kv1 k1 b1 b2 b3 =>
        have nq : q ≠ p := fun z => s.od.1 i j p ks k1 ne hρ h hσ (by rw [h1, z])
        exact .ods b1 (by show upd P.H p _ q = _; rw [upd_ne nq]; exact b2) b3
      | @lck q od kvs ds b1 b2 b3 =>
        have nq : q ≠ p := fun z => by
          rw [z, hp] at b2
          cases b2
        exact .lck b1 (by show upd P.H p _ q = _; rw [upd_ne nq]; exact b2) b3
      | @own q e r =>
        refine .own ?_
        cases r with
        | lst a1 a2 a3 =>
          have nq : q ≠ p := fun z => by
            rw [z, hp] at a2
            cases a2
          exact .lst a1 (by show upd P.H p _ q = _; rw [upd_ne nq]; exact a2) a3
        | dT a1 a2 a3 =>
          have nq : q ≠ p := fun z => by
            rw [z, hp] at a2
            cases a2
          exact .dT a1 (by show upd P.H p _ q = _; rw [upd_ne nq]; exact a2) a3
  · rcases tm h1 with ⟨_, z⟩ | ⟨_, h1⟩
    · cases z
    rcases tm h2 with ⟨_, z⟩ | ⟨_, h2⟩
    · cases z
    exact s.dis j k q d1 e ne h1 h2 h3 h4
  · rcases tm h1 with ⟨_, z⟩ | ⟨_, h1⟩
    · cases z
    exact s.fr j e q h1 h2
  · have f1 : ∃ z, ρ[j]? = some (.ods z) := by
      rcases tm g1 with ⟨rfl, _⟩ | ⟨_, g⟩
      · exact ⟨ks, hρ⟩
      · exact ⟨k1, g⟩
    have f2 : ∃ z, ρ[k]? = some (.ods z) := by
      rcases tm g2 with ⟨rfl, _⟩ | ⟨_, g⟩
      · exact ⟨ks, hρ⟩
      · exact ⟨k2, g⟩
    obtain ⟨u1, f1⟩ := f1
    obtain ⟨u2, f2⟩ := f2
    exact s.od.1 j k q u1 u2 ne f1 f2 g3 g4
  · rcases tm g1 with ⟨rfl, _⟩ | ⟨_, g⟩
    · exact s.od.2 i ks q hρ g2
    · exact s.od.2 j k1 q g g2
def mSetS (i : Nat) : MS := fun ρ => some (.nx (ρ.set i (.ods [])))
theorem s_setS {i : Nat} (h : PS X st (tAsg tDNewK (gName i))) : PS X st (tSR K T R (mSetS i)) := ps_to h fun D σ H ⟨P0, P, ρ, o, h1, s, h2, q⟩ => by
  subst h1
  cases h2
  intro p hp
  refine q (P.hid p (.dK []) hp) _ ((s.up (le_hid P hp)).setS (P.none hp) upd_same .nil (loose_back s.le.h (loose_none hp)) i fun j ls r g1 g2 z => ?_)
  obtain ⟨u, k1, k2⟩ := s.ok j _ g1
  rw [g2] at k1
  cases k1
  cases k2 with
  | ods b1 b2 b3 =>
    rw [z, hp] at b2
    cases b2
def putS (ds : List (Str × PyData)) (k : Str) (d : PyData) : List (Str × PyData) := if (ds.any fun e => decide (e.1 = k)) = true then ds.map (fun e => if e.1 = k then (e.1, d) else e) else ds ++ [(k, d)]
def getS (ds : List (Str × PyData)) (k : Str) : Option PyData := (ds.find? fun e => decide (e.1 = k)).map (·.2)
theorem ds_key {M : Hp} {a : Key × V} {b : Str × PyData} (h : DS K M a b) (k : Str) : b.1 = k ↔ a.1 = .inr k := by
  rw [h.1]
  constructor
  · intro z
    rw [z]
  · intro z
    injection z
theorem ds_any {M : Hp} (k : Str) : ∀ {as : List (Key × V)} {bs : List (Str × PyData)}, PySem.W.EachIs (DS K M) as bs → (as.any fun e => decide (e.1 = (.inr k : Key))) = bs.any fun e => decide (e.1 = k)
  | _, _, .nil => rfl
  | a :: as, b :: bs, .cons h t => by
    rw [List.any_cons, List.any_cons, ds_any k t, decide_eq_decide.mpr (ds_key h k)]
theorem ds_map {M : Hp} {k : Str} {v : V} {d : PyData} (r : Rp K M v d) : ∀ {as : List (Key × V)} {bs : List (Str × PyData)}, PySem.W.EachIs (DS K M) as bs → PySem.W.EachIs (DS K M) (as.map fun e => if e.1 = (.inr k : Key) then (e.1, v) else e) (bs.map fun e => if e.1 = k then (e.1, d) else e)
  | _, _, .nil => .nil
  | a :: as, b :: bs, .cons h t => by
    refine .cons ?_ (ds_map r t)
    by_cases z : a.1 = .inr k
    all_goals dsimp only
    · rw [if_pos z, if_pos ((ds_key h k).mpr z)]
      exact ⟨h.1, r⟩
    · rw [if_neg z, if_neg fun w => z ((ds_key h k).mp w)]
      exact h
theorem ds_put {M : Hp} {k : Str} {v : V} {d : PyData} (r : Rp K M v d) {as : List (Key × V)} {bs : List (Str × PyData)} (h : PySem.W.EachIs (DS K M) as bs) : PySem.W.EachIs (DS K M) (putK as (.inr k) v) (putS bs k d) := by
  unfold putK putS
  rw [ds_any k h]
  split
  · exact ds_map r h
  · exact each_app h (.cons ⟨rfl, r⟩ .nil)
theorem ds_get {M : Hp} {k : Str} {d : PyData} : ∀ {as : List (Key × V)} {bs : List (Str × PyData)}, PySem.W.EachIs (DS K M) as bs → getS bs k = some d → ∃ v, valV as (.inr k) = some v ∧ Rp K M v d
  | _, _, .nil, h => by cases h
  | a :: as, b :: bs, .cons h t, hg => by
    unfold getS at hg
    unfold valV
    rw [List.find?_cons] at hg ⊢
    by_cases z : a.1 = .inr k
    · rw [decide_eq_true ((ds_key h k).mpr z)] at hg
      cases hg
      rw [decide_eq_true z]
      exact ⟨_, rfl, h.2⟩
    · rw [decide_eq_false fun w => z ((ds_key h k).mp w)] at hg
      rw [decide_eq_false z]
      exact ds_get t hg
theorem ds_keys {M : Hp} : ∀ {as : List (Key × V)} {bs : List (Str × PyData)}, PySem.W.EachIs (DS K M) as bs → as.map (·.1) = (bs.map (·.1)).map Sum.inr
  | _, _, .nil => rfl
  | _, _, .cons h t => by rw [List.map_cons, List.map_cons, List.map_cons, ds_keys t, h.1]
theorem ds_vals {M : Hp} : ∀ {as : List (Key × V)} {bs : List (Str × PyData)}, PySem.W.EachIs (DS K M) as bs → RpAll K M (as.map (·.2)) (bs.map (·.2))
  | _, _, .nil => .nil
  | _, _, .cons h t => .cons h.2 (ds_vals t)
/-- d[k] = v, d of one's own, its keys texts -/
def mDputS (j : Nat) (key v : ME) : MS := fun ρ => (v ρ).bind fun dv => (key ρ).bind fun d => match d, ρ[j]? with
  | .str k, some (.ods ks) => if ks.length < 1000 then some (.nx (ρ.set j (.ods (putS ks k dv)))) else none
  | _, _ => none
theorem s_dputS {j : Nat} {key v : ME} (h : PS X st (sDPut (tVar j) (tD K T key) (tD K T v))) : PS X st (tSR K T R (mDputS j key v)) := ps_to h fun D σ H ⟨P0, P, ρ, o, h1, s, h2, q⟩ => by
  subst h1
  obtain ⟨dv, ev, h4⟩ := bind_eq h2
  obtain ⟨d, ed, h3⟩ := bind_eq h4
  clear h4 h2
  split at h3
  · rename_i k ks hk
    split at h3
    · rename_i hlt
      cases h3
      obtain ⟨u, g1, g2⟩ := s.ok j _ hk
      cases g2 with
      | @ods p _ _ b1 b2 b3 =>
        refine ⟨P0, P, ρ, dv, rfl, s, ev, fun w P1 l1 rv => ⟨_, g1, P0, P1, ρ, _, rfl, s.up l1, ed, fun y P2 l2 r1 => ?_⟩⟩
        cases r1
        have sl := s.up (l1.trans l2)
        obtain ⟨u', k1, k2⟩ := sl.ok j _ hk
        rw [g1] at k1
        cases k1
        cases k2 with
        | @ods _ as _ c1 c2 c3 =>
          have la : as.length = ks.length := c3.length
          obtain ⟨Q', hQ, hQ', s'⟩ := sl.mutS hk g1 c1 c2 (ds_put (k := k) (rv.ext l2.m) c3)
          refine ⟨p, _, rfl, DPut.k (k := .inr k) c2 (by rw [la]; exact Nat.lt_trans hlt (by decide)), ?_⟩
          rw [← hQ']
          exact q Q' σ s'
    · cases h3
  · cases h3
/-- d[k], d of one's own, its keys texts -/
def mDgetS (j : Nat) (key : ME) : ME := fun ρ => (key ρ).bind fun d => match d, ρ[j]? with
  | .str k, some (.ods ks) => getS ks k
  | _, _ => none
theorem c_dgetS {j : Nat} {key : ME} (h : PE X e (tDGet (tVar j) (tD K T key))) : PE X e (tD K T (mDgetS j key)) := pe_to h fun σ H Q ⟨P0, P, ρ, d, h1, s, h2, q⟩ => by
  subst h1
  obtain ⟨kd, ek, h3⟩ := bind_eq h2
  clear h2
  split at h3
  · rename_i k ks hd
    obtain ⟨u, g1, g2⟩ := s.ok j _ hd
    cases g2 with
    | @ods p as _ b1 b2 b3 =>
      refine ⟨_, g1, P0, P, ρ, _, rfl, s, ek, fun y P1 l1 r1 => ?_⟩
      cases r1
      obtain ⟨v, ev, rv⟩ := ds_get (b3.mono fun _ _ r => ⟨r.1, r.2.ext l1.m⟩) h3
      refine ⟨p, v, rfl, ?_, q v P1 l1 rv⟩
      rw [← ev]
      exact DGet.k (k := .inr k) (l1.h _ _ b2 fun _ z => nomatch z)
  · cases h3
noncomputable def mSortS (j : Nat) : ME := fun ρ => match ρ[j]? with
  | some (.ods ks) => if ks.length < 64 then some (.list (((ks.map (·.1)).mergeSort leS).map .str)) else none
  | _ => none
theorem mSortS_is {j : Nat} (ρ : Ev) (d : PyData) (h : mSortS j ρ = some d) : isLst d = true := by
  unfold mSortS at h
  split at h
  · split at h
    · cases h
      rfl
    · cases h
  · cases h
theorem leS_anti {a b : Str} (h1 : leS a b = true) (h2 : leS b a = true) : a = b := by
  unfold leS at h1 h2
  simp only [Bool.not_eq_true', decide_eq_false_iff_not] at h1 h2
  exact str_ext (List.le_antisymm (List.not_lt.mp h1) (List.not_lt.mp h2))
theorem leS_total (a b : Str) : (leS a b || leS b a) = true := by
  unfold leS
  simp only [Bool.or_eq_true, Bool.not_eq_true', decide_eq_false_iff_not]
  rcases List.le_total a.cps.toList b.cps.toList with h | h
  · exact .inl (List.not_lt.mpr h)
  · exact .inr (List.not_lt.mpr h)
theorem leS_trans (a b c : Str) (h1 : leS a b = true) (h2 : leS b c = true) : leS a c = true := by
  unfold leS at *
  simp only [Bool.not_eq_true', decide_eq_false_iff_not] at *
  exact List.not_lt.mpr (List.le_trans (List.not_lt.mp h1) (List.not_lt.mp h2))
theorem sorted_one {ys ks : List Str} (hp : ys.Perm ks) (hs : sortedS ys = true) : ys = ks.mergeSort leS := by
  have pw : ys.Pairwise fun a b => leS a b = true := by
    cases ys with
    | nil => exact .nil
    | cons y r =>
      obtain ⟨h1, h2⟩ := rising_all r y hs
      refine List.pairwise_cons.mpr ⟨fun b hb => ?_, h2.imp fun {a b} h => ?_⟩
      · unfold leS
        simp only [Bool.not_eq_true', decide_eq_false_iff_not]
        exact List.not_lt.mpr (h1 b hb)
      · unfold leS
        simp only [Bool.not_eq_true', decide_eq_false_iff_not]
        exact List.not_lt.mpr h
  have hq : ys.Perm (ks.mergeSort leS) := hp.trans (List.mergeSort_perm ks leS).symm
  exact hq.eq_of_pairwise (fun a b _ _ h1 h2 => leS_anti h1 h2) pw (leS_sorted ks)
theorem rp_strs' {M : Hp} : ∀ l : List Str, RpAll K M (l.map V.str) (l.map PyData.str)
  | [] => .nil
  | _ :: l => .cons (.str _) (rp_strs' l)
theorem c_sortS {j : Nat} (h : PE X e (tCB (fun xs H Q => ∃ (a : Addr) (kvs : List (Key × V)) (ks : List Str), xs = [.ref a] ∧ Rd H a (.dK kvs) ∧ kvs.map (·.1) = ks.map Sum.inr ∧ ks.length < 64 ∧ ∀ ys p, ys.Perm ks → sortedS ys = true → H p = none → Q (.ref p) (upd H p (.lst (ys.map V.str)))) (tCons (tVar j) tNil))) : PE X e (tF K T (mSortS j)) := pe_to h fun σ H Q ⟨P0, P, ρ, d, h1, s, h2, q⟩ => by
  subst h1
  unfold mSortS at h2
  split at h2
  · rename_i ks hd
    split at h2
    · rename_i hlt
      cases h2
      obtain ⟨u, g1, g2⟩ := s.ok j _ hd
      cases g2 with
      | @ods p _ _ b1 b2 b3 =>
        refine ⟨_, g1, p, _, ks.map (·.1), rfl, .inl b2, ds_keys b3, by rw [List.length_map]; exact hlt, fun ys l hp hs hl => ?_⟩
        rw [sorted_one hp hs]
        exact q l (P.hid l (.lst _) hl) (le_hid P hl) (.lst (P.none hl) upd_same (rp_strs' _)) (loose_none hl)
    · cases h2
  · cases h2
/-! ### a is None -/
def isNn : PyData → Bool
  | .none => true
  | _ => false
def oIsNo (a b : PyData) : Option PyData := match b with
  | .none => some (.bool (isNn a))
  | _ => none
def oNotNo (a b : PyData) : Option PyData := match b with
  | .none => some (.bool (!isNn a))
  | _ => none
theorem rw_none {P : Pr T} {v : V} {d : PyData} (h : Rw K P v d) : decide (v = .non) = isNn d := by
  rcases h with h | ⟨p, rfl, h⟩
  · cases h <;> rfl
  · cases h <;> rfl
theorem od_isNo : OpD K T (fun x y H Q => y = .non ∧ Q (.bl (decide (x = .non))) H) oIsNo := fun P x y a b d ra rb h Q q => by
  unfold oIsNo at h
  split at h
  · cases h
    have e : y = .non := of_decide_eq_true (by rw [rw_none rb]; rfl)
    refine ⟨e, ?_⟩
    rw [rw_none ra]
    exact q _ P (Le.refl P) (.bl _)
  · cases h
theorem od_notNo : OpD K T (fun x y H Q => y = .non ∧ Q (.bl (!decide (x = .non))) H) oNotNo := fun P x y a b d ra rb h Q q => by
  unfold oNotNo at h
  split at h
  · cases h
    have e : y = .non := of_decide_eq_true (by rw [rw_none rb]; rfl)
    refine ⟨e, ?_⟩
    rw [rw_none ra]
    exact q _ P (Le.refl P) (.bl _)
  · cases h
end
end PM
namespace PM
open PySem PySem.Spec PyProof.Rows L2 LB
section
variable {T : Tb} {K : PySem.W.Frag} {X : Cx} {e : Expr}
/-! ### sorted(xs, key=len, reverse=True), xs a list of tuples -/
def tlen : PyData → Nat
  | .tuple xs => xs.length
  | _ => 0
def kLen (b : V × PyData) : PyData := .int (tlen b.2 : Int)
def tSortLen (K : PySem.W.Frag) (t : TA) : TE := fun σ H Q => t σ H fun vs H1 => ∃ (a : Addr) (bs : List (V × PyData)), vs = [.ref a] ∧ SqL K H1 a (bs.map (·.1)) ∧ (∀ b ∈ bs, ∃ q ys, b.1 = .ref q ∧ SqT K H1 q ys ∧ tlen b.2 = ys.length) ∧ bs.length ≤ 1000 ∧
  ∀ p, H1 p = none → Q (.ref p) (upd H1 p (.lst ((bs.mergeSort (PySem.W.dataLe true kLen)).map (·.1))))
theorem each_rel : ∀ {bs : List (V × PyData)} {us : List Value}, Vals (bs.map (·.1)) us → PySem.W.EachIs (fun u (b : V × PyData) => RelV b.1 u) us bs
  | [], _, .nil => .nil
  | _ :: _, _, .cons r rs => .cons r (each_rel rs)
theorem rel_each : ∀ {bs : List (V × PyData)} {us : List Value}, PySem.W.EachIs (fun u (b : V × PyData) => RelV b.1 u) us bs → Vals (bs.map (·.1)) us
  | _, _, .nil => .nil
  | _, _, .cons r rs => .cons r (rel_each rs)
theorem pe_sortLen {t : TA} {p p1 p2 k1 k2 pos : Pos} {j : Nat} (hg : Gl X "sorted") (hm : X.mg "sorted" = none) (hg2 : Gl X "len") (hm2 : X.mg "len" = none) (hu : X.A.units + 64 < cLine) (ha : PA X [e] t)
    (he : backTo pos (starEach [e] X.env) = (false, eval e X.env) :: backTo pos (starEach [] X.env) := by rfl) (hpl : (backTo pos (starEach [e] X.env)).any (·.1) = false := by rfl) :
    PE X (.Call (.Name "sorted" p) [e] [⟨some "key", .Name "len" p1, k1⟩, ⟨some "reverse", .Constant (.bool true) j p2, k2⟩] pos) (tSortLen X.K t) := by
  refine ⟨fun pins s σ H Q I h => ?_⟩
  refine wpAny_Call_Name_kw (ld_blt I hg hm (u := .builtin "sorted") (by decide +kernel) ?_)
  refine PyProof.Rows.callWith_kw (thn (ha.run pos pins s σ H _ I h) fun us s1 ⟨vs, H1, I1, r1, a, bs, hx, hq, hb, hl, q⟩ => ?_) he hpl rfl rfl
  subst hx
  obtain ⟨u, rfl, ru⟩ := vals1 r1
  cases ru
  show wpAny _ _ (evalAll [(do let v ← eval (.Name "len" p1) X.env; standAt pos; pure v), (do let v ← eval (.Constant (.bool true) j p2) X.env; standAt pos; pure v)]) _ _ s1
  refine wpAny_evalAll_cons (wpAny_bind (ld_blt I1 hg2 hm2 (u := .builtin "len") (by decide +kernel) (wpAny_bind (wpAny_standAt (wpAny_pure ?_)))))
  refine wpAny_evalAll_cons (wpAny_bind (thn ((pe_bl (b := true)).run pins s1 σ H1 (fun v H2 => v = .bl true ∧ H2 = H1) I1 ⟨rfl, rfl⟩) fun w s2 ⟨y, H2, I2, r2, hy, hH⟩ => wpAny_bind (wpAny_standAt (wpAny_pure (wpAny_evalAll_nil ?_)))))
  subst hy hH
  cases r2
  obtain ⟨its, rv, pl, hz⟩ := I2.list hq
  have hu' : X.A.units + 64 < cLine := hu
  have key : ∀ d ∈ bs.map kLen, ∃ n : Int, d = .int n := fun d hd => by
    obtain ⟨b, _, rfl⟩ := List.mem_map.mp hd
    exact ⟨_, rfl⟩
  refine PySem.W.sorted_key_data (β := V × PyData) (R := fun u b => RelV b.1 u) (b := true) (f := .builtin "len") kLen pl.isList (each_rel rv) (fun d hd d' hd' => ?_) (.inr fun d hd => ?_) (Nat.le_trans hl (by decide)) (fun x _ => ?_) (PyProof.Rows.ksk_s2 _ _ _) (fun x => PyProof.Rows.ksk_l2 _ _ _) (fun x => PyProof.Rows.ksk_t5 "len" x true) (fun v b hR hbm h tk kp => ?_) (fun out c h' tk kp fr hget hlen each => ?_)
  · obtain ⟨n, rfl⟩ := key d hd
    obtain ⟨m, rfl⟩ := key d' hd'
    rfl
  · obtain ⟨n, rfl⟩ := key d hd
    exact ⟨(fun z => nomatch z), fun _ z => nomatch z⟩
  · show X.A.units + 2 + 0 < cLine
    omega
  · obtain ⟨r, ys, e1, hys, hn⟩ := hb b hbm
    rw [e1] at hR
    cases (show v = Value.ref r from hR)
    obtain ⟨its', r', ⟨o, e, hc, n, hd⟩, hz'⟩ := I2.tuple hys
    have hlen := r'.length
    have h63 := line63
    refine len_tuple (s := { s2 with heap := h, toks := tk }) (items := its'.toArray) ⟨o, kp _ _ e, hc, n, hd⟩ (by simp only [List.size_toArray] <;> omega) ⟨h, tk + 1 + 1, rfl, fun _ _ z => z, ?_⟩
    have e2 : ((its'.toArray.size : Nat) : Int) = (tlen b.2 : Int) := by rw [List.size_toArray, ← hlen, hn]
    rw [e2]
    exact Reads.int _ _
  · have hv := rel_each each
    have I3 : Inv X pins σ (upd H2 (s2.heap.objs.size + 1) (.lst ((bs.mergeSort (PySem.W.dataLe true kLen)).map (·.1)))) { s2 with heap := h', toks := tk } :=
      I2.laid (t' := tk) kp (Nat.le_succ _) (show ObjOk X.prog X.w _ _ _ (.lst _) from ⟨by rw [List.length_map, List.length_mergeSort]; exact Nat.le_trans hl (by decide), out, c, hv, hget⟩)
    exact ⟨.ref _, _, I3, rfl, q _ (I2.hok.fresh (Nat.le_succ _))⟩
noncomputable def mSortLen (a : ME) : ME := fun ρ => (a ρ).bind fun x => match x with
  | .list ds => if ds.all isU = true ∧ ds.length ≤ 1000 then some (.list (ds.mergeSort (PySem.W.dataLe true fun d => .int (tlen d : Int)))) else none
  | _ => none
theorem mSortLen_is {a : ME} (ρ : Ev) (d : PyData) (h : mSortLen a ρ = some d) : isLst d = true := by
  obtain ⟨x, _, h⟩ := bind_eq h
  split at h
  · split at h
    · cases h
      rfl
    · cases h
  · cases h
theorem zip_rp {M : Hp} : ∀ {vs : List V} {ds : List PyData}, RpAll K M vs ds → (vs.zip ds).map (·.1) = vs ∧ (vs.zip ds).map (·.2) = ds ∧ ∀ b ∈ vs.zip ds, Rp K M b.1 b.2
  | _, _, .nil => ⟨rfl, rfl, fun b hb => absurd hb List.not_mem_nil⟩
  | _, _, .cons r rs => by
    obtain ⟨h1, h2, h3⟩ := zip_rp rs
    refine ⟨by rw [List.zip_cons_cons, List.map_cons, h1], by rw [List.zip_cons_cons, List.map_cons, h2], fun b hb => ?_⟩
    rcases List.mem_cons.mp hb with e | e
    · rw [e]
      exact r
    · exact h3 b e
theorem rp_of {M : Hp} : ∀ {bs : List (V × PyData)}, (∀ b ∈ bs, Rp K M b.1 b.2) → RpAll K M (bs.map (·.1)) (bs.map (·.2))
  | [], _ => .nil
  | b :: bs, h => .cons (h b List.mem_cons_self) (rp_of fun x hx => h x (List.mem_cons_of_mem _ hx))
theorem c_sortLen {a : ME} (h : PE X e (tSortLen K (tAw K T (aCons a aNil)))) : PE X e (tF K T (mSortLen a)) := pe_to h fun σ H Q ⟨P0, P, ρ, d, h1, s, h2, q⟩ => by
  subst h1
  obtain ⟨x, ex, h3⟩ := bind_eq h2
  split at h3
  · rename_i ds
    split at h3
    · rename_i hh
      cases h3
      refine ⟨P0, P, ρ, [.list ds], rfl, s, x_cons ex rfl, fun vs P1 l1 r1 => ?_⟩
      cases r1 with
      | cons r1 r2 =>
        cases r2
        obtain ⟨p, xs, rfl, hs, ra⟩ := r1.list
        obtain ⟨z1, z2, z3⟩ := zip_rp ra
        have hlen : (xs.zip ds).length = ds.length := by
          rw [List.length_zip, ra.length, Nat.min_self]
        refine ⟨p, xs.zip ds, rfl, by rw [z1]; exact hs, fun b hb => ?_, by omega, fun l hl => ?_⟩
        · have hr := z3 b hb
          have hu : isU b.2 = true := List.all_eq_true.mp hh.1 b.2 (by rw [← z2]; exact List.mem_map_of_mem hb)
          obtain ⟨v, dd⟩ := b
          cases hr with
          | tup hs2 ra2 => have hs2 := SqT.of (K := K) hs2; exact ⟨_, _, rfl, ex_t P1.sub hs2, by show List.length _ = _; rw [ra2.length]⟩
          | _ => cases hu
        · have em : ((xs.zip ds).mergeSort (PySem.W.dataLe true kLen)).map (·.2) = ds.mergeSort (PySem.W.dataLe true fun d => .int (tlen d : Int)) := by
            have := List.map_mergeSort (r := PySem.W.dataLe true kLen) (s := PySem.W.dataLe true fun d => .int (tlen d : Int)) (f := fun b : V × PyData => b.2) (l := xs.zip ds) fun a _ b _ => rfl
            rw [this, z2]
          have hr := rp_of (K := K) (M := P1.M) (bs := (xs.zip ds).mergeSort (PySem.W.dataLe true kLen)) fun b hb => z3 b (List.mem_mergeSort.mp hb)
          rw [em] at hr
          exact q l (P1.hid l (.lst _) hl) (l1.trans (le_hid P1 hl)) (.lst (P1.none hl) upd_same hr) (loose_back l1.h (loose_none hl))
    · cases h3
  · cases h3
end
end PM

namespace PM
open PySem PySem.Spec PyProof.Rows L2 LB
section
variable {T : Tb} {K : PySem.W.Frag} {X : Cx} {e : Expr} {st : Stmt} {R : ER}
/-! ### an own dict is locked while an expression reads it -/
theorem St.lock {P0 P : Pr T} {σ : L2.St} {ρ : Ev} (s : St K P0 P σ ρ) {i : Nat} {p : Addr} {kvs : List (List Key × V)} {ds : List (PyData × PyData)} (hρ : ρ[i]? = some (.own (.dict ds))) (hσ : σ[i]? = some (some (.ref p))) (hM : P.M p = none) (hp : P.H p = some (.dT kvs)) (hd : PySem.W.EachIs (DT K P.M) kvs ds) (od : Obj) :
    ∃ Q : Pr T, Q.M = P.M ∧ Q.H = upd P.H p (.frz od (.dT kvs)) ∧ St K P0 Q σ (ρ.set i (.lck ds)) := by
  have lo := s.fr i _ p hρ hσ
  have tm : ∀ {x : Nat} {y : Sl}, (ρ.set i (.lck ds))[x]? = some y → (i = x ∧ y = .lck ds) ∨ (i ≠ x ∧ ρ[x]? = some y) := fun h => by
    rcases getset h with ⟨rfl, rfl, _⟩ | ⟨ne, h⟩
    · exact .inl ⟨rfl, rfl⟩
    · exact .inr ⟨ne, h⟩
  refine ⟨⟨P.M, upd P.H p (.frz od (.dT kvs)), fun b u e q => ?_, tabs_mut P.tab hp (fun _ z => nomatch z) (fun _ _ z => by unfold LamX.CodeO at z; cases z), P.nt⟩, rfl, rfl, ⟨⟨s.le.m, fun b u e q => ?_, s.le.f⟩, by rw [List.length_set]; exact s.len, fun j x h => ?_, fun j k q d1 e ne h1 h2 h3 h4 => ?_, fun j e q h1 h2 => ?_, s.od.same i _ fun _ z => nomatch z⟩⟩
  · have ne : b ≠ p := fun z => by rw [z, hM] at e; cases e
    rw [upd_ne ne]
    exact P.sub b u e q
  · have ne : b ≠ p := fun z => by
      rw [z] at e
      obtain ⟨ps, w⟩ := lo u e
      exact q ps w
    show upd P.H p _ b = some u
    rw [upd_ne ne]
    exact s.le.h b u e q
  · rcases tm h with ⟨rfl, rfl⟩ | ⟨ne, h⟩
    · exact ⟨_, hσ, .lck hM upd_same hd⟩
    · obtain ⟨u, h1, h2⟩ := s.ok j x h
      refine ⟨u, h1, ?_⟩
      cases h2 with
      | no => exact .no
      | val r => exact .val r
      | exn => exact .exn
      | @ods q kv1 k1 b1 b2 b3 =>
        have nq : q ≠ p := fun z => by
          rw [z, hp] at b2
          cases b2
        exact .ods b1 (by show upd P.H p _ q = _; rw [upd_ne nq]; exact b2) b3
      | @lck q od kvs ds b1 b2 b3 =>
        have nq : q ≠ p := fun z => by
          rw [z, hp] at b2
          cases b2
        exact .lck b1 (by show upd P.H p _ q = _; rw [upd_ne nq]; exact b2) b3
      | @own q e r =>
        have nq : q ≠ p := fun z => s.dis i j p _ e ne hρ h hσ (by rw [h1, z])
        refine .own ?_
        cases r with
        | lst a1 a2 a3 => exact .lst a1 (by show upd P.H p _ q = _; rw [upd_ne nq]; exact a2) a3
        | dT a1 a2 a3 => exact .dT a1 (by show upd P.H p _ q = _; rw [upd_ne nq]; exact a2) a3
  · rcases tm h1 with ⟨_, z⟩ | ⟨_, h1⟩
    · cases z
    rcases tm h2 with ⟨_, z⟩ | ⟨_, h2⟩
    · cases z
    exact s.dis j k q d1 e ne h1 h2 h3 h4
  · rcases tm h1 with ⟨_, z⟩ | ⟨_, h1⟩
    · cases z
    exact s.fr j e q h1 h2
theorem opn_upd {H : Hp} {p a : Addr} {o : HO} (n : a ≠ p) (h : Opn (upd H p o) a) : Opn H a := by
  rcases h with h | ⟨vs, h⟩
  · exact .inl fun u e => h u (by rw [upd_ne n]; exact e)
  · exact .inr ⟨vs, by rw [upd_ne n] at h; exact h⟩
theorem unlock {P Q P' : Pr T} {p : Addr} {kvs : List (List Key × V)} {od : Obj} (hM : P.M p = none) (hp : P.H p = some (.dT kvs)) (q1 : Q.M = P.M) (q2 : Q.H = upd P.H p (.frz od (.dT kvs))) (l : Le Q P') :
    P'.H p = some (.frz od (.dT kvs)) ∧ P'.M p = none ∧ ∃ P2 : Pr T, P2.M = P'.M ∧ P2.H = upd P'.H p (.dT kvs) ∧ Le P P2 := by
  have hq : Q.H p = some (.frz od (.dT kvs)) := by rw [q2]; exact upd_same
  have hv : P'.H p = some (.frz od (.dT kvs)) := l.h _ _ hq fun _ z => nomatch z
  have hn : P'.M p = none := own_none l (by rw [q1]; exact hM) hq (fun _ z => nomatch z) fun _ z => nomatch z
  refine ⟨hv, hn, ⟨P'.M, upd P'.H p (.dT kvs), fun b u e q => ?_, tabs_mut P'.tab hv (fun _ z => nomatch z) (fun _ _ z => by unfold LamX.CodeO at z; cases z), P'.nt⟩, rfl, rfl, ⟨by rw [← q1]; exact l.m, fun b u e q => ?_, fun a h1 h2 => ?_⟩⟩
  · have ne : b ≠ p := fun z => by rw [z, hn] at e; cases e
    rw [upd_ne ne]
    exact P'.sub b u e q
  · show upd P'.H p (.dT kvs) b = some u
    by_cases z : b = p
    · subst z
      rw [hp] at e
      cases e
      exact upd_same
    · rw [upd_ne z]
      exact l.h b u (by rw [q2, upd_ne z]; exact e) q
  · have ne : a ≠ p := fun z => h2 (by rw [z]; exact hn)
    exact opn_upd ne (by rw [← q2]; exact l.f a (by rw [q1]; exact h1) h2)
def mLock (j : Nat) (m : ME) : ME := fun ρ => match ρ[j]? with
  | some (.own (.dict ds)) => m (ρ.set j (.lck ds))
  | _ => none
theorem c_lockF {j : Nat} {m : ME} (h : PE X e (tF K T m)) : PE X e (tF K T (mLock j m)) := pe_to (pe_lock h) fun σ H Q ⟨P0, P, ρ, d, h1, s, h2, q⟩ => by
  subst h1
  unfold mLock at h2
  split at h2
  · rename_i ds hd
    obtain ⟨u, g1, g2⟩ := s.ok j _ hd
    cases g2 with
    | @own p _ r =>
      cases r with
      | @dT kvs _ a1 a2 a3 =>
        refine ⟨p, .dT kvs, a2, trivial, fun od => ?_⟩
        obtain ⟨Q', hQ, hQ', s'⟩ := s.lock hd g1 a1 a2 a3 od
        refine ⟨P0, Q', _, d, hQ', s', h2, fun v P' l r lo => ?_⟩
        obtain ⟨hv, hn, P2, e1, e2, l2⟩ := unlock a1 a2 hQ hQ' l
        refine ⟨hv, ?_⟩
        have nv : v ≠ p := fun z => by
          obtain ⟨_, o, h3, h4⟩ := r.obj
          obtain ⟨ps, w⟩ := lo (.frz od (.dT kvs)) (by rw [z, hQ']; exact upd_same)
          cases w
        rw [← e2]
        refine q v P2 l2 ?_ fun o ho => lo o (by rw [hQ', upd_ne nv]; exact ho)
        cases r with
        | lst b1 b2 b3 => exact .lst (by rw [e1]; exact b1) (by rw [e2, upd_ne nv]; exact b2) (by rw [e1]; exact b3)
        | dT b1 b2 b3 => exact .dT (by rw [e1]; exact b1) (by rw [e2, upd_ne nv]; exact b2) (by rw [e1]; exact b3)
  · cases h2
theorem each_at {α β : Type} {R : α → β → Prop} : ∀ {as : List α} {bs : List β} {i : Nat} {a : α}, PySem.W.EachIs R as bs → as[i]? = some a → ∃ b, bs[i]? = some b ∧ R a b
  | _, _, _, _, .nil, e => by simp at e
  | _, _, 0, _, .cons h _, e => by
    cases e
    exact ⟨_, rfl, h⟩
  | _, _, i + 1, a, .cons _ r, e => by
    obtain ⟨d, h1, h2⟩ := each_at (i := i) (a := a) r e
    exact ⟨d, h1, h2⟩
/-- for k in d, d locked -/
def iDL (j : Nat) : MA := fun ρ => match ρ[j]? with
  | some (.lck ds) => some (ds.map (·.1))
  | _ => none
theorem c_idl {tg : Expr} {j : Nat} (h : PI X tg e (iKeys (tVar j))) : PI X tg e (tIh K T (iDL j)) := pi_to h fun σ H Q ⟨P0, P, ρ, ds, h1, s, h2, q⟩ => by
  subst h1
  unfold iDL at h2
  split at h2
  · rename_i kd hd
    cases h2
    obtain ⟨u, g1, g2⟩ := s.ok j _ hd
    cases g2 with
    | @lck p od kvs _ a1 a2 a3 =>
      have hl : kvs.length = kd.length := a3.length
      have go : ∀ {P' : Pr T}, Le P P' → P'.H p = some (.frz od (.dT kvs)) := fun l => l.h _ _ a2 fun _ z => nomatch z
      refine ⟨_, g1, p, od, rfl, .inr ⟨kvs, a2, q _ P (Le.refl P) ⟨fun P' l => ⟨go l, by rw [List.length_map]; omega⟩, fun i P' hi l => ⟨go l, by rw [List.length_map] at hi; omega⟩, fun i P' x H'' hi l y => ?_⟩⟩⟩
      obtain ⟨rfl, k, v, b, hk, rfl, ht⟩ := y
      obtain ⟨P'', e1, l1, m1⟩ := show1 P' ht
      obtain ⟨f, f1, f2⟩ := each_at a3 hk
      exact ⟨P'', e1, l1, .tuple (k.map keyD), by rw [List.getElem?_map, f1]; exact congrArg some f2.1, .tup m1 (rp_keys k)⟩
  · cases h2
/-- d[k], d locked -/
def mDgetL (j : Nat) (key : ME) : ME := fun ρ => (key ρ).bind fun d => match d, ρ[j]? with
  | .tuple kd, some (.lck kvs) => (keysK kd).bind fun ks => getD kvs ks
  | _, _ => none
theorem c_dgetL {j : Nat} {key : ME} (h : PE X e (tDGet (tVar j) (tD K T key))) : PE X e (tD K T (mDgetL j key)) := pe_to h fun σ H Q ⟨P0, P, ρ, d, h1, s, h2, q⟩ => by
  subst h1
  obtain ⟨kd, ek, h3⟩ := bind_eq h2
  split at h3
  · rename_i kd kvs hd
    obtain ⟨ks, es, h4⟩ := bind_eq h3
    obtain ⟨u, g1, g2⟩ := s.ok j _ hd
    cases g2 with
    | @lck p od as _ a1 a2 a3 =>
      refine ⟨_, g1, P0, P, ρ, _, rfl, s, ek, fun y P1 l1 r1 => ?_⟩
      cases r1 with
      | @tup b xs _ hb ra =>
        rw [keysK_eq es] at ra
        have ew := rpk_inv ra
        subst ew
        obtain ⟨v, ev, rv⟩ := dt_get (a3.mono fun _ _ r => ⟨r.1, r.2.ext l1.m⟩) h4
        exact ⟨p, v, rfl, .inr ⟨as, ks, b, .inr ⟨od, l1.h _ _ a2 fun _ z => nomatch z⟩, rfl, P1.sub _ _ hb (fun _ z => nomatch z), ev.symm⟩, q v P1 l1 rv⟩
  · cases h3
theorem dt_getN {M : Hp} {k : List Key} : ∀ {as : List (List Key × V)} {bs : List (PyData × PyData)}, PySem.W.EachIs (DT K M) as bs → getD bs k = none → valV as k = none
  | _, _, .nil, _ => rfl
  | a :: as, b :: bs, .cons h t, hg => by
    unfold getD at hg
    unfold valV
    rw [List.find?_cons] at hg ⊢
    by_cases z : a.1 = k
    · rw [decide_eq_true ((dt_key h k).mpr z)] at hg
      cases hg
    · rw [decide_eq_false fun w => z ((dt_key h k).mp w)] at hg
      rw [decide_eq_false z]
      exact dt_getN t hg
/-- d.get(k, x), d of one's own -/
def mDget2 (j : Nat) (key x : ME) : ME := fun ρ => (key ρ).bind fun d => (x ρ).bind fun z => match d, ρ[j]? with
  | .tuple kd, some (.own (.dict kvs)) => (keysK kd).bind fun ks => some ((getD kvs ks).getD z)
  | _, _ => none
theorem c_dget2 {j : Nat} {key x : ME} (h : PE X e (tDGet2 (tVar j) (tD K T key) (tD K T x))) : PE X e (tD K T (mDget2 j key x)) := pe_to h fun σ H Q ⟨P0, P, ρ, d, h1, s, h2, q⟩ => by
  subst h1
  obtain ⟨kd, ek, h3⟩ := bind_eq h2
  obtain ⟨z, ez, h5⟩ := bind_eq h3
  clear h3
  split at h5
  · rename_i kd kvs hd
    obtain ⟨ks, es, h4⟩ := bind_eq h5
    cases h4
    obtain ⟨u, g1, g2⟩ := s.ok j _ hd
    cases g2 with
    | @own p _ r =>
      cases r with
      | @dT as _ a1 a2 a3 =>
        refine ⟨_, g1, p, rfl, .inr ⟨as, .inl a2⟩, P0, P, ρ, _, rfl, s, ek, fun y P1 l1 r1 => ⟨P0, P1, ρ, _, rfl, s.up l1, ez, fun w P2 l2 r2 => ?_⟩⟩
        cases r1 with
        | @tup b xs _ hb ra =>
          rw [keysK_eq es] at ra
          have ew := rpk_inv ra
          subst ew
          have l := l1.trans l2
          have dg : ∀ o, o = valV as ks → DGet P2.H p (.ref b) o := fun o eo => .inr ⟨as, ks, b, .inl (l.h _ _ a2 fun _ z => nomatch z), rfl, P2.sub _ _ (l2.m _ _ hb fun _ z => nomatch z) (fun _ z => nomatch z), eo⟩
          have a4 := a3.mono fun _ _ (r : DT K P.M _ _) => (⟨r.1, r.2.ext l.m⟩ : DT K P2.M _ _)
          cases eg : getD kvs ks with
          | none =>
            refine ⟨none, dg _ (dt_getN a4 eg).symm, q w P2 l ?_⟩
            rw [eg]
            exact r2
          | some dv =>
            obtain ⟨v, ev, rv⟩ := dt_get a4 eg
            refine ⟨some v, dg _ ev.symm, q v P2 l ?_⟩
            rw [eg]
            exact rv
  · cases h5
/-- d[k] = v, k a datum -/
def mDputK (j : Nat) (key v : ME) : MS := fun ρ => (v ρ).bind fun dv => (key ρ).bind fun kd => (keyL kd).bind fun ks => match ρ[j]? with
  | some (.own (.dict kvs)) => if kvs.length < 1000 then some (.nx (ρ.set j (.own (.dict (putD kvs ks dv))))) else none
  | _ => none
theorem s_dputK {j : Nat} {key v : ME} (h : PS X st (sDPut (tVar j) (tD K T key) (tD K T v))) : PS X st (tSR K T R (mDputK j key v)) := ps_to h fun D σ H ⟨P0, P, ρ, o, h1, s, h2, q⟩ => by
  subst h1
  obtain ⟨dv, ev, h3⟩ := bind_eq h2
  obtain ⟨kd, ek, h4⟩ := bind_eq h3
  obtain ⟨ks, es, h5⟩ := bind_eq h4
  split at h5
  · rename_i kvs hd
    split at h5
    · rename_i hlt
      cases h5
      obtain ⟨u, g1, g2⟩ := s.ok j _ hd
      cases g2 with
      | @own p _ r =>
        refine ⟨P0, P, ρ, dv, rfl, s, ev, fun w P1 l1 rv => ⟨_, g1, P0, P1, ρ, kd, rfl, s.up l1, ek, fun y P2 l2 r2 => ?_⟩⟩
        have lt := l1.trans l2
        have r3 := r.up lt
        cases kd with
        | tuple kd =>
          cases r2 with
          | @tup b xs _ hb ra =>
            rw [keysK_eq es] at ra
            have ew := rpk_inv ra
            subst ew
            cases r3 with
            | @dT as _ a1 a2 a3 =>
              have la : as.length = kvs.length := a3.length
              obtain ⟨Q', hQ, hQ', s'⟩ := (s.up lt).mut (o' := .dT (putK as ks w)) (d' := .dict (putD kvs ks dv)) hd g1 a1 a2 (fun _ z => nomatch z) (fun _ _ z => by unfold LamX.CodeO at z; cases z) fun R hM hH => .dT (by rw [hM]; exact a1) (by rw [hH]; exact upd_same) (by rw [hM]; exact dt_put (rv.ext l2.m) a3)
              refine ⟨p, _, rfl, DPut.t a2 (P2.sub _ _ hb fun _ z => nomatch z) (Nat.lt_trans (by rw [la]; exact hlt) (by decide)), ?_⟩
              rw [← hQ']
              exact q Q' σ s'
        | _ => cases es
    · cases h5
  · cases h5
/-! ### [f, g][i](x), what is raised told with the slots -/
def tPick (sp1 sp2 : Sp) (E : L2.St → XK) (K : PySem.W.Frag) (ti : TE) (t : TA) : TE := fun σ H Q => ∀ (p a b : Addr), H p = none → ti σ (upd H p (.lst [.ref a, .ref b])) fun v H1 => uIx K (.ref p) v H1 fun y H2 =>
  (y = .ref a ∧ t σ H2 fun vs H3 => sp1 vs H3 Q (E σ)) ∨ (y = .ref b ∧ t σ H2 fun vs H3 => sp2 vs H3 Q (E σ))
def tFsub (f g : Addr) (sp1 sp2 : Sp) (E : L2.St → XK) (tf : TE) (t : TA) : TE := fun σ H Q => tf σ H fun y H1 => (y = .ref f ∧ t σ H1 fun vs H2 => sp1 vs H2 Q (E σ)) ∨ (y = .ref g ∧ t σ H1 fun vs H2 => sp2 vs H2 Q (E σ))
theorem pe_fsub {CX : CXT} {k1 k2 : Nat} {f g : Addr} {fd gd : FuncData} {ps qs : List Str} {sp1 sp2 : Sp} {E : L2.St → XK} {fe e : Expr} {es : List Expr} {tf : TE} {t : TA} {pos : Pos} (F : FnOk X.prog X.w X.K X.mg X.base CX k1 f fd ps sp1) (G : FnOk X.prog X.w X.K X.mg X.base CX k2 g gd qs sp2) (hr1 : Room k1 X.A) (hr2 : Room k2 X.A)
    (hk1 : PySem.W.keepIn X.K (.ref f) = true) (hk2 : PySem.W.keepIn X.K (.ref g) = true) (hb1 : Binds X.K fd ps []) (hb2 : Binds X.K gd qs []) (hx : ∀ σ, PassesAt CX X σ (E σ)) (hf : PE X fe tf) (ha : PA X (e :: es) t)
    (ht : eval (.Call fe (e :: es) [] pos) X.env = (do callWith pos (← eval fe X.env) [] (backTo pos (starEach (e :: es) X.env)) (backToKw pos (keywordEach [] X.env))) := by rfl)
    (he : starEach (e :: es) X.env = (false, eval e X.env) :: starEach es X.env := by rfl) (hpl : (backTo pos (starEach es X.env)).any (·.1) = false := by rfl) :
    PE X (.Call fe (e :: es) [] pos) (tFsub f g sp1 sp2 E tf t) := by
  refine ⟨fun pins s σ H Q I h => ?_⟩
  refine Call_ (thn (hf.run pins s σ H _ I h) fun u s1 ⟨y, H1, I1, ry, q⟩ => ?_) ht
  rcases q with ⟨rfl, q⟩ | ⟨rfl, q⟩
  · cases ry
    refine PySem.W.callWith_K (h₀ := X.base) I.ok.mod.kin hk1 (thn (ha.run pos pins s1 σ H1 _ I1 q) fun us s2 ⟨vs, H2, I2, r, q2⟩ => ⟨I2.kIn, ?_⟩) he hpl
    exact run_fnS F hr1 hb1 (hx σ) I2 r q2
  · cases ry
    refine PySem.W.callWith_K (h₀ := X.base) I.ok.mod.kin hk2 (thn (ha.run pos pins s1 σ H1 _ I1 q) fun us s2 ⟨vs, H2, I2, r, q2⟩ => ⟨I2.kIn, ?_⟩) he hpl
    exact run_fnS G hr2 hb2 (hx σ) I2 r q2
theorem pe_pick {k1 k2 j : Nat} {x y : Str} {ps qs : List Str} {sp1 sp2 : Sp} {W : WX} {ie e : Expr} {es : List Expr} {ti : TE} {t : TA} {p1 p2 p3 p4 pos : Pos} (F : OwnFn X.prog X.w X.K X.mg X.base k1 x ps sp1) (G : OwnFn X.prog X.w X.K X.mg X.base k2 y qs sp2) (hr : Room j X.A) (tk : Takes X W) (hi : PE X ie ti) (ha : PA X (e :: es) t)
    (hk1 : k1 ≤ j := by decide) (hk2 : k2 ≤ j := by decide) (hg1 : Gl X x := by rfl) (hg2 : Gl X y := by rfl) (hd1 : (x == ("__debug__" : Str)) = false := by decide) (hd2 : (y == ("__debug__" : Str)) = false := by decide) (hns : NoSl ie := by exact fun _ _ => rfl)
    (ht : eval (.Call (.Subscript (.List [.Name x p1, .Name y p2] p3) ie p4) (e :: es) [] pos) X.env = (do callWith pos (← eval (.Subscript (.List [.Name x p1, .Name y p2] p3) ie p4) X.env) [] (backTo pos (starEach (e :: es) X.env)) (backToKw pos (keywordEach [] X.env))) := by rfl)
    (he : starEach (e :: es) X.env = (false, eval e X.env) :: starEach es X.env := by rfl) (hpl : (backTo pos (starEach es X.env)).any (·.1) = false := by rfl) :
    PE X (.Call (.Subscript (.List [.Name x p1, .Name y p2] p3) ie p4) (e :: es) [] pos) (tPick sp1 sp2 (WE W) X.K ti t) := by
  obtain ⟨f, fd, F', hm1, kp1, b1, _⟩ := F.fn
  obtain ⟨g, gd, G', hm2, kp2, b2, _⟩ := G.fn
  have hl : PE X (.List [.Name x p1, .Name y p2] p3) (tLst (tCons (tC (.ref f)) (tCons (tC (.ref g)) tNil))) := pe_lst (pa_cons (pe_glob hg1 hm1 rfl hd1) (pa_cons (pe_glob hg2 hm2 rfl hd2) pa_nil))
  refine pe_to (pe_fsub F' G' (hr.mono hk1) (hr.mono hk2) kp1 kp2 b1 b2 (fun σ => passAt tk σ) (pe_ix (ix_u (K := X.K)) hl hi hns) ha ht he hpl) fun σ H Q h => ?_
  exact ⟨by show 2 ≤ sizeLine; decide, fun p hp => h p f g hp⟩
def mPick (f g : List PyData → Option Rs) (i : ME) (a : MA) : MX := fun ρ => (i ρ).bind fun d => match d with
  | .int 0 => mCbX f a ρ
  | .int 1 => mCbX g a ρ
  | _ => none
theorem c_pick {W : WX} {f g : List PyData → Option Rs} {i : ME} {a : MA} (h : PE X e (tPick (spX K T f) (spX K T g) (WE W) K (tD K T i) (tA K T a))) : PE X e (tDX K T (erW K W) (mPick f g i a)) := pe_to h fun σ H Q ⟨P0, P, ρ, r, h1, s, h2, q⟩ => by
  subst h1
  obtain ⟨d, ei, h3⟩ := bind_eq h2
  intro p fa ga hp
  refine ⟨P0, P.hid p _ hp, ρ, d, rfl, s.up (le_hid P hp), ei, fun v P1 l1 r1 => ?_⟩
  have l := (le_hid P hp).trans l1
  have hq : P1.H p = some (.lst [.ref fa, .ref ga]) := l1.h _ _ upd_same fun _ z => nomatch z
  have q1 := q.up l
  split at h3
  · cases r1
    refine .inl ⟨p, _, _, _, rfl, rfl, SqL.of hq, rfl, .inl ⟨rfl, ?_⟩⟩
    obtain ⟨x, ex, h4⟩ := bind_eq h3
    refine ⟨P0, P1, ρ, x, rfl, s.up l, ex, fun vs P2 l2 r2 => ⟨P2, x, r, rfl, r2, h4, ?_⟩⟩
    have q2 := q1.up l2
    cases r with
    | ok d => exact q2
    | error c => exact q2
  · cases r1
    refine .inl ⟨p, _, _, _, rfl, rfl, SqL.of hq, rfl, .inr ⟨rfl, ?_⟩⟩
    obtain ⟨x, ex, h4⟩ := bind_eq h3
    refine ⟨P0, P1, ρ, x, rfl, s.up l, ex, fun vs P2 l2 r2 => ⟨P2, x, r, rfl, r2, h4, ?_⟩⟩
    have q2 := q1.up l2
    cases r with
    | ok d => exact q2
    | error c => exact q2
  · cases h3
/-! ### isinstance(e, (C1, C2, ..)) of a caught error -/
theorem call_isPT {X : Cx} {a D : Addr} {oe : Obj} (C : ExcC X.K D) (hp : (a, oe) ∈ X.pn) (hz : Zc (.ref D) none oe) (hf : ∃ vs, oe.data = .fields vs) : CallR X (.builtin "isinstance") (rIsET X.K D a) := by
  intro pins s σ H xs us Q I r h
  obtain ⟨tp, cs, ws, b, rfl, hT, k, e, q⟩ := h
  obtain ⟨u1, u2, rfl, r1, r2⟩ := vals2 r
  cases (show u2 = Value.ref tp from r2)
  cases (show u1 = Value.ref a from r1)
  obtain ⟨hget, _⟩ := I.pin (a, oe) (List.mem_append.mpr (.inl hp))
  obtain ⟨vs, hv⟩ := hf
  have J : PySem.W.InstAt s.heap a oe D none := by
    obtain ⟨oc, od, oda, osl⟩ := oe
    obtain ⟨h1, h2⟩ := hz
    dsimp only at h1 h2 hv
    subst h1 h2 hv
    exact ⟨hget, rfl, rfl, trivial⟩
  obtain ⟨_, its, rv, o, h1, h2, n, h3⟩ := (show ObjOk X.prog X.w H s.heap tp (.tup cs) from I.hok tp _ hT)
  have e3 := ClsV.all k rv
  subst e3
  obtain ⟨oc, od, dt, sl⟩ := o
  simp only at h2 h3
  subst h2 h3
  exact PySem.W.kia_tup (PySem.W.handS_kitx_exc C.hg C.hk C.hs C.hd C.ha C.hn C.ht C.hm) I.kIn J h1 e (fun z => nomatch z) fun tk => ⟨.bl b, H, I.kept (t' := tk) fun _ _ z => z, rfl, q⟩
def tRefs (K : PySem.W.Frag) : List Str → TA
  | [] => tNil
  | x :: l => tCons (tC (.ref (He.ga K x))) (tRefs K l)
theorem trefs {σ : L2.St} {H : Hp} : ∀ {l : List Str} {Q : List V → Hp → Prop}, Q (l.map fun x => V.ref (He.ga K x)) H → tRefs K l σ H Q
  | [], _, h => h
  | _ :: l, _, h => trefs (l := l) h
theorem c_isET {i : Nat} {a D : Addr} {b : Bool} {l : List Str} (hl : l.length ≤ 100) (hk : PySem.W.kitAny K (.ref D) (refs K l) = some b) (h : PE X e (tCB (rIsET K D a) (tCons (tVar i) (tCons (tTup (tRefs K l)) tNil)))) : PE X e (tD K T (mE i a (.bool b))) := pe_to h fun σ H Q ⟨P0, P, ρ, d, h1, s, h2, q⟩ => by
  subst h1
  obtain ⟨g1, rfl⟩ := mE_at s h2
  refine ⟨_, g1, trefs ⟨Nat.le_trans (by rw [List.length_map]; exact hl) (by decide), fun p hp => ?_⟩⟩
  exact ⟨p, _, _, b, rfl, upd_same, refs_cls K l, hk, q _ (P.hid p _ hp) (le_hid P hp) (.bl b)⟩
/-! ### a call that may raise, and does not -/
def okF (f : List PyData → Option Rs) : List PyData → Option PyData := fun x => (f x).bind fun r => match r with
  | .ok d => some d
  | .error _ => none
theorem c_callOk {E : XK} {f : List PyData → Option Rs} {a : MA} (h : PE X e (tCall (spX K T f) [] E (tA K T a))) : PE X e (tD K T (mCb (okF f) a)) := pe_to h fun σ H Q ⟨P0, P, ρ, d, h1, s, h2, q⟩ => by
  subst h1
  obtain ⟨x, ex, h3⟩ := bind_eq h2
  obtain ⟨r, er, h4⟩ := bind_eq h3
  refine ⟨P0, P, ρ, x, rfl, s, ex, fun vs P1 l1 r1 => ?_⟩
  show spX K T f (vs ++ []) P1.H Q E
  rw [List.append_nil]
  refine ⟨P1, x, r, rfl, r1, er, ?_⟩
  split at h4
  · cases h4
    exact fun v P2 l2 r2 => q v P2 (l1.trans l2) r2
  · cases h4
theorem mLock_is {j : Nat} {m : ME} (hm : ∀ ρ d, m ρ = some d → isLst d = true) (ρ : Ev) (d : PyData) (h : mLock j m ρ = some d) : isLst d = true := by
  unfold mLock at h
  split at h
  · exact hm _ _ h
  · cases h
end
end PM

namespace PM
open PySem PySem.Spec PyProof.Rows L2 LB
section
variable {T : Tb} {K : PySem.W.Frag} {X : Cx} {e : Expr} {st : Stmt} {R : ER}
/-! ### an own dict with text keys is one's own no more: data may stand on it -/
def dcD (ds : List (Str × PyData)) : PyData := .dict (ds.map fun e => (.str e.1, e.2))
theorem dc_keys {M : Hp} : ∀ {as : List (Key × V)} {bs : List (Str × PyData)}, PySem.W.EachIs (DS K M) as bs → as.map (fun e => keyD e.1) = (bs.map fun e => (PyData.str e.1, e.2)).map (·.1)
  | _, _, .nil => rfl
  | _, _, .cons h t => by rw [List.map_cons, List.map_cons, List.map_cons, dc_keys t, h.1]; rfl
theorem dc_vals {M : Hp} {as : List (Key × V)} {bs : List (Str × PyData)} (h : PySem.W.EachIs (DS K M) as bs) : RpAll K M (as.map (·.2)) ((bs.map fun e => (PyData.str e.1, e.2)).map (·.2)) := by
  rw [List.map_map]
  exact ds_vals h
theorem St.relS {P0 P : Pr T} {σ : L2.St} {ρ : Ev} (s : St K P0 P σ ρ) {i : Nat} {ds : List (Str × PyData)} (hρ : ρ[i]? = some (.ods ds)) : ∃ Q : Pr T, Q.H = P.H ∧ St K P0 Q σ (ρ.set i (.val (dcD ds))) := by
  obtain ⟨o, hσ, k⟩ := s.ok i _ hρ
  cases k with
  | @ods p kvs _ a1 a2 a3 =>
    have lo := s.od.2 i _ p hρ hσ
    have eM : Ex P.M (upd P.M p (.dK kvs)) := fun b u e q => by
      have ne : b ≠ p := fun z => by rw [z, a1] at e; cases e
      rw [upd_ne ne]
      exact e
    refine ⟨⟨upd P.M p (.dK kvs), P.H, fun b u e q => ?_, P.tab, nt_upd P.nt fun _ z => nomatch z⟩, rfl, ⟨⟨s.le.m.trans eM, s.le.h, fun a h1 h2 => ?_⟩, by rw [List.length_set]; exact s.len, fun j x h => ?_, fun j k q d1 e ne h1 h2 h3 h4 => ?_, fun j e q h1 h2 => ?_, s.od.same i _ fun _ z => nomatch z⟩⟩
    · by_cases z : b = p
      · subst z
        rw [upd_same] at e
        cases e
        exact a2
      · rw [upd_ne z] at e
        exact P.sub b u e q
    · by_cases z : a = p
      · subst z
        exact .inl lo
      · refine s.le.f a h1 ?_
        have h2 : upd P.M p (.dK kvs) a ≠ none := h2
        rw [upd_ne z] at h2
        exact h2
    · rcases getset h with ⟨rfl, rfl, _⟩ | ⟨ne, h⟩
      · have a4 : PySem.W.EachIs (DS K (upd P.M p (.dK kvs))) kvs ds := a3.mono fun _ _ r => ⟨r.1, r.2.ext eM⟩
        exact ⟨_, hσ, .val (.dct upd_same (dc_keys a4) (dc_vals a4))⟩
      · obtain ⟨u, h1, h2⟩ := s.ok j x h
        refine ⟨u, h1, ?_⟩
        cases h2 with
        | no => exact .no
        | val r => exact .val (r.ext eM)
        | exn => exact .exn
        | @ods q kv1 ks b1 b2 b3 =>
          have nq : q ≠ p := fun z => s.od.1 i j p ds ks ne hρ h hσ (by rw [h1, z])
          exact .ods (by show upd P.M p _ q = _; rw [upd_ne nq]; exact b1) b2 (b3.mono fun _ _ r => ⟨r.1, r.2.ext eM⟩)
        | @lck q od kv1 ds b1 b2 b3 =>
          have nq : q ≠ p := fun z => by
            rw [z, a2] at b2
            cases b2
          exact .lck (by show upd P.M p _ q = _; rw [upd_ne nq]; exact b1) b2 (b3.mono fun _ _ r => ⟨r.1, r.2.ext eM⟩)
        | @own q e r =>
          refine .own ?_
          cases r with
          | lst b1 b2 b3 =>
            have nq : q ≠ p := fun z => by
              rw [z, a2] at b2
              cases b2
            exact .lst (by show upd P.M p _ q = _; rw [upd_ne nq]; exact b1) b2 (b3.ext eM)
          | dT b1 b2 b3 =>
            have nq : q ≠ p := fun z => by
              rw [z, a2] at b2
              cases b2
            exact .dT (by show upd P.M p _ q = _; rw [upd_ne nq]; exact b1) b2 (b3.mono fun _ _ r => ⟨r.1, r.2.ext eM⟩)
    · rcases getset h1 with ⟨_, z, _⟩ | ⟨_, h1⟩
      · cases z
      rcases getset h2 with ⟨_, z, _⟩ | ⟨_, h2⟩
      · cases z
      exact s.dis j k q d1 e ne h1 h2 h3 h4
    · rcases getset h1 with ⟨_, z, _⟩ | ⟨_, h1⟩
      · cases z
      exact s.fr j e q h1 h2
def mRelS (i : Nat) (m : MS) : MS := fun ρ => match ρ[i]? with
  | some (.ods ds) => m (ρ.set i (.val (dcD ds)))
  | _ => m ρ
theorem s_relS (i : Nat) {m : MS} (h : PS X st (tSR K T R m)) : PS X st (tSR K T R (mRelS i m)) := ps_to h fun D σ H z => by
  obtain ⟨P0, P, ρ, o, h1, s, h2, q⟩ := z
  subst h1
  unfold mRelS at h2
  split at h2
  · rename_i ds hd
    obtain ⟨Q', hQ, s'⟩ := s.relS hd
    exact ⟨P0, Q', _, o, hQ, s', h2, q⟩
  · exact ⟨P0, P, ρ, o, rfl, s, h2, q⟩
/-! ### d[k] of a datum -/
def getC : List (PyData × PyData) → Str → Option PyData
  | [], _ => none
  | (.str x, d) :: r, k => if x = k then some d else getC r k
  | _ :: _, _ => none
theorem getC_in {M : Hp} {k : Str} {d : PyData} : ∀ {kvs : List (Key × V)} {ds : List (PyData × PyData)}, kvs.map (fun e => keyD e.1) = ds.map (·.1) → RpAll K M (kvs.map (·.2)) (ds.map (·.2)) → getC ds k = some d → ∃ v, valV kvs (.inr k) = some v ∧ Rp K M v d
  | [], [], _, _, h => by cases h
  | (a, v) :: kvs, (b, dv) :: ds, h1, h2, h => by
    rw [List.map_cons, List.map_cons] at h1 h2
    injection h1 with e1 e2
    cases h2 with
    | cons r1 r2 =>
      dsimp only at e1 r1
      cases a with
      | inl i =>
        subst e1
        cases h
      | inr x =>
        subst e1
        have h : (if x = k then some dv else getC ds k) = some d := h
        unfold valV
        rw [List.find?_cons]
        by_cases z : x = k
        · subst z
          rw [if_pos rfl] at h
          cases h
          rw [decide_eq_true rfl]
          exact ⟨_, rfl, r1⟩
        · rw [if_neg z] at h
          rw [decide_eq_false (fun w => z (by injection w))]
          exact getC_in e2 r2 h
  | [], _ :: _, h1, _, _ => by cases h1
  | _ :: _, [], h1, _, _ => by cases h1
def oGetC (a b : PyData) : Option PyData := match a, b with
  | .dict ds, .str k => getC ds k
  | _, _ => none
theorem c_dgetC {a key : ME} (h : PE X e (tDGet (tD K T a) (tD K T key))) : PE X e (tD K T (mOp oGetC a key)) := pe_to h fun σ H Q ⟨P0, P, ρ, d, h1, s, h2, q⟩ => by
  subst h1
  obtain ⟨x, ex, h3⟩ := bind_eq h2
  obtain ⟨y, ey, h4⟩ := bind_eq h3
  clear h2 h3
  unfold oGetC at h4
  split at h4
  · rename_i ds k
    refine ⟨P0, P, ρ, _, rfl, s, ex, fun v P1 l1 r1 => ⟨P0, P1, ρ, _, rfl, s.up l1, ey, fun w P2 l2 r2 => ?_⟩⟩
    cases r2
    have r3 := r1.ext l2.m
    cases r3 with
    | @dct p kvs _ hp hk hv =>
      obtain ⟨u, eu, ru⟩ := getC_in hk hv h4
      refine ⟨p, u, rfl, ?_, q u P2 (l1.trans l2) ru⟩
      rw [← eu]
      exact DGet.k (k := .inr k) (P2.sub _ _ hp fun _ z => nomatch z)
    | @dcT p od kvs _ hp hk hv =>
      exfalso
      cases ds with
      | nil => cases h4
      | cons b r =>
        cases kvs with
        | nil => cases hk
        | cons a kvs =>
          obtain ⟨b1, b2⟩ := b
          have : PyData.tuple (a.1.map keyD) = b1 := by injection hk
          subst this
          cases h4
  · cases h4
end
end PM

namespace PM
open PySem PySem.Spec PyProof.Rows L2 LB
section
variable {T : Tb} {K : PySem.W.Frag} {X : Cx} {e : Expr} {st : Stmt} {R : ER}
/-! ### sorted(d.values()), the values texts -/
theorem vals_str {kvs : List (Key × V)} {vs : List (Key × Value)} {ks : List Str} (rel : KV kvs vs) (hv : kvs.map (·.2) = ks.map V.str) {j : Nat} {k : Key} {v : Value} (h : vs[j]? = some (k, v)) : ∃ y t, ks[j]? = some y ∧ v = Value.str y t := by
  obtain ⟨x, h1, h2⟩ := KV.at' rel h
  have e1 : (kvs.map (·.2))[j]? = some x := by rw [List.getElem?_map, h1] <;> rfl
  rw [hv, List.getElem?_map] at e1
  obtain ⟨y, hy, e2⟩ := Option.map_eq_some_iff.mp e1
  subst e2
  obtain ⟨t, e3⟩ := h2
  exact ⟨y, t, hy, e3⟩
theorem view_sort {pins : List (Addr × Obj)} {σ : L2.St} {H : Hp} {s : Shared} {Q : VK} {r a : Addr} {kvs : List (Key × V)} {vs : List (Key × Value)} {ks : List Str} {ep : Nat} (hcalm : X.calm = true) (I : Inv X pins σ H s) (view : s.heap.IsValuesView r a) (hat : s.heap.DictAt (mixKind X.prog X.w) a vs ep) (rel : KV kvs vs)
    (hv : kvs.map (·.2) = ks.map V.str) (few : ks.length < 64) (q : ∀ ys p, ys.Perm ks → sortedS ys = true → H p = none → Q (.ref p) (upd H p (.lst (ys.map V.str)))) :
    wpAny (model X.prog X.w) X.A (call (.builtin "sorted") [.ref r]) (EP X pins σ Q) X.xe s := by
  have lv : vs.length = ks.length := by
    have e1 := congrArg List.length hv
    rw [List.length_map, List.length_map] at e1
    rw [← e1]
    exact (KV.length rel).symm
  have big : vs.length ≤ sizeLine := by
    rw [lv]
    exact Nat.le_trans (Nat.le_of_lt few) (by decide)
  refine Calls.call_function_entry kind_sorted plain_sorted entry_sorted (args_sorted1 _) ?_
  unfold Builtin.«sorted»
  refine wpAny_bind (m := checkCount "sorted" 1 1 _) (wpAny_pure ?_)
  refine wpAny_bind (PySem.W.kdu_collect (A := X.A.in1) (PySem.W.kdl_values (knd := mixKind X.prog X.w) (kvs := vs) (ep := ep)) (I.ok.hd hcalm) ⟨view, hat⟩ big fun hp tk acc hk ha => ?_)
  have la : acc.toList.length = ks.length := by rw [Array.length_toList, ha.1, lv]
  have S : StrsAre acc.toList ks := strs_at la fun j v ej => by
    obtain ⟨k, hk⟩ := ha.2 j v (by rw [← Array.getElem?_toList]; exact ej)
    obtain ⟨y, t, hy, ey⟩ := vals_str rel hv hk
    exact ⟨y, t, hy, ey⟩
  have I1 : Inv X pins σ H { s with heap := hp, toks := tk } := I.kept hk
  refine wpAny_bind (wpAny_newList ?_ (by rw [la]; exact Nat.le_trans (Nat.le_of_lt few) (by decide)))
  have at1 : (hp.push (seqObj "list" acc.toList.toArray 0)).get? hp.objs.size = some (seqObj "list" acc.toList.toArray 0) := Heap.get?_push_size _ rfl
  show wpAny _ _ _ _ _ { s with heap := hp.push (seqObj "list" acc.toList.toArray 0), toks := tk }
  refine wpAny_bind (wpAny_holding (wpAny_call_entry slot_list_sort ⟨_, at1, rfl⟩ entry_list_sort
    (list_sort_treeK strKind_oneLt (s := { s with heap := hp.push (seqObj "list" acc.toList.toArray 0), toks := tk }) at1 S.keysOf (fun u1 u2 rest z => keyKind_strs (by rw [← z]; exact S)) (by rw [la]; exact few) fun st' z1 z2 => ⟨_, rfl, ?_⟩) (args_list_sort _)))
  obtain ⟨ys, g1, g2, g3⟩ := sorted_out_str S z1 z2
  obtain ⟨ep', at2⟩ := sortedHeap_at (vs := acc.toList) (out := (arrOf st').map (·.2)) at1
  have ly : (ys.map V.str).length ≤ sizeLine := by
    rw [List.length_map, g2.length_eq]
    exact Nat.le_trans (Nat.le_of_lt few) (by decide)
  refine wpAny_pure ⟨_, rfl, .ref hp.objs.size, upd H hp.objs.size (.lst (ys.map V.str)), I1.laid (t' := tk) (fun b u eb => ?_) (Nat.le_refl _) (show ObjOk X.prog X.w _ _ _ (.lst (ys.map V.str)) from ⟨ly, ((arrOf st').map (·.2)).toList, ep', vals_of_strs g1, by rw [Array.toArray_toList]; exact at2⟩), rfl, q ys _ g2 g3 (I1.hok.fresh (Nat.le_refl _))⟩
  have lt := Heap.lt_size eb
  rw [sortedHeap_old (Nat.ne_of_lt lt) (by rw [size_push']; exact Nat.lt_succ_of_lt lt)]
  exact Heap.get?_push_of_some _ eb
def tSortVals (td : TE) : TE := fun σ H Q => td σ H fun x H1 => ∃ a kvs ks, x = V.ref a ∧ H1 a = some (.dK kvs) ∧ kvs.map (·.2) = ks.map V.str ∧ ks.length < 64 ∧ ∀ ys p, ys.Perm ks → sortedS ys = true → H1 p = none → Q (.ref p) (upd H1 p (.lst (ys.map V.str)))
theorem pe_sortVals {o : Expr} {p pos apos mpos : Pos} {td : TE} (hc : X.calm = true) (hg : Gl X "sorted") (hm : X.mg "sorted" = none) (hd : PE X o td) (hbase : attributeBase o "values" X.env (eval o X.env) = eval o X.env := by rfl) (hline : (apos.endLine == mpos.line) = true := by rfl)
    (hse : starEach [Expr.Call (.Attribute o "values" apos) [] [] mpos] X.env = [(false, eval (Expr.Call (.Attribute o "values" apos) [] [] mpos) X.env)] := by rfl) :
    PE X (.Call (.Name "sorted" p) [.Call (.Attribute o "values" apos) [] [] mpos] [] pos) (tSortVals td) := by
  refine ⟨fun pins s σ H Q I h => ?_⟩
  refine wpAny_Call_Name_kw (ld_blt I hg hm (u := .builtin "sorted") (by first | rfl | decide +kernel) ?_ (by first | decide +kernel | decide) (by first | decide +kernel | decide))
  rw [hse]
  refine PySem.callWith_builtin1 (wpAny_Call_method0_late hbase hline (thn (hd.run pins s σ H _ I h) fun v s1 ⟨x, H1, I1, r1, a, kvs, ks, ex, ha, hv, few, q⟩ => ?_))
  subst ex
  obtain rfl : v = Value.ref a := r1
  obtain ⟨_, lo, vs, rel, dof⟩ := dk_of I1.hok ha
  obtain ⟨ep, dat⟩ := dof.dictAt
  obtain ⟨ob, es, ho, cls, _⟩ := id dat
  refine ⟨"dict", "dict.values", F.plainAttrs_dict, F.slot_dict_values, F.type_dict_values, ⟨ob, ho, cls.1⟩, fun b z => ?_, Calls.callWith_builtin rfl (PySem.evalArgs_none ?_)⟩
  · cases z
    exact ⟨ob, ho, cls.2.1⟩
  refine call_meetsIn F.slot_dict_values ⟨ob, ho, cls.1⟩ F.entry_dict_values (F.args_dict_values_1 _) (meets_dict_values (mixKind X.prog X.w) a lo) ⟨⟨vs, dof⟩, ?_⟩
  have old : ∀ b u, s1.heap.get? b = some u → (s1.heap.push { cls := .type "dict_values", data := .fields #[.ref a] }).get? b = some u := fun b u z => Heap.get?_push_of_some _ z
  exact view_sort hc (I1.kept (t' := s1.toks) old) ⟨_, Heap.get?_push_size _ rfl, rfl, rfl⟩ (dat.keep old) rel hv few q
def valsS : List (PyData × PyData) → Option (List Str)
  | [] => some []
  | (.str _, .str x) :: r => (valsS r).map fun l => x :: l
  | _ :: _ => none
theorem vals_in {M : Hp} : ∀ {vs : List V} {ds : List (PyData × PyData)} {l : List Str}, RpAll K M vs (ds.map (·.2)) → valsS ds = some l → vs = l.map V.str
  | _, [], _, .nil, h => by
    cases h
    rfl
  | _, (.str _, .str x) :: r, l, .cons h1 h2, h => by
    obtain ⟨l', el, rfl⟩ := map_eq h
    cases h1
    rw [List.map_cons, ← vals_in h2 el]
noncomputable def oSortVals (d : PyData) : Option PyData := match d with
  | .dict ds => (valsS ds).bind fun l => if 0 < l.length ∧ l.length < 64 then some (.list ((l.mergeSort leS).map .str)) else none
  | _ => none
theorem mSortVals_is {a : ME} (ρ : Ev) (d : PyData) (h : mUn oSortVals a ρ = some d) : isLst d = true := by
  obtain ⟨x, _, h⟩ := bind_eq h
  unfold oSortVals at h
  split at h
  · obtain ⟨l, _, h⟩ := bind_eq h
    split at h
    · cases h
      rfl
    · cases h
  · cases h
theorem c_sortVals {a : ME} (h : PE X e (tSortVals (tD K T a))) : PE X e (tF K T (mUn oSortVals a)) := pe_to h fun σ H Q ⟨P0, P, ρ, d, h1, s, h2, q⟩ => by
  subst h1
  obtain ⟨x, ex, h3⟩ := bind_eq h2
  unfold oSortVals at h3
  split at h3
  · rename_i ds
    obtain ⟨l, el, h4⟩ := bind_eq h3
    split at h4
    · rename_i few
      cases h4
      refine ⟨P0, P, ρ, _, rfl, s, ex, fun v P1 l1 r1 => ?_⟩
      cases r1 with
      | @dct p kvs _ hp hk hv =>
        refine ⟨p, kvs, l, rfl, P1.sub _ _ hp (fun _ z => nomatch z), vals_in hv el, few.2, fun ys b pm so hb => ?_⟩
        rw [sorted_one pm so]
        exact q b (P1.hid b (.lst _) hb) (l1.trans (le_hid P1 hb)) (.lst (P1.none hb) upd_same (rp_strs' _)) (loose_back l1.h (loose_none hb))
      | @dcT p od kvs _ hp hk hv =>
        exfalso
        cases ds with
        | nil =>
          cases el
          exact absurd few.1 (by decide)
        | cons b r =>
          cases kvs with
          | nil => cases hk
          | cons a kvs =>
            obtain ⟨b1, b2⟩ := b
            have : PyData.tuple (a.1.map keyD) = b1 := by injection hk
            subst this
            cases el
    · cases h4
  · cases h3
/-! ### f() -/
theorem pe_own0 {k j : Nat} {x : Str} {ps : List Str} {sp : Sp} {E : XK} {p pos : Pos} (F : OwnFn X.prog X.w X.K X.mg X.base k x ps sp) (hr : Room j X.A) (hx : Passes (L2.CX X.prog X.w) X E)
    (hk : k ≤ j := by decide) (hg : Gl X x := by rfl) (hdb : (x == ("__debug__" : Str)) = false := by decide) : PE X (.Call (.Name x p) [] [] pos) (tCall sp [] E tNil) := by
  obtain ⟨f, fd, G, hm, kp, b, _⟩ := F.fn
  exact pe_call0 G (hr.mono hk) hg hm kp b .nil hx hdb
theorem c_call0 {E : XK} {f : List PyData → Option PyData} (h : PE X e (tCall (spM K T f) [] E tNil)) : PE X e (tD K T (mCb f aNil)) := pe_to h fun σ H Q ⟨P0, P, ρ, d, h1, s, h2, q⟩ => by
  subst h1
  obtain ⟨x, ex, h3⟩ := bind_eq h2
  cases ex
  show spM K T f [] P.H Q E
  exact ⟨P, [], d, rfl, .nil, h3, fun v P2 l2 r2 => q v P2 l2 r2⟩
end
end PM

namespace LB
open PySem PySem.Spec PyProof.Rows L2 PySem.W PySem.SeqAt PySem.Calls
section
variable {prog : Program} {w : World} {A : Around} {E : Value → Shared → Prop} {s : Shared} {κ : PyProof.Rows.KeyKind} {t : Addr} {vs : List Value}
/-! ### sorted(tuple) -/
theorem gather_tup {Q : List Value → Shared → Prop} (ht : IsTup s.heap t vs.toArray) (hn : vs.length ≤ sizeLine) (q : Q vs { s with heap := (s.heap.push (seqObj "list" #[] 0)).update s.heap.objs.size (Obj.mapSeq (· ++ vs.toArray)) }) :
    wpAny (model prog w) A (collect (.ref t)) Q E s := by
  obtain ⟨o, e0, hc, n, hd⟩ := ht
  have e1 : (s.heap.push (seqObj "list" #[] 0)).get? t = some o := Heap.get?_push_of_some _ e0
  unfold collect
  refine wpAny_bind <| wpAny_runValue <| codeAny_builtin entry_proto_collect' ?_
  show wpAny _ _ (do again (.builtin "list.__iadd__" ⟨[← newList [], .ref t], []⟩)) _ _ s
  refine wpAny_bind <| wpAny_newList <| wpAny_pure ⟨Code.quiet_builtin _ (by decide +kernel), codeAny_builtin entry_list_iadd' ?_⟩
  show wpAny _ _ (Builtin.List.listExtendWith (.ref s.heap.objs.size) (.ref t) (.ref s.heap.objs.size)) _ _ { s with heap := s.heap.push (seqObj "list" #[] 0) }
  unfold Builtin.List.listExtendWith
  refine wpAny_bind <| wpAny_typeOf (T := "tuple") ⟨o, e1, hc⟩ ?_
  have tt : (Value.type "tuple" == Value.type "tuple") = true := by rfl
  rw [if_pos (by rw [tt]; simp)]
  refine wpAny_bind <| listItems_at e1 hd ?_
  refine wpAny_bind <| listItems_at (xs := #[]) (n := 0) (Heap.get?_push_size _ rfl) rfl ?_
  rw [if_neg (by simp)]
  refine wpAny_bind <| listUpdate_at (xs := #[]) (n := 0) (Heap.get?_push_size _ rfl) rfl ?_ (Nat.zero_le _) (by show (#[] ++ vs.toArray).size ≤ sizeLine + 1; simp only [Array.size_append, List.size_toArray, List.length_nil]; omega)
  refine wpAny_pure ?_
  show wpAny (model prog w) A (do
      let z ← load s.heap.objs.size
      match z.data with
      | .seq xs _ => pure xs.toList
      | _ => unsupported "internal:collect") Q E { s with heap := (s.heap.push (seqObj "list" #[] 0)).update s.heap.objs.size (Obj.mapSeq (· ++ vs.toArray)) }
  refine wpAny_bind <| wpAny_load (get?_update_seq (Heap.get?_push_size _ rfl) _) ?_
  show wpAny _ _ (pure ((#[] : Array Value) ++ vs.toArray).toList) Q E _
  rw [show ((#[] : Array Value) ++ vs.toArray).toList = vs by simp]
  exact wpAny_pure q
theorem sortT_vals {Q : Value → Shared → Prop} (ht : IsTup s.heap t vs.toArray) (S : SortsAt prog w A.in1.in1 { s with heap := sortingHeap (copyHeap s.heap vs) (s.heap.objs.size + 1) vs } κ vs) (hL : vs.length ≤ sizeLine)
    (q : Q (.ref (s.heap.objs.size + 1)) { s with heap := sortedAll s.heap vs (sortVals κ false vs vs).toArray }) : wpAny (model prog w) A (call (.builtin "sorted") [.ref t]) Q E s := by
  refine call_function_entry_kw (kw := []) kind_sorted plain_sorted entry_sorted (args_sorted1 _) ?_
  unfold Builtin.«sorted»
  refine wpAny_bind (m := checkCount "sorted" 1 1 _) <| wpAny_pure ?_
  refine wpAny_bind <| gather_tup ht hL ?_
  refine wpAny_bind <| wpAny_newList ?_ hL
  have z : ((s.heap.push (seqObj "list" #[] 0)).update s.heap.objs.size (Obj.mapSeq (· ++ vs.toArray))).objs.size = s.heap.objs.size + 1 := by
    rw [Heap.size_update]
    exact size_push' ..
  show wpAny _ _ _ _ _ { s with heap := copyHeap s.heap vs }
  rw [z]
  refine wpAny_bind <| wpAny_holding <| wpAny_call_entry_kw slot_list_sort ⟨_, copyHeap_at s.heap vs, rfl⟩ entry_list_sort ?bd (args_list_sort _)
  case bd =>
    show wpAny (model prog w) A.in1.in1 (Builtin.«list.sort» ⟨[.ref (s.heap.objs.size + 1)], []⟩) _ _ _
    exact list_sort_vals (s := { s with heap := copyHeap s.heap vs }) (copyHeap_at s.heap vs) S hL ⟨_, rfl, wpAny_pure ⟨_, rfl, q⟩⟩
theorem sortT_data {ds : List PyData} {R : Value → PyData → Prop} {Q : Value → Shared → Prop} (ht : IsTup s.heap t vs.toArray) (e : EachIs R vs ds) (er : EachIs (fun v b => ∃ as, Reads s.heap v b as) vs ds) (hal : AllAlike ds) (hk : Sortable ds ∨ Led ds) (hL : ds.length ≤ sizeLine)
    (hu : ∀ b, b ∈ ds → A.units + 2 + b.depth < cLine) (q : ∀ out, out.length = ds.length → EachIs R out (ds.mergeSort (dataLe false id)) → Q (.ref (s.heap.objs.size + 1)) { s with heap := sortedAll s.heap vs (List.toArray out) }) :
    wpAny (model prog w) A (call (.builtin "sorted") [.ref t]) Q E s := by
  have er' : EachIs (fun v b => ∃ as, Reads (sortingHeap (copyHeap s.heap vs) (s.heap.objs.size + 1) vs) v b as) vs ds := er.mono fun _ _ ⟨as, r⟩ => ⟨as, PyProof.Rows.Reads.keeps (fun _ _ => sorting_copy_old) r⟩
  have hal' : AllAlike (ds.map id) := by rw [List.map_id]; exact hal
  have hf := sortVals_data (enc := id) (R := R) false e (er' : EachIs (fun v b => ∃ as, Reads (sortingHeap (copyHeap s.heap vs) (s.heap.objs.size + 1) vs) v (id b) as) vs ds) hal'
  rw [List.map_id] at hf
  have hl2 : (sortVals (dataKind (sortingHeap (copyHeap s.heap vs) (s.heap.objs.size + 1) vs) ds) false vs vs).length = ds.length := by
    rw [sortVals_length false rfl]
    exact e.length
  rcases hk with hk | hk
  · exact sortT_vals ht (SortsAt.data (s := { s with heap := sortingHeap (copyHeap s.heap vs) (s.heap.objs.size + 1) vs }) er' hal hk hu) (by rw [e.length]; exact hL) (q _ hl2 hf)
  · exact sortT_vals ht (sorts_led (s := { s with heap := sortingHeap (copyHeap s.heap vs) (s.heap.objs.size + 1) vs }) er' hal hk hu) (by rw [e.length]; exact hL) (q _ hl2 hf)
end
end LB
namespace PM
open PySem PySem.Spec PyProof.Rows L2 LB
section
variable {T : Tb} {K : PySem.W.Frag} {X : Cx} {e : Expr} {st : Stmt} {R : ER}
def rSortT (K : PySem.W.Frag) : List V → Hp → VK → Prop := fun vs H Q => ∃ (M : Hp) (a : Addr) (xs : List V) (ds : List PyData), Ex M H ∧ vs = [.ref a] ∧ SqT K H a xs ∧ RpAll K M xs ds ∧ Srt ds ∧ ∀ (p : Addr) (ys : List V), H p = none → RpAll K M ys (sortD ds) → Q (.ref p) (upd H p (.lst ys))
open PySem.W PySem.SeqAt in
theorem cr_sortT' (hu : X.A.units + 64 < cLine) (hK : X.K = K := by rfl) : CallR X (.builtin "sorted") (rSortT K) := by
  subst hK
  intro pins s σ H xs us Q I r h
  obtain ⟨M, a, xs, ds, hM, rfl, hs, ra, S, q⟩ := h
  obtain rfl := Vals.ref1 r
  obtain ⟨its, rv, pl, hz⟩ := I.tuple hs
  obtain ⟨_, e2⟩ := each_of I (fun d hd => S.al d hd d hd) (ra.ext hM) rv
  have e1 := each_m ra rv
  have hL : ds.length ≤ sizeLine := Nat.le_trans S.len (by decide)
  have hd : ∀ b, b ∈ ds → X.A.units + 2 + b.depth < cLine := fun b hb => by
    have := S.dp b hb
    omega
  refine sortT_data (R := fun u d => ∃ v, Rp X.K M v d ∧ RelV v u) pl e1 e2 S.al S.ok hL hd fun out hl e => ?_
  obtain ⟨ys, q1, q2⟩ := m_each e
  obtain ⟨c, hc⟩ := sortedAll_at s.heap its out.toArray
  have hn : H (s.heap.objs.size + 1) = none := I.hok.fresh (Nat.le_succ _)
  refine ⟨.ref (s.heap.objs.size + 1), upd H (s.heap.objs.size + 1) (.lst ys), I.laid (t' := s.toks) (fun b o e => sortedAll_old e) (Nat.le_succ _) (show ObjOk X.prog X.w _ _ _ (.lst ys) from ⟨?_, out, c, q2, hc⟩), rfl, q _ ys hn q1⟩
  rw [q2.length, hl]
  exact hL
theorem crR_or {f : Value} {r r' : List V → Hp → VK → Prop} (h1 : CallR X f r) (h2 : CallR X f r') : CallR X f (fun vs H Q => r vs H Q ∨ r' vs H Q) := fun pins s σ H xs us Q I rx h => h.elim (h1 pins s σ H xs us Q I rx) (h2 pins s σ H xs us Q I rx)
theorem cr_sortY (hu : X.A.units + 64 < cLine) (hK : X.K = K := by rfl) : CallR X (.builtin "sorted") (fun vs H Q => rSortM K vs H Q ∨ rSortT K vs H Q) := crR_or (cr_sortM hu hK) (cr_sortT' hu hK)
open Classical in
noncomputable def oSortedT : List PyData → Option PyData
  | [.tuple xs] => if LB.Srt xs then some (.list (LB.sortD xs)) else none
  | l => oSorted l
theorem x_sortedT {ds : List PyData} (h : Srt ds) : oSortedT [.tuple ds] = some (.list (sortD ds)) := by
  unfold oSortedT
  exact if_pos h
theorem cb_sortedT : CbF K T (fun vs H Q => rSortM K vs H Q ∨ rSortT K vs H Q) oSortedT := by
  intro P vs ds d ra h Q q
  unfold oSortedT at h
  split at h
  · split at h
    · cases h
      rename_i hh
      cases ra with
      | cons r1 r2 =>
        cases r2
        obtain ⟨p, xs, rfl, _, hs, r⟩ := r1.tuple
        exact .inr ⟨P.M, p, xs, _, P.sub, rfl, hs, r, hh, fun p' ys hp ry => q _ (P.hid p' (.lst ys) hp) (le_hid P hp) (.lst (P.none hp) upd_same ry) (loose_none hp)⟩
    · cases h
  · exact .inl (cb_sorted P vs _ d ra h Q q)
theorem mSortedT_is {a : MA} (ρ : Ev) (d : PyData) (h : mCb oSortedT a ρ = some d) : isLst d = true := by
  obtain ⟨x, hx, h⟩ := bind_eq h
  unfold oSortedT at h
  split at h
  · split at h
    · cases h
      rfl
    · cases h
  · exact mSorted_is (a := a) ρ d (by show (a ρ).bind oSorted = _; rw [hx]; exact h)
/-! ### x not in a tuple of data -/
def rNinT (K : PySem.W.Frag) : R2 := fun x y H Q => ∃ d ds, Dp K H x d ∧ Dp K H y (.tuple ds) ∧ SeqAt.shaped d = true ∧ SeqAt.shaped (.tuple ds) = true ∧ Q (.bl (!ds.any fun z => PyData.eqv z d)) H
def rInT (K : PySem.W.Frag) : R2 := fun x y H Q => ∃ d ds, Dp K H x d ∧ Dp K H y (.tuple ds) ∧ SeqAt.shaped d = true ∧ SeqAt.shaped (.tuple ds) = true ∧ Q (.bl (ds.any fun z => PyData.eqv z d)) H
theorem op_ninT (hu : X.A.units + 65 < cLine) (hK : X.K = K := by rfl) : OpR X (compareOp .NotIn) (rNinT K) := by
  subst hK
  intro pins s σ H x y v u Q I rx ry h
  obtain ⟨d, ds, hd, he, sd, se, q⟩ := h
  obtain ⟨as, r1⟩ := Dp.reads I d x v hd rx
  obtain ⟨bs, r2⟩ := Dp.reads I (.tuple ds) y u he ry
  refine SeqAt.notIn_tuple_reads r2 r1 (SeqAt.canLay_of_shaped se) (SeqAt.canLay_of_shaped sd) (room_in_shaped sd hu) ⟨.bl _, H, I, rfl, q⟩
theorem op_inT (hu : X.A.units + 65 < cLine) (hK : X.K = K := by rfl) : OpR X (compareOp .In) (rInT K) := by
  subst hK
  intro pins s σ H x y v u Q I rx ry h
  obtain ⟨d, ds, hd, he, sd, se, q⟩ := h
  obtain ⟨as, r1⟩ := Dp.reads I d x v hd rx
  obtain ⟨bs, r2⟩ := Dp.reads I (.tuple ds) y u he ry
  refine SeqAt.in_tuple_reads r2 r1 (SeqAt.canLay_of_shaped se) (SeqAt.canLay_of_shaped sd) (room_in_shaped sd hu) ⟨.bl _, H, I, rfl, q⟩
theorem op_uNinY (hu : X.A.units + 65 < cLine) (hK : X.K = K := by rfl) : OpR X (compareOp .NotIn) (fun x y H Q => rIn K true x y H Q ∨ rNinT K x y H Q) := opR_or (op_notInK K hK) (op_ninT hu hK)
theorem op_uInY (hu : X.A.units + 65 < cLine) (hK : X.K = K := by rfl) : OpR X (compareOp .In) (fun x y H Q => rIn K false x y H Q ∨ rInT K x y H Q) := opR_or (op_inK K hK) (op_inT hu hK)
def ninT (a b : PyData) : Option PyData := match b with
  | .tuple ds => if SeqAt.shaped a = true ∧ SeqAt.shaped (.tuple ds) = true then some (.bool (!ds.any fun z => PyData.eqv z a)) else none
  | _ => none
def inT (a b : PyData) : Option PyData := match b with
  | .tuple ds => if SeqAt.shaped a = true ∧ SeqAt.shaped (.tuple ds) = true then some (.bool (ds.any fun z => PyData.eqv z a)) else none
  | _ => none
def oNinY (a b : PyData) : Option PyData := match oNin a b with
  | some d => some d
  | none => ninT a b
def oInY (a b : PyData) : Option PyData := match oIn a b with
  | some d => some d
  | none => inT a b
theorem od_ninY : OpD K T (fun x y H Q => rIn K true x y H Q ∨ rNinT K x y H Q) oNinY := by
  intro P x y a b d ra rb h Q q
  unfold oNinY at h
  split at h
  · rename_i d' hd
    cases h
    exact .inl (od_nin P x y a b d ra rb hd Q q)
  · unfold ninT at h
    split at h
    · split at h
      · cases h
        rename_i hh
        exact .inr ⟨a, _, ra.dp (SeqAt.canLay_of_shaped hh.1), rb.dp (SeqAt.canLay_of_shaped hh.2), hh.1, hh.2, q _ P (Le.refl P) (.bl _)⟩
      · cases h
    · cases h
theorem od_inY : OpD K T (fun x y H Q => rIn K false x y H Q ∨ rInT K x y H Q) oInY := by
  intro P x y a b d ra rb h Q q
  unfold oInY at h
  split at h
  · rename_i d' hd
    cases h
    exact .inl (od_in P x y a b d ra rb hd Q q)
  · unfold inT at h
    split at h
    · split at h
      · cases h
        rename_i hh
        exact .inr ⟨a, _, ra.dp (SeqAt.canLay_of_shaped hh.1), rb.dp (SeqAt.canLay_of_shaped hh.2), hh.1, hh.2, q _ P (Le.refl P) (.bl _)⟩
      · cases h
    · cases h
end
end PM

namespace PM
open PySem PySem.Spec PyProof.Rows L2 LB
section
variable {T : Tb} {K : PySem.W.Frag} {X : Cx} {e : Expr} {st : Stmt} {R : ER}
/-! ### a dict of lists, gathered by keys -/
def addG (G : List (List Key × List PyData)) (ks : List Key) (d : PyData) : List (List Key × List PyData) :=
  if (G.any fun e => decide (e.1 = ks)) = true then G.map (fun e => if e.1 = ks then (e.1, e.2 ++ [d]) else e) else G ++ [(ks, [d])]
def gaGo (c j : Nat) (me : ME) : List PyData → Ev → List (List Key × List PyData) → Option (Ev × List (List Key × List PyData))
  | [], ρ, G => some (ρ, G)
  | d :: ds, ρ, G => (me (ρ.set c (.val d))).bind fun l => (keyL l).bind fun ks => gaGo c j me ds ((ρ.set c (.val d)).set j (.val l)) (addG G ks d)
def dG (G : List (List Key × List PyData)) : PyData := .dict (G.map fun e => (.tuple (e.1.map keyD), .list e.2))
def plS : Sl → Bool
  | .no => true
  | .val _ => true
  | .exn _ => true
  | _ => false
def mGather (i j c : Nat) (mi : MA) (me : ME) : MS := fun ρ => match ρ[i]? with
  | some (.own (.dict [])) => (mi ρ).bind fun ds => if ds.length ≤ 1000 ∧ (c < ρ.length ∧ j < ρ.length) ∧ (ρ.set i .no).all plS = true then (gaGo c j me ds (ρ.set i .no) []).map fun r => .nx (r.1.set i (.val (dG r.2))) else none
  | _ => none
def DL (K : PySem.W.Frag) (P : Pr T) (e : List Key × V) (g : List Key × List PyData) : Prop := e.1 = g.1 ∧ ∃ q xs, e.2 = .ref q ∧ P.M q = none ∧ P.H q = some (.lst xs) ∧ RpAll K P.M xs g.2
structure GAt (K : PySem.W.Frag) (P0 P : Pr T) (p : Addr) (kvs : List (List Key × V)) (G : List (List Key × List PyData)) : Prop where
  m : P.M p = none
  h : P.H p = some (.dT kvs)
  each : PySem.W.EachIs (DL K P) kvs G
  nk : (kvs.map (·.1)).Nodup
  nv : (kvs.map (·.2)).Nodup
  lo : Loose P0.H p
  los : ∀ e ∈ kvs, ∀ q, e.2 = V.ref q → Loose P0.H q
theorem DL.up {P P' : Pr T} (l : Le P P') {e : List Key × V} {g : List Key × List PyData} (h : DL K P e g) : DL K P' e g := by
  obtain ⟨h1, q, xs, h2, h3, h4, h5⟩ := h
  exact ⟨h1, q, xs, h2, own_none l h3 h4 (fun _ z => nomatch z) (fun _ z => nomatch z), l.h _ _ h4 (fun _ z => nomatch z), h5.ext l.m⟩
theorem GAt.up {P0 P P' : Pr T} {p : Addr} {kvs : List (List Key × V)} {G : List (List Key × List PyData)} (g : GAt K P0 P p kvs G) (l : Le P P') : GAt K P0 P' p kvs G :=
  ⟨own_none l g.m g.h (fun _ z => nomatch z) (fun _ z => nomatch z), l.h _ _ g.h (fun _ z => nomatch z), g.each.mono (fun _ _ h => h.up l), g.nk, g.nv, g.lo, g.los⟩
theorem each_imp {α β : Type} {R R' : α → β → Prop} : ∀ {as : List α} {bs : List β}, PySem.W.EachIs R as bs → (∀ a ∈ as, ∀ b, R a b → R' a b) → PySem.W.EachIs R' as bs
  | _, _, .nil, _ => .nil
  | _, _, .cons h t, q => .cons (q _ List.mem_cons_self _ h) (each_imp t fun a ha => q a (List.mem_cons_of_mem _ ha))
theorem dl_keys {P : Pr T} : ∀ {kvs : List (List Key × V)} {G : List (List Key × List PyData)}, PySem.W.EachIs (DL K P) kvs G → kvs.map (·.1) = G.map (·.1)
  | _, _, .nil => rfl
  | _, _, .cons h t => by rw [List.map_cons, List.map_cons, dl_keys t, h.1]
theorem dl_hit {P : Pr T} {ks : List Key} {v : V} : ∀ {kvs : List (List Key × V)} {G : List (List Key × List PyData)}, PySem.W.EachIs (DL K P) kvs G → valV kvs ks = some v →
    ∃ q xs as bs As Bs ds, v = V.ref q ∧ kvs = as ++ (ks, V.ref q) :: bs ∧ G = As ++ (ks, ds) :: Bs ∧ PySem.W.EachIs (DL K P) as As ∧ PySem.W.EachIs (DL K P) bs Bs ∧ P.M q = none ∧ P.H q = some (.lst xs) ∧ RpAll K P.M xs ds
  | _, _, .nil, h => by cases h
  | (k, u) :: kvs, (k', ds) :: G, .cons h t, hv => by
    obtain ⟨h1, q, xs, h2, h3, h4, h5⟩ := h
    have h1 : k = k' := h1
    have h2 : u = V.ref q := h2
    subst h1 h2
    unfold valV at hv
    rw [List.find?_cons] at hv
    by_cases z : k = ks
    · subst z
      rw [decide_eq_true rfl] at hv
      cases hv
      exact ⟨q, xs, [], kvs, [], G, ds, rfl, rfl, rfl, .nil, t, h3, h4, h5⟩
    · rw [decide_eq_false z] at hv
      obtain ⟨q', xs', as, bs, As, Bs, ds', e1, e2, e3, e4, e5, e6, e7, e8⟩ := dl_hit t hv
      exact ⟨q', xs', (k, V.ref q) :: as, bs, (k, ds) :: As, Bs, ds', e1, by rw [e2]; rfl, by rw [e3]; rfl, .cons ⟨rfl, q, xs, rfl, h3, h4, h5⟩ e4, e5, e6, e7, e8⟩
theorem add_hit {ks : List Key} {d : PyData} {As Bs : List (List Key × List PyData)} {ds : List PyData} (n1 : ks ∉ As.map (·.1)) (n2 : ks ∉ Bs.map (·.1)) : addG (As ++ (ks, ds) :: Bs) ks d = As ++ (ks, ds ++ [d]) :: Bs := by
  unfold addG
  rw [if_pos (List.any_eq_true.mpr ⟨(ks, ds), List.mem_append_right _ List.mem_cons_self, decide_eq_true rfl⟩), List.map_append, List.map_cons, if_pos rfl]
  have e : ∀ l : List (List Key × List PyData), ks ∉ l.map (·.1) → l.map (fun e => if e.1 = ks then (e.1, e.2 ++ [d]) else e) = l := fun l hn => by
    conv => rhs; rw [← List.map_id l]
    refine List.map_congr_left fun x hx => ?_
    exact if_neg fun z => hn (List.mem_map.mpr ⟨x, hx, z⟩)
  rw [e As n1, e Bs n2]
theorem val_none {ks : List Key} {kvs : List (List Key × V)} (h : valV kvs ks = none) : ks ∉ kvs.map (·.1) := fun z => by
  obtain ⟨e, he, rfl⟩ := List.mem_map.mp z
  unfold valV at h
  rw [Option.map_eq_none_iff, List.find?_eq_none] at h
  exact h e he (decide_eq_true rfl)
theorem add_new {ks : List Key} {d : PyData} {G : List (List Key × List PyData)} (h : ks ∉ G.map (·.1)) : addG G ks d = G ++ [(ks, [d])] := by
  unfold addG
  rw [if_neg]
  intro z
  obtain ⟨e, he, h2⟩ := List.any_eq_true.mp z
  exact h (List.mem_map.mpr ⟨e, he, of_decide_eq_true h2⟩)
theorem put_new {ks : List Key} {v : V} {kvs : List (List Key × V)} (h : ks ∉ kvs.map (·.1)) : putK kvs ks v = kvs ++ [(ks, v)] := by
  unfold putK
  rw [if_neg]
  intro z
  obtain ⟨e, he, h2⟩ := List.any_eq_true.mp z
  exact h (List.mem_map.mpr ⟨e, he, of_decide_eq_true h2⟩)
theorem val_new {ks : List Key} {v : V} {kvs : List (List Key × V)} (h : ks ∉ kvs.map (·.1)) : valV (kvs ++ [(ks, v)]) ks = some v := by
  unfold valV
  rw [List.find?_append]
  have : (kvs.find? fun kv => decide (kv.1 = ks)) = none := List.find?_eq_none.mpr fun e he z => h (List.mem_map.mpr ⟨e, he, of_decide_eq_true z⟩)
  rw [this]
  simp
/-- an object changed that no data stands on -/
theorem Pr.mut1 (P : Pr T) {p : Addr} {o o' : HO} (hM : P.M p = Option.none) (hp : P.H p = some o) (n : Plain o) (nc : ∀ c q, o ≠ LamX.CodeO c q) : ∃ Q : Pr T, Q.M = P.M ∧ Q.H = upd P.H p o' :=
  ⟨⟨P.M, upd P.H p o', fun b u e q => by
    have ne : b ≠ p := fun z => by rw [z, hM] at e; cases e
    rw [upd_ne ne]
    exact P.sub b u e q, tabs_mut P.tab hp n nc, P.nt⟩, rfl, rfl⟩
theorem le_mut1 {P0 P Q : Pr T} {p : Addr} {o' : HO} (l : Le P0 P) (lo : Loose P0.H p) (hM : Q.M = P.M) (hH : Q.H = upd P.H p o') : Le P0 Q := by
  refine ⟨by rw [hM]; exact l.m, fun b u e q => ?_, fun a h1 h2 => l.f a h1 (by rw [← hM]; exact h2)⟩
  have ne : b ≠ p := fun z => by
    rw [z] at e
    obtain ⟨ps, w⟩ := lo u e
    exact q ps w
  rw [hH, upd_ne ne]
  exact l.h b u e q
/-- slots that hold data alone -/
theorem St.plain {P0 P Q : Pr T} {σ : L2.St} {ρ : Ev} (s : St K P0 P σ ρ) (hp : ρ.all plS = true) (l : Le P0 Q) (m : Ex P.M Q.M) : St K P0 Q σ ρ := by
  have pl : ∀ (i : Nat) x, ρ[i]? = some x → plS x = true := fun i x h => List.all_eq_true.mp hp x (List.mem_of_getElem? h)
  refine ⟨l, s.len, fun i x h => ?_, fun i j p d e ne h1 h2 h3 h4 => ?_, fun i d p h1 h2 => ?_, fun i j p ks ls ne h1 h2 h3 h4 => ?_, fun i ks p h1 h2 => ?_⟩
  · obtain ⟨u, g1, g2⟩ := s.ok i x h
    refine ⟨u, g1, ?_⟩
    have := pl i x h
    cases g2 with
    | no => exact .no
    | val r => exact .val (r.ext m)
    | exn => exact .exn
    | own r => cases this
    | ods a b c => cases this
    | lck a b c => cases this
  · have := pl i _ h1
    cases this
  · have := pl i _ h1
    cases this
  · have := pl i _ h1
    cases this
  · have := pl i _ h1
    cases this
theorem all_set {ρ : Ev} {i : Nat} {x : Sl} (h : ρ.all plS = true) (hx : plS x = true) : (ρ.set i x).all plS = true := by
  rw [List.all_eq_true] at h ⊢
  intro y hy
  rcases List.mem_or_eq_of_mem_set hy with h' | rfl
  · exact h y h'
  · exact hx
/-- one more is gathered where its key stands -/
theorem GAt.hit {P0 P : Pr T} {p : Addr} {kvs : List (List Key × V)} {G : List (List Key × List PyData)} (g : GAt K P0 P p kvs G) (l : Le P0 P) {ks : List Key} {v w : V} {d : PyData} (hv : valV kvs ks = some v) (r : Rp K P.M w d) :
    ∃ q xs Q, v = V.ref q ∧ P.H q = some (.lst xs) ∧ (∃ ds, (ks, ds) ∈ G ∧ xs.length = ds.length) ∧ Q.M = P.M ∧ Q.H = upd P.H q (.lst (xs ++ [w])) ∧ Le P0 Q ∧ GAt K P0 (T := T) Q p kvs (addG G ks d) := by
  obtain ⟨q, xs, as, bs, As, Bs, ds, rfl, rfl, rfl, e4, e5, e6, e7, e8⟩ := dl_hit g.each hv
  obtain ⟨Q, hM, hH⟩ := P.mut1 (o' := .lst (xs ++ [w])) e6 e7 (fun _ z => nomatch z) (fun _ _ z => by unfold LamX.CodeO at z; cases z)
  have lq : Loose P0.H q := g.los (ks, V.ref q) (List.mem_append_right _ List.mem_cons_self) q rfl
  have npq : p ≠ q := fun z => by
    have := g.h
    rw [z, e7] at this
    cases this
  have nk := g.nk
  have nv := g.nv
  rw [List.map_append, List.map_cons, List.nodup_append] at nk nv
  have ka : ks ∉ as.map (·.1) := fun z => nk.2.2 ks z ks List.mem_cons_self rfl
  have kb : ks ∉ bs.map (·.1) := (List.nodup_cons.mp nk.2.1).1
  have va : V.ref q ∉ as.map (·.2) := fun z => nv.2.2 _ z _ List.mem_cons_self rfl
  have vb : V.ref q ∉ bs.map (·.2) := (List.nodup_cons.mp nv.2.1).1
  have keep : ∀ {l : List (List Key × V)} {L : List (List Key × List PyData)}, V.ref q ∉ l.map (·.2) → PySem.W.EachIs (DL K P) l L → PySem.W.EachIs (DL K Q) l L := fun {l L} hn h => each_imp h fun a ha b hb => by
    obtain ⟨h1, q', xs', h2, h3, h4, h5⟩ := hb
    have ne : q' ≠ q := fun z => hn (List.mem_map.mpr ⟨a, ha, by rw [h2, z]⟩)
    exact ⟨h1, q', xs', h2, by rw [hM]; exact h3, by rw [hH, upd_ne ne]; exact h4, by rw [hM]; exact h5⟩
  refine ⟨q, xs, Q, rfl, e7, ⟨ds, List.mem_append_right _ List.mem_cons_self, e8.length⟩, hM, hH, le_mut1 l lq hM hH, ⟨by rw [hM]; exact g.m, by rw [hH, upd_ne npq]; exact g.h, ?_, g.nk, g.nv, g.lo, g.los⟩⟩
  rw [add_hit (by rw [← dl_keys e4]; exact ka) (by rw [← dl_keys e5]; exact kb)]
  exact each_app (keep va e4) (.cons ⟨rfl, q, _, rfl, by rw [hM]; exact e6, by rw [hH]; exact upd_same, by rw [hM]; exact RpAll.append e8 (.cons r .nil)⟩ (keep vb e5))
theorem GAt.fresh {P0 P : Pr T} {p : Addr} {kvs : List (List Key × V)} {G : List (List Key × List PyData)} (g : GAt K P0 P p kvs G) (l : Le P0 P) {ks : List Key} (hv : valV kvs ks = none) {q : Addr} (hq : P.H q = none) :
    ∃ Q : Pr T, Q.M = P.M ∧ Q.H = upd (upd P.H q (.lst [])) p (.dT (kvs ++ [(ks, V.ref q)])) ∧ Le P0 Q ∧ (upd P.H q (.lst [])) p = some (.dT kvs) ∧ Q.H q = some (.lst []) ∧ Q.M q = none ∧ GAt K P0 Q p kvs G = GAt K P0 Q p kvs G ∧
      (∀ e ∈ kvs, e.2 ≠ V.ref q) ∧ PySem.W.EachIs (DL K Q) kvs G ∧ Loose P0.H q ∧ p ≠ q := by
  have npq : p ≠ q := fun z => by
    have := g.h
    rw [z, hq] at this
    cases this
  have mq := P.none hq
  have lq : Loose P0.H q := fun o ho => by
    by_cases t : ∃ ps, o = HO.tbl ps
    · exact t
    · have := l.h q o ho fun ps z => t ⟨ps, z⟩
      rw [hq] at this
      cases this
  have hp1 : (P.hid q (.lst []) hq).H p = some (.dT kvs) := by
    show upd P.H q _ p = _
    rw [upd_ne npq]
    exact g.h
  obtain ⟨Q, hM, hH⟩ := (P.hid q (.lst []) hq).mut1 (o' := .dT (kvs ++ [(ks, V.ref q)])) g.m hp1 (fun _ z => nomatch z) (fun _ _ z => by unfold LamX.CodeO at z; cases z)
  have nv : ∀ e ∈ kvs, e.2 ≠ V.ref q := fun e he z => by
    obtain ⟨b, _, _, q', xs, h2, _, h4, _⟩ := g.each.left e he
    rw [h2] at z
    cases z
    rw [hq] at h4
    cases h4
  refine ⟨Q, hM, hH, le_mut1 (l.trans (le_hid P hq)) g.lo hM hH, hp1, ?_, by rw [hM]; exact mq, rfl, nv, each_imp g.each fun a ha b hb => ?_, lq, npq⟩
  · rw [hH, upd_ne (Ne.symm npq)]
    exact upd_same
  · obtain ⟨h1, q', xs', h2, h3, h4, h5⟩ := hb
    have n1 : q' ≠ q := fun z => nv a ha (by rw [h2, z])
    have n2 : q' ≠ p := fun z => by
      rw [z, g.h] at h4
      cases h4
    refine ⟨h1, q', xs', h2, by rw [hM]; exact h3, ?_, by rw [hM]; exact h5⟩
    rw [hH, upd_ne n2]
    show upd P.H q _ q' = _
    rw [upd_ne n1]
    exact h4
/-- one more is gathered under a new key -/
theorem GAt.more {P0 P : Pr T} {p : Addr} {kvs : List (List Key × V)} {G : List (List Key × List PyData)} (g : GAt K P0 P p kvs G) (l : Le P0 P) {ks : List Key} (hv : valV kvs ks = none) {q : Addr} (hq : P.H q = none) {w : V} {d : PyData} (r : Rp K P.M w d) :
    ∃ Q : Pr T, Q.M = P.M ∧ Q.H = upd (upd (upd P.H q (.lst [])) p (.dT (kvs ++ [(ks, V.ref q)]))) q (.lst ([] ++ [w])) ∧ (upd P.H q (.lst [])) p = some (.dT kvs) ∧ (upd (upd P.H q (.lst [])) p (.dT (kvs ++ [(ks, V.ref q)]))) q = some (.lst []) ∧ Le P0 Q ∧ GAt K P0 Q p (kvs ++ [(ks, V.ref q)]) (addG G ks d) := by
  obtain ⟨Q1, hM, hH, l1, hp1, hq1, mq1, _, nv, ea, lq, npq⟩ := g.fresh l (ks := ks) hv hq
  obtain ⟨Q, hM2, hH2⟩ := Q1.mut1 (o' := .lst ([] ++ [w])) mq1 hq1 (fun _ z => nomatch z) (fun _ _ z => by unfold LamX.CodeO at z; cases z)
  have kn := val_none hv
  refine ⟨Q, hM2.trans hM, by rw [hH2, hH], hp1, by rw [← hH]; exact hq1, le_mut1 l1 lq hM2 hH2, ⟨by rw [hM2, hM]; exact g.m, ?_, ?_, ?_, ?_, g.lo, fun e he q' hq' => ?_⟩⟩
  · rw [hH2, upd_ne npq, hH]
    exact upd_same
  · rw [add_new (by rw [← dl_keys g.each]; exact kn)]
    refine each_app (each_imp ea fun a ha b hb => ?_) (.cons ⟨rfl, q, _, rfl, by rw [hM2]; exact mq1, by rw [hH2]; exact upd_same, .cons (by rw [hM2, hM]; exact r) .nil⟩ .nil)
    obtain ⟨h1, q', xs', h2, h3, h4, h5⟩ := hb
    have n1 : q' ≠ q := fun z => nv a ha (by rw [h2, z])
    exact ⟨h1, q', xs', h2, by rw [hM2]; exact h3, by rw [hH2, upd_ne n1]; exact h4, by rw [hM2]; exact h5⟩
  · rw [List.map_append, List.nodup_append]
    exact ⟨g.nk, by simp, fun a ha b hb e => kn (by
      have e : a = ks := e.trans (List.mem_singleton.mp hb)
      rw [e] at ha
      exact ha)⟩
  · rw [List.map_append, List.nodup_append]
    refine ⟨g.nv, by simp, fun a ha b hb e => ?_⟩
    obtain ⟨x, hx, rfl⟩ := List.mem_map.mp ha
    rw [List.mem_singleton.mp hb] at e
    exact nv x hx e
  · rcases List.mem_append.mp he with h | h
    · exact g.los e h q' hq'
    · rw [List.mem_singleton.mp h] at hq'
      cases hq'
      exact lq
open Classical in
/-- what was gathered is data, the dict known from now on -/
theorem GAt.done {P0 P : Pr T} {p : Addr} {kvs : List (List Key × V)} {G : List (List Key × List PyData)} (g : GAt K P0 P p kvs G) (l : Le P0 P) (od : Obj) : ∃ Q : Pr T, Q.H = upd P.H p (.frz od (.dT kvs)) ∧ Le P0 Q ∧ Ex P.M Q.M ∧ Rp K Q.M (V.ref p) (dG G) := by
  let inn : Addr → Prop := fun a => ∃ e ∈ kvs, e.2 = V.ref a
  have plain : ∀ a, inn a → P.M a = none ∧ (∃ o, P.H a = some o ∧ Plain o) ∧ Loose P0.H a ∧ a ≠ p := fun a ha => by
    obtain ⟨e, he, h2⟩ := ha
    obtain ⟨b, _, _, q, xs, e2, e3, e4, _⟩ := g.each.left e he
    rw [e2] at h2
    cases h2
    refine ⟨e3, ⟨_, e4, fun _ z => nomatch z⟩, g.los e he a e2, fun z => ?_⟩
    rw [z, g.h] at e4
    cases e4
  let M' : Hp := fun a => if a = p then some (.frz od (.dT kvs)) else if inn a then P.H a else P.M a
  have em : Ex P.M M' := fun b u e q => by
    have n1 : b ≠ p := fun z => by rw [z, g.m] at e; cases e
    have n2 : ¬ inn b := fun z => by rw [(plain b z).1] at e; cases e
    show (if b = p then _ else if inn b then P.H b else P.M b) = some u
    rw [if_neg n1, if_neg n2]
    exact e
  have at' : ∀ a o, inn a → P.H a = some o → M' a = some o := fun a o ha ho => by
    show (if a = p then _ else if inn a then P.H a else P.M a) = some o
    rw [if_neg (plain a ha).2.2.2, if_pos ha]
    exact ho
  have atp : M' p = some (.frz od (.dT kvs)) := if_pos rfl
  refine ⟨⟨M', upd P.H p (.frz od (.dT kvs)), fun b u e q => ?_, tabs_mut P.tab g.h (fun _ z => nomatch z) (fun _ _ z => by unfold LamX.CodeO at z; cases z), fun a ps z => ?_⟩, rfl, ⟨l.m.trans em, fun b u e q => ?_, fun a h1 h2 => ?_⟩, em, ?_⟩
  · by_cases hb : b = p
    · subst hb
      rw [atp] at e
      cases e
      exact upd_same
    · have e : (if b = p then some (HO.frz od (.dT kvs)) else if inn b then P.H b else P.M b) = some u := e
      rw [if_neg hb] at e
      rw [upd_ne hb]
      split at e
      · exact e
      · exact P.sub b u e q
  · by_cases hb : a = p
    · subst hb
      rw [atp] at z
      cases z
    · have z : (if a = p then some (HO.frz od (.dT kvs)) else if inn a then P.H a else P.M a) = some (.tbl ps) := z
      rw [if_neg hb] at z
      split at z
      · rename_i ha
        obtain ⟨_, ⟨o, ho, n⟩, _⟩ := plain a ha
        rw [ho] at z
        cases z
        exact n ps rfl
      · exact P.nt a ps z
  · have ne : b ≠ p := fun z => by
      rw [z] at e
      obtain ⟨ps, w⟩ := g.lo u e
      exact q ps w
    show upd P.H p _ b = some u
    rw [upd_ne ne]
    exact l.h b u e q
  · by_cases hb : a = p
    · rw [hb]
      exact .inl g.lo
    · have h2 : (if a = p then some (HO.frz od (.dT kvs)) else if inn a then P.H a else P.M a) ≠ none := h2
      rw [if_neg hb] at h2
      split at h2
      · rename_i ha
        exact .inl (plain a ha).2.2.1
      · exact l.f a h1 h2
  · have hv : ∀ {l : List (List Key × V)} {L : List (List Key × List PyData)}, (∀ e ∈ l, e ∈ kvs) → PySem.W.EachIs (DL K P) l L → l.map (fun e => PyData.tuple (e.1.map keyD)) = (L.map fun e => ((PyData.tuple (e.1.map keyD), PyData.list e.2) : PyData × PyData)).map (·.1) ∧ RpAll K M' (l.map (·.2)) ((L.map fun e => ((PyData.tuple (e.1.map keyD), PyData.list e.2) : PyData × PyData)).map (·.2)) := by
      intro l L sub h
      induction h with
      | nil => exact ⟨rfl, .nil⟩
      | @cons a b as bs h t ih =>
        obtain ⟨i1, i2⟩ := ih fun e he => sub e (List.mem_cons_of_mem _ he)
        obtain ⟨h1, q, xs, h2, h3, h4, h5⟩ := h
        refine ⟨?_, ?_⟩
        · rw [List.map_cons, List.map_cons, List.map_cons, i1, h1]
        · rw [List.map_cons, List.map_cons, List.map_cons]
          refine .cons ?_ i2
          show Rp K M' a.2 (.list b.2)
          rw [h2]
          exact .lst (SqL.of (at' q _ ⟨a, sub a List.mem_cons_self, h2⟩ h4)) (h5.ext em)
    obtain ⟨k1, k2⟩ := hv (fun e he => he) g.each
    exact .dcT atp k1 k2
/-- a thing is known from now on: it is read, never written -/
def tFrz (t : TS) : TS := fun D σ H => t ⟨fun σ' H' => ∃ d u, H' d = some u ∧ Mut (some u) ∧ ∀ od, D.nx σ' (upd H' d (.frz od u)), D.rt, D.bk, D.ct⟩ σ H
theorem ps_frz {t : TS} (h : PS X st t) : PS X st (tFrz t) := by
  refine ⟨fun pins s σ H D I hw => ?_⟩
  refine thn (h.run pins s σ H _ I hw) fun f s1 q => ?_
  cases f with
  | next =>
    obtain ⟨σ', H', I2, d, u, hd, mu, q⟩ := q
    obtain ⟨od, I3⟩ := I2.lock hd mu
    exact ⟨σ', _, I3, q od⟩
  | brk => exact q
  | cont => exact q
  | ret v => exact q
end
end PM
namespace PM
open PySem PySem.Spec PyProof.Rows L2 LB
section
variable {T : Tb} {K : PySem.W.Frag} {X : Cx} {e : Expr} {st : Stmt} {R : ER}
theorem ga_len {c j : Nat} {me : ME} : ∀ {ds : List PyData} {ρ ρ' : Ev} {G G' : List (List Key × List PyData)}, gaGo c j me ds ρ G = some (ρ', G') → ρ.all plS = true → ρ'.all plS = true
  | [], _, _, _, _, h, p => by
    cases h
    exact p
  | d :: ds, ρ, ρ', G, G', h, p => by
    obtain ⟨l, e1, h⟩ := bind_eq h
    obtain ⟨ks, e2, h⟩ := bind_eq h
    exact ga_len h (all_set (all_set p rfl) rfl)
theorem add_len {G : List (List Key × List PyData)} {ks : List Key} {d : PyData} {n : Nat} (h1 : G.length ≤ n) (h2 : ∀ e ∈ G, e.2.length ≤ n) : (addG G ks d).length ≤ n + 1 ∧ ∀ e ∈ addG G ks d, e.2.length ≤ n + 1 := by
  unfold addG
  split
  · refine ⟨by rw [List.length_map]; omega, fun e he => ?_⟩
    obtain ⟨x, hx, rfl⟩ := List.mem_map.mp he
    have := h2 x hx
    split
    · show (x.2 ++ [d]).length ≤ _
      rw [List.length_append]
      show x.2.length + 1 ≤ _
      omega
    · omega
  · refine ⟨by rw [List.length_append]; show G.length + 1 ≤ _; omega, fun e he => ?_⟩
    rcases List.mem_append.mp he with h | h
    · have := h2 e h
      omega
    · rw [List.mem_singleton.mp h]
      show 1 ≤ _
      omega
abbrev tGa (K : PySem.W.Frag) (T : Tb) (i j c : Nat) (mi : MA) (me : ME) : TS := tFor (tI K T mi) (tG K T [c] (gN c)) (tSeq (tAsg (tD K T me) (gName j)) (tSeq (tIfS (tB (tDNotIn (tVar j) (tVar i))) (tSeq (sDPut (tVar i) (tVar j) (tLst tNil)) tNext) tNext) (tSeq (tDrop (tBM K "list" rAppend (tDGet (tVar i) (tVar j)) (tCons (tVar c) tNil))) tNext)))
theorem s_gather {i j c : Nat} {mi : MA} {me : ME} (hci : c ≠ i) (hji : j ≠ i) (hcj : c ≠ j) (h : PS X st (tFrz (tGa K T i j c mi me))) : PS X st (tSR K T R (mGather i j c mi me)) := ps_to h fun D σ H ⟨P0, P, ρ, o, h1, s, h2, q⟩ => by
  subst h1
  unfold mGather at h2
  split at h2
  · rename_i hd
    obtain ⟨ds, e0, h3⟩ := bind_eq h2
    split at h3
    · rename_i hh
      obtain ⟨few, ⟨cl, jl⟩, pl⟩ := hh
      obtain ⟨⟨ρf, Gf⟩, eg, rfl⟩ := map_eq h3
      obtain ⟨u, g1, g2⟩ := s.ok i _ hd
      cases g2 with
      | @own p _ r =>
      have lo := s.fr i _ p hd g1
      have il : i < ρ.length := (List.getElem?_eq_some_iff.mp hd).1
      refine ⟨P0, P, ρ, ds, rfl, s, e0, fun J P1 l1 wk => ?_⟩
      have r1 := r.up l1
      have s1 := s.up l1
      have ga : GAt K P0 P1 p [] [] := by
        cases r1 with
        | @dT kvs _ a1 a2 a3 =>
          cases a3
          exact ⟨a1, a2, .nil, List.nodup_nil, List.nodup_nil, lo, fun e he => absurd he List.not_mem_nil⟩
      have sp : St K P0 P1 σ (ρ.set i .no) := by
        have pp : ∀ (k : Nat) x, (ρ.set i .no)[k]? = some x → plS x = true := fun k x hx => List.all_eq_true.mp pl x (List.mem_of_getElem? hx)
        refine ⟨s1.le, by rw [List.length_set]; exact s1.len, fun k x hx => ?_, fun a b p d e ne h1 h2 h3 h4 => ?_, fun a d p h1 h2 => ?_, fun a b p ks ls ne h1 h2 h3 h4 => ?_, fun a ks p h1 h2 => ?_⟩
        · rcases getset hx with ⟨rfl, rfl, _⟩ | ⟨ne, hx⟩
          · exact ⟨_, g1, .no⟩
          · exact s1.ok k x hx
        · have := pp a _ h1
          cases this
        · have := pp a _ h1
          cases this
        · have := pp a _ h1
          cases this
        · have := pp a _ h1
          cases this
      refine ⟨fun n m σ' H' => m = ds.length - n ∧ n ≤ ds.length ∧ ∃ (Pc : Pr T) (ρ' : Ev) (kvs : List (List Key × V)) (G : List (List Key × List PyData)), Pc.H = H' ∧ Ex P1.M Pc.M ∧ St K P0 Pc σ' ρ' ∧ ρ'.all plS = true ∧ ρ'.length = ρ.length ∧ σ'[i]? = some (some (.ref p)) ∧ GAt K P0 Pc p kvs G ∧ G.length ≤ n ∧ (∀ e ∈ G, e.2.length ≤ n) ∧ gaGo c j me (ds.drop n) ρ' G = some (ρf, Gf),
        ⟨ds.length, by simp, Nat.zero_le _, P1, ρ.set i .no, [], [], rfl, ex_refl _, sp, pl, List.length_set, g1, ga, Nat.zero_le _, fun e he => absurd he List.not_mem_nil, eg⟩, ?_⟩
      rintro n m σ' H' ⟨rfl, hi, Pc, ρ', kvs, G, rfl, lc, sc, plc, il', gi, g, gl, gls, eg⟩
      by_cases hlt : n < ds.length
      · refine .inr ⟨wk.go n Pc hlt lc, fun σ2 H2 => ∃ m', m' < ds.length - n ∧ (m' = ds.length - (n + 1) ∧ n + 1 ≤ ds.length ∧ ∃ (Pc : Pr T) (ρ' : Ev) (kvs : List (List Key × V)) (G : List (List Key × List PyData)), Pc.H = H2 ∧ Ex P1.M Pc.M ∧ St K P0 Pc σ2 ρ' ∧ ρ'.all plS = true ∧ ρ'.length = ρ.length ∧ σ2[i]? = some (some (.ref p)) ∧ GAt K P0 Pc p kvs G ∧ G.length ≤ n + 1 ∧ (∀ e ∈ G, e.2.length ≤ n + 1) ∧ gaGo c j me (ds.drop (n + 1)) ρ' G = some (ρf, Gf)), fun σ2 H2 hh => hh, fun x H'' y => ?_⟩
        obtain ⟨P3, rfl, l3, dd, hdd, rx⟩ := wk.yld n Pc x H'' hlt lc y
        rw [drop_some hdd] at eg
        obtain ⟨l, el, eg⟩ := bind_eq eg
        obtain ⟨ks, ek, eg⟩ := bind_eq eg
        have s3 := sc.up l3
        refine ⟨P0, P3, ρ', dd, ρ'.set c (.val dd), rfl, s3, rx, rfl, fun σ2 s2 _ hk => ?_⟩
        have gi2 : σ2[i]? = some (some (.ref p)) := by
          rw [hk i (by simp; exact Ne.symm hci)]
          exact gi
        have g3 := g.up l3
        refine ⟨P0, P3, ρ'.set c (.val dd), l, rfl, s2, el, fun v P4 l4 rv => ?_⟩
        have g4 := g3.up l4
        have s4 := (s2.up l4).set rv j
        have gi4 : (σ2.set j (some v))[i]? = some (some (.ref p)) := by
          rw [List.getElem?_set_ne hji]
          exact gi2
        have pl4 : ((ρ'.set c (.val dd)).set j (.val l)).all plS = true := all_set (all_set plc rfl) rfl
        have il4 : ((ρ'.set c (.val dd)).set j (.val l)).length = ρ.length := by
          rw [List.length_set, List.length_set]
          exact il'
        obtain ⟨w, hc4, rw4⟩ : ∃ w, (σ2.set j (some v))[c]? = some (some w) ∧ Rp K P4.M w dd := by
          have e1 : ((ρ'.set c (.val dd)).set j (.val l))[c]? = some (.val dd) := by
            rw [List.getElem?_set_ne (Ne.symm hcj), List.getElem?_set_self (by rw [il']; exact cl)]
          obtain ⟨w, k1, k2⟩ := s4.ok c _ e1
          cases k2 with
          | val r => exact ⟨_, k1, r⟩
        have hj4 : (σ2.set j (some v))[j]? = some (some v) := List.getElem?_set_self (by
          have := s2.len
          rw [List.length_set] at this
          rw [this, il']
          exact jl)
        obtain ⟨b, rfl, hb⟩ : ∃ b, v = V.ref b ∧ P4.M b = some (.tup (ks.map kV)) := by
          cases l with
          | tuple kd =>
            cases rv with
            | @tup b xs _ hb ra =>
              rw [keysK_eq ek] at ra
              rw [rpk_inv ra] at hb
              exact ⟨b, rfl, hb⟩
          | _ => cases ek
        have hbH : P4.H b = some (.tup (ks.map kV)) := P4.sub _ _ hb fun _ z => nomatch z
        have lc4 : Ex P1.M P4.M := lc.trans (l3.m.trans l4.m)
        have kl : kvs.length = G.length := g.each.length
        obtain ⟨n1, n2⟩ := add_len (ks := ks) (d := dd) gl gls
        refine ⟨_, hj4, _, gi4, p, valV kvs ks, rfl, DGet.t g4.h hbH, _, rfl, ?_⟩
        cases hv : valV kvs ks with
        | none =>
          refine iteT ?_
          refine ⟨Nat.zero_le _, fun q hq => ?_⟩
          obtain ⟨Q, hM, hH, hp1, hq1, lQ, gQ⟩ := g4.more s4.le (ks := ks) hv hq rw4
          have nbq : b ≠ q := fun z => by
            rw [z, hq] at hbH
            cases hbH
          have nbp : b ≠ p := fun z => by
            rw [z, g4.h] at hbH
            cases hbH
          have hb1 : (upd P4.H q (.lst [])) b = some (.tup (ks.map kV)) := by
            rw [upd_ne nbq]
            exact hbH
          have kn := val_none hv
          refine ⟨_, gi4, _, hj4, p, _, rfl, DPut.t hp1 hb1 (Nat.lt_of_le_of_lt (by rw [kl]; exact Nat.le_trans gl (Nat.le_trans (Nat.le_of_lt hlt) few)) (by decide)), ?_⟩
          rw [put_new kn]
          have hb2 : (upd (upd P4.H q (.lst [])) p (.dT (kvs ++ [(ks, V.ref q)]))) b = some (.tup (ks.map kV)) := by
            rw [upd_ne nbp]
            exact hb1
          refine ⟨_, gi4, _, hj4, p, V.ref q, rfl, (val_new (v := V.ref q) kn) ▸ DGet.t upd_same hb2, .inl ⟨rfl, [], SqL.of hq1⟩, w, hc4, q, [], w, rfl, rfl, hq1, by decide, ?_⟩
          exact ⟨_, Nat.sub_lt_sub_left hlt (Nat.lt_succ_self n), rfl, hlt, Q, _, _, _, hH, by rw [hM]; exact lc4, s4.plain pl4 lQ (by rw [hM]; exact ex_refl _), pl4, il4, gi4, gQ, n1, n2, eg⟩
        | some v' =>
          obtain ⟨q, xs, Q, rfl, hq, ⟨ds', hds, hxl⟩, hM, hH, lQ, gQ⟩ := g4.hit s4.le hv rw4
          have hl : ds'.length ≤ n := gls _ hds
          refine iteF ?_
          refine ⟨_, gi4, _, hj4, p, V.ref q, rfl, hv ▸ DGet.t g4.h hbH, .inl ⟨rfl, xs, SqL.of hq⟩, w, hc4, q, xs, w, rfl, rfl, hq, szl (by rw [hxl]; omega), ?_⟩
          exact ⟨_, Nat.sub_lt_sub_left hlt (Nat.lt_succ_self n), rfl, hlt, Q, _, _, _, hH, by rw [hM]; exact lc4, s4.plain pl4 lQ (by rw [hM]; exact ex_refl _), pl4, il4, gi4, gQ, n1, n2, eg⟩
      · have ei : n = ds.length := by omega
        subst ei
        rw [List.drop_length] at eg
        cases eg
        refine .inl ⟨wk.stop Pc lc, p, .dT kvs, g.h, True.intro, fun od => ?_⟩
        obtain ⟨Q, hQ, lQ, mQ, rQ⟩ := g.done sc.le od
        have sQ := sc.plain plc lQ mQ
        have sf : St K P0 Q σ' (ρf.set i (.val (dG Gf))) := by
          have := sQ.set rQ i
          have e : σ'.set i (some (.ref p)) = σ' := by
            refine List.ext_getElem? fun k => ?_
            by_cases z : i = k
            · subst z
              rw [List.getElem?_set_self (by rw [sQ.len, il']; exact il), gi]
            · rw [List.getElem?_set_ne z]
          rw [e] at this
          exact this
        have := q Q σ' sf
        rw [hQ] at this
        exact this
    · cases h3
  · cases h2
end
end PM

namespace PM
open PySem PySem.Spec PyProof.Rows L2 LB
section
variable {T : Tb} {K : PySem.W.Frag} {X : Cx} {e : Expr} {st : Stmt} {R : ER}
/-! ### d[k], list(d) of a datum whose keys are tuples -/
theorem getT_in {M : Hp} {ks : List Key} {d : PyData} : ∀ {kvs : List (List Key × V)} {ds : List (PyData × PyData)}, kvs.map (fun e => PyData.tuple (e.1.map keyD)) = ds.map (·.1) → RpAll K M (kvs.map (·.2)) (ds.map (·.2)) → getD ds ks = some d → ∃ v, valV kvs ks = some v ∧ Rp K M v d
  | [], [], _, _, h => by cases h
  | (a, v) :: kvs, (b, dv) :: ds, h1, h2, h => by
    have e1 : PyData.tuple (a.map keyD) = b := by injection h1
    have e2 : kvs.map (fun e => PyData.tuple (e.1.map keyD)) = ds.map (·.1) := by injection h1
    subst e1
    have ka : keyL (.tuple (a.map keyD)) = some a := keysK_of a
    cases h2 with
    | cons r1 r2 =>
      unfold getD at h
      rw [List.find?_cons] at h
      unfold valV
      rw [List.find?_cons]
      by_cases z : a = ks
      · subst z
        rw [decide_eq_true (by exact ka)] at h
        cases h
        rw [decide_eq_true rfl]
        exact ⟨v, rfl, r1⟩
      · rw [decide_eq_false (fun w => z (by rw [ka] at w; exact Option.some.inj w))] at h
        rw [decide_eq_false z]
        exact getT_in e2 r2 h
  | [], _ :: _, h1, _, _ => by cases h1
  | _ :: _, [], h1, _, _ => by cases h1
theorem getK_no {ks : List Key} : ∀ {kvs : List (Key × V)} {ds : List (PyData × PyData)}, kvs.map (fun e => keyD e.1) = ds.map (·.1) → getD ds ks = none
  | [], [], _ => rfl
  | (a, v) :: kvs, (b, dv) :: ds, h1 => by
    have e1 : keyD a = b := by injection h1
    have e2 : kvs.map (fun e => keyD e.1) = ds.map (·.1) := by injection h1
    subst e1
    unfold getD
    rw [List.find?_cons, decide_eq_false (fun w => by cases a <;> cases w)]
    exact getK_no e2
  | [], _ :: _, h1 => by cases h1
  | _ :: _, [], h1 => by cases h1
def oGetT (a b : PyData) : Option PyData := match a, b with
  | .dict ds, .tuple kd => (keysK kd).bind fun ks => getD ds ks
  | _, _ => none
theorem c_dgetT {a key : ME} (h : PE X e (tDGet (tD K T a) (tD K T key))) : PE X e (tD K T (mOp oGetT a key)) := pe_to h fun σ H Q ⟨P0, P, ρ, d, h1, s, h2, q⟩ => by
  subst h1
  obtain ⟨x, ex, h3⟩ := bind_eq h2
  obtain ⟨y, ey, h4⟩ := bind_eq h3
  clear h2 h3
  unfold oGetT at h4
  split at h4
  · rename_i ds kd
    obtain ⟨ks, ek, h5⟩ := bind_eq h4
    refine ⟨P0, P, ρ, _, rfl, s, ex, fun v P1 l1 r1 => ⟨P0, P1, ρ, _, rfl, s.up l1, ey, fun w P2 l2 r2 => ?_⟩⟩
    have r3 := r1.ext l2.m
    cases r2 with
    | @tup b xs _ hb ra =>
      rw [keysK_eq ek] at ra
      rw [rpk_inv ra] at hb
      cases r3 with
      | @dct p kvs _ hp hk hv =>
        rw [getK_no hk] at h5
        cases h5
      | @dcT p od kvs _ hp hk hv =>
        obtain ⟨u, eu, ru⟩ := getT_in hk hv h5
        refine ⟨p, u, rfl, ?_, q u P2 (l1.trans l2) ru⟩
        rw [← eu]
        exact .inr ⟨kvs, ks, b, .inr ⟨_, P2.sub _ _ hp (fun _ z => nomatch z)⟩, rfl, P2.sub _ _ hb (fun _ z => nomatch z), rfl⟩
  · cases h4
def rKeysT : List V → Hp → VK → Prop := fun xs H Q => ∃ d kvs, xs = [V.ref d] ∧ Rd H d (.dT kvs) ∧ ∀ p bs, H p = none → IsKeys H kvs bs → Q (.ref p) (upd H p (.lst (bs.map V.ref)))
def oKeysT : List PyData → Option PyData
  | [.dict ((.tuple t, v) :: ds)] => some (.list ((.tuple t :: ds.map (·.1))))
  | _ => none
theorem keys_each {H : Hp} : ∀ {kvs : List (List Key × V)} {bs : List Addr} {ds : List PyData}, IsKeys H kvs bs → kvs.map (fun e => PyData.tuple (e.1.map keyD)) = ds → PySem.W.EachIs (TupK H) bs ds
  | _, _, _, .nil, h => by
    subst h
    exact .nil
  | _, _, _, .cons (a := a) h t, hd => by
    subst hd
    exact .cons ⟨a.1, rfl, h⟩ (keys_each t rfl)
theorem cb_keysT : CbF K T rKeysT oKeysT := by
  intro P vs ds d ra h Q q
  unfold oKeysT at h
  split at h
  · rename_i t v ds
    cases h
    cases ra with
    | cons r1 r2 =>
      cases r2
      have r : Rp K P.M _ (.dict ((.tuple t, v) :: ds)) ∨ _ := r1
      rcases r with r | ⟨p, rfl, r⟩
      · cases r with
        | @dct p kvs _ hp hk hv =>
          exfalso
          cases kvs with
          | nil => cases hk
          | cons a kvs =>
            have : keyD a.1 = .tuple t := by injection hk
            cases ha : a.1 <;> rw [ha] at this <;> cases this
        | @dcT p od kvs _ hp hk hv =>
          refine ⟨p, kvs, rfl, .inr ⟨_, P.sub _ _ hp fun _ z => nomatch z⟩, fun l bs hl ik => ?_⟩
          obtain ⟨P1, e1, l1, r1⟩ := showAll (K := K) P (keys_each ik hk)
          have hl1 : P1.H l = none := by rw [e1]; exact hl
          have := q l (P1.hid l (.lst (bs.map V.ref)) hl1) (l1.trans (le_hid P1 hl1)) (.lst (P1.none hl1) upd_same r1) (loose_none hl)
          have eh : (P1.hid l (.lst (bs.map V.ref)) hl1).H = upd P.H l (.lst (bs.map V.ref)) := by
            show upd P1.H l _ = _
            rw [e1]
          rw [eh] at this
          exact this
      · cases r with
        | @dT kvs _ a1 a2 a3 =>
          refine ⟨p, kvs, rfl, .inl a2, fun l bs hl ik => ?_⟩
          have hk : kvs.map (fun e => PyData.tuple (e.1.map keyD)) = ((PyData.tuple t, v) :: ds).map (·.1) := by
            have : ∀ {as : List (List Key × V)} {bs : List (PyData × PyData)}, PySem.W.EachIs (DT K P.M) as bs → as.map (fun e => PyData.tuple (e.1.map keyD)) = bs.map (·.1) := by
              intro as bs h
              induction h with
              | nil => rfl
              | cons h t ih => rw [List.map_cons, List.map_cons, ih, h.1]
            exact this a3
          obtain ⟨P1, e1, l1, r1⟩ := showAll (K := K) P (keys_each ik hk)
          have hl1 : P1.H l = none := by rw [e1]; exact hl
          have := q l (P1.hid l (.lst (bs.map V.ref)) hl1) (l1.trans (le_hid P1 hl1)) (.lst (P1.none hl1) upd_same r1) (loose_none hl)
          have eh : (P1.hid l (.lst (bs.map V.ref)) hl1).H = upd P.H l (.lst (bs.map V.ref)) := by
            show upd P1.H l _ = _
            rw [e1]
          rw [eh] at this
          exact this
  · cases h
theorem mKeysT_is {a : MA} (ρ : Ev) (d : PyData) (h : mCb oKeysT a ρ = some d) : isLst d = true := by
  obtain ⟨x, _, h⟩ := bind_eq h
  unfold oKeysT at h
  split at h
  · cases h
    rfl
  · cases h
/-! ### min(list), max(list) of data -/
open PySem.W in
theorem minD_mem : ∀ (xs : List PyData) (x : PyData), minD x xs ∈ x :: xs
  | [], x => List.mem_cons_self
  | y :: xs, x => by
    unfold minD
    rw [List.foldl_cons]
    have := minD_mem xs (if PySem.W.dataLt y x = true then y else x)
    unfold minD at this
    rcases List.mem_cons.mp this with h | h
    · rw [h]
      split
      · exact List.mem_cons_of_mem _ List.mem_cons_self
      · exact List.mem_cons_self
    · exact List.mem_cons_of_mem _ (List.mem_cons_of_mem _ h)
theorem lay_mem : ∀ {ds : List PyData} {d : PyData}, PyData.canLayAll0 ds = true → d ∈ ds → d.canLay0 = true
  | _ :: ds, d, h, hd => by
    unfold PyData.canLayAll0 at h
    rw [Bool.and_eq_true] at h
    rcases List.mem_cons.mp hd with rfl | hd
    · exact h.1
    · exact lay_mem h.2 hd
open PySem.W in
def rMinL (K : PySem.W.Frag) : List V → Hp → VK → Prop := fun vs H Q => ∃ (a : Addr) (xs : List V) (x : PyData) (ds : List PyData), vs = [.ref a] ∧ SqL K H a xs ∧ DpAll K H xs (x :: ds) ∧ PyData.canLayAll0 (x :: ds) = true ∧ AlikeAll (x :: ds) ∧ PyData.depthAll (x :: ds) ≤ 40 ∧
  ∀ (i : Nat) v, xs[i]? = some v → (x :: ds)[i]? = some (minD x ds) → Q v H
open PySem.W in
theorem cr_minL (hc : X.calm = true) (hu : X.A.units + 64 < cLine) (hK : X.K = K := by rfl) : CallR X (.builtin "min") (rMinL K) := by
  subst hK
  intro pins s σ H xs us Q I r h
  obtain ⟨a, xs, x, ds, rfl, hs, ra, hl, ha, hd, q⟩ := h
  obtain rfl := Vals.ref1 r
  obtain ⟨its, rv, pl, hz⟩ := I.list hs
  obtain ⟨as, hr⟩ := Dp.readsAll I (x :: ds) xs its ra rv
  refine min_list_data (I.ok.hd hc) pl.isList (by exact hr) ha (by omega) fun i v h' tk bs hi rd hk => ?_
  have hi' : its[i]? = some v := by simpa using hi
  obtain ⟨cs, r2, il, _, _⟩ := readsAll_at hr i v hi'
  have e1 : (x :: ds)[i]? = some ((x :: ds).getD i .none) := by
    rw [List.getD_eq_getElem?_getD, List.getElem?_eq_getElem il]
    rfl
  have l1 : ((x :: ds).getD i .none).canLay0 = true := lay_mem hl (List.mem_of_getElem? e1)
  have l2 : (minD x ds).canLay0 = true := lay_mem hl (minD_mem ds x)
  have ee : (x :: ds).getD i .none = minD x ds := by
    rw [← SeqAt.readOf_eq l1 (reads_keeps hk r2), ← SeqAt.readOf_eq l2 rd]
  obtain ⟨w, hw, rw'⟩ : ∃ w, xs[i]? = some w ∧ RelV w v := by
    have il : i < xs.length := by
      rw [rv.length]
      exact (List.getElem?_eq_some_iff.mp hi').1
    obtain ⟨u, h1, h2⟩ := rv.get (List.getElem?_eq_getElem il)
    rw [hi'] at h1
    cases h1
    exact ⟨_, List.getElem?_eq_getElem il, h2⟩
  exact ⟨w, H, I.kept hk, rw', q i w hw (by rw [e1, ee])⟩
open PySem.W Classical in
noncomputable def oMinL : List PyData → Option PyData
  | [.list (x :: ds)] => if PyData.canLayAll0 (x :: ds) = true ∧ AlikeAll (x :: ds) ∧ PyData.depthAll (x :: ds) ≤ 40 then some (minD x ds) else none
  | _ => none
open PySem.W in
theorem x_minL {x : PyData} {ds : List PyData} (h1 : PyData.canLayAll0 (x :: ds) = true) (h2 : AlikeAll (x :: ds)) (h3 : PyData.depthAll (x :: ds) ≤ 40) : oMinL [.list (x :: ds)] = some (minD x ds) := if_pos ⟨h1, h2, h3⟩
theorem cb_minL : CbD K T (rMinL K) oMinL := by
  intro P vs ds d ra h Q q
  unfold oMinL at h
  split at h
  · rename_i x ds
    split at h
    · rename_i hh
      cases h
      cases ra with
      | cons r1 r2 =>
        cases r2
        obtain ⟨p, xs, rfl, hs, r⟩ := r1.list
        refine ⟨p, xs, x, ds, rfl, hs, rps_dp hh.1 (r.ext P.sub), hh.1, hh.2.1, hh.2.2, fun i v h1 h2 => q v P (Le.refl P) ?_⟩
        obtain ⟨v', e1, e2⟩ := rpAll_at r (i := (i : Int)) (d := PySem.W.minD x ds) (atI_nat h2)
        have e1 : atI xs (i : Int) = some v' := e1
        rw [atI_nat h1] at e1
        cases e1
        exact e2
    · cases h
  · cases h
/-! ### x in a list of data -/
def inL (a b : PyData) : Option PyData := match b with
  | .list ds => if SeqAt.shaped a = true ∧ SeqAt.shaped (.list ds) = true then some (.bool (ds.any fun z => PyData.eqv z a)) else none
  | _ => none
def ninL (a b : PyData) : Option PyData := match b with
  | .list ds => if SeqAt.shaped a = true ∧ SeqAt.shaped (.list ds) = true then some (.bool (!ds.any fun z => PyData.eqv z a)) else none
  | _ => none
def oInZ (a b : PyData) : Option PyData := match oInY a b with
  | some d => some d
  | none => inL a b
def oNinZ (a b : PyData) : Option PyData := match oNinY a b with
  | some d => some d
  | none => ninL a b
theorem op_inDK (hu : X.A.units + 65 < cLine) (hK : X.K = K := by rfl) : OpR X (compareOp .In) (rInD K) := by
  subst hK
  exact op_inD hu
theorem op_notInDK (hu : X.A.units + 65 < cLine) (hK : X.K = K := by rfl) : OpR X (compareOp .NotIn) (rNotInD K) := by
  subst hK
  exact op_notInD hu
theorem op_uInZ (hu : X.A.units + 65 < cLine) (hK : X.K = K := by rfl) : OpR X (compareOp .In) (fun x y H Q => (rIn K false x y H Q ∨ rInT K x y H Q) ∨ rInD K x y H Q) := opR_or (op_uInY hu hK) (op_inDK hu hK)
theorem op_uNinZ (hu : X.A.units + 65 < cLine) (hK : X.K = K := by rfl) : OpR X (compareOp .NotIn) (fun x y H Q => (rIn K true x y H Q ∨ rNinT K x y H Q) ∨ rNotInD K x y H Q) := opR_or (op_uNinY hu hK) (op_notInDK hu hK)
theorem od_inZ : OpD K T (fun x y H Q => (rIn K false x y H Q ∨ rInT K x y H Q) ∨ rInD K x y H Q) oInZ := by
  intro P x y a b d ra rb h Q q
  unfold oInZ at h
  split at h
  · rename_i d' hd
    cases h
    exact .inl (od_inY P x y a b d ra rb hd Q q)
  · unfold inL at h
    split at h
    · split at h
      · cases h
        rename_i hh
        exact .inr ⟨a, _, ra.dp (SeqAt.canLay_of_shaped hh.1), rb.dp (SeqAt.canLay_of_shaped hh.2), hh.1, hh.2, q _ P (Le.refl P) (.bl _)⟩
      · cases h
    · cases h
theorem od_ninZ : OpD K T (fun x y H Q => (rIn K true x y H Q ∨ rNinT K x y H Q) ∨ rNotInD K x y H Q) oNinZ := by
  intro P x y a b d ra rb h Q q
  unfold oNinZ at h
  split at h
  · rename_i d' hd
    cases h
    exact .inl (od_ninY P x y a b d ra rb hd Q q)
  · unfold ninL at h
    split at h
    · split at h
      · cases h
        rename_i hh
        exact .inr ⟨a, _, ra.dp (SeqAt.canLay_of_shaped hh.1), rb.dp (SeqAt.canLay_of_shaped hh.2), hh.1, hh.2, q _ P (Le.refl P) (.bl _)⟩
      · cases h
    · cases h
/-! ### the truth of a list -/
def tTl (K : PySem.W.Frag) (t : TE) : TT := fun σ H Q => t σ H fun x H1 => ∃ (a : Addr) (xs : List V), x = .ref a ∧ SqL K H1 a xs ∧ Q (!xs.isEmpty) H1
theorem pt_lst {t : TE} (h : PE X e t) (hK : X.K = K := by rfl) (he : ∀ whole, isTrue e X.env whole = (do let v ← whole; standAt e.pos; holding [v] (truthy v)) := by intro _; rfl) : PT X e (tTl K t) := by
  subst hK
  refine ⟨fun pins s σ H Q I hw => ?_⟩
  refine isTrue_plain (thn (h.run pins s σ H _ I hw) fun v s1 ⟨x, H1, I1, r1, a, xs, hx, hs, q⟩ => ?_) (he _)
  subst hx
  obtain rfl : v = Value.ref a := r1
  obtain ⟨its, rv, pl, hz⟩ := I1.list hs
  have hl := rv.length
  have h63 := line63
  refine PySem.wpAny_truthy_list pl.isList (by simp only [List.size_toArray] <;> omega) ⟨H1, I1.kept fun _ _ z => z, ?_⟩
  have e : (!its.toArray.isEmpty) = !xs.isEmpty := by
    cases xs <;> cases its <;> first | rfl | cases hl
  rw [e]
  exact q
def qL (a : ME) : MT := fun ρ => (a ρ).bind fun d => match d with
  | .list ds => some (!ds.isEmpty)
  | _ => none
end
end PM


namespace PM
open PySem PySem.Spec PyProof.Rows L2 LB
section
variable {T : Tb} {K : PySem.W.Frag} {X : Cx} {e : Expr} {st : Stmt} {R : ER}
/-! ### min(xs, key=len), max(xs, key=len) -/
theorem c_ql {a : ME} (h : PT X e (tTl K (tD K T a))) : PT X e (tQ K T (qL a)) := pt_to h fun σ H Q ⟨P0, P, ρ, c, h1, s, h2, q⟩ => by
  subst h1
  obtain ⟨d, e1, h3⟩ := bind_eq h2
  split at h3
  · rename_i ds
    cases h3
    refine ⟨P0, P, ρ, _, rfl, s, e1, fun v P' l r => ?_⟩
    cases r with
    | @lst a xs _ hs ra =>
      have hl := ra.length
      refine ⟨a, xs, rfl, ex_l P'.sub hs, ?_⟩
      have : (!xs.isEmpty) = !ds.isEmpty := by
        cases xs <;> cases ds <;> first | rfl | cases hl
      rw [this]
      exact q P' l
  · cases h3
def bestP (f : PyData → PyData → Bool) (b : V × PyData) (bs : List (V × PyData)) : V × PyData := bs.foldl (fun a y => if f y.2 a.2 = true then y else a) b
def bestL (f : PyData → PyData → Bool) (x : PyData) (ds : List PyData) : PyData := ds.foldl (fun a y => if f y a = true then y else a) x
theorem bestP_snd (f : PyData → PyData → Bool) : ∀ (bs : List (V × PyData)) (b : V × PyData), (bestP f b bs).2 = bestL f b.2 (bs.map (·.2))
  | [], _ => rfl
  | y :: bs, b => by
    unfold bestP bestL
    rw [List.map_cons, List.foldl_cons, List.foldl_cons]
    have := bestP_snd f bs (if f y.2 b.2 = true then y else b)
    unfold bestP bestL at this
    rw [this]
    split <;> rfl
theorem bestP_mem (f : PyData → PyData → Bool) : ∀ (bs : List (V × PyData)) (b : V × PyData), bestP f b bs ∈ b :: bs
  | [], _ => List.mem_cons_self
  | y :: bs, b => by
    unfold bestP
    rw [List.foldl_cons]
    have := bestP_mem f bs (if f y.2 b.2 = true then y else b)
    unfold bestP at this
    rcases List.mem_cons.mp this with h | h
    · rw [h]
      split
      · exact List.mem_cons_of_mem _ List.mem_cons_self
      · exact List.mem_cons_self
    · exact List.mem_cons_of_mem _ (List.mem_cons_of_mem _ h)
def shorter (y a : PyData) : Bool := decide (tlen y < tlen a)
def longer (y a : PyData) : Bool := decide (tlen a < tlen y)
def tBest (K : PySem.W.Frag) (f : PyData → PyData → Bool) (t : TA) : TE := fun σ H Q => t σ H fun vs H1 => ∃ (a : Addr) (b : V × PyData) (bs : List (V × PyData)), vs = [.ref a] ∧ SqL K H1 a ((b :: bs).map (·.1)) ∧ (∀ c ∈ b :: bs, ∃ q ys, c.1 = .ref q ∧ SqT K H1 q ys ∧ tlen c.2 = ys.length) ∧ Q (bestP f b bs).1 H1
theorem pe_minLen {t : TA} {p p1 k1 pos : Pos} (hc : X.calm = true) (hg : Gl X "min") (hm : X.mg "min" = none) (hg2 : Gl X "len") (hm2 : X.mg "len" = none) (ha : PA X [e] t)
    (he : backTo pos (starEach [e] X.env) = (false, eval e X.env) :: backTo pos (starEach [] X.env) := by rfl) (hpl : (backTo pos (starEach [e] X.env)).any (·.1) = false := by rfl) :
    PE X (.Call (.Name "min" p) [e] [⟨some "key", .Name "len" p1, k1⟩] pos) (tBest X.K shorter t) := by
  refine ⟨fun pins s σ H Q I h => ?_⟩
  refine wpAny_Call_Name_kw (ld_blt I hg hm (u := .builtin "min") (by decide +kernel) ?_)
  refine PyProof.Rows.callWith_kw (thn (ha.run pos pins s σ H _ I h) fun us s1 ⟨vs, H1, I1, r1, a, b, bs, hx, hq, hb, q⟩ => ?_) he hpl rfl rfl
  subst hx
  obtain ⟨u, rfl, ru⟩ := vals1 r1
  cases ru
  show wpAny _ _ (evalAll [(do let v ← eval (.Name "len" p1) X.env; standAt pos; pure v)]) _ _ s1
  refine wpAny_evalAll_cons (wpAny_bind (ld_blt I1 hg2 hm2 (u := .builtin "len") (by decide +kernel) (wpAny_bind (wpAny_standAt (wpAny_pure (wpAny_evalAll_nil ?_))))))
  obtain ⟨its, rv, pl, hz⟩ := I1.list hq
  have hl := rv.length
  rw [List.length_map] at hl
  have ln : its.toArray.size = bs.length + 1 := by
    rw [List.size_toArray, ← hl]
    rfl
  refine call_min_walkKB (q := "len") (PySem.W.iter_listW (A := X.A.in1) (I1.ok.hd hc) pl.isList fun s₂ e2 W st hfp hw hk => ?_)
  subst e2
  let gt : Nat → V × PyData := fun i => (b :: bs).getD i (.non, .none)
  have at' : ∀ i v, its.toArray[i]? = some v → ∃ c ∈ b :: bs, gt i = c ∧ RelV c.1 v := fun i v hi => by
    have hi' : its[i]? = some v := by simpa using hi
    have il : i < (b :: bs).length := by
      rw [hl]
      exact (List.getElem?_eq_some_iff.mp hi').1
    obtain ⟨u, h1, h2⟩ := rv.get (i := i) (x := (b :: bs)[i].1) (by rw [List.getElem?_map, List.getElem?_eq_getElem il]; rfl)
    rw [hi'] at h1
    cases h1
    refine ⟨(b :: bs)[i], List.getElem_mem il, ?_, h2⟩
    show (b :: bs).getD i _ = _
    rw [List.getD_eq_getElem?_getD, List.getElem?_eq_getElem il]
    rfl
  refine ⟨_, _, _, _, _, _, _, (fun s' => ∃ h' tk, s' = { s1 with heap := h', toks := tk } ∧ ∀ b o, s1.heap.get? b = some o → h'.get? b = some o), (fun i k _ => ∃ t, k = Value.int (tlen (gt i).2 : Int) t), (fun i j => shorter (gt i).2 (gt j).2), rfl, W, st, hfp, by omega, ⟨fun s2 s3 hJ hm => ?_, fun i k s2 s3 hv _ => hv, fun i v s2 o Q' E' hin hP hJ hst hS hq' => ?_, fun i j ki kj s2 Q' E' hJ hi hj hq' => ?_⟩, ⟨_, _, rfl, hk⟩, fun v s' hP hJ => ?_⟩
  · obtain ⟨h', tk, rfl, hk'⟩ := hJ
    obtain ⟨h3, g3, d3, tk3, os3⟩ := s3
    have eg : g3 = s1.gens := hm.gens
    have ed : d3 = s1.drawn := hm.drawn
    have eo : os3 = s1.os := hm.os
    subst eg ed eo
    refine ⟨h3, tk3, rfl, fun b o e => hm.heap b o (fun hb => ?_) (hk' b o e)⟩
    have := Heap.lt_size e
    rcases List.mem_cons.mp hb with rfl | hb
    · have z : (s1.heap.push { cls := .type "list_iterator", data := .fields #[.ref a, .int 0 0] }).objs.size < s1.heap.objs.size := this
      rw [Heap.size_push] at z
      exact absurd (Nat.lt_of_succ_lt z) (Nat.lt_irrefl _)
    · rw [List.mem_singleton.mp hb] at this
      exact absurd this (Nat.lt_irrefl _)
  · obtain ⟨h', tk, rfl, hk'⟩ := hJ
    obtain ⟨c, hcm, hgt, rc⟩ := at' i v hP
    obtain ⟨r, ys, e1, hys, hn⟩ := hb c hcm
    rw [e1] at rc
    obtain rfl : v = Value.ref r := rc
    obtain ⟨its', r', ⟨o', e, hcl, n, hd⟩, hz'⟩ := I1.tuple hys
    have hlen := r'.length
    have h63 := line63
    refine len_tuple (items := its'.toArray) ⟨o', hk' _ _ e, hcl, n, hd⟩ (by simp only [List.size_toArray] <;> omega) ?_
    refine hq' _ _ ⟨_, _, rfl, hk'⟩ hst hS ⟨tk + 1, ?_⟩ fun _ _ z => z
    rw [hgt, hn, List.size_toArray, ← hlen]
  · refine CmpOf.ints_lt (prog := X.prog) (w := X.w) (A := X.A.in1) (P := fun i v => ∃ t, v = .int (tlen (gt i).2 : Int) t) (fun i => (tlen (gt i).2 : Int)) (fun i v h => h) i j _ _ _ _ _ hi hj ?_
    have : decide ((tlen (gt i).2 : Int) < (tlen (gt j).2 : Int)) = shorter (gt i).2 (gt j).2 := by
      unfold shorter
      exact decide_eq_decide.mpr (by omega)
    show Q' (Value.bool (decide ((tlen (gt i).2 : Int) < (tlen (gt j).2 : Int)))) s2
    rw [this]
    exact hq'
  · obtain ⟨h', tk, rfl, hk'⟩ := hJ
    obtain ⟨c, hcm, hgt, rc⟩ := at' _ v hP
    refine ⟨c.1, H1, I1.kept hk', rc, ?_⟩
    have e2 := (PySem.W.argBest_fold (fun p q : V × PyData => shorter p.2 q.2) (V.non, PyData.none) b bs bs.length (Nat.le_refl _)).2
    rw [List.take_length] at e2
    have e1 : its.toArray.size - 1 = bs.length := by omega
    rw [e1] at hgt
    have : c = bestP shorter b bs := by
      rw [← hgt]
      exact e2
    rw [this]
    exact q
theorem pe_maxLen {t : TA} {p p1 k1 pos : Pos} (hc : X.calm = true) (hg : Gl X "max") (hm : X.mg "max" = none) (hg2 : Gl X "len") (hm2 : X.mg "len" = none) (ha : PA X [e] t)
    (he : backTo pos (starEach [e] X.env) = (false, eval e X.env) :: backTo pos (starEach [] X.env) := by rfl) (hpl : (backTo pos (starEach [e] X.env)).any (·.1) = false := by rfl) :
    PE X (.Call (.Name "max" p) [e] [⟨some "key", .Name "len" p1, k1⟩] pos) (tBest X.K longer t) := by
  refine ⟨fun pins s σ H Q I h => ?_⟩
  refine wpAny_Call_Name_kw (ld_blt I hg hm (u := .builtin "max") (by decide +kernel) ?_)
  refine PyProof.Rows.callWith_kw (thn (ha.run pos pins s σ H _ I h) fun us s1 ⟨vs, H1, I1, r1, a, b, bs, hx, hq, hb, q⟩ => ?_) he hpl rfl rfl
  subst hx
  obtain ⟨u, rfl, ru⟩ := vals1 r1
  cases ru
  show wpAny _ _ (evalAll [(do let v ← eval (.Name "len" p1) X.env; standAt pos; pure v)]) _ _ s1
  refine wpAny_evalAll_cons (wpAny_bind (ld_blt I1 hg2 hm2 (u := .builtin "len") (by decide +kernel) (wpAny_bind (wpAny_standAt (wpAny_pure (wpAny_evalAll_nil ?_))))))
  obtain ⟨its, rv, pl, hz⟩ := I1.list hq
  have hl := rv.length
  rw [List.length_map] at hl
  have ln : its.toArray.size = bs.length + 1 := by
    rw [List.size_toArray, ← hl]
    rfl
  refine call_max_walkKB (q := "len") (PySem.W.iter_listW (A := X.A.in1) (I1.ok.hd hc) pl.isList fun s₂ e2 W st hfp hw hk => ?_)
  subst e2
  let gt : Nat → V × PyData := fun i => (b :: bs).getD i (.non, .none)
  have at' : ∀ i v, its.toArray[i]? = some v → ∃ c ∈ b :: bs, gt i = c ∧ RelV c.1 v := fun i v hi => by
    have hi' : its[i]? = some v := by simpa using hi
    have il : i < (b :: bs).length := by
      rw [hl]
      exact (List.getElem?_eq_some_iff.mp hi').1
    obtain ⟨u, h1, h2⟩ := rv.get (i := i) (x := (b :: bs)[i].1) (by rw [List.getElem?_map, List.getElem?_eq_getElem il]; rfl)
    rw [hi'] at h1
    cases h1
    refine ⟨(b :: bs)[i], List.getElem_mem il, ?_, h2⟩
    show (b :: bs).getD i _ = _
    rw [List.getD_eq_getElem?_getD, List.getElem?_eq_getElem il]
    rfl
  refine ⟨_, _, _, _, _, _, _, (fun s' => ∃ h' tk, s' = { s1 with heap := h', toks := tk } ∧ ∀ b o, s1.heap.get? b = some o → h'.get? b = some o), (fun i k _ => ∃ t, k = Value.int (tlen (gt i).2 : Int) t), (fun i j => longer (gt i).2 (gt j).2), rfl, W, st, hfp, by omega, ⟨fun s2 s3 hJ hm => ?_, fun i k s2 s3 hv _ => hv, fun i v s2 o Q' E' hin hP hJ hst hS hq' => ?_, fun i j ki kj s2 Q' E' hJ hi hj hq' => ?_⟩, ⟨_, _, rfl, hk⟩, fun v s' hP hJ => ?_⟩
  · obtain ⟨h', tk, rfl, hk'⟩ := hJ
    obtain ⟨h3, g3, d3, tk3, os3⟩ := s3
    have eg : g3 = s1.gens := hm.gens
    have ed : d3 = s1.drawn := hm.drawn
    have eo : os3 = s1.os := hm.os
    subst eg ed eo
    refine ⟨h3, tk3, rfl, fun b o e => hm.heap b o (fun hb => ?_) (hk' b o e)⟩
    have := Heap.lt_size e
    rcases List.mem_cons.mp hb with rfl | hb
    · have z : (s1.heap.push { cls := .type "list_iterator", data := .fields #[.ref a, .int 0 0] }).objs.size < s1.heap.objs.size := this
      rw [Heap.size_push] at z
      exact absurd (Nat.lt_of_succ_lt z) (Nat.lt_irrefl _)
    · rw [List.mem_singleton.mp hb] at this
      exact absurd this (Nat.lt_irrefl _)
  · obtain ⟨h', tk, rfl, hk'⟩ := hJ
    obtain ⟨c, hcm, hgt, rc⟩ := at' i v hP
    obtain ⟨r, ys, e1, hys, hn⟩ := hb c hcm
    rw [e1] at rc
    obtain rfl : v = Value.ref r := rc
    obtain ⟨its', r', ⟨o', e, hcl, n, hd⟩, hz'⟩ := I1.tuple hys
    have hlen := r'.length
    have h63 := line63
    refine len_tuple (items := its'.toArray) ⟨o', hk' _ _ e, hcl, n, hd⟩ (by simp only [List.size_toArray] <;> omega) ?_
    refine hq' _ _ ⟨_, _, rfl, hk'⟩ hst hS ⟨tk + 1, ?_⟩ fun _ _ z => z
    rw [hgt, hn, List.size_toArray, ← hlen]
  · refine CmpOf.ints_gt (prog := X.prog) (w := X.w) (A := X.A.in1) (P := fun i v => ∃ t, v = .int (tlen (gt i).2 : Int) t) (fun i => (tlen (gt i).2 : Int)) (fun i v h => h) i j _ _ _ _ _ hi hj ?_
    have : decide ((tlen (gt i).2 : Int) > (tlen (gt j).2 : Int)) = longer (gt i).2 (gt j).2 := by
      unfold longer
      exact decide_eq_decide.mpr (by omega)
    show Q' (Value.bool (decide ((tlen (gt i).2 : Int) > (tlen (gt j).2 : Int)))) s2
    rw [this]
    exact hq'
  · obtain ⟨h', tk, rfl, hk'⟩ := hJ
    obtain ⟨c, hcm, hgt, rc⟩ := at' _ v hP
    refine ⟨c.1, H1, I1.kept hk', rc, ?_⟩
    have e2 := (PySem.W.argBest_fold (fun p q : V × PyData => longer p.2 q.2) (V.non, PyData.none) b bs bs.length (Nat.le_refl _)).2
    rw [List.take_length] at e2
    have e1 : its.toArray.size - 1 = bs.length := by omega
    rw [e1] at hgt
    have : c = bestP longer b bs := by
      rw [← hgt]
      exact e2
    rw [this]
    exact q
def mBest (f : PyData → PyData → Bool) (a : ME) : ME := fun ρ => (a ρ).bind fun x => match x with
  | .list (d :: ds) => if (d :: ds).all isU = true then some (bestL f d ds) else none
  | _ => none
theorem c_best {f : PyData → PyData → Bool} {a : ME} (h : PE X e (tBest K f (tAw K T (aCons a aNil)))) : PE X e (tD K T (mBest f a)) := pe_to h fun σ H Q ⟨P0, P, ρ, d, h1, s, h2, q⟩ => by
  subst h1
  obtain ⟨x, ex, h3⟩ := bind_eq h2
  split at h3
  · rename_i d0 ds
    split at h3
    · rename_i hu
      cases h3
      refine ⟨P0, P, ρ, [.list (d0 :: ds)], rfl, s, by unfold aCons aNil; rw [ex]; rfl, fun vs P1 l1 rw1 => ?_⟩
      cases rw1 with
      | cons r1 r2 =>
        cases r2
        obtain ⟨p, xs, rfl, hs, r⟩ := r1.list
        cases r with
        | @cons v vs _ _ rv rs =>
          obtain ⟨z1, z2, z3⟩ := zip_rp rs
          have each : ∀ c ∈ (v, d0) :: vs.zip ds, Rp K P1.M c.1 c.2 := fun c hc => by
            rcases List.mem_cons.mp hc with rfl | hc
            · exact rv
            · exact z3 c hc
          have mem2 : ∀ c ∈ (v, d0) :: vs.zip ds, c.2 ∈ d0 :: ds := fun c hc => by
            rcases List.mem_cons.mp hc with rfl | hc
            · exact List.mem_cons_self
            · refine List.mem_cons_of_mem _ ?_
              have := List.mem_map_of_mem (f := (·.2)) hc
              rw [z2] at this
              exact this
          refine ⟨p, (v, d0), vs.zip ds, rfl, by rw [List.map_cons, z1]; exact hs, fun c hc => ?_, ?_⟩
          · have hcu := List.all_eq_true.mp hu c.2 (mem2 c hc)
            have rc := each c hc
            obtain ⟨cv, cd⟩ := c
            cases cd with
            | tuple xs =>
              cases rc with
              | @tup b ys _ hb ra => exact ⟨b, ys, rfl, SqT.of (P1.sub _ _ hb fun _ z => nomatch z), ra.length.symm⟩
            | _ => cases hcu
          · have rb := each _ (bestP_mem f (vs.zip ds) (v, d0))
            rw [bestP_snd, z2] at rb
            exact q _ P1 l1 rb
    · cases h3
  · cases h3
end
end PM

namespace PM
open PySem PySem.Spec PyProof.Rows L2 LB
section
variable {X : Cx} {pins : List (Addr × Obj)} {σ : L2.St} {H : Hp} {s : Shared} {a b : Addr} {r : Value} {d : V} {k : List Key} {A : Around} {E : Value → Shared → Prop}
/-- d.setdefault(k, x), the keys tuples -/
theorem d_setdT {kvs : List (List Key × V)} {Q : Value → Shared → Prop} (hu : A.units + 1 < cLine) (I : Inv X pins σ H s) (e : H a = some (.dT kvs)) (eb : H b = some (.tup (k.map kV))) (rd : RelV d r) (hl : kvs.length < sizeLine)
    (h1 : ∀ v, valV kvs k = some v → ∀ (w' : Value) (s' : Shared), Inv X pins σ H s' → RelV v w' → Q w' s') (h2 : valV kvs k = none → ∀ (w' : Value) (s' : Shared), Inv X pins σ (upd H a (.dT (putK kvs k d))) s' → RelV d w' → Q w' s') :
    wpAny (model X.prog X.w) A (call (.builtin "dict.setdefault") [.ref a, .ref b, r]) Q E s := by
  obtain ⟨z, hd, xs, rel, dd⟩ := dt_of I.hok e
  have hz : xs.length ≤ sizeLine := by
    rw [← Paired.length rel]
    exact z
  have rv := rel.val k
  refine call_setdefault_heap (hsz := hz) (tupleKind_room_in1 hu) (key_of I.hok eb) hd dd (fun p hp => ?_) fun hn h' dd' hs => ?_
  · rw [hp] at rv
    cases q0 : valV kvs k with
    | none =>
      rw [q0] at rv
      exact (show False from rv).elim
    | some v0 =>
      rw [q0] at rv
      exact h1 v0 q0 _ _ (I.tok _) rv
  · rw [hn] at rv
    cases q0 : valV kvs k with
    | some v0 =>
      rw [q0] at rv
      exact (show False from rv).elim
    | none =>
      have hl2 : (putK kvs k d).length ≤ sizeLine := by
        have := length_putK kvs k d
        omega
      obtain ⟨q, es, ep, hq, g2, g3, g4, _, g5⟩ := dd'
      refine h2 q0 _ _ (d_write I (by rw [e]; exact True.intro) hs ⟨q, hq⟩ ⟨hl2, hd, _, (rel.put k eb rd).keeps fun c ys ec => ?_, q, es, ep, hq, g2, g3, g4, g5⟩) rd
      rw [upd_ne (ne_of ec e (fun z => nomatch z))]
      exact ec
end
def tDSetT (td ty tx : TE) : TE := fun σ H Q => td σ H fun x H1 => ∃ a, x = .ref a ∧ IsD H1 a ∧ ty σ H1 fun y H2 => tx σ H2 fun z H3 => ∃ (kvs : List (List Key × V)) (ks : List Key) (b : Addr), H3 a = some (.dT kvs) ∧ y = .ref b ∧ H3 b = some (.tup (ks.map kV)) ∧ kvs.length < sizeLine ∧
  (∀ v, valV kvs ks = some v → Q v H3) ∧ (valV kvs ks = none → Q z (upd H3 a (.dT (putK kvs ks z))))
section
variable {X : Cx} {o e f : Expr} {td ty tx : TE} {apos cpos : Pos}
theorem pe_dsetT (hu : X.A.units + 1 < cLine) (ho : PE X o td) (he : PE X e ty) (hf : PE X f tx) (m : M2 X o "setdefault" apos e f cpos) : PE X (.Call (.Attribute o "setdefault" apos) [e, f] [] cpos) (tDSetT td ty tx) := by
  refine ⟨fun pins s σ H Q I h => ?_⟩
  refine wpAny_Call_method m.base m.few m.line PySem.F.plainAttrs_dict PySem.F.slot_dict_setdefault PySem.F.type_dict_setdefault (thn (ho.run pins s σ H _ I h) fun u s1 ⟨x, H1, I1, rx, a, ex, d, q1⟩ => ?_)
  subst ex
  obtain rfl : u = Value.ref a := rx
  obtain ⟨t1, t2, _⟩ := isD_at I1 d
  refine ⟨t1, t2, ?_⟩
  rw [m.trees]
  refine Calls.callWith_builtin rfl (Calls.evalArgs_plain (Calls.spliced_cons (thn (he.run pins s1 σ H1 _ I1 q1) fun iv s2 ⟨y, H2, I2, ry, q2⟩ =>
    Calls.spliced_cons (thn (hf.run pins s2 σ H2 _ I2 q2) fun fv s3 ⟨z, H3, I3, rz, kvs, k, b, ea, ey, eb, hl, q3, q4⟩ => Calls.spliced_nil ?_))))
  subst ey
  obtain rfl : iv = Value.ref b := ry
  exact d_setdT hu I3 ea eb rz hl (fun v hv w' s4 I4 rw' => ⟨v, _, I4, rw', q3 v hv⟩) fun hn w' s4 I4 rw' => ⟨z, _, I4, rw', q4 hn⟩
end
end PM
namespace PM
open PySem PySem.Spec PyProof.Rows L2 LB
section
variable {T : Tb} {K : PySem.W.Frag} {X : Cx} {e : Expr} {st : Stmt} {R : ER}
/-! ### a dict of lists, gathered by d.setdefault(k, []).append(c) -/
def gbGo (c : Nat) (me : ME) : List PyData → Ev → List (List Key × List PyData) → Option (Ev × List (List Key × List PyData))
  | [], ρ, G => some (ρ, G)
  | d :: ds, ρ, G => (me (ρ.set c (.val d))).bind fun l => (keyL l).bind fun ks => gbGo c me ds (ρ.set c (.val d)) (addG G ks d)
def mGather2 (i c : Nat) (mi : MA) (me : ME) : MS := fun ρ => match ρ[i]? with
  | some (.own (.dict [])) => (mi ρ).bind fun ds => if ds.length ≤ 1000 ∧ c < ρ.length ∧ (ρ.set i .no).all plS = true then (gbGo c me ds (ρ.set i .no) []).map fun r => .nx (r.1.set i (.val (dG r.2))) else none
  | _ => none
abbrev tGb (K : PySem.W.Frag) (T : Tb) (i c : Nat) (mi : MA) (me : ME) : TS := tFor (tI K T mi) (tG K T [c] (gN c)) (tSeq (tDrop (tBM K "list" rAppend (tDSetT (tVar i) (tD K T me) (tLst tNil)) (tCons (tVar c) tNil))) tNext)
theorem s_gather2 {i c : Nat} {mi : MA} {me : ME} (hci : c ≠ i) (h : PS X st (tFrz (tGb K T i c mi me))) : PS X st (tSR K T R (mGather2 i c mi me)) := ps_to h fun D σ H ⟨P0, P, ρ, o, h1, s, h2, q⟩ => by
  subst h1
  unfold mGather2 at h2
  split at h2
  · rename_i hd
    obtain ⟨ds, e0, h3⟩ := bind_eq h2
    split at h3
    · rename_i hh
      obtain ⟨few, cl, pl⟩ := hh
      obtain ⟨⟨ρf, Gf⟩, eg, rfl⟩ := map_eq h3
      obtain ⟨u, g1, g2⟩ := s.ok i _ hd
      cases g2 with
      | @own p _ r =>
      have lo := s.fr i _ p hd g1
      have il : i < ρ.length := (List.getElem?_eq_some_iff.mp hd).1
      refine ⟨P0, P, ρ, ds, rfl, s, e0, fun J P1 l1 wk => ?_⟩
      have r1 := r.up l1
      have s1 := s.up l1
      have ga : GAt K P0 P1 p [] [] := by
        cases r1 with
        | @dT kvs _ a1 a2 a3 =>
          cases a3
          exact ⟨a1, a2, .nil, List.nodup_nil, List.nodup_nil, lo, fun e he => absurd he List.not_mem_nil⟩
      have sp : St K P0 P1 σ (ρ.set i .no) := by
        have pp : ∀ (k : Nat) x, (ρ.set i .no)[k]? = some x → plS x = true := fun k x hx => List.all_eq_true.mp pl x (List.mem_of_getElem? hx)
        refine ⟨s1.le, by rw [List.length_set]; exact s1.len, fun k x hx => ?_, fun a b p d e ne h1 h2 h3 h4 => ?_, fun a d p h1 h2 => ?_, fun a b p ks ls ne h1 h2 h3 h4 => ?_, fun a ks p h1 h2 => ?_⟩
        · rcases getset hx with ⟨rfl, rfl, _⟩ | ⟨ne, hx⟩
          · exact ⟨_, g1, .no⟩
          · exact s1.ok k x hx
        · have := pp a _ h1
          cases this
        · have := pp a _ h1
          cases this
        · have := pp a _ h1
          cases this
        · have := pp a _ h1
          cases this
      refine ⟨fun n m σ' H' => m = ds.length - n ∧ n ≤ ds.length ∧ ∃ (Pc : Pr T) (ρ' : Ev) (kvs : List (List Key × V)) (G : List (List Key × List PyData)), Pc.H = H' ∧ Ex P1.M Pc.M ∧ St K P0 Pc σ' ρ' ∧ ρ'.all plS = true ∧ ρ'.length = ρ.length ∧ σ'[i]? = some (some (.ref p)) ∧ GAt K P0 Pc p kvs G ∧ G.length ≤ n ∧ (∀ e ∈ G, e.2.length ≤ n) ∧ gbGo c me (ds.drop n) ρ' G = some (ρf, Gf),
        ⟨ds.length, by simp, Nat.zero_le _, P1, ρ.set i .no, [], [], rfl, ex_refl _, sp, pl, List.length_set, g1, ga, Nat.zero_le _, fun e he => absurd he List.not_mem_nil, eg⟩, ?_⟩
      rintro n m σ' H' ⟨rfl, hi, Pc, ρ', kvs, G, rfl, lc, sc, plc, il', gi, g, gl, gls, eg⟩
      by_cases hlt : n < ds.length
      · refine .inr ⟨wk.go n Pc hlt lc, fun σ2 H2 => ∃ m', m' < ds.length - n ∧ (m' = ds.length - (n + 1) ∧ n + 1 ≤ ds.length ∧ ∃ (Pc : Pr T) (ρ' : Ev) (kvs : List (List Key × V)) (G : List (List Key × List PyData)), Pc.H = H2 ∧ Ex P1.M Pc.M ∧ St K P0 Pc σ2 ρ' ∧ ρ'.all plS = true ∧ ρ'.length = ρ.length ∧ σ2[i]? = some (some (.ref p)) ∧ GAt K P0 Pc p kvs G ∧ G.length ≤ n + 1 ∧ (∀ e ∈ G, e.2.length ≤ n + 1) ∧ gbGo c me (ds.drop (n + 1)) ρ' G = some (ρf, Gf)), fun σ2 H2 hh => hh, fun x H'' y => ?_⟩
        obtain ⟨P3, rfl, l3, dd, hdd, rx⟩ := wk.yld n Pc x H'' hlt lc y
        rw [drop_some hdd] at eg
        obtain ⟨l, el, eg⟩ := bind_eq eg
        obtain ⟨ks, ek, eg⟩ := bind_eq eg
        have s3 := sc.up l3
        refine ⟨P0, P3, ρ', dd, ρ'.set c (.val dd), rfl, s3, rx, rfl, fun σ2 s2 _ hk => ?_⟩
        have gi2 : σ2[i]? = some (some (.ref p)) := by
          rw [hk i (by simp; exact Ne.symm hci)]
          exact gi
        have g3 := g.up l3
        refine ⟨_, gi2, p, rfl, .inr ⟨kvs, .inl g3.h⟩, P0, P3, ρ'.set c (.val dd), l, rfl, s2, el, fun v P4 l4 rv => ?_⟩
        have g4 := g3.up l4
        have s4 := s2.up l4
        have pl4 : (ρ'.set c (.val dd)).all plS = true := all_set plc rfl
        have il4 : (ρ'.set c (.val dd)).length = ρ.length := by
          rw [List.length_set]
          exact il'
        obtain ⟨w, hc4, rw4⟩ : ∃ w, σ2[c]? = some (some w) ∧ Rp K P4.M w dd := by
          have e1 : (ρ'.set c (.val dd))[c]? = some (.val dd) := List.getElem?_set_self (by rw [il']; exact cl)
          obtain ⟨w, k1, k2⟩ := s4.ok c _ e1
          cases k2 with
          | val r => exact ⟨_, k1, r⟩
        obtain ⟨b, rfl, hb⟩ : ∃ b, v = V.ref b ∧ P4.M b = some (.tup (ks.map kV)) := by
          cases l with
          | tuple kd =>
            cases rv with
            | @tup b xs _ hb ra =>
              rw [keysK_eq ek] at ra
              rw [rpk_inv ra] at hb
              exact ⟨b, rfl, hb⟩
          | _ => cases ek
        have hbH : P4.H b = some (.tup (ks.map kV)) := P4.sub _ _ hb fun _ z => nomatch z
        have lc4 : Ex P1.M P4.M := lc.trans (l3.m.trans l4.m)
        have kl : kvs.length = G.length := g.each.length
        obtain ⟨n1, n2⟩ := add_len (ks := ks) (d := dd) gl gls
        refine ⟨Nat.zero_le _, fun q hq => ?_⟩
        have nbq : b ≠ q := fun z => by
          rw [z, hq] at hbH
          cases hbH
        have npq : p ≠ q := fun z => by
          have := g4.h
          rw [z, hq] at this
          cases this
        have hb1 : (upd P4.H q (.lst [])) b = some (.tup (ks.map kV)) := by
          rw [upd_ne nbq]
          exact hbH
        have hp1 : (upd P4.H q (.lst [])) p = some (.dT kvs) := by
          rw [upd_ne npq]
          exact g4.h
        refine ⟨kvs, ks, b, hp1, rfl, hb1, Nat.lt_of_le_of_lt (by rw [kl]; exact Nat.le_trans gl (Nat.le_trans (Nat.le_of_lt hlt) few)) (by decide), fun v' hv => ?_, fun hv => ?_⟩
        · have g5 := g4.up (le_hid P4 hq (o := .lst []))
          have s5 := s4.up (le_hid P4 hq (o := .lst []))
          obtain ⟨q', xs, Q, rfl, hq', ⟨ds', hds, hxl⟩, hM, hH, lQ, gQ⟩ := g5.hit s5.le hv (d := dd) (w := w) rw4
          have hl : ds'.length ≤ n := gls _ hds
          have hq' : (upd P4.H q (.lst [])) q' = some (.lst xs) := hq'
          have hH : Q.H = upd (upd P4.H q (.lst [])) q' (.lst (xs ++ [w])) := hH
          have hM : Q.M = P4.M := hM
          refine ⟨.inl ⟨rfl, xs, SqL.of hq'⟩, w, hc4, q', xs, w, rfl, rfl, hq', szl (by rw [hxl]; omega), ?_⟩
          exact ⟨_, Nat.sub_lt_sub_left hlt (Nat.lt_succ_self n), rfl, hlt, Q, _, _, _, hH, by rw [hM]; exact lc4, s4.plain pl4 lQ (by rw [hM]; exact ex_refl _), pl4, il4, gi2, gQ, n1, n2, eg⟩
        · obtain ⟨Q, hM, hH, hp1, hq1, lQ, gQ⟩ := g4.more s4.le (ks := ks) hv hq rw4
          have kn := val_none hv
          rw [put_new kn]
          refine ⟨.inl ⟨rfl, [], SqL.of hq1⟩, w, hc4, q, [], w, rfl, rfl, hq1, by decide, ?_⟩
          exact ⟨_, Nat.sub_lt_sub_left hlt (Nat.lt_succ_self n), rfl, hlt, Q, _, _, _, hH, by rw [hM]; exact lc4, s4.plain pl4 lQ (by rw [hM]; exact ex_refl _), pl4, il4, gi2, gQ, n1, n2, eg⟩
      · have ei : n = ds.length := by omega
        subst ei
        rw [List.drop_length] at eg
        cases eg
        refine .inl ⟨wk.stop Pc lc, p, .dT kvs, g.h, True.intro, fun od => ?_⟩
        obtain ⟨Q, hQ, lQ, mQ, rQ⟩ := g.done sc.le od
        have sQ := sc.plain plc lQ mQ
        have sf : St K P0 Q σ' (ρf.set i (.val (dG Gf))) := by
          have := sQ.set rQ i
          have e : σ'.set i (some (.ref p)) = σ' := by
            refine List.ext_getElem? fun k => ?_
            by_cases z : i = k
            · subst z
              rw [List.getElem?_set_self (by rw [sQ.len, il']; exact il), gi]
            · rw [List.getElem?_set_ne z]
          rw [e] at this
          exact this
        have := q Q σ' sf
        rw [hQ] at this
        exact this
    · cases h3
  · cases h2
/-! ### iteration over a datum dict whose keys are tuples -/
def iDT (m : ME) : MA := fun ρ => (m ρ).bind fun d => match d with
  | .dict ((.tuple t, v) :: ds) => some (.tuple t :: ds.map (·.1))
  | _ => none
theorem map_at {kvs : List (List Key × V)} {ds : List PyData} (hk : kvs.map (fun e => PyData.tuple (e.1.map keyD)) = ds) {i : Nat} {k : List Key} {v : V} (h : kvs[i]? = some (k, v)) : ds[i]? = some (.tuple (k.map keyD)) := by
  subst hk
  rw [List.getElem?_map, h]
  rfl
theorem c_idt {tg : Expr} {m : ME} (h : PI X tg e (iKeys (tD K T m))) : PI X tg e (tI K T (iDT m)) := pi_to h fun σ H Q ⟨P0, P, ρ, ds, h1, s, h2, q⟩ => by
  subst h1
  obtain ⟨d, ed, h3⟩ := bind_eq h2
  split at h3
  · rename_i t v ds'
    cases h3
    refine ⟨P0, P, ρ, _, rfl, s, ed, fun x P1 l1 r1 => ?_⟩
    cases r1 with
    | @dct p kvs _ hp hk hv =>
      exfalso
      cases kvs with
      | nil => cases hk
      | cons a kvs =>
        have : keyD a.1 = .tuple t := by injection hk
        cases ha : a.1 <;> rw [ha] at this <;> cases this
    | @dcT p od kvs _ hp hk hv =>
      have hk' : kvs.map (fun e => PyData.tuple (e.1.map keyD)) = .tuple t :: ds'.map (·.1) := hk
      have hl : kvs.length = (PyData.tuple t :: ds'.map (·.1)).length := by rw [← hk', List.length_map]
      have go : ∀ {P' : Pr T}, Ex P1.M P'.M → P'.H p = some (.frz od (.dT kvs)) := fun {P'} l => P'.sub _ _ (l _ _ hp fun _ z => nomatch z) fun _ z => nomatch z
      refine ⟨p, od, rfl, .inr ⟨kvs, go (ex_refl _), q _ P1 l1 ⟨fun P' l => ⟨go l, by omega⟩, fun i P' hi l => ⟨go l, by omega⟩, fun i P' x H'' hi l y => ?_⟩⟩⟩
      obtain ⟨rfl, k, v, b, hk1, rfl, ht⟩ := y
      obtain ⟨P'', e1, l1, m1⟩ := show1 P' ht
      exact ⟨P'', e1, l1, .tuple (k.map keyD), map_at hk' hk1, .tup m1 (rp_keys k)⟩
  · cases h3
/-! ### max(list) of data -/
open PySem.W in
theorem maxD_mem : ∀ (xs : List PyData) (x : PyData), maxD x xs ∈ x :: xs
  | [], x => List.mem_cons_self
  | y :: xs, x => by
    unfold maxD
    rw [List.foldl_cons]
    have := maxD_mem xs (if PySem.W.dataLt x y = true then y else x)
    unfold maxD at this
    rcases List.mem_cons.mp this with h | h
    · rw [h]
      split
      · exact List.mem_cons_of_mem _ List.mem_cons_self
      · exact List.mem_cons_self
    · exact List.mem_cons_of_mem _ (List.mem_cons_of_mem _ h)
open PySem.W in
def rMaxL (K : PySem.W.Frag) : List V → Hp → VK → Prop := fun vs H Q => ∃ (a : Addr) (xs : List V) (x : PyData) (ds : List PyData), vs = [.ref a] ∧ SqL K H a xs ∧ DpAll K H xs (x :: ds) ∧ PyData.canLayAll0 (x :: ds) = true ∧ AlikeAll (x :: ds) ∧ PyData.depthAll (x :: ds) ≤ 40 ∧
  ∀ (i : Nat) v, xs[i]? = some v → (x :: ds)[i]? = some (maxD x ds) → Q v H
open PySem.W in
theorem cr_maxL (hc : X.calm = true) (hu : X.A.units + 64 < cLine) (hK : X.K = K := by rfl) : CallR X (.builtin "max") (rMaxL K) := by
  subst hK
  intro pins s σ H xs us Q I r h
  obtain ⟨a, xs, x, ds, rfl, hs, ra, hl, ha, hd, q⟩ := h
  obtain rfl := Vals.ref1 r
  obtain ⟨its, rv, pl, hz⟩ := I.list hs
  obtain ⟨as, hr⟩ := Dp.readsAll I (x :: ds) xs its ra rv
  refine max_list_data (I.ok.hd hc) pl.isList (by exact hr) ha (by omega) fun i v h' tk bs hi rd hk => ?_
  have hi' : its[i]? = some v := by simpa using hi
  obtain ⟨cs, r2, il, _, _⟩ := readsAll_at hr i v hi'
  have e1 : (x :: ds)[i]? = some ((x :: ds).getD i .none) := by
    rw [List.getD_eq_getElem?_getD, List.getElem?_eq_getElem il]
    rfl
  have l1 : ((x :: ds).getD i .none).canLay0 = true := lay_mem hl (List.mem_of_getElem? e1)
  have l2 : (maxD x ds).canLay0 = true := lay_mem hl (maxD_mem ds x)
  have ee : (x :: ds).getD i .none = maxD x ds := by
    rw [← SeqAt.readOf_eq l1 (reads_keeps hk r2), ← SeqAt.readOf_eq l2 rd]
  obtain ⟨w, hw, rw'⟩ : ∃ w, xs[i]? = some w ∧ RelV w v := by
    have il : i < xs.length := by
      rw [rv.length]
      exact (List.getElem?_eq_some_iff.mp hi').1
    obtain ⟨u, h1, h2⟩ := rv.get (List.getElem?_eq_getElem il)
    rw [hi'] at h1
    cases h1
    exact ⟨_, List.getElem?_eq_getElem il, h2⟩
  exact ⟨w, H, I.kept hk, rw', q i w hw (by rw [e1, ee])⟩
open PySem.W Classical in
noncomputable def oMaxL : List PyData → Option PyData
  | [.list (x :: ds)] => if PyData.canLayAll0 (x :: ds) = true ∧ AlikeAll (x :: ds) ∧ PyData.depthAll (x :: ds) ≤ 40 then some (maxD x ds) else none
  | _ => none
open PySem.W in
theorem x_maxL {x : PyData} {ds : List PyData} (h1 : PyData.canLayAll0 (x :: ds) = true) (h2 : AlikeAll (x :: ds)) (h3 : PyData.depthAll (x :: ds) ≤ 40) : oMaxL [.list (x :: ds)] = some (maxD x ds) := if_pos ⟨h1, h2, h3⟩
theorem cb_maxL : CbD K T (rMaxL K) oMaxL := by
  intro P vs ds d ra h Q q
  unfold oMaxL at h
  split at h
  · rename_i x ds
    split at h
    · rename_i hh
      cases h
      cases ra with
      | cons r1 r2 =>
        cases r2
        obtain ⟨p, xs, rfl, hs, r⟩ := r1.list
        refine ⟨p, xs, x, ds, rfl, hs, rps_dp hh.1 (r.ext P.sub), hh.1, hh.2.1, hh.2.2, fun i v h1 h2 => q v P (Le.refl P) ?_⟩
        obtain ⟨v', e1, e2⟩ := rpAll_at r (i := (i : Int)) (d := PySem.W.maxD x ds) (atI_nat h2)
        have e1 : atI xs (i : Int) = some v' := e1
        rw [atI_nat h1] at e1
        cases e1
        exact e2
    · cases h
  · cases h
end
end PM

namespace PM
open PySem PySem.Spec PyProof.Rows L2 LB
section
variable {X : Cx}
/-! ### xs.insert(i, x), the place within the list -/
def rInsert : V → List V → Hp → VK → Prop := fun x vs H Q => ∃ l xs i y, x = .ref l ∧ vs = [.int (i : Nat), y] ∧ H l = some (.lst xs) ∧ i ≤ xs.length ∧ xs.length < 100000 ∧ Q .non (upd H l (.lst (xs.take i ++ y :: xs.drop i)))
theorem mt_insert : MtM X "list.insert" rInsert := by
  intro pins s σ H x vs v us Q I rx rv h
  obtain ⟨l, xs, i, y, rfl, rfl, hH, hi, hz, q⟩ := h
  cases rx
  cases rv with
  | cons r1 rr =>
    cases rr with
    | @cons _ w _ _ r2 rr =>
      cases rr
      obtain ⟨t, rfl⟩ := r1
      obtain ⟨z, its, n, r, hl, e⟩ := I.lstM hH
      have len : xs.length = its.length := r.length
      have fit : ¬ (!Builtin.List.listFitsIndex (i : Int)) = true := by
        have h1 : -(2 ^ 63 : Int) ≤ (i : Int) := Int.le_trans (by decide) (Int.natCast_nonneg i)
        have h2 : (i : Int) < 2 ^ 63 := Int.lt_of_lt_of_le (show (i : Int) < 100000 by omega) (by decide)
        unfold Builtin.List.listFitsIndex
        rw [decide_eq_true h1, decide_eq_true h2]
        decide
      have hsz : its.toArray.size ≤ sizeLine := by
        rw [List.size_toArray]
        exact Nat.le_of_lt (szl (by omega))
      generalize hx : (i : Int) = x at fit
      have M := PySem.AutoSeq1.list_insert_list_int_val_1 l its.toArray n x t w fit hsz
      refine call_meets PySem.F.slot_list_insert ⟨_, e, rfl⟩ PySem.F.entry_list_insert (PySem.F.args_list_insert_3 _ _ _) M ⟨e, ?_⟩
      subst hx
      refine ⟨.non, _, I.lset (its' := its.take i ++ w :: its.drop i) hH e ?_ (Vals.append (r.take i) (.cons r2 (r.drop i))) ?_, rfl, q⟩
      · show (its.toArray.extract 0 (if (i : Int) < 0 then ((i : Int) + (its.toArray.size : Int)).toNat else min ((i : Int)).toNat its.toArray.size)).push _ ++ its.toArray.extract (if (i : Int) < 0 then ((i : Int) + (its.toArray.size : Int)).toNat else min ((i : Int)).toNat its.toArray.size) = _
        rw [if_neg (by omega), Int.toNat_natCast, List.size_toArray, Nat.min_eq_left (by omega)]
        apply Array.toList_inj.mp
        simp [List.take_of_length_le]
      · rw [List.length_append, List.length_cons, List.length_take, List.length_drop]
        have := szl hz
        omega
end
end PM
namespace PM
open PySem PySem.Spec PyProof.Rows L2 LB
section
variable {T : Tb} {K : PySem.W.Frag} {X : Cx} {e : Expr} {st : Stmt} {R : ER}
theorem rpAll_take {M : Hp} : ∀ {xs : List V} {ds : List PyData} (n : Nat), RpAll K M xs ds → RpAll K M (xs.take n) (ds.take n)
  | _, _, 0, _ => .nil
  | _, _, n + 1, .nil => .nil
  | _, _, n + 1, .cons h t => .cons h (rpAll_take n t)
theorem rpAll_drop {M : Hp} : ∀ {xs : List V} {ds : List PyData} (n : Nat), RpAll K M xs ds → RpAll K M (xs.drop n) (ds.drop n)
  | _, _, 0, h => h
  | _, _, n + 1, .nil => .nil
  | _, _, n + 1, .cons h t => rpAll_drop n t
def mIns (i : Nat) (a b : ME) : MS := fun ρ => (a ρ).bind fun k => (b ρ).bind fun d => match ρ[i]?, k with
  | some (.own (.list ds)), .int j => if 0 ≤ j ∧ j.toNat ≤ ds.length ∧ ds.length < 100000 then some (.nx (ρ.set i (.own (.list (ds.take j.toNat ++ d :: ds.drop j.toNat))))) else none
  | _, _ => none
theorem s_ins {i : Nat} {a b : ME} (h : PS X st (tDrop (tBM K "list" rInsert (tVar i) (tCons (tD K T a) (tCons (tD K T b) tNil))))) : PS X st (tSR K T R (mIns i a b)) := ps_to h fun D σ H ⟨P0, P, ρ, o, h1, s, h2, q⟩ => by
  subst h1
  obtain ⟨k, e0, h3⟩ := bind_eq h2
  obtain ⟨d, e1, h4⟩ := bind_eq h3
  clear h2 h3
  split at h4
  · rename_i ds j hd
    split at h4
    · rename_i hh
      obtain ⟨j0, jl, hlt⟩ := hh
      cases h4
      obtain ⟨u, g1, g2⟩ := s.ok i _ hd
      cases g2 with
      | @own p _ r =>
        refine ⟨_, g1, .inl ⟨rfl, ?_⟩, P0, P, ρ, _, rfl, s, e0, fun v P1 l1 rv1 => ⟨P0, P1, ρ, d, rfl, s.up l1, e1, fun w P' l2 rw2 => ?_⟩⟩
        · cases r with
          | lst a1 a2 a3 => exact ⟨_, SqL.of a2⟩
        · have l := l1.trans l2
          have r' := r.up l
          cases rv1
          cases r' with
          | @lst xs _ a1 a2 a3 =>
            have ra : RpAll K P'.M (xs.take j.toNat ++ w :: xs.drop j.toNat) (ds.take j.toNat ++ d :: ds.drop j.toNat) := RpAll.append (rpAll_take _ a3) (.cons rw2 (rpAll_drop _ a3))
            obtain ⟨Q', hQ, hQ', s'⟩ := (s.up l).mut (o' := .lst (xs.take j.toNat ++ w :: xs.drop j.toNat)) (d' := .list (ds.take j.toNat ++ d :: ds.drop j.toNat)) hd g1 a1 a2 (fun _ z => nomatch z) (fun _ _ z => by unfold LamX.CodeO at z; cases z) fun R hM hH => .lst (by rw [hM]; exact a1) (by rw [hH]; exact upd_same) (by rw [hM]; exact ra)
            refine ⟨p, xs, j.toNat, w, rfl, ?_, a2, by rw [a3.length]; exact jl, by rw [a3.length]; exact hlt, ?_⟩
            · rw [Int.toNat_of_nonneg j0]
            · rw [← hQ']
              exact q Q' σ s'
    · cases h4
  · cases h4
end
end PM
namespace PM
open PySem PySem.Spec PyProof.Rows L2 LB
section
variable {T : Tb} {K : PySem.W.Frag} {X : Cx} {e : Expr}
/-! ### range(i, j, c) -/
def rngC (i c : Int) (n : Nat) : List PyData := (List.range n).map fun (k : Nat) => .int (i + (k : Int) * c)
theorem rngC_length (i c : Int) (n : Nat) : (rngC i c n).length = n := by
  unfold rngC
  rw [List.length_map, List.length_range]
def oRng3 : List PyData → Option (List PyData)
  | [.int i, .int j, .int c] => if 1 ≤ c ∧ c ≤ 1000 ∧ Builtin.Range.small i j c = true then some (rngC i c (Builtin.Range.rangeSize i j c).toNat) else none
  | _ => none
def iR3 (a : MA) : MA := fun ρ => (a ρ).bind oRng3
theorem wk_r3 {P1 : Pr T} {i0 c : Int} {m : Nat} : WkM K P1 (Itc i0 c m) (rngC i0 c m) := by
  have l := rngC_length i0 c m
  refine ⟨fun P' x => by show m ≤ _; omega, fun i P' hi x => by show i < m; omega, fun i P' v H'' hi x y => ⟨P', y.1.symm, Le.refl P', .int (i0 + (i : Int) * c), ?_, ?_⟩⟩
  · unfold rngC
    rw [List.getElem?_map, List.getElem?_range (by omega)] <;> rfl
  · rw [y.2]
    exact .int _
theorem c_irng3 {tg : Expr} {a : MA} (h : PI X tg e (iRng3 (tA K T a))) : PI X tg e (tI K T (iR3 a)) := pi_to h fun σ H Q ⟨P0, P, ρ, ds, h1, s, h2, q⟩ => by
  subst h1
  obtain ⟨x, ex, h3⟩ := bind_eq h2
  unfold oRng3 at h3
  split at h3
  · split at h3
    · cases h3
      rename_i i j c hh
      refine ⟨P0, P, ρ, _, rfl, s, ex, fun vs P1 l1 r1 => ?_⟩
      cases r1 with
      | cons r1 r2 =>
        cases r2 with
        | cons r2 r3 =>
          cases r3 with
          | cons r3 r4 =>
            cases r4
            cases r1
            cases r2
            cases r3
            exact ⟨i, j, c, _, rfl, ⟨by omega, by omega, hh.2.2, PyProof.Rows.rangeSize_toNat i j c⟩, q _ P1 l1 wk_r3⟩
    · cases h3
  · cases h3
end
end PM

namespace PM
open PySem PySem.Spec PyProof.Rows L2 LB
section
variable {T : Tb} {K : PySem.W.Frag} {X : Cx} {e : Expr} {st : Stmt} {sts : List Stmt} {R : ER}
/-! ### a def that may refuse, and gives a new list -/
def ResF (K : PySem.W.Frag) (R : ER) (P : Pr T) (σ : L2.St) (Q : VK) : Rs → Prop
  | .ok d => ∀ p (P' : Pr T), Le P P' → OwnAt K P' p d → Loose P.H p → Q (.ref p) P'.H
  | .error c => ∀ (P' : Pr T), Le P P' → R c σ P'.H
def spY (K : PySem.W.Frag) (T : Tb) (f : List PyData → Option Rs) : Sp := fun vs H Q E => ∃ (P : Pr T) (ds : List PyData) (r : Rs), P.H = H ∧ RpAll K P.M vs ds ∧ f ds = some r ∧ ResF K (fun c _ H => E (.ref (He.ga K c)) none H) P [] Q r
def outY : Out → Option Rs
  | .rf (.list ds) => some (.ok (.list ds))
  | .er c _ => some (.error c)
  | _ => none
def fnY (n N : Nat) (m : MS) : List PyData → Option Rs := fun ds => if ds.length = n then (m (evOf n N ds)).bind outY else none
theorem spY_len {n N : Nat} {m : MS} {vs : List V} {H : Hp} {Q : VK} {E : XK} (h : spY K T (fnY n N m) vs H Q E) : vs.length = n := by
  obtain ⟨P, ds, d, _, r, h, _⟩ := h
  unfold fnY at h
  split at h
  · rw [r.length]
    assumption
  · cases h
theorem spY_in {N : List Str} {n : Nat} {m : MS} {vs : List V} {H : Hp} {Q : VK} {E : XK} (h : spY K T (fnY n N.length m) vs H Q E) : tSR K T (erE K E) m { nx := fun _ H' => Q .non H', rt := Q } (L2.start N vs) H := by
  obtain ⟨P, ds, d, rfl, r, h, q⟩ := h
  unfold fnY at h
  split at h
  · rename_i hn
    obtain ⟨o, eo, h⟩ := bind_eq h
    refine ⟨P, P, _, o, rfl, start_st r hn, eo, ?_⟩
    unfold outY at h
    split at h
    · cases h
      exact fun p P' l r' lo => q p P' l r' lo
    · cases h
      exact fun P' σ s => q P' s.le
    · cases h
  · cases h
def LstR (r : Rs) : Prop := ∀ d, r = .ok d → ∃ es, d = .list es
theorem fnY_ok {n N : Nat} {m : MS} (ds : List PyData) (r : Rs) (h : fnY n N m ds = some r) : LstR r := by
  intro d e
  unfold fnY at h
  split at h
  · obtain ⟨o, eo, h⟩ := bind_eq h
    unfold outY at h
    split at h
    · cases h
      cases e
      exact ⟨_, rfl⟩
    · cases h
      cases e
    · cases h
  · cases h
theorem res_XF {P : Pr T} {σ : L2.St} {Q : VK} {r : Rs} (hr : LstR r) (h : ResK K R P σ Q r) : ResF K R P σ Q r := by
  cases r with
  | ok d =>
    obtain ⟨es, rfl⟩ := hr d rfl
    intro p P' l r' lo
    obtain ⟨P'', e, l'', r''⟩ := own_put l r' lo
    show Q (.ref p) P'.H
    rw [← e]
    exact h _ P'' l'' r''
  | error c => exact h
theorem c_callWY {W : WX} {f : List PyData → Option Rs} {a : MA} (hf : ∀ ds r, f ds = some r → LstR r) (h : PE X e (tCallS (spY K T f) (WE W) (tA K T a))) : PE X e (tDX K T (erW K W) (mCbX f a)) := pe_to h fun σ H Q ⟨P0, P, ρ, r, h1, s, h2, q⟩ => by
  subst h1
  obtain ⟨x, ex, h3⟩ := bind_eq h2
  refine ⟨P0, P, ρ, x, rfl, s, ex, fun vs P1 l1 r1 => ?_⟩
  refine ⟨P1, x, r, rfl, r1, h3, ?_⟩
  have q1 := q.up l1
  refine res_XF (hf _ _ h3) ?_
  cases r with
  | ok d => exact q1
  | error c => exact q1
theorem c_callOkF {E : XK} {f : List PyData → Option Rs} {a : MA} (h : PE X e (tCall (spY K T f) [] E (tA K T a))) : PE X e (tF K T (mCb (okF f) a)) := pe_to h fun σ H Q ⟨P0, P, ρ, d, h1, s, h2, q⟩ => by
  subst h1
  obtain ⟨x, ex, h3⟩ := bind_eq h2
  obtain ⟨r, er, h4⟩ := bind_eq h3
  refine ⟨P0, P, ρ, x, rfl, s, ex, fun vs P1 l1 r1 => ?_⟩
  show spY K T f (vs ++ []) P1.H Q E
  rw [List.append_nil]
  refine ⟨P1, x, r, rfl, r1, er, ?_⟩
  split at h4
  · cases h4
    exact fun v P2 l2 r2 lo => q v P2 (l1.trans l2) r2 (loose_back l1.h lo)
  · cases h4
theorem r_fnY {n N : Nat} {m : MS} {ds : List PyData} {r : Rs} (hl : ds.length = n) (h : Run m (evOf n N ds) fun q => outY q = some r) : fnY n N m ds = some r := by
  obtain ⟨q, h1, h2⟩ := h
  unfold fnY
  rw [if_pos hl, h1]
  exact h2
end
end PM

namespace PM
open PySem PySem.Spec PyProof.Rows L2 LB
section
variable {T : Tb} {K : PySem.W.Frag} {X : Cx} {e : Expr} {st : Stmt} {sts : List Stmt} {R : ER}
/-! ### a tuple of two new lists -/
structure Two (K : PySem.W.Frag) (P : Pr T) (p q1 q2 : Addr) (a b : List PyData) : Prop where
  tp : P.H p = some (.tup [.ref q1, .ref q2])
  ne : q1 ≠ q2
  m1 : P.M q1 = none
  m2 : P.M q2 = none
  l1 : ∃ xs, P.H q1 = some (.lst xs) ∧ RpAll K P.M xs a
  l2 : ∃ ys, P.H q2 = some (.lst ys) ∧ RpAll K P.M ys b
variable {P0 P P' : Pr T} {p q1 q2 : Addr} {a b : List PyData} {σ : L2.St} {ρ : Ev}
/-- the same tuple, as one that data may stand on -/
theorem two_M (t : Two K P p q1 q2 a b) : ∃ P'' : Pr T, P''.H = P.H ∧ Ex P.M P''.M ∧ (∀ x, P''.M x ≠ none → P.M x ≠ none ∨ x = p ∨ x = q1 ∨ x = q2) ∧ Rp K P''.M (.ref p) (.tuple [.list a, .list b]) := by
  obtain ⟨xs, h1, r1⟩ := t.l1
  obtain ⟨ys, h2, r2⟩ := t.l2
  have n1 : q1 ≠ p := fun z => by rw [z, t.tp] at h1; cases h1
  have n2 : q2 ≠ p := fun z => by rw [z, t.tp] at h2; cases h2
  obtain ⟨M', hM⟩ : ∃ M', M' = upd (upd (upd P.M q1 (.lst xs)) q2 (.lst ys)) p (.tup [.ref q1, .ref q2]) := ⟨_, rfl⟩
  have g1 : M' q1 = some (.lst xs) := by rw [hM, upd_ne n1, upd_ne t.ne, upd_same]
  have g2 : M' q2 = some (.lst ys) := by rw [hM, upd_ne n2, upd_same]
  have g3 : M' p = some (.tup [.ref q1, .ref q2]) := by rw [hM, upd_same]
  have g4 : ∀ x, x ≠ p → x ≠ q1 → x ≠ q2 → M' x = P.M x := fun x z1 z2 z3 => by rw [hM, upd_ne z1, upd_ne z3, upd_ne z2]
  have ex : Ex P.M M' := fun x u h n => by
    by_cases z1 : x = q1
    · rw [z1, t.m1] at h
      cases h
    by_cases z2 : x = q2
    · rw [z2, t.m2] at h
      cases h
    by_cases z3 : x = p
    · have := P.sub x u h n
      rw [z3, t.tp] at this
      rw [z3, g3]
      exact this
    · rw [g4 x z3 z1 z2]
      exact h
  have sub : Ex M' P.H := fun x u h n => by
    by_cases z1 : x = q1
    · rw [z1, g1] at h
      rw [z1, h1]
      exact h
    by_cases z2 : x = q2
    · rw [z2, g2] at h
      rw [z2, h2]
      exact h
    by_cases z3 : x = p
    · rw [z3, g3] at h
      rw [z3, t.tp]
      exact h
    · rw [g4 x z3 z1 z2] at h
      exact P.sub x u h n
  have nt : ∀ x ps, M' x ≠ some (.tbl ps) := fun x ps h => by
    by_cases z1 : x = q1
    · rw [z1, g1] at h
      cases h
    by_cases z2 : x = q2
    · rw [z2, g2] at h
      cases h
    by_cases z3 : x = p
    · rw [z3, g3] at h
      cases h
    · rw [g4 x z3 z1 z2] at h
      exact P.nt x ps h
  refine ⟨⟨M', P.H, sub, P.tab, nt⟩, rfl, ex, fun x h => ?_, .tup g3 (.cons (.lst (SqL.of g1) (r1.ext ex)) (.cons (.lst (SqL.of g2) (r2.ext ex)) .nil))⟩
  by_cases z1 : x = q1
  · exact .inr (.inr (.inl z1))
  by_cases z2 : x = q2
  · exact .inr (.inr (.inr z2))
  by_cases z3 : x = p
  · exact .inr (.inl z3)
  · refine .inl ?_
    have h : M' x ≠ none := h
    rw [g4 x z3 z1 z2] at h
    exact h
theorem two_put (l : Le P P') (t : Two K P' p q1 q2 a b) (lp : Loose P.H p) (l1 : Loose P.H q1) (l2 : Loose P.H q2) : ∃ P'' : Pr T, P''.H = P'.H ∧ Le P P'' ∧ Rp K P''.M (.ref p) (.tuple [.list a, .list b]) := by
  obtain ⟨P'', e, ex, new, r⟩ := two_M t
  refine ⟨P'', e, ⟨l.m.trans ex, by rw [e]; exact l.h, fun x h n => ?_⟩, r⟩
  rcases new x n with z | rfl | rfl | rfl
  · exact l.f x h z
  · exact .inl lp
  · exact .inl l1
  · exact .inl l2
/-! ### a def that gives such a tuple -/
abbrev M2 := Ev → Option (List PyData × List PyData)
def tT2 (K : PySem.W.Frag) (T : Tb) (m : M2) : TS := fun D σ H => ∃ (P0 P : Pr T) (ρ : Ev) (a b : List PyData), P.H = H ∧ St K P0 P σ ρ ∧ m ρ = some (a, b) ∧ ∀ p q1 q2 (P' : Pr T), Le P0 P' → Two K P' p q1 q2 a b → Loose P0.H p → Loose P0.H q1 → Loose P0.H q2 → D.rt (.ref p) P'.H
def m2Seq (m : MS) (n : M2) : M2 := fun ρ => (m ρ).bind fun o => match o with
  | .nx ρ' => n ρ'
  | _ => none
theorem s2_seq {m : MS} {n : M2} (h : PSs X sts (tSeq (tSR K T noR m) (tT2 K T n))) : PSs X sts (tT2 K T (m2Seq m n)) := pss_to h fun D σ H ⟨P0, P, ρ, a, b, h1, s, h2, q⟩ => by
  obtain ⟨o, e1, h3⟩ := bind_eq h2
  refine ⟨P0, P, ρ, o, h1, s, e1, ?_⟩
  cases o with
  | nx ρ' => exact fun P' σ' s' => ⟨P0, P', ρ', a, b, rfl, s', h3, q⟩
  | rt d => cases h3
  | rf d => cases h3
  | bk d => cases h3
  | ct d => cases h3
  | er d ρ2 => cases h3
def m2Ret (i j : Nat) : M2 := fun ρ => match ρ[i]?, ρ[j]? with
  | some (.own (.list a)), some (.own (.list b)) => if i = j then none else some (a, b)
  | _, _ => none
theorem s2_ret {i j : Nat} (h : PS X st (tRet (tTup (tCons (tVar i) (tCons (tVar j) tNil))))) : PS X st (tT2 K T (m2Ret i j)) := ps_to h fun D σ H ⟨P0, P, ρ, a, b, h1, s, h2, q⟩ => by
  subst h1
  unfold m2Ret at h2
  split at h2
  · rename_i a' b' ha hb
    split at h2
    · cases h2
    · rename_i ne
      cases h2
      obtain ⟨u1, g1, k1⟩ := s.ok i _ ha
      obtain ⟨u2, g2, k2⟩ := s.ok j _ hb
      cases k1 with
      | @own p1 _ r1 =>
        cases k2 with
        | @own p2 _ r2 =>
          cases r1 with
          | @lst xs _ a1 a2 a3 =>
            cases r2 with
            | @lst ys _ b1 b2 b3 =>
              refine ⟨.ref p1, g1, .ref p2, g2, Nat.le_of_lt (szl (by show 2 < 100000; decide)), fun p hp => ?_⟩
              have n1 : p1 ≠ p := fun z => by rw [z, hp] at a2; cases a2
              have n2 : p2 ≠ p := fun z => by rw [z, hp] at b2; cases b2
              exact q p p1 p2 (P.hid p (.tup [.ref p1, .ref p2]) hp) (s.le.trans (le_hid P hp)) ⟨upd_same, fun z => s.dis i j p1 _ _ ne ha hb g1 (by rw [z]; exact g2), a1, b1, ⟨xs, by show upd P.H p _ p1 = _; rw [upd_ne n1]; exact a2, a3⟩, ⟨ys, by show upd P.H p _ p2 = _; rw [upd_ne n2]; exact b2, b3⟩⟩ (loose_back s.le.h (loose_none hp)) (s.fr i _ _ ha g1) (s.fr j _ _ hb g2)
  · cases h2
def fn2 (n N : Nat) (m : M2) : List PyData → Option PyData := fun ds => if ds.length = n then (m (evOf n N ds)).map (fun x => .tuple [.list x.1, .list x.2]) else none
def sp2 (K : PySem.W.Frag) (T : Tb) (f : List PyData → Option PyData) : Sp := fun vs H Q _ => ∃ (P : Pr T) (ds : List PyData) (a b : List PyData), P.H = H ∧ RpAll K P.M vs ds ∧ f ds = some (.tuple [.list a, .list b]) ∧ ∀ p q1 q2 (P' : Pr T), Le P P' → Two K P' p q1 q2 a b → Loose P.H p → Loose P.H q1 → Loose P.H q2 → Q (.ref p) P'.H
theorem sp2_len {n N : Nat} {m : M2} {vs : List V} {H : Hp} {Q : VK} {E : XK} (h : sp2 K T (fn2 n N m) vs H Q E) : vs.length = n := by
  obtain ⟨P, ds, a, b, _, r, h, _⟩ := h
  unfold fn2 at h
  split at h
  · rw [r.length]
    assumption
  · cases h
theorem fn2_eq {n N : Nat} {m : M2} {ds : List PyData} {d : PyData} (h : fn2 n N m ds = some d) : ds.length = n ∧ ∃ a b, m (evOf n N ds) = some (a, b) ∧ d = .tuple [.list a, .list b] := by
  unfold fn2 at h
  split at h
  · rename_i hn
    obtain ⟨x, ex, e⟩ := map_eq h
    exact ⟨hn, x.1, x.2, ex, e.symm⟩
  · cases h
theorem sp2_in {N : List Str} {n : Nat} {m : M2} {vs : List V} {H : Hp} {Q : VK} {E : XK} (h : sp2 K T (fn2 n N.length m) vs H Q E) : tT2 K T m { nx := fun _ H' => Q .non H', rt := Q } (L2.start N vs) H := by
  obtain ⟨P, ds, a, b, rfl, r, h, q⟩ := h
  obtain ⟨hn, a', b', ex, e⟩ := fn2_eq h
  injection e with e
  injection e with e1 e2
  injection e2 with e2 _
  injection e1 with e1
  injection e2 with e2
  subst e1
  subst e2
  exact ⟨P, P, _, a, b, rfl, start_st r hn, ex, q⟩
def TwoF (f : List PyData → Option PyData) : Prop := ∀ ds d, f ds = some d → ∃ a b, d = .tuple [.list a, .list b]
theorem fn2_two {n N : Nat} {m : M2} : TwoF (fn2 n N m) := fun _ _ h => by
  obtain ⟨_, a, b, _, e⟩ := fn2_eq h
  exact ⟨a, b, e⟩
theorem c_call2 {E : XK} {f : List PyData → Option PyData} {g : MA} (hf : TwoF f) (h : PE X e (tCall (sp2 K T f) [] E (tA K T g))) : PE X e (tD K T (mCb f g)) := pe_to h fun σ H Q ⟨P0, P, ρ, d, h1, s, h2, q⟩ => by
  subst h1
  obtain ⟨x, ex, h3⟩ := bind_eq h2
  obtain ⟨a, b, rfl⟩ := hf _ _ h3
  refine ⟨P0, P, ρ, x, rfl, s, ex, fun vs P1 l1 r1 => ?_⟩
  show sp2 K T f (vs ++ []) P1.H Q E
  rw [List.append_nil]
  refine ⟨P1, x, a, b, rfl, r1, h3, fun p q1 q2 P2 l2 t lp m1 m2 => ?_⟩
  obtain ⟨P3, e3, l3, r3⟩ := two_put l2 t lp m1 m2
  rw [← e3]
  exact q _ P3 (l1.trans l3) r3
/-! ### such a tuple is held: read as a datum, then changed -/
def plE (ρ : Ev) : Bool := ρ.all fun s => match s with
  | .no => true
  | .val _ => true
  | _ => false
theorem plE_at (h : plE ρ = true) {j : Nat} {x : Sl} (hj : ρ[j]? = some x) : x = .no ∨ ∃ d, x = .val d := by
  have := List.all_eq_true.mp h x (List.mem_of_getElem? hj)
  cases x with
  | no => exact .inl rfl
  | val d => exact .inr ⟨d, rfl⟩
  | own d => cases this
  | exn d => cases this
  | ods d => cases this
  | lck d => cases this
theorem plE_set (h : plE ρ = true) (i : Nat) (d : PyData) : plE (ρ.set i (.val d)) = true ∧ plE (ρ.set i .no) = true := by
  constructor
  · refine List.all_eq_true.mpr fun x hx => ?_
    rcases List.mem_or_eq_of_mem_set hx with h' | rfl
    · exact List.all_eq_true.mp h x h'
    · rfl
  · refine List.all_eq_true.mpr fun x hx => ?_
    rcases List.mem_or_eq_of_mem_set hx with h' | rfl
    · exact List.all_eq_true.mp h x h'
    · rfl
/-- with plain slots a state is easily told -/
theorem plain_st (h : plE ρ = true) (le : Le P0 P) (len : σ.length = ρ.length) (ok : ∀ (i : Nat) d, ρ[i]? = some (.val d) → ∃ v, σ[i]? = some (some v) ∧ Rp K P.M v d) : St K P0 P σ ρ := by
  refine ⟨le, len, fun j x hx => ?_, fun i j p d e ne h1 => ?_, fun i d p h1 => ?_, ⟨fun i j p ks ls ne h1 => ?_, fun i ks p h1 => ?_⟩⟩
  · rcases plE_at h hx with rfl | ⟨d, rfl⟩
    · have hl : j < σ.length := by
        rw [len]
        exact (List.getElem?_eq_some_iff.mp hx).1
      exact ⟨_, List.getElem?_eq_getElem hl, .no⟩
    · obtain ⟨v, h1, h2⟩ := ok j d hx
      exact ⟨_, h1, .val h2⟩
  · rcases plE_at h h1 with z | ⟨_, z⟩ <;> cases z
  · rcases plE_at h h1 with z | ⟨_, z⟩ <;> cases z
  · rcases plE_at h h1 with z | ⟨_, z⟩ <;> cases z
  · rcases plE_at h h1 with z | ⟨_, z⟩ <;> cases z
theorem St.vals (s : St K P0 P σ ρ) (i : Nat) (d : PyData) (h : ρ[i]? = some (.val d)) : ∃ v, σ[i]? = some (some v) ∧ Rp K P.M v d := by
  obtain ⟨o, h1, h2⟩ := s.ok i _ h
  cases h2 with
  | val r => exact ⟨_, h1, r⟩
structure Hold (K : PySem.W.Frag) (P0 P : Pr T) (σ : L2.St) (ρ : Ev) (i : Nat) (p q1 q2 : Addr) (a b : List PyData) : Prop where
  s : St K P0 P σ ρ
  pl : plE ρ = true
  si : σ[i]? = some (some (.ref p))
  ri : ρ[i]? = some .no
  two : Two K P p q1 q2 a b
  l1 : Loose P0.H q1
  l2 : Loose P0.H q2
abbrev MH := List PyData → List PyData → MS
def tHd (K : PySem.W.Frag) (T : Tb) (R : ER) (i : Nat) (m : MH) : TS := fun D σ H => ∃ (P0 P : Pr T) (ρ : Ev) (o : Out) (p q1 q2 : Addr) (a b : List PyData), P.H = H ∧ Hold K P0 P σ ρ i p q1 q2 a b ∧ m a b ρ = some o ∧ Endk K R P0 D o
def mHold (i : Nat) (c : ME) (m : MH) : MS := fun ρ => (c ρ).bind fun d => match d with
  | .tuple [.list a, .list b] => if plE ρ = true ∧ i < ρ.length then m a b (ρ.set i .no) else none
  | _ => none
theorem s_hold {E : XK} {i : Nat} {f : List PyData → Option PyData} {g : MA} {m : MH} (h : PSs X sts (tSeq (tAsg (tCall (sp2 K T f) [] E (tA K T g)) (gName i)) (tHd K T R i m))) : PSs X sts (tSR K T R (mHold i (mCb f g) m)) := pss_to h fun D σ H ⟨P0, P, ρ, o, h1, s, h2, q⟩ => by
  subst h1
  obtain ⟨d, e1, h3⟩ := bind_eq h2
  obtain ⟨x, ex, h4⟩ := bind_eq e1
  split at h3
  · rename_i a b
    split at h3
    · rename_i hh
      refine ⟨P0, P, ρ, x, rfl, s, ex, fun vs P1 l1 r1 => ?_⟩
      show sp2 K T f (vs ++ []) P1.H _ E
      rw [List.append_nil]
      refine ⟨P1, x, a, b, rfl, r1, h4, fun p q1 q2 P2 l2 t lp m1 m2 => ?_⟩
      have l := l1.trans l2
      have hi : i < σ.length := by rw [s.len]; exact hh.2
      have s' : St K P0 P2 (σ.set i (some (.ref p))) (ρ.set i .no) := plain_st (plE_set hh.1 i .none).2 (s.le.trans l) (by rw [List.length_set, List.length_set]; exact s.len) fun j d hj => by
        rcases getset hj with ⟨_, z, _⟩ | ⟨ne, hj⟩
        · cases z
        · obtain ⟨v, g1, g2⟩ := (s.up l).vals j d hj
          exact ⟨v, by rw [List.getElem?_set_ne ne]; exact g1, g2⟩
      exact ⟨P0, P2, ρ.set i .no, o, p, q1, q2, a, b, rfl, ⟨s', (plE_set hh.1 i .none).2, List.getElem?_set_self hi, List.getElem?_set_self hh.2, t, loose_back (s.le.h.trans l1.h) m1, loose_back (s.le.h.trans l1.h) m2⟩, h3, q⟩
    · cases h3
  · cases h3
/-- if test: return .., where the test is false -/
def mHif (t : MT) (i : Nat) (m : MH) : MH := fun a b ρ => match t (ρ.set i (.val (.tuple [.list a, .list b]))) with
  | some false => m a b ρ
  | _ => none
theorem s_hif {i : Nat} {t : MT} {tb : TS} {m : MH} (h : PSs X sts (tSeq (tIfS (tQ K T t) tb tNext) (tHd K T R i m))) : PSs X sts (tHd K T R i (mHif t i m)) := pss_to h fun D σ H ⟨P0, P, ρ, o, p, q1, q2, a, b, h1, hd, h2, q⟩ => by
  subst h1
  unfold mHif at h2
  split at h2
  · rename_i et
    obtain ⟨Pp, eH, ex, _, rp⟩ := two_M hd.two
    have il : i < ρ.length := (List.getElem?_eq_some_iff.mp hd.ri).1
    refine ⟨Pp, Pp, ρ.set i (.val (.tuple [.list a, .list b])), false, eH, plain_st (plE_set hd.pl i _).1 (Le.refl Pp) (by rw [List.length_set]; exact hd.s.len) (fun j d hj => ?_), et, fun P2 l => ?_⟩
    · rcases getset hj with ⟨rfl, z, _⟩ | ⟨ne, hj⟩
      · cases z
        exact ⟨_, hd.si, rp⟩
      · obtain ⟨v, g1, g2⟩ := hd.s.vals j d hj
        exact ⟨v, g1, g2.ext ex⟩
    · have eh : Ex P.H P2.H := by
        rw [← eH]
        exact l.h
      have s3 : ∃ P3 : Pr T, P3.M = P.M ∧ P3.H = P2.H := ⟨⟨P.M, P2.H, P.sub.trans eh, P2.tab, P.nt⟩, rfl, rfl⟩
      obtain ⟨P3, e1, e2⟩ := s3
      have le3 : Le P0 P3 := ⟨by rw [e1]; exact hd.s.le.m, by rw [e2]; exact hd.s.le.h.trans eh, by rw [e1]; exact hd.s.le.f⟩
      refine iteF ⟨P0, P3, ρ, o, p, q1, q2, a, b, e2, ⟨plain_st hd.pl le3 hd.s.len (fun j d hj => by rw [e1]; exact hd.s.vals j d hj), hd.pl, hd.si, hd.ri, ?_, hd.l1, hd.l2⟩, h2, q⟩
      obtain ⟨xs, k1, k2⟩ := hd.two.l1
      obtain ⟨ys, k3, k4⟩ := hd.two.l2
      exact ⟨by rw [e2]; exact eh _ _ hd.two.tp (fun _ z => (nomatch z)), hd.two.ne, by rw [e1]; exact hd.two.m1, by rw [e1]; exact hd.two.m2, ⟨xs, by rw [e2]; exact eh _ _ k1 (fun _ z => (nomatch z)), by rw [e1]; exact k2⟩, ⟨ys, by rw [e2]; exact eh _ _ k3 (fun _ z => (nomatch z)), by rw [e1]; exact k4⟩⟩
  · cases h2
/-- a list that is no datum's is changed -/
theorem hold_mut {i : Nat} (hd : Hold K P0 P σ ρ i p q1 q2 a b) {q : Addr} {zs : List V} {o' : HO} (hq : P.H q = some (.lst zs)) (mq : P.M q = none) (lo : Loose P0.H q) : ∃ P3 : Pr T, P3.M = P.M ∧ P3.H = upd P.H q o' ∧ St K P0 P3 σ ρ := by
  obtain ⟨P3, e1, e2⟩ : ∃ P3 : Pr T, P3.M = P.M ∧ P3.H = upd P.H q o' := ⟨⟨P.M, upd P.H q o', fun x u h n => by
    have ne : x ≠ q := fun z => by rw [z, mq] at h; cases h
    rw [upd_ne ne]
    exact P.sub x u h n, tabs_mut P.tab hq (fun _ z => nomatch z) (fun _ _ z => by unfold LamX.CodeO at z; cases z), P.nt⟩, rfl, rfl⟩
  refine ⟨P3, e1, e2, plain_st hd.pl ⟨by rw [e1]; exact hd.s.le.m, fun x u h n => ?_, by rw [e1]; exact hd.s.le.f⟩ hd.s.len fun j d hj => by rw [e1]; exact hd.s.vals j d hj⟩
  have ne : x ≠ q := fun z => by
    rw [z] at h
    obtain ⟨ps, w⟩ := lo u h
    exact n ps w
  rw [e2, upd_ne ne]
  exact hd.s.le.h x u h n
/-- x[0].reverse() -/
def mHrev (m : MH) : MH := fun a b ρ => m a.reverse b ρ
theorem s_hrev {i : Nat} {m : MH} (h : PSs X sts (tSeq (tDrop (tBM0 K "list" rReverse (tOp (uIx K) (tVar i) (tC (.int 0))))) (tHd K T R i m))) : PSs X sts (tHd K T R i (mHrev m)) := pss_to h fun D σ H ⟨P0, P, ρ, o, p, q1, q2, a, b, h1, hd, h2, q⟩ => by
  subst h1
  obtain ⟨xs, k1, k2⟩ := hd.two.l1
  obtain ⟨ys, k3, k4⟩ := hd.two.l2
  obtain ⟨P3, e1, e2, s3⟩ := hold_mut (o' := .lst xs.reverse) hd k1 hd.two.m1 hd.l1
  have n1 : p ≠ q1 := fun z => by
    have := hd.two.tp
    rw [z, k1] at this
    cases this
  refine ⟨_, hd.si, .inr (.inl ⟨p, [.ref q1, .ref q2], 0, .ref q1, rfl, rfl, SqT.of hd.two.tp, at0, .inl ⟨rfl, _, SqL.of k1⟩, q1, xs, rfl, rfl, k1, ?_⟩)⟩
  refine ⟨P0, P3, ρ, o, p, q1, q2, a.reverse, b, e2, ⟨s3, hd.pl, hd.si, hd.ri, ⟨by rw [e2, upd_ne n1]; exact hd.two.tp, hd.two.ne, by rw [e1]; exact hd.two.m1, by rw [e1]; exact hd.two.m2, ⟨xs.reverse, by rw [e2]; exact upd_same, by rw [e1]; exact RpAll.reverse k2⟩, ⟨ys, by rw [e2, upd_ne (Ne.symm hd.two.ne)]; exact k3, by rw [e1]; exact k4⟩⟩, hd.l1, hd.l2⟩, h2, q⟩
/-- x[1].append(None) -/
def mHapp (m : MH) : MH := fun a b ρ => if b.length < 100000 then m a (b ++ [.none]) ρ else none
theorem s_happ {i : Nat} {m : MH} (h : PSs X sts (tSeq (tDrop (tBM K "list" rAppend (tOp (uIx K) (tVar i) (tC (.int 1))) (tCons (tC .non) tNil))) (tHd K T R i m))) : PSs X sts (tHd K T R i (mHapp m)) := pss_to h fun D σ H ⟨P0, P, ρ, o, p, q1, q2, a, b, h1, hd, h2, q⟩ => by
  subst h1
  unfold mHapp at h2
  split at h2
  · rename_i hlt
    obtain ⟨xs, k1, k2⟩ := hd.two.l1
    obtain ⟨ys, k3, k4⟩ := hd.two.l2
    obtain ⟨P3, e1, e2, s3⟩ := hold_mut (o' := .lst (ys ++ [.non])) hd k3 hd.two.m2 hd.l2
    have n2 : p ≠ q2 := fun z => by
      have := hd.two.tp
      rw [z, k3] at this
      cases this
    refine ⟨_, hd.si, .inr (.inl ⟨p, [.ref q1, .ref q2], 1, .ref q2, rfl, rfl, SqT.of hd.two.tp, at1, .inl ⟨rfl, _, SqL.of k3⟩, q2, ys, .non, rfl, rfl, k3, szl (by rw [k4.length]; exact hlt), ?_⟩)⟩
    refine ⟨P0, P3, ρ, o, p, q1, q2, a, b ++ [.none], e2, ⟨s3, hd.pl, hd.si, hd.ri, ⟨by rw [e2, upd_ne n2]; exact hd.two.tp, hd.two.ne, by rw [e1]; exact hd.two.m1, by rw [e1]; exact hd.two.m2, ⟨xs, by rw [e2, upd_ne hd.two.ne]; exact k1, by rw [e1]; exact k2⟩, ⟨ys ++ [.non], by rw [e2]; exact upd_same, by rw [e1]; exact RpAll.append k4 (.cons .non .nil)⟩⟩, hd.l1, hd.l2⟩, h2, q⟩
  · cases h2
/-- what was held is let go -/
theorem s_hend {i : Nat} {m : MS} (h : PSs X sts (tSR K T R m)) : PSs X sts (tHd K T R i (fun _ _ => m)) := pss_to h fun D σ H ⟨P0, P, ρ, o, p, q1, q2, a, b, h1, hd, h2, q⟩ => ⟨P0, P, ρ, o, h1, hd.s, h2, q⟩
end
end PM

namespace PM
open PySem PySem.Spec PyProof.Rows L2 LB
section
variable {X : Cx} {pins : List (Addr × Obj)} {σ : L2.St} {H : Hp} {s : Shared} {a : Addr} {o : HO}
/-! ### an error that is stored: its object is tracked from the suite on -/
theorem inv_track (I : Inv X pins σ H s) (e0 : X.s_0.heap.get? a = none) (na : H a = none) (nL : X.env.locals ≠ a) (nC : ∀ x c, X.env.cells.lookup x = some c → c ≠ a) (nP : ∀ p ∈ X.pn ++ pins, p.1 ≠ a) (ok : ObjOk X.prog X.w (upd H a o) s.heap a o) : Inv X pins σ (upd H a o) s where
  ok := I.ok
  os := I.os
  bare := I.bare
  base :=
    { keep := I.base.keep
      slot := I.base.slot
      free := fun b u q n hx => by
        rw [upd_ne fun z => by rw [z, e0] at q; cases q]
        exact I.base.free b u q n hx
      there := I.base.there
      tups := fun b xs q => by
        have w := I.base.tups b xs q
        rw [upd_ne (ne_of_none w na)]
        exact w
      frzs := fun b u v q => by
        have w := I.base.frzs b u v q
        rw [upd_ne (ne_of_none w na)]
        exact w
      tbls := fun b ps q => by
        obtain ⟨more, w⟩ := I.base.tbls b ps q
        exact ⟨more, by rw [upd_ne (ne_of_none w na)]; exact w⟩ }
  loc := I.loc
  cell := I.cell
  free := by
    rw [upd_ne nL]
    exact I.free
  freeC := fun x c e => by
    rw [upd_ne (nC x c e)]
    exact I.freeC x c e
  pin := fun p hp => by
    rw [upd_ne (nP p hp)]
    exact I.pin p hp
  hok := I.hok.laidN (fun _ _ e => e) na ok
  len := I.len
/-- the object of a caught error, as it stands -/
def ErO (oe : Obj) (a : Addr) : HO := .frz oe (.ext fun h => h.get? a = some oe)
theorem erO_ok {P : Program} {w : World} {h : Heap} {oe : Obj} (e : h.get? a = some oe) : ObjOk P w H h a (ErO oe a) := ⟨e, e, ⟨oe, e⟩, fun _ _ p k => k oe p⟩
theorem inv_hot (a : Addr) (I : Inv X pins σ H s) : Inv (X.suite a (X.pn ++ pins)) [] σ H s where
  ok := I.ok.suite _ _
  os := I.os
  bare := I.bare
  base := I.base
  loc := I.loc
  cell := I.cell
  free := I.free
  freeC := I.freeC
  pin := fun p hp => I.pin p (by rwa [List.append_nil] at hp)
  hok := I.hok
  len := I.len
theorem inv_cool {pn' : List (Addr × Obj)} (ok : X.Ok) (I : Inv (X.suite a (X.pn ++ pins)) pn' σ H s) : Inv X pins σ H s where
  ok := ok
  os := I.os
  bare := I.bare
  base := I.base
  loc := I.loc
  cell := I.cell
  free := I.free
  freeC := I.freeC
  pin := fun p hp => I.pin p (List.mem_append_left _ hp)
  hok := I.hok
  len := I.len
end
section
variable {X : Cx} {x n : Str} {c : Value} {i : Nat} {body suite : List Stmt} {b₀ : Stmt} {np pos pos' : Pos} {tb : WX → TS} {ts : Addr → TS}
/-- what is wanted of an error of the body, where the clause names its class -/
def wSt (K : PySem.W.Frag) (c : Value) (i : Nat) (ts : Addr → TS) (D : Ends) : WX := fun cls d σ H => PySem.W.exmOne K cls c = some true ∧
  ∀ (a : Addr) (oe : Obj), H a = none → Zc cls d oe → (∃ vs, oe.data = .fields vs) →
    ts a { nx := fun σ1 H1 => D.nx (σ1.set i none) H1, rt := D.rt, bk := fun σ1 H1 => D.bk (σ1.set i none) H1, ct := fun σ1 H1 => D.ct (σ1.set i none) H1 } (σ.set i (some (.ref a))) (upd H a (ErO oe a))
theorem ps_trySt (hst : X.stack = X.env :: X.outer) (hfr : X.env.frame = some X.env.locals) (hnd : X.N.Nodup) (hix : X.N[i]? = some n) (hlc : X.env.kindOf n = some .local) (hnm : Names X x c) (hex : X.ex = [])
    (hbd : ∀ (W : WX) (pn : List (Addr × Obj)) (xe : Value → Shared → Prop), Takes (X.tr pn xe) W → PSs (X.tr pn xe) body (tb W))
    (hsu : ∀ (a : Addr) (pn : List (Addr × Obj)), PSs (X.suite a pn) (b₀ :: suite) (ts a)) :
    PS X (.Try body [.ExceptHandler (some (.Name x np)) (some n) (b₀ :: suite) pos'] [] [] pos) (fun D σ H => tb (wSt X.K c i ts D) D σ H) := by
  constructor
  intro pins s σ H D I h
  have okX := I.ok
  have frm : X.A.frames = some (X.env :: X.outer) := okX.frames.trans (congrArg some hst)
  apply wpAny_Try_except
  have catch_ : Takes (X.tr (X.pn ++ pins) fun e s1 => wpAny (model X.prog X.w) X.A (noteFrame e X.env) (fun _ s2 => wpAny (model X.prog X.w) X.A (setFlight e none) (fun _ s3 => wpAny (model X.prog X.w) X.A (handleBy e X.env [.ExceptHandler (some (.Name x np)) (some n) (b₀ :: suite) pos']) (SP X pins D) X.xe s3) X.xe s2) X.xe s1) (wSt X.K c i ts D) := by
    intro u s1 air
    obtain ⟨a, B, s0, _, σ1, H1, cls, d, rfl, J0, nb, up, sky, na, os1, ag, yes, go⟩ := air
    have J := J0.ofTry okX
    have sky1 : Sky B (X.env :: X.outer) a (Zc cls d) X.env.locals s1.heap := hst ▸ sky
    refine Sky.land Zc.steady frm hfr sky1 fun h3 f3 u3 => ?_
    have J3 : Inv X pins σ1 H1 { s1 with heap := h3 } := J.landed nb f3.1 (up.trans u3) os1 ag
    obtain ⟨o3, v3, at3, z3, d3⟩ := f3.there
    have out : a ∉ frs (X.env :: X.outer) := fun hm => by
      obtain ⟨_, o', e', nf⟩ := f3.2.2.1.mem hm
      rw [at3] at e'
      cases e'
      exact nf _ d3
    have new0 : s0.heap.get? a = none := by
      cases q : s0.heap.get? a with
      | none => rfl
      | some o =>
        have w := nb a o q (by rw [show (X.tr (X.pn ++ pins) _).stack = X.stack from rfl, hst]; exact out)
        rw [f3.2.1] at w
        cases w
    have new : X.s_0.heap.get? a = none := by
      cases q : X.s_0.heap.get? a with
      | none => rfl
      | some o =>
        obtain ⟨o', w⟩ := J.base.there a o q (by rw [hex]; exact List.not_mem_nil)
        rw [new0] at w
        cases w
    have nL : X.env.locals ≠ a := fun z => out (List.mem_filterMap.mpr ⟨X.env, List.mem_cons_self, by rw [hfr, z]⟩)
    have nP : ∀ p ∈ X.pn ++ pins, p.1 ≠ a := fun p hp z => by
      have w := (J.pin p hp).1
      rw [z, new0] at w
      cases w
    refine wpAny_handleBy_cons (codeAny_handlers_test ?_) (fun q => by cases q)
    have ty : PySem.W.Looks (model X.prog X.w) h3 (typeOf (.ref a)) cls := fun A Q E st k q => wpAny_typeOf_ref (k _ _ at3) (z3.1.symm ▸ q)
    have one := PySem.W.exm_one (M := model X.prog X.w) J3.kIn ty yes
    have name : ∀ {Q E : Value → Shared → Prop}, Q c { s1 with heap := h3 } → wpAny (model X.prog X.w) (X.A.mark (some (.ref a))) (eval (.Name x np) X.env) Q E { s1 with heap := h3 } := fun {Q E} q => by
      obtain ⟨g1, g2, g3 | ⟨g3, g4, g5⟩⟩ := hnm
      · exact ld_glob (X := X.suite a (X.pn ++ pins)) (inv_hot a J3) g1 g3 q g2
      · exact ld_blt (X := X.suite a (X.pn ++ pins)) (inv_hot a J3) g1 g3 g4 q g5 g2
    refine name (one.here ?_)
    refine codeAny_handlers_suite_as (HandSPX.lands_againZ f3 fun h4 f4 u4 => ?_)
    have J4 : Inv X pins σ1 H1 { s1 with heap := h4 } := J.landed nb f4.1 ((up.trans u3).trans u4) os1 ag
    obtain ⟨o4, v4, at4, z4, d4⟩ := f4.there
    have nC : ∀ y k, X.env.cells.lookup y = some k → k ≠ a := fun y k e z => by
      obtain ⟨v, o, w1, w2⟩ := J4.cell y k e
      rw [z] at w1
      have w1 : h4.get? a = some o := w1
      rw [at4] at w1
      cases w1
      rw [d4] at w2
      cases w2
    have J5 := inv_hot a (inv_track (o := ErO o4 a) J4 new na nL nC nP (erO_ok at4))
    refine store_ok (X := X.suite a (X.pn ++ pins)) (v := .ref a) J5 hnd hix (.inl hlc) rfl (fun s5 S5 => ?_) (.inr hlc)
    refine wpAny_mono ((hsu a (X.pn ++ pins)).run [] s5 _ _ _ S5 (go a o4 na z4 ⟨_, d4⟩)) (fun f s6 done => ?_) (fun _ _ z => False.elim z)
    have fin : ∀ {σ6 : L2.St} {H6 : Hp} {Q : Shared → Prop}, Inv (X.suite a (X.pn ++ pins)) [] σ6 H6 s6 → (∀ s7, Inv X pins (σ6.set i none) H6 s7 → Q s7) → wpAny (model X.prog X.w) X.A (do bindName X.env n .none; unbindBehindTheSuite X.env n pos') (fun _ s7 => Q s7) X.xe s6 := fun S6 hq => gone_ok (inv_cool okX S6) hnd hix hlc hq
    cases f with
    | next =>
      obtain ⟨σ6, H6, S6, q6⟩ := done
      exact fin S6 fun _ J7 => ⟨_, _, J7, q6⟩
    | brk =>
      obtain ⟨σ6, H6, S6, q6⟩ := done
      exact fin S6 fun _ J7 => ⟨_, _, J7, q6⟩
    | cont =>
      obtain ⟨σ6, H6, S6, q6⟩ := done
      exact fin S6 fun _ J7 => ⟨_, _, J7, q6⟩
    | ret u =>
      obtain ⟨w6, σ6, H6, S6, r6, q6⟩ := done
      exact fin S6 fun _ J7 => ⟨_, _, _, J7, r6, q6⟩
  refine wpAny_mono ((hbd (wSt X.K c i ts D) (X.pn ++ pins) _ catch_).run [] s σ H D (I.toTry _) h) (fun f s1 done => ?_) (fun _ _ q => q)
  cases f with
  | next =>
    obtain ⟨σ1, H1, J1, q1⟩ := done
    exact wpAny_execs_nil ⟨σ1, H1, J1.ofTry okX, q1⟩
  | brk =>
    obtain ⟨σ1, H1, J1, q1⟩ := done
    exact ⟨σ1, H1, J1.ofTry okX, q1⟩
  | cont =>
    obtain ⟨σ1, H1, J1, q1⟩ := done
    exact ⟨σ1, H1, J1.ofTry okX, q1⟩
  | ret u =>
    obtain ⟨w1, σ1, H1, J1, r1, q1⟩ := done
    exact ⟨w1, σ1, H1, J1.ofTry okX, r1, q1⟩
end
end PM

namespace PM
open PySem PySem.Spec PyProof.Rows L2 LB
section
variable {T : Tb} {K : PySem.W.Frag} {X : Cx} {e : Expr} {st : Stmt} {sts : List Stmt} {R : ER}
/-! ### a def that is handed a stored error, and a number -/
theorem call_isH {a D : Addr} {oe : Obj} (C : ExcC X.K D) (hh : X.H_0 a = some (ErO oe a)) (hz : Zc (.ref D) none oe) (hf : ∃ vs, oe.data = .fields vs) : CallR X (.builtin "isinstance") (rIsE X.K D a) := by
  intro pins s σ H xs us Q I r h
  obtain ⟨c, cv, b, rfl, hcv, e, q⟩ := h
  obtain ⟨u1, u2, rfl, r1, r2⟩ := vals2 r
  cases (show u1 = Value.ref a from r1)
  have ec := hcv _ r2
  subst ec
  have hget : s.heap.get? a = some oe := (I.hok a _ (I.base.frzs a oe _ hh)).1
  obtain ⟨vs, hv⟩ := hf
  have J : PySem.W.InstAt s.heap a oe D none := by
    obtain ⟨oc, od, oda, osl⟩ := oe
    obtain ⟨h1, h2⟩ := hz
    dsimp only at h1 h2 hv
    subst h1 h2 hv
    exact ⟨hget, rfl, rfl, trivial⟩
  exact PySem.W.kia_one (PySem.W.handS_kitx_exc C.hg C.hk C.hs C.hd C.ha C.hn C.ht C.hm) I.kIn J e (fun z => nomatch z) fun tk => ⟨.bl b, H, I.kept (t' := tk) fun _ _ z => z, rfl, q⟩
def spE (K : PySem.W.Frag) (T : Tb) (c : Str) (k : Int) (d : PyData) : Sp := fun vs H Q _ => ∃ (P : Pr T) (a : Addr) (oe : Obj), P.H = H ∧ vs = [.ref a, .int k] ∧ P.H a = some (ErO oe a) ∧ Zc (.ref (He.ga K c)) none oe ∧ (∃ us, oe.data = .fields us) ∧ ∀ v (P' : Pr T), Le P P' → Rp K P'.M v d → Q v P'.H
def evK (N : Nat) (a : Addr) (k : Int) : Ev := .exn a :: .val (.int k) :: List.replicate (N - 2) .no
theorem start_k {N : List Str} {a : Addr} {k : Int} (P : Pr T) (hN : 1 < N.length) : St K P P (L2.start N [.ref a, .int k]) (evK N.length a k) := by
  have e1 : L2.start N [.ref a, .int k] = some (.ref a) :: some (.int k) :: List.replicate (N.length - 2) none := rfl
  have no : ∀ (i : Nat) (x : Sl), (evK N.length a k)[i]? = some x → (x = .exn a ∧ i = 0) ∨ (x = .val (.int k) ∧ i = 1) ∨ (x = .no ∧ ∃ j, i = j + 2 ∧ j < N.length - 2) := fun i x h => by
    match i, h with
    | 0, h => cases h; exact .inl ⟨rfl, rfl⟩
    | 1, h => cases h; exact .inr (.inl ⟨rfl, rfl⟩)
    | j + 2, h =>
      have h : (List.replicate (N.length - 2) Sl.no)[j]? = some x := h
      rw [List.getElem?_replicate] at h
      split at h
      · rename_i hj
        cases h
        exact .inr (.inr ⟨rfl, j, rfl, hj⟩)
      · cases h
  rw [e1]
  refine ⟨Le.refl P, ?_, fun i x h => ?_, fun i j p d e' ne h1 => ?_, fun i d p h1 => ?_, ⟨fun i j p ks ls ne h1 => ?_, fun i ks p h1 => ?_⟩⟩
  · show (List.replicate _ _).length + 1 + 1 = (List.replicate _ _).length + 1 + 1
    rw [List.length_replicate, List.length_replicate]
  · rcases no i x h with ⟨rfl, rfl⟩ | ⟨rfl, rfl⟩ | ⟨rfl, j, rfl, hj⟩
    · exact ⟨_, rfl, .exn⟩
    · exact ⟨_, rfl, .val (.int k)⟩
    · refine ⟨none, ?_, .no⟩
      show (List.replicate (N.length - 2) (none : Option V))[j]? = _
      rw [List.getElem?_replicate, if_pos hj]
  · rcases no i _ h1 with ⟨z, _⟩ | ⟨z, _⟩ | ⟨z, _⟩ <;> cases z
  · rcases no i _ h1 with ⟨z, _⟩ | ⟨z, _⟩ | ⟨z, _⟩ <;> cases z
  · rcases no i _ h1 with ⟨z, _⟩ | ⟨z, _⟩ | ⟨z, _⟩ <;> cases z
  · rcases no i _ h1 with ⟨z, _⟩ | ⟨z, _⟩ | ⟨z, _⟩ <;> cases z
theorem stored_ok {P : Program} {w : World} {mg : Str → Option Value} {base : Heap} {x y1 y2 c : Str} {N : List Str} {n : Nat} {k : Int} {d : PyData} {m : Addr → MS} (F : Df K mg x st) (S : FnScope N [y1, y2] (defScope st))
    (hb : ∀ (kV doc pm : Value) (an : Option Addr) (cdv ct : Value) (us : List Value), us.length = [y1, y2].length → bindArgs (PySem.W.fnOf x x (defArgs st) (defBody st) (defScope st) .none kV doc pm an cdv ct) ⟨us, []⟩ = pure ([y1, y2].zip us)) (hN : 1 < N.length)
    (hbody : ∀ (cdv : Value) (A : Around) (outer : List Env) (s : Shared) (H : Hp) (E : XK) (a : Addr) (oe : Obj), H a = some (ErO oe a) → Zc (.ref (He.ga K c)) none oe → (∃ us, oe.data = .fields us) → Room n (A.deeper (envOfC x (defScope st) s.heap.objs.size (He.ga K x) cdv)) →
      PSs (cxOf (L2.CX P w) P w K mg base N x (defScope st) (He.ga K x) cdv A outer s H E) (defBody st) (tS K T (m a)))
    (hm : ∀ a, m a (evK N.length a k) = some (.rt d)) : OwnFn P w K mg base (n + 1) x [y1, y2] (spE K T c k d) := by
  refine own_ok F S hb (fun vs H Q E h => ?_) (fun cdv A outer s H vs Q E hr h => ?_)
  · obtain ⟨_, _, _, _, rfl, _⟩ := h
    rfl
  · obtain ⟨P1, a, oe, rfl, rfl, hH, hz, hf, q⟩ := h
    exact ⟨_, hbody cdv A outer s P1.H E a oe hH hz hf hr, P1, P1, _, _, rfl, start_k P1 hN, hm a, q⟩
/-! ### r = None; try: .. except C as e: r = e; return r is not None and f(r, k) -/
def mStored (i j : Nat) (c : Str) (d : PyData) (m : MS) : MS := fun ρ => if i < ρ.length ∧ j < ρ.length ∧ i ≠ j then
    match m (ρ.set j (.val .none)) with
    | some (.er c' ρ1) => if c' = c ∧ i < ρ1.length ∧ j < ρ1.length then some (.rt d) else none
    | some (.nx ρ1) => (match ρ1[j]? with
      | some (.val .none) => some (.rt (.bool false))
      | _ => none)
    | _ => none
  else none
theorem s_stored {x n C c : Str} {i j : Nat} {k : Int} {d : PyData} {E : XK} {body suite : List Stmt} {b₀ st1 st3 : Stmt} {np pos pos' : Pos} {m : MS}
    (h1 : PS X st1 (tAsg (tC .non) (gName j))) (hst : X.stack = X.env :: X.outer) (hfr : X.env.frame = some X.env.locals) (hnd : X.N.Nodup) (hix : X.N[i]? = some n) (hlc : X.env.kindOf n = some .local) (hnm : Names X x (.ref (He.ga X.K C))) (hex : X.ex = [])
    (hx : PySem.W.exmOne X.K (.ref (He.ga X.K c)) (.ref (He.ga X.K C)) = some true)
    (hb : ∀ (W : WX) (pn : List (Addr × Obj)) (xe : Value → Shared → Prop), Takes (X.tr pn xe) W → PSs (X.tr pn xe) body (tSR X.K T (erW X.K W) m))
    (hsu : ∀ (a : Addr) (pn : List (Addr × Obj)), PSs (X.suite a pn) (b₀ :: suite) (tAsg (tVar i) (gName j)))
    (h3 : PS X st3 (tRet (tAndV (tOp (fun x y H Q => y = .non ∧ Q (.bl (!decide (x = .non))) H) (tVar j) (tC .non)) (tCall (spE X.K T c k d) [] E (tCons (tVar j) (tCons (tC (.int k)) tNil)))))) :
    PSs X [st1, .Try body [.ExceptHandler (some (.Name x np)) (some n) (b₀ :: suite) pos'] [] [] pos, st3] (tS X.K T (mStored i j c d m)) := by
  refine pss_to (pss_cons h1 (pss_cons (ps_trySt (tb := fun W => tSR X.K T (erW X.K W) m) (ts := fun _ => tAsg (tVar i) (gName j)) hst hfr hnd hix hlc hnm hex hb hsu) (pss_one h3))) ?_
  intro D σ H ⟨P0, P, ρ, o, e1, s, e2, q⟩
  subst e1
  unfold mStored at e2
  split at e2
  · rename_i hl
    obtain ⟨li, lj, ne⟩ := hl
    have s1 : St X.K P0 P (σ.set j (some .non)) (ρ.set j (.val .none)) := s.set .non j
    split at e2
    · rename_i c' ρ1 em
      split at e2
      · rename_i ec
        obtain ⟨ec, l1, l2⟩ := ec
        subst ec
        cases e2
        refine ⟨P0, P, _, _, rfl, s1, em, fun P1 σ1 t1 => ⟨hx, fun a oe na hz hf => ?_⟩⟩
        rw [← t1.len] at l1 l2
        have gj : (((σ1.set i (some (V.ref a))).set j (some (.ref a))).set i none)[j]? = some (some (.ref a)) := by
          rw [List.getElem?_set_ne ne]
          exact List.getElem?_set_self (by rw [List.length_set]; exact l2)
        refine ⟨.ref a, List.getElem?_set_self l1, ?_⟩
        refine ⟨.ref a, gj, rfl, true, rfl, ?_⟩
        refine ⟨.ref a, gj, ?_⟩
        exact ⟨P1.hid a (ErO oe a) na, a, oe, rfl, rfl, upd_same, hz, hf, fun v P2 l r => q v P2 ((t1.le.trans (le_hid P1 na)).trans l) r⟩
      · cases e2
    · rename_i ρ1 em
      split at e2
      · rename_i ej
        cases e2
        refine ⟨P0, P, _, _, rfl, s1, em, fun P1 σ1 t1 => ?_⟩
        obtain ⟨v, g1, g2⟩ := t1.vals j _ ej
        cases g2
        exact ⟨_, g1, rfl, false, rfl, q (.bl false) P1 t1.le (.bl false)⟩
      · cases e2
    · cases e2
  · cases e2
end
end PM

namespace PM
open PySem PySem.Spec PyProof.Rows L2 LB
section
variable {T : Tb} {K : PySem.W.Frag} {X : Cx} {e : Expr}
/-! ### xs[::k], k not 0 -/
def stepIx (n : Nat) (k : Int) : List Nat := sliceRange (sliceBounds none none (some k) n).1 (sliceBounds none none (some k) n).2.1 (sliceBounds none none (some k) n).2.2
def stepL {α : Type} (k : Int) (l : List α) : List α := (stepIx l.length k).filterMap fun i => l[i]?
theorem step_mem {α : Type} {k : Int} {l : List α} {x : α} (h : x ∈ stepL k l) : x ∈ l := by
  obtain ⟨i, _, e⟩ := List.mem_filterMap.mp h
  exact List.mem_of_getElem? e
theorem vals_at : ∀ {xs : List V} {us : List Value}, Vals xs us → ∀ i : Nat, (xs[i]? = none ∧ us[i]? = none) ∨ ∃ x u, xs[i]? = some x ∧ us[i]? = some u ∧ RelV x u
  | _, _, .nil, _ => .inl ⟨rfl, rfl⟩
  | _, _, .cons h t, 0 => .inr ⟨_, _, rfl, rfl, h⟩
  | _, _, .cons h t, i + 1 => vals_at t i
theorem vals_pick {xs : List V} {us : List Value} (r : Vals xs us) : ∀ ix : List Nat, Vals (ix.filterMap fun i => xs[i]?) (ix.filterMap fun i => us[i]?)
  | [] => .nil
  | i :: ix => by
    rcases vals_at r i with ⟨h1, h2⟩ | ⟨x, u, h1, h2, h3⟩
    · rw [List.filterMap_cons_none h1, List.filterMap_cons_none h2]
      exact vals_pick r ix
    · rw [List.filterMap_cons_some h1, List.filterMap_cons_some h2]
      exact .cons h3 (vals_pick r ix)
theorem rp_at {M : Hp} : ∀ {xs : List V} {ds : List PyData}, RpAll K M xs ds → ∀ i : Nat, (xs[i]? = none ∧ ds[i]? = none) ∨ ∃ x d, xs[i]? = some x ∧ ds[i]? = some d ∧ Rp K M x d
  | _, _, .nil, _ => .inl ⟨rfl, rfl⟩
  | _, _, .cons h t, 0 => .inr ⟨_, _, rfl, rfl, h⟩
  | _, _, .cons h t, i + 1 => rp_at t i
theorem rp_pick {M : Hp} {xs : List V} {ds : List PyData} (r : RpAll K M xs ds) : ∀ ix : List Nat, RpAll K M (ix.filterMap fun i => xs[i]?) (ix.filterMap fun i => ds[i]?)
  | [] => .nil
  | i :: ix => by
    rcases rp_at r i with ⟨h1, h2⟩ | ⟨x, u, h1, h2, h3⟩
    · rw [List.filterMap_cons_none h1, List.filterMap_cons_none h2]
      exact rp_pick r ix
    · rw [List.filterMap_cons_some h1, List.filterMap_cons_some h2]
      exact .cons h3 (rp_pick r ix)
def tStepL (K : PySem.W.Frag) (te t1 : TE) : TE := fun σ H Q => te σ H fun x H1 => tPart t1 σ H1 fun o H2 => ∃ a xs k, o = some k ∧ x = .ref a ∧ k ≠ 0 ∧ SqL K H2 a xs ∧ (stepL k xs).length ≤ sizeLine ∧ ∀ p, H2 p = none → Q (.ref p) (upd H2 p (.lst (stepL k xs)))
theorem pe_stepL {e1 : Expr} {te t1 : TE} {p3 pos : Pos} (he : PE X e te) (hs : PE X e1 t1) (hfold : ∀ (v w : Value), subscripted (.Slice none none (some e1) p3) false v w = operate [v, w] (getItem v w) := by intros; rfl) : PE X (.Subscript e (.Slice none none (some e1) p3) pos) (tStepL X.K te t1) := by
  constructor
  intro pins s σ H Q I h
  refine Subscript_ (thn (he.run pins s σ H _ I h) fun v s1 got => ?_)
  obtain ⟨x, H1, I1, r1, q1⟩ := got
  refine wpAny_Slice (thn (po_none.run pins s1 σ H1 (fun o H2 => o = none ∧ H2 = H1) I1 ⟨rfl, rfl⟩) fun vl s2 got => ?_)
  obtain ⟨_, H2, I2, pl, rfl, rfl⟩ := got
  refine thn (po_none.run pins s2 σ H2 (fun o H3 => o = none ∧ H3 = H2) I2 ⟨rfl, rfl⟩) fun vu s3 got => ?_
  obtain ⟨_, H3, I3, pu, rfl, rfl⟩ := got
  refine thn ((po_some hs).run pins s3 σ H3 (fun o H4 => ∃ a xs k, o = some k ∧ x = .ref a ∧ k ≠ 0 ∧ SqL X.K H4 a xs ∧ (stepL k xs).length ≤ sizeLine ∧ ∀ p, H4 p = none → Q (.ref p) (upd H4 p (.lst (stepL k xs)))) I3 ?_) fun vs s4 got => ?_
  · exact q1
  obtain ⟨o, H4, I4, ps, a, xs, k, rfl, rfl, k0, hx, hz, q⟩ := got
  cases r1
  have I5 : Inv X pins σ H4 { s4 with heap := s4.heap.push { cls := .type "slice", data := .fields #[vl, vu, vs] } } := I4.kept (t' := s4.toks) fun b ob z => Heap.get?_push_of_some _ z
  obtain ⟨its, r, ht, hl⟩ := I5.list hx
  have hlen := r.length
  refine tail_any (ops := [.ref a, .ref s4.heap.objs.size]) ht.isList.typeIs (PySem.slot_list_getitem.lookup) ?_ (hfold _ _)
  refine wpAny_getItem_list_slice ht.isList (Heap.IsSliceOf.new _ vl vu vs) pl pu ps (fun z => k0 (Option.some.inj z)) ?_ (by rw [List.size_toArray]; omega)
  have ep : slicePick its.toArray none none (some k) = (stepL k its).toArray := by
    unfold slicePick stepL stepIx
    simp only [List.size_toArray, List.getElem?_toArray]
  have eq : stepL k xs = (stepIx its.length k).filterMap fun i => xs[i]? := by
    unfold stepL
    rw [hlen]
  rw [ep]
  refine ⟨.ref _, _, I5.laid (t' := s4.toks) (o := .lst (stepL k xs)) (fun b ob z => Heap.get?_push_of_some _ z) (Nat.le_refl _) ?_, rfl, q _ (I5.hok.fresh (Nat.le_refl _))⟩
  refine ⟨hz, stepL k its, 0, ?_, Heap.get?_push_size _ rfl⟩
  rw [eq]
  exact vals_pick r _
theorem step_len {M : Hp} {xs : List V} {ds : List PyData} (r : RpAll K M xs ds) (k : Int) : RpAll K M (stepL k xs) (stepL k ds) := by
  unfold stepL
  rw [r.length]
  exact rp_pick r _
def oStep : PyData → PyData → Option PyData
  | .list ds, .int k => if k ≠ 0 ∧ (stepL k ds).length < 100000 then some (.list (stepL k ds)) else none
  | _, _ => none
theorem c_step {a b : ME} (h : PE X e (tStepL K (tW K T a) (tD K T b))) : PE X e (tD K T (mOp oStep a b)) := pe_to h fun σ H Q ⟨P0, P, ρ, d, h1, s, h2, q⟩ => by
  subst h1
  obtain ⟨x, ex, h3⟩ := bind_eq h2
  obtain ⟨y, ey, h4⟩ := bind_eq h3
  clear h2 h3
  unfold oStep at h4
  split at h4
  · rename_i ds k
    split at h4
    · rename_i hh
      cases h4
      refine ⟨P0, P, ρ, _, rfl, s, ex, fun v P1 l1 r1 => ⟨P0, P1, ρ, _, rfl, s.up l1, ey, fun u P2 l2 r2 => ?_⟩⟩
      have r1' := r1.up l2
      obtain ⟨p, xs, rfl, hs, r⟩ := r1'.list
      have rr := step_len r k
      cases r2
      refine ⟨k, rfl, p, xs, k, rfl, rfl, hh.1, hs, Nat.le_of_lt (szl (by rw [rr.length]; exact hh.2)), fun t ht => ?_⟩
      exact q _ (P2.put t (.lst (stepL k xs)) ht) ((l1.trans l2).trans (le_put P2 ht)) (.lst (SqL.of upd_same) (rr.ext (le_put P2 ht).m))
    · cases h4
  · cases h4
/-! ### x.upper() -/
def oUpper : PyData → Option PyData
  | .str z => if z.length ≤ 1000 then some (.str (Txt.upper z)) else none
  | _ => none
theorem c_upper {a : ME} (h : PE X e (tM0 (fun x xs H Q => ∃ a, x = .str a ∧ xs = [] ∧ a.length ≤ 5592405 ∧ Q (.str (Txt.upper a)) H) (tD K T a))) : PE X e (tD K T (mUn oUpper a)) := pe_to h fun σ H Q ⟨P0, P, ρ, d, h1, s, h2, q⟩ => by
  subst h1
  obtain ⟨x, ex, h2⟩ := bind_eq h2
  unfold oUpper at h2
  split at h2
  · rename_i z
    split at h2
    · rename_i hz
      cases h2
      refine ⟨P0, P, ρ, _, rfl, s, ex, fun v P1 l1 r1 => ?_⟩
      cases r1
      exact ⟨⟨_, rfl⟩, z, rfl, rfl, Nat.le_trans hz (by decide), q _ P1 l1 (.str _)⟩
    · cases h2
  · cases h2
end
end PM

namespace PM
open PySem PySem.Spec PyProof.Rows L2 LB
section
variable {T : Tb} {K : PySem.W.Frag} {X : Cx} {e : Expr} {st : Stmt} {R : ER}
/-! ### xs[k] = v on an own list, k of any sign -/
theorem rpAll_set {M : Hp} {w : V} {d : PyData} (hw : Rp K M w d) : ∀ {xs : List V} {ds : List PyData} (n : Nat), RpAll K M xs ds → RpAll K M (xs.set n w) (ds.set n d)
  | _, _, _, .nil => .nil
  | _, _, 0, .cons _ t => .cons hw t
  | _, _, n + 1, .cons h t => .cons h (rpAll_set hw n t)
def mSetI (i : Nat) (a b : ME) : MS := fun ρ => (b ρ).bind fun d => (a ρ).bind fun k => match ρ[i]?, k with
  | some (.own (.list ds)), .int j => (ixN ds.length j).bind fun n => some (.nx (ρ.set i (.own (.list (ds.set n d)))))
  | _, _ => none
theorem s_setI {i : Nat} {a b : ME} (h : PS X st (tAsg (tD K T b) (gSub (tVar i) (tD K T a) rSetL))) : PS X st (tSR K T R (mSetI i a b)) := ps_to h fun D σ H ⟨P0, P, ρ, o, h1, s, h2, q⟩ => by
  subst h1
  obtain ⟨d, e0, h3⟩ := bind_eq h2
  obtain ⟨k, e1, h4⟩ := bind_eq h3
  clear h2 h3
  split at h4
  · rename_i ds j hd
    obtain ⟨n, en, h5⟩ := bind_eq h4
    cases h5
    obtain ⟨u, g1, g2⟩ := s.ok i _ hd
    cases g2 with
    | @own p _ r =>
      refine ⟨P0, P, ρ, _, rfl, s, e0, fun v P1 l1 rv1 => ⟨_, g1, P0, P1, ρ, _, rfl, s.up l1, e1, fun w P' l2 rw2 => ?_⟩⟩
      have l := l1.trans l2
      have r' := r.up l
      have rv' := rv1.ext l2.m
      cases rw2
      cases r' with
      | @lst xs _ a1 a2 a3 =>
        have ra : RpAll K P'.M (xs.set n v) (ds.set n d) := rpAll_set rv' n a3
        obtain ⟨Q', hQ, hQ', s'⟩ := (s.up l).mut (o' := .lst (xs.set n v)) (d' := .list (ds.set n d)) hd g1 a1 a2 (fun _ z => nomatch z) (fun _ _ z => by unfold LamX.CodeO at z; cases z) fun R hM hH => .lst (by rw [hM]; exact a1) (by rw [hH]; exact upd_same) (by rw [hM]; exact ra)
        refine ⟨p, xs, _, n, rfl, rfl, a2, by rw [a3.length]; exact en, ?_⟩
        rw [← hQ']
        exact q Q' σ s'
  · cases h4
/-- `if xs` of an own list, which stays own -/
theorem c_qlw {a : ME} (h : PT X e (tTl K (tW K T a))) : PT X e (tQ K T (qL a)) := pt_to h fun σ H Q ⟨P0, P, ρ, c, h1, s, h2, q⟩ => by
  subst h1
  obtain ⟨d, e1, h3⟩ := bind_eq h2
  split at h3
  · rename_i ds
    cases h3
    refine ⟨P0, P, ρ, _, rfl, s, e1, fun v P' l r => ?_⟩
    obtain ⟨a, xs, rfl, hs, ra⟩ := r.list
    have hl := ra.length
    refine ⟨a, xs, rfl, hs, ?_⟩
    have : (!xs.isEmpty) = !ds.isEmpty := by
      cases xs <;> cases ds <;> first | rfl | cases hl
    rw [this]
    exact q P' l
  · cases h3
/-! ### a, b = a list -/
def gLs (is : List Nat) : MG := fun d ρ => match d with
  | .list ds => if ds.length = is.length then some (setAll is ds ρ) else none
  | _ => none
theorem c_gl {n : Nat} (is : List Nat) (h : PG X e (gLst K n (gNs is))) (hn : is.length = n := by rfl) : PG X e (tG K T is (gLs is)) := pg_to h fun v σ H Q ⟨P0, P, ρ, d, ρ', h1, s, r, h2, q⟩ => by
  subst h1
  unfold gLs at h2
  split at h2
  · split at h2
    · cases h2
      rename_i hl
      cases r with
      | lst hs ra => exact ⟨_, _, rfl, ex_l P.sub hs, by rw [ra.length, hl, hn], gns_ok is _ _ σ ρ hl ra s q⟩
    · cases h2
  · cases h2
theorem pg_lstK {es : List Expr} {k : Nat} {t : TGs} {n : Nat} {pos : Pos} (hc : X.calm = true) (h : PGs X es t) (hK : X.K = K := by rfl)
    (hn : (assignEach es X.env).length = n := by rfl) (hst : (assignEach es X.env).findIdx? (·.1) = none := by rfl) : PG X (.Tuple es k pos) (gLst K n t) := by
  subst hK
  exact pg_lst hc h hn hst
end
end PM

namespace K01
/-- the loop of rests -/
theorem gcd_fmod (a b : Int) : Int.gcd b (a.fmod b) = Int.gcd a b := by
  have h : a.fmod b = a - b * a.fdiv b := by
    have := Int.mul_fdiv_add_fmod a b
    omega
  rw [h]
  rw [Int.gcd_comm a b]
  apply Nat.dvd_antisymm
  · apply Int.dvd_gcd (Int.gcd_dvd_left _ _)
    have h1 : (↑(Int.gcd b (a - b * a.fdiv b)) : Int) ∣ b := Int.gcd_dvd_left _ _
    have h2 : (↑(Int.gcd b (a - b * a.fdiv b)) : Int) ∣ (a - b * a.fdiv b) := Int.gcd_dvd_right _ _
    have h3 := Int.dvd_add h2 (Int.dvd_mul_of_dvd_left (c := a.fdiv b) h1)
    rwa [Int.sub_add_cancel] at h3
  · apply Int.dvd_gcd (Int.gcd_dvd_left _ _)
    have h1 : (↑(Int.gcd b a) : Int) ∣ b := Int.gcd_dvd_left _ _
    have h2 : (↑(Int.gcd b a) : Int) ∣ a := Int.gcd_dvd_right _ _
    exact Int.dvd_sub h2 (Int.dvd_mul_of_dvd_left (c := a.fdiv b) h1)
theorem fmod_small (a b : Int) (hb : b ≠ 0) : (a.fmod b).natAbs < b.natAbs := by
  rcases Int.lt_or_lt_of_ne hb with h | h
  · have e := Int.fmod_eq_emod (a := a) (b := b)
    have h1 := Int.emod_nonneg a hb
    have h2 := Int.emod_lt a hb
    split at e
    · rename_i q
      rcases q with q | q
      · omega
      · have := Int.emod_eq_zero_of_dvd q
        omega
    · rename_i q
      have h3 : a % b ≠ 0 := fun z => q (Or.inr (Int.dvd_of_emod_eq_zero z))
      omega
  · have h1 := Int.fmod_nonneg_of_pos a h
    have h2 := Int.fmod_lt_of_pos a h
    omega
/-- the divisor with the bottom's sign -/
def dvs (t b : Int) : Int := if b < 0 then -(Int.gcd t b : Int) else (Int.gcd t b : Int)
def lowT (t b : Int) : Int := t.fdiv (dvs t b)
def lowB (t b : Int) : Int := b.fdiv (dvs t b)
theorem gcd_pos (t : Int) {b : Int} (hb : b ≠ 0) : 0 < Int.gcd t b := Int.gcd_pos_iff.mpr (Or.inr hb)
theorem dvs_ne (t : Int) {b : Int} (hb : b ≠ 0) : dvs t b ≠ 0 := by
  have := gcd_pos t hb
  unfold dvs
  split <;> omega
theorem dvs_nat (t b : Int) : (dvs t b).natAbs = Int.gcd t b := by
  unfold dvs
  split <;> omega
theorem gcd_le (t : Int) {b : Int} (hb : b ≠ 0) : Int.gcd t b ≤ b.natAbs := by
  have h : (Int.gcd t b) ∣ b.natAbs := Int.natAbs_dvd_natAbs.mpr (Int.gcd_dvd_right t b)
  exact Nat.le_of_dvd (by omega) h
theorem dvs_dvd_b (t b : Int) : dvs t b ∣ b := by
  unfold dvs
  split
  · exact Int.neg_dvd.mpr (Int.gcd_dvd_right t b)
  · exact Int.gcd_dvd_right t b
theorem dvs_dvd_t (t b : Int) : dvs t b ∣ t := by
  unfold dvs
  split
  · exact Int.neg_dvd.mpr (Int.gcd_dvd_left t b)
  · exact Int.gcd_dvd_left t b
theorem lowB_mul (t b : Int) : lowB t b * dvs t b = b := by
  unfold lowB
  rw [Int.fdiv_eq_ediv_of_dvd (dvs_dvd_b t b)]
  exact Int.ediv_mul_cancel (dvs_dvd_b t b)
theorem lowT_mul (t b : Int) : lowT t b * dvs t b = t := by
  unfold lowT
  rw [Int.fdiv_eq_ediv_of_dvd (dvs_dvd_t t b)]
  exact Int.ediv_mul_cancel (dvs_dvd_t t b)
theorem lowB_pos (t : Int) {b : Int} (hb : b ≠ 0) : 0 < lowB t b := by
  have e := lowB_mul t b
  have g := gcd_pos t hb
  unfold dvs at e
  split at e
  · rename_i h
    apply Int.not_le.mp
    intro z
    have h2 : 0 ≤ lowB t b * -(Int.gcd t b : Int) := Int.mul_nonneg_of_nonpos_of_nonpos z (by omega)
    omega
  · rename_i h
    apply Int.not_le.mp
    intro z
    have h2 : lowB t b * (Int.gcd t b : Int) ≤ 0 := Int.mul_nonpos_of_nonpos_of_nonneg z (by omega)
    omega
theorem low_gcd (t : Int) {b : Int} (hb : b ≠ 0) : Int.gcd (lowT t b) (lowB t b) = 1 := by
  have g := gcd_pos t hb
  have h1 : Int.gcd (lowT t b * dvs t b) (lowB t b * dvs t b) = Int.gcd (lowT t b) (lowB t b) * (dvs t b).natAbs := Int.gcd_mul_right ..
  rw [lowT_mul, lowB_mul, dvs_nat] at h1
  have h2 : 1 * Int.gcd t b = Int.gcd (lowT t b) (lowB t b) * Int.gcd t b := by omega
  exact (Nat.eq_of_mul_eq_mul_right g h2).symm
theorem low_id {t b : Int} (hb : 0 < b) : (lowT t b = t ∧ lowB t b = b) ↔ Int.gcd t b = 1 := by
  constructor
  · intro ⟨_, h⟩
    have e := lowB_mul t b
    rw [h] at e
    have e2 : b * dvs t b = b * 1 := by omega
    have e3 : dvs t b = 1 := Int.eq_of_mul_eq_mul_left (by omega) e2
    have := dvs_nat t b
    omega
  · intro h
    have e : dvs t b = 1 := by
      unfold dvs
      rw [if_neg (by omega), h]
      rfl
    unfold lowT lowB
    rw [e, Int.fdiv_one, Int.fdiv_one]
    exact ⟨rfl, rfl⟩
theorem low_natAbs_t (t : Int) {b : Int} (hb : b ≠ 0) : (lowT t b).natAbs ≤ t.natAbs := by
  have e := congrArg Int.natAbs (lowT_mul t b)
  rw [Int.natAbs_mul, dvs_nat] at e
  have g := gcd_pos t hb
  rw [← e]
  exact Nat.le_mul_of_pos_right _ g
theorem low_natAbs_b (t : Int) {b : Int} (hb : b ≠ 0) : (lowB t b).natAbs ≤ b.natAbs := by
  have e := congrArg Int.natAbs (lowB_mul t b)
  rw [Int.natAbs_mul, dvs_nat] at e
  have g := gcd_pos t hb
  rw [← e]
  exact Nat.le_mul_of_pos_right _ g
end K01

namespace PM
open PySem PySem.Spec PyProof.Rows L2 LB
open K01 (lowT lowB dvs gcd_fmod fmod_small gcd_pos dvs_ne dvs_nat gcd_le lowB_mul lowT_mul lowB_pos low_gcd low_id low_natAbs_t low_natAbs_b)
/-! ### fractions, among data -/
def frD (t b : Int) : PyData := .tuple [.int (lowT t b), .int (lowB t b)]
theorem cop_dvd {q p s : Int} (h : Int.gcd q p = 1) (hd : q ∣ p * s) : q ∣ s := by
  have h1 : q.natAbs ∣ p.natAbs * s.natAbs := by
    rw [← Int.natAbs_mul]
    exact Int.natAbs_dvd_natAbs.mpr hd
  exact Int.natAbs_dvd_natAbs.mp (Nat.Coprime.dvd_of_dvd_mul_left (show Nat.gcd q.natAbs p.natAbs = 1 from h) h1)
theorem cop_eq {p q r s : Int} (hq : 0 < q) (hs : 0 < s) (h1 : Int.gcd p q = 1) (h2 : Int.gcd r s = 1) (h : p * s = r * q) : p = r ∧ q = s := by
  have d1 : q ∣ s := by
    exact cop_dvd (by rw [Int.gcd_comm]; exact h1) ⟨r, by rw [h, Int.mul_comm]⟩
  have d2 : s ∣ q := by
    exact cop_dvd (by rw [Int.gcd_comm]; exact h2) ⟨p, by rw [← h, Int.mul_comm]⟩
  have e : q = s := Int.le_antisymm (Int.le_of_dvd hs d1) (Int.le_of_dvd hq d2)
  subst e
  exact ⟨Int.eq_of_mul_eq_mul_right (by omega) h, rfl⟩
theorem low_eq {t b s c : Int} (hb : b ≠ 0) (hc : c ≠ 0) (h : t * c = s * b) : lowT t b = lowT s c ∧ lowB t b = lowB s c := by
  refine cop_eq (lowB_pos t hb) (lowB_pos s hc) (low_gcd t hb) (low_gcd s hc) ?_
  have e : (lowT t b * lowB s c) * (dvs t b * dvs s c) = (lowT s c * lowB t b) * (dvs t b * dvs s c) := by
    have h1 := lowT_mul t b
    have h2 := lowB_mul t b
    have h3 := lowT_mul s c
    have h4 := lowB_mul s c
    calc (lowT t b * lowB s c) * (dvs t b * dvs s c) = (lowT t b * dvs t b) * (lowB s c * dvs s c) := by ac_rfl
      _ = t * c := by rw [h1, h4]
      _ = s * b := h
      _ = (lowT s c * dvs s c) * (lowB t b * dvs t b) := by rw [h3, h2]
      _ = (lowT s c * lowB t b) * (dvs t b * dvs s c) := by ac_rfl
  exact Int.eq_of_mul_eq_mul_right (Int.mul_ne_zero (dvs_ne t hb) (dvs_ne s hc)) e
theorem frD_eq {t b s c : Int} (hb : b ≠ 0) (hc : c ≠ 0) (h : t * c = s * b) : frD t b = frD s c := by
  obtain ⟨h1, h2⟩ := low_eq hb hc h
  unfold frD
  rw [h1, h2]
theorem frD_id {t b : Int} (hb : 0 < b) (h : Int.gcd t b = 1) : frD t b = .tuple [.int t, .int b] := by
  obtain ⟨h1, h2⟩ := (low_id hb).mpr h
  unfold frD
  rw [h1, h2]
theorem frD_one (t : Int) : frD t 1 = .tuple [.int t, .int 1] := frD_id (by decide) (by simp)
/-- what fractions are reckoned of: b is the bottom -/
theorem low_cross (t : Int) {b : Int} (_ : b ≠ 0) : lowT t b * b = t * lowB t b := by
  have h1 := lowT_mul t b
  have h2 := lowB_mul t b
  calc lowT t b * b = lowT t b * (lowB t b * dvs t b) := by rw [h2]
    _ = (lowT t b * dvs t b) * lowB t b := by ac_rfl
    _ = t * lowB t b := by rw [h1]
theorem plus_low {t b s c : Int} (hb : b ≠ 0) (hc : c ≠ 0) : frD (lowT t b * lowB s c + lowT s c * lowB t b) (lowB t b * lowB s c) = frD (t * c + s * b) (b * c) := by
  have p1 := lowB_pos t hb
  have p2 := lowB_pos s hc
  refine frD_eq (Int.mul_ne_zero (by omega) (by omega)) (Int.mul_ne_zero hb hc) ?_
  have e1 := low_cross t hb
  have e2 := low_cross s hc
  calc (lowT t b * lowB s c + lowT s c * lowB t b) * (b * c) = (lowT t b * b) * (lowB s c * c) + (lowT s c * c) * (lowB t b * b) := by rw [Int.add_mul]; ac_rfl
    _ = (t * lowB t b) * (lowB s c * c) + (s * lowB s c) * (lowB t b * b) := by rw [e1, e2]
    _ = (t * c + s * b) * (lowB t b * lowB s c) := by rw [Int.add_mul]; ac_rfl
theorem times_low {t b s c : Int} (hb : b ≠ 0) (hc : c ≠ 0) : frD (lowT t b * lowT s c) (lowB t b * lowB s c) = frD (t * s) (b * c) := by
  have p1 := lowB_pos t hb
  have p2 := lowB_pos s hc
  refine frD_eq (Int.mul_ne_zero (by omega) (by omega)) (Int.mul_ne_zero hb hc) ?_
  have e1 := low_cross t hb
  have e2 := low_cross s hc
  calc lowT t b * lowT s c * (b * c) = (lowT t b * b) * (lowT s c * c) := by ac_rfl
    _ = (t * lowB t b) * (s * lowB s c) := by rw [e1, e2]
    _ = t * s * (lowB t b * lowB s c) := by ac_rfl
theorem fdv_ii {i j : Int} (h : j ≠ 0) (h2 : j.natAbs < 2 ^ 200) : oFdv (.int i) (.int j) = some (.int (i.fdiv j)) := by
  show (if decide (j ≠ 0 ∧ j.natAbs < 2 ^ 200) = true then some (PyData.int (i.fdiv j)) else none) = _
  rw [if_pos (decide_eq_true ⟨h, h2⟩)]
theorem x_neg {e : ME} {ρ : Ev} {i : Int} (h : e ρ = some (.int i)) : mUn oNeg e ρ = some (.int (-i)) := by
  unfold mUn
  rw [h]
  rfl
/-- small enough to be multiplied -/
def Sm (n : Nat) (i : Int) : Prop := i.natAbs < 2 ^ n
end PM

namespace PM
open PySem PySem.Spec PyProof.Rows L2 LB
open K01 (lowT lowB dvs gcd_fmod fmod_small gcd_pos dvs_ne dvs_nat gcd_le lowB_mul lowT_mul lowB_pos low_gcd low_id low_natAbs_t low_natAbs_b)
/-! ### lines of cuts, among data -/
def bP (cs : List Str) : PyData → Int
  | .tuple [.str x, .int a, .int _, .int c, .int _] => if x ∈ cs then c else a
  | _ => 0
def lP (cs : List Str) : PyData → Int
  | .tuple [.str x, .int _, .int b, .int _, .int e] => if x ∈ cs then -e else b
  | _ => 0
def bT (cs : List Str) : PyData → Int
  | .tuple [.str x, .str y, .int s] => if x ∈ cs ∧ y ∉ cs then s else 0
  | _ => 0
def sumOf (f : PyData → Int) (l : List PyData) : Int := (l.map f).sum
theorem sum_snoc (f : PyData → Int) (l : List PyData) (d : PyData) : sumOf f (l ++ [d]) = sumOf f l + f d := by
  unfold sumOf
  rw [List.map_append, List.sum_append]
  simp
theorem sum_bound {f : PyData → Int} {B : Nat} : ∀ {l : List PyData}, (∀ d ∈ l, (f d).natAbs ≤ B) → (sumOf f l).natAbs ≤ l.length * B
  | [], _ => by simp [sumOf]
  | d :: l, h => by
    have ih := sum_bound (f := f) (B := B) (l := l) fun x hx => h x (List.mem_cons_of_mem _ hx)
    have h1 := h d List.mem_cons_self
    have e : sumOf f (d :: l) = f d + sumOf f l := by simp [sumOf]
    rw [e, List.length_cons, Nat.add_mul, Nat.one_mul]
    omega
theorem take_snoc {l : List PyData} {i : Nat} {d : PyData} (h : l[i]? = some d) : l.take (i + 1) = l.take i ++ [d] := take_more h
theorem sum_comb (f g h : PyData → Int) (p q : Int) : ∀ l : List PyData, (∀ d ∈ l, h d = f d * q + g d * p) → sumOf h l = sumOf f l * q + sumOf g l * p
  | [], _ => by simp [sumOf]
  | d :: l, hh => by
    have ih := sum_comb f g h p q l fun x hx => hh x (List.mem_cons_of_mem _ hx)
    have e : ∀ k : PyData → Int, sumOf k (d :: l) = k d + sumOf k l := fun k => by simp [sumOf]
    rw [e, e, e, ih, hh d List.mem_cons_self, Int.add_mul, Int.add_mul]
    omega
theorem rise_riseB : ∀ {l : List Str}, Rise l → riseB l = true
  | [], _ => rfl
  | [_], _ => rfl
  | a :: b :: r, h => by
    have h' : (a :: b :: r).Pairwise fun a b => a.cps.toList < b.cps.toList := h
    rw [List.pairwise_cons] at h'
    unfold riseB
    rw [decide_eq_true (h'.1 b List.mem_cons_self), Bool.true_and]
    exact rise_riseB h'.2
theorem txs_map : ∀ xs : List Str, txs (xs.map .str) = xs
  | [] => rfl
  | x :: xs => by
    show x :: txs (xs.map .str) = _
    rw [txs_map xs]
theorem cutB_of {ns cs : List Str} (h : Rise cs) (hm : ∀ x ∈ cs, x ∈ ns) : cutB ns (.tuple (cs.map .str)) = true := by
  show ((cs.map PyData.str).all (inN ns) && riseB (txs (cs.map .str))) = true
  rw [txs_map, rise_riseB h, Bool.and_true, List.all_eq_true]
  intro d hd
  obtain ⟨x, hx, rfl⟩ := List.mem_map.mp hd
  exact decide_eq_true (hm x hx)
theorem pick_mem {ns : List Str} {m : Nat} : ∀ x ∈ pick ns m, x ∈ ns := fun x hx => by
  obtain ⟨k, hk, rfl⟩ := List.mem_map.mp hx
  have hk := List.mem_range.mp (List.mem_filter.mp hk).1
  rw [List.getD_eq_getElem?_getD, List.getElem?_eq_getElem hk]
  exact List.getElem_mem hk
theorem pick_rise {ns : List Str} (h : Rise ns) (m : Nat) : Rise (pick ns m) := by
  unfold Rise pick
  rw [List.pairwise_map]
  have hp : ((List.range ns.length).filter fun k => decide (m / 2 ^ k % 2 = 1)).Pairwise (· < ·) := List.Pairwise.filter _ List.pairwise_lt_range
  refine hp.imp_of_mem fun {i j} hi hj hij => ?_
  have hi := List.mem_range.mp (List.mem_filter.mp hi).1
  have hj := List.mem_range.mp (List.mem_filter.mp hj).1
  rw [List.getD_eq_getElem?_getD, List.getElem?_eq_getElem hi, List.getD_eq_getElem?_getD, List.getElem?_eq_getElem hj]
  exact (rise_lt h hi hj).mpr hij
/-- a price p / q of a web of this top -/
structure Pri (top p q : Int) : Prop where
  q1 : 0 < q
  p0 : 0 ≤ p
  pt : p ≤ top * q
  q40 : q < 2 ^ 40
theorem low_range {top p q : Int} (h : Pri top p q) : 0 ≤ lowT p q ∧ lowT p q ≤ top * lowB p q := by
  have h1 := lowT_mul p q
  have h2 := lowB_mul p q
  have hq := h.q1
  have hd : 0 < dvs p q := by
    have := gcd_pos p (b := q) (by omega)
    unfold dvs
    rw [if_neg (by omega)]
    omega
  constructor
  · refine Int.not_lt.mp fun z => ?_
    have := Int.mul_neg_of_neg_of_pos z hd
    have := h.p0
    omega
  · refine Int.le_of_mul_le_mul_right ?_ hd
    rw [h1, Int.mul_assoc, h2]
    exact h.pt
theorem mul_lt200 {x y : Int} (hx : x.natAbs < 2 ^ 99) (hy : y.natAbs < 2 ^ 99) : (x * y).natAbs < 2 ^ 200 := by
  rw [Int.natAbs_mul]
  exact Nat.lt_of_lt_of_le (Nat.mul_lt_mul'' hx hy) (by decide)
theorem lt200 {x : Nat} (h : x < 2 ^ 99) : x < 2 ^ 200 := Nat.lt_trans h (by decide)
end PM

namespace K49
open PySem PySem.Spec PyProof.Rows L2
def top (i : Nat) : Stmt := PySem.Challenge.pw_cutstairs_k49_webs_of_unlike_tops.main.body.getD i (.Pass ⟨0, 0, 0, 0⟩)
abbrev s_common_divisor : Stmt := top 18
abbrev s_fraction : Stmt := top 19
abbrev s_plus : Stmt := top 20
abbrev s_times : Stmt := top 21
abbrev s_half_way : Stmt := top 22
abbrev s_below : Stmt := top 23
abbrev s_on_line : Stmt := top 24
abbrev s_is_rising : Stmt := top 26
abbrev s_names_of : Stmt := top 27
abbrev s_is_choice : Stmt := top 29
abbrev s_is_cut : Stmt := top 30
abbrev s_line_of : Stmt := top 31
abbrev s_choices_of : Stmt := top 32
abbrev s_all_cuts : Stmt := top 33
abbrev s_cuts_by_line : Stmt := top 35
abbrev s_meeting : Stmt := top 36
abbrev s_is_met_first : Stmt := top 37
abbrev s_line_behind : Stmt := top 38
abbrev s_bit_of : Stmt := top 39
abbrev s_stair_of : Stmt := top 40
abbrev s_bits_beside : Stmt := top 41
abbrev s_line_on : Stmt := top 42
abbrev s_worth_on : Stmt := top 43
abbrev s_word_at : Stmt := top 45
abbrev s_end_behind : Stmt := top 46
abbrev s_joined : Stmt := top 47
abbrev s_beside : Stmt := top 48
abbrev s_L_cell : Stmt := top 50
abbrev s_L_numbers : Stmt := top 51
abbrev s_L_names : Stmt := top 52
abbrev s_L_place : Stmt := top 53
abbrev s_L_ties : Stmt := top 54
abbrev s_L_web : Stmt := top 55
abbrev s_L_chain : Stmt := top 56
abbrev s_L_drawn : Stmt := top 57
abbrev s_L_only : Stmt := top 58
abbrev s_L_refused : Stmt := top 59
abbrev s_law : Stmt := top 60
end K49

namespace K49
open PySem PySem.Spec PyProof.Rows L2 LB PM
noncomputable def m_common_divisor : MS := (mSeq (mWhile (qV (mOp oNe (mW 1) (mC (.int 0))))
   (mPar 0 1 (aCons (mV 1) (aCons (mOp oMod (mW 0) (mW 1)) aNil))))
  (mRet (mCb oAbs (aCons (mW 0) aNil))))
noncomputable def M_common_divisor : List PyData → Option PyData := fnM 2 2 m_common_divisor

noncomputable def m_fraction : MS := (mSeq (mIfS (qV (mOp oEq (mW 1) (mC (.int 0)))) mNo mNx)
  (mSeq (mSet 2 (mCb M_common_divisor (aCons (mV 0) (aCons (mV 1) aNil))))
  (mSeq (mIfS (qV (mOp oLt (mW 1) (mC (.int 0)))) (mSet 2 (mUn oNeg (mV 2))) mNx)
  (mRet (mTup (aCons (mOp oFdv (mW 0) (mW 2)) (aCons (mOp oFdv (mW 1) (mW 2)) aNil)))))))
noncomputable def M_fraction : List PyData → Option PyData := fnM 2 3 m_fraction

noncomputable def m_plus : MS := (mRet (mCb M_fraction (aCons (mOp oAdd (mOp oMul (mOp oIx (mW 0) (mC (.int 0))) (mOp oIx (mW 1) (mC (.int 1)))) (mOp oMul (mOp oIx (mW 1) (mC (.int 0))) (mOp oIx (mW 0) (mC (.int 1))))) (aCons (mOp oMul (mOp oIx (mW 0) (mC (.int 1))) (mOp oIx (mW 1) (mC (.int 1)))) aNil))))
noncomputable def M_plus : List PyData → Option PyData := fnM 2 2 m_plus

noncomputable def m_times : MS := (mRet (mCb M_fraction (aCons (mOp oMul (mOp oIx (mW 0) (mC (.int 0))) (mOp oIx (mW 1) (mC (.int 0)))) (aCons (mOp oMul (mOp oIx (mW 0) (mC (.int 1))) (mOp oIx (mW 1) (mC (.int 1)))) aNil))))
noncomputable def M_times : List PyData → Option PyData := fnM 2 2 m_times

noncomputable def m_half_way : MS := (mRet (mCb M_times (aCons (mCb M_plus (aCons (mV 0) (aCons (mV 1) aNil))) (aCons (mCb M_fraction (aCons (mC (.int 1)) (aCons (mC (.int 2)) aNil))) aNil))))
noncomputable def M_half_way : List PyData → Option PyData := fnM 2 2 m_half_way

def m_below : MS := (mRet (mOp oLt (mOp oMul (mOp oIx (mW 0) (mC (.int 0))) (mOp oIx (mW 1) (mC (.int 1)))) (mOp oMul (mOp oIx (mW 1) (mC (.int 0))) (mOp oIx (mW 0) (mC (.int 1))))))
def M_below : List PyData → Option PyData := fnM 2 2 m_below

noncomputable def m_on_line : MS := (mRet (mCb M_fraction (aCons (mOp oAdd (mOp oMul (mW 0) (mOp oIx (mW 2) (mC (.int 1)))) (mOp oMul (mW 1) (mOp oIx (mW 2) (mC (.int 0))))) (aCons (mOp oIx (mW 2) (mC (.int 1))) aNil))))
noncomputable def M_on_line : List PyData → Option PyData := fnM 3 3 m_on_line

def m_is_rising : MS := (mRet (mAg (iZ (aCons (mV 0) (aCons (mSl (mW 0) (pSo (mC (.int 1))) pNo) aNil))) [1, 2] (gT [1, 2]) qT (mOp oLt (mW 1) (mW 2))))
def M_is_rising : List PyData → Option PyData := fnM 1 3 m_is_rising

def m_names_of : MS := (mRet (mTg (iS (mOp oIx (mW 0) (mC (.int 1)))) [1] (gN 1) qT (mOp oIx (mW 1) (mC (.int 0)))))
def M_names_of : List PyData → Option PyData := fnM 1 2 m_names_of

def m_is_choice : MS := (mSeq (mIfS (qNot (qV (mIs "tuple" (mW 1)))) (mRet (mC (.bool false))) mNx)
  (mRet (mAnd (mAg (iS (mW 1)) [2] (gN 2) qT (mAnd (mIs "str" (mW 2)) (mOp oIn (mW 2) (mW 0)))) (mCb M_is_rising (aCons (mV 1) aNil)))))
def M_is_choice : List PyData → Option PyData := fnM 2 3 m_is_choice

def m_is_cut : MS := (mRet (mCb M_is_choice (aCons (mCb M_names_of (aCons (mV 0) aNil)) (aCons (mV 1) aNil))))
def M_is_cut : List PyData → Option PyData := fnM 2 2 m_is_cut

def m_line_of : MS := (mSeq (mIfS (qNot (qV (mCb M_is_cut (aCons (mV 0) (aCons (mV 1) aNil))))) mNo mNx)
  (mSeq (mSet 2 (mC (.int 0)))
  (mSeq (mSet 3 (mC (.int 0)))
  (mSeq (mFor (iS (mOp oIx (mW 0) (mC (.int 1)))) (gT [4, 5, 6, 7, 8])
   (mIfS (qV (mOp oIn (mW 4) (mW 1))) (mSeq (mAug 2 oIadd (mW 7))
  (mAug 3 oSub (mW 8))) (mSeq (mAug 2 oIadd (mW 5))
  (mAug 3 oIadd (mW 6)))))
  (mSeq (mFor (iS (mOp oIx (mW 0) (mC (.int 2)))) (gT [9, 10, 11])
   (mIfS (qAnd (qV (mOp oIn (mW 9) (mW 1))) (qV (mOp oNin (mW 10) (mW 1)))) (mAug 2 oIadd (mW 11)) mNx))
  (mRet (mTup (aCons (mV 2) (aCons (mV 3) aNil)))))))))
def M_line_of : List PyData → Option PyData := fnM 2 12 m_line_of

def m_choices_of : MS := (mSeq (mSet 1 (mLst (aCons (mTup aNil) aNil)))
  (mSeq (mFor (iS (mV 0)) (gN 2)
   (mSet 1 (mOp oAdd (mW 1) (mLc (iS (mW 1)) [3] (gN 3) qT (mTup (aStar (mW 3) (aCons (mV 2) aNil)))))))
  (mRet (mV 1))))
def M_choices_of : List PyData → Option PyData := fnM 1 4 m_choices_of

noncomputable def m_all_cuts : MS := (mRet (mCb oSorted (aCons (mCb M_choices_of (aCons (mCb M_names_of (aCons (mV 0) aNil)) aNil)) aNil)))
noncomputable def M_all_cuts : List PyData → Option PyData := fnM 1 1 m_all_cuts

noncomputable def m_cuts_by_line : MS := (mSeq (mSetO 1 (mC (.dict [])))
  (mSeq (mGather 1 3 2 (iS (mCb M_all_cuts (aCons (mV 0) aNil)))
   (mCb M_line_of (aCons (mV 0) (aCons (mV 2) aNil))))
  (mRet (mV 1))))
noncomputable def M_cuts_by_line : List PyData → Option PyData := fnM 1 4 m_cuts_by_line

noncomputable def m_meeting : MS := (mRet (mCb M_fraction (aCons (mOp oSub (mOp oIx (mW 1) (mC (.int 0))) (mOp oIx (mW 0) (mC (.int 0)))) (aCons (mOp oSub (mOp oIx (mW 0) (mC (.int 1))) (mOp oIx (mW 1) (mC (.int 1)))) aNil))))
noncomputable def M_meeting : List PyData → Option PyData := fnM 2 2 m_meeting

noncomputable def m_is_met_first : MS := (mSeq (mSet 3 (mCb M_meeting (aCons (mV 0) (aCons (mV 1) aNil))))
  (mSeq (mSet 4 (mCb M_meeting (aCons (mV 0) (aCons (mV 2) aNil))))
  (mRet (mOr (mCb M_below (aCons (mV 3) (aCons (mV 4) aNil))) (mAnd (mOp oEq (mW 3) (mW 4)) (mOp oLt (mOp oIx (mW 1) (mC (.int 1))) (mOp oIx (mW 2) (mC (.int 1)))))))))
noncomputable def M_is_met_first : List PyData → Option PyData := fnM 3 5 m_is_met_first

noncomputable def m_line_behind : MS := (mSeq (mSet 2 (mC .none))
  (mSeq (mFor (iS (mV 0)) (gN 3)
   (mIfS (qAnd (qV (mOp oLt (mOp oIx (mW 3) (mC (.int 1))) (mOp oIx (mW 1) (mC (.int 1))))) (qOr (qV (mOp oIsNo (mW 2) (mC .none))) (qV (mCb M_is_met_first (aCons (mV 1) (aCons (mV 3) (aCons (mV 2) aNil))))))) (mSet 2 (mV 3)) mNx))
  (mRet (mV 2))))
noncomputable def M_line_behind : List PyData → Option PyData := fnM 2 4 m_line_behind

def m_bit_of : MS := (mRet (mTup (aCons (mBest shorter (mW 0)) (aCons (mBest longer (mW 0)) (aCons (mOp oIx (mW 1) (mC (.int 0))) (aCons (mOp oIx (mW 1) (mC (.int 1))) aNil))))))
def M_bit_of : List PyData → Option PyData := fnM 2 2 m_bit_of

noncomputable def m_stair_of : MS := (mSeq (mSet 1 (mCb M_cuts_by_line (aCons (mV 0) aNil)))
  (mSeq (mSet 2 (mCb oKeysT (aCons (mW 1) aNil)))
  (mSeq (mSet 3 (mCb M_fraction (aCons (mOp oIx (mW 0) (mC (.int 0))) (aCons (mC (.int 1)) aNil))))
  (mSeq (mSet 4 (mCb oMinL (aCons (mW 2) aNil)))
  (mSeq (mSetO 5 (mLst (aCons (mCb M_bit_of (aCons (mOp oGetT (mV 1) (mV 4)) (aCons (mV 4) aNil))) aNil)))
  (mSeq (mSetO 6 (mLst aNil))
  (mSeq (mSet 7 (mCb M_line_behind (aCons (mV 2) (aCons (mV 4) aNil))))
  (mSeq (mWhile (qAnd (qV (mOp oNotNo (mW 7) (mC .none))) (qV (mCb M_below (aCons (mCb M_meeting (aCons (mV 4) (aCons (mV 7) aNil))) (aCons (mV 3) aNil)))))
   (mSeq (mApp 6 (mCb M_meeting (aCons (mV 4) (aCons (mV 7) aNil))))
  (mSeq (mApp 5 (mCb M_bit_of (aCons (mOp oGetT (mV 1) (mV 7)) (aCons (mV 7) aNil))))
  (mSeq (mSet 4 (mV 7))
  (mSet 7 (mCb M_line_behind (aCons (mV 2) (aCons (mV 4) aNil))))))))
  (mRel 6 (mRel 5 (mRet (mTup (aCons (mV 5) (aCons (mV 6) aNil))))))))))))))
noncomputable def M_stair_of : List PyData → Option PyData := fnM 1 8 m_stair_of

def m_bits_beside : MS := (mSeq (mSet 2 (mCb oLen (aCons (mLc (iS (mW 0)) [3] (gN 3) (qV (mCb M_below (aCons (mV 3) (aCons (mV 1) aNil)))) (mV 3)) aNil)))
  (mSeq (mIfS (qV (mOp oInZ (mW 1) (mW 0))) (mRet (mLst (aCons (mV 2) (aCons (mOp oAdd (mW 2) (mC (.int 1))) aNil)))) mNx)
  (mRet (mLst (aCons (mV 2) aNil)))))
def M_bits_beside : List PyData → Option PyData := fnM 2 4 m_bits_beside

def m_line_on : MS := (mSeq (mAsg (mV 0) (gT [2, 3]))
  (mSeq (mAsg (mOp oIx (mW 2) (mOp oIx (mCb M_bits_beside (aCons (mV 3) (aCons (mV 1) aNil))) (mUn oNeg (mC (.int 1))))) (gT [4, 5, 6, 7]))
  (mRet (mTup (aCons (mV 6) (aCons (mV 7) aNil))))))
def M_line_on : List PyData → Option PyData := fnM 2 8 m_line_on

noncomputable def m_worth_on : MS := (mSeq (mAsg (mCb M_line_on (aCons (mV 0) (aCons (mV 1) aNil))) (gT [2, 3]))
  (mRet (mCb M_on_line (aCons (mV 2) (aCons (mV 3) (aCons (mV 1) aNil))))))
noncomputable def M_worth_on : List PyData → Option PyData := fnM 2 4 m_worth_on

noncomputable def m_word_at : MS := (mSeq (mAsg (mLc (iS (mW 0)) [4] (gN 4) qT (mCb M_worth_on (aCons (mV 4) (aCons (mV 1) aNil)))) (gLs [2, 3]))
  (mSeq (mIfS (qV (mCb M_below (aCons (mV 2) (aCons (mV 3) aNil)))) (mRet (mC (.str "less"))) mNx)
  (mSeq (mIfS (qV (mCb M_below (aCons (mV 3) (aCons (mV 2) aNil)))) (mRet (mC (.str "more"))) mNx)
  (mRet (mC (.str "same"))))))
noncomputable def M_word_at : List PyData → Option PyData := fnM 2 5 m_word_at

noncomputable def m_end_behind : MS := (mSeq (mSetO 3 (mOp oCat (mOp oIx (mOp oIx (mW 0) (mC (.int 0))) (mC (.int 1))) (mOp oIx (mOp oIx (mW 0) (mC (.int 1))) (mC (.int 1)))))
  (mSeq (mAsg (mLc (iS (mW 0)) [8] (gN 8) qT (mCb M_line_on (aCons (mV 8) (aCons (mV 1) aNil)))) (gLs [6, 7]))
  (mSeq (mIfS (qV (mOp oNe (mOp oIx (mW 6) (mC (.int 1))) (mOp oIx (mW 7) (mC (.int 1))))) (mApp 3 (mCb M_meeting (aCons (mV 6) (aCons (mV 7) aNil)))) mNx)
  (mSeq (mSet 4 (mV 2))
  (mSeq (mRel 3 (mFor (iS (mV 3)) (gN 5)
   (mIfS (qAnd (qV (mCb M_below (aCons (mV 1) (aCons (mV 5) aNil)))) (qV (mCb M_below (aCons (mV 5) (aCons (mV 4) aNil))))) (mSet 4 (mV 5)) mNx)))
  (mRet (mV 4)))))))
noncomputable def M_end_behind : List PyData → Option PyData := fnM 3 9 m_end_behind

noncomputable def m_joined : MS := (mSeq (mSetO 2 (mLst aNil))
  (mSeq (mFor (iS (mV 1)) (gT [3, 4, 5])
   (mIfS (qAnd (qL (mW 2)) (qAnd (qV (mOp oEq (mOp oIx (mOp oIx (mW 2) (mUn oNeg (mC (.int 1)))) (mC (.int 2))) (mW 5))) (qV (mOp oEq (mCb M_word_at (aCons (mV 0) (aCons (mV 3) aNil))) (mW 5))))) (mSetI 2 (mUn oNeg (mC (.int 1))) (mTup (aCons (mOp oIx (mOp oIx (mW 2) (mUn oNeg (mC (.int 1)))) (mC (.int 0))) (aCons (mV 4) (aCons (mV 5) aNil))))) (mApp 2 (mTup (aCons (mV 3) (aCons (mV 4) (aCons (mV 5) aNil)))))))
  (mRetO 2)))
noncomputable def M_joined : List PyData → Option PyData := fnM 2 6 m_joined

noncomputable def m_beside : MS := (mSeq (mIfS (qV (mOp oNe (mOp oIx (mW 0) (mC (.int 0))) (mOp oIx (mW 1) (mC (.int 0))))) (mEr "NoTop") mNx)
  (mSeq (mSet 2 (mLst (aCons (mCb M_stair_of (aCons (mV 0) aNil)) (aCons (mCb M_stair_of (aCons (mV 1) aNil)) aNil))))
  (mSeq (mSet 3 (mCb M_fraction (aCons (mOp oIx (mW 0) (mC (.int 0))) (aCons (mC (.int 1)) aNil))))
  (mSeq (mSet 4 (mCb M_fraction (aCons (mC (.int 0)) (aCons (mC (.int 1)) aNil))))
  (mSeq (mSetO 5 (mLst aNil))
  (mSeq (mWhile (qV (mCb M_below (aCons (mV 4) (aCons (mV 3) aNil))))
   (mSeq (mSet 6 (mCb M_end_behind (aCons (mV 2) (aCons (mV 4) (aCons (mV 3) aNil)))))
  (mSeq (mApp 5 (mTup (aCons (mV 4) (aCons (mV 6) (aCons (mCb M_word_at (aCons (mV 2) (aCons (mCb M_half_way (aCons (mV 4) (aCons (mV 6) aNil))) aNil))) aNil)))))
  (mSet 4 (mV 6)))))
  (mRel 5 (mRet (mCb M_joined (aCons (mV 2) (aCons (mV 5) aNil)))))))))))
noncomputable def M_beside : List PyData → Option Rs := fnX 2 7 m_beside

def m_L_cell : MS := (mSeq (mIfS (qV (mOp oLt (mW 1) (mCb oLen (aCons (mW 0) aNil)))) (mRet (mOp oIx (mW 0) (mW 1))) mNx)
  (mSeq (mSet 2 (mOp oMod (mOp oMul (mC (.int 48271)) (mOp oAdd (mOp oAdd (mOp oMul (mW 1) (mW 1)) (mOp oMul (mC (.int 7)) (mW 1))) (mC (.int 11)))) (mC (.int 2147483647))))
  (mSeq (mFor (iS (mSl (mW 0) pNo (pSo (mC (.int 3))))) (gN 3)
   (mSet 2 (mOp oMod (mOp oAdd (mOp oMul (mW 2) (mC (.int 69621))) (mW 3)) (mC (.int 2147483647)))))
  (mRet (mV 2)))))
def M_L_cell : List PyData → Option PyData := fnM 2 4 m_L_cell

def m_L_numbers : MS := (mSeq (mSetO 2 (mLst aNil))
  (mSeq (mSet 3 (mOp oMod (mOp oMul (mOp oAdd (mOp oMod (mW 0) (mC (.int 1999999973))) (mC (.int 31))) (mC (.int 765432101))) (mC (.int 1999999973))))
  (mSeq (mSet 4 (mC (.int 0)))
  (mSeq (mIfS (qOr (qV (mOp oLt (mW 0) (mC (.int 0)))) (qV (mOp oGe (mW 0) (mOp oPow (mC (.int 10)) (mC (.int 18)))))) (mSet 4 (mCb oAbs (aCons (mW 0) aNil))) mNx)
  (mSeq (mFor (iR (aCons (mV 1) aNil)) (gN 5)
   (mSeq (mSet 3 (mOp oMod (mOp oAdd (mOp oAdd (mOp oMul (mW 3) (mOp oAdd (mOp oMod (mW 3) (mC (.int 65521))) (mC (.int 40487)))) (mOp oMul (mC (.int 7)) (mW 5))) (mC (.int 5))) (mC (.int 1999999973))))
  (mSeq (mApp 2 (mOp oIx (mLst (aCons (mV 3) (aCons (mOp oMod (mW 4) (mC (.int 1000000))) aNil))) (mCb oInt (aCons (mOp oGt (mW 4) (mC (.int 0))) aNil))))
  (mSet 4 (mOp oFdv (mW 4) (mC (.int 1000000)))))))
  (mRetO 2))))))
def M_L_numbers : List PyData → Option PyData := fnM 2 6 m_L_numbers

noncomputable def m_L_names : MS := (mSeq (mSet 2 (mC (.str "abcdefghijklmnopqrstuvwxyz")))
  (mSeq (mSetO 3 (mLst aNil))
  (mSeq (mFor (iR (aCons (mV 1) aNil)) (gN 4)
   (mSeq (mSet 5 (mOp oMul (mOp oIx (mW 2) (mOp oMod (mOp oAdd (mOp oIx (mW 0) (mC (.int 0))) (mOp oMul (mC (.int 7)) (mW 4))) (mC (.int 26)))) (mOp oAdd (mC (.int 1)) (mOp oMod (mOp oAdd (mOp oIx (mW 0) (mC (.int 2))) (mOp oMul (mC (.int 3)) (mW 4))) (mOp oIx (mLst (aCons (mC (.int 1)) (aCons (mC (.int 5)) aNil))) (mOp oMod (mOp oIx (mW 0) (mC (.int 3))) (mC (.int 2))))))))
  (mSeq (mIfS (qV (mOp oEq (mOp oMod (mOp oIx (mW 0) (mC (.int 1))) (mC (.int 4))) (mC (.int 1)))) (mSet 5 (mOp oAdd (mOp oIx (mC (.str "abcdefgh")) (mW 4)) (mOp oMul (mOp oIx (mW 2) (mOp oMod (mOp oIx (mW 0) (mC (.int 2))) (mC (.int 26)))) (mOp oMod (mOp oIx (mW 0) (mC (.int 3))) (mC (.int 8)))))) mNx)
  (mSeq (mIfS (qV (mOp oEq (mOp oMod (mOp oIx (mW 0) (mC (.int 1))) (mC (.int 4))) (mC (.int 2)))) (mSet 5 (mOp oMul (mOp oIx (mW 2) (mOp oMod (mOp oIx (mW 0) (mC (.int 2))) (mC (.int 26)))) (mOp oAdd (mC (.int 1)) (mW 4)))) mNx)
  (mSeq (mIfS (qV (mOp oEq (mOp oMod (mOp oIx (mW 0) (mC (.int 1))) (mC (.int 4))) (mC (.int 3)))) (mSeq (mSet 6 (mOp oIx (mW 2) (mOp oMod (mOp oAdd (mOp oIx (mW 0) (mC (.int 3))) (mOp oMul (mC (.int 5)) (mW 4))) (mC (.int 26)))))
  (mSet 5 (mOp oAdd (mOp oAdd (mOp oIx (mW 2) (mOp oMod (mOp oIx (mW 0) (mC (.int 2))) (mC (.int 26)))) (mW 6)) (mOp oIx (mW 2) (mOp oMod (mOp oIx (mW 0) (mC (.int 0))) (mC (.int 26))))))) mNx)
  (mApp 3 (mV 5)))))))
  (mRet (mCb oSorted (aCons (mW 3) aNil))))))
noncomputable def M_L_names : List PyData → Option PyData := fnM 2 7 m_L_names

def m_L_place : MS := (mSeq (mSet 4 (mOp oIx (mLst (aCons (mC (.int 4)) (aCons (mC (.int 10)) (aCons (mC (.int 100)) (aCons (mC (.int 100)) aNil))))) (mW 3)))
  (mSeq (mSet 5 (mOp oMod (mOp oIx (mW 1) (mC (.int 0))) (mW 4)))
  (mSeq (mSet 6 (mOp oMod (mOp oIx (mW 1) (mC (.int 1))) (mOp oIx (mLst (aCons (mC (.int 3)) (aCons (mC (.int 5)) (aCons (mC (.int 100)) (aCons (mC (.int 100)) aNil))))) (mW 3))))
  (mSeq (mSet 7 (mOp oMod (mOp oIx (mW 1) (mC (.int 2))) (mOp oIx (mLst (aCons (mC (.int 2)) (aCons (mC (.int 4)) (aCons (mC (.int 100)) (aCons (mC (.int 100)) aNil))))) (mW 3))))
  (mSeq (mSet 8 (mOp oAdd (mOp oMul (mW 7) (mW 2)) (mOp oMod (mOp oIx (mW 1) (mC (.int 3))) (mOp oIx (mLst (aCons (mC (.int 5)) (aCons (mC (.int 20)) (aCons (mC (.int 100)) (aCons (mC (.int 100)) aNil))))) (mW 3)))))
  (mSeq (mIfS (qV (mOp oEq (mOp oMod (mOp oIx (mW 1) (mC (.int 4))) (mC (.int 5))) (mC (.int 1)))) (mPar 5 6 (aCons (mC (.int 0)) (aCons (mOp oMod (mOp oFdv (mOp oIx (mW 1) (mC (.int 1))) (mC (.int 8))) (mC (.int 3))) aNil))) mNx)
  (mSeq (mIfS (qV (mOp oEq (mOp oMod (mOp oIx (mW 1) (mC (.int 4))) (mC (.int 5))) (mC (.int 2)))) (mSeq (mSet 7 (mC (.int 0)))
  (mSet 8 (mOp oMod (mOp oIx (mW 1) (mC (.int 3))) (mOp oIx (mLst (aCons (mC (.int 5)) (aCons (mC (.int 20)) (aCons (mC (.int 1000)) (aCons (mC (.int 1000)) aNil))))) (mW 3))))) mNx)
  (mRet (mTup (aCons (mV 0) (aCons (mV 5) (aCons (mV 6) (aCons (mV 8) (aCons (mV 7) aNil))))))))))))))
def M_L_place : List PyData → Option PyData := fnM 4 9 m_L_place

noncomputable def m_L_ties : MS := (mSeq (mSetO 5 (mC (.dict [])))
  (mSeq (mFor (iR (aCons (mV 3) aNil)) (gN 6)
   (mSeq (mSet 7 (mCb M_L_numbers (aCons (mCb M_L_cell (aCons (mV 1) (aCons (mOp oAdd (mW 2) (mW 6)) aNil))) (aCons (mC (.int 5)) aNil))))
  (mSeq (mSet 8 (mOp oMod (mOp oIx (mW 7) (mC (.int 0))) (mCb oLen (aCons (mW 0) aNil))))
  (mSeq (mSet 9 (mOp oMod (mOp oAdd (mOp oAdd (mW 8) (mC (.int 1))) (mOp oMod (mOp oIx (mW 7) (mC (.int 1))) (mCb oMax (aCons (mC (.int 1)) (aCons (mOp oSub (mCb oLen (aCons (mW 0) aNil)) (mC (.int 1))) aNil))))) (mCb oLen (aCons (mW 0) aNil))))
  (mSeq (mSet 10 (mOp oIx (mLst (aCons (mOp oAdd (mC (.int 1)) (mOp oMod (mOp oIx (mW 7) (mC (.int 2))) (mC (.int 4)))) (aCons (mOp oAdd (mC (.int 1)) (mOp oMod (mOp oIx (mW 7) (mC (.int 2))) (mC (.int 30)))) (aCons (mOp oAdd (mC (.int 1)) (mOp oMod (mOp oIx (mW 7) (mC (.int 2))) (mC (.int 999)))) (aCons (mOp oAdd (mC (.int 1)) (mOp oMod (mOp oIx (mW 7) (mC (.int 2))) (mC (.int 999)))) aNil))))) (mW 4)))
  (mIfS (qV (mOp oNe (mW 8) (mW 9))) (mSeq (mDput 5 (aCons (mOp oIx (mW 0) (mW 8)) (aCons (mOp oIx (mW 0) (mW 9)) aNil)) (mV 10))
  (mIfS (qAnd (qV (mOp oEq (mOp oMod (mOp oIx (mW 7) (mC (.int 3))) (mC (.int 3))) (mC (.int 1)))) (qV (mOp oLt (mLenD 5) (mC (.int 16))))) (mDput 5 (aCons (mOp oIx (mW 0) (mW 9)) (aCons (mOp oIx (mW 0) (mW 8)) aNil)) (mOp oAdd (mC (.int 1)) (mOp oMod (mOp oIx (mW 7) (mC (.int 4))) (mC (.int 9))))) mNx)) mNx))))))
  (mRet (mCb oTuple (aCons (mSl (mTies 11 5) pNo (pSo (mC (.int 16)))) aNil)))))
noncomputable def M_L_ties : List PyData → Option PyData := fnM 5 12 m_L_ties

noncomputable def m_L_web : MS := (mSeq (mSet 3 (mCb M_L_numbers (aCons (mCb M_L_cell (aCons (mV 0) (aCons (mV 1) aNil))) (aCons (mC (.int 12)) aNil))))
  (mSeq (mSet 4 (mOp oAdd (mC (.int 1)) (mOp oMod (mOp oIx (mW 3) (mC (.int 4))) (mC (.int 9)))))
  (mSeq (mSet 5 (mOp oAdd (mC (.int 1)) (mOp oMod (mOp oIx (mW 3) (mC (.int 5))) (mW 2))))
  (mSeq (mSet 6 (mOp oIx (mLst (aCons (mC (.int 0)) (aCons (mC (.int 1)) (aCons (mC (.int 0)) (aCons (mC (.int 1)) (aCons (mC (.int 2)) aNil)))))) (mOp oMod (mOp oIx (mW 3) (mC (.int 6))) (mC (.int 5)))))
  (mSeq (mSet 7 (mCb M_L_names (aCons (mV 3) (aCons (mV 5) aNil))))
  (mSeq (mSetO 8 (mLst aNil))
  (mSeq (mFor (iR (aCons (mV 5) aNil)) (gN 9)
   (mApp 8 (mCb M_L_place (aCons (mOp oIx (mW 7) (mW 9)) (aCons (mCb M_L_numbers (aCons (mCb M_L_cell (aCons (mV 0) (aCons (mOp oAdd (mOp oAdd (mW 1) (mC (.int 1))) (mW 9)) aNil))) (aCons (mC (.int 5)) aNil))) (aCons (mV 4) (aCons (mV 6) aNil)))))))
  (mSeq (mSet 10 (mCb M_L_ties (aCons (mV 7) (aCons (mV 0) (aCons (mOp oAdd (mOp oAdd (mW 1) (mC (.int 1))) (mW 5)) (aCons (mOp oMod (mOp oIx (mW 3) (mC (.int 7))) (mOp oAdd (mOp oMul (mC (.int 2)) (mW 5)) (mC (.int 1)))) (aCons (mV 6) aNil)))))))
  (mRet (mTup (aCons (mV 4) (aCons (mCb oTuple (aCons (mW 8) aNil)) (aCons (mV 10) aNil)))))))))))))
noncomputable def M_L_web : List PyData → Option PyData := fnM 3 11 m_L_web

noncomputable def m_L_chain : MS := (mSeq (mSet 2 (mCb M_L_names (aCons (mV 0) (aCons (mV 1) aNil))))
  (mSeq (mSet 3 (mOp oAdd (mC (.int 1)) (mOp oMod (mOp oIx (mW 0) (mC (.int 4))) (mC (.int 9)))))
  (mSeq (mSetO 4 (mLst aNil))
  (mSeq (mFor (iR (aCons (mV 1) aNil)) (gN 5)
   (mSeq (mSet 8 (mOp oMul (mOp oAdd (mC (.int 1)) (mOp oMod (mOp oIx (mW 0) (mC (.int 5))) (mC (.int 9)))) (mCb oInt (aCons (mOp oEq (mW 5) (mC (.int 0))) aNil))))
  (mApp 4 (mTup (aCons (mOp oIx (mW 2) (mW 5)) (aCons (mC (.int 0)) (aCons (mV 8) (aCons (mOp oIx (mLst (aCons (mC (.int 0)) (aCons (mOp oMul (mW 3) (mC (.int 20))) aNil))) (mCb oInt (aCons (mOp oEq (mW 5) (mOp oSub (mW 1) (mC (.int 1)))) aNil))) (aCons (mC (.int 0)) aNil)))))))))
  (mSeq (mSet 6 (mUn oLrg (mV 1)))
  (mSeq (mIfS (qV (mOp oEq (mOp oMod (mOp oIx (mW 0) (mC (.int 6))) (mC (.int 2))) (mC (.int 1)))) (mSet 6 (mUn oRevU (mW 6))) mNx)
  (mSeq (mSetO 7 (mLst aNil))
  (mSeq (mFor (iR (aCons (mOp oSub (mW 1) (mC (.int 1))) aNil)) (gN 5)
   (mApp 7 (mTup (aCons (mOp oIx (mW 2) (mOp oIx (mW 6) (mW 5))) (aCons (mOp oIx (mW 2) (mOp oIx (mW 6) (mOp oAdd (mW 5) (mC (.int 1))))) (aCons (mOp oAdd (mC (.int 1)) (mOp oMod (mOp oAdd (mOp oIx (mW 0) (mC (.int 7))) (mOp oMul (mC (.int 3)) (mW 5))) (mC (.int 20)))) aNil))))))
  (mRet (mTup (aCons (mV 3) (aCons (mCb oTuple (aCons (mW 4) aNil)) (aCons (mCb oTuple (aCons (mCb oSorted (aCons (mW 7) aNil)) aNil)) aNil)))))))))))))
noncomputable def M_L_chain : List PyData → Option PyData := fnM 2 9 m_L_chain

noncomputable def m_L_drawn : MS := (mSeq (mSet 2 (mCb M_L_numbers (aCons (mCb M_L_cell (aCons (mV 0) (aCons (mV 1) aNil))) (aCons (mC (.int 21)) aNil))))
  (mSeq (mIfS (qV (mOp oEq (mOp oMod (mOp oIx (mW 2) (mC (.int 12))) (mC (.int 8))) (mC (.int 1)))) (mRet (mCb M_L_web (aCons (mV 0) (aCons (mV 1) (aCons (mC (.int 8)) aNil))))) mNx)
  (mSeq (mIfS (qV (mOp oEq (mOp oMod (mOp oIx (mW 2) (mC (.int 12))) (mC (.int 8))) (mC (.int 2)))) (mRet (mCb M_L_chain (aCons (mSl (mW 2) (pSo (mC (.int 13))) pNo) (aCons (mOp oAdd (mC (.int 2)) (mOp oMod (mOp oIx (mW 2) (mC (.int 20))) (mC (.int 7)))) aNil)))) mNx)
  (mRet (mCb M_L_web (aCons (mV 0) (aCons (mV 1) (aCons (mC (.int 5)) aNil))))))))
noncomputable def M_L_drawn : List PyData → Option PyData := fnM 2 3 m_L_drawn

def h_L_only (a : Addr) : MS := (mSeq (mSet 2 (mLst (aCons (mE 0 a (.bool false)) (aCons (mE 0 a (.bool false)) (aCons (mE 0 a (.bool false)) (aCons (mE 0 a (.bool false)) aNil))))))
  (mSeq (mSet 2 (mOp oAdd (mW 2) (mLst (aCons (mE 0 a (.bool false)) (aCons (mE 0 a (.bool false)) (aCons (mE 0 a (.bool false)) (aCons (mE 0 a (.bool false)) aNil)))))))
  (mSeq (mSet 2 (mOp oAdd (mW 2) (mLst (aCons (mE 0 a (.bool false)) (aCons (mE 0 a (.bool true)) (aCons (mE 0 a (.bool false)) (aCons (mE 0 a (.bool false)) aNil)))))))
  (mSeq (mSet 2 (mOp oAdd (mW 2) (mLst (aCons (mE 0 a (.bool false)) (aCons (mE 0 a (.bool false)) (aCons (mE 0 a (.bool false)) aNil))))))
  (mRet (mAnd (mE 0 a (.bool true)) (mAnd (mE 0 a (.bool true)) (mOp oEq (mW 2) (mLc (iR (aCons (mC (.int 15)) aNil)) [3] (gN 3) qT (mOp oEq (mW 3) (mW 1)))))))))))

noncomputable def m_L_refused : MS := (mStored 3 2 "NoTop" (.bool true) (mDropX (mCbX M_beside (aCons (mV 0) (aCons (mV 1) aNil)))))
noncomputable def M_L_refused : List PyData → Option PyData := fnM 2 4 m_L_refused

noncomputable def m_law : MS := (mSeq (mPar 2 3 (aCons (mCb M_L_drawn (aCons (mV 0) (aCons (mC (.int 0)) aNil))) (aCons (mCb M_L_drawn (aCons (mV 0) (aCons (mC (.int 24)) aNil))) aNil)))
  (mSeq (mFor (iR2 (aCons (mC (.int 1)) (aCons (mC (.int 10)) aNil))) (gN 1)
   (mIfS (qV (mCb oAll (aCons (mLc (iS (mOp oIx (mW 3) (mC (.int 1)))) [6] (gN 6) qT (mOp oGe (mOp oIx (mW 6) (mC (.int 3))) (mOp oMul (mOp oIx (mW 6) (mC (.int 4))) (mW 1)))) aNil))) (mSeq (mSet 4 (mTup (aCons (mV 1) (aCons (mOp oIx (mW 3) (mC (.int 1))) (aCons (mOp oIx (mW 3) (mC (.int 2))) aNil)))))
  (mIfS (qV (mOp oNe (mW 1) (mOp oIx (mW 2) (mC (.int 0))))) (mIfS (qOr (qNot (qV (mCb M_L_refused (aCons (mV 2) (aCons (mV 4) aNil))))) (qNot (qV (mCb M_L_refused (aCons (mV 4) (aCons (mV 2) aNil)))))) (mRet (mC (.bool false))) mNx) (mSeq (mSet 5 (mCb (okF M_beside) (aCons (mV 2) (aCons (mV 4) aNil))))
  (mIfS (qOr (qV (mOp oEq (mW 5) (mLst aNil))) (qOr (qV (mOp oNe (mOp oIx (mOp oIx (mW 5) (mC (.int 0))) (mC (.int 0))) (mTup (aCons (mC (.int 0)) (aCons (mC (.int 1)) aNil))))) (qV (mOp oNe (mOp oIx (mOp oIx (mW 5) (mUn oNeg (mC (.int 1)))) (mC (.int 1))) (mTup (aCons (mV 1) (aCons (mC (.int 1)) aNil))))))) (mRet (mC (.bool false))) mNx)))) mNx))
  (mRet (mOp oEq (mCb (okF M_beside) (aCons (mV 2) (aCons (mV 2) aNil))) (mLst (aCons (mTup (aCons (mTup (aCons (mC (.int 0)) (aCons (mC (.int 1)) aNil))) (aCons (mTup (aCons (mOp oIx (mW 2) (mC (.int 0))) (aCons (mC (.int 1)) aNil))) (aCons (mC (.str "same")) aNil)))) aNil))))))
noncomputable def M_law : List PyData → Option PyData := fnM 1 7 m_law

end K49

namespace K49
open PySem PySem.Spec PyProof.Rows L2 LB
/-- what the top has left -/
structure Txt (K : PySem.W.Frag) (mg : Str → Option Value) : Prop where
  m_StairError : mg "StairError" = some (.ref (He.ga K "StairError"))
  m_NoText : mg "NoText" = some (.ref (He.ga K "NoText"))
  m_NoNumber : mg "NoNumber" = some (.ref (He.ga K "NoNumber"))
  m_NoCut : mg "NoCut" = some (.ref (He.ga K "NoCut"))
  m_NoPrice : mg "NoPrice" = some (.ref (He.ga K "NoPrice"))
  m_NoStream : mg "NoStream" = some (.ref (He.ga K "NoStream"))
  m_NoName : mg "NoName" = some (.ref (He.ga K "NoName"))
  m_NoFall : mg "NoFall" = some (.ref (He.ga K "NoFall"))
  m_NoShare : mg "NoShare" = some (.ref (He.ga K "NoShare"))
  m_NoPart : mg "NoPart" = some (.ref (He.ga K "NoPart"))
  m_NoTop : mg "NoTop" = some (.ref (He.ga K "NoTop"))
  m_NoPlace : mg "NoPlace" = some (.ref (He.ga K "NoPlace"))
  m_NoTie : mg "NoTie" = some (.ref (He.ga K "NoTie"))
  m_NoUndo : mg "NoUndo" = some (.ref (He.ga K "NoUndo"))
  m_NoWeb : mg "NoWeb" = some (.ref (He.ga K "NoWeb"))
  m_NoRow : mg "NoRow" = some (.ref (He.ga K "NoRow"))
  m_common_divisor : mg "common_divisor" = some (.ref (He.ga K "common_divisor"))
  m_fraction : mg "fraction" = some (.ref (He.ga K "fraction"))
  m_plus : mg "plus" = some (.ref (He.ga K "plus"))
  m_times : mg "times" = some (.ref (He.ga K "times"))
  m_half_way : mg "half_way" = some (.ref (He.ga K "half_way"))
  m_below : mg "below" = some (.ref (He.ga K "below"))
  m_on_line : mg "on_line" = some (.ref (He.ga K "on_line"))
  m_is_rising : mg "is_rising" = some (.ref (He.ga K "is_rising"))
  m_names_of : mg "names_of" = some (.ref (He.ga K "names_of"))
  m_is_choice : mg "is_choice" = some (.ref (He.ga K "is_choice"))
  m_is_cut : mg "is_cut" = some (.ref (He.ga K "is_cut"))
  m_line_of : mg "line_of" = some (.ref (He.ga K "line_of"))
  m_choices_of : mg "choices_of" = some (.ref (He.ga K "choices_of"))
  m_all_cuts : mg "all_cuts" = some (.ref (He.ga K "all_cuts"))
  m_cuts_by_line : mg "cuts_by_line" = some (.ref (He.ga K "cuts_by_line"))
  m_meeting : mg "meeting" = some (.ref (He.ga K "meeting"))
  m_is_met_first : mg "is_met_first" = some (.ref (He.ga K "is_met_first"))
  m_line_behind : mg "line_behind" = some (.ref (He.ga K "line_behind"))
  m_bit_of : mg "bit_of" = some (.ref (He.ga K "bit_of"))
  m_stair_of : mg "stair_of" = some (.ref (He.ga K "stair_of"))
  m_bits_beside : mg "bits_beside" = some (.ref (He.ga K "bits_beside"))
  m_line_on : mg "line_on" = some (.ref (He.ga K "line_on"))
  m_worth_on : mg "worth_on" = some (.ref (He.ga K "worth_on"))
  m_word_at : mg "word_at" = some (.ref (He.ga K "word_at"))
  m_end_behind : mg "end_behind" = some (.ref (He.ga K "end_behind"))
  m_joined : mg "joined" = some (.ref (He.ga K "joined"))
  m_beside : mg "beside" = some (.ref (He.ga K "beside"))
  m_L_cell : mg "_law_cell" = some (.ref (He.ga K "_law_cell"))
  m_L_numbers : mg "_law_numbers" = some (.ref (He.ga K "_law_numbers"))
  m_L_names : mg "_law_names" = some (.ref (He.ga K "_law_names"))
  m_L_place : mg "_law_place" = some (.ref (He.ga K "_law_place"))
  m_L_ties : mg "_law_ties" = some (.ref (He.ga K "_law_ties"))
  m_L_web : mg "_law_web" = some (.ref (He.ga K "_law_web"))
  m_L_chain : mg "_law_chain" = some (.ref (He.ga K "_law_chain"))
  m_L_drawn : mg "_law_drawn" = some (.ref (He.ga K "_law_drawn"))
  m_L_only : mg "_law_only" = some (.ref (He.ga K "_law_only"))
  m_L_refused : mg "_law_refused" = some (.ref (He.ga K "_law_refused"))
  m_law : mg "law" = some (.ref (He.ga K "law"))
  f_ValueError : mg "ValueError" = none
  f_abs : mg "abs" = none
  f_all : mg "all" = none
  f_int : mg "int" = none
  f_isinstance : mg "isinstance" = none
  f_len : mg "len" = none
  f_list : mg "list" = none
  f_max : mg "max" = none
  f_min : mg "min" = none
  f_range : mg "range" = none
  f_sorted : mg "sorted" = none
  f_str : mg "str" = none
  f_super : mg "super" = none
  f_tuple : mg "tuple" = none
  f_zip : mg "zip" = none
  k_StairError : PySem.W.keepIn K (.ref (He.ga K "StairError")) = true
  k_NoText : PySem.W.keepIn K (.ref (He.ga K "NoText")) = true
  k_NoNumber : PySem.W.keepIn K (.ref (He.ga K "NoNumber")) = true
  k_NoCut : PySem.W.keepIn K (.ref (He.ga K "NoCut")) = true
  k_NoPrice : PySem.W.keepIn K (.ref (He.ga K "NoPrice")) = true
  k_NoStream : PySem.W.keepIn K (.ref (He.ga K "NoStream")) = true
  k_NoName : PySem.W.keepIn K (.ref (He.ga K "NoName")) = true
  k_NoFall : PySem.W.keepIn K (.ref (He.ga K "NoFall")) = true
  k_NoShare : PySem.W.keepIn K (.ref (He.ga K "NoShare")) = true
  k_NoPart : PySem.W.keepIn K (.ref (He.ga K "NoPart")) = true
  k_NoTop : PySem.W.keepIn K (.ref (He.ga K "NoTop")) = true
  k_NoPlace : PySem.W.keepIn K (.ref (He.ga K "NoPlace")) = true
  k_NoTie : PySem.W.keepIn K (.ref (He.ga K "NoTie")) = true
  k_NoUndo : PySem.W.keepIn K (.ref (He.ga K "NoUndo")) = true
  k_NoWeb : PySem.W.keepIn K (.ref (He.ga K "NoWeb")) = true
  k_NoRow : PySem.W.keepIn K (.ref (He.ga K "NoRow")) = true
  x_NoTop : PySem.W.excIn K (He.ga K "NoTop") He.veBase "ValueError.__new__" = true
  b_NoTop : PySem.W.subIn K (.ref (He.ga K "NoTop")) (.type "BaseException") = some true
  t_NoTop : PySem.W.typeIn K (.ref (He.ga K "NoTop")) = some (.type "type")
  e_NoTop : PySem.W.exmOne K (.ref (He.ga K "NoTop")) (.ref (He.ga K "StairError")) = some true
  D_common_divisor : Df K mg "common_divisor" s_common_divisor
  D_fraction : Df K mg "fraction" s_fraction
  D_plus : Df K mg "plus" s_plus
  D_times : Df K mg "times" s_times
  D_half_way : Df K mg "half_way" s_half_way
  D_below : Df K mg "below" s_below
  D_on_line : Df K mg "on_line" s_on_line
  D_is_rising : Df K mg "is_rising" s_is_rising
  D_names_of : Df K mg "names_of" s_names_of
  D_is_choice : Df K mg "is_choice" s_is_choice
  D_is_cut : Df K mg "is_cut" s_is_cut
  D_line_of : Df K mg "line_of" s_line_of
  D_choices_of : Df K mg "choices_of" s_choices_of
  D_all_cuts : Df K mg "all_cuts" s_all_cuts
  D_cuts_by_line : Df K mg "cuts_by_line" s_cuts_by_line
  D_meeting : Df K mg "meeting" s_meeting
  D_is_met_first : Df K mg "is_met_first" s_is_met_first
  D_line_behind : Df K mg "line_behind" s_line_behind
  D_bit_of : Df K mg "bit_of" s_bit_of
  D_stair_of : Df K mg "stair_of" s_stair_of
  D_bits_beside : Df K mg "bits_beside" s_bits_beside
  D_line_on : Df K mg "line_on" s_line_on
  D_worth_on : Df K mg "worth_on" s_worth_on
  D_word_at : Df K mg "word_at" s_word_at
  D_end_behind : Df K mg "end_behind" s_end_behind
  D_joined : Df K mg "joined" s_joined
  D_beside : Df K mg "beside" s_beside
  D_L_cell : Df K mg "_law_cell" s_L_cell
  D_L_numbers : Df K mg "_law_numbers" s_L_numbers
  D_L_names : Df K mg "_law_names" s_L_names
  D_L_place : Df K mg "_law_place" s_L_place
  D_L_ties : Df K mg "_law_ties" s_L_ties
  D_L_web : Df K mg "_law_web" s_L_web
  D_L_chain : Df K mg "_law_chain" s_L_chain
  D_L_drawn : Df K mg "_law_drawn" s_L_drawn
  D_L_only : Df K mg "_law_only" s_L_only
  D_L_refused : Df K mg "_law_refused" s_L_refused
  D_law : Df K mg "law" s_law
end K49

namespace K49
open PySem PySem.Spec PyProof.Rows L2 LB PM
abbrev gens : List Str := ["is_rising", "names_of", "is_choice"]
abbrev tabs (K : PySem.W.Frag) : Tb := tabsOf K gens
def ex (K : PySem.W.Frag) : Bool := decide ((gens.map fun x => (He.cT K (x, none)).2).Nodup) && (excCB K (He.ga K "NoTop") && (decide (PySem.W.kitOne K (.ref (He.ga K "NoTop")) (.ref (He.ga K "NoPrice")) = some false) && (decide (PySem.W.kitOne K (.ref (He.ga K "NoTop")) (.ref (He.ga K "NoCut")) = some false) && (decide (PySem.W.kitOne K (.ref (He.ga K "NoTop")) (.ref (He.ga K "NoNumber")) = some false) && (decide (PySem.W.kitOne K (.ref (He.ga K "NoTop")) (.ref (He.ga K "NoText")) = some false) && (decide (PySem.W.kitOne K (.ref (He.ga K "NoTop")) (.ref (He.ga K "NoShare")) = some false) && (decide (PySem.W.kitOne K (.ref (He.ga K "NoTop")) (.ref (He.ga K "NoFall")) = some false) && (decide (PySem.W.kitOne K (.ref (He.ga K "NoTop")) (.ref (He.ga K "NoName")) = some false) && (decide (PySem.W.kitOne K (.ref (He.ga K "NoTop")) (.ref (He.ga K "NoStream")) = some false) && (decide (PySem.W.kitOne K (.ref (He.ga K "NoTop")) (.ref (He.ga K "NoTie")) = some false) && (decide (PySem.W.kitOne K (.ref (He.ga K "NoTop")) (.ref (He.ga K "NoPlace")) = some false) && (decide (PySem.W.kitOne K (.ref (He.ga K "NoTop")) (.ref (He.ga K "NoTop")) = some true) && (decide (PySem.W.kitOne K (.ref (He.ga K "NoTop")) (.ref (He.ga K "NoPart")) = some false) && (decide (PySem.W.kitOne K (.ref (He.ga K "NoTop")) (.ref (He.ga K "NoRow")) = some false) && (decide (PySem.W.kitOne K (.ref (He.ga K "NoTop")) (.ref (He.ga K "NoWeb")) = some false) && (decide (PySem.W.kitOne K (.ref (He.ga K "NoTop")) (.ref (He.ga K "NoUndo")) = some false) && (decide (PySem.W.kitOne K (.ref (He.ga K "NoTop")) (.type "ValueError") = some true) && (decide (PySem.W.kitOne K (.ref (He.ga K "NoTop")) (.ref (He.ga K "StairError")) = some true)))))))))))))))))))
structure Ext (K : PySem.W.Frag) : Prop where
  nd : (gens.map fun x => (He.cT K (x, none)).2).Nodup
  ec_NoTop : ExcC K (He.ga K "NoTop")
  q_NoTop_NoPrice : PySem.W.kitOne K (.ref (He.ga K "NoTop")) (.ref (He.ga K "NoPrice")) = some false
  q_NoTop_NoCut : PySem.W.kitOne K (.ref (He.ga K "NoTop")) (.ref (He.ga K "NoCut")) = some false
  q_NoTop_NoNumber : PySem.W.kitOne K (.ref (He.ga K "NoTop")) (.ref (He.ga K "NoNumber")) = some false
  q_NoTop_NoText : PySem.W.kitOne K (.ref (He.ga K "NoTop")) (.ref (He.ga K "NoText")) = some false
  q_NoTop_NoShare : PySem.W.kitOne K (.ref (He.ga K "NoTop")) (.ref (He.ga K "NoShare")) = some false
  q_NoTop_NoFall : PySem.W.kitOne K (.ref (He.ga K "NoTop")) (.ref (He.ga K "NoFall")) = some false
  q_NoTop_NoName : PySem.W.kitOne K (.ref (He.ga K "NoTop")) (.ref (He.ga K "NoName")) = some false
  q_NoTop_NoStream : PySem.W.kitOne K (.ref (He.ga K "NoTop")) (.ref (He.ga K "NoStream")) = some false
  q_NoTop_NoTie : PySem.W.kitOne K (.ref (He.ga K "NoTop")) (.ref (He.ga K "NoTie")) = some false
  q_NoTop_NoPlace : PySem.W.kitOne K (.ref (He.ga K "NoTop")) (.ref (He.ga K "NoPlace")) = some false
  q_NoTop_NoTop : PySem.W.kitOne K (.ref (He.ga K "NoTop")) (.ref (He.ga K "NoTop")) = some true
  q_NoTop_NoPart : PySem.W.kitOne K (.ref (He.ga K "NoTop")) (.ref (He.ga K "NoPart")) = some false
  q_NoTop_NoRow : PySem.W.kitOne K (.ref (He.ga K "NoTop")) (.ref (He.ga K "NoRow")) = some false
  q_NoTop_NoWeb : PySem.W.kitOne K (.ref (He.ga K "NoTop")) (.ref (He.ga K "NoWeb")) = some false
  q_NoTop_NoUndo : PySem.W.kitOne K (.ref (He.ga K "NoTop")) (.ref (He.ga K "NoUndo")) = some false
  q_NoTop_ValueError : PySem.W.kitOne K (.ref (He.ga K "NoTop")) (.type "ValueError") = some true
  q_NoTop_StairError : PySem.W.kitOne K (.ref (He.ga K "NoTop")) (.ref (He.ga K "StairError")) = some true
theorem ext_of {K : PySem.W.Frag} (h : ex K = true) : Ext K := by
  obtain ⟨h0, h⟩ := He.ba h
  obtain ⟨h1, h⟩ := He.ba h
  obtain ⟨h2, h⟩ := He.ba h
  obtain ⟨h3, h⟩ := He.ba h
  obtain ⟨h4, h⟩ := He.ba h
  obtain ⟨h5, h⟩ := He.ba h
  obtain ⟨h6, h⟩ := He.ba h
  obtain ⟨h7, h⟩ := He.ba h
  obtain ⟨h8, h⟩ := He.ba h
  obtain ⟨h9, h⟩ := He.ba h
  obtain ⟨h10, h⟩ := He.ba h
  obtain ⟨h11, h⟩ := He.ba h
  obtain ⟨h12, h⟩ := He.ba h
  obtain ⟨h13, h⟩ := He.ba h
  obtain ⟨h14, h⟩ := He.ba h
  obtain ⟨h15, h⟩ := He.ba h
  obtain ⟨h16, h⟩ := He.ba h
  obtain ⟨h17, h⟩ := He.ba h
  exact ⟨of_decide_eq_true h0, excCB_ok h1, of_decide_eq_true h2, of_decide_eq_true h3, of_decide_eq_true h4, of_decide_eq_true h5, of_decide_eq_true h6, of_decide_eq_true h7, of_decide_eq_true h8, of_decide_eq_true h9, of_decide_eq_true h10, of_decide_eq_true h11, of_decide_eq_true h12, of_decide_eq_true h13, of_decide_eq_true h14, of_decide_eq_true h15, of_decide_eq_true h16, of_decide_eq_true h17, of_decide_eq_true h⟩
end K49

namespace K49
open PySem PySem.Spec PyProof.Rows L2 LB PM
section
variable {P : Program} {w : World} {K : PySem.W.Frag} {mg : Str → Option Value} {base : Heap}
abbrev N_common_divisor : List Str := ["one", "other"]
theorem sc_common_divisor : FnScope N_common_divisor ["one", "other"] (defScope s_common_divisor) := ⟨rfl, rfl, rfl, by decide +kernel, rfl, by decide +kernel, by decide +kernel⟩
theorem ok_common_divisor (T : Txt K mg) : OwnFn P w K mg base 1 "common_divisor" ["one", "other"] (spM K (tabs K) M_common_divisor) := by
  exact own_ok (k := 0) T.D_common_divisor sc_common_divisor (fun _ _ _ _ _ _ us hl => match us, hl with | [_, _], _ => rfl) (fun vs H Q E h => spM_len h) (fun cdv A outer s H vs Q E hr h => ⟨_, PSs.nox (show PSs _ _ (tS K (tabs K) m_common_divisor) from (PM.s_seq (pss_cons (PM.s_while (ps_while PassesOwn.never (c_opT od_ne (pt_cmpR (op_neK (room_u64 hr)) (c_vw (pv 1)) (c_w (c_c pe_int fun _ => .int _)) (nomark _)))
   (pss_one (PM.s_par (ps_par (i := 0) (j := 1) rfl sc_common_divisor.nd rfl rfl (by decide) rfl rfl (a_cons (pa_cons (c_v (pv 1)) (a_cons (pa_cons (c_op od_mod (pe_op op_modN (c_vw (pv 0)) (c_vw (pv 1)))) (a_nil pa_nil))))) (by rfl))))))
  (pss_one (PM.s_ret (ps_ret (c_cb cb_abs (pe_callB call_abs (by rfl) T.f_abs (by decide +kernel) (a_consw (pa_cons (c_vw (pv 0)) (a_nilw pa_nil))))))))))), spM_in (N := N_common_divisor) h⟩)

abbrev N_fraction : List Str := ["top", "bottom", "divisor"]
theorem sc_fraction : FnScope N_fraction ["top", "bottom"] (defScope s_fraction) := ⟨rfl, rfl, rfl, by decide +kernel, rfl, by decide +kernel, by decide +kernel⟩
theorem ok_fraction (T : Txt K mg) (F_common_divisor : OwnFn P w K mg base 1 "common_divisor" ["one", "other"] (spM K (tabs K) M_common_divisor)) : OwnFn P w K mg base 3 "fraction" ["top", "bottom"] (spM K (tabs K) M_fraction) := by
  exact own_ok (k := 2) T.D_fraction sc_fraction (fun _ _ _ _ _ _ us hl => match us, hl with | [_, _], _ => rfl) (fun vs H Q E h => spM_len h) (fun cdv A outer s H vs Q E hr h => ⟨_, PSs.nox (show PSs _ _ (tS K (tabs K) m_fraction) from (PM.s_seq (pss_cons (PM.s_if (ps_if (c_opT od_eq (pt_cmpR (op_eqK (room_u64 hr)) (c_vw (pv 1)) (c_w (c_c pe_int fun _ => .int _)) (nomark _))) (pss_one s_no) (PM.s_nil pss_nil)))
  (PM.s_seq (pss_cons (PM.s_set (ps_set (i := 2) sc_fraction.nd rfl (by first | exact Or.inl rfl | exact Or.inr rfl) (c_call (pe_own F_common_divisor hr passL (a_cons (pa_cons (c_v (pv 0)) (a_cons (pa_cons (c_v (pv 1)) (a_nil pa_nil)))))))))
  (PM.s_seq (pss_cons (PM.s_if (ps_if (c_opT od_lt (pt_cmpR op_uLt (c_vw (pv 1)) (c_w (c_c pe_int fun _ => .int _)) (nomark _))) (pss_one (PM.s_set (ps_set (i := 2) sc_fraction.nd rfl (by first | exact Or.inl rfl | exact Or.inr rfl) (c_neg (pe_un un_neg (c_v (pv 2))))))) (PM.s_nil pss_nil)))
  (pss_one (PM.s_ret (ps_ret (c_tup (pe_tup (a_cons (pa_cons (c_op od_fdv (pe_op op_fdivG (c_vw (pv 0)) (c_vw (pv 2)))) (a_cons (pa_cons (c_op od_fdv (pe_op op_fdivG (c_vw (pv 1)) (c_vw (pv 2)))) (a_nil pa_nil))))))))))))))))), spM_in (N := N_fraction) h⟩)

abbrev N_plus : List Str := ["a", "b"]
theorem sc_plus : FnScope N_plus ["a", "b"] (defScope s_plus) := ⟨rfl, rfl, rfl, by decide +kernel, rfl, by decide +kernel, by decide +kernel⟩
theorem ok_plus (T : Txt K mg) (F_fraction : OwnFn P w K mg base 3 "fraction" ["top", "bottom"] (spM K (tabs K) M_fraction)) : OwnFn P w K mg base 4 "plus" ["a", "b"] (spM K (tabs K) M_plus) := by
  exact own_ok (k := 3) T.D_plus sc_plus (fun _ _ _ _ _ _ us hl => match us, hl with | [_, _], _ => rfl) (fun vs H Q E h => spM_len h) (fun cdv A outer s H vs Q E hr h => ⟨_, PSs.nox (show PSs _ _ (tS K (tabs K) m_plus) from (pss_one (PM.s_ret (ps_ret (c_call (pe_own F_fraction hr passL (a_cons (pa_cons (c_op od_add (pe_op op_uAdd (c_w (c_op od_mul (pe_op op_uMul (c_w (c_op od_ix (pe_ix ix_u (c_vw (pv 0)) (c_w (c_c pe_int fun _ => .int _)) (fun _ _ => rfl)))) (c_w (c_op od_ix (pe_ix ix_u (c_vw (pv 1)) (c_w (c_c pe_int fun _ => .int _)) (fun _ _ => rfl))))))) (c_w (c_op od_mul (pe_op op_uMul (c_w (c_op od_ix (pe_ix ix_u (c_vw (pv 1)) (c_w (c_c pe_int fun _ => .int _)) (fun _ _ => rfl)))) (c_w (c_op od_ix (pe_ix ix_u (c_vw (pv 0)) (c_w (c_c pe_int fun _ => .int _)) (fun _ _ => rfl))))))))) (a_cons (pa_cons (c_op od_mul (pe_op op_uMul (c_w (c_op od_ix (pe_ix ix_u (c_vw (pv 0)) (c_w (c_c pe_int fun _ => .int _)) (fun _ _ => rfl)))) (c_w (c_op od_ix (pe_ix ix_u (c_vw (pv 1)) (c_w (c_c pe_int fun _ => .int _)) (fun _ _ => rfl)))))) (a_nil pa_nil))))))))))), spM_in (N := N_plus) h⟩)

abbrev N_times : List Str := ["a", "b"]
theorem sc_times : FnScope N_times ["a", "b"] (defScope s_times) := ⟨rfl, rfl, rfl, by decide +kernel, rfl, by decide +kernel, by decide +kernel⟩
theorem ok_times (T : Txt K mg) (F_fraction : OwnFn P w K mg base 3 "fraction" ["top", "bottom"] (spM K (tabs K) M_fraction)) : OwnFn P w K mg base 4 "times" ["a", "b"] (spM K (tabs K) M_times) := by
  exact own_ok (k := 3) T.D_times sc_times (fun _ _ _ _ _ _ us hl => match us, hl with | [_, _], _ => rfl) (fun vs H Q E h => spM_len h) (fun cdv A outer s H vs Q E hr h => ⟨_, PSs.nox (show PSs _ _ (tS K (tabs K) m_times) from (pss_one (PM.s_ret (ps_ret (c_call (pe_own F_fraction hr passL (a_cons (pa_cons (c_op od_mul (pe_op op_uMul (c_w (c_op od_ix (pe_ix ix_u (c_vw (pv 0)) (c_w (c_c pe_int fun _ => .int _)) (fun _ _ => rfl)))) (c_w (c_op od_ix (pe_ix ix_u (c_vw (pv 1)) (c_w (c_c pe_int fun _ => .int _)) (fun _ _ => rfl)))))) (a_cons (pa_cons (c_op od_mul (pe_op op_uMul (c_w (c_op od_ix (pe_ix ix_u (c_vw (pv 0)) (c_w (c_c pe_int fun _ => .int _)) (fun _ _ => rfl)))) (c_w (c_op od_ix (pe_ix ix_u (c_vw (pv 1)) (c_w (c_c pe_int fun _ => .int _)) (fun _ _ => rfl)))))) (a_nil pa_nil))))))))))), spM_in (N := N_times) h⟩)

abbrev N_half_way : List Str := ["a", "b"]
theorem sc_half_way : FnScope N_half_way ["a", "b"] (defScope s_half_way) := ⟨rfl, rfl, rfl, by decide +kernel, rfl, by decide +kernel, by decide +kernel⟩
theorem ok_half_way (T : Txt K mg) (F_fraction : OwnFn P w K mg base 3 "fraction" ["top", "bottom"] (spM K (tabs K) M_fraction)) (F_plus : OwnFn P w K mg base 4 "plus" ["a", "b"] (spM K (tabs K) M_plus)) (F_times : OwnFn P w K mg base 4 "times" ["a", "b"] (spM K (tabs K) M_times)) : OwnFn P w K mg base 5 "half_way" ["a", "b"] (spM K (tabs K) M_half_way) := by
  exact own_ok (k := 4) T.D_half_way sc_half_way (fun _ _ _ _ _ _ us hl => match us, hl with | [_, _], _ => rfl) (fun vs H Q E h => spM_len h) (fun cdv A outer s H vs Q E hr h => ⟨_, PSs.nox (show PSs _ _ (tS K (tabs K) m_half_way) from (pss_one (PM.s_ret (ps_ret (c_call (pe_own F_times hr passL (a_cons (pa_cons (c_call (pe_own F_plus hr passL (a_cons (pa_cons (c_v (pv 0)) (a_cons (pa_cons (c_v (pv 1)) (a_nil pa_nil))))))) (a_cons (pa_cons (c_call (pe_own F_fraction hr passL (a_cons (pa_cons (c_c pe_int fun _ => .int _) (a_cons (pa_cons (c_c pe_int fun _ => .int _) (a_nil pa_nil))))))) (a_nil pa_nil))))))))))), spM_in (N := N_half_way) h⟩)

abbrev N_below : List Str := ["a", "b"]
theorem sc_below : FnScope N_below ["a", "b"] (defScope s_below) := ⟨rfl, rfl, rfl, by decide +kernel, rfl, by decide +kernel, by decide +kernel⟩
theorem ok_below (T : Txt K mg) : OwnFn P w K mg base 1 "below" ["a", "b"] (spM K (tabs K) M_below) := by
  exact own_ok (k := 0) T.D_below sc_below (fun _ _ _ _ _ _ us hl => match us, hl with | [_, _], _ => rfl) (fun vs H Q E h => spM_len h) (fun cdv A outer s H vs Q E hr h => ⟨_, PSs.nox (show PSs _ _ (tS K (tabs K) m_below) from (pss_one (PM.s_ret (ps_ret (c_op od_lt (pe_cmpR op_uLt (c_w (c_op od_mul (pe_op op_uMul (c_w (c_op od_ix (pe_ix ix_u (c_vw (pv 0)) (c_w (c_c pe_int fun _ => .int _)) (fun _ _ => rfl)))) (c_w (c_op od_ix (pe_ix ix_u (c_vw (pv 1)) (c_w (c_c pe_int fun _ => .int _)) (fun _ _ => rfl))))))) (c_w (c_op od_mul (pe_op op_uMul (c_w (c_op od_ix (pe_ix ix_u (c_vw (pv 1)) (c_w (c_c pe_int fun _ => .int _)) (fun _ _ => rfl)))) (c_w (c_op od_ix (pe_ix ix_u (c_vw (pv 0)) (c_w (c_c pe_int fun _ => .int _)) (fun _ _ => rfl))))))) (nomark _))))))), spM_in (N := N_below) h⟩)

abbrev N_on_line : List Str := ["base", "lean", "at"]
theorem sc_on_line : FnScope N_on_line ["base", "lean", "at"] (defScope s_on_line) := ⟨rfl, rfl, rfl, by decide +kernel, rfl, by decide +kernel, by decide +kernel⟩
theorem ok_on_line (T : Txt K mg) (F_fraction : OwnFn P w K mg base 3 "fraction" ["top", "bottom"] (spM K (tabs K) M_fraction)) : OwnFn P w K mg base 4 "on_line" ["base", "lean", "at"] (spM K (tabs K) M_on_line) := by
  exact own_ok (k := 3) T.D_on_line sc_on_line (fun _ _ _ _ _ _ us hl => match us, hl with | [_, _, _], _ => rfl) (fun vs H Q E h => spM_len h) (fun cdv A outer s H vs Q E hr h => ⟨_, PSs.nox (show PSs _ _ (tS K (tabs K) m_on_line) from (pss_one (PM.s_ret (ps_ret (c_call (pe_own F_fraction hr passL (a_cons (pa_cons (c_op od_add (pe_op op_uAdd (c_w (c_op od_mul (pe_op op_uMul (c_vw (pv 0)) (c_w (c_op od_ix (pe_ix ix_u (c_vw (pv 2)) (c_w (c_c pe_int fun _ => .int _)) (fun _ _ => rfl))))))) (c_w (c_op od_mul (pe_op op_uMul (c_vw (pv 1)) (c_w (c_op od_ix (pe_ix ix_u (c_vw (pv 2)) (c_w (c_c pe_int fun _ => .int _)) (fun _ _ => rfl))))))))) (a_cons (pa_cons (c_op od_ix (pe_ix ix_u (c_vw (pv 2)) (c_w (c_c pe_int fun _ => .int _)) (fun _ _ => rfl))) (a_nil pa_nil))))))))))), spM_in (N := N_on_line) h⟩)

abbrev N_is_rising : List Str := ["row", "ahead", "behind"]
theorem sc_is_rising : FnScope N_is_rising ["row"] (defScope s_is_rising) := ⟨rfl, rfl, rfl, by decide +kernel, rfl, by decide +kernel, by decide +kernel⟩
theorem ok_is_rising (T : Txt K mg) (Y : Ext K) (TB : LamX.TabB base mg (He.cT K ("is_rising", none)).1 (He.cT K ("is_rising", none)).2) : OwnFn P w K mg base 3 "is_rising" ["row"] (spM K (tabs K) M_is_rising) := by
  have hmT : ((He.cT K ("is_rising", none)).2, qOf "is_rising") ∈ tabs K := tab_mem (by decide +kernel)
  have hu : ∀ p ∈ tabs K, p.1 = (He.cT K ("is_rising", none)).2 → p.2 = qOf "is_rising" := tab_uniq Y.nd (by decide +kernel)
  exact own_okC (k := 2) T.D_is_rising sc_is_rising (fun _ _ _ _ _ _ us hl => match us, hl with | [_], _ => rfl) (fun vs H Q E h => spM_len h) (fun cdv A outer s H vs Q E hcd hr h => ⟨_, PSs.nox (show PSs _ _ (tS K (tabs K) m_is_rising) from (pss_one (PM.s_ret (ps_ret (c_ag (by refine GX.pe_allG (k := 0) (T := tabs K) (own := [("ahead", 1), ("behind", 2)]) (hr.mono (by decide)) (by rfl) T.f_all TB hcd hmT hu (GX.gx_by (own := [("ahead", 1), ("behind", 2)]) (N := N_is_rising) (sc := defScope s_is_rising) (by decide +kernel)) sc_is_rising.nd ?_ (fun _ => rfl) ?_ ?_ ?_; exact (c_ih (c_izip (pi_zipK (by rfl) T.f_zip (a_cons (pa_cons (c_v (pv 0)) (a_cons (pa_cons (c_sl (pe_slice sl_u (c_vw (pv 0)) (c_pso (po_some (c_c pe_int fun _ => .int _))) (c_pno po_none))) (a_nil pa_nil)))))))); exact (fun _ _ _ _ _ _ _ _ => (c_gt [1, 2] (pg_tupK rfl (pgs_cons (pg_name (i := 1) sc_is_rising.nd rfl (by first | exact Or.inl rfl | exact Or.inr rfl)) (pgs_cons (pg_name (i := 2) sc_is_rising.nd rfl (by first | exact Or.inl rfl | exact Or.inr rfl)) pgs_nil))))); exact (fun _ _ _ _ _ _ _ _ hr => (q_nil pts_nil)); exact (fun _ _ _ _ _ _ _ _ hr => (c_op od_lt (pe_cmpR op_uLt (c_vw (pv 1)) (c_vw (pv 2)) (nomark _)))))))))), spM_in (N := N_is_rising) h⟩)

abbrev N_names_of : List Str := ["web", "place"]
theorem sc_names_of : FnScope N_names_of ["web"] (defScope s_names_of) := ⟨rfl, rfl, rfl, by decide +kernel, rfl, by decide +kernel, by decide +kernel⟩
theorem ok_names_of (T : Txt K mg) (Y : Ext K) (TB : LamX.TabB base mg (He.cT K ("names_of", none)).1 (He.cT K ("names_of", none)).2) : OwnFn P w K mg base 6 "names_of" ["web"] (spM K (tabs K) M_names_of) := by
  have hmT : ((He.cT K ("names_of", none)).2, qOf "names_of") ∈ tabs K := tab_mem (by decide +kernel)
  have hu : ∀ p ∈ tabs K, p.1 = (He.cT K ("names_of", none)).2 → p.2 = qOf "names_of" := tab_uniq Y.nd (by decide +kernel)
  exact own_okC (k := 5) T.D_names_of sc_names_of (fun _ _ _ _ _ _ us hl => match us, hl with | [_], _ => rfl) (fun vs H Q E h => spM_len h) (fun cdv A outer s H vs Q E hcd hr h => ⟨_, PSs.nox (show PSs _ _ (tS K (tabs K) m_names_of) from (pss_one (PM.s_ret (ps_ret (c_tg (by refine GX.pe_tupG (k := 1) ?_ (hr.mono (by decide)) (by rfl) T.f_tuple; refine GX.pgen_gx (k := 0) (T := tabs K) (own := [("place", 1)]) (hr.mono (by decide)) TB hcd hmT hu (GX.gx_by (own := [("place", 1)]) (N := N_names_of) (sc := defScope s_names_of) (by decide +kernel)) sc_names_of.nd ?_ (fun _ => rfl) ?_ ?_ ?_; exact (c_iseqw (pi_seq (c_w (c_op od_ix (pe_ix ix_u (c_vw (pv 0)) (c_w (c_c pe_int fun _ => .int _)) (fun _ _ => rfl)))))); exact (fun _ _ _ _ _ _ _ _ => (c_gn (pg_name (i := 1) sc_names_of.nd rfl (by first | exact Or.inl rfl | exact Or.inr rfl)))); exact (fun _ _ _ _ _ _ _ _ hr => (q_nil pts_nil)); exact (fun _ _ _ _ _ _ _ _ hr => (c_op od_ix (pe_ix ix_u (c_vw (pv 1)) (c_w (c_c pe_int fun _ => .int _)) (fun _ _ => rfl)))))))))), spM_in (N := N_names_of) h⟩)

abbrev N_is_choice : List Str := ["names", "thing", "name"]
theorem sc_is_choice : FnScope N_is_choice ["names", "thing"] (defScope s_is_choice) := ⟨rfl, rfl, rfl, by decide +kernel, rfl, by decide +kernel, by decide +kernel⟩
theorem ok_is_choice (T : Txt K mg) (Y : Ext K) (TB : LamX.TabB base mg (He.cT K ("is_choice", none)).1 (He.cT K ("is_choice", none)).2) (F_is_rising : OwnFn P w K mg base 3 "is_rising" ["row"] (spM K (tabs K) M_is_rising)) : OwnFn P w K mg base 4 "is_choice" ["names", "thing"] (spM K (tabs K) M_is_choice) := by
  have hmT : ((He.cT K ("is_choice", none)).2, qOf "is_choice") ∈ tabs K := tab_mem (by decide +kernel)
  have hu : ∀ p ∈ tabs K, p.1 = (He.cT K ("is_choice", none)).2 → p.2 = qOf "is_choice" := tab_uniq Y.nd (by decide +kernel)
  exact own_okC (k := 3) T.D_is_choice sc_is_choice (fun _ _ _ _ _ _ us hl => match us, hl with | [_, _], _ => rfl) (fun vs H Q E h => spM_len h) (fun cdv A outer s H vs Q E hcd hr h => ⟨_, PSs.nox (show PSs _ _ (tS K (tabs K) m_is_choice) from (PM.s_seq (pss_cons (PM.s_if (ps_if (c_not (pt_not (c_tv (pt_val (c_is (pe_callB (call_isK K) (by rfl) T.f_isinstance (by decide +kernel) (pa_cons (c_vw (pv 1)) (pa_cons (pe_bltn (v := .ty "tuple") rfl T.f_tuple (by decide +kernel) rfl) pa_nil)))))))) (pss_one (PM.s_ret (ps_ret (c_c pe_bl fun _ => .bl _)))) (PM.s_nil pss_nil)))
  (pss_one (PM.s_ret (ps_ret (c_andV (pe_and (c_ag (by refine GX.pe_allG (k := 0) (T := tabs K) (own := [("name", 2)]) (hr.mono (by decide)) (by rfl) T.f_all TB hcd hmT hu (GX.gx_by (own := [("name", 2)]) (N := N_is_choice) (sc := defScope s_is_choice) (by decide +kernel)) sc_is_choice.nd ?_ (fun _ => rfl) ?_ ?_ ?_; exact (c_iseqw (pi_seq (c_vw (pv 1)))); exact (fun _ _ _ _ _ _ _ _ => (c_gn (pg_name (i := 2) sc_is_choice.nd rfl (by first | exact Or.inl rfl | exact Or.inr rfl)))); exact (fun _ _ _ _ _ _ _ _ hr => (q_nil pts_nil)); exact (fun _ _ _ _ _ _ _ _ hr => (c_andV (pe_and (c_is (pe_callB (call_isK K) (by rfl) T.f_isinstance (by decide +kernel) (pa_cons (c_vw (pv 2)) (pa_cons (pe_bltn (v := .ty "str") rfl T.f_str (by decide +kernel) rfl) pa_nil)))) (pe_one (c_op od_in (pe_cmpR (op_inK K) (c_vw (pv 2)) (c_vw (pv 0)) (by rfl))))))))) (pe_one (c_call (pe_own F_is_rising hr passL (a_cons (pa_cons (c_v (pv 1)) (a_nil pa_nil)))))))))))))), spM_in (N := N_is_choice) h⟩)

abbrev N_is_cut : List Str := ["web", "thing"]
theorem sc_is_cut : FnScope N_is_cut ["web", "thing"] (defScope s_is_cut) := ⟨rfl, rfl, rfl, by decide +kernel, rfl, by decide +kernel, by decide +kernel⟩
theorem ok_is_cut (T : Txt K mg) (F_names_of : OwnFn P w K mg base 6 "names_of" ["web"] (spM K (tabs K) M_names_of)) (F_is_choice : OwnFn P w K mg base 4 "is_choice" ["names", "thing"] (spM K (tabs K) M_is_choice)) : OwnFn P w K mg base 7 "is_cut" ["web", "thing"] (spM K (tabs K) M_is_cut) := by
  exact own_ok (k := 6) T.D_is_cut sc_is_cut (fun _ _ _ _ _ _ us hl => match us, hl with | [_, _], _ => rfl) (fun vs H Q E h => spM_len h) (fun cdv A outer s H vs Q E hr h => ⟨_, PSs.nox (show PSs _ _ (tS K (tabs K) m_is_cut) from (pss_one (PM.s_ret (ps_ret (c_call (pe_own F_is_choice hr passL (a_cons (pa_cons (c_call (pe_own F_names_of hr passL (a_cons (pa_cons (c_v (pv 0)) (a_nil pa_nil))))) (a_cons (pa_cons (c_v (pv 1)) (a_nil pa_nil))))))))))), spM_in (N := N_is_cut) h⟩)

abbrev N_line_of : List Str := ["web", "cut", "base", "lean", "name", "a", "b", "c", "d", "one", "other", "size"]
theorem sc_line_of : FnScope N_line_of ["web", "cut"] (defScope s_line_of) := ⟨rfl, rfl, rfl, by decide +kernel, rfl, by decide +kernel, by decide +kernel⟩
theorem ok_line_of (T : Txt K mg) (F_is_cut : OwnFn P w K mg base 7 "is_cut" ["web", "thing"] (spM K (tabs K) M_is_cut)) : OwnFn P w K mg base 8 "line_of" ["web", "cut"] (spM K (tabs K) M_line_of) := by
  exact own_ok (k := 7) T.D_line_of sc_line_of (fun _ _ _ _ _ _ us hl => match us, hl with | [_, _], _ => rfl) (fun vs H Q E h => spM_len h) (fun cdv A outer s H vs Q E hr h => ⟨_, PSs.nox (show PSs _ _ (tS K (tabs K) m_line_of) from (PM.s_seq (pss_cons (PM.s_if (ps_if (c_not (pt_not (c_tv (pt_val (c_call (pe_own F_is_cut hr passL (a_cons (pa_cons (c_v (pv 0)) (a_cons (pa_cons (c_v (pv 1)) (a_nil pa_nil))))))))))) (pss_one s_no) (PM.s_nil pss_nil)))
  (PM.s_seq (pss_cons (PM.s_set (ps_set (i := 2) sc_line_of.nd rfl (by first | exact Or.inl rfl | exact Or.inr rfl) (c_c pe_int fun _ => .int _)))
  (PM.s_seq (pss_cons (PM.s_set (ps_set (i := 3) sc_line_of.nd rfl (by first | exact Or.inl rfl | exact Or.inr rfl) (c_c pe_int fun _ => .int _)))
  (PM.s_seq (pss_cons (PM.s_for (ps_for PassesOwn.never rfl (c_iseq (pi_seq (c_op od_ix (pe_ix ix_u (c_vw (pv 0)) (c_w (c_c pe_int fun _ => .int _)) (fun _ _ => rfl))))) (c_gt [4, 5, 6, 7, 8] (pg_tupK rfl (pgs_cons (pg_name (i := 4) sc_line_of.nd rfl (by first | exact Or.inl rfl | exact Or.inr rfl)) (pgs_cons (pg_name (i := 5) sc_line_of.nd rfl (by first | exact Or.inl rfl | exact Or.inr rfl)) (pgs_cons (pg_name (i := 6) sc_line_of.nd rfl (by first | exact Or.inl rfl | exact Or.inr rfl)) (pgs_cons (pg_name (i := 7) sc_line_of.nd rfl (by first | exact Or.inl rfl | exact Or.inr rfl)) (pgs_cons (pg_name (i := 8) sc_line_of.nd rfl (by first | exact Or.inl rfl | exact Or.inr rfl)) pgs_nil)))))))
   (pss_one (PM.s_if (ps_if (c_opT od_in (pt_cmpR (op_inK K) (c_vw (pv 4)) (c_vw (pv 1)) (by rfl))) (PM.s_seq (pss_cons (PM.s_aug od_iadd (ps_aug (i := 2) sc_line_of.nd rfl (Or.inl rfl) (c_vw (pv 7)) ip_add))
  (pss_one (PM.s_aug od_isub (ps_aug (i := 3) sc_line_of.nd rfl (Or.inl rfl) (c_vw (pv 8)) ip_sub))))) (PM.s_seq (pss_cons (PM.s_aug od_iadd (ps_aug (i := 2) sc_line_of.nd rfl (Or.inl rfl) (c_vw (pv 5)) ip_add))
  (pss_one (PM.s_aug od_iadd (ps_aug (i := 3) sc_line_of.nd rfl (Or.inl rfl) (c_vw (pv 6)) ip_add))))))))))
  (PM.s_seq (pss_cons (PM.s_for (ps_for PassesOwn.never rfl (c_iseq (pi_seq (c_op od_ix (pe_ix ix_u (c_vw (pv 0)) (c_w (c_c pe_int fun _ => .int _)) (fun _ _ => rfl))))) (c_gt [9, 10, 11] (pg_tupK rfl (pgs_cons (pg_name (i := 9) sc_line_of.nd rfl (by first | exact Or.inl rfl | exact Or.inr rfl)) (pgs_cons (pg_name (i := 10) sc_line_of.nd rfl (by first | exact Or.inl rfl | exact Or.inr rfl)) (pgs_cons (pg_name (i := 11) sc_line_of.nd rfl (by first | exact Or.inl rfl | exact Or.inr rfl)) pgs_nil)))))
   (pss_one (PM.s_if (ps_if (PW.pt (c_and (pw_and (c_opT od_in (pt_cmpR (op_inK K) (c_vw (pv 9)) (c_vw (pv 1)) (by rfl))) (pw_and1 (c_opT od_nin (pt_cmpR (op_notInK K) (c_vw (pv 10)) (c_vw (pv 1)) (by rfl))))))) (pss_one (PM.s_aug od_iadd (ps_aug (i := 2) sc_line_of.nd rfl (Or.inl rfl) (c_vw (pv 11)) ip_add))) (PM.s_nil pss_nil))))))
  (pss_one (PM.s_ret (ps_ret (c_tup (pe_tup (a_cons (pa_cons (c_v (pv 2)) (a_cons (pa_cons (c_v (pv 3)) (a_nil pa_nil))))))))))))))))))))), spM_in (N := N_line_of) h⟩)

abbrev N_choices_of : List Str := ["things", "choices", "thing", "choice"]
theorem sc_choices_of : FnScope N_choices_of ["things"] (defScope s_choices_of) := ⟨rfl, rfl, rfl, by decide +kernel, rfl, by decide +kernel, by decide +kernel⟩
theorem ok_choices_of (T : Txt K mg) : OwnFn P w K mg base 1 "choices_of" ["things"] (spM K (tabs K) M_choices_of) := by
  exact own_ok (k := 0) T.D_choices_of sc_choices_of (fun _ _ _ _ _ _ us hl => match us, hl with | [_], _ => rfl) (fun vs H Q E h => spM_len h) (fun cdv A outer s H vs Q E hr h => ⟨_, PSs.nox (show PSs _ _ (tS K (tabs K) m_choices_of) from (PM.s_seq (pss_cons (PM.s_set (ps_set (i := 1) sc_choices_of.nd rfl (by first | exact Or.inl rfl | exact Or.inr rfl) (c_f (c_lst (pe_lst (a_cons (pa_cons (c_tup (pe_tup (a_nil pa_nil))) (a_nil pa_nil))))) mLst_is)))
  (PM.s_seq (pss_cons (PM.s_for (ps_for PassesOwn.never rfl (c_iseq (pi_seq (c_v (pv 0)))) (c_gn (pg_name (i := 2) sc_choices_of.nd rfl (by first | exact Or.inl rfl | exact Or.inr rfl)))
   (pss_one (PM.s_set (ps_set (i := 1) sc_choices_of.nd rfl (by first | exact Or.inl rfl | exact Or.inr rfl) (c_op od_add (pe_op op_uAdd (c_vw (pv 1)) (c_fw (c_lc (pe_lc (own := [("choice", 3)]) (by rfl) sc_choices_of.nd (c_iseqw (pi_seq (c_vw (pv 1)))) (blkOk_by (own := [("choice", 3)]) (N := N_choices_of) (sc := defScope s_choices_of) (by decide +kernel)) (fun _ _ _ _ _ => (c_gn (pg_name (i := 3) sc_choices_of.nd rfl (by first | exact Or.inl rfl | exact Or.inr rfl)))) (fun _ _ _ _ _ => (q_nil pts_nil)) (fun _ _ _ _ _ => (c_tup (pe_tup (a_star (pa_starK K (c_vw (pv 3)) (a_cons (pa_cons (c_v (pv 2)) (a_nil pa_nil))))))))))))))))))
  (pss_one (PM.s_ret (ps_ret (c_v (pv 1)))))))))), spM_in (N := N_choices_of) h⟩)

abbrev N_all_cuts : List Str := ["web"]
theorem sc_all_cuts : FnScope N_all_cuts ["web"] (defScope s_all_cuts) := ⟨rfl, rfl, rfl, by decide +kernel, rfl, by decide +kernel, by decide +kernel⟩
theorem ok_all_cuts (T : Txt K mg) (F_names_of : OwnFn P w K mg base 6 "names_of" ["web"] (spM K (tabs K) M_names_of)) (F_choices_of : OwnFn P w K mg base 1 "choices_of" ["things"] (spM K (tabs K) M_choices_of)) : OwnFn P w K mg base 7 "all_cuts" ["web"] (spM K (tabs K) M_all_cuts) := by
  exact own_ok (k := 6) T.D_all_cuts sc_all_cuts (fun _ _ _ _ _ _ us hl => match us, hl with | [_], _ => rfl) (fun vs H Q E h => spM_len h) (fun cdv A outer s H vs Q E hr h => ⟨_, PSs.nox (show PSs _ _ (tS K (tabs K) m_all_cuts) from (pss_one (PM.s_ret (ps_ret (c_f (c_cbF cb_sorted (pe_callB (cr_sortM (room_u64 hr)) (by rfl) T.f_sorted (by decide +kernel) (a_consw (pa_cons (c_w (c_call (pe_own F_choices_of hr passL (a_cons (pa_cons (c_call (pe_own F_names_of hr passL (a_cons (pa_cons (c_v (pv 0)) (a_nil pa_nil))))) (a_nil pa_nil)))))) (a_nilw pa_nil))))) mSorted_is))))), spM_in (N := N_all_cuts) h⟩)

abbrev N_cuts_by_line : List Str := ["web", "cuts", "cut", "line"]
theorem sc_cuts_by_line : FnScope N_cuts_by_line ["web"] (defScope s_cuts_by_line) := ⟨rfl, rfl, rfl, by decide +kernel, rfl, by decide +kernel, by decide +kernel⟩
theorem ok_cuts_by_line (T : Txt K mg) (F_all_cuts : OwnFn P w K mg base 7 "all_cuts" ["web"] (spM K (tabs K) M_all_cuts)) (F_line_of : OwnFn P w K mg base 8 "line_of" ["web", "cut"] (spM K (tabs K) M_line_of)) : OwnFn P w K mg base 9 "cuts_by_line" ["web"] (spM K (tabs K) M_cuts_by_line) := by
  exact own_ok (k := 8) T.D_cuts_by_line sc_cuts_by_line (fun _ _ _ _ _ _ us hl => match us, hl with | [_], _ => rfl) (fun vs H Q E h => spM_len h) (fun cdv A outer s H vs Q E hr h => ⟨_, PSs.nox (show PSs _ _ (tS K (tabs K) m_cuts_by_line) from (PM.s_seq (pss_cons (PM.s_setO (ps_set (i := 1) sc_cuts_by_line.nd rfl (by first | exact Or.inl rfl | exact Or.inr rfl) (c_dnew pe_dnewT)))
  (PM.s_seq (pss_cons (PM.s_gather (by decide) (by decide) (by decide) (ps_frz (ps_for PassesOwn.never rfl (c_iseq (pi_seq (c_call (pe_own F_all_cuts hr passL (a_cons (pa_cons (c_v (pv 0)) (a_nil pa_nil))))))) (c_gn (pg_name (i := 2) sc_cuts_by_line.nd rfl (by first | exact Or.inl rfl | exact Or.inr rfl)))
   (pss_cons (ps_asg (c_call (pe_own F_line_of hr passL (a_cons (pa_cons (c_v (pv 0)) (a_cons (pa_cons (c_v (pv 2)) (a_nil pa_nil))))))) (pg_name (i := 3) sc_cuts_by_line.nd rfl (by first | exact Or.inl rfl | exact Or.inr rfl))) (pss_cons (ps_if (pt_cmp (pc_dnotin (room_u hr) (pv 3) (pv 1))) (pss_cons (ps_dput (room_u hr) (pv 1) (pv 3) (pe_lst pa_nil) (by rfl)) pss_nil) pss_nil) (pss_cons (ps_expr (pe_bm PySem.F.plainAttrs_list PySem.F.slot_list_append PySem.F.type_list_append mt_append (pe_dget (room_u hr) (pv 1) (pv 3) (fun _ _ => rfl)) (pa_cons (pv 2) pa_nil))) pss_nil))))))
  (pss_one (PM.s_ret (ps_ret (c_v (pv 1)))))))))), spM_in (N := N_cuts_by_line) h⟩)

abbrev N_meeting : List Str := ["line", "other"]
theorem sc_meeting : FnScope N_meeting ["line", "other"] (defScope s_meeting) := ⟨rfl, rfl, rfl, by decide +kernel, rfl, by decide +kernel, by decide +kernel⟩
theorem ok_meeting (T : Txt K mg) (F_fraction : OwnFn P w K mg base 3 "fraction" ["top", "bottom"] (spM K (tabs K) M_fraction)) : OwnFn P w K mg base 4 "meeting" ["line", "other"] (spM K (tabs K) M_meeting) := by
  exact own_ok (k := 3) T.D_meeting sc_meeting (fun _ _ _ _ _ _ us hl => match us, hl with | [_, _], _ => rfl) (fun vs H Q E h => spM_len h) (fun cdv A outer s H vs Q E hr h => ⟨_, PSs.nox (show PSs _ _ (tS K (tabs K) m_meeting) from (pss_one (PM.s_ret (ps_ret (c_call (pe_own F_fraction hr passL (a_cons (pa_cons (c_op od_sub (pe_op op_sub (c_w (c_op od_ix (pe_ix ix_u (c_vw (pv 1)) (c_w (c_c pe_int fun _ => .int _)) (fun _ _ => rfl)))) (c_w (c_op od_ix (pe_ix ix_u (c_vw (pv 0)) (c_w (c_c pe_int fun _ => .int _)) (fun _ _ => rfl)))))) (a_cons (pa_cons (c_op od_sub (pe_op op_sub (c_w (c_op od_ix (pe_ix ix_u (c_vw (pv 0)) (c_w (c_c pe_int fun _ => .int _)) (fun _ _ => rfl)))) (c_w (c_op od_ix (pe_ix ix_u (c_vw (pv 1)) (c_w (c_c pe_int fun _ => .int _)) (fun _ _ => rfl)))))) (a_nil pa_nil))))))))))), spM_in (N := N_meeting) h⟩)

abbrev N_is_met_first : List Str := ["line", "one", "other", "at", "limit"]
theorem sc_is_met_first : FnScope N_is_met_first ["line", "one", "other"] (defScope s_is_met_first) := ⟨rfl, rfl, rfl, by decide +kernel, rfl, by decide +kernel, by decide +kernel⟩
theorem ok_is_met_first (T : Txt K mg) (F_meeting : OwnFn P w K mg base 4 "meeting" ["line", "other"] (spM K (tabs K) M_meeting)) (F_below : OwnFn P w K mg base 1 "below" ["a", "b"] (spM K (tabs K) M_below)) : OwnFn P w K mg base 5 "is_met_first" ["line", "one", "other"] (spM K (tabs K) M_is_met_first) := by
  exact own_ok (k := 4) T.D_is_met_first sc_is_met_first (fun _ _ _ _ _ _ us hl => match us, hl with | [_, _, _], _ => rfl) (fun vs H Q E h => spM_len h) (fun cdv A outer s H vs Q E hr h => ⟨_, PSs.nox (show PSs _ _ (tS K (tabs K) m_is_met_first) from (PM.s_seq (pss_cons (PM.s_set (ps_set (i := 3) sc_is_met_first.nd rfl (by first | exact Or.inl rfl | exact Or.inr rfl) (c_call (pe_own F_meeting hr passL (a_cons (pa_cons (c_v (pv 0)) (a_cons (pa_cons (c_v (pv 1)) (a_nil pa_nil)))))))))
  (PM.s_seq (pss_cons (PM.s_set (ps_set (i := 4) sc_is_met_first.nd rfl (by first | exact Or.inl rfl | exact Or.inr rfl) (c_call (pe_own F_meeting hr passL (a_cons (pa_cons (c_v (pv 0)) (a_cons (pa_cons (c_v (pv 2)) (a_nil pa_nil)))))))))
  (pss_one (PM.s_ret (ps_ret (c_orV (pe_or (c_call (pe_own F_below hr passL (a_cons (pa_cons (c_v (pv 3)) (a_cons (pa_cons (c_v (pv 4)) (a_nil pa_nil))))))) (pe_one (c_andV (pe_and (c_op od_eq (pe_cmpR (op_eqK (room_u64 hr)) (c_vw (pv 3)) (c_vw (pv 4)) (nomark _))) (pe_one (c_op od_lt (pe_cmpR op_uLt (c_w (c_op od_ix (pe_ix ix_u (c_vw (pv 1)) (c_w (c_c pe_int fun _ => .int _)) (fun _ _ => rfl)))) (c_w (c_op od_ix (pe_ix ix_u (c_vw (pv 2)) (c_w (c_c pe_int fun _ => .int _)) (fun _ _ => rfl)))) (nomark _))))))))))))))))), spM_in (N := N_is_met_first) h⟩)

abbrev N_line_behind : List Str := ["lines", "line", "first", "other"]
theorem sc_line_behind : FnScope N_line_behind ["lines", "line"] (defScope s_line_behind) := ⟨rfl, rfl, rfl, by decide +kernel, rfl, by decide +kernel, by decide +kernel⟩
theorem ok_line_behind (T : Txt K mg) (F_is_met_first : OwnFn P w K mg base 5 "is_met_first" ["line", "one", "other"] (spM K (tabs K) M_is_met_first)) : OwnFn P w K mg base 6 "line_behind" ["lines", "line"] (spM K (tabs K) M_line_behind) := by
  exact own_ok (k := 5) T.D_line_behind sc_line_behind (fun _ _ _ _ _ _ us hl => match us, hl with | [_, _], _ => rfl) (fun vs H Q E h => spM_len h) (fun cdv A outer s H vs Q E hr h => ⟨_, PSs.nox (show PSs _ _ (tS K (tabs K) m_line_behind) from (PM.s_seq (pss_cons (PM.s_set (ps_set (i := 2) sc_line_behind.nd rfl (by first | exact Or.inl rfl | exact Or.inr rfl) (c_c pe_non fun _ => .non)))
  (PM.s_seq (pss_cons (PM.s_for (ps_for PassesOwn.never rfl (c_iseq (pi_seq (c_v (pv 0)))) (c_gn (pg_name (i := 3) sc_line_behind.nd rfl (by first | exact Or.inl rfl | exact Or.inr rfl)))
   (pss_one (PM.s_if (ps_if (PW.pt (c_and (pw_and (c_opT od_lt (pt_cmpR op_uLt (c_w (c_op od_ix (pe_ix ix_u (c_vw (pv 3)) (c_w (c_c pe_int fun _ => .int _)) (fun _ _ => rfl)))) (c_w (c_op od_ix (pe_ix ix_u (c_vw (pv 1)) (c_w (c_c pe_int fun _ => .int _)) (fun _ _ => rfl)))) (nomark _))) (pw_and1 (PW.pt (c_or (pw_or (c_opT od_isNo (pt_cmpR op_isN (c_vw (pv 2)) (c_w (c_c pe_non fun _ => .non)) (nomark _))) (pw_or1 (c_tv (pt_val (c_call (pe_own F_is_met_first hr passL (a_cons (pa_cons (c_v (pv 1)) (a_cons (pa_cons (c_v (pv 3)) (a_cons (pa_cons (c_v (pv 2)) (a_nil pa_nil))))))))))))))))))) (pss_one (PM.s_set (ps_set (i := 2) sc_line_behind.nd rfl (by first | exact Or.inl rfl | exact Or.inr rfl) (c_v (pv 3))))) (PM.s_nil pss_nil))))))
  (pss_one (PM.s_ret (ps_ret (c_v (pv 2)))))))))), spM_in (N := N_line_behind) h⟩)

abbrev N_bit_of : List Str := ["cuts", "line"]
theorem sc_bit_of : FnScope N_bit_of ["cuts", "line"] (defScope s_bit_of) := ⟨rfl, rfl, rfl, by decide +kernel, rfl, by decide +kernel, by decide +kernel⟩
theorem ok_bit_of (T : Txt K mg) : OwnFn P w K mg base 1 "bit_of" ["cuts", "line"] (spM K (tabs K) M_bit_of) := by
  exact own_ok (k := 0) T.D_bit_of sc_bit_of (fun _ _ _ _ _ _ us hl => match us, hl with | [_, _], _ => rfl) (fun vs H Q E h => spM_len h) (fun cdv A outer s H vs Q E hr h => ⟨_, PSs.nox (show PSs _ _ (tS K (tabs K) m_bit_of) from (pss_one (PM.s_ret (ps_ret (c_tup (pe_tup (a_cons (pa_cons (c_best (pe_minLen rfl (by rfl) T.f_min (by rfl) T.f_len (a_consw (pa_cons (c_vw (pv 0)) (a_nilw pa_nil))))) (a_cons (pa_cons (c_best (pe_maxLen rfl (by rfl) T.f_max (by rfl) T.f_len (a_consw (pa_cons (c_vw (pv 0)) (a_nilw pa_nil))))) (a_cons (pa_cons (c_op od_ix (pe_ix ix_u (c_vw (pv 1)) (c_w (c_c pe_int fun _ => .int _)) (fun _ _ => rfl))) (a_cons (pa_cons (c_op od_ix (pe_ix ix_u (c_vw (pv 1)) (c_w (c_c pe_int fun _ => .int _)) (fun _ _ => rfl))) (a_nil pa_nil))))))))))))))), spM_in (N := N_bit_of) h⟩)

abbrev N_stair_of : List Str := ["web", "cuts", "lines", "top", "line", "bits", "breaks", "behind"]
theorem sc_stair_of : FnScope N_stair_of ["web"] (defScope s_stair_of) := ⟨rfl, rfl, rfl, by decide +kernel, rfl, by decide +kernel, by decide +kernel⟩
theorem ok_stair_of (T : Txt K mg) (F_cuts_by_line : OwnFn P w K mg base 9 "cuts_by_line" ["web"] (spM K (tabs K) M_cuts_by_line)) (F_fraction : OwnFn P w K mg base 3 "fraction" ["top", "bottom"] (spM K (tabs K) M_fraction)) (F_bit_of : OwnFn P w K mg base 1 "bit_of" ["cuts", "line"] (spM K (tabs K) M_bit_of)) (F_line_behind : OwnFn P w K mg base 6 "line_behind" ["lines", "line"] (spM K (tabs K) M_line_behind)) (F_meeting : OwnFn P w K mg base 4 "meeting" ["line", "other"] (spM K (tabs K) M_meeting)) (F_below : OwnFn P w K mg base 1 "below" ["a", "b"] (spM K (tabs K) M_below)) : OwnFn P w K mg base 10 "stair_of" ["web"] (spM K (tabs K) M_stair_of) := by
  exact own_ok (k := 9) T.D_stair_of sc_stair_of (fun _ _ _ _ _ _ us hl => match us, hl with | [_], _ => rfl) (fun vs H Q E h => spM_len h) (fun cdv A outer s H vs Q E hr h => ⟨_, PSs.nox (show PSs _ _ (tS K (tabs K) m_stair_of) from (PM.s_seq (pss_cons (PM.s_set (ps_set (i := 1) sc_stair_of.nd rfl (by first | exact Or.inl rfl | exact Or.inr rfl) (c_call (pe_own F_cuts_by_line hr passL (a_cons (pa_cons (c_v (pv 0)) (a_nil pa_nil)))))))
  (PM.s_seq (pss_cons (PM.s_set (ps_set (i := 2) sc_stair_of.nd rfl (by first | exact Or.inl rfl | exact Or.inr rfl) (c_f (c_cbF cb_keysT (pe_callTy (call_list_dT rfl) (by rfl) T.f_list (by decide +kernel) (a_consw (pa_cons (c_vw (pv 1)) (a_nilw pa_nil))))) mKeysT_is)))
  (PM.s_seq (pss_cons (PM.s_set (ps_set (i := 3) sc_stair_of.nd rfl (by first | exact Or.inl rfl | exact Or.inr rfl) (c_call (pe_own F_fraction hr passL (a_cons (pa_cons (c_op od_ix (pe_ix ix_u (c_vw (pv 0)) (c_w (c_c pe_int fun _ => .int _)) (fun _ _ => rfl))) (a_cons (pa_cons (c_c pe_int fun _ => .int _) (a_nil pa_nil)))))))))
  (PM.s_seq (pss_cons (PM.s_set (ps_set (i := 4) sc_stair_of.nd rfl (by first | exact Or.inl rfl | exact Or.inr rfl) (c_cb cb_minL (pe_callB (cr_minL rfl (room_u64 hr)) (by rfl) T.f_min (by decide +kernel) (a_consw (pa_cons (c_vw (pv 2)) (a_nilw pa_nil)))))))
  (PM.s_seq (pss_cons (PM.s_setO (ps_set (i := 5) sc_stair_of.nd rfl (by first | exact Or.inl rfl | exact Or.inr rfl) (c_lst (pe_lst (a_cons (pa_cons (c_call (pe_own F_bit_of hr passL (a_cons (pa_cons (c_dgetT (pe_dget (room_u hr) (c_v (pv 1)) (c_v (pv 4)) (fun _ _ => rfl))) (a_cons (pa_cons (c_v (pv 4)) (a_nil pa_nil))))))) (a_nil pa_nil)))))))
  (PM.s_seq (pss_cons (PM.s_setO (ps_set (i := 6) sc_stair_of.nd rfl (by first | exact Or.inl rfl | exact Or.inr rfl) (c_lst (pe_lst (a_nil pa_nil)))))
  (PM.s_seq (pss_cons (PM.s_set (ps_set (i := 7) sc_stair_of.nd rfl (by first | exact Or.inl rfl | exact Or.inr rfl) (c_call (pe_own F_line_behind hr passL (a_cons (pa_cons (c_v (pv 2)) (a_cons (pa_cons (c_v (pv 4)) (a_nil pa_nil)))))))))
  (PM.s_seq (pss_cons (PM.s_while (ps_while PassesOwn.never (PW.pt (c_and (pw_and (c_opT od_notNo (pt_cmpR op_notN (c_vw (pv 7)) (c_w (c_c pe_non fun _ => .non)) (nomark _))) (pw_and1 (c_tv (pt_val (c_call (pe_own F_below hr passL (a_cons (pa_cons (c_call (pe_own F_meeting hr passL (a_cons (pa_cons (c_v (pv 4)) (a_cons (pa_cons (c_v (pv 7)) (a_nil pa_nil))))))) (a_cons (pa_cons (c_v (pv 3)) (a_nil pa_nil)))))))))))))
   (PM.s_seq (pss_cons (PM.s_app (ps_expr (pe_bm PySem.F.plainAttrs_list PySem.F.slot_list_append PySem.F.type_list_append mt_append (pv 6) (pa_cons (c_call (pe_own F_meeting hr passL (a_cons (pa_cons (c_v (pv 4)) (a_cons (pa_cons (c_v (pv 7)) (a_nil pa_nil))))))) pa_nil))))
  (PM.s_seq (pss_cons (PM.s_app (ps_expr (pe_bm PySem.F.plainAttrs_list PySem.F.slot_list_append PySem.F.type_list_append mt_append (pv 5) (pa_cons (c_call (pe_own F_bit_of hr passL (a_cons (pa_cons (c_dgetT (pe_dget (room_u hr) (c_v (pv 1)) (c_v (pv 7)) (fun _ _ => rfl))) (a_cons (pa_cons (c_v (pv 7)) (a_nil pa_nil))))))) pa_nil))))
  (PM.s_seq (pss_cons (PM.s_set (ps_set (i := 4) sc_stair_of.nd rfl (by first | exact Or.inl rfl | exact Or.inr rfl) (c_v (pv 7))))
  (pss_one (PM.s_set (ps_set (i := 7) sc_stair_of.nd rfl (by first | exact Or.inl rfl | exact Or.inr rfl) (c_call (pe_own F_line_behind hr passL (a_cons (pa_cons (c_v (pv 2)) (a_cons (pa_cons (c_v (pv 4)) (a_nil pa_nil))))))))))))))))))
  (pss_one (PM.s_rel 6 (PM.s_rel 5 (PM.s_ret (ps_ret (c_tup (pe_tup (a_cons (pa_cons (c_v (pv 5)) (a_cons (pa_cons (c_v (pv 6)) (a_nil pa_nil))))))))))))))))))))))))))))), spM_in (N := N_stair_of) h⟩)

abbrev N_bits_beside : List Str := ["breaks", "price", "number", "at"]
theorem sc_bits_beside : FnScope N_bits_beside ["breaks", "price"] (defScope s_bits_beside) := ⟨rfl, rfl, rfl, by decide +kernel, rfl, by decide +kernel, by decide +kernel⟩
theorem ok_bits_beside (T : Txt K mg) (F_below : OwnFn P w K mg base 1 "below" ["a", "b"] (spM K (tabs K) M_below)) : OwnFn P w K mg base 2 "bits_beside" ["breaks", "price"] (spM K (tabs K) M_bits_beside) := by
  exact own_ok (k := 1) T.D_bits_beside sc_bits_beside (fun _ _ _ _ _ _ us hl => match us, hl with | [_, _], _ => rfl) (fun vs H Q E h => spM_len h) (fun cdv A outer s H vs Q E hr h => ⟨_, PSs.nox (show PSs _ _ (tS K (tabs K) m_bits_beside) from (PM.s_seq (pss_cons (PM.s_set (ps_set (i := 2) sc_bits_beside.nd rfl (by first | exact Or.inl rfl | exact Or.inr rfl) (c_cb cb_len (pe_callB (call_lenK K) (by rfl) T.f_len (by decide +kernel) (a_consw (pa_cons (c_fw (c_lc (pe_lc (own := [("at", 3)]) (by rfl) sc_bits_beside.nd (c_iseqw (pi_seq (c_vw (pv 0)))) (blkOk_by (own := [("at", 3)]) (N := N_bits_beside) (sc := defScope s_bits_beside) (by decide +kernel)) (fun _ _ _ _ _ => (c_gn (pg_name (i := 3) sc_bits_beside.nd rfl (by first | exact Or.inl rfl | exact Or.inr rfl)))) (fun _ _ _ _ _ => (pts_one (c_tv (pt_val (c_call (pe_own F_below hr passL (a_cons (pa_cons (c_v (pv 3)) (a_cons (pa_cons (c_v (pv 1)) (a_nil pa_nil))))))))))) (fun _ _ _ _ _ => (c_v (pv 3)))))) (a_nilw pa_nil)))))))
  (PM.s_seq (pss_cons (PM.s_if (ps_if (c_opT od_inZ (pt_cmpR (op_uInZ (room_u65 hr)) (c_vw (pv 1)) (c_vw (pv 0)) (by rfl))) (pss_one (PM.s_ret (ps_ret (c_f (c_lst (pe_lst (a_cons (pa_cons (c_v (pv 2)) (a_cons (pa_cons (c_op od_add (pe_op op_uAdd (c_vw (pv 2)) (c_w (c_c pe_int fun _ => .int _)))) (a_nil pa_nil))))))) mLst_is)))) (PM.s_nil pss_nil)))
  (pss_one (PM.s_ret (ps_ret (c_f (c_lst (pe_lst (a_cons (pa_cons (c_v (pv 2)) (a_nil pa_nil))))) mLst_is))))))))), spM_in (N := N_bits_beside) h⟩)

abbrev N_line_on : List Str := ["stair", "price", "bits", "breaks", "cut", "most", "base", "lean"]
theorem sc_line_on : FnScope N_line_on ["stair", "price"] (defScope s_line_on) := ⟨rfl, rfl, rfl, by decide +kernel, rfl, by decide +kernel, by decide +kernel⟩
theorem ok_line_on (T : Txt K mg) (F_bits_beside : OwnFn P w K mg base 2 "bits_beside" ["breaks", "price"] (spM K (tabs K) M_bits_beside)) : OwnFn P w K mg base 3 "line_on" ["stair", "price"] (spM K (tabs K) M_line_on) := by
  exact own_ok (k := 2) T.D_line_on sc_line_on (fun _ _ _ _ _ _ us hl => match us, hl with | [_, _], _ => rfl) (fun vs H Q E h => spM_len h) (fun cdv A outer s H vs Q E hr h => ⟨_, PSs.nox (show PSs _ _ (tS K (tabs K) m_line_on) from (PM.s_seq (pss_cons (PM.s_asg (ps_asg (c_v (pv 0)) (c_gt [2, 3] (pg_tupK rfl (pgs_cons (pg_name (i := 2) sc_line_on.nd rfl (by first | exact Or.inl rfl | exact Or.inr rfl)) (pgs_cons (pg_name (i := 3) sc_line_on.nd rfl (by first | exact Or.inl rfl | exact Or.inr rfl)) pgs_nil))))))
  (PM.s_seq (pss_cons (PM.s_asg (ps_asg (c_op od_ix (pe_ix ix_u (c_vw (pv 2)) (c_w (c_op od_ix (pe_ix ix_u (c_w (c_call (pe_own F_bits_beside hr passL (a_cons (pa_cons (c_v (pv 3)) (a_cons (pa_cons (c_v (pv 1)) (a_nil pa_nil)))))))) (c_w (c_neg (pe_un un_neg (c_c pe_int fun _ => .int _)))) (fun _ _ => rfl)))) (fun _ _ => rfl))) (c_gt [4, 5, 6, 7] (pg_tupK rfl (pgs_cons (pg_name (i := 4) sc_line_on.nd rfl (by first | exact Or.inl rfl | exact Or.inr rfl)) (pgs_cons (pg_name (i := 5) sc_line_on.nd rfl (by first | exact Or.inl rfl | exact Or.inr rfl)) (pgs_cons (pg_name (i := 6) sc_line_on.nd rfl (by first | exact Or.inl rfl | exact Or.inr rfl)) (pgs_cons (pg_name (i := 7) sc_line_on.nd rfl (by first | exact Or.inl rfl | exact Or.inr rfl)) pgs_nil))))))))
  (pss_one (PM.s_ret (ps_ret (c_tup (pe_tup (a_cons (pa_cons (c_v (pv 6)) (a_cons (pa_cons (c_v (pv 7)) (a_nil pa_nil))))))))))))))), spM_in (N := N_line_on) h⟩)

abbrev N_worth_on : List Str := ["stair", "price", "base", "lean"]
theorem sc_worth_on : FnScope N_worth_on ["stair", "price"] (defScope s_worth_on) := ⟨rfl, rfl, rfl, by decide +kernel, rfl, by decide +kernel, by decide +kernel⟩
theorem ok_worth_on (T : Txt K mg) (F_line_on : OwnFn P w K mg base 3 "line_on" ["stair", "price"] (spM K (tabs K) M_line_on)) (F_on_line : OwnFn P w K mg base 4 "on_line" ["base", "lean", "at"] (spM K (tabs K) M_on_line)) : OwnFn P w K mg base 5 "worth_on" ["stair", "price"] (spM K (tabs K) M_worth_on) := by
  exact own_ok (k := 4) T.D_worth_on sc_worth_on (fun _ _ _ _ _ _ us hl => match us, hl with | [_, _], _ => rfl) (fun vs H Q E h => spM_len h) (fun cdv A outer s H vs Q E hr h => ⟨_, PSs.nox (show PSs _ _ (tS K (tabs K) m_worth_on) from (PM.s_seq (pss_cons (PM.s_asg (ps_asg (c_call (pe_own F_line_on hr passL (a_cons (pa_cons (c_v (pv 0)) (a_cons (pa_cons (c_v (pv 1)) (a_nil pa_nil))))))) (c_gt [2, 3] (pg_tupK rfl (pgs_cons (pg_name (i := 2) sc_worth_on.nd rfl (by first | exact Or.inl rfl | exact Or.inr rfl)) (pgs_cons (pg_name (i := 3) sc_worth_on.nd rfl (by first | exact Or.inl rfl | exact Or.inr rfl)) pgs_nil))))))
  (pss_one (PM.s_ret (ps_ret (c_call (pe_own F_on_line hr passL (a_cons (pa_cons (c_v (pv 2)) (a_cons (pa_cons (c_v (pv 3)) (a_cons (pa_cons (c_v (pv 1)) (a_nil pa_nil))))))))))))))), spM_in (N := N_worth_on) h⟩)

abbrev N_word_at : List Str := ["stairs", "price", "one", "other", "stair"]
theorem sc_word_at : FnScope N_word_at ["stairs", "price"] (defScope s_word_at) := ⟨rfl, rfl, rfl, by decide +kernel, rfl, by decide +kernel, by decide +kernel⟩
theorem ok_word_at (T : Txt K mg) (F_worth_on : OwnFn P w K mg base 5 "worth_on" ["stair", "price"] (spM K (tabs K) M_worth_on)) (F_below : OwnFn P w K mg base 1 "below" ["a", "b"] (spM K (tabs K) M_below)) : OwnFn P w K mg base 6 "word_at" ["stairs", "price"] (spM K (tabs K) M_word_at) := by
  exact own_ok (k := 5) T.D_word_at sc_word_at (fun _ _ _ _ _ _ us hl => match us, hl with | [_, _], _ => rfl) (fun vs H Q E h => spM_len h) (fun cdv A outer s H vs Q E hr h => ⟨_, PSs.nox (show PSs _ _ (tS K (tabs K) m_word_at) from (PM.s_seq (pss_cons (PM.s_asg (ps_asg (c_f (c_lc (pe_lc (own := [("stair", 4)]) (by rfl) sc_word_at.nd (c_iseqw (pi_seq (c_vw (pv 0)))) (blkOk_by (own := [("stair", 4)]) (N := N_word_at) (sc := defScope s_word_at) (by decide +kernel)) (fun _ _ _ _ _ => (c_gn (pg_name (i := 4) sc_word_at.nd rfl (by first | exact Or.inl rfl | exact Or.inr rfl)))) (fun _ _ _ _ _ => (q_nil pts_nil)) (fun _ _ _ _ _ => (c_call (pe_own F_worth_on hr passL (a_cons (pa_cons (c_v (pv 4)) (a_cons (pa_cons (c_v (pv 1)) (a_nil pa_nil)))))))))) mLc_is) (c_gl [2, 3] (pg_lstK rfl (pgs_cons (pg_name (i := 2) sc_word_at.nd rfl (by first | exact Or.inl rfl | exact Or.inr rfl)) (pgs_cons (pg_name (i := 3) sc_word_at.nd rfl (by first | exact Or.inl rfl | exact Or.inr rfl)) pgs_nil))))))
  (PM.s_seq (pss_cons (PM.s_if (ps_if (c_tv (pt_val (c_call (pe_own F_below hr passL (a_cons (pa_cons (c_v (pv 2)) (a_cons (pa_cons (c_v (pv 3)) (a_nil pa_nil))))))))) (pss_one (PM.s_ret (ps_ret (c_c pe_str fun _ => .str _)))) (PM.s_nil pss_nil)))
  (PM.s_seq (pss_cons (PM.s_if (ps_if (c_tv (pt_val (c_call (pe_own F_below hr passL (a_cons (pa_cons (c_v (pv 3)) (a_cons (pa_cons (c_v (pv 2)) (a_nil pa_nil))))))))) (pss_one (PM.s_ret (ps_ret (c_c pe_str fun _ => .str _)))) (PM.s_nil pss_nil)))
  (pss_one (PM.s_ret (ps_ret (c_c pe_str fun _ => .str _))))))))))), spM_in (N := N_word_at) h⟩)

abbrev N_end_behind : List Str := ["stairs", "start", "top", "ends", "first", "end", "one", "other", "stair"]
theorem sc_end_behind : FnScope N_end_behind ["stairs", "start", "top"] (defScope s_end_behind) := ⟨rfl, rfl, rfl, by decide +kernel, rfl, by decide +kernel, by decide +kernel⟩
theorem ok_end_behind (T : Txt K mg) (F_line_on : OwnFn P w K mg base 3 "line_on" ["stair", "price"] (spM K (tabs K) M_line_on)) (F_meeting : OwnFn P w K mg base 4 "meeting" ["line", "other"] (spM K (tabs K) M_meeting)) (F_below : OwnFn P w K mg base 1 "below" ["a", "b"] (spM K (tabs K) M_below)) : OwnFn P w K mg base 5 "end_behind" ["stairs", "start", "top"] (spM K (tabs K) M_end_behind) := by
  exact own_ok (k := 4) T.D_end_behind sc_end_behind (fun _ _ _ _ _ _ us hl => match us, hl with | [_, _, _], _ => rfl) (fun vs H Q E h => spM_len h) (fun cdv A outer s H vs Q E hr h => ⟨_, PSs.nox (show PSs _ _ (tS K (tabs K) m_end_behind) from (PM.s_seq (pss_cons (PM.s_setO (ps_set (i := 3) sc_end_behind.nd rfl (by first | exact Or.inl rfl | exact Or.inr rfl) (c_catF (pe_op op_uAdd (c_w (c_op od_ix (pe_ix ix_u (c_w (c_op od_ix (pe_ix ix_u (c_vw (pv 0)) (c_w (c_c pe_int fun _ => .int _)) (fun _ _ => rfl)))) (c_w (c_c pe_int fun _ => .int _)) (fun _ _ => rfl)))) (c_w (c_op od_ix (pe_ix ix_u (c_w (c_op od_ix (pe_ix ix_u (c_vw (pv 0)) (c_w (c_c pe_int fun _ => .int _)) (fun _ _ => rfl)))) (c_w (c_c pe_int fun _ => .int _)) (fun _ _ => rfl))))))))
  (PM.s_seq (pss_cons (PM.s_asg (ps_asg (c_f (c_lc (pe_lc (own := [("stair", 8)]) (by rfl) sc_end_behind.nd (c_iseqw (pi_seq (c_vw (pv 0)))) (blkOk_by (own := [("stair", 8)]) (N := N_end_behind) (sc := defScope s_end_behind) (by decide +kernel)) (fun _ _ _ _ _ => (c_gn (pg_name (i := 8) sc_end_behind.nd rfl (by first | exact Or.inl rfl | exact Or.inr rfl)))) (fun _ _ _ _ _ => (q_nil pts_nil)) (fun _ _ _ _ _ => (c_call (pe_own F_line_on hr passL (a_cons (pa_cons (c_v (pv 8)) (a_cons (pa_cons (c_v (pv 1)) (a_nil pa_nil)))))))))) mLc_is) (c_gl [6, 7] (pg_lstK rfl (pgs_cons (pg_name (i := 6) sc_end_behind.nd rfl (by first | exact Or.inl rfl | exact Or.inr rfl)) (pgs_cons (pg_name (i := 7) sc_end_behind.nd rfl (by first | exact Or.inl rfl | exact Or.inr rfl)) pgs_nil))))))
  (PM.s_seq (pss_cons (PM.s_if (ps_if (c_opT od_ne (pt_cmpR (op_neK (room_u64 hr)) (c_w (c_op od_ix (pe_ix ix_u (c_vw (pv 6)) (c_w (c_c pe_int fun _ => .int _)) (fun _ _ => rfl)))) (c_w (c_op od_ix (pe_ix ix_u (c_vw (pv 7)) (c_w (c_c pe_int fun _ => .int _)) (fun _ _ => rfl)))) (nomark _))) (pss_one (PM.s_app (ps_expr (pe_bm PySem.F.plainAttrs_list PySem.F.slot_list_append PySem.F.type_list_append mt_append (pv 3) (pa_cons (c_call (pe_own F_meeting hr passL (a_cons (pa_cons (c_v (pv 6)) (a_cons (pa_cons (c_v (pv 7)) (a_nil pa_nil))))))) pa_nil))))) (PM.s_nil pss_nil)))
  (PM.s_seq (pss_cons (PM.s_set (ps_set (i := 4) sc_end_behind.nd rfl (by first | exact Or.inl rfl | exact Or.inr rfl) (c_v (pv 2))))
  (PM.s_seq (pss_cons (PM.s_rel 3 (PM.s_for (ps_for PassesOwn.never rfl (c_iseq (pi_seq (c_v (pv 3)))) (c_gn (pg_name (i := 5) sc_end_behind.nd rfl (by first | exact Or.inl rfl | exact Or.inr rfl)))
   (pss_one (PM.s_if (ps_if (PW.pt (c_and (pw_and (c_tv (pt_val (c_call (pe_own F_below hr passL (a_cons (pa_cons (c_v (pv 1)) (a_cons (pa_cons (c_v (pv 5)) (a_nil pa_nil))))))))) (pw_and1 (c_tv (pt_val (c_call (pe_own F_below hr passL (a_cons (pa_cons (c_v (pv 5)) (a_cons (pa_cons (c_v (pv 4)) (a_nil pa_nil))))))))))))) (pss_one (PM.s_set (ps_set (i := 4) sc_end_behind.nd rfl (by first | exact Or.inl rfl | exact Or.inr rfl) (c_v (pv 5))))) (PM.s_nil pss_nil)))))))
  (pss_one (PM.s_ret (ps_ret (c_v (pv 4)))))))))))))))), spM_in (N := N_end_behind) h⟩)

abbrev N_joined : List Str := ["stairs", "stretches", "told", "start", "end", "word"]
theorem sc_joined : FnScope N_joined ["stairs", "stretches"] (defScope s_joined) := ⟨rfl, rfl, rfl, by decide +kernel, rfl, by decide +kernel, by decide +kernel⟩
theorem ok_joined (T : Txt K mg) (F_word_at : OwnFn P w K mg base 6 "word_at" ["stairs", "price"] (spM K (tabs K) M_word_at)) : OwnFn P w K mg base 7 "joined" ["stairs", "stretches"] (spM K (tabs K) M_joined) := by
  exact own_ok (k := 6) T.D_joined sc_joined (fun _ _ _ _ _ _ us hl => match us, hl with | [_, _], _ => rfl) (fun vs H Q E h => spM_len h) (fun cdv A outer s H vs Q E hr h => ⟨_, PSs.nox (show PSs _ _ (tS K (tabs K) m_joined) from (PM.s_seq (pss_cons (PM.s_setO (ps_set (i := 2) sc_joined.nd rfl (by first | exact Or.inl rfl | exact Or.inr rfl) (c_lst (pe_lst (a_nil pa_nil)))))
  (PM.s_seq (pss_cons (PM.s_for (ps_for PassesOwn.never rfl (c_iseq (pi_seq (c_v (pv 1)))) (c_gt [3, 4, 5] (pg_tupK rfl (pgs_cons (pg_name (i := 3) sc_joined.nd rfl (by first | exact Or.inl rfl | exact Or.inr rfl)) (pgs_cons (pg_name (i := 4) sc_joined.nd rfl (by first | exact Or.inl rfl | exact Or.inr rfl)) (pgs_cons (pg_name (i := 5) sc_joined.nd rfl (by first | exact Or.inl rfl | exact Or.inr rfl)) pgs_nil)))))
   (pss_one (PM.s_if (ps_if (PW.pt (c_and (pw_and (c_qlw (pt_lst (c_vw (pv 2)))) (c_and (pw_and (c_opT od_eq (pt_cmpR (op_eqK (room_u64 hr)) (c_w (c_op od_ix (pe_ix ix_u (c_w (c_op od_ix (pe_ix ix_u (c_vw (pv 2)) (c_w (c_neg (pe_un un_neg (c_c pe_int fun _ => .int _)))) (fun _ _ => rfl)))) (c_w (c_c pe_int fun _ => .int _)) (fun _ _ => rfl)))) (c_vw (pv 5)) (nomark _))) (pw_and1 (c_opT od_eq (pt_cmpR (op_eqK (room_u64 hr)) (c_w (c_call (pe_own F_word_at hr passL (a_cons (pa_cons (c_v (pv 0)) (a_cons (pa_cons (c_v (pv 3)) (a_nil pa_nil)))))))) (c_vw (pv 5)) (nomark _))))))))) (pss_one (PM.s_setI (ps_asg (c_tup (pe_tup (a_cons (pa_cons (c_op od_ix (pe_ix ix_u (c_w (c_op od_ix (pe_ix ix_u (c_vw (pv 2)) (c_w (c_neg (pe_un un_neg (c_c pe_int fun _ => .int _)))) (fun _ _ => rfl)))) (c_w (c_c pe_int fun _ => .int _)) (fun _ _ => rfl))) (a_cons (pa_cons (c_v (pv 4)) (a_cons (pa_cons (c_v (pv 5)) (a_nil pa_nil))))))))) (pg_sub (pv 2) (c_neg (pe_un un_neg (c_c pe_int fun _ => .int _))) set_list)))) (pss_one (PM.s_app (ps_expr (pe_bm PySem.F.plainAttrs_list PySem.F.slot_list_append PySem.F.type_list_append mt_append (pv 2) (pa_cons (c_tup (pe_tup (a_cons (pa_cons (c_v (pv 3)) (a_cons (pa_cons (c_v (pv 4)) (a_cons (pa_cons (c_v (pv 5)) (a_nil pa_nil))))))))) pa_nil))))))))))
  (pss_one (PM.s_retO (ps_ret (pv 2))))))))), spM_in (N := N_joined) h⟩)

abbrev N_beside : List Str := ["web", "other", "stairs", "top", "start", "stretches", "end"]
theorem sc_beside : FnScope N_beside ["web", "other"] (defScope s_beside) := ⟨rfl, rfl, rfl, by decide +kernel, rfl, by decide +kernel, by decide +kernel⟩
theorem ok_beside (T : Txt K mg) (F_stair_of : OwnFn P w K mg base 10 "stair_of" ["web"] (spM K (tabs K) M_stair_of)) (F_fraction : OwnFn P w K mg base 3 "fraction" ["top", "bottom"] (spM K (tabs K) M_fraction)) (F_below : OwnFn P w K mg base 1 "below" ["a", "b"] (spM K (tabs K) M_below)) (F_end_behind : OwnFn P w K mg base 5 "end_behind" ["stairs", "start", "top"] (spM K (tabs K) M_end_behind)) (F_half_way : OwnFn P w K mg base 5 "half_way" ["a", "b"] (spM K (tabs K) M_half_way)) (F_word_at : OwnFn P w K mg base 6 "word_at" ["stairs", "price"] (spM K (tabs K) M_word_at)) (F_joined : OwnFn P w K mg base 7 "joined" ["stairs", "stretches"] (spM K (tabs K) M_joined)) : OwnFn P w K mg base 11 "beside" ["web", "other"] (spX K (tabs K) M_beside) := by
  exact own_ok (k := 10) T.D_beside sc_beside (fun _ _ _ _ _ _ us hl => match us, hl with | [_, _], _ => rfl) (fun vs H Q E h => spX_len h) (fun cdv A outer s H vs Q E hr h => ⟨_, (show PSs _ _ (tSR K (tabs K) (erE K E) m_beside) from (PM.s_seq (pss_cons (PM.s_if (ps_if (c_opT od_ne (pt_cmpR (op_neK (room_u64 hr)) (c_w (c_op od_ix (pe_ix ix_u (c_vw (pv 0)) (c_w (c_c pe_int fun _ => .int _)) (fun _ _ => rfl)))) (c_w (c_op od_ix (pe_ix ix_u (c_vw (pv 1)) (c_w (c_c pe_int fun _ => .int _)) (fun _ _ => rfl)))) (nomark _))) (pss_one (PM.s_er (E := E) "NoTop" (ps_raise rfl (takes_of rfl rfl rfl rfl) (pmk_own PySem.F.excBase_ValueError T.x_NoTop T.m_NoTop T.k_NoTop (raises_own T.b_NoTop T.t_NoTop) (by rfl))))) (PM.s_nil pss_nil)))
  (PM.s_seq (pss_cons (PM.s_set (ps_set (i := 2) sc_beside.nd rfl (by first | exact Or.inl rfl | exact Or.inr rfl) (c_f (c_lst (pe_lst (a_cons (pa_cons (c_call (pe_own F_stair_of hr passL (a_cons (pa_cons (c_v (pv 0)) (a_nil pa_nil))))) (a_cons (pa_cons (c_call (pe_own F_stair_of hr passL (a_cons (pa_cons (c_v (pv 1)) (a_nil pa_nil))))) (a_nil pa_nil))))))) mLst_is)))
  (PM.s_seq (pss_cons (PM.s_set (ps_set (i := 3) sc_beside.nd rfl (by first | exact Or.inl rfl | exact Or.inr rfl) (c_call (pe_own F_fraction hr passL (a_cons (pa_cons (c_op od_ix (pe_ix ix_u (c_vw (pv 0)) (c_w (c_c pe_int fun _ => .int _)) (fun _ _ => rfl))) (a_cons (pa_cons (c_c pe_int fun _ => .int _) (a_nil pa_nil)))))))))
  (PM.s_seq (pss_cons (PM.s_set (ps_set (i := 4) sc_beside.nd rfl (by first | exact Or.inl rfl | exact Or.inr rfl) (c_call (pe_own F_fraction hr passL (a_cons (pa_cons (c_c pe_int fun _ => .int _) (a_cons (pa_cons (c_c pe_int fun _ => .int _) (a_nil pa_nil)))))))))
  (PM.s_seq (pss_cons (PM.s_setO (ps_set (i := 5) sc_beside.nd rfl (by first | exact Or.inl rfl | exact Or.inr rfl) (c_lst (pe_lst (a_nil pa_nil)))))
  (PM.s_seq (pss_cons (PM.s_while (ps_while (passes_of rfl) (c_tv (pt_val (c_call (pe_own F_below hr passL (a_cons (pa_cons (c_v (pv 4)) (a_cons (pa_cons (c_v (pv 3)) (a_nil pa_nil)))))))))
   (PM.s_seq (pss_cons (PM.s_set (ps_set (i := 6) sc_beside.nd rfl (by first | exact Or.inl rfl | exact Or.inr rfl) (c_call (pe_own F_end_behind hr passL (a_cons (pa_cons (c_v (pv 2)) (a_cons (pa_cons (c_v (pv 4)) (a_cons (pa_cons (c_v (pv 3)) (a_nil pa_nil)))))))))))
  (PM.s_seq (pss_cons (PM.s_app (ps_expr (pe_bm PySem.F.plainAttrs_list PySem.F.slot_list_append PySem.F.type_list_append mt_append (pv 5) (pa_cons (c_tup (pe_tup (a_cons (pa_cons (c_v (pv 4)) (a_cons (pa_cons (c_v (pv 6)) (a_cons (pa_cons (c_call (pe_own F_word_at hr passL (a_cons (pa_cons (c_v (pv 2)) (a_cons (pa_cons (c_call (pe_own F_half_way hr passL (a_cons (pa_cons (c_v (pv 4)) (a_cons (pa_cons (c_v (pv 6)) (a_nil pa_nil))))))) (a_nil pa_nil))))))) (a_nil pa_nil))))))))) pa_nil))))
  (pss_one (PM.s_set (ps_set (i := 4) sc_beside.nd rfl (by first | exact Or.inl rfl | exact Or.inr rfl) (c_v (pv 6)))))))))))
  (pss_one (PM.s_rel 5 (PM.s_ret (ps_ret (c_call (pe_own F_joined hr passL (a_cons (pa_cons (c_v (pv 2)) (a_cons (pa_cons (c_v (pv 5)) (a_nil pa_nil)))))))))))))))))))))))), spX_in (N := N_beside) h⟩)

abbrev N_L_cell : List Str := ["_law_script", "_law_k", "_law_state", "_law_cell_here"]
theorem sc_L_cell : FnScope N_L_cell ["_law_script", "_law_k"] (defScope s_L_cell) := ⟨rfl, rfl, rfl, by decide +kernel, rfl, by decide +kernel, by decide +kernel⟩
theorem ok_L_cell (T : Txt K mg) : OwnFn P w K mg base 1 "_law_cell" ["_law_script", "_law_k"] (spM K (tabs K) M_L_cell) := by
  exact own_ok (k := 0) T.D_L_cell sc_L_cell (fun _ _ _ _ _ _ us hl => match us, hl with | [_, _], _ => rfl) (fun vs H Q E h => spM_len h) (fun cdv A outer s H vs Q E hr h => ⟨_, PSs.nox (show PSs _ _ (tS K (tabs K) m_L_cell) from (PM.s_seq (pss_cons (PM.s_if (ps_if (c_opT od_lt (pt_cmpR op_uLt (c_vw (pv 1)) (c_w (c_cb cb_len (pe_callB (call_lenK K) (by rfl) T.f_len (by decide +kernel) (a_consw (pa_cons (c_vw (pv 0)) (a_nilw pa_nil)))))) (nomark _))) (pss_one (PM.s_ret (ps_ret (c_op od_ix (pe_ix ix_u (c_vw (pv 0)) (c_vw (pv 1)) (fun _ _ => rfl)))))) (PM.s_nil pss_nil)))
  (PM.s_seq (pss_cons (PM.s_set (ps_set (i := 2) sc_L_cell.nd rfl (by first | exact Or.inl rfl | exact Or.inr rfl) (c_op od_mod (pe_op op_modN (c_w (c_op od_mul (pe_op op_uMul (c_w (c_c pe_int fun _ => .int _)) (c_w (c_op od_add (pe_op op_uAdd (c_w (c_op od_add (pe_op op_uAdd (c_w (c_op od_mul (pe_op op_uMul (c_vw (pv 1)) (c_vw (pv 1))))) (c_w (c_op od_mul (pe_op op_uMul (c_w (c_c pe_int fun _ => .int _)) (c_vw (pv 1)))))))) (c_w (c_c pe_int fun _ => .int _)))))))) (c_w (c_c pe_int fun _ => .int _))))))
  (PM.s_seq (pss_cons (PM.s_for (ps_for PassesOwn.never rfl (c_iseq (pi_seq (c_sl (pe_slice sl_u (c_vw (pv 0)) (c_pno po_none) (c_pso (po_some (c_c pe_int fun _ => .int _))))))) (c_gn (pg_name (i := 3) sc_L_cell.nd rfl (by first | exact Or.inl rfl | exact Or.inr rfl)))
   (pss_one (PM.s_set (ps_set (i := 2) sc_L_cell.nd rfl (by first | exact Or.inl rfl | exact Or.inr rfl) (c_op od_mod (pe_op op_modN (c_w (c_op od_add (pe_op op_uAdd (c_w (c_op od_mul (pe_op op_uMul (c_vw (pv 2)) (c_w (c_c pe_int fun _ => .int _))))) (c_vw (pv 3))))) (c_w (c_c pe_int fun _ => .int _)))))))))
  (pss_one (PM.s_ret (ps_ret (c_v (pv 2)))))))))))), spM_in (N := N_L_cell) h⟩)

abbrev N_L_numbers : List Str := ["_law_cell_here", "_law_many", "_law_found", "_law_state", "_law_digits", "_law_k"]
theorem sc_L_numbers : FnScope N_L_numbers ["_law_cell_here", "_law_many"] (defScope s_L_numbers) := ⟨rfl, rfl, rfl, by decide +kernel, rfl, by decide +kernel, by decide +kernel⟩
theorem ok_L_numbers (T : Txt K mg) : OwnFn P w K mg base 1 "_law_numbers" ["_law_cell_here", "_law_many"] (spM K (tabs K) M_L_numbers) := by
  exact own_ok (k := 0) T.D_L_numbers sc_L_numbers (fun _ _ _ _ _ _ us hl => match us, hl with | [_, _], _ => rfl) (fun vs H Q E h => spM_len h) (fun cdv A outer s H vs Q E hr h => ⟨_, PSs.nox (show PSs _ _ (tS K (tabs K) m_L_numbers) from (PM.s_seq (pss_cons (PM.s_setO (ps_set (i := 2) sc_L_numbers.nd rfl (by first | exact Or.inl rfl | exact Or.inr rfl) (c_lst (pe_lst (a_nil pa_nil)))))
  (PM.s_seq (pss_cons (PM.s_set (ps_set (i := 3) sc_L_numbers.nd rfl (by first | exact Or.inl rfl | exact Or.inr rfl) (c_op od_mod (pe_op op_modN (c_w (c_op od_mul (pe_op op_uMul (c_w (c_op od_add (pe_op op_uAdd (c_w (c_op od_mod (pe_op op_modN (c_vw (pv 0)) (c_w (c_c pe_int fun _ => .int _))))) (c_w (c_c pe_int fun _ => .int _))))) (c_w (c_c pe_int fun _ => .int _))))) (c_w (c_c pe_int fun _ => .int _))))))
  (PM.s_seq (pss_cons (PM.s_set (ps_set (i := 4) sc_L_numbers.nd rfl (by first | exact Or.inl rfl | exact Or.inr rfl) (c_c pe_int fun _ => .int _)))
  (PM.s_seq (pss_cons (PM.s_if (ps_if (PW.pt (c_or (pw_or (c_opT od_lt (pt_cmpR op_uLt (c_vw (pv 0)) (c_w (c_c pe_int fun _ => .int _)) (nomark _))) (pw_or1 (c_opT od_ge (pt_cmpR op_ge (c_vw (pv 0)) (c_w (c_op od_pow (pe_op op_pow (c_w (c_c pe_int fun _ => .int _)) (c_w (c_c pe_int fun _ => .int _))))) (nomark _))))))) (pss_one (PM.s_set (ps_set (i := 4) sc_L_numbers.nd rfl (by first | exact Or.inl rfl | exact Or.inr rfl) (c_cb cb_abs (pe_callB call_abs (by rfl) T.f_abs (by decide +kernel) (a_consw (pa_cons (c_vw (pv 0)) (a_nilw pa_nil)))))))) (PM.s_nil pss_nil)))
  (PM.s_seq (pss_cons (PM.s_for (ps_for PassesOwn.never rfl (c_irng (pi_range1 (by rfl) T.f_range (a_cons (pa_cons (c_v (pv 1)) (a_nil pa_nil))))) (c_gn (pg_name (i := 5) sc_L_numbers.nd rfl (by first | exact Or.inl rfl | exact Or.inr rfl)))
   (PM.s_seq (pss_cons (PM.s_set (ps_set (i := 3) sc_L_numbers.nd rfl (by first | exact Or.inl rfl | exact Or.inr rfl) (c_op od_mod (pe_op op_modN (c_w (c_op od_add (pe_op op_uAdd (c_w (c_op od_add (pe_op op_uAdd (c_w (c_op od_mul (pe_op op_uMul (c_vw (pv 3)) (c_w (c_op od_add (pe_op op_uAdd (c_w (c_op od_mod (pe_op op_modN (c_vw (pv 3)) (c_w (c_c pe_int fun _ => .int _))))) (c_w (c_c pe_int fun _ => .int _)))))))) (c_w (c_op od_mul (pe_op op_uMul (c_w (c_c pe_int fun _ => .int _)) (c_vw (pv 5)))))))) (c_w (c_c pe_int fun _ => .int _))))) (c_w (c_c pe_int fun _ => .int _))))))
  (PM.s_seq (pss_cons (PM.s_app (ps_expr (pe_bm PySem.F.plainAttrs_list PySem.F.slot_list_append PySem.F.type_list_append mt_append (pv 2) (pa_cons (c_op od_ix (pe_ix ix_u (c_fw (c_lst (pe_lst (a_cons (pa_cons (c_v (pv 3)) (a_cons (pa_cons (c_op od_mod (pe_op op_modN (c_vw (pv 4)) (c_w (c_c pe_int fun _ => .int _)))) (a_nil pa_nil)))))))) (c_w (c_cb cb_int (pe_callTy call_int1 (by rfl) T.f_int (by decide +kernel) (a_consw (pa_cons (c_w (c_op od_gt (pe_cmpR op_gt (c_vw (pv 4)) (c_w (c_c pe_int fun _ => .int _)) (nomark _)))) (a_nilw pa_nil)))))) (fun _ _ => rfl))) pa_nil))))
  (pss_one (PM.s_set (ps_set (i := 4) sc_L_numbers.nd rfl (by first | exact Or.inl rfl | exact Or.inr rfl) (c_op od_fdv (pe_op op_fdivG (c_vw (pv 4)) (c_w (c_c pe_int fun _ => .int _)))))))))))))
  (pss_one (PM.s_retO (ps_ret (pv 2))))))))))))))), spM_in (N := N_L_numbers) h⟩)

abbrev N_L_names : List Str := ["_law_xs", "_law_many", "_law_letters", "_law_found", "_law_k", "_law_name", "_law_middle"]
theorem sc_L_names : FnScope N_L_names ["_law_xs", "_law_many"] (defScope s_L_names) := ⟨rfl, rfl, rfl, by decide +kernel, rfl, by decide +kernel, by decide +kernel⟩
theorem ok_L_names (T : Txt K mg) : OwnFn P w K mg base 1 "_law_names" ["_law_xs", "_law_many"] (spM K (tabs K) M_L_names) := by
  exact own_ok (k := 0) T.D_L_names sc_L_names (fun _ _ _ _ _ _ us hl => match us, hl with | [_, _], _ => rfl) (fun vs H Q E h => spM_len h) (fun cdv A outer s H vs Q E hr h => ⟨_, PSs.nox (show PSs _ _ (tS K (tabs K) m_L_names) from (PM.s_seq (pss_cons (PM.s_set (ps_set (i := 2) sc_L_names.nd rfl (by first | exact Or.inl rfl | exact Or.inr rfl) (c_c pe_str fun _ => .str _)))
  (PM.s_seq (pss_cons (PM.s_setO (ps_set (i := 3) sc_L_names.nd rfl (by first | exact Or.inl rfl | exact Or.inr rfl) (c_lst (pe_lst (a_nil pa_nil)))))
  (PM.s_seq (pss_cons (PM.s_for (ps_for PassesOwn.never rfl (c_irng (pi_range1 (by rfl) T.f_range (a_cons (pa_cons (c_v (pv 1)) (a_nil pa_nil))))) (c_gn (pg_name (i := 4) sc_L_names.nd rfl (by first | exact Or.inl rfl | exact Or.inr rfl)))
   (PM.s_seq (pss_cons (PM.s_set (ps_set (i := 5) sc_L_names.nd rfl (by first | exact Or.inl rfl | exact Or.inr rfl) (c_op od_mul (pe_op op_uMul (c_w (c_op od_ix (pe_ix ix_u (c_vw (pv 2)) (c_w (c_op od_mod (pe_op op_modN (c_w (c_op od_add (pe_op op_uAdd (c_w (c_op od_ix (pe_ix ix_u (c_vw (pv 0)) (c_w (c_c pe_int fun _ => .int _)) (fun _ _ => rfl)))) (c_w (c_op od_mul (pe_op op_uMul (c_w (c_c pe_int fun _ => .int _)) (c_vw (pv 4)))))))) (c_w (c_c pe_int fun _ => .int _))))) (fun _ _ => rfl)))) (c_w (c_op od_add (pe_op op_uAdd (c_w (c_c pe_int fun _ => .int _)) (c_w (c_op od_mod (pe_op op_modN (c_w (c_op od_add (pe_op op_uAdd (c_w (c_op od_ix (pe_ix ix_u (c_vw (pv 0)) (c_w (c_c pe_int fun _ => .int _)) (fun _ _ => rfl)))) (c_w (c_op od_mul (pe_op op_uMul (c_w (c_c pe_int fun _ => .int _)) (c_vw (pv 4)))))))) (c_w (c_op od_ix (pe_ix ix_u (c_fw (c_lst (pe_lst (a_cons (pa_cons (c_c pe_int fun _ => .int _) (a_cons (pa_cons (c_c pe_int fun _ => .int _) (a_nil pa_nil)))))))) (c_w (c_op od_mod (pe_op op_modN (c_w (c_op od_ix (pe_ix ix_u (c_vw (pv 0)) (c_w (c_c pe_int fun _ => .int _)) (fun _ _ => rfl)))) (c_w (c_c pe_int fun _ => .int _))))) (fun _ _ => rfl))))))))))))))
  (PM.s_seq (pss_cons (PM.s_if (ps_if (c_opT od_eq (pt_cmpR (op_eqK (room_u64 hr)) (c_w (c_op od_mod (pe_op op_modN (c_w (c_op od_ix (pe_ix ix_u (c_vw (pv 0)) (c_w (c_c pe_int fun _ => .int _)) (fun _ _ => rfl)))) (c_w (c_c pe_int fun _ => .int _))))) (c_w (c_c pe_int fun _ => .int _)) (nomark _))) (pss_one (PM.s_set (ps_set (i := 5) sc_L_names.nd rfl (by first | exact Or.inl rfl | exact Or.inr rfl) (c_op od_add (pe_op op_uAdd (c_w (c_op od_ix (pe_ix ix_u (c_w (c_c pe_str fun _ => .str _)) (c_vw (pv 4)) (fun _ _ => rfl)))) (c_w (c_op od_mul (pe_op op_uMul (c_w (c_op od_ix (pe_ix ix_u (c_vw (pv 2)) (c_w (c_op od_mod (pe_op op_modN (c_w (c_op od_ix (pe_ix ix_u (c_vw (pv 0)) (c_w (c_c pe_int fun _ => .int _)) (fun _ _ => rfl)))) (c_w (c_c pe_int fun _ => .int _))))) (fun _ _ => rfl)))) (c_w (c_op od_mod (pe_op op_modN (c_w (c_op od_ix (pe_ix ix_u (c_vw (pv 0)) (c_w (c_c pe_int fun _ => .int _)) (fun _ _ => rfl)))) (c_w (c_c pe_int fun _ => .int _))))))))))))) (PM.s_nil pss_nil)))
  (PM.s_seq (pss_cons (PM.s_if (ps_if (c_opT od_eq (pt_cmpR (op_eqK (room_u64 hr)) (c_w (c_op od_mod (pe_op op_modN (c_w (c_op od_ix (pe_ix ix_u (c_vw (pv 0)) (c_w (c_c pe_int fun _ => .int _)) (fun _ _ => rfl)))) (c_w (c_c pe_int fun _ => .int _))))) (c_w (c_c pe_int fun _ => .int _)) (nomark _))) (pss_one (PM.s_set (ps_set (i := 5) sc_L_names.nd rfl (by first | exact Or.inl rfl | exact Or.inr rfl) (c_op od_mul (pe_op op_uMul (c_w (c_op od_ix (pe_ix ix_u (c_vw (pv 2)) (c_w (c_op od_mod (pe_op op_modN (c_w (c_op od_ix (pe_ix ix_u (c_vw (pv 0)) (c_w (c_c pe_int fun _ => .int _)) (fun _ _ => rfl)))) (c_w (c_c pe_int fun _ => .int _))))) (fun _ _ => rfl)))) (c_w (c_op od_add (pe_op op_uAdd (c_w (c_c pe_int fun _ => .int _)) (c_vw (pv 4)))))))))) (PM.s_nil pss_nil)))
  (PM.s_seq (pss_cons (PM.s_if (ps_if (c_opT od_eq (pt_cmpR (op_eqK (room_u64 hr)) (c_w (c_op od_mod (pe_op op_modN (c_w (c_op od_ix (pe_ix ix_u (c_vw (pv 0)) (c_w (c_c pe_int fun _ => .int _)) (fun _ _ => rfl)))) (c_w (c_c pe_int fun _ => .int _))))) (c_w (c_c pe_int fun _ => .int _)) (nomark _))) (PM.s_seq (pss_cons (PM.s_set (ps_set (i := 6) sc_L_names.nd rfl (by first | exact Or.inl rfl | exact Or.inr rfl) (c_op od_ix (pe_ix ix_u (c_vw (pv 2)) (c_w (c_op od_mod (pe_op op_modN (c_w (c_op od_add (pe_op op_uAdd (c_w (c_op od_ix (pe_ix ix_u (c_vw (pv 0)) (c_w (c_c pe_int fun _ => .int _)) (fun _ _ => rfl)))) (c_w (c_op od_mul (pe_op op_uMul (c_w (c_c pe_int fun _ => .int _)) (c_vw (pv 4)))))))) (c_w (c_c pe_int fun _ => .int _))))) (fun _ _ => rfl)))))
  (pss_one (PM.s_set (ps_set (i := 5) sc_L_names.nd rfl (by first | exact Or.inl rfl | exact Or.inr rfl) (c_op od_add (pe_op op_uAdd (c_w (c_op od_add (pe_op op_uAdd (c_w (c_op od_ix (pe_ix ix_u (c_vw (pv 2)) (c_w (c_op od_mod (pe_op op_modN (c_w (c_op od_ix (pe_ix ix_u (c_vw (pv 0)) (c_w (c_c pe_int fun _ => .int _)) (fun _ _ => rfl)))) (c_w (c_c pe_int fun _ => .int _))))) (fun _ _ => rfl)))) (c_vw (pv 6))))) (c_w (c_op od_ix (pe_ix ix_u (c_vw (pv 2)) (c_w (c_op od_mod (pe_op op_modN (c_w (c_op od_ix (pe_ix ix_u (c_vw (pv 0)) (c_w (c_c pe_int fun _ => .int _)) (fun _ _ => rfl)))) (c_w (c_c pe_int fun _ => .int _))))) (fun _ _ => rfl))))))))))) (PM.s_nil pss_nil)))
  (pss_one (PM.s_app (ps_expr (pe_bm PySem.F.plainAttrs_list PySem.F.slot_list_append PySem.F.type_list_append mt_append (pv 3) (pa_cons (c_v (pv 5)) pa_nil)))))))))))))))
  (pss_one (PM.s_ret (ps_ret (c_f (c_cbF cb_sorted (pe_callB (cr_sortM (room_u64 hr)) (by rfl) T.f_sorted (by decide +kernel) (a_consw (pa_cons (c_vw (pv 3)) (a_nilw pa_nil))))) mSorted_is))))))))))), spM_in (N := N_L_names) h⟩)

abbrev N_L_place : List Str := ["_law_name", "_law_xs", "_law_top", "_law_wide", "_law_most", "_law_a", "_law_b", "_law_d", "_law_c"]
theorem sc_L_place : FnScope N_L_place ["_law_name", "_law_xs", "_law_top", "_law_wide"] (defScope s_L_place) := ⟨rfl, rfl, rfl, by decide +kernel, rfl, by decide +kernel, by decide +kernel⟩
theorem ok_L_place (T : Txt K mg) : OwnFn P w K mg base 1 "_law_place" ["_law_name", "_law_xs", "_law_top", "_law_wide"] (spM K (tabs K) M_L_place) := by
  exact own_ok (k := 0) T.D_L_place sc_L_place (fun _ _ _ _ _ _ us hl => match us, hl with | [_, _, _, _], _ => rfl) (fun vs H Q E h => spM_len h) (fun cdv A outer s H vs Q E hr h => ⟨_, PSs.nox (show PSs _ _ (tS K (tabs K) m_L_place) from (PM.s_seq (pss_cons (PM.s_set (ps_set (i := 4) sc_L_place.nd rfl (by first | exact Or.inl rfl | exact Or.inr rfl) (c_op od_ix (pe_ix ix_u (c_fw (c_lst (pe_lst (a_cons (pa_cons (c_c pe_int fun _ => .int _) (a_cons (pa_cons (c_c pe_int fun _ => .int _) (a_cons (pa_cons (c_c pe_int fun _ => .int _) (a_cons (pa_cons (c_c pe_int fun _ => .int _) (a_nil pa_nil)))))))))))) (c_vw (pv 3)) (fun _ _ => rfl)))))
  (PM.s_seq (pss_cons (PM.s_set (ps_set (i := 5) sc_L_place.nd rfl (by first | exact Or.inl rfl | exact Or.inr rfl) (c_op od_mod (pe_op op_modN (c_w (c_op od_ix (pe_ix ix_u (c_vw (pv 1)) (c_w (c_c pe_int fun _ => .int _)) (fun _ _ => rfl)))) (c_vw (pv 4))))))
  (PM.s_seq (pss_cons (PM.s_set (ps_set (i := 6) sc_L_place.nd rfl (by first | exact Or.inl rfl | exact Or.inr rfl) (c_op od_mod (pe_op op_modN (c_w (c_op od_ix (pe_ix ix_u (c_vw (pv 1)) (c_w (c_c pe_int fun _ => .int _)) (fun _ _ => rfl)))) (c_w (c_op od_ix (pe_ix ix_u (c_fw (c_lst (pe_lst (a_cons (pa_cons (c_c pe_int fun _ => .int _) (a_cons (pa_cons (c_c pe_int fun _ => .int _) (a_cons (pa_cons (c_c pe_int fun _ => .int _) (a_cons (pa_cons (c_c pe_int fun _ => .int _) (a_nil pa_nil)))))))))))) (c_vw (pv 3)) (fun _ _ => rfl))))))))
  (PM.s_seq (pss_cons (PM.s_set (ps_set (i := 7) sc_L_place.nd rfl (by first | exact Or.inl rfl | exact Or.inr rfl) (c_op od_mod (pe_op op_modN (c_w (c_op od_ix (pe_ix ix_u (c_vw (pv 1)) (c_w (c_c pe_int fun _ => .int _)) (fun _ _ => rfl)))) (c_w (c_op od_ix (pe_ix ix_u (c_fw (c_lst (pe_lst (a_cons (pa_cons (c_c pe_int fun _ => .int _) (a_cons (pa_cons (c_c pe_int fun _ => .int _) (a_cons (pa_cons (c_c pe_int fun _ => .int _) (a_cons (pa_cons (c_c pe_int fun _ => .int _) (a_nil pa_nil)))))))))))) (c_vw (pv 3)) (fun _ _ => rfl))))))))
  (PM.s_seq (pss_cons (PM.s_set (ps_set (i := 8) sc_L_place.nd rfl (by first | exact Or.inl rfl | exact Or.inr rfl) (c_op od_add (pe_op op_uAdd (c_w (c_op od_mul (pe_op op_uMul (c_vw (pv 7)) (c_vw (pv 2))))) (c_w (c_op od_mod (pe_op op_modN (c_w (c_op od_ix (pe_ix ix_u (c_vw (pv 1)) (c_w (c_c pe_int fun _ => .int _)) (fun _ _ => rfl)))) (c_w (c_op od_ix (pe_ix ix_u (c_fw (c_lst (pe_lst (a_cons (pa_cons (c_c pe_int fun _ => .int _) (a_cons (pa_cons (c_c pe_int fun _ => .int _) (a_cons (pa_cons (c_c pe_int fun _ => .int _) (a_cons (pa_cons (c_c pe_int fun _ => .int _) (a_nil pa_nil)))))))))))) (c_vw (pv 3)) (fun _ _ => rfl)))))))))))
  (PM.s_seq (pss_cons (PM.s_if (ps_if (c_opT od_eq (pt_cmpR (op_eqK (room_u64 hr)) (c_w (c_op od_mod (pe_op op_modN (c_w (c_op od_ix (pe_ix ix_u (c_vw (pv 1)) (c_w (c_c pe_int fun _ => .int _)) (fun _ _ => rfl)))) (c_w (c_c pe_int fun _ => .int _))))) (c_w (c_c pe_int fun _ => .int _)) (nomark _))) (pss_one (PM.s_par (ps_par (i := 5) (j := 6) rfl sc_L_place.nd rfl rfl (by decide) rfl rfl (a_cons (pa_cons (c_c pe_int fun _ => .int _) (a_cons (pa_cons (c_op od_mod (pe_op op_modN (c_w (c_op od_fdv (pe_op op_fdivG (c_w (c_op od_ix (pe_ix ix_u (c_vw (pv 1)) (c_w (c_c pe_int fun _ => .int _)) (fun _ _ => rfl)))) (c_w (c_c pe_int fun _ => .int _))))) (c_w (c_c pe_int fun _ => .int _)))) (a_nil pa_nil))))) (by rfl)))) (PM.s_nil pss_nil)))
  (PM.s_seq (pss_cons (PM.s_if (ps_if (c_opT od_eq (pt_cmpR (op_eqK (room_u64 hr)) (c_w (c_op od_mod (pe_op op_modN (c_w (c_op od_ix (pe_ix ix_u (c_vw (pv 1)) (c_w (c_c pe_int fun _ => .int _)) (fun _ _ => rfl)))) (c_w (c_c pe_int fun _ => .int _))))) (c_w (c_c pe_int fun _ => .int _)) (nomark _))) (PM.s_seq (pss_cons (PM.s_set (ps_set (i := 7) sc_L_place.nd rfl (by first | exact Or.inl rfl | exact Or.inr rfl) (c_c pe_int fun _ => .int _)))
  (pss_one (PM.s_set (ps_set (i := 8) sc_L_place.nd rfl (by first | exact Or.inl rfl | exact Or.inr rfl) (c_op od_mod (pe_op op_modN (c_w (c_op od_ix (pe_ix ix_u (c_vw (pv 1)) (c_w (c_c pe_int fun _ => .int _)) (fun _ _ => rfl)))) (c_w (c_op od_ix (pe_ix ix_u (c_fw (c_lst (pe_lst (a_cons (pa_cons (c_c pe_int fun _ => .int _) (a_cons (pa_cons (c_c pe_int fun _ => .int _) (a_cons (pa_cons (c_c pe_int fun _ => .int _) (a_cons (pa_cons (c_c pe_int fun _ => .int _) (a_nil pa_nil)))))))))))) (c_vw (pv 3)) (fun _ _ => rfl))))))))))) (PM.s_nil pss_nil)))
  (pss_one (PM.s_ret (ps_ret (c_tup (pe_tup (a_cons (pa_cons (c_v (pv 0)) (a_cons (pa_cons (c_v (pv 5)) (a_cons (pa_cons (c_v (pv 6)) (a_cons (pa_cons (c_v (pv 8)) (a_cons (pa_cons (c_v (pv 7)) (a_nil pa_nil))))))))))))))))))))))))))))))), spM_in (N := N_L_place) h⟩)

abbrev N_L_ties : List Str := ["_law_names_here", "_law_script", "_law_at", "_law_many", "_law_wide", "_law_found", "_law_k", "_law_xs", "_law_one", "_law_other", "_law_size", "_law_pair"]
theorem sc_L_ties : FnScope N_L_ties ["_law_names_here", "_law_script", "_law_at", "_law_many", "_law_wide"] (defScope s_L_ties) := ⟨rfl, rfl, rfl, by decide +kernel, rfl, by decide +kernel, by decide +kernel⟩
theorem ok_L_ties (T : Txt K mg) (F_L_cell : OwnFn P w K mg base 1 "_law_cell" ["_law_script", "_law_k"] (spM K (tabs K) M_L_cell)) (F_L_numbers : OwnFn P w K mg base 1 "_law_numbers" ["_law_cell_here", "_law_many"] (spM K (tabs K) M_L_numbers)) : OwnFn P w K mg base 2 "_law_ties" ["_law_names_here", "_law_script", "_law_at", "_law_many", "_law_wide"] (spM K (tabs K) M_L_ties) := by
  exact own_ok (k := 1) T.D_L_ties sc_L_ties (fun _ _ _ _ _ _ us hl => match us, hl with | [_, _, _, _, _], _ => rfl) (fun vs H Q E h => spM_len h) (fun cdv A outer s H vs Q E hr h => ⟨_, PSs.nox (show PSs _ _ (tS K (tabs K) m_L_ties) from (PM.s_seq (pss_cons (PM.s_setO (ps_set (i := 5) sc_L_ties.nd rfl (by first | exact Or.inl rfl | exact Or.inr rfl) (c_dnew pe_dnewT)))
  (PM.s_seq (pss_cons (PM.s_for (ps_for PassesOwn.never rfl (c_irng (pi_range1 (by rfl) T.f_range (a_cons (pa_cons (c_v (pv 3)) (a_nil pa_nil))))) (c_gn (pg_name (i := 6) sc_L_ties.nd rfl (by first | exact Or.inl rfl | exact Or.inr rfl)))
   (PM.s_seq (pss_cons (PM.s_set (ps_set (i := 7) sc_L_ties.nd rfl (by first | exact Or.inl rfl | exact Or.inr rfl) (c_call (pe_own F_L_numbers hr passL (a_cons (pa_cons (c_call (pe_own F_L_cell hr passL (a_cons (pa_cons (c_v (pv 1)) (a_cons (pa_cons (c_op od_add (pe_op op_uAdd (c_vw (pv 2)) (c_vw (pv 6)))) (a_nil pa_nil))))))) (a_cons (pa_cons (c_c pe_int fun _ => .int _) (a_nil pa_nil)))))))))
  (PM.s_seq (pss_cons (PM.s_set (ps_set (i := 8) sc_L_ties.nd rfl (by first | exact Or.inl rfl | exact Or.inr rfl) (c_op od_mod (pe_op op_modN (c_w (c_op od_ix (pe_ix ix_u (c_vw (pv 7)) (c_w (c_c pe_int fun _ => .int _)) (fun _ _ => rfl)))) (c_w (c_cb cb_len (pe_callB (call_lenK K) (by rfl) T.f_len (by decide +kernel) (a_consw (pa_cons (c_vw (pv 0)) (a_nilw pa_nil))))))))))
  (PM.s_seq (pss_cons (PM.s_set (ps_set (i := 9) sc_L_ties.nd rfl (by first | exact Or.inl rfl | exact Or.inr rfl) (c_op od_mod (pe_op op_modN (c_w (c_op od_add (pe_op op_uAdd (c_w (c_op od_add (pe_op op_uAdd (c_vw (pv 8)) (c_w (c_c pe_int fun _ => .int _))))) (c_w (c_op od_mod (pe_op op_modN (c_w (c_op od_ix (pe_ix ix_u (c_vw (pv 7)) (c_w (c_c pe_int fun _ => .int _)) (fun _ _ => rfl)))) (c_w (c_cb cb_max (pe_callB (call_max2 rfl) (by rfl) T.f_max (by decide +kernel) (a_consw (pa_cons (c_w (c_c pe_int fun _ => .int _)) (a_consw (pa_cons (c_w (c_op od_sub (pe_op op_sub (c_w (c_cb cb_len (pe_callB (call_lenK K) (by rfl) T.f_len (by decide +kernel) (a_consw (pa_cons (c_vw (pv 0)) (a_nilw pa_nil)))))) (c_w (c_c pe_int fun _ => .int _))))) (a_nilw pa_nil)))))))))))))) (c_w (c_cb cb_len (pe_callB (call_lenK K) (by rfl) T.f_len (by decide +kernel) (a_consw (pa_cons (c_vw (pv 0)) (a_nilw pa_nil))))))))))
  (PM.s_seq (pss_cons (PM.s_set (ps_set (i := 10) sc_L_ties.nd rfl (by first | exact Or.inl rfl | exact Or.inr rfl) (c_op od_ix (pe_ix ix_u (c_fw (c_lst (pe_lst (a_cons (pa_cons (c_op od_add (pe_op op_uAdd (c_w (c_c pe_int fun _ => .int _)) (c_w (c_op od_mod (pe_op op_modN (c_w (c_op od_ix (pe_ix ix_u (c_vw (pv 7)) (c_w (c_c pe_int fun _ => .int _)) (fun _ _ => rfl)))) (c_w (c_c pe_int fun _ => .int _))))))) (a_cons (pa_cons (c_op od_add (pe_op op_uAdd (c_w (c_c pe_int fun _ => .int _)) (c_w (c_op od_mod (pe_op op_modN (c_w (c_op od_ix (pe_ix ix_u (c_vw (pv 7)) (c_w (c_c pe_int fun _ => .int _)) (fun _ _ => rfl)))) (c_w (c_c pe_int fun _ => .int _))))))) (a_cons (pa_cons (c_op od_add (pe_op op_uAdd (c_w (c_c pe_int fun _ => .int _)) (c_w (c_op od_mod (pe_op op_modN (c_w (c_op od_ix (pe_ix ix_u (c_vw (pv 7)) (c_w (c_c pe_int fun _ => .int _)) (fun _ _ => rfl)))) (c_w (c_c pe_int fun _ => .int _))))))) (a_cons (pa_cons (c_op od_add (pe_op op_uAdd (c_w (c_c pe_int fun _ => .int _)) (c_w (c_op od_mod (pe_op op_modN (c_w (c_op od_ix (pe_ix ix_u (c_vw (pv 7)) (c_w (c_c pe_int fun _ => .int _)) (fun _ _ => rfl)))) (c_w (c_c pe_int fun _ => .int _))))))) (a_nil pa_nil)))))))))))) (c_vw (pv 4)) (fun _ _ => rfl)))))
  (pss_one (PM.s_if (ps_if (c_opT od_ne (pt_cmpR (op_neK (room_u64 hr)) (c_vw (pv 8)) (c_vw (pv 9)) (nomark _))) (PM.s_seq (pss_cons (PM.s_dput (ps_dput (room_u hr) (pv 5) (pe_tup (a_cons (pa_cons (c_op od_ix (pe_ix ix_u (c_vw (pv 0)) (c_vw (pv 8)) (fun _ _ => rfl))) (a_cons (pa_cons (c_op od_ix (pe_ix ix_u (c_vw (pv 0)) (c_vw (pv 9)) (fun _ _ => rfl))) (a_nil pa_nil)))))) (c_v (pv 10)) (by rfl)))
  (pss_one (PM.s_if (ps_if (PW.pt (c_and (pw_and (c_opT od_eq (pt_cmpR (op_eqK (room_u64 hr)) (c_w (c_op od_mod (pe_op op_modN (c_w (c_op od_ix (pe_ix ix_u (c_vw (pv 7)) (c_w (c_c pe_int fun _ => .int _)) (fun _ _ => rfl)))) (c_w (c_c pe_int fun _ => .int _))))) (c_w (c_c pe_int fun _ => .int _)) (nomark _))) (pw_and1 (c_opT od_lt (pt_cmpR op_uLt (c_w (c_lenD (pe_callB call_len_dT (by rfl) T.f_len (by decide +kernel) (pa_cons (pv 5) pa_nil)))) (c_w (c_c pe_int fun _ => .int _)) (nomark _))))))) (pss_one (PM.s_dput (ps_dput (room_u hr) (pv 5) (pe_tup (a_cons (pa_cons (c_op od_ix (pe_ix ix_u (c_vw (pv 0)) (c_vw (pv 9)) (fun _ _ => rfl))) (a_cons (pa_cons (c_op od_ix (pe_ix ix_u (c_vw (pv 0)) (c_vw (pv 8)) (fun _ _ => rfl))) (a_nil pa_nil)))))) (c_op od_add (pe_op op_uAdd (c_w (c_c pe_int fun _ => .int _)) (c_w (c_op od_mod (pe_op op_modN (c_w (c_op od_ix (pe_ix ix_u (c_vw (pv 7)) (c_w (c_c pe_int fun _ => .int _)) (fun _ _ => rfl)))) (c_w (c_c pe_int fun _ => .int _))))))) (by rfl)))) (PM.s_nil pss_nil)))))) (PM.s_nil pss_nil))))))))))))))
  (pss_one (PM.s_ret (ps_ret (c_cb cb_tuple (pe_callTy (call_tupK K) (by rfl) T.f_tuple (by decide +kernel) (a_consw (pa_cons (c_w (c_sl (pe_slice sl_u (c_fw (c_ties (by decide) (pe_lc (own := [("_law_pair", 11)]) (by rfl) sc_L_ties.nd (pi_list (pe_callB (cr_sortDT rfl (room_u64 hr)) (by rfl) T.f_sorted (by decide +kernel) (pa_cons (pv 5) pa_nil))) (blkOk_by (own := [("_law_pair", 11)]) (N := N_L_ties) (sc := defScope s_L_ties) (by decide +kernel)) (fun _ _ _ _ _ => (pg_name (i := 11) sc_L_ties.nd rfl (by first | exact Or.inl rfl | exact Or.inr rfl))) (fun _ _ _ _ _ => pts_nil) (fun _ _ _ _ _ => (pe_op op_uAdd (pv 11) (pe_tup (pa_cons (pe_dget (room_u hr) (pv 5) (pv 11) (fun _ _ => rfl)) pa_nil))))))) (c_pno po_none) (c_pso (po_some (c_c pe_int fun _ => .int _)))))) (a_nilw pa_nil))))))))))))), spM_in (N := N_L_ties) h⟩)

abbrev N_L_web : List Str := ["_law_script", "_law_at", "_law_most", "_law_head", "_law_top", "_law_many", "_law_wide", "_law_names_here", "_law_places", "_law_k", "_law_ties_here"]
theorem sc_L_web : FnScope N_L_web ["_law_script", "_law_at", "_law_most"] (defScope s_L_web) := ⟨rfl, rfl, rfl, by decide +kernel, rfl, by decide +kernel, by decide +kernel⟩
theorem ok_L_web (T : Txt K mg) (F_L_cell : OwnFn P w K mg base 1 "_law_cell" ["_law_script", "_law_k"] (spM K (tabs K) M_L_cell)) (F_L_numbers : OwnFn P w K mg base 1 "_law_numbers" ["_law_cell_here", "_law_many"] (spM K (tabs K) M_L_numbers)) (F_L_names : OwnFn P w K mg base 1 "_law_names" ["_law_xs", "_law_many"] (spM K (tabs K) M_L_names)) (F_L_place : OwnFn P w K mg base 1 "_law_place" ["_law_name", "_law_xs", "_law_top", "_law_wide"] (spM K (tabs K) M_L_place)) (F_L_ties : OwnFn P w K mg base 2 "_law_ties" ["_law_names_here", "_law_script", "_law_at", "_law_many", "_law_wide"] (spM K (tabs K) M_L_ties)) : OwnFn P w K mg base 3 "_law_web" ["_law_script", "_law_at", "_law_most"] (spM K (tabs K) M_L_web) := by
  exact own_ok (k := 2) T.D_L_web sc_L_web (fun _ _ _ _ _ _ us hl => match us, hl with | [_, _, _], _ => rfl) (fun vs H Q E h => spM_len h) (fun cdv A outer s H vs Q E hr h => ⟨_, PSs.nox (show PSs _ _ (tS K (tabs K) m_L_web) from (PM.s_seq (pss_cons (PM.s_set (ps_set (i := 3) sc_L_web.nd rfl (by first | exact Or.inl rfl | exact Or.inr rfl) (c_call (pe_own F_L_numbers hr passL (a_cons (pa_cons (c_call (pe_own F_L_cell hr passL (a_cons (pa_cons (c_v (pv 0)) (a_cons (pa_cons (c_v (pv 1)) (a_nil pa_nil))))))) (a_cons (pa_cons (c_c pe_int fun _ => .int _) (a_nil pa_nil)))))))))
  (PM.s_seq (pss_cons (PM.s_set (ps_set (i := 4) sc_L_web.nd rfl (by first | exact Or.inl rfl | exact Or.inr rfl) (c_op od_add (pe_op op_uAdd (c_w (c_c pe_int fun _ => .int _)) (c_w (c_op od_mod (pe_op op_modN (c_w (c_op od_ix (pe_ix ix_u (c_vw (pv 3)) (c_w (c_c pe_int fun _ => .int _)) (fun _ _ => rfl)))) (c_w (c_c pe_int fun _ => .int _)))))))))
  (PM.s_seq (pss_cons (PM.s_set (ps_set (i := 5) sc_L_web.nd rfl (by first | exact Or.inl rfl | exact Or.inr rfl) (c_op od_add (pe_op op_uAdd (c_w (c_c pe_int fun _ => .int _)) (c_w (c_op od_mod (pe_op op_modN (c_w (c_op od_ix (pe_ix ix_u (c_vw (pv 3)) (c_w (c_c pe_int fun _ => .int _)) (fun _ _ => rfl)))) (c_vw (pv 2)))))))))
  (PM.s_seq (pss_cons (PM.s_set (ps_set (i := 6) sc_L_web.nd rfl (by first | exact Or.inl rfl | exact Or.inr rfl) (c_op od_ix (pe_ix ix_u (c_fw (c_lst (pe_lst (a_cons (pa_cons (c_c pe_int fun _ => .int _) (a_cons (pa_cons (c_c pe_int fun _ => .int _) (a_cons (pa_cons (c_c pe_int fun _ => .int _) (a_cons (pa_cons (c_c pe_int fun _ => .int _) (a_cons (pa_cons (c_c pe_int fun _ => .int _) (a_nil pa_nil)))))))))))))) (c_w (c_op od_mod (pe_op op_modN (c_w (c_op od_ix (pe_ix ix_u (c_vw (pv 3)) (c_w (c_c pe_int fun _ => .int _)) (fun _ _ => rfl)))) (c_w (c_c pe_int fun _ => .int _))))) (fun _ _ => rfl)))))
  (PM.s_seq (pss_cons (PM.s_set (ps_set (i := 7) sc_L_web.nd rfl (by first | exact Or.inl rfl | exact Or.inr rfl) (c_call (pe_own F_L_names hr passL (a_cons (pa_cons (c_v (pv 3)) (a_cons (pa_cons (c_v (pv 5)) (a_nil pa_nil)))))))))
  (PM.s_seq (pss_cons (PM.s_setO (ps_set (i := 8) sc_L_web.nd rfl (by first | exact Or.inl rfl | exact Or.inr rfl) (c_lst (pe_lst (a_nil pa_nil)))))
  (PM.s_seq (pss_cons (PM.s_for (ps_for PassesOwn.never rfl (c_irng (pi_range1 (by rfl) T.f_range (a_cons (pa_cons (c_v (pv 5)) (a_nil pa_nil))))) (c_gn (pg_name (i := 9) sc_L_web.nd rfl (by first | exact Or.inl rfl | exact Or.inr rfl)))
   (pss_one (PM.s_app (ps_expr (pe_bm PySem.F.plainAttrs_list PySem.F.slot_list_append PySem.F.type_list_append mt_append (pv 8) (pa_cons (c_call (pe_own F_L_place hr passL (a_cons (pa_cons (c_op od_ix (pe_ix ix_u (c_vw (pv 7)) (c_vw (pv 9)) (fun _ _ => rfl))) (a_cons (pa_cons (c_call (pe_own F_L_numbers hr passL (a_cons (pa_cons (c_call (pe_own F_L_cell hr passL (a_cons (pa_cons (c_v (pv 0)) (a_cons (pa_cons (c_op od_add (pe_op op_uAdd (c_w (c_op od_add (pe_op op_uAdd (c_vw (pv 1)) (c_w (c_c pe_int fun _ => .int _))))) (c_vw (pv 9)))) (a_nil pa_nil))))))) (a_cons (pa_cons (c_c pe_int fun _ => .int _) (a_nil pa_nil))))))) (a_cons (pa_cons (c_v (pv 4)) (a_cons (pa_cons (c_v (pv 6)) (a_nil pa_nil))))))))))) pa_nil)))))))
  (PM.s_seq (pss_cons (PM.s_set (ps_set (i := 10) sc_L_web.nd rfl (by first | exact Or.inl rfl | exact Or.inr rfl) (c_call (pe_own F_L_ties hr passL (a_cons (pa_cons (c_v (pv 7)) (a_cons (pa_cons (c_v (pv 0)) (a_cons (pa_cons (c_op od_add (pe_op op_uAdd (c_w (c_op od_add (pe_op op_uAdd (c_vw (pv 1)) (c_w (c_c pe_int fun _ => .int _))))) (c_vw (pv 5)))) (a_cons (pa_cons (c_op od_mod (pe_op op_modN (c_w (c_op od_ix (pe_ix ix_u (c_vw (pv 3)) (c_w (c_c pe_int fun _ => .int _)) (fun _ _ => rfl)))) (c_w (c_op od_add (pe_op op_uAdd (c_w (c_op od_mul (pe_op op_uMul (c_w (c_c pe_int fun _ => .int _)) (c_vw (pv 5))))) (c_w (c_c pe_int fun _ => .int _))))))) (a_cons (pa_cons (c_v (pv 6)) (a_nil pa_nil)))))))))))))))
  (pss_one (PM.s_ret (ps_ret (c_tup (pe_tup (a_cons (pa_cons (c_v (pv 4)) (a_cons (pa_cons (c_cb cb_tuple (pe_callTy (call_tupK K) (by rfl) T.f_tuple (by decide +kernel) (a_consw (pa_cons (c_vw (pv 8)) (a_nilw pa_nil))))) (a_cons (pa_cons (c_v (pv 10)) (a_nil pa_nil))))))))))))))))))))))))))))), spM_in (N := N_L_web) h⟩)

abbrev N_L_chain : List Str := ["_law_xs", "_law_many", "_law_names_here", "_law_top", "_law_places", "_law_k", "_law_order", "_law_ties_here", "_law_b"]
theorem sc_L_chain : FnScope N_L_chain ["_law_xs", "_law_many"] (defScope s_L_chain) := ⟨rfl, rfl, rfl, by decide +kernel, rfl, by decide +kernel, by decide +kernel⟩
theorem ok_L_chain (T : Txt K mg) (F_L_names : OwnFn P w K mg base 1 "_law_names" ["_law_xs", "_law_many"] (spM K (tabs K) M_L_names)) : OwnFn P w K mg base 2 "_law_chain" ["_law_xs", "_law_many"] (spM K (tabs K) M_L_chain) := by
  exact own_ok (k := 1) T.D_L_chain sc_L_chain (fun _ _ _ _ _ _ us hl => match us, hl with | [_, _], _ => rfl) (fun vs H Q E h => spM_len h) (fun cdv A outer s H vs Q E hr h => ⟨_, PSs.nox (show PSs _ _ (tS K (tabs K) m_L_chain) from (PM.s_seq (pss_cons (PM.s_set (ps_set (i := 2) sc_L_chain.nd rfl (by first | exact Or.inl rfl | exact Or.inr rfl) (c_call (pe_own F_L_names hr passL (a_cons (pa_cons (c_v (pv 0)) (a_cons (pa_cons (c_v (pv 1)) (a_nil pa_nil)))))))))
  (PM.s_seq (pss_cons (PM.s_set (ps_set (i := 3) sc_L_chain.nd rfl (by first | exact Or.inl rfl | exact Or.inr rfl) (c_op od_add (pe_op op_uAdd (c_w (c_c pe_int fun _ => .int _)) (c_w (c_op od_mod (pe_op op_modN (c_w (c_op od_ix (pe_ix ix_u (c_vw (pv 0)) (c_w (c_c pe_int fun _ => .int _)) (fun _ _ => rfl)))) (c_w (c_c pe_int fun _ => .int _)))))))))
  (PM.s_seq (pss_cons (PM.s_setO (ps_set (i := 4) sc_L_chain.nd rfl (by first | exact Or.inl rfl | exact Or.inr rfl) (c_lst (pe_lst (a_nil pa_nil)))))
  (PM.s_seq (pss_cons (PM.s_for (ps_for PassesOwn.never rfl (c_irng (pi_range1 (by rfl) T.f_range (a_cons (pa_cons (c_v (pv 1)) (a_nil pa_nil))))) (c_gn (pg_name (i := 5) sc_L_chain.nd rfl (by first | exact Or.inl rfl | exact Or.inr rfl)))
   (PM.s_seq (pss_cons (PM.s_set (ps_set (i := 8) sc_L_chain.nd rfl (by first | exact Or.inl rfl | exact Or.inr rfl) (c_op od_mul (pe_op op_uMul (c_w (c_op od_add (pe_op op_uAdd (c_w (c_c pe_int fun _ => .int _)) (c_w (c_op od_mod (pe_op op_modN (c_w (c_op od_ix (pe_ix ix_u (c_vw (pv 0)) (c_w (c_c pe_int fun _ => .int _)) (fun _ _ => rfl)))) (c_w (c_c pe_int fun _ => .int _)))))))) (c_w (c_cb cb_int (pe_callTy call_int1 (by rfl) T.f_int (by decide +kernel) (a_consw (pa_cons (c_w (c_op od_eq (pe_cmpR (op_eqK (room_u64 hr)) (c_vw (pv 5)) (c_w (c_c pe_int fun _ => .int _)) (nomark _)))) (a_nilw pa_nil))))))))))
  (pss_one (PM.s_app (ps_expr (pe_bm PySem.F.plainAttrs_list PySem.F.slot_list_append PySem.F.type_list_append mt_append (pv 4) (pa_cons (c_tup (pe_tup (a_cons (pa_cons (c_op od_ix (pe_ix ix_u (c_vw (pv 2)) (c_vw (pv 5)) (fun _ _ => rfl))) (a_cons (pa_cons (c_c pe_int fun _ => .int _) (a_cons (pa_cons (c_v (pv 8)) (a_cons (pa_cons (c_op od_ix (pe_ix ix_u (c_fw (c_lst (pe_lst (a_cons (pa_cons (c_c pe_int fun _ => .int _) (a_cons (pa_cons (c_op od_mul (pe_op op_uMul (c_vw (pv 3)) (c_w (c_c pe_int fun _ => .int _)))) (a_nil pa_nil)))))))) (c_w (c_cb cb_int (pe_callTy call_int1 (by rfl) T.f_int (by decide +kernel) (a_consw (pa_cons (c_w (c_op od_eq (pe_cmpR (op_eqK (room_u64 hr)) (c_vw (pv 5)) (c_w (c_op od_sub (pe_op op_sub (c_vw (pv 1)) (c_w (c_c pe_int fun _ => .int _))))) (nomark _)))) (a_nilw pa_nil)))))) (fun _ _ => rfl))) (a_cons (pa_cons (c_c pe_int fun _ => .int _) (a_nil pa_nil))))))))))))) pa_nil)))))))))
  (PM.s_seq (pss_cons (PM.s_set (ps_set (i := 6) sc_L_chain.nd rfl (by first | exact Or.inl rfl | exact Or.inr rfl) (c_f (c_lrg (pe_listRg rfl (by rfl) T.f_list (prg_1 (by rfl) T.f_range (c_v (pv 1))))) mLrg_is)))
  (PM.s_seq (pss_cons (PM.s_if (ps_if (c_opT od_eq (pt_cmpR (op_eqK (room_u64 hr)) (c_w (c_op od_mod (pe_op op_modN (c_w (c_op od_ix (pe_ix ix_u (c_vw (pv 0)) (c_w (c_c pe_int fun _ => .int _)) (fun _ _ => rfl)))) (c_w (c_c pe_int fun _ => .int _))))) (c_w (c_c pe_int fun _ => .int _)) (nomark _))) (pss_one (PM.s_set (ps_set (i := 6) sc_L_chain.nd rfl (by first | exact Or.inl rfl | exact Or.inr rfl) (c_revU (c_rev (pe_revK (c_vw (pv 6)))) (c_revL (pe_revL (c_vw (pv 6)))))))) (PM.s_nil pss_nil)))
  (PM.s_seq (pss_cons (PM.s_setO (ps_set (i := 7) sc_L_chain.nd rfl (by first | exact Or.inl rfl | exact Or.inr rfl) (c_lst (pe_lst (a_nil pa_nil)))))
  (PM.s_seq (pss_cons (PM.s_for (ps_for PassesOwn.never rfl (c_irng (pi_range1 (by rfl) T.f_range (a_cons (pa_cons (c_op od_sub (pe_op op_sub (c_vw (pv 1)) (c_w (c_c pe_int fun _ => .int _)))) (a_nil pa_nil))))) (c_gn (pg_name (i := 5) sc_L_chain.nd rfl (by first | exact Or.inl rfl | exact Or.inr rfl)))
   (pss_one (PM.s_app (ps_expr (pe_bm PySem.F.plainAttrs_list PySem.F.slot_list_append PySem.F.type_list_append mt_append (pv 7) (pa_cons (c_tup (pe_tup (a_cons (pa_cons (c_op od_ix (pe_ix ix_u (c_vw (pv 2)) (c_w (c_op od_ix (pe_ix ix_u (c_vw (pv 6)) (c_vw (pv 5)) (fun _ _ => rfl)))) (fun _ _ => rfl))) (a_cons (pa_cons (c_op od_ix (pe_ix ix_u (c_vw (pv 2)) (c_w (c_op od_ix (pe_ix ix_u (c_vw (pv 6)) (c_w (c_op od_add (pe_op op_uAdd (c_vw (pv 5)) (c_w (c_c pe_int fun _ => .int _))))) (fun _ _ => rfl)))) (fun _ _ => rfl))) (a_cons (pa_cons (c_op od_add (pe_op op_uAdd (c_w (c_c pe_int fun _ => .int _)) (c_w (c_op od_mod (pe_op op_modN (c_w (c_op od_add (pe_op op_uAdd (c_w (c_op od_ix (pe_ix ix_u (c_vw (pv 0)) (c_w (c_c pe_int fun _ => .int _)) (fun _ _ => rfl)))) (c_w (c_op od_mul (pe_op op_uMul (c_w (c_c pe_int fun _ => .int _)) (c_vw (pv 5)))))))) (c_w (c_c pe_int fun _ => .int _))))))) (a_nil pa_nil))))))))) pa_nil)))))))
  (pss_one (PM.s_ret (ps_ret (c_tup (pe_tup (a_cons (pa_cons (c_v (pv 3)) (a_cons (pa_cons (c_cb cb_tuple (pe_callTy (call_tupK K) (by rfl) T.f_tuple (by decide +kernel) (a_consw (pa_cons (c_vw (pv 4)) (a_nilw pa_nil))))) (a_cons (pa_cons (c_cb cb_tuple (pe_callTy (call_tupK K) (by rfl) T.f_tuple (by decide +kernel) (a_consw (pa_cons (c_fw (c_cbF cb_sorted (pe_callB (cr_sortM (room_u64 hr)) (by rfl) T.f_sorted (by decide +kernel) (a_consw (pa_cons (c_vw (pv 7)) (a_nilw pa_nil)))))) (a_nilw pa_nil))))) (a_nil pa_nil))))))))))))))))))))))))))))), spM_in (N := N_L_chain) h⟩)

abbrev N_L_drawn : List Str := ["_law_script", "_law_at", "_law_xs"]
theorem sc_L_drawn : FnScope N_L_drawn ["_law_script", "_law_at"] (defScope s_L_drawn) := ⟨rfl, rfl, rfl, by decide +kernel, rfl, by decide +kernel, by decide +kernel⟩
theorem ok_L_drawn (T : Txt K mg) (F_L_cell : OwnFn P w K mg base 1 "_law_cell" ["_law_script", "_law_k"] (spM K (tabs K) M_L_cell)) (F_L_numbers : OwnFn P w K mg base 1 "_law_numbers" ["_law_cell_here", "_law_many"] (spM K (tabs K) M_L_numbers)) (F_L_web : OwnFn P w K mg base 3 "_law_web" ["_law_script", "_law_at", "_law_most"] (spM K (tabs K) M_L_web)) (F_L_chain : OwnFn P w K mg base 2 "_law_chain" ["_law_xs", "_law_many"] (spM K (tabs K) M_L_chain)) : OwnFn P w K mg base 4 "_law_drawn" ["_law_script", "_law_at"] (spM K (tabs K) M_L_drawn) := by
  exact own_ok (k := 3) T.D_L_drawn sc_L_drawn (fun _ _ _ _ _ _ us hl => match us, hl with | [_, _], _ => rfl) (fun vs H Q E h => spM_len h) (fun cdv A outer s H vs Q E hr h => ⟨_, PSs.nox (show PSs _ _ (tS K (tabs K) m_L_drawn) from (PM.s_seq (pss_cons (PM.s_set (ps_set (i := 2) sc_L_drawn.nd rfl (by first | exact Or.inl rfl | exact Or.inr rfl) (c_call (pe_own F_L_numbers hr passL (a_cons (pa_cons (c_call (pe_own F_L_cell hr passL (a_cons (pa_cons (c_v (pv 0)) (a_cons (pa_cons (c_v (pv 1)) (a_nil pa_nil))))))) (a_cons (pa_cons (c_c pe_int fun _ => .int _) (a_nil pa_nil)))))))))
  (PM.s_seq (pss_cons (PM.s_if (ps_if (c_opT od_eq (pt_cmpR (op_eqK (room_u64 hr)) (c_w (c_op od_mod (pe_op op_modN (c_w (c_op od_ix (pe_ix ix_u (c_vw (pv 2)) (c_w (c_c pe_int fun _ => .int _)) (fun _ _ => rfl)))) (c_w (c_c pe_int fun _ => .int _))))) (c_w (c_c pe_int fun _ => .int _)) (nomark _))) (pss_one (PM.s_ret (ps_ret (c_call (pe_own F_L_web hr passL (a_cons (pa_cons (c_v (pv 0)) (a_cons (pa_cons (c_v (pv 1)) (a_cons (pa_cons (c_c pe_int fun _ => .int _) (a_nil pa_nil)))))))))))) (PM.s_nil pss_nil)))
  (PM.s_seq (pss_cons (PM.s_if (ps_if (c_opT od_eq (pt_cmpR (op_eqK (room_u64 hr)) (c_w (c_op od_mod (pe_op op_modN (c_w (c_op od_ix (pe_ix ix_u (c_vw (pv 2)) (c_w (c_c pe_int fun _ => .int _)) (fun _ _ => rfl)))) (c_w (c_c pe_int fun _ => .int _))))) (c_w (c_c pe_int fun _ => .int _)) (nomark _))) (pss_one (PM.s_ret (ps_ret (c_call (pe_own F_L_chain hr passL (a_cons (pa_cons (c_sl (pe_slice sl_u (c_vw (pv 2)) (c_pso (po_some (c_c pe_int fun _ => .int _))) (c_pno po_none))) (a_cons (pa_cons (c_op od_add (pe_op op_uAdd (c_w (c_c pe_int fun _ => .int _)) (c_w (c_op od_mod (pe_op op_modN (c_w (c_op od_ix (pe_ix ix_u (c_vw (pv 2)) (c_w (c_c pe_int fun _ => .int _)) (fun _ _ => rfl)))) (c_w (c_c pe_int fun _ => .int _))))))) (a_nil pa_nil)))))))))) (PM.s_nil pss_nil)))
  (pss_one (PM.s_ret (ps_ret (c_call (pe_own F_L_web hr passL (a_cons (pa_cons (c_v (pv 0)) (a_cons (pa_cons (c_v (pv 1)) (a_cons (pa_cons (c_c pe_int fun _ => .int _) (a_nil pa_nil))))))))))))))))))), spM_in (N := N_L_drawn) h⟩)

abbrev N_L_only : List Str := ["_law_e", "_law_at", "_law_kinds", "_law_k"]
theorem sc_L_only : FnScope N_L_only ["_law_e", "_law_at"] (defScope s_L_only) := ⟨rfl, rfl, rfl, by decide +kernel, rfl, by decide +kernel, by decide +kernel⟩
theorem hv_L_only (a : Addr) : h_L_only a (evK 4 a 9) = some (.rt (.bool true)) := x_seq (x_set (x_lst (x_cons (x_mE rfl) (x_cons (x_mE rfl) (x_cons (x_mE rfl) (x_cons (x_mE rfl) rfl)))) (by decide)))
   (x_seq (x_set (x_op rfl (x_lst (x_cons (x_mE rfl) (x_cons (x_mE rfl) (x_cons (x_mE rfl) (x_cons (x_mE rfl) rfl)))) (by decide)) rfl))
   (x_seq (x_set (x_op rfl (x_lst (x_cons (x_mE rfl) (x_cons (x_mE rfl) (x_cons (x_mE rfl) (x_cons (x_mE rfl) rfl)))) (by decide)) rfl))
   (x_seq (x_set (x_op rfl (x_lst (x_cons (x_mE rfl) (x_cons (x_mE rfl) (x_cons (x_mE rfl) rfl))) (by decide)) rfl))
   (x_rt (x_mandT (x_mE rfl) (x_mandT (x_mE rfl) rfl))))))
theorem ok_L_only (T : Txt K mg) (Y : Ext K) : OwnFn P w K mg base 1 "_law_only" ["_law_e", "_law_at"] (spE K (tabs K) "NoTop" 9 (.bool true)) := by
  exact stored_ok (n := 0) (m := h_L_only) T.D_L_only sc_L_only (fun _ _ _ _ _ _ us hl => match us, hl with | [_, _], _ => rfl) (by decide) (fun cdv A outer s H E a oe hH hz hfl hr => PSs.nox (t := tS K (tabs K) (h_L_only a)) (by exact (PM.s_seq (pss_cons (PM.s_set (ps_set (i := 2) sc_L_only.nd rfl (by first | exact Or.inl rfl | exact Or.inr rfl) (c_f (c_lst (pe_lst (a_cons (pa_cons (c_isE (c := .ref (He.ga K "NoText")) (cv := .ref (He.ga K "NoText")) (fun _ hu => hu) Y.q_NoTop_NoText (pe_callB (call_isH Y.ec_NoTop hH hz hfl) (by rfl) T.f_isinstance (by decide +kernel) (pa_cons (pv 0) (pa_cons (pe_glob (v := .ref (He.ga _ "NoText")) rfl T.m_NoText rfl) pa_nil)))) (a_cons (pa_cons (c_isE (c := .ref (He.ga K "NoNumber")) (cv := .ref (He.ga K "NoNumber")) (fun _ hu => hu) Y.q_NoTop_NoNumber (pe_callB (call_isH Y.ec_NoTop hH hz hfl) (by rfl) T.f_isinstance (by decide +kernel) (pa_cons (pv 0) (pa_cons (pe_glob (v := .ref (He.ga _ "NoNumber")) rfl T.m_NoNumber rfl) pa_nil)))) (a_cons (pa_cons (c_isE (c := .ref (He.ga K "NoCut")) (cv := .ref (He.ga K "NoCut")) (fun _ hu => hu) Y.q_NoTop_NoCut (pe_callB (call_isH Y.ec_NoTop hH hz hfl) (by rfl) T.f_isinstance (by decide +kernel) (pa_cons (pv 0) (pa_cons (pe_glob (v := .ref (He.ga _ "NoCut")) rfl T.m_NoCut rfl) pa_nil)))) (a_cons (pa_cons (c_isE (c := .ref (He.ga K "NoPrice")) (cv := .ref (He.ga K "NoPrice")) (fun _ hu => hu) Y.q_NoTop_NoPrice (pe_callB (call_isH Y.ec_NoTop hH hz hfl) (by rfl) T.f_isinstance (by decide +kernel) (pa_cons (pv 0) (pa_cons (pe_glob (v := .ref (He.ga _ "NoPrice")) rfl T.m_NoPrice rfl) pa_nil)))) (a_nil pa_nil))))))))))) mLst_is)))
  (PM.s_seq (pss_cons (PM.s_set (ps_set (i := 2) sc_L_only.nd rfl (by first | exact Or.inl rfl | exact Or.inr rfl) (c_op od_add (pe_op op_uAdd (c_vw (pv 2)) (c_fw (c_lst (pe_lst (a_cons (pa_cons (c_isE (c := .ref (He.ga K "NoStream")) (cv := .ref (He.ga K "NoStream")) (fun _ hu => hu) Y.q_NoTop_NoStream (pe_callB (call_isH Y.ec_NoTop hH hz hfl) (by rfl) T.f_isinstance (by decide +kernel) (pa_cons (pv 0) (pa_cons (pe_glob (v := .ref (He.ga _ "NoStream")) rfl T.m_NoStream rfl) pa_nil)))) (a_cons (pa_cons (c_isE (c := .ref (He.ga K "NoName")) (cv := .ref (He.ga K "NoName")) (fun _ hu => hu) Y.q_NoTop_NoName (pe_callB (call_isH Y.ec_NoTop hH hz hfl) (by rfl) T.f_isinstance (by decide +kernel) (pa_cons (pv 0) (pa_cons (pe_glob (v := .ref (He.ga _ "NoName")) rfl T.m_NoName rfl) pa_nil)))) (a_cons (pa_cons (c_isE (c := .ref (He.ga K "NoFall")) (cv := .ref (He.ga K "NoFall")) (fun _ hu => hu) Y.q_NoTop_NoFall (pe_callB (call_isH Y.ec_NoTop hH hz hfl) (by rfl) T.f_isinstance (by decide +kernel) (pa_cons (pv 0) (pa_cons (pe_glob (v := .ref (He.ga _ "NoFall")) rfl T.m_NoFall rfl) pa_nil)))) (a_cons (pa_cons (c_isE (c := .ref (He.ga K "NoShare")) (cv := .ref (He.ga K "NoShare")) (fun _ hu => hu) Y.q_NoTop_NoShare (pe_callB (call_isH Y.ec_NoTop hH hz hfl) (by rfl) T.f_isinstance (by decide +kernel) (pa_cons (pv 0) (pa_cons (pe_glob (v := .ref (He.ga _ "NoShare")) rfl T.m_NoShare rfl) pa_nil)))) (a_nil pa_nil))))))))))))))))
  (PM.s_seq (pss_cons (PM.s_set (ps_set (i := 2) sc_L_only.nd rfl (by first | exact Or.inl rfl | exact Or.inr rfl) (c_op od_add (pe_op op_uAdd (c_vw (pv 2)) (c_fw (c_lst (pe_lst (a_cons (pa_cons (c_isE (c := .ref (He.ga K "NoPart")) (cv := .ref (He.ga K "NoPart")) (fun _ hu => hu) Y.q_NoTop_NoPart (pe_callB (call_isH Y.ec_NoTop hH hz hfl) (by rfl) T.f_isinstance (by decide +kernel) (pa_cons (pv 0) (pa_cons (pe_glob (v := .ref (He.ga _ "NoPart")) rfl T.m_NoPart rfl) pa_nil)))) (a_cons (pa_cons (c_isE (c := .ref (He.ga K "NoTop")) (cv := .ref (He.ga K "NoTop")) (fun _ hu => hu) Y.q_NoTop_NoTop (pe_callB (call_isH Y.ec_NoTop hH hz hfl) (by rfl) T.f_isinstance (by decide +kernel) (pa_cons (pv 0) (pa_cons (pe_glob (v := .ref (He.ga _ "NoTop")) rfl T.m_NoTop rfl) pa_nil)))) (a_cons (pa_cons (c_isE (c := .ref (He.ga K "NoPlace")) (cv := .ref (He.ga K "NoPlace")) (fun _ hu => hu) Y.q_NoTop_NoPlace (pe_callB (call_isH Y.ec_NoTop hH hz hfl) (by rfl) T.f_isinstance (by decide +kernel) (pa_cons (pv 0) (pa_cons (pe_glob (v := .ref (He.ga _ "NoPlace")) rfl T.m_NoPlace rfl) pa_nil)))) (a_cons (pa_cons (c_isE (c := .ref (He.ga K "NoTie")) (cv := .ref (He.ga K "NoTie")) (fun _ hu => hu) Y.q_NoTop_NoTie (pe_callB (call_isH Y.ec_NoTop hH hz hfl) (by rfl) T.f_isinstance (by decide +kernel) (pa_cons (pv 0) (pa_cons (pe_glob (v := .ref (He.ga _ "NoTie")) rfl T.m_NoTie rfl) pa_nil)))) (a_nil pa_nil))))))))))))))))
  (PM.s_seq (pss_cons (PM.s_set (ps_set (i := 2) sc_L_only.nd rfl (by first | exact Or.inl rfl | exact Or.inr rfl) (c_op od_add (pe_op op_uAdd (c_vw (pv 2)) (c_fw (c_lst (pe_lst (a_cons (pa_cons (c_isE (c := .ref (He.ga K "NoUndo")) (cv := .ref (He.ga K "NoUndo")) (fun _ hu => hu) Y.q_NoTop_NoUndo (pe_callB (call_isH Y.ec_NoTop hH hz hfl) (by rfl) T.f_isinstance (by decide +kernel) (pa_cons (pv 0) (pa_cons (pe_glob (v := .ref (He.ga _ "NoUndo")) rfl T.m_NoUndo rfl) pa_nil)))) (a_cons (pa_cons (c_isE (c := .ref (He.ga K "NoWeb")) (cv := .ref (He.ga K "NoWeb")) (fun _ hu => hu) Y.q_NoTop_NoWeb (pe_callB (call_isH Y.ec_NoTop hH hz hfl) (by rfl) T.f_isinstance (by decide +kernel) (pa_cons (pv 0) (pa_cons (pe_glob (v := .ref (He.ga _ "NoWeb")) rfl T.m_NoWeb rfl) pa_nil)))) (a_cons (pa_cons (c_isE (c := .ref (He.ga K "NoRow")) (cv := .ref (He.ga K "NoRow")) (fun _ hu => hu) Y.q_NoTop_NoRow (pe_callB (call_isH Y.ec_NoTop hH hz hfl) (by rfl) T.f_isinstance (by decide +kernel) (pa_cons (pv 0) (pa_cons (pe_glob (v := .ref (He.ga _ "NoRow")) rfl T.m_NoRow rfl) pa_nil)))) (a_nil pa_nil))))))))))))))
  (pss_one (PM.s_ret (ps_ret (c_andV (pe_and (c_isE (c := .ref (He.ga K "StairError")) (cv := .ref (He.ga K "StairError")) (fun _ hu => hu) Y.q_NoTop_StairError (pe_callB (call_isH Y.ec_NoTop hH hz hfl) (by rfl) T.f_isinstance (by decide +kernel) (pa_cons (pv 0) (pa_cons (pe_glob (v := .ref (He.ga _ "StairError")) rfl T.m_StairError rfl) pa_nil)))) (c_andV (pe_and (c_isE (c := .ty "ValueError") (cv := .type "ValueError") (fun _ hu => hu) Y.q_NoTop_ValueError (pe_callB (call_isH Y.ec_NoTop hH hz hfl) (by rfl) T.f_isinstance (by decide +kernel) (pa_cons (pv 0) (pa_cons (pe_bltn (v := .ty "ValueError") rfl T.f_ValueError (by decide +kernel) rfl) pa_nil)))) (pe_one (c_op od_eq (pe_cmpR (op_eqK (room_u64 hr)) (c_vw (pv 2)) (c_fw (c_lc (pe_lc (own := [("_law_k", 3)]) (by rfl) sc_L_only.nd (c_ih (c_irng (pi_range1 (by rfl) T.f_range (a_cons (pa_cons (c_c pe_int fun _ => .int _) (a_nil pa_nil)))))) (blkOk_by (own := [("_law_k", 3)]) (N := N_L_only) (sc := defScope s_L_only) (by decide +kernel)) (fun _ _ _ _ _ => (c_gn (pg_name (i := 3) sc_L_only.nd rfl (by first | exact Or.inl rfl | exact Or.inr rfl)))) (fun _ _ _ _ _ => (q_nil pts_nil)) (fun _ _ _ _ _ => (c_op od_eq (pe_cmpR (op_eqK (room_u64 hr)) (c_vw (pv 3)) (c_vw (pv 1)) (nomark _))))))) (nomark _))))))))))))))))))))) hv_L_only

abbrev N_L_refused : List Str := ["_law_web_here", "_law_other", "_law_refused_here", "_law_e"]
theorem sc_L_refused : FnScope N_L_refused ["_law_web_here", "_law_other"] (defScope s_L_refused) := ⟨rfl, rfl, rfl, by decide +kernel, rfl, by decide +kernel, by decide +kernel⟩
theorem ok_L_refused (T : Txt K mg) (Y : Ext K) (F_beside : OwnFn P w K mg base 11 "beside" ["web", "other"] (spX K (tabs K) M_beside)) (F_L_only : OwnFn P w K mg base 1 "_law_only" ["_law_e", "_law_at"] (spE K (tabs K) "NoTop" 9 (.bool true))) : OwnFn P w K mg base 12 "_law_refused" ["_law_web_here", "_law_other"] (spM K (tabs K) M_L_refused) := by
  exact own_ok (k := 11) T.D_L_refused sc_L_refused (fun _ _ _ _ _ _ us hl => match us, hl with | [_, _], _ => rfl) (fun vs H Q E h => spM_len h) (fun cdv A outer s H vs Q E hr h => ⟨_, PSs.nox (t := tS K (tabs K) m_L_refused) (by exact (PM.s_stored (C := "StairError") (c := "NoTop") (i := 3) (j := 2) (k := 9) (ps_set (i := 2) sc_L_refused.nd rfl (by first | exact Or.inl rfl | exact Or.inr rfl) pe_non) (by rfl) (by rfl) sc_L_refused.nd (by rfl) (by rfl) ⟨by rfl, by decide, .inl T.m_StairError⟩ (by rfl) T.e_NoTop (fun W pn xe tk => (pss_one (PM.s_dropX (ps_expr (c_callW (pe_ownS F_beside hr tk (a_cons (pa_cons (c_v (pv 0)) (a_cons (pa_cons (c_v (pv 1)) (a_nil pa_nil)))))))))))
   (fun a pn => pss_one (ps_set (i := 2) sc_L_refused.nd rfl (by first | exact Or.inl rfl | exact Or.inr rfl) (pv 3))) (ps_ret (pe_and (pe_cmpR op_notN (pv 2) pe_non (nomark _)) (pe_one (pe_own F_L_only hr passL (pa_cons (pv 2) (pa_cons pe_int pa_nil)))))))), spM_in (N := N_L_refused) h⟩)

abbrev N_law : List Str := ["_law_script", "_law_top", "_law_web_here", "_law_other", "_law_put", "_law_found", "_law_place_here"]
theorem sc_law : FnScope N_law ["_law_script"] (defScope s_law) := ⟨rfl, rfl, rfl, by decide +kernel, rfl, by decide +kernel, by decide +kernel⟩
theorem ok_law (T : Txt K mg) (F_L_drawn : OwnFn P w K mg base 4 "_law_drawn" ["_law_script", "_law_at"] (spM K (tabs K) M_L_drawn)) (F_L_refused : OwnFn P w K mg base 12 "_law_refused" ["_law_web_here", "_law_other"] (spM K (tabs K) M_L_refused)) (F_beside : OwnFn P w K mg base 11 "beside" ["web", "other"] (spX K (tabs K) M_beside)) : OwnFn P w K mg base 13 "law" ["_law_script"] (spM K (tabs K) M_law) := by
  exact own_ok (k := 12) T.D_law sc_law (fun _ _ _ _ _ _ us hl => match us, hl with | [_], _ => rfl) (fun vs H Q E h => spM_len h) (fun cdv A outer s H vs Q E hr h => ⟨_, PSs.nox (show PSs _ _ (tS K (tabs K) m_law) from (PM.s_seq (pss_cons (PM.s_par (ps_par (i := 2) (j := 3) rfl sc_law.nd rfl rfl (by decide) rfl rfl (a_cons (pa_cons (c_call (pe_own F_L_drawn hr passL (a_cons (pa_cons (c_v (pv 0)) (a_cons (pa_cons (c_c pe_int fun _ => .int _) (a_nil pa_nil))))))) (a_cons (pa_cons (c_call (pe_own F_L_drawn hr passL (a_cons (pa_cons (c_v (pv 0)) (a_cons (pa_cons (c_c pe_int fun _ => .int _) (a_nil pa_nil))))))) (a_nil pa_nil))))) (by rfl)))
  (PM.s_seq (pss_cons (PM.s_for (ps_for PassesOwn.never rfl (c_irng2 (pi_range2 (by rfl) T.f_range (a_cons (pa_cons (c_c pe_int fun _ => .int _) (a_cons (pa_cons (c_c pe_int fun _ => .int _) (a_nil pa_nil))))))) (c_gn (pg_name (i := 1) sc_law.nd rfl (by first | exact Or.inl rfl | exact Or.inr rfl)))
   (pss_one (PM.s_if (ps_if (c_tv (pt_val (c_cb cb_all (pe_callB (cr_allK rfl) (by rfl) T.f_all (by decide +kernel) (a_consw (pa_cons (c_fw (c_lc (pe_lc (own := [("_law_place_here", 6)]) (by rfl) sc_law.nd (c_iseqw (pi_seq (c_w (c_op od_ix (pe_ix ix_u (c_vw (pv 3)) (c_w (c_c pe_int fun _ => .int _)) (fun _ _ => rfl)))))) (blkOk_by (own := [("_law_place_here", 6)]) (N := N_law) (sc := defScope s_law) (by decide +kernel)) (fun _ _ _ _ _ => (c_gn (pg_name (i := 6) sc_law.nd rfl (by first | exact Or.inl rfl | exact Or.inr rfl)))) (fun _ _ _ _ _ => (q_nil pts_nil)) (fun _ _ _ _ _ => (c_op od_ge (pe_cmpR op_ge (c_w (c_op od_ix (pe_ix ix_u (c_vw (pv 6)) (c_w (c_c pe_int fun _ => .int _)) (fun _ _ => rfl)))) (c_w (c_op od_mul (pe_op op_uMul (c_w (c_op od_ix (pe_ix ix_u (c_vw (pv 6)) (c_w (c_c pe_int fun _ => .int _)) (fun _ _ => rfl)))) (c_vw (pv 1))))) (nomark _))))))) (a_nilw pa_nil))))))) (PM.s_seq (pss_cons (PM.s_set (ps_set (i := 4) sc_law.nd rfl (by first | exact Or.inl rfl | exact Or.inr rfl) (c_tup (pe_tup (a_cons (pa_cons (c_v (pv 1)) (a_cons (pa_cons (c_op od_ix (pe_ix ix_u (c_vw (pv 3)) (c_w (c_c pe_int fun _ => .int _)) (fun _ _ => rfl))) (a_cons (pa_cons (c_op od_ix (pe_ix ix_u (c_vw (pv 3)) (c_w (c_c pe_int fun _ => .int _)) (fun _ _ => rfl))) (a_nil pa_nil)))))))))))
  (pss_one (PM.s_if (ps_if (c_opT od_ne (pt_cmpR (op_neK (room_u64 hr)) (c_vw (pv 1)) (c_w (c_op od_ix (pe_ix ix_u (c_vw (pv 2)) (c_w (c_c pe_int fun _ => .int _)) (fun _ _ => rfl)))) (nomark _))) (pss_one (PM.s_if (ps_if (PW.pt (c_or (pw_or (c_not (pt_not (c_tv (pt_val (c_call (pe_own F_L_refused hr passL (a_cons (pa_cons (c_v (pv 2)) (a_cons (pa_cons (c_v (pv 4)) (a_nil pa_nil))))))))))) (pw_or1 (c_not (pt_not (c_tv (pt_val (c_call (pe_own F_L_refused hr passL (a_cons (pa_cons (c_v (pv 4)) (a_cons (pa_cons (c_v (pv 2)) (a_nil pa_nil))))))))))))))) (pss_one (PM.s_ret (ps_ret (c_c pe_bl fun _ => .bl _)))) (PM.s_nil pss_nil)))) (PM.s_seq (pss_cons (PM.s_set (ps_set (i := 5) sc_law.nd rfl (by first | exact Or.inl rfl | exact Or.inr rfl) (c_callOk (pe_own F_beside hr passL (a_cons (pa_cons (c_v (pv 2)) (a_cons (pa_cons (c_v (pv 4)) (a_nil pa_nil)))))))))
  (pss_one (PM.s_if (ps_if (PW.pt (c_or (pw_or (c_opT od_eq (pt_cmpR (op_eqK (room_u64 hr)) (c_vw (pv 5)) (c_fw (c_lst (pe_lst (a_nil pa_nil)))) (nomark _))) (c_or (pw_or (c_opT od_ne (pt_cmpR (op_neK (room_u64 hr)) (c_w (c_op od_ix (pe_ix ix_u (c_w (c_op od_ix (pe_ix ix_u (c_vw (pv 5)) (c_w (c_c pe_int fun _ => .int _)) (fun _ _ => rfl)))) (c_w (c_c pe_int fun _ => .int _)) (fun _ _ => rfl)))) (c_w (c_tup (pe_tup (a_cons (pa_cons (c_c pe_int fun _ => .int _) (a_cons (pa_cons (c_c pe_int fun _ => .int _) (a_nil pa_nil)))))))) (nomark _))) (pw_or1 (c_opT od_ne (pt_cmpR (op_neK (room_u64 hr)) (c_w (c_op od_ix (pe_ix ix_u (c_w (c_op od_ix (pe_ix ix_u (c_vw (pv 5)) (c_w (c_neg (pe_un un_neg (c_c pe_int fun _ => .int _)))) (fun _ _ => rfl)))) (c_w (c_c pe_int fun _ => .int _)) (fun _ _ => rfl)))) (c_w (c_tup (pe_tup (a_cons (pa_cons (c_v (pv 1)) (a_cons (pa_cons (c_c pe_int fun _ => .int _) (a_nil pa_nil)))))))) (nomark _))))))))) (pss_one (PM.s_ret (ps_ret (c_c pe_bl fun _ => .bl _)))) (PM.s_nil pss_nil))))))))))) (PM.s_nil pss_nil))))))
  (pss_one (PM.s_ret (ps_ret (c_op od_eq (pe_cmpR (op_eqK (room_u64 hr)) (c_w (c_callOk (pe_own F_beside hr passL (a_cons (pa_cons (c_v (pv 2)) (a_cons (pa_cons (c_v (pv 2)) (a_nil pa_nil)))))))) (c_fw (c_lst (pe_lst (a_cons (pa_cons (c_tup (pe_tup (a_cons (pa_cons (c_tup (pe_tup (a_cons (pa_cons (c_c pe_int fun _ => .int _) (a_cons (pa_cons (c_c pe_int fun _ => .int _) (a_nil pa_nil))))))) (a_cons (pa_cons (c_tup (pe_tup (a_cons (pa_cons (c_op od_ix (pe_ix ix_u (c_vw (pv 2)) (c_w (c_c pe_int fun _ => .int _)) (fun _ _ => rfl))) (a_cons (pa_cons (c_c pe_int fun _ => .int _) (a_nil pa_nil))))))) (a_cons (pa_cons (c_c pe_str fun _ => .str _) (a_nil pa_nil))))))))) (a_nil pa_nil)))))) (nomark _))))))))))), spM_in (N := N_law) h⟩)

end
end K49

namespace K49
open PySem PySem.Spec PyProof.Rows L2 LB PM
section
variable {P : Program} {w : World} {K : PySem.W.Frag} {mg : Str → Option Value} {base : Heap}
theorem all_ok (T : Txt K mg) (Y : Ext K) (TB : ∀ x, x ∈ gens → LamX.TabB base mg (He.cT K (x, none)).1 (He.cT K (x, none)).2) : OwnFn P w K mg base 13 "law" ["_law_script"] (spM K (tabs K) M_law) := by
  have F_common_divisor : OwnFn P w K mg base 1 "common_divisor" _ _ := ok_common_divisor T
  have F_fraction : OwnFn P w K mg base 3 "fraction" _ _ := ok_fraction T F_common_divisor
  have F_plus : OwnFn P w K mg base 4 "plus" _ _ := ok_plus T F_fraction
  have F_times : OwnFn P w K mg base 4 "times" _ _ := ok_times T F_fraction
  have F_half_way : OwnFn P w K mg base 5 "half_way" _ _ := ok_half_way T F_fraction F_plus F_times
  have F_below : OwnFn P w K mg base 1 "below" _ _ := ok_below T
  have F_on_line : OwnFn P w K mg base 4 "on_line" _ _ := ok_on_line T F_fraction
  have F_is_rising : OwnFn P w K mg base 3 "is_rising" _ _ := ok_is_rising T Y (TB "is_rising" (by decide +kernel))
  have F_names_of : OwnFn P w K mg base 6 "names_of" _ _ := ok_names_of T Y (TB "names_of" (by decide +kernel))
  have F_is_choice : OwnFn P w K mg base 4 "is_choice" _ _ := ok_is_choice T Y (TB "is_choice" (by decide +kernel)) F_is_rising
  have F_is_cut : OwnFn P w K mg base 7 "is_cut" _ _ := ok_is_cut T F_names_of F_is_choice
  have F_line_of : OwnFn P w K mg base 8 "line_of" _ _ := ok_line_of T F_is_cut
  have F_choices_of : OwnFn P w K mg base 1 "choices_of" _ _ := ok_choices_of T
  have F_all_cuts : OwnFn P w K mg base 7 "all_cuts" _ _ := ok_all_cuts T F_names_of F_choices_of
  have F_cuts_by_line : OwnFn P w K mg base 9 "cuts_by_line" _ _ := ok_cuts_by_line T F_all_cuts F_line_of
  have F_meeting : OwnFn P w K mg base 4 "meeting" _ _ := ok_meeting T F_fraction
  have F_is_met_first : OwnFn P w K mg base 5 "is_met_first" _ _ := ok_is_met_first T F_meeting F_below
  have F_line_behind : OwnFn P w K mg base 6 "line_behind" _ _ := ok_line_behind T F_is_met_first
  have F_bit_of : OwnFn P w K mg base 1 "bit_of" _ _ := ok_bit_of T
  have F_stair_of : OwnFn P w K mg base 10 "stair_of" _ _ := ok_stair_of T F_cuts_by_line F_fraction F_bit_of F_line_behind F_meeting F_below
  have F_bits_beside : OwnFn P w K mg base 2 "bits_beside" _ _ := ok_bits_beside T F_below
  have F_line_on : OwnFn P w K mg base 3 "line_on" _ _ := ok_line_on T F_bits_beside
  have F_worth_on : OwnFn P w K mg base 5 "worth_on" _ _ := ok_worth_on T F_line_on F_on_line
  have F_word_at : OwnFn P w K mg base 6 "word_at" _ _ := ok_word_at T F_worth_on F_below
  have F_end_behind : OwnFn P w K mg base 5 "end_behind" _ _ := ok_end_behind T F_line_on F_meeting F_below
  have F_joined : OwnFn P w K mg base 7 "joined" _ _ := ok_joined T F_word_at
  have F_beside : OwnFn P w K mg base 11 "beside" _ _ := ok_beside T F_stair_of F_fraction F_below F_end_behind F_half_way F_word_at F_joined
  have F_L_cell : OwnFn P w K mg base 1 "_law_cell" _ _ := ok_L_cell T
  have F_L_numbers : OwnFn P w K mg base 1 "_law_numbers" _ _ := ok_L_numbers T
  have F_L_names : OwnFn P w K mg base 1 "_law_names" _ _ := ok_L_names T
  have F_L_place : OwnFn P w K mg base 1 "_law_place" _ _ := ok_L_place T
  have F_L_ties : OwnFn P w K mg base 2 "_law_ties" _ _ := ok_L_ties T F_L_cell F_L_numbers
  have F_L_web : OwnFn P w K mg base 3 "_law_web" _ _ := ok_L_web T F_L_cell F_L_numbers F_L_names F_L_place F_L_ties
  have F_L_chain : OwnFn P w K mg base 2 "_law_chain" _ _ := ok_L_chain T F_L_names
  have F_L_drawn : OwnFn P w K mg base 4 "_law_drawn" _ _ := ok_L_drawn T F_L_cell F_L_numbers F_L_web F_L_chain
  have F_L_only : OwnFn P w K mg base 1 "_law_only" _ _ := ok_L_only T Y
  have F_L_refused : OwnFn P w K mg base 12 "_law_refused" _ _ := ok_L_refused T Y F_beside F_L_only
  have F_law : OwnFn P w K mg base 13 "law" _ _ := ok_law T F_L_drawn F_L_refused F_beside
  exact F_law
end
end K49

namespace K49
open PySem PySem.Spec PyProof.Rows L2 LB PM
/-! ### what is drawn -/
theorem cell_ok (ns : List Int) {j : Nat} (hj : j ≤ 1000) : ∃ n, M_L_cell [.list (ns.map .int), .int (j : Int)] = some (.int n) := by
  by_cases hl : j < ns.length
  · refine ⟨ns[j], x_fn (q := .rt (.int ns[j])) rfl (x_ret (x_ifT (x_qv ?_) (x_rt ?_))) rfl⟩
    · show some (PyData.bool (decide ((j : Int) < (((ns.map PyData.int).length : Nat) : Int)))) = _
      rw [decide_eq_true (by rw [List.length_map]; omega)]
    · refine x_op rfl rfl (ix_l (atI_nat ?_))
      rw [List.getElem?_map, List.getElem?_eq_getElem hl] <;> rfl
  · obtain ⟨ρ', h1, z, kv, rfl, _⟩ := x_for (mi := iS (mSl (mW 0) pNo (pSo (mC (.int 3))))) (gm := gN 3) (mb := mSet 2 (mOp oMod (mOp oAdd (mOp oMul (mW 2) (mC (.int 69621))) (mW 3)) (mC (.int 2147483647))))
      (ρ := [.val (.list (ns.map PyData.int)), .val (.int (j : Int)), .val (.int ((48271 * ((j : Int) * (j : Int) + 7 * (j : Int) + 11)).fmod 2147483647)), .no]) (ds := LB.cutD (ns.map PyData.int) none (some 3))
      (fun i ρ => ∃ (z : Int) (kv : Sl), ρ = [.val (.list (ns.map PyData.int)), .val (.int (j : Int)), .val (.int z), kv] ∧ 0 ≤ z ∧ z < 2147483647) rfl ⟨_, _, rfl, fm _ (by decide)⟩ (by
        rintro i d ρ hd ⟨z, kv, rfl, z0, z1⟩
        obtain ⟨c, _, rfl⟩ := List.mem_map.mp (cut_mem (List.mem_of_getElem? hd))
        exact ⟨_, _, rfl, x_set (x_op (x_op (x_op rfl rfl (mul_ii (by omega) (by omega))) rfl rfl) rfl rfl), _, _, rfl, fm _ (by decide)⟩)
    have jj : (j : Int) * (j : Int) ≤ 1000 * 1000 := Int.mul_le_mul (by omega) (by omega) (by omega) (by omega)
    have j0 : (0 : Int) ≤ (j : Int) * (j : Int) := Int.mul_nonneg (by omega) (by omega)
    refine ⟨z, x_fn (q := .rt (.int z)) rfl (x_seq (x_ifF (x_qv ?_) rfl) (x_seq (x_set (x_op (x_op rfl (x_op (x_op (x_op rfl rfl (mul_ii (by omega) (by omega))) (x_op rfl rfl (mul_ii (by omega) (by omega))) rfl) rfl rfl) (mul_ii (by omega) (by omega))) rfl rfl)) (x_seq h1 (x_rt rfl)))) rfl⟩
    show some (PyData.bool (decide ((j : Int) < (((ns.map PyData.int).length : Nat) : Int)))) = _
    rw [decide_eq_false (by rw [List.length_map]; omega)]
theorem nums_ok (c : Int) {m : Nat} (hm : m ≤ 1000) : ∃ xs, NumsOk m xs ∧ M_L_numbers [.int c, .int (m : Int)] = some (.list (xs.map .int)) := by
  have c1 := fm c (b := 1999999973) (by decide)
  have mid : ∃ dg : Int, 0 ≤ dg ∧ mIfS (qOr (qV (mOp oLt (mW 0) (mC (.int 0)))) (qV (mOp oGe (mW 0) (mOp oPow (mC (.int 10)) (mC (.int 18)))))) (mSet 4 (mCb oAbs (aCons (mW 0) aNil))) mNx [.val (.int c), .val (.int (m : Int)), .own (.list []), .val (.int (((c.fmod 1999999973 + 31) * 765432101).fmod 1999999973)), .val (.int 0), .no] = some (.nx [.val (.int c), .val (.int (m : Int)), .own (.list []), .val (.int (((c.fmod 1999999973 + 31) * 765432101).fmod 1999999973)), .val (.int dg), .no]) := by
    have ab : 0 ≤ (if c < 0 then -c else c) := by split <;> omega
    have p1 : ∀ b : Bool, decide (c < 0) = b → qV (mOp oLt (mW 0) (mC (.int 0))) [.val (.int c), .val (.int (m : Int)), .own (.list []), .val (.int (((c.fmod 1999999973 + 31) * 765432101).fmod 1999999973)), .val (.int 0), .no] = some b := fun b h => x_qv (x_op rfl rfl (by show some (PyData.bool (decide (c < 0))) = _; rw [h]))
    have p2 : ∀ b : Bool, decide ((10 : Int) ^ (18 : Int).toNat ≤ c) = b → qV (mOp oGe (mW 0) (mOp oPow (mC (.int 10)) (mC (.int 18)))) [.val (.int c), .val (.int (m : Int)), .own (.list []), .val (.int (((c.fmod 1999999973 + 31) * 765432101).fmod 1999999973)), .val (.int 0), .no] = some b := fun b h => x_qv (x_op rfl (x_op rfl rfl rfl) (by show some (PyData.bool (decide ((10 : Int) ^ (18 : Int).toNat ≤ c))) = _; rw [h]))
    by_cases h1 : c < 0
    · exact ⟨_, ab, x_ifT (x_orT (p1 true (decide_eq_true h1))) (x_set rfl)⟩
    · by_cases h2 : (10 : Int) ^ (18 : Int).toNat ≤ c
      · exact ⟨_, ab, x_ifT (x_orF (p1 false (decide_eq_false h1)) (p2 true (decide_eq_true h2))) (x_set rfl)⟩
      · exact ⟨0, Int.le_refl _, x_ifF (x_orF (p1 false (decide_eq_false h1)) (p2 false (decide_eq_false h2))) rfl⟩
  obtain ⟨dg, dg0, hmid⟩ := mid
  obtain ⟨ρ', h1, xs, st, dg', kv, rfl, hl, hb, _⟩ := x_for (mi := iR (aCons (mV 1) aNil)) (gm := gN 5) (mb := mSeq (mSet 3 (mOp oMod (mOp oAdd (mOp oAdd (mOp oMul (mW 3) (mOp oAdd (mOp oMod (mW 3) (mC (.int 65521))) (mC (.int 40487)))) (mOp oMul (mC (.int 7)) (mW 5))) (mC (.int 5))) (mC (.int 1999999973))))
    (mSeq (mApp 2 (mOp oIx (mLst (aCons (mV 3) (aCons (mOp oMod (mW 4) (mC (.int 1000000))) aNil))) (mCb oInt (aCons (mOp oGt (mW 4) (mC (.int 0))) aNil)))) (mSet 4 (mOp oFdv (mW 4) (mC (.int 1000000))))))
    (ρ := [.val (.int c), .val (.int (m : Int)), .own (.list []), .val (.int (((c.fmod 1999999973 + 31) * 765432101).fmod 1999999973)), .val (.int dg), .no]) (ds := rngD m)
    (fun i ρ => ∃ (xs : List Int) (st dg : Int) (kv : Sl), ρ = [.val (.int c), .val (.int (m : Int)), .own (.list (xs.map PyData.int)), .val (.int st), .val (.int dg), kv] ∧ xs.length = i ∧ (∀ x ∈ xs, 0 ≤ x ∧ x < 2000000000) ∧ 0 ≤ st ∧ st < 1999999973 ∧ 0 ≤ dg)
    (x_rng rfl (by omega)) ⟨[], _, dg, .no, rfl, rfl, fun x hx => (List.not_mem_nil hx).elim, (fm _ (by decide)).1, (fm _ (by decide)).2, dg0⟩ (by
      rintro i d ρ hd ⟨xs, st, dg, kv, rfl, hl, hb, s0, s1, d0⟩
      obtain ⟨i', hi', rfl⟩ := List.mem_map.mp (List.mem_of_getElem? hd)
      have hi2 := List.mem_range.mp hi'
      have il : i < m := by
        have := (List.getElem?_eq_some_iff.mp hd).1
        rw [rngD_length] at this
        exact this
      have f1 := fm st (b := 65521) (by decide)
      have ev : ∀ b : Bool, ∃ v : Int, atI [PyData.int ((st * (st.fmod 65521 + 40487) + 7 * (i' : Int) + 5).fmod 1999999973), PyData.int (dg.fmod 1000000)] (if b = true then 1 else 0) = some (.int v) ∧ 0 ≤ v ∧ v < 2000000000 := fun b => by
        have g1 := fm dg (b := 1000000) (by decide)
        have g2 := fm (st * (st.fmod 65521 + 40487) + 7 * (i' : Int) + 5) (b := 1999999973) (by decide)
        cases b
        · exact ⟨_, at0, g2.1, by omega⟩
        · exact ⟨_, at1, g1.1, by omega⟩
      obtain ⟨v, hv, v0, v1⟩ := ev (decide (0 < dg))
      refine ⟨_, _, rfl, x_seq (x_set (x_op (x_op (x_op (x_op rfl (x_op (x_op rfl rfl rfl) rfl rfl) (mul_ii (by omega) (by omega))) (x_op rfl rfl (mul_ii (by omega) (by omega))) rfl) rfl rfl) rfl rfl)) (x_seq (x_app (d := .int v) (x_op rfl rfl (ix_l hv)) rfl (by rw [List.length_map]; omega)) (x_set rfl)), xs ++ [v], _, _, _, by rw [List.map_append]; rfl, by rw [List.length_append, hl]; rfl, ?_, (fm _ (by decide)).1, (fm _ (by decide)).2, ?_⟩
      · intro x hx
        rcases List.mem_append.mp hx with h | h
        · exact hb x h
        · rw [List.mem_singleton.mp h]
          exact ⟨v0, v1⟩
      · rw [Int.fdiv_eq_ediv_of_nonneg _ (by decide)]
        exact Int.ediv_nonneg d0 (by decide))
  rw [rngD_length] at hl
  exact ⟨xs, ⟨hl, hb⟩, x_fn (q := .rf (.list (xs.map .int))) rfl (x_seq (x_setO rfl) (x_seq (x_set (x_op (x_op (x_op (x_op rfl rfl rfl) rfl rfl) rfl (mul_ii (by omega) (by omega))) rfl rfl)) (x_seq (x_set rfl) (x_seq hmid (x_seq h1 rfl))))) rfl⟩
theorem names_ok {xs : List Int} {n m : Nat} (hx : NumsOk n xs) (hn : 4 ≤ n) (m1 : 1 ≤ m) (m8 : m ≤ 8) : ∃ ns, NamesOk m ns ∧ M_L_names [.list (xs.map .int), .int (m : Int)] = some (.list (ns.map .str)) := by
  obtain ⟨hl, hb⟩ := hx
  match xs, hl, hb with
  | [], hl, _ => simp at hl; omega
  | [_], hl, _ => simp at hl; omega
  | [_, _], hl, _ => simp at hl; omega
  | [_, _, _], hl, _ => simp at hl; omega
  | x0 :: x1 :: x2 :: x3 :: r, hl, hb =>
  have key : ∃ d, M_L_names [.list ((x0 :: x1 :: x2 :: x3 :: r).map .int), .int (m : Int)] = some d ∧ ∃ ns, NamesOk m ns ∧ d = .list (ns.map .str) := by
    refine r_fn rfl (r_seq (x_set rfl) (r_seq (x_setO rfl) (r_for (ds := rngD m) (fun i ρ => ∃ kv nv mv, ρ = [.val (.list ((x0 :: x1 :: x2 :: x3 :: r).map .int)), .val (.int (m : Int)), .val (.str abc), .own (.list (((List.range i).map (nmOf x0 x1 x2 x3)).map .str)), kv, nv, mv]) (x_rng rfl (by omega)) ⟨_, _, _, rfl⟩ ?_ ?_)))
    · rintro i d ρ hd ⟨kv, nv, mv, rfl⟩
      obtain ⟨hi, rfl⟩ := rng_at hd
      have f3 := fm x3 (b := 2) (by decide)
      have pw : atI [PyData.int 1, PyData.int 5] (x3.fmod 2) = some (.int (if x3.fmod 2 = 1 then 5 else 1)) := by
        by_cases h : x3.fmod 2 = 1
        · rw [if_pos h, h]
          exact at1
        · have h0 : x3.fmod 2 = 0 := by omega
          rw [if_neg h, h0]
          exact at0
      have wp : 0 < (if x3.fmod 2 = 1 then (5 : Int) else 1) := by split <;> decide
      have fw := fm (x2 + 3 * (i : Int)) wp
      have w5 : (if x3.fmod 2 = 1 then (5 : Int) else 1) ≤ 5 := by split <;> decide
      have f8 := fm x3 (b := 8) (by decide)
      refine ⟨_, rfl, r_seq (x_set (d := .str (repS (ch (lt26 (x0 + 7 * (i : Int)))) (1 + ((x2 + 3 * (i : Int)).fmod (if x3.fmod 2 = 1 then 5 else 1)).toNat))) (x_op (x_op rfl (x_op (x_op (x_op rfl rfl (ix_l at0)) (x_op rfl rfl (mul_ii (by omega) (by omega))) rfl) rfl (mod_ii (by decide))) (ix_s abc_len (abc_at (fm _ (by decide)).1 (fm _ (by decide)).2)))
        (x_op rfl (x_op (x_op (x_op rfl rfl (ix_l at2)) (x_op rfl rfl (mul_ii (by omega) (by omega))) rfl) (x_op rfl (x_op (x_op rfl rfl (ix_l at3)) rfl (mod_ii (by decide))) (ix_l pw)) (mod_ii (by omega))) rfl) (mul_sk (by omega) (by omega) (by show 1 ≤ 1000; decide)))) ?_⟩
      have te : ∀ (k : Int) (s : Sl) (q : Sl), qV (mOp oEq (mOp oMod (mOp oIx (mW 0) (mC (.int 1))) (mC (.int 4))) (mC (.int k))) [.val (.list ((x0 :: x1 :: x2 :: x3 :: r).map .int)), .val (.int (m : Int)), .val (.str abc), .own (.list (((List.range i).map (nmOf x0 x1 x2 x3)).map .str)), .val (.int (i : Int)), s, q] = some (decide (x1.fmod 4 = k)) := fun k s q => x_qv (x_op (x_op (x_op rfl rfl (ix_l at1)) rfl (mod_ii (by decide))) rfl (eq_ii _ _))
      refine r_mid (fun ρ => ρ = [.val (.list ((x0 :: x1 :: x2 :: x3 :: r).map .int)), .val (.int (m : Int)), .val (.str abc), .own (.list (((List.range i).map (nmOf x0 x1 x2 x3)).map .str)), .val (.int (i : Int)), .val (.str (if x1.fmod 4 = 1 then ch (97 + i) ++ repS (ch (lt26 x2)) (x3.fmod 8).toNat else repS (ch (lt26 (x0 + 7 * (i : Int)))) (1 + ((x2 + 3 * (i : Int)).fmod (if x3.fmod 2 = 1 then 5 else 1)).toNat))), mv]) (r_if (te 1 _ _) (fun h => ?_) (fun h => ?_)) ?_
      · refine r_end (x_set (x_op (x_op rfl rfl (ix_s abch_len (abch_at (by omega)))) (x_op (x_op rfl (x_op (x_op rfl rfl (ix_l at2)) rfl (mod_ii (by decide))) (ix_s abc_len (abc_at (fm _ (by decide)).1 (fm _ (by decide)).2))) (x_op (x_op rfl rfl (ix_l at3)) rfl (mod_ii (by decide))) (mul_sk (n := (x3.fmod 8).toNat) (by omega) (by omega) (by show 1 ≤ 1000; decide))) (add_ss (by
          rw [show (⟨#[97 + (x2.fmod 26).toNat]⟩ : Str) = ch (lt26 x2) from rfl, rep_length]
          show 1 + _ ≤ 10000
          omega)))) ?_
        show _ = _
        rw [if_pos (of_decide_eq_true h)]
        rfl
      · refine r_end rfl ?_
        show _ = _
        rw [if_neg (of_decide_eq_false h)]
        rfl
      rintro ρ rfl
      refine r_mid (fun ρ => ρ = [.val (.list ((x0 :: x1 :: x2 :: x3 :: r).map .int)), .val (.int (m : Int)), .val (.str abc), .own (.list (((List.range i).map (nmOf x0 x1 x2 x3)).map .str)), .val (.int (i : Int)), .val (.str (if x1.fmod 4 = 2 then repS (ch (lt26 x2)) (1 + i) else (if x1.fmod 4 = 1 then ch (97 + i) ++ repS (ch (lt26 x2)) (x3.fmod 8).toNat else repS (ch (lt26 (x0 + 7 * (i : Int)))) (1 + ((x2 + 3 * (i : Int)).fmod (if x3.fmod 2 = 1 then 5 else 1)).toNat)))), mv]) (r_if (te 2 _ _) (fun h => ?_) (fun h => ?_)) ?_
      · refine r_end (x_set (x_op (x_op rfl (x_op (x_op rfl rfl (ix_l at2)) rfl (mod_ii (by decide))) (ix_s abc_len (abc_at (fm _ (by decide)).1 (fm _ (by decide)).2))) (x_op rfl rfl rfl) (mul_sk (n := 1 + i) (by omega) (by omega) (by show 1 ≤ 1000; decide)))) ?_
        show _ = _
        rw [if_pos (of_decide_eq_true h)]
        rfl
      · refine r_end rfl ?_
        show _ = _
        rw [if_neg (of_decide_eq_false h)]
      rintro ρ rfl
      refine r_mid (fun ρ => ∃ mv', ρ = [.val (.list ((x0 :: x1 :: x2 :: x3 :: r).map .int)), .val (.int (m : Int)), .val (.str abc), .own (.list (((List.range i).map (nmOf x0 x1 x2 x3)).map .str)), .val (.int (i : Int)), .val (.str (nmOf x0 x1 x2 x3 i)), mv']) (r_if (te 3 _ _) (fun h => ?_) (fun h => ?_)) ?_
      · refine r_seq (x_set (x_op rfl (x_op (x_op (x_op rfl rfl (ix_l at3)) (x_op rfl rfl (mul_ii (by omega) (by omega))) rfl) rfl (mod_ii (by decide))) (ix_s abc_len (abc_at (fm _ (by decide)).1 (fm _ (by decide)).2)))) (r_end (x_set (x_op (x_op (x_op rfl (x_op (x_op rfl rfl (ix_l at2)) rfl (mod_ii (by decide))) (ix_s abc_len (abc_at (fm _ (by decide)).1 (fm _ (by decide)).2))) rfl (add_ss (by show 1 + 1 ≤ 10000; decide)))
          (x_op rfl (x_op (x_op rfl rfl (ix_l at0)) rfl (mod_ii (by decide))) (ix_s abc_len (abc_at (fm _ (by decide)).1 (fm _ (by decide)).2))) (add_ss (by rw [app_length]; show 1 + 1 + 1 ≤ 10000; decide)))) ⟨.val (.str (ch (lt26 (x3 + 5 * (i : Int))))), ?_⟩)
        unfold nmOf
        rw [if_pos (of_decide_eq_true h)]
        rfl
      · refine r_end rfl ⟨mv, ?_⟩
        unfold nmOf
        rw [if_neg (of_decide_eq_false h)]
      rintro ρ ⟨mv', rfl⟩
      refine r_end (x_app rfl rfl (by rw [List.length_map, List.length_map, List.length_range]; omega)) ⟨.val (.int (i : Int)), .val (.str (nmOf x0 x1 x2 x3 i)), mv', ?_⟩
      rw [List.range_succ, List.map_append, List.map_append]
      rfl
    · rintro ρ ⟨kv, nv, mv, rfl⟩
      rw [rngD_length]
      have nd : ((List.range m).map (nmOf x0 x1 x2 x3)).Nodup := by
        rw [List.nodup_iff_pairwise_ne, List.pairwise_map]
        refine List.Pairwise.imp_of_mem (fun {a b} ha hb hab => ?_) (List.nodup_iff_pairwise_ne.mp List.nodup_range)
        have ha := List.mem_range.mp ha
        have hb := List.mem_range.mp hb
        exact fun e => hab (nm_inj x0 x1 x2 x3 (by omega) (by omega) e)
      refine r_ret (d := .list ((((List.range m).map (nmOf x0 x1 x2 x3)).mergeSort leS).map .str)) (x_cb rfl ?_) ⟨_, rfl, ((List.range m).map (nmOf x0 x1 x2 x3)).mergeSort leS, ⟨?_, rise_sort nd, fun x hx => ?_⟩, rfl⟩
      · rw [x_sorted (srt_strs (by rw [List.length_map, List.length_range]; omega)), sort_strs]
      · rw [List.length_mergeSort, List.length_map, List.length_range]
      · have := (List.mergeSort_perm _ leS).mem_iff.mp hx
        obtain ⟨i, hi, rfl⟩ := List.mem_map.mp this
        have := List.mem_range.mp hi
        exact nm_ok x0 x1 x2 x3 (by omega)
  obtain ⟨d, h1, ns, h2, rfl⟩ := key
  exact ⟨ns, h2, h1⟩
theorem place_ok {x : Str} {xs : List Int} {n : Nat} {top : Int} {w : Nat} (hx : NumsOk n xs) (hn : 5 ≤ n) (t1 : 1 ≤ top) (t9 : top ≤ 9) (hw : w < 4) : ∃ d, PlaceOk top x d ∧ M_L_place [.str x, .list (xs.map .int), .int top, .int (w : Int)] = some d := by
  obtain ⟨hl, hb⟩ := hx
  match xs, hl, hb with
  | [], hl, _ => simp at hl; omega
  | [_], hl, _ => simp at hl; omega
  | [_, _], hl, _ => simp at hl; omega
  | [_, _, _], hl, _ => simp at hl; omega
  | [_, _, _, _], hl, _ => simp at hl; omega
  | x0 :: x1 :: x2 :: x3 :: x4 :: r, hl, hb =>
  have key : ∃ d, M_L_place [.str x, .list ((x0 :: x1 :: x2 :: x3 :: x4 :: r).map .int), .int top, .int (w : Int)] = some d ∧ PlaceOk top x d := by
    have p1 := pk4_in (p := 4) (q := 10) (r := 100) (s := 100) (lo := 1) (hi := 100) hw (by decide) (by decide) (by decide) (by decide)
    have p2 := pk4_in (p := 3) (q := 5) (r := 100) (s := 100) (lo := 1) (hi := 100) hw (by decide) (by decide) (by decide) (by decide)
    have p3 := pk4_in (p := 2) (q := 4) (r := 100) (s := 100) (lo := 1) (hi := 100) hw (by decide) (by decide) (by decide) (by decide)
    have p4 := pk4_in (p := 5) (q := 20) (r := 100) (s := 100) (lo := 1) (hi := 100) hw (by decide) (by decide) (by decide) (by decide)
    have p5 := pk4_in (p := 5) (q := 20) (r := 1000) (s := 1000) (lo := 1) (hi := 1000) hw (by decide) (by decide) (by decide) (by decide)
    have f0 := fm x0 (b := pk4 4 10 100 100 w) (by omega)
    have f1 := fm x1 (b := pk4 3 5 100 100 w) (by omega)
    have f2 := fm x2 (b := pk4 2 4 100 100 w) (by omega)
    have f3 := fm x3 (b := pk4 5 20 100 100 w) (by omega)
    have f4 := fm x3 (b := pk4 5 20 1000 1000 w) (by omega)
    have c0 : x2.fmod (pk4 2 4 100 100 w) * top ≤ 99 * 9 := Int.mul_le_mul (by omega) t9 (by omega) (by omega)
    have f83 := fm (x1.fdiv 8) (b := 3) (by decide)
    refine r_fn rfl (r_seq (x_set (x_op rfl rfl (ix_l (pk4_at hw)))) (r_seq (x_set (x_op (x_op rfl rfl (ix_l at0)) rfl (mod_ii (by omega)))) (r_seq (x_set (x_op (x_op rfl rfl (ix_l at1)) (x_op rfl rfl (ix_l (pk4_at hw))) (mod_ii (by omega))))
      (r_seq (x_set (x_op (x_op rfl rfl (ix_l at2)) (x_op rfl rfl (ix_l (pk4_at hw))) (mod_ii (by omega)))) (r_seq (x_set (x_op (x_op rfl rfl (mul_ii (by omega) (by omega))) (x_op (x_op rfl rfl (ix_l at3)) (x_op rfl rfl (ix_l (pk4_at hw))) (mod_ii (by omega))) rfl)) ?_)))))
    refine r_mid (fun ρ => ∃ a b : Int, ρ = [.val (.str x), .val (.list ((x0 :: x1 :: x2 :: x3 :: x4 :: r).map .int)), .val (.int top), .val (.int (w : Int)), .val (.int (pk4 4 10 100 100 w)), .val (.int a), .val (.int b), .val (.int (x2.fmod (pk4 2 4 100 100 w))), .val (.int (x2.fmod (pk4 2 4 100 100 w) * top + x3.fmod (pk4 5 20 100 100 w)))] ∧ (0 ≤ a ∧ a < 100) ∧ (0 ≤ b ∧ b < 100))
      (r_if (x_qv (x_op (x_op (x_op rfl rfl (ix_l at4)) rfl (mod_ii (by decide))) rfl (eq_ii _ _))) (fun h => r_end (x_par (x_cons rfl (x_cons (x_op (x_op (x_op rfl rfl (ix_l at1)) rfl rfl) rfl (mod_ii (by decide))) rfl))) ⟨0, (x1.fdiv 8).fmod 3, rfl, by decide, by omega⟩) (fun h => r_end rfl ⟨_, _, rfl, by omega, by omega⟩)) ?_
    rintro ρ ⟨a, b, rfl, ha, hb'⟩
    refine r_mid (fun ρ => ∃ e c : Int, ρ = [.val (.str x), .val (.list ((x0 :: x1 :: x2 :: x3 :: x4 :: r).map .int)), .val (.int top), .val (.int (w : Int)), .val (.int (pk4 4 10 100 100 w)), .val (.int a), .val (.int b), .val (.int e), .val (.int c)] ∧ (0 ≤ e ∧ e < 100) ∧ e * top ≤ c ∧ c ≤ 999)
      (r_if (x_qv (x_op (x_op (x_op rfl rfl (ix_l at4)) rfl (mod_ii (by decide))) rfl (eq_ii _ _))) (fun h => r_seq (x_set rfl) (r_end (x_set (x_op (x_op rfl rfl (ix_l at3)) (x_op rfl rfl (ix_l (pk4_at hw))) (mod_ii (by omega)))) ⟨_, _, rfl, by decide, by omega, by omega⟩)) (fun h => r_end rfl ⟨_, _, rfl, by omega, by omega, by omega⟩)) ?_
    rintro ρ ⟨e, c, rfl, he, hc1, hc2⟩
    exact r_ret rfl ⟨_, rfl, a, b, c, e, rfl, ha, hb', he, hc1, hc2⟩
  obtain ⟨d, h1, h2⟩ := key
  exact ⟨d, h2, h1⟩
/-- the dict of ties, among data -/
def TD (ns : List Str) (kvs : List (PyData × PyData)) : Prop := ∀ e ∈ kvs, ∃ (a b : Str) (s : Int), e = (.tuple [.str a, .str b], .int s) ∧ a ∈ ns ∧ b ∈ ns ∧ a ≠ b ∧ 1 ≤ s ∧ s ≤ 999
theorem TD.put {ns : List Str} {kvs : List (PyData × PyData)} (h : TD ns kvs) {a b : Str} {s : Int} (ha : a ∈ ns) (hb : b ∈ ns) (hn : a ≠ b) (h1 : 1 ≤ s) (h9 : s ≤ 999) : TD ns (putD kvs [.inr a, .inr b] (.int s)) := by
  intro e he
  unfold putD at he
  split at he
  · obtain ⟨kv, hk, rfl⟩ := List.mem_map.mp he
    obtain ⟨a', b', s', rfl, k1, k2, k3, k4, k5⟩ := h kv hk
    dsimp only
    split
    · exact ⟨a', b', s, rfl, k1, k2, k3, h1, h9⟩
    · exact ⟨a', b', s', rfl, k1, k2, k3, k4, k5⟩
  · rcases List.mem_append.mp he with h' | h'
    · exact h e h'
    · rw [List.mem_singleton.mp h']
      exact ⟨a, b, s, rfl, ha, hb, hn, h1, h9⟩
theorem putD_len (kvs : List (PyData × PyData)) (k : List Key) (v : PyData) : (putD kvs k v).length ≤ kvs.length + 1 := by
  unfold putD
  split <;> simp
theorem TD.srt {ns : List Str} {kvs : List (PyData × PyData)} (h : TD ns kvs) (hl : kvs.length ≤ 1000) : Srt (kvs.map (·.1)) ∧ PySem.W.Sortable (kvs.map (·.1)) := by
  have key : ∀ d ∈ kvs.map (·.1), ∃ a b : Str, d = .tuple [.str a, .str b] := fun d hd => by
    obtain ⟨p, hp, rfl⟩ := List.mem_map.mp hd
    obtain ⟨a, b, s, rfl, _⟩ := h p hp
    exact ⟨a, b, rfl⟩
  have ok : PySem.W.Sortable (kvs.map (·.1)) := .inl fun d hd => by
    obtain ⟨a, b, rfl⟩ := key d hd
    exact ⟨_, _, rfl⟩
  refine ⟨⟨fun d hd d' hd' => ?_, .inl ok, fun d hd => ?_, by rw [List.length_map]; omega⟩, ok⟩
  · obtain ⟨a, b, rfl⟩ := key d hd
    obtain ⟨a', b', rfl⟩ := key d' hd'
    rfl
  · obtain ⟨a, b, rfl⟩ := key d hd
    exact Nat.le_of_ble_eq_true rfl
theorem TD.get {ns : List Str} {kvs : List (PyData × PyData)} (h : TD ns kvs) {d : PyData} (hd : d ∈ kvs.map (·.1)) : ∃ (a b : Str) (s : Int), d = .tuple [.str a, .str b] ∧ getD kvs [.inr a, .inr b] = some (.int s) ∧ a ∈ ns ∧ b ∈ ns ∧ a ≠ b ∧ 1 ≤ s ∧ s ≤ 999 := by
  obtain ⟨p, hp, rfl⟩ := List.mem_map.mp hd
  obtain ⟨a, b, s, rfl, _⟩ := h p hp
  cases hf : kvs.find? (fun e => decide (keyL e.1 = some [.inr a, .inr b])) with
  | none =>
    have := List.find?_eq_none.mp hf _ hp
    simp [keyL, keysK, keyK] at this
  | some q =>
    have hq := List.mem_of_find?_eq_some hf
    have hk : keyL q.1 = some [.inr a, .inr b] := by simpa using List.find?_some hf
    obtain ⟨a', b', s', e, h1, h2, h3, h4, h5⟩ := h q hq
    rw [e] at hk
    simp [keyL, keysK, keyK] at hk
    obtain ⟨rfl, rfl⟩ := hk
    refine ⟨a', b', s', rfl, ?_, h1, h2, h3, h4, h5⟩
    unfold getD
    rw [hf, e] <;> rfl
theorem tieGo_ok {ns : List Str} {kvs : List (PyData × PyData)} (h : TD ns kvs) : ∀ (l : List PyData), (∀ d ∈ l, d ∈ kvs.map (·.1)) → ∃ ts, tieGo kvs l = some ts ∧ ts.length = l.length ∧ ∀ t ∈ ts, TieOk ns t
  | [], _ => ⟨[], rfl, rfl, fun t ht => (List.not_mem_nil ht).elim⟩
  | d :: l, hd => by
    obtain ⟨ts, h1, h2, h3⟩ := tieGo_ok h l fun x hx => hd x (List.mem_cons_of_mem _ hx)
    obtain ⟨a, b, s, rfl, hg, ha, hb, hn, h4, h5⟩ := h.get (hd d List.mem_cons_self)
    refine ⟨.tuple [.str a, .str b, .int s] :: ts, ?_, by simp [h2], fun t ht => ?_⟩
    · show (getD kvs [.inr a, .inr b]).bind _ = _
      rw [hg]
      show (tieGo kvs l).map _ = _
      rw [h1]
      rfl
    · rcases List.mem_cons.mp ht with rfl | ht
      · exact ⟨a, b, s, rfl, ha, hb, hn, h4, h5⟩
      · exact h3 t ht
theorem x_dput {j : Nat} {as : MA} {v : ME} {ρ : Ev} {dv : PyData} {kd : List PyData} {ks : List Key} {kvs : List (PyData × PyData)} (h1 : v ρ = some dv) (h2 : as ρ = some kd) (h3 : keysK kd = some ks) (h4 : ρ[j]? = some (.own (.dict kvs))) (h5 : kvs.length < 1000) (h6 : kd.length ≤ 1000) : mDput j as v ρ = some (.nx (ρ.set j (.own (.dict (putD kvs ks dv))))) := by
  unfold mDput
  rw [h1]
  show (as ρ).bind _ = _
  rw [h2]
  show (keysK kd).bind _ = _
  rw [h3, h4]
  show (if kvs.length < 1000 ∧ kd.length ≤ 1000 then _ else none) = _
  rw [if_pos ⟨h5, h6⟩]
theorem ties_ok {ns : List Str} {script : List Int} {at' many w : Nat} (nd : ns.Nodup) (n1 : 1 ≤ ns.length) (n8 : ns.length ≤ 8) (ha : at' ≤ 100) (hm : many ≤ 20) (hw : w < 4) :
    ∃ ts, ts.length ≤ 16 ∧ (∀ t ∈ ts, TieOk ns t) ∧ M_L_ties [.list (ns.map .str), .list (script.map .int), .int (at' : Int), .int (many : Int), .int (w : Int)] = some (.tuple ts) := by
  have L : ((ns.map PyData.str).length : Int) = (ns.length : Int) := by rw [List.length_map]
  have key : ∃ d, M_L_ties [.list (ns.map .str), .list (script.map .int), .int (at' : Int), .int (many : Int), .int (w : Int)] = some d ∧ ∃ ts, ts.length ≤ 16 ∧ (∀ t ∈ ts, TieOk ns t) ∧ d = .tuple ts := by
    refine r_fn rfl (r_seq (x_setO rfl) (r_for (ds := rngD many) (fun i ρ => ∃ kvs kv xv ov tv sv pv, ρ = [.val (.list (ns.map .str)), .val (.list (script.map .int)), .val (.int (at' : Int)), .val (.int (many : Int)), .val (.int (w : Int)), .own (.dict kvs), kv, xv, ov, tv, sv, pv] ∧ TD ns kvs ∧ kvs.length ≤ 2 * i) (x_rng rfl (by omega)) ⟨[], _, _, _, _, _, _, rfl, (fun e he => absurd he List.not_mem_nil), Nat.zero_le _⟩ ?_ ?_))
    · rintro i d ρ hd ⟨kvs, kv, xv, ov, tv, sv, pv, rfl, td, hl⟩
      obtain ⟨hi, rfl⟩ := rng_at hd
      obtain ⟨n, hcell⟩ := cell_ok script (j := at' + i) (by omega)
      obtain ⟨xs, ⟨hlx, hbx⟩, hnums⟩ := nums_ok n (m := 5) (by decide)
      match xs, hlx, hnums with
      | [x0, x1, x2, x3, x4], _, hnums =>
      have f1 := fm x0 (b := (ns.length : Int)) (by omega)
      have mp : (0 : Int) < (if (ns.length : Int) - 1 > 1 then (ns.length : Int) - 1 else 1) := by split <;> omega
      refine ⟨_, rfl, r_seq (x_set (x_cb (x_cons (x_cb (x_cons rfl (x_cons (x_op rfl rfl rfl) rfl)) hcell) rfl) hnums)) (r_seq (x_set (d := .int (((x0.fmod (ns.length : Int)).toNat : Nat) : Int)) (x_op (x_op rfl rfl (ix_l at0)) rfl ?_)) ?_)⟩
      · show oMod (.int x0) (.int (((ns.map PyData.str).length : Nat) : Int)) = _
        rw [L, mod_ii (by omega)]
        congr 2
        omega
      generalize ha1 : (x0.fmod (ns.length : Int)).toNat = a1
      have a1n : a1 < ns.length := by omega
      have f2 := fm (((a1 : Nat) : Int) + 1 + x1.fmod (if (ns.length : Int) - 1 > 1 then (ns.length : Int) - 1 else 1)) (b := (ns.length : Int)) (by omega)
      refine r_seq (x_set (d := .int ((((((a1 : Nat) : Int) + 1 + x1.fmod (if (ns.length : Int) - 1 > 1 then (ns.length : Int) - 1 else 1)).fmod (ns.length : Int)).toNat : Nat) : Int)) (x_op (x_op (x_op rfl rfl rfl) (x_op (x_op rfl rfl (ix_l at1)) (d := .int (x1.fmod (if (ns.length : Int) - 1 > 1 then (ns.length : Int) - 1 else 1))) (y := .int (if (ns.length : Int) - 1 > 1 then (ns.length : Int) - 1 else 1)) ?_ (mod_ii (by omega))) rfl) rfl ?_)) ?_
      · show some (PyData.int (if (((ns.map PyData.str).length : Nat) : Int) - 1 > 1 then (((ns.map PyData.str).length : Nat) : Int) - 1 else 1)) = _
        rw [L]
      · show oMod _ (.int (((ns.map PyData.str).length : Nat) : Int)) = _
        rw [L, mod_ii (by omega)]
        congr 2
        omega
      generalize ha2 : ((((a1 : Nat) : Int) + 1 + x1.fmod (if (ns.length : Int) - 1 > 1 then (ns.length : Int) - 1 else 1)).fmod (ns.length : Int)).toNat = a2
      have a2n : a2 < ns.length := by omega
      have q4 := fm x2 (b := 4) (by decide)
      have q30 := fm x2 (b := 30) (by decide)
      have q999 := fm x2 (b := 999) (by decide)
      refine r_seq (x_set (x_op rfl rfl (ix_l (pk4_at hw)))) ?_
      have sb := pk4_in (p := 1 + x2.fmod 4) (q := 1 + x2.fmod 30) (r := 1 + x2.fmod 999) (s := 1 + x2.fmod 999) (lo := 1) (hi := 999) hw (by omega) (by omega) (by omega) (by omega)
      generalize hsz : pk4 (1 + x2.fmod 4) (1 + x2.fmod 30) (1 + x2.fmod 999) (1 + x2.fmod 999) w = sz1 at sb
      have q9 := fm x4 (b := 9) (by decide)
      refine r_if (x_qv (x_op rfl rfl (ne_ii _ _))) (fun h => ?_) (fun h => r_end rfl ⟨kvs, _, _, _, _, _, _, rfl, td, by omega⟩)
      have ne : a1 ≠ a2 := fun z => by
        rw [z] at h
        simp at h
      have nn : ns[a1] ≠ ns[a2] := fun z => ne ((List.getElem_inj nd).mp z)
      have tk2 := td.put (List.getElem_mem a1n) (List.getElem_mem a2n) nn sb.1 sb.2
      have l2 := putD_len kvs [.inr ns[a1], .inr ns[a2]] (.int sz1)
      refine r_seq (x_dput (kvs := kvs) (ks := [.inr ns[a1], .inr ns[a2]]) (dv := .int sz1) (kd := [.str ns[a1], .str ns[a2]]) rfl (x_cons (x_op rfl rfl (ix_l (str_at a1n))) (x_cons (x_op rfl rfl (ix_l (str_at a2n))) rfl)) rfl rfl (by omega) (by show 2 ≤ 1000; decide)) ?_
      have tst : ∀ c : Bool, ∃ c', qAnd (qV (mOp oEq (mOp oMod (mOp oIx (mW 7) (mC (.int 3))) (mC (.int 3))) (mC (.int 1)))) (qV (mOp oLt (mLenD 5) (mC (.int 16)))) [.val (.list (ns.map .str)), .val (.list (script.map .int)), .val (.int (at' : Int)), .val (.int (many : Int)), .val (.int (w : Int)), .own (.dict (putD kvs [.inr ns[a1], .inr ns[a2]] (.int sz1))), .val (.int (i : Int)), .val (.list ([x0, x1, x2, x3, x4].map .int)), .val (.int (a1 : Int)), .val (.int (a2 : Int)), .val (.int sz1), pv] = some c' := fun _ => by
        have e1 : qV (mOp oEq (mOp oMod (mOp oIx (mW 7) (mC (.int 3))) (mC (.int 3))) (mC (.int 1))) [.val (.list (ns.map .str)), .val (.list (script.map .int)), .val (.int (at' : Int)), .val (.int (many : Int)), .val (.int (w : Int)), .own (.dict (putD kvs [.inr ns[a1], .inr ns[a2]] (.int sz1))), .val (.int (i : Int)), .val (.list ([x0, x1, x2, x3, x4].map .int)), .val (.int (a1 : Int)), .val (.int (a2 : Int)), .val (.int sz1), pv] = some (decide (x3.fmod 3 = 1)) := x_qv (x_op (x_op (x_op rfl rfl (ix_l at3)) rfl (mod_ii (by decide))) rfl (eq_ii _ _))
        by_cases z : x3.fmod 3 = 1
        · rw [decide_eq_true z] at e1
          exact ⟨_, x_andT e1 (x_qv (x_op rfl rfl rfl))⟩
        · rw [decide_eq_false z] at e1
          exact ⟨_, x_andF e1⟩
      obtain ⟨c', hc'⟩ := tst true
      refine r_if hc' (fun h => ?_) (fun h => r_end rfl ⟨_, _, _, _, _, _, _, rfl, tk2, by omega⟩)
      have l3 := putD_len (putD kvs [.inr ns[a1], .inr ns[a2]] (.int sz1)) [.inr ns[a2], .inr ns[a1]] (.int (1 + x4.fmod 9))
      exact r_end (x_dput (kvs := putD kvs [.inr ns[a1], .inr ns[a2]] (.int sz1)) (ks := [.inr ns[a2], .inr ns[a1]]) (dv := .int (1 + x4.fmod 9)) (kd := [.str ns[a2], .str ns[a1]]) (x_op rfl (x_op (x_op rfl rfl (ix_l at4)) rfl (mod_ii (by decide))) rfl) (x_cons (x_op rfl rfl (ix_l (str_at a2n))) (x_cons (x_op rfl rfl (ix_l (str_at a1n))) rfl)) rfl rfl (by omega) (by show 2 ≤ 1000; decide)) ⟨_, _, _, _, _, _, _, rfl, tk2.put (List.getElem_mem a2n) (List.getElem_mem a1n) (Ne.symm nn) (by omega) (by omega), by omega⟩
    · rintro ρ ⟨kvs, kv, xv, ov, tv, sv, pv, rfl, td, hl⟩
      rw [rngD_length] at hl
      obtain ⟨S, ok⟩ := td.srt (by omega)
      obtain ⟨ts, h1, h2, h3⟩ := tieGo_ok td (sortD (kvs.map (·.1))) fun d hd => (sortD_perm _).mem_iff.mp hd
      have et : mTies 11 5 [.val (.list (ns.map .str)), .val (.list (script.map .int)), .val (.int (at' : Int)), .val (.int (many : Int)), .val (.int (w : Int)), .own (.dict kvs), kv, xv, ov, tv, sv, pv] = some (.list ts) := by
        refine x_ties rfl (by show 11 < 12; decide) S ok (fun e he ks hk => ?_) h1
        obtain ⟨a, b, s, rfl, _⟩ := td e he
        have : some [Sum.inr a, Sum.inr b] = some ks := hk
        cases this
        exact ⟨by simp, by simp⟩
      refine r_ret (d := .tuple (LB.cutD ts none (some 16))) (x_cb (x_cons (d := .list (LB.cutD ts none (some 16))) ?_ rfl) rfl) ⟨_, rfl, _, ?_, fun t ht => h3 t (cut_mem ht), rfl⟩
      · unfold mSl
        rw [et]
        rfl
      · unfold LB.cutD
        rw [List.length_take]
        have : HT.sIx ts.length ts.length (some 16) ≤ 16 := by
          show HT.sIx _ _ (some ((16 : Nat) : Int)) ≤ 16
          rw [HT.sIx_nat]
          exact Nat.min_le_left _ _
        omega
  obtain ⟨d, h1, ts, h2, h3, rfl⟩ := key
  exact ⟨ts, h2, h3, h1⟩
theorem twelve {xs : List Int} (h : xs.length = 12) : ∃ x0 x1 x2 x3 x4 x5 x6 x7 x8 x9 x10 x11, xs = [x0, x1, x2, x3, x4, x5, x6, x7, x8, x9, x10, x11] := by
  match xs, h with
  | [x0, x1, x2, x3, x4, x5, x6, x7, x8, x9, x10, x11], _ => exact ⟨x0, x1, x2, x3, x4, x5, x6, x7, x8, x9, x10, x11, rfl⟩
theorem each_snoc {α β : Type} {R : α → β → Prop} : ∀ {as : List α} {bs : List β} {a : α} {b : β}, PySem.W.EachIs R as bs → R a b → PySem.W.EachIs R (as ++ [a]) (bs ++ [b])
  | _, _, _, _, .nil, h => .cons h .nil
  | _, _, _, _, .cons h t, h' => .cons h (each_snoc t h')
theorem web_ok {script : List Int} {at' most : Nat} (ha : at' ≤ 50) (m1 : 1 ≤ most) (m8 : most ≤ 8) : ∃ top ns ps ts, WebOk top ns ps ts ∧ M_L_web [.list (script.map .int), .int (at' : Int), .int (most : Int)] = some (webD top ps ts) := by
  have key : ∃ d, M_L_web [.list (script.map .int), .int (at' : Int), .int (most : Int)] = some d ∧ ∃ top ns ps ts, WebOk top ns ps ts ∧ d = webD top ps ts := by
    obtain ⟨n, hcell⟩ := cell_ok script (j := at') (by omega)
    obtain ⟨xs, hx, hnums⟩ := nums_ok n (m := 12) (by decide)
    have hx' := hx
    obtain ⟨x0, x1, x2, x3, x4, x5, x6, x7, x8, x9, x10, x11, rfl⟩ := twelve hx.1
    have f4 := fm x4 (b := 9) (by decide)
    have f5 := fm x5 (b := (most : Int)) (by omega)
    have f6 := fm x6 (b := 5) (by decide)
    have ew : ∃ w : Nat, w < 4 ∧ atI [PyData.int 0, PyData.int 1, PyData.int 0, PyData.int 1, PyData.int 2] (x6.fmod 5) = some (.int (w : Int)) := by
      rcases (show x6.fmod 5 = 0 ∨ x6.fmod 5 = 1 ∨ x6.fmod 5 = 2 ∨ x6.fmod 5 = 3 ∨ x6.fmod 5 = 4 by omega) with e | e | e | e | e
      · exact ⟨0, by decide, by rw [e]; exact at0⟩
      · exact ⟨1, by decide, by rw [e]; exact at1⟩
      · exact ⟨0, by decide, by rw [e]; exact at2⟩
      · exact ⟨1, by decide, by rw [e]; exact at3⟩
      · exact ⟨2, by decide, by rw [e]; exact at4⟩
    obtain ⟨w, hw, hwa⟩ := ew
    obtain ⟨m, hm⟩ : ∃ m : Nat, 1 + x5.fmod (most : Int) = (m : Int) := ⟨(1 + x5.fmod (most : Int)).toNat, by omega⟩
    have hm1 : 1 ≤ m := by omega
    have hm8 : m ≤ 8 := by omega
    obtain ⟨ns, hns, hnames⟩ := names_ok hx' (by decide) hm1 hm8
    have nd : ns.Nodup := List.nodup_iff_pairwise_ne.mpr (hns.rise.imp fun h e => by
      rw [e] at h
      exact absurd h (List.lt_irrefl _))
    refine r_fn rfl (r_seq (x_set (x_cb (x_cons (x_cb rfl hcell) rfl) hnums)) (r_seq (x_set (x_op rfl (x_op (x_op rfl rfl (ix_l at4)) rfl (mod_ii (by decide))) rfl)) (r_seq (x_set (d := .int (m : Int)) (x_op rfl (x_op (x_op rfl rfl (ix_l at5)) rfl (mod_ii (by omega))) (by rw [← hm]; rfl)))
      (r_seq (x_set (x_op rfl (x_op (x_op rfl rfl (ix_l at6)) rfl (mod_ii (by decide))) (ix_l hwa))) (r_seq (x_set (x_cb rfl hnames)) (r_seq (x_setO rfl) (r_for (ds := rngD m) (fun i ρ => ∃ ps kv, ρ = [.val (.list (script.map .int)), .val (.int (at' : Int)), .val (.int (most : Int)), .val (.list ([x0, x1, x2, x3, x4, x5, x6, x7, x8, x9, x10, x11].map .int)), .val (.int (1 + x4.fmod 9)), .val (.int (m : Int)), .val (.int (w : Int)), .val (.list (ns.map .str)), .own (.list ps), kv, .no] ∧ PySem.W.EachIs (PlaceOk (1 + x4.fmod 9)) (ns.take i) ps ∧ i ≤ ns.length) (x_rng rfl (by omega)) ⟨[], _, rfl, by rw [List.take_zero]; exact .nil, Nat.zero_le _⟩ ?_ ?_)))))))
    · rintro i d ρ hd ⟨ps, kv, rfl, he, hi'⟩
      obtain ⟨hi, rfl⟩ := rng_at hd
      have hin : i < ns.length := by rw [hns.len]; exact hi
      obtain ⟨n', hcell'⟩ := cell_ok script (j := at' + 1 + i) (by omega)
      obtain ⟨ys, hy, hnums'⟩ := nums_ok n' (m := 5) (by decide)
      obtain ⟨dp, hdp, hpl⟩ := place_ok (x := ns[i]) (top := 1 + x4.fmod 9) (w := w) hy (by decide) (by omega) (by omega) hw
      have lp : ps.length = i := by
        have := he.length
        rw [List.length_take] at this
        omega
      refine ⟨_, rfl, r_end (x_app (x_cb (x_cons (x_op rfl rfl (ix_l (str_at hin))) (x_cons (x_cb (x_cons (x_cb (x_cons rfl (x_cons (x_op (x_op rfl rfl rfl) rfl rfl) rfl)) hcell') rfl) hnums') rfl)) hpl) rfl (by omega)) ⟨ps ++ [dp], _, rfl, ?_, hin⟩⟩
      rw [List.take_succ_eq_append_getElem hin]
      exact each_snoc he hdp
    · rintro ρ ⟨ps, kv, rfl, he, hi'⟩
      rw [rngD_length, ← hns.len, List.take_length] at he
      have f7 := fm x7 (b := 2 * (m : Int) + 1) (by omega)
      obtain ⟨mt, hmt⟩ : ∃ k : Nat, x7.fmod (2 * (m : Int) + 1) = (k : Int) := ⟨(x7.fmod (2 * (m : Int) + 1)).toNat, by omega⟩
      have hl8 : ns.length = m := hns.len
      obtain ⟨ts, t1, t2, hties⟩ := ties_ok (script := script) (at' := at' + 1 + m) (many := mt) (w := w) nd (by omega) (by omega) (by omega) (by omega) hw
      refine r_seq (x_set (x_cb (x_cons rfl (x_cons rfl (x_cons (x_op (x_op rfl rfl rfl) rfl rfl) (x_cons (d := .int (mt : Int)) (x_op (x_op rfl rfl (ix_l at7)) (x_op (x_op rfl rfl (mul_ii (by omega) (by omega))) rfl rfl) (by rw [← hmt]; exact mod_ii (by omega))) (x_cons rfl rfl))))) hties)) (r_ret (d := webD (1 + x4.fmod 9) ps ts) rfl ⟨_, rfl, _, ns, ps, ts, ⟨by omega, by omega, by omega, by omega, hns.rise, hns.each, he, t1, t2⟩, rfl⟩)
  obtain ⟨d, h1, top, ns, ps, ts, h2, rfl⟩ := key
  exact ⟨top, ns, ps, ts, h2, h1⟩
theorem eight : ∀ {xs : List Int}, 8 ≤ xs.length → ∃ x0 x1 x2 x3 x4 x5 x6 x7 r, xs = x0 :: x1 :: x2 :: x3 :: x4 :: x5 :: x6 :: x7 :: r
  | x0 :: x1 :: x2 :: x3 :: x4 :: x5 :: x6 :: x7 :: r, _ => ⟨x0, x1, x2, x3, x4, x5, x6, x7, r, rfl⟩
/-- a chain of places -/
theorem chain_ok {xs : List Int} {n m : Nat} (hx : NumsOk n xs) (hn : 8 ≤ n) (m1 : 1 ≤ m) (m8 : m ≤ 8) : ∃ top ns ps ts, WebOk top ns ps ts ∧ M_L_chain [.list (xs.map .int), .int (m : Int)] = some (webD top ps ts) := by
  obtain ⟨ns, hns, hnames⟩ := names_ok hx (by omega) m1 m8
  have nd : ns.Nodup := List.nodup_iff_pairwise_ne.mpr (hns.rise.imp fun h e => by
    rw [e] at h
    exact absurd h (List.lt_irrefl _))
  have hln := hns.len
  obtain ⟨hl, hb⟩ := hx
  obtain ⟨x0, x1, x2, x3, x4, x5, x6, x7, r, rfl⟩ := eight (xs := xs) (by omega)
  have f4 := fm x4 (b := 9) (by decide)
  have f5 := fm x5 (b := 9) (by decide)
  have key : ∃ d, M_L_chain [.list ((x0 :: x1 :: x2 :: x3 :: x4 :: x5 :: x6 :: x7 :: r).map .int), .int (m : Int)] = some d ∧ ∃ top ns ps ts, WebOk top ns ps ts ∧ d = webD top ps ts := by
    refine r_fn rfl (r_seq (x_set (x_cb rfl hnames)) (r_seq (x_set (x_op rfl (x_op (x_op rfl rfl (ix_l at4)) rfl (mod_ii (by decide))) rfl)) (r_seq (x_setO rfl) (r_for (ds := rngD m) (fun i ρ => ∃ ps kv bv, ρ = [.val (.list ((x0 :: x1 :: x2 :: x3 :: x4 :: x5 :: x6 :: x7 :: r).map .int)), .val (.int (m : Int)), .val (.list (ns.map .str)), .val (.int (1 + x4.fmod 9)), .own (.list ps), kv, .no, .no, bv] ∧ PySem.W.EachIs (PlaceOk (1 + x4.fmod 9)) (ns.take i) ps ∧ i ≤ ns.length) (x_rng rfl (by omega)) ⟨[], _, _, rfl, by rw [List.take_zero]; exact .nil, Nat.zero_le _⟩ ?_ ?_))))
    · rintro i d ρ hd ⟨ps, kv, bv, rfl, he, hi'⟩
      obtain ⟨hi, rfl⟩ := rng_at hd
      have hin : i < ns.length := by omega
      have lp : ps.length = i := by
        have := he.length
        rw [List.length_take] at this
        omega
      have e2 : ∀ (u v : Int) (t : Bool), atI [PyData.int u, PyData.int v] (if t = true then 1 else 0) = some (.int (if t = true then v else u)) := fun u v t => by
        cases t
        · exact at0
        · exact at1
      refine ⟨_, rfl, r_seq (x_set (x_op (x_op rfl (x_op (x_op rfl rfl (ix_l at5)) rfl (mod_ii (by decide))) rfl) (x_cb (x_cons (x_op rfl rfl (eq_ii _ _)) rfl) rfl) (mul_ii (by omega) (by split <;> decide)))) (r_end (x_app (x_tup (x_cons (x_op rfl rfl (ix_l (str_at hin))) (x_cons rfl (x_cons rfl (x_cons (x_op (x_lst (x_cons rfl (x_cons (x_op rfl rfl (mul_ii (by omega) (by decide))) rfl)) (by show 2 ≤ 100000; decide)) (x_cb (x_cons (x_op rfl rfl (eq_ii _ _)) rfl) rfl) (ix_l (e2 _ _ _))) rfl)))) (by show 5 ≤ 100000; decide)) rfl (by omega)) ⟨ps ++ [_], .val (.int (i : Int)), _, rfl, ?_, hin⟩)⟩
      rw [List.take_succ_eq_append_getElem hin]
      refine each_snoc he ⟨_, _, _, _, rfl, by decide, ?_, by decide, ?_, ?_⟩
      · split <;> omega
      · split <;> omega
      · split <;> omega
    · rintro ρ ⟨ps, kv, bv, rfl, he, hi'⟩
      rw [rngD_length, ← hln, List.take_length] at he
      refine r_seq (x_set (d := .list (rngD m)) ?_) (r_mid (fun ρ => ∃ ord : List Nat, ord.length = m ∧ (∀ k (h : k + 1 < ord.length), ord[k] < m ∧ ord[k + 1] < m ∧ ord[k] ≠ ord[k + 1]) ∧ ρ = [.val (.list ((x0 :: x1 :: x2 :: x3 :: x4 :: x5 :: x6 :: x7 :: r).map .int)), .val (.int (m : Int)), .val (.list (ns.map .str)), .val (.int (1 + x4.fmod 9)), .own (.list ps), kv, .val (.list (ord.map fun (k : Nat) => PyData.int (k : Int))), .no, bv]) (r_if (x_qv (x_op (x_op (x_op rfl rfl (ix_l at6)) rfl (mod_ii (by decide))) rfl (eq_ii _ _))) (fun h => r_end (x_set rfl) ⟨(List.range m).reverse, by simp, fun k h => ?_, ?_⟩) (fun h => r_end rfl ⟨List.range m, by simp, fun k h => ?_, rfl⟩)) ?_)
      · show oLrg (.int (m : Int)) = _
        show (if 0 ≤ (m : Int) ∧ (m : Int) ≤ 100000 then some (PyData.list (rngD (m : Int).toNat)) else none) = _
        rw [if_pos ⟨by omega, by omega⟩, Int.toNat_natCast]
      · simp at h ⊢
        omega
      · unfold rngD
        rw [List.map_reverse]
        rfl
      · simp at h ⊢
        omega
      rintro ρ ⟨ord, ol, oo, rfl⟩
      refine r_seq (x_setO rfl) (r_for (ds := rngD (m - 1)) (fun i ρ => ∃ ts kv', ρ = [.val (.list ((x0 :: x1 :: x2 :: x3 :: x4 :: x5 :: x6 :: x7 :: r).map .int)), .val (.int (m : Int)), .val (.list (ns.map .str)), .val (.int (1 + x4.fmod 9)), .own (.list ps), kv', .val (.list (ord.map fun (k : Nat) => PyData.int (k : Int))), .own (.list ts), bv] ∧ ts.length = i ∧ ∀ t ∈ ts, TieOk ns t) (x_rng (n := m - 1) ?_ (by omega)) ⟨[], _, rfl, rfl, fun t ht => (List.not_mem_nil ht).elim⟩ ?_ ?_)
      · show some [PyData.int ((m : Int) - 1)] = some [.int ((m - 1 : Nat) : Int)]
        rw [show (m : Int) - 1 = ((m - 1 : Nat) : Int) by omega]
      · rintro i d ρ hd ⟨ts, kv', rfl, lt, ht⟩
        obtain ⟨hi, rfl⟩ := rng_at hd
        obtain ⟨o1, o2, o3⟩ := oo i (by omega)
        have g1 : atI (ord.map fun (k : Nat) => PyData.int (k : Int)) (i : Int) = some (.int ((ord[i]'(by omega) : Nat) : Int)) := atI_nat (by rw [List.getElem?_map, List.getElem?_eq_getElem (by omega)]; rfl)
        have g2 : atI (ord.map fun (k : Nat) => PyData.int (k : Int)) ((i : Int) + 1) = some (.int ((ord[i + 1]'(by omega) : Nat) : Int)) := by
          rw [show (i : Int) + 1 = ((i + 1 : Nat) : Int) by omega]
          exact atI_nat (by rw [List.getElem?_map, List.getElem?_eq_getElem (by omega)]; rfl)
        have f7 := fm (x7 + 3 * (i : Int)) (b := 20) (by decide)
        have b7 := hb x7 (by simp)
        refine ⟨_, rfl, r_end (x_app (x_tup (x_cons (x_op rfl (x_op rfl rfl (ix_l g1)) (ix_l (str_at (by omega)))) (x_cons (x_op rfl (x_op rfl (x_op rfl rfl rfl) (ix_l g2)) (ix_l (str_at (by omega)))) (x_cons (x_op rfl (x_op (x_op (x_op rfl rfl (ix_l at7)) (x_op rfl rfl (mul_ii (by decide) (by omega))) rfl) rfl (mod_ii (by decide))) rfl) rfl))) (by show 3 ≤ 100000; decide)) rfl (by omega)) ⟨ts ++ [_], .val (.int (i : Int)), rfl, by rw [List.length_append, lt]; rfl, fun t h => ?_⟩⟩
        rcases List.mem_append.mp h with h | h
        · exact ht t h
        · rw [List.mem_singleton.mp h]
          exact ⟨_, _, _, rfl, List.getElem_mem _, List.getElem_mem _, fun z => o3 ((List.getElem_inj nd).mp z), by omega, by omega⟩
      · rintro ρ ⟨ts, kv', rfl, lt, ht⟩
        rw [rngD_length] at lt
        have S : Srt ts := by
          have key : ∀ d ∈ ts, ∃ (a b : Str) (s : Int), d = .tuple [.str a, .str b, .int s] := fun d hd => by
            obtain ⟨a, b, s, rfl, _⟩ := ht d hd
            exact ⟨a, b, s, rfl⟩
          refine ⟨fun d hd d' hd' => ?_, .inl (.inl fun d hd => ?_), fun d hd => ?_, by omega⟩
          · obtain ⟨a, b, s, rfl⟩ := key d hd
            obtain ⟨a', b', s', rfl⟩ := key d' hd'
            rfl
          · obtain ⟨a, b, s, rfl⟩ := key d hd
            exact ⟨_, _, rfl⟩
          · obtain ⟨a, b, s, rfl⟩ := key d hd
            exact Nat.le_of_ble_eq_true rfl
        refine r_ret (d := webD (1 + x4.fmod 9) ps (sortD ts)) (x_tup (x_cons rfl (x_cons rfl (x_cons (x_cb (x_cons (x_cb rfl (x_sorted S)) rfl) rfl) rfl))) (by show 3 ≤ 100000; decide)) ⟨_, rfl, _, ns, ps, sortD ts, ⟨by omega, by omega, by omega, by omega, hns.rise, hns.each, he, ?_, fun t h => ht t ((sortD_perm _).mem_iff.mp h)⟩, rfl⟩
        rw [(sortD_perm _).length_eq]
        omega
  obtain ⟨d, h1, top, ns, ps, ts, h2, rfl⟩ := key
  exact ⟨top, ns, ps, ts, h2, h1⟩
end K49

namespace K49
open PySem PySem.Spec PyProof.Rows L2 LB PM
section
variable {top : Int} {ns : List Str} {ps ts : List PyData}
theorem few_ps (W : WebOk top ns ps ts) : ps.length ≤ 8 := by
  rw [← W.pl.length]
  exact W.n8
theorem map_true {f : PyData → PyData} (l : List PyData) : (l.filter fun _ => true).map f = l.map f := by rw [List.filter_eq_self.mpr fun _ _ => rfl]
theorem names_of_ok (W : WebOk top ns ps ts) : M_names_of [webD top ps ts] = some (.tuple (ns.map .str)) := by
  refine r_eq rfl (r_ret (d := .tuple (ns.map .str)) (x_tg (ds := ps) rfl (by have := few_ps W; omega) ?_) rfl)
  rw [x_lcGo (fun _ => true) nmD ps fun d hd => ?_, map_true, nmD_all W.pl]
  obtain ⟨x, a, b, c, e, hx, rfl, _⟩ := nmD_at W.pl d hd
  exact ⟨_, rfl, rfl, fun _ => rfl⟩
theorem is_rising_ok (xs : List Str) : M_is_rising [.tuple (xs.map .str)] = some (.bool (riseB xs)) := by
  refine r_eq rfl (r_ret (d := .bool (riseB xs)) (x_ag (ds := zipD (xs.map .str) ((xs.map PyData.str).drop 1)) ?_ ?_) rfl)
  · show some (zipD (xs.map .str) (LB.cutD (xs.map .str) (some 1) none)) = _
    rw [cut_tail]
  · rw [x_agGo ltD _ fun d hd => ?_, rise_zip]
    obtain ⟨a, b, rfl⟩ := zip_strs hd
    exact ⟨_, rfl, rfl, rfl⟩
theorem is_tup (d : PyData) (ρ : Ev) {i : Nat} (h : ρ[i]? = some (.val d)) : qNot (qV (mIs "tuple" (mW i))) ρ = some (!isU d) := by
  refine x_not (x_qv ?_)
  unfold mIs mW
  rw [h]
  show (kitB (tyN d) "tuple").map _ = _
  rw [kit_tuple]
  rfl
theorem is_str (d : PyData) (ρ : Ev) {i : Nat} (h : ρ[i]? = some (.val d)) : mIs "str" (mW i) ρ = some (.bool (isS d)) := by
  unfold mIs mW
  rw [h]
  show (kitB (tyN d) "str").map _ = _
  rw [kit_str]
  rfl
theorem is_choice_ok (ns : List Str) (d : PyData) : M_is_choice [.tuple (ns.map .str), d] = some (.bool (cutB ns d)) := by
  refine r_eq rfl ?_
  by_cases hu : isU d = true
  · match d, hu with
    | .tuple es, _ =>
      refine r_seq (ρ' := [.val (.tuple (ns.map .str)), .val (.tuple es), .no]) (x_ifF (is_tup (.tuple es) _ rfl) rfl) ?_
      have hag : mAg (iS (mW 1)) [2] (gN 2) qT (mAnd (mIs "str" (mW 2)) (mOp oIn (mW 2) (mW 0))) [.val (.tuple (ns.map .str)), .val (.tuple es), .no] = some (.bool (es.all (inN ns))) := by
        refine x_ag (ds := es) rfl (x_agGo (inN ns) es fun e he => ⟨_, rfl, rfl, ?_⟩)
        cases e with
        | str x =>
          exact x_mandT (is_str (.str x) _ rfl) (x_op rfl rfl (in_strs rfl))
        | none => exact x_mandF (is_str .none _ rfl)
        | bool b => exact x_mandF (is_str (.bool b) _ rfl)
        | int b => exact x_mandF (is_str (.int b) _ rfl)
        | list b => exact x_mandF (is_str (.list b) _ rfl)
        | tuple b => exact x_mandF (is_str (.tuple b) _ rfl)
        | dict b => exact x_mandF (is_str (.dict b) _ rfl)
      show Run (mRet _) [.val (.tuple (ns.map .str)), .val (.tuple es), .no] _
      cases ha : es.all (inN ns) with
      | false =>
        rw [ha] at hag
        refine r_ret (x_mandF hag) ?_
        show some (PyData.bool false) = some (.bool (es.all (inN ns) && _))
        rw [ha]
        rfl
      | true =>
        rw [ha] at hag
        obtain ⟨e1, _⟩ := strs_all ha
        have hr : M_is_rising [.tuple es] = some (.bool (riseB (txs es))) := by
          have := is_rising_ok (txs es)
          rw [← e1] at this
          exact this
        refine r_ret (x_mandT hag (x_cb rfl hr)) ?_
        show some (PyData.bool (riseB (txs es))) = some (.bool (es.all (inN ns) && riseB (txs es)))
        rw [ha]
        rfl
  · have hf : isU d = false := by simpa using hu
    have ht := is_tup d [.val (.tuple (ns.map .str)), .val d, .no] (i := 1) rfl
    rw [hf] at ht
    refine ⟨.rt (.bool false), x_ret (x_ifT ht rfl), ?_⟩
    show some (PyData.bool false) = _
    cases d with
    | tuple es => exact absurd hf (by simp [isU])
    | _ => rfl
theorem is_cut_ok (W : WebOk top ns ps ts) (d : PyData) : M_is_cut [webD top ps ts, d] = some (.bool (cutB ns d)) :=
  r_eq rfl (r_ret (x_cb (x_cons (x_cb rfl (names_of_ok W)) rfl) (is_choice_ok ns d)) rfl)
end
end K49

namespace K49
open PySem PySem.Spec PyProof.Rows L2 LB PM
section
variable {top : Int} {ns : List Str} {ps ts : List PyData}
theorem star_tup {x : List PyData} {y : PyData} {ρ : Ev} (h3 : ρ[3]? = some (.val (.tuple x))) (h2 : ρ[2]? = some (.val y)) (hl : x.length < 1000) : mTup (aStar (mW 3) (aCons (mV 2) aNil)) ρ = some (.tuple (x ++ [y])) := by
  refine x_tup ?_ (by rw [List.length_append]; show _ + 1 ≤ 100000; omega)
  unfold aStar aCons mW mV aNil
  rw [h3, h2]
  rfl
def snocD (y : PyData) : PyData → PyData
  | .tuple x => .tuple (x ++ [y])
  | d => d
theorem cutsF_short (ns : List Str) : ∀ c ∈ cutsF ns, c.length ≤ ns.length := by
  refine snoc_ind (P := fun l => ∀ c ∈ cutsF l, c.length ≤ l.length) (fun c hc => ?_) (fun l a ih c hc => ?_) ns
  · rw [List.mem_singleton.mp (show c ∈ [[]] from hc)]
    exact Nat.le_refl _
  · rw [cutsF_snoc] at hc
    rcases List.mem_append.mp hc with hc | hc
    · have := ih c hc
      rw [List.length_append]
      omega
    · obtain ⟨c', hc', rfl⟩ := List.mem_map.mp hc
      have := ih c' hc'
      rw [List.length_append, List.length_append]
      show c'.length + 1 ≤ l.length + 1
      omega
theorem choices_ok {ns : List Str} (n8 : ns.length ≤ 8) : M_choices_of [.tuple (ns.map .str)] = some (.list ((cutsF ns).map tupS)) := by
  refine r_eq rfl (r_seq (x_set rfl) (r_for (ds := ns.map .str) (fun i ρ => ∃ a b, ρ = [.val (.tuple (ns.map .str)), .val (.list ((cutsF (ns.take i)).map tupS)), a, b] ∧ i ≤ ns.length) rfl ⟨_, _, rfl, Nat.zero_le _⟩ ?_ ?_))
  · rintro i d ρ hd ⟨a, b, rfl, hi⟩
    rw [List.getElem?_map] at hd
    have hin : i < ns.length := by
      rcases Nat.lt_or_ge i ns.length with h | h
      · exact h
      · rw [List.getElem?_eq_none h] at hd
        cases hd
    rw [List.getElem?_eq_getElem hin] at hd
    cases hd
    have l1 : (cutsF (ns.take i)).length ≤ 256 := by
      rw [cutsF_len, List.length_take]
      have : 2 ^ min i ns.length ≤ 2 ^ 8 := Nat.pow_le_pow_right (by decide) (by omega)
      omega
    refine ⟨_, rfl, r_end (x_set (x_op rfl (x_lc (ds := (cutsF (ns.take i)).map tupS) (es := (cutsF (ns.take i)).map fun c => tupS (c ++ [ns[i]])) rfl (by rw [List.length_map]; omega) ?_) (add_ll (by rw [List.length_map, List.length_map]; omega)))) ⟨.val (.str ns[i]), b, ?_, hin⟩⟩
    · rw [x_lcGo (fun _ => true) (snocD (.str ns[i])) _ fun d hd => ?_, map_true, List.map_map]
      · refine congrArg some (List.map_congr_left fun c _ => ?_)
        show PyData.tuple (c.map .str ++ [.str ns[i]]) = .tuple ((c ++ [ns[i]]).map .str)
        rw [List.map_append]
        rfl
      · obtain ⟨c, hc, rfl⟩ := List.mem_map.mp hd
        have hs := cutsF_short _ c hc
        rw [List.length_take] at hs
        exact ⟨_, rfl, rfl, fun _ => star_tup rfl rfl (by rw [List.length_map]; omega)⟩
    · rw [List.take_succ_eq_append_getElem hin, cutsF_snoc, List.map_append, List.map_map]
      rfl
  · rintro ρ ⟨a, b, rfl, _⟩
    rw [List.length_map, List.take_length]
    exact r_ret rfl rfl
theorem all_cuts_ok (W : WebOk top ns ps ts) : M_all_cuts [webD top ps ts] = some (.list (sortD ((cutsF ns).map tupS))) :=
  x_fn rfl (x_rt (x_cb (x_cons (x_cb (x_cons (x_cb rfl (names_of_ok W)) rfl) (choices_ok W.n8)) rfl) (x_sorted (srt_cuts W.n8)))) rfl
theorem bit_test (mask k : Nat) : oEq (.int (Builtin.bitAnd ((mask : Int) / 2 ^ (k : Int).toNat) 1)) (.int 1) = some (.bool (decide (mask / 2 ^ k % 2 = 1))) := by
  rw [eq_ii, bitAnd_m1, Int.toNat_natCast]
  congr 2
  refine decide_eq_decide.mpr ?_
  have e : (mask : Int) / 2 ^ k % 2 = ((mask / 2 ^ k % 2 : Nat) : Int) := by
    rw [Int.natCast_emod, Int.natCast_ediv, Int.natCast_pow]
    rfl
  rw [e]
  omega
end
end K49

namespace K49
open PySem PySem.Spec PyProof.Rows L2 LB PM
open K01 (lowT lowB dvs gcd_fmod fmod_small gcd_pos dvs_ne dvs_nat gcd_le lowB_mul lowT_mul lowB_pos low_gcd low_id low_natAbs_t low_natAbs_b)
theorem cd_loop : ∀ (k : Nat) (a b : Int), b.natAbs ≤ k → ∃ n c, whGo (qV (mOp oNe (mW 1) (mC (.int 0)))) (mPar 0 1 (aCons (mV 1) (aCons (mOp oMod (mW 0) (mW 1)) aNil))) n [.val (.int a), .val (.int b)] = some (.nx [.val (.int c), .val (.int 0)]) ∧ c.natAbs = Int.gcd a b
  | k, a, b, hk => by
    have ht : qV (mOp oNe (mW 1) (mC (.int 0))) [.val (.int a), .val (.int b)] = some (!decide (b = 0)) := x_qv (x_op rfl rfl (ne_ii _ _))
    by_cases hb : b = 0
    · rw [decide_eq_true hb] at ht
      subst hb
      exact ⟨1, a, wh_stop ht, by rw [Int.gcd_zero_right]⟩
    · rw [decide_eq_false hb] at ht
      have hs := fmod_small a b hb
      match k, hk with
      | 0, hk => exact absurd (Int.natAbs_eq_zero.mp (Nat.le_zero.mp hk)) hb
      | k + 1, hk =>
        obtain ⟨n, c, h1, h2⟩ := cd_loop k b (a.fmod b) (by omega)
        refine ⟨n + 1, c, wh_step ht (x_par (x_cons rfl (x_cons (x_op rfl rfl (mod_ii hb)) rfl))) h1, ?_⟩
        rw [h2, gcd_fmod]
theorem abs_nat (c : Int) : (if c < 0 then -c else c) = (c.natAbs : Int) := by split <;> omega
theorem cd_ok (a b : Int) : M_common_divisor [.int a, .int b] = some (.int (Int.gcd a b : Int)) := by
  obtain ⟨n, c, h1, h2⟩ := cd_loop b.natAbs a b (Nat.le_refl _)
  refine r_eq rfl (r_seq (x_while h1) (r_ret (d := .int (Int.gcd a b : Int)) ?_ rfl))
  show some (PyData.int (if c < 0 then -c else c)) = _
  rw [abs_nat, h2]
theorem fraction_ok {t b : Int} (hb : b ≠ 0) (h2 : b.natAbs < 2 ^ 200) : M_fraction [.int t, .int b] = some (frD t b) := by
  have g := gcd_le t hb
  have dn := dvs_nat t b
  refine r_eq rfl (r_seq (x_ifF (x_qv (x_op rfl rfl (by rw [eq_ii, decide_eq_false hb]))) rfl) (r_seq (x_set (x_cb rfl (cd_ok t b))) (r_mid (fun ρ => ρ = [.val (.int t), .val (.int b), .val (.int (dvs t b))]) ?_ ?_)))
  · refine r_if (c := decide (b < 0)) (x_qv (x_op rfl rfl rfl)) (fun h => r_end (x_set (x_neg rfl)) ?_) (fun h => r_end rfl ?_)
    · show _ = _
      unfold dvs
      rw [if_pos (of_decide_eq_true h)]
      rfl
    · show _ = _
      unfold dvs
      rw [if_neg (of_decide_eq_false h)]
      rfl
  · rintro ρ rfl
    exact r_ret (d := frD t b) (x_tup (x_cons (x_op rfl rfl (fdv_ii (dvs_ne t hb) (by omega))) (x_cons (x_op rfl rfl (fdv_ii (dvs_ne t hb) (by omega))) rfl)) (by show 2 ≤ 100000; decide)) rfl
theorem low_loop : ∀ (k : Nat) (x y : PyData) (a b : Nat), b ≤ k → ∃ n, whGo (qV (mOp oGt (mW 3) (mC (.int 0)))) (mPar 2 3 (aCons (mV 3) (aCons (mOp oMod (mW 2) (mW 3)) aNil))) n [.val x, .val y, .val (.int (a : Int)), .val (.int (b : Int))] = some (.nx [.val x, .val y, .val (.int (Nat.gcd a b : Int)), .val (.int 0)])
  | k, x, y, a, b, hk => by
    have ht : qV (mOp oGt (mW 3) (mC (.int 0))) [.val x, .val y, .val (.int (a : Int)), .val (.int (b : Int))] = some (decide ((0 : Int) < (b : Int))) := x_qv (x_op rfl rfl rfl)
    by_cases hb : b = 0
    · subst hb
      rw [decide_eq_false (by omega)] at ht
      exact ⟨1, by rw [Nat.gcd_zero_right]; exact wh_stop ht⟩
    · rw [decide_eq_true (by omega)] at ht
      match k, hk with
      | 0, hk => exact absurd (Nat.le_zero.mp hk) hb
      | k + 1, hk =>
        have hs : a % b < b := Nat.mod_lt _ (by omega)
        obtain ⟨n, h1⟩ := low_loop k x y b (a % b) (by omega)
        have e : (a : Int).fmod (b : Int) = ((a % b : Nat) : Int) := by rw [Int.fmod_eq_emod_of_nonneg _ (by omega), Int.natCast_emod]
        refine ⟨n + 1, wh_step (ρ' := [.val x, .val y, .val (.int (b : Int)), .val (.int ((a % b : Nat) : Int))]) ht (x_par (x_cons rfl (x_cons (x_op rfl rfl (by rw [mod_ii (by omega), e])) rfl))) ?_⟩
        rw [h1]
        congr 7
        rw [Nat.gcd_comm b (a % b), ← Nat.gcd_rec, Nat.gcd_comm]
end K49

namespace K49
open PySem PySem.Spec PyProof.Rows L2 LB PM
open K01 (lowT lowB dvs gcd_fmod fmod_small gcd_pos dvs_ne dvs_nat gcd_le lowB_mul lowT_mul lowB_pos low_gcd low_id low_natAbs_t low_natAbs_b)
section
/-! ### which fraction is less, the same -/
theorem lt_low {a b c d : Int} (hb : 0 < b) (hd : 0 < d) : (lowT a b * lowB c d < lowT c d * lowB a b) ↔ a * d < c * b := by
  have c1 := low_cross a (b := b) (by omega)
  have c2 := low_cross c (b := d) (by omega)
  have y0 := lowB_pos a (b := b) (by omega)
  have v0 := lowB_pos c (b := d) (by omega)
  generalize lowT a b = x at *
  generalize lowB a b = y at *
  generalize lowT c d = u at *
  generalize lowB c d = v at *
  have p1 : 0 < b * d := Int.mul_pos hb hd
  have p2 : 0 < y * v := Int.mul_pos y0 v0
  have e1 : x * v * (b * d) = a * d * (y * v) := by
    calc x * v * (b * d) = (x * b) * (v * d) := by ac_rfl
      _ = (a * y) * (v * d) := by rw [c1]
      _ = a * d * (y * v) := by ac_rfl
  have e2 : u * y * (b * d) = c * b * (y * v) := by
    calc u * y * (b * d) = (u * d) * (y * b) := by ac_rfl
      _ = (c * v) * (y * b) := by rw [c2]
      _ = c * b * (y * v) := by ac_rfl
  constructor
  · intro h
    have := Int.mul_lt_mul_of_pos_right h p1
    rw [e1, e2] at this
    exact Int.lt_of_mul_lt_mul_right this (Int.le_of_lt p2)
  · intro h
    have := Int.mul_lt_mul_of_pos_right h p2
    rw [← e1, ← e2] at this
    exact Int.lt_of_mul_lt_mul_right this (Int.le_of_lt p1)
theorem frD_inj {a b c d : Int} (hb : 0 < b) (hd : 0 < d) (h : frD a b = frD c d) : a * d = c * b := by
  have c1 := low_cross a (b := b) (by omega)
  have c2 := low_cross c (b := d) (by omega)
  have y0 := lowB_pos a (b := b) (by omega)
  have h1 : lowT a b = lowT c d := by
    have : PyData.tuple [.int (lowT a b), .int (lowB a b)] = .tuple [.int (lowT c d), .int (lowB c d)] := h
    injection this with this
    injection this with h1 _
    injection h1
  have h2 : lowB a b = lowB c d := by
    have : PyData.tuple [.int (lowT a b), .int (lowB a b)] = .tuple [.int (lowT c d), .int (lowB c d)] := h
    injection this with this
    injection this with _ h2
    injection h2 with h2 _
    injection h2
  rw [← h1, ← h2] at c2
  have : a * d * lowB a b = c * b * lowB a b := by
    calc a * d * lowB a b = (a * lowB a b) * d := by ac_rfl
      _ = (lowT a b * b) * d := by rw [c1]
      _ = (lowT a b * d) * b := by ac_rfl
      _ = (c * lowB a b) * b := by rw [c2]
      _ = c * b * lowB a b := by ac_rfl
  exact Int.eq_of_mul_eq_mul_right (by omega) this
theorem eq_fr2 {a b c d : Int} (hb : 0 < b) (hd : 0 < d) : oEq (frD a b) (frD c d) = some (.bool (decide (a * d = c * b))) := by
  unfold oEq
  rw [if_pos ⟨rfl, rfl⟩]
  by_cases h : a * d = c * b
  · rw [decide_eq_true h, frD_eq (by omega) (by omega) h]
    rw [PySem.SeqAt.eqv_refl _ (SeqAt.canLay_of_shaped (show SeqAt.shaped (frD c d) = true from rfl))]
  · rw [decide_eq_false h]
    have e : PyData.eqv (frD a b) (frD c d) = (decide (lowT a b = lowT c d) && (decide (lowB a b = lowB c d) && true)) := by
      unfold frD
      simp [PyData.eqv, PyData.eqvAll]
      rfl
    rw [e]
    by_cases h1 : lowT a b = lowT c d
    · by_cases h2 : lowB a b = lowB c d
      · refine absurd (frD_inj hb hd ?_) h
        unfold frD
        rw [h1, h2]
      · rw [decide_eq_false h2, Bool.false_and, Bool.and_false]
    · rw [decide_eq_false h1, Bool.false_and]
theorem below_ok {a b c d : Int} (hb : 0 < b) (hd : 0 < d) (h1 : a.natAbs < 2 ^ 99) (h2 : b.natAbs < 2 ^ 99) (h3 : c.natAbs < 2 ^ 99) (h4 : d.natAbs < 2 ^ 99) : M_below [frD a b, frD c d] = some (.bool (decide (a * d < c * b))) := by
  have a1 := low_natAbs_t a (b := b) (by omega)
  have a2 := low_natAbs_b a (b := b) (by omega)
  have a3 := low_natAbs_t c (b := d) (by omega)
  have a4 := low_natAbs_b c (b := d) (by omega)
  rw [decide_eq_decide.mpr (lt_low hb hd).symm]
  exact r_eq rfl (r_ret (x_op (x_op (x_op rfl rfl (ix_t at0)) (x_op rfl rfl (ix_t at1)) (mul_ii (lt200 (by omega)) (lt200 (by omega)))) (x_op (x_op rfl rfl (ix_t at0)) (x_op rfl rfl (ix_t at1)) (mul_ii (lt200 (by omega)) (lt200 (by omega)))) rfl) rfl)
theorem tupS_inj {a b : List Str} (h : tupS a = tupS b) : a = b := by
  unfold tupS at h
  injection h with h
  exact (List.map_inj_right fun x y e => by injection e).mp h
theorem tlen_S (c : List Str) : tlen (tupS c) = c.length := by
  show (c.map PyData.str).length = _
  rw [List.length_map]
end
end K49

namespace K49
open PySem PySem.Spec PyProof.Rows L2 LB PM
open K01 (lowT lowB dvs gcd_fmod fmod_small gcd_pos dvs_ne dvs_nat gcd_le lowB_mul lowT_mul lowB_pos low_gcd low_id low_natAbs_t low_natAbs_b)
section
variable {top : Int} {ns cs : List Str} {ps ts : List PyData} {p q : Int}
theorem pri_b (hp : Pri top p q) (t9 : top ≤ 9) : q ≠ 0 ∧ q.natAbs < 2 ^ 40 ∧ p.natAbs < 2 ^ 44 := by
  have h1 := hp.q1
  have h2 := hp.p0
  have h3 := hp.pt
  have h4 := hp.q40
  have h5 : top * q ≤ 9 * q := Int.mul_le_mul_of_nonneg_right t9 (by omega)
  exact ⟨by omega, by omega, by omega⟩
theorem pl_b (W : WebOk top ns ps ts) {d : PyData} (hd : d ∈ ps) : ∃ (x : Str) (a b c e : Int), x ∈ ns ∧ d = .tuple [.str x, .int a, .int b, .int c, .int e] ∧ a.natAbs ≤ 999 ∧ b.natAbs ≤ 999 ∧ c.natAbs ≤ 999 ∧ e.natAbs ≤ 999 := by
  obtain ⟨x, a, b, c, e, hx, rfl, ha, hb, he, h1, h2⟩ := nmD_at W.pl d hd
  have : 0 ≤ e * top := Int.mul_nonneg (by omega) (by have := W.t1; omega)
  exact ⟨x, a, b, c, e, hx, rfl, by omega, by omega, by omega, by omega⟩
theorem mod_pri (t1 : 1 ≤ top) (x : Int) {b : Int} (h1 : 0 < b) (h2 : b < 2 ^ 40) : Pri top (x.fmod (top * b + 1)) b := by
  have hm : 0 < top * b := Int.mul_pos (by omega) h1
  have f := fm x (b := top * b + 1) (by omega)
  exact ⟨h1, f.1, by omega, h2⟩
end
end K49

namespace K49
open PySem PySem.Spec PyProof.Rows L2 LB PM
open K01 (lowT lowB dvs gcd_fmod fmod_small gcd_pos dvs_ne dvs_nat gcd_le lowB_mul lowT_mul lowB_pos low_gcd low_id low_natAbs_t low_natAbs_b)
section
variable {top : Int} {ns cs : List Str} {ps ts : List PyData} {p q : Int}
theorem line_ok (W : WebOk top ns ps ts) (hc : cutB ns (.tuple (cs.map .str)) = true) : M_line_of [webD top ps ts, .tuple (cs.map .str)] = some (.tuple [.int (sumOf (bP cs) ps + sumOf (bT cs) ts), .int (sumOf (lP cs) ps)]) := by
  have hcut := is_cut_ok W (.tuple (cs.map .str))
  rw [hc] at hcut
  refine r_eq rfl (r_seq (x_ifF (x_not (x_qv (c := true) (x_cb rfl hcut))) rfl) (r_seq (x_set rfl) (r_seq (x_set rfl) (r_for (ds := ps) (fun i ρ => ∃ s1 s2 s3 s4 s5, ρ = [.val (webD top ps ts), .val (.tuple (cs.map .str)), .val (.int (sumOf (bP cs) (ps.take i))), .val (.int (sumOf (lP cs) (ps.take i))), s1, s2, s3, s4, s5, .no, .no, .no]) rfl ⟨_, _, _, _, _, rfl⟩ ?_ ?_))))
  · rintro i d ρ hd ⟨s1, s2, s3, s4, s5, rfl⟩
    obtain ⟨x, a, b, c, e, hx, rfl, _⟩ := nmD_at W.pl d (List.mem_of_getElem? hd)
    refine ⟨_, rfl, r_if (c := decide (x ∈ cs)) (x_qv (x_op rfl rfl (in_strs rfl))) (fun h => r_seq (x_aug rfl rfl rfl) (r_end (x_aug rfl rfl rfl) ⟨.val (.str x), .val (.int a), .val (.int b), .val (.int c), .val (.int e), ?_⟩)) (fun h => r_seq (x_aug rfl rfl rfl) (r_end (x_aug rfl rfl rfl) ⟨.val (.str x), .val (.int a), .val (.int b), .val (.int c), .val (.int e), ?_⟩))⟩
    · have hx := of_decide_eq_true h
      rw [take_snoc hd, sum_snoc, sum_snoc]
      rw [show bP cs (.tuple [.str x, .int a, .int b, .int c, .int e]) = c from if_pos hx, show lP cs (.tuple [.str x, .int a, .int b, .int c, .int e]) = -e from if_pos hx]
      rfl
    · have hx := of_decide_eq_false h
      rw [take_snoc hd, sum_snoc, sum_snoc]
      rw [show bP cs (.tuple [.str x, .int a, .int b, .int c, .int e]) = a from if_neg hx, show lP cs (.tuple [.str x, .int a, .int b, .int c, .int e]) = b from if_neg hx]
      rfl
  · rintro ρ ⟨s1, s2, s3, s4, s5, rfl⟩
    rw [List.take_length]
    refine r_for (ds := ts) (fun i ρ => ∃ s6 s7 s8, ρ = [.val (webD top ps ts), .val (.tuple (cs.map .str)), .val (.int (sumOf (bP cs) ps + sumOf (bT cs) (ts.take i))), .val (.int (sumOf (lP cs) ps)), s1, s2, s3, s4, s5, s6, s7, s8]) rfl ⟨_, _, _, by rw [List.take_zero, show sumOf (bT cs) [] = 0 from rfl, Int.add_zero]⟩ ?_ ?_
    · rintro i d ρ hd ⟨s6, s7, s8, rfl⟩
      obtain ⟨x, y, s, rfl, _⟩ := W.ti d (List.mem_of_getElem? hd)
      have t1 : qV (mOp oIn (mW 9) (mW 1)) [.val (webD top ps ts), .val (.tuple (cs.map .str)), .val (.int (sumOf (bP cs) ps + sumOf (bT cs) (ts.take i))), .val (.int (sumOf (lP cs) ps)), s1, s2, s3, s4, s5, .val (.str x), .val (.str y), .val (.int s)] = some (decide (x ∈ cs)) := x_qv (x_op rfl rfl (in_strs rfl))
      have t2 : qV (mOp oNin (mW 10) (mW 1)) [.val (webD top ps ts), .val (.tuple (cs.map .str)), .val (.int (sumOf (bP cs) ps + sumOf (bT cs) (ts.take i))), .val (.int (sumOf (lP cs) ps)), s1, s2, s3, s4, s5, .val (.str x), .val (.str y), .val (.int s)] = some (!decide (y ∈ cs)) := x_qv (x_op rfl rfl (nin_strs rfl))
      have tt : qAnd (qV (mOp oIn (mW 9) (mW 1))) (qV (mOp oNin (mW 10) (mW 1))) [.val (webD top ps ts), .val (.tuple (cs.map .str)), .val (.int (sumOf (bP cs) ps + sumOf (bT cs) (ts.take i))), .val (.int (sumOf (lP cs) ps)), s1, s2, s3, s4, s5, .val (.str x), .val (.str y), .val (.int s)] = some (decide (x ∈ cs ∧ y ∉ cs)) := by
        by_cases hx : x ∈ cs
        · rw [decide_eq_true hx] at t1
          rw [x_andT t1 t2]
          congr 1
          by_cases hy : y ∈ cs <;> simp [hx, hy]
        · rw [decide_eq_false hx] at t1
          rw [x_andF t1, decide_eq_false fun z => hx z.1]
      refine ⟨_, rfl, r_if tt (fun h => r_end (x_aug rfl rfl rfl) ⟨.val (.str x), .val (.str y), .val (.int s), ?_⟩) (fun h => r_end rfl ⟨.val (.str x), .val (.str y), .val (.int s), ?_⟩)⟩
      · rw [take_snoc hd, sum_snoc, show bT cs (.tuple [.str x, .str y, .int s]) = s from if_pos (of_decide_eq_true h), ← Int.add_assoc]
        rfl
      · rw [take_snoc hd, sum_snoc, show bT cs (.tuple [.str x, .str y, .int s]) = 0 from if_neg (of_decide_eq_false h), Int.add_zero]
        rfl
    · rintro ρ ⟨s6, s7, s8, rfl⟩
      rw [List.take_length]
      exact r_ret rfl rfl
theorem bP_b (W : WebOk top ns ps ts) {d : PyData} (hd : d ∈ ps) : (bP cs d).natAbs ≤ 999 ∧ (lP cs d).natAbs ≤ 999 := by
  obtain ⟨x, a, b, c, e, hx, rfl, ha, hb, hc, he⟩ := pl_b W hd
  show (if x ∈ cs then c else a).natAbs ≤ 999 ∧ (if x ∈ cs then -e else b).natAbs ≤ 999
  split <;> constructor <;> omega
theorem bT_b (W : WebOk top ns ps ts) {d : PyData} (hd : d ∈ ts) : (bT cs d).natAbs ≤ 999 := by
  obtain ⟨x, y, s, rfl, _, _, _, h1, h2⟩ := W.ti d hd
  show (if x ∈ cs ∧ y ∉ cs then s else 0).natAbs ≤ 999
  split <;> omega
theorem base_b (W : WebOk top ns ps ts) (cs : List Str) : (sumOf (bP cs) ps + sumOf (bT cs) ts).natAbs ≤ 100000 ∧ (sumOf (lP cs) ps).natAbs ≤ 100000 := by
  have h1 : (sumOf (bP cs) ps).natAbs ≤ ps.length * 999 := sum_bound fun d hd => (bP_b W hd).1
  have h2 : (sumOf (lP cs) ps).natAbs ≤ ps.length * 999 := sum_bound fun d hd => (bP_b W hd).2
  have h3 : (sumOf (bT cs) ts).natAbs ≤ ts.length * 999 := sum_bound fun d hd => bT_b W hd
  have l8 := few_ps W
  have l16 := W.tl
  omega
theorem cut_strs {d : PyData} (h : cutB ns d = true) : ∃ cs : List Str, d = .tuple (cs.map .str) := by
  unfold cutB at h
  split at h
  · rw [Bool.and_eq_true] at h
    exact ⟨_, congrArg PyData.tuple (strs_all h.1).1⟩
  · cases h
end
end K49

namespace K49
open PySem PySem.Spec PyProof.Rows L2 LB PM
section
variable {top : Int} {ns cs : List Str} {ps ts : List PyData} {p q : Int}
/-- the line of a cut -/
def bs (ps ts : List PyData) (c : List Str) : Int := sumOf (bP c) ps + sumOf (bT c) ts
def le (ps : List PyData) (c : List Str) : Int := sumOf (lP c) ps
def pr (a b : Int) : PyData := .tuple [.int a, .int b]
theorem x_asg {e : ME} {gm : MG} {ρ ρ' : Ev} {d : PyData} (h : e ρ = some d) (h2 : gm d ρ = some ρ') : mAsg e gm ρ = some (.nx ρ') := by
  unfold mAsg
  rw [h]
  show (gm d ρ).map _ = _
  rw [h2]
  rfl
theorem at1s {e : ME} {ρ : Ev} (h : e ρ = some (webD top ps ts)) : iS (mOp oIx e (mC (.int 1))) ρ = some ps := by
  show (mOp oIx _ _ _).bind seqD = _
  rw [x_op h rfl (ix_t at1)]
  rfl
theorem at2s {e : ME} {ρ : Ev} (h : e ρ = some (webD top ps ts)) : iS (mOp oIx e (mC (.int 2))) ρ = some ts := by
  show (mOp oIx _ _ _).bind seqD = _
  rw [x_op h rfl (ix_t at2)]
  rfl
/-! ### what is drawn -/
theorem it_at {xs : List Int} {i : Nat} (h : i < xs.length) : atI (xs.map PyData.int) (i : Int) = some (.int xs[i]) := atI_nat (by rw [List.getElem?_map, List.getElem?_eq_getElem h]; rfl)
theorem cut_from {α : Type} (l : List α) {k : Nat} (h : k ≤ l.length) : LB.cutD l (some (k : Int)) none = l.drop k := by
  unfold LB.cutD
  rw [HT.sIx_nat, Nat.min_eq_left h, show HT.sIx l.length l.length none = l.length from rfl]
  exact List.take_of_length_le (by rw [List.length_drop]; omega)
theorem drawn_ok (script : List Int) {at' : Nat} (ha : at' ≤ 50) : ∃ top ns ps ts, WebOk top ns ps ts ∧ M_L_drawn [.list (script.map .int), .int (at' : Int)] = some (webD top ps ts) := by
  have key : ∃ d, M_L_drawn [.list (script.map .int), .int (at' : Int)] = some d ∧ ∃ top ns ps ts, WebOk top ns ps ts ∧ d = webD top ps ts := by
    obtain ⟨n, hcell⟩ := cell_ok script (j := at') (by omega)
    obtain ⟨xs, hx, hnums⟩ := nums_ok n (m := 21) (by decide)
    have hl := hx.1
    have f7 := fm (xs[20]'(by omega)) (b := 7) (by decide)
    obtain ⟨m, hm⟩ : ∃ m : Nat, 2 + (xs[20]'(by omega)).fmod 7 = (m : Int) := ⟨(2 + (xs[20]'(by omega)).fmod 7).toNat, by omega⟩
    have hx' : NumsOk 8 (xs.drop 13) := ⟨by rw [List.length_drop]; omega, fun x h => hx.2 x (List.mem_of_mem_drop h)⟩
    have ed : LB.cutD (xs.map PyData.int) (some 13) none = (xs.drop 13).map .int := by
      rw [List.map_drop]
      exact cut_from _ (k := 13) (by rw [List.length_map]; omega)
    refine r_fn rfl (r_seq (x_set (x_cb (x_cons (x_cb rfl hcell) rfl) hnums)) ?_)
    have ek : ∀ {s0 s1 : Sl}, mOp oMod (mOp oIx (mW 2) (mC (.int 12))) (mC (.int 8)) [s0, s1, .val (.list (xs.map .int))] = some (.int ((xs[12]'(by omega)).fmod 8)) := fun {s0 s1} => x_op (x_op rfl rfl (ix_l (it_at (i := 12) (by omega)))) rfl (mod_ii (by decide))
    obtain ⟨t1, n1, p1, u1, W1, hw1⟩ := web_ok (script := script) (at' := at') (most := 8) ha (by decide) (by decide)
    obtain ⟨t2, n2, p2, u2, W2, hw2⟩ := web_ok (script := script) (at' := at') (most := 5) ha (by decide) (by decide)
    obtain ⟨t3, n3, p3, u3, W3, hc⟩ := chain_ok (m := m) hx' (by decide) (by omega) (by omega)
    by_cases h1 : (xs[12]'(by omega)).fmod 8 = 1
    · exact ⟨_, x_ret (x_ifT (x_qv (c := true) (x_op ek rfl (by rw [eq_ii, h1]; rfl))) (x_rt (x_cb rfl hw1))), _, rfl, t1, n1, p1, u1, W1, rfl⟩
    · refine r_seq (x_ifF (x_qv (c := false) (x_op ek rfl (by rw [eq_ii, decide_eq_false h1]))) rfl) ?_
      by_cases h2 : (xs[12]'(by omega)).fmod 8 = 2
      · refine ⟨_, x_ret (x_ifT (x_qv (c := true) (x_op ek rfl (by rw [eq_ii, h2]; rfl))) (x_rt (x_cb (x_cons (d := .list ((xs.drop 13).map .int)) ?_ (x_cons (d := .int (m : Int)) (x_op rfl (x_op (x_op rfl rfl (ix_l (it_at (i := 20) (by omega)))) rfl (mod_ii (by decide))) (by rw [← hm]; rfl)) rfl)) hc))), _, rfl, t3, n3, p3, u3, W3, rfl⟩
        show some (PyData.list (LB.cutD (xs.map PyData.int) (some 13) none)) = _
        rw [ed]
      · exact r_seq (x_ifF (x_qv (c := false) (x_op ek rfl (by rw [eq_ii, decide_eq_false h2]))) rfl) (r_ret (x_cb rfl hw2) ⟨_, rfl, t2, n2, p2, u2, W2, rfl⟩)
  obtain ⟨d, h1, top, ns, ps, ts, W, rfl⟩ := key
  exact ⟨top, ns, ps, ts, W, h1⟩
end
end K49

namespace K49
open PySem PySem.Spec PyProof.Rows L2 LB PM
section
variable {top : Int} {ns cs : List Str} {ps ts : List PyData}
/-! ### cuts and their lines, gathered -/
theorem sub_filter : ∀ {c l : List Str}, c.Sublist l → l.Nodup → l.filter (fun x => decide (x ∈ c)) = c := by
  intro c l h
  induction h with
  | slnil => intro _; rfl
  | @cons c l a h ih =>
    intro nd
    rw [List.nodup_cons] at nd
    rw [List.filter_cons_of_neg]
    · exact ih nd.2
    · intro z
      exact nd.1 (h.subset (of_decide_eq_true z))
  | @cons_cons c l a h ih =>
    intro nd
    rw [List.nodup_cons] at nd
    rw [List.filter_cons_of_pos (by simp)]
    congr 1
    rw [← ih nd.2]
    refine List.filter_congr fun x hx => ?_
    rw [ih nd.2]
    have ne : x ≠ a := fun z => nd.1 (z ▸ hx)
    simp [ne]
theorem cuts_sub (ns : List Str) : ∀ c ∈ cutsF ns, c.Sublist ns := by
  refine snoc_ind (P := fun l => ∀ c ∈ cutsF l, c.Sublist l) (fun c hc => ?_) (fun l a ih c hc => ?_) ns
  · rw [List.mem_singleton.mp (show c ∈ [[]] from hc)]
    exact List.Sublist.refl _
  · rw [cutsF_snoc] at hc
    rcases List.mem_append.mp hc with hc | hc
    · exact (ih c hc).trans (List.sublist_append_left _ _)
    · obtain ⟨c', hc', rfl⟩ := List.mem_map.mp hc
      exact (ih c' hc').append (List.Sublist.refl _)
theorem nil_cut (ns : List Str) : [] ∈ cutsF ns := by
  refine snoc_ind (P := fun l => [] ∈ cutsF l) (List.mem_singleton.mpr rfl) (fun l a ih => ?_) ns
  rw [cutsF_snoc]
  exact List.mem_append_left _ ih
theorem rise_B : ∀ {c : List Str}, Rise c → riseB c = true
  | [], _ => rfl
  | [_], _ => rfl
  | a :: b :: r, h => by
    have h1 : a.cps.toList < b.cps.toList := (List.pairwise_cons.mp h).1 b List.mem_cons_self
    have h2 : riseB (b :: r) = true := rise_B (List.pairwise_cons.mp h).2
    show (decide _ && riseB (b :: r)) = true
    rw [h2, decide_eq_true h1]
    rfl
theorem txs_S : ∀ c : List Str, txs (c.map .str) = c
  | [] => rfl
  | x :: c => by
    show x :: txs (c.map .str) = x :: c
    rw [txs_S c]
theorem cut_B (hr : Rise ns) {c : List Str} (hc : c ∈ cutsF ns) : cutB ns (tupS c) = true := by
  have sb := cuts_sub ns c hc
  show ((c.map PyData.str).all (inN ns) && riseB (txs (c.map .str))) = true
  rw [txs_S, rise_B (List.Pairwise.sublist sb hr), Bool.and_true, List.all_eq_true]
  intro d hd
  obtain ⟨x, hx, rfl⟩ := List.mem_map.mp hd
  exact decide_eq_true (sb.subset hx)
def unT : PyData → List Str
  | .tuple ds => txs ds
  | _ => []
/-- the cuts, rising -/
noncomputable def cutsS (ns : List Str) : List (List Str) := (sortD ((cutsF ns).map tupS)).map unT
theorem cutsS_map (ns : List Str) : (cutsS ns).map tupS = sortD ((cutsF ns).map tupS) := by
  unfold cutsS
  rw [List.map_map]
  conv => rhs; rw [← List.map_id (sortD ((cutsF ns).map tupS))]
  refine List.map_congr_left fun d hd => ?_
  obtain ⟨c, _, rfl⟩ := List.mem_map.mp ((sortD_perm _).mem_iff.mp hd)
  show tupS (txs (c.map .str)) = tupS c
  rw [txs_S]
theorem cutsS_perm (ns : List Str) : (cutsS ns).Perm (cutsF ns) := by
  have := (sortD_perm ((cutsF ns).map tupS)).map unT
  rw [List.map_map] at this
  have e : (cutsF ns).map (unT ∘ tupS) = cutsF ns := by
    conv => rhs; rw [← List.map_id (cutsF ns)]
    refine List.map_congr_left fun c _ => ?_
    show txs (c.map .str) = c
    exact txs_S c
  rw [e] at this
  exact this
theorem cutsS_mem {c : List Str} : c ∈ cutsS ns ↔ c ∈ cutsF ns := (cutsS_perm ns).mem_iff
def kl (ps ts : List PyData) (c : List Str) : List Key := [.inl (bs ps ts c), .inl (le ps c)]
noncomputable def gaF (ps ts : List PyData) (cs : List (List Str)) (G : List (List Key × List PyData)) : List (List Key × List PyData) := cs.foldl (fun G c => addG G (kl ps ts c) (tupS c)) G
structure GOk (ps ts : List PyData) (cs : List (List Str)) (G : List (List Key × List PyData)) : Prop where
  nk : (G.map (·.1)).Nodup
  src : ∀ e ∈ G, ∃ c ∈ cs, kl ps ts c = e.1
  lst : ∀ e ∈ G, e.2 = (cs.filter fun c => decide (kl ps ts c = e.1)).map tupS
  all : ∀ c ∈ cs, ∃ e ∈ G, e.1 = kl ps ts c
theorem GOk.snoc {l : List (List Str)} {G : List (List Key × List PyData)} (g : GOk ps ts l G) (c : List Str) : GOk ps ts (l ++ [c]) (addG G (kl ps ts c) (tupS c)) := by
  have fil : ∀ k : List Key, (l ++ [c]).filter (fun c => decide (kl ps ts c = k)) = l.filter (fun c => decide (kl ps ts c = k)) ++ (if kl ps ts c = k then [c] else []) := fun k => by
    rw [List.filter_append]
    congr 1
    by_cases h : kl ps ts c = k
    · rw [if_pos h]
      simp [h]
    · rw [if_neg h]
      simp [h]
  by_cases h : kl ps ts c ∈ G.map (·.1)
  · obtain ⟨e0, he0, h0⟩ := List.mem_map.mp h
    have ea : addG G (kl ps ts c) (tupS c) = G.map (fun e => if e.1 = kl ps ts c then (e.1, e.2 ++ [tupS c]) else e) := by
      unfold addG
      rw [if_pos (List.any_eq_true.mpr ⟨e0, he0, decide_eq_true h0⟩)]
    rw [ea]
    have k1 : (G.map (fun e => if e.1 = kl ps ts c then (e.1, e.2 ++ [tupS c]) else e)).map (·.1) = G.map (·.1) := by
      rw [List.map_map]
      refine List.map_congr_left fun e _ => ?_
      show (if e.1 = kl ps ts c then (e.1, e.2 ++ [tupS c]) else e).1 = e.1
      split <;> rfl
    refine ⟨by rw [k1]; exact g.nk, fun e he => ?_, fun e he => ?_, fun c' hc' => ?_⟩
    · obtain ⟨x, hx, rfl⟩ := List.mem_map.mp he
      obtain ⟨c', hc', e'⟩ := g.src x hx
      exact ⟨c', List.mem_append_left _ hc', by split <;> exact e'⟩
    · obtain ⟨x, hx, rfl⟩ := List.mem_map.mp he
      have := g.lst x hx
      by_cases z : x.1 = kl ps ts c
      · rw [if_pos z]
        show x.2 ++ [tupS c] = ((l ++ [c]).filter fun c => decide (kl ps ts c = x.1)).map tupS
        rw [fil, if_pos z.symm, List.map_append, ← this]
        rfl
      · rw [if_neg z, fil, if_neg (Ne.symm z), List.append_nil]
        exact this
    · rcases List.mem_append.mp hc' with h' | h'
      · obtain ⟨e, he, h2⟩ := g.all c' h'
        exact ⟨_, List.mem_map.mpr ⟨e, he, rfl⟩, by split <;> exact h2⟩
      · rw [List.mem_singleton.mp h']
        exact ⟨_, List.mem_map.mpr ⟨e0, he0, rfl⟩, by split <;> exact h0⟩
  · rw [add_new h]
    have none' : l.filter (fun c' => decide (kl ps ts c' = kl ps ts c)) = [] := List.filter_eq_nil_iff.mpr fun c' hc' z => by
      obtain ⟨e, he, h2⟩ := g.all c' hc'
      exact h (List.mem_map.mpr ⟨e, he, h2.trans (of_decide_eq_true z)⟩)
    refine ⟨?_, fun e he => ?_, fun e he => ?_, fun c' hc' => ?_⟩
    · rw [List.map_append, List.nodup_append]
      refine ⟨g.nk, by simp, fun a ha b hb e => h ?_⟩
      have e : a = kl ps ts c := e.trans (List.mem_singleton.mp hb)
      rw [e] at ha
      exact ha
    · rcases List.mem_append.mp he with he | he
      · obtain ⟨c', hc', e'⟩ := g.src e he
        exact ⟨c', List.mem_append_left _ hc', e'⟩
      · rw [List.mem_singleton.mp he]
        exact ⟨c, List.mem_append_right _ (List.mem_singleton.mpr rfl), rfl⟩
    · rcases List.mem_append.mp he with he | he
      · have := g.lst e he
        have z : kl ps ts c ≠ e.1 := fun z => h (List.mem_map.mpr ⟨e, he, z.symm⟩)
        rw [fil, if_neg z, List.append_nil]
        exact this
      · rw [List.mem_singleton.mp he, fil, if_pos rfl, none']
        rfl
    · rcases List.mem_append.mp hc' with h' | h'
      · obtain ⟨e, he, h2⟩ := g.all c' h'
        exact ⟨e, List.mem_append_left _ he, h2⟩
      · rw [List.mem_singleton.mp h']
        exact ⟨_, List.mem_append_right _ (List.mem_singleton.mpr rfl), rfl⟩
theorem gaF_ok : ∀ (r l : List (List Str)) (G : List (List Key × List PyData)), GOk ps ts l G → GOk ps ts (l ++ r) (gaF ps ts r G)
  | [], l, G, g => by
    rw [List.append_nil]
    exact g
  | c :: r, l, G, g => by
    have := gaF_ok r (l ++ [c]) _ (g.snoc c)
    rw [List.append_assoc] at this
    exact this
theorem okline (W : WebOk top ns ps ts) {c : List Str} (hc : c ∈ cutsF ns) : M_line_of [webD top ps ts, tupS c] = some (pr (bs ps ts c) (le ps c)) := line_ok W (cut_B W.rise hc)
theorem ga_go (W : WebOk top ns ps ts) : ∀ (r : List (List Str)) (s2 s3 : Sl) (G : List (List Key × List PyData)), (∀ c ∈ r, c ∈ cutsF ns) → ∃ s2' s3', gaGo 2 3 (mCb M_line_of (aCons (mV 0) (aCons (mV 2) aNil))) (r.map tupS) [.val (webD top ps ts), .no, s2, s3] G = some ([.val (webD top ps ts), .no, s2', s3'], gaF ps ts r G)
  | [], s2, s3, G, _ => ⟨s2, s3, rfl⟩
  | c :: r, s2, s3, G, h => by
    obtain ⟨s2', s3', ih⟩ := ga_go W r (.val (tupS c)) (.val (pr (bs ps ts c) (le ps c))) (addG G (kl ps ts c) (tupS c)) fun x hx => h x (List.mem_cons_of_mem _ hx)
    refine ⟨s2', s3', ?_⟩
    have e : mCb M_line_of (aCons (mV 0) (aCons (mV 2) aNil)) ([Sl.val (webD top ps ts), .no, s2, s3].set 2 (.val (tupS c))) = some (pr (bs ps ts c) (le ps c)) := x_cb rfl (okline W (h c List.mem_cons_self))
    show (mCb M_line_of (aCons (mV 0) (aCons (mV 2) aNil)) ([Sl.val (webD top ps ts), .no, s2, s3].set 2 (.val (tupS c)))).bind _ = _
    rw [e]
    exact ih
theorem by_line_eq (W : WebOk top ns ps ts) : M_cuts_by_line [webD top ps ts] = some (dG (gaF ps ts (cutsS ns) [])) := by
  obtain ⟨s2', s3', hg⟩ := ga_go W (cutsS ns) .no .no [] fun c hc => cutsS_mem.mp hc
  have n8 := W.n8
  have few : (cutsF ns).length ≤ 256 := by
    rw [cutsF_len]
    have p8 : 2 ^ ns.length ≤ 2 ^ 8 := Nat.pow_le_pow_right (by decide) n8
    omega
  have hl : ((cutsS ns).map tupS).length ≤ 1000 := by
    rw [List.length_map, (cutsS_perm ns).length_eq]
    omega
  have mg : mGather 1 3 2 (iS (mCb M_all_cuts (aCons (mV 0) aNil))) (mCb M_line_of (aCons (mV 0) (aCons (mV 2) aNil))) [.val (webD top ps ts), .own (.dict []), .no, .no] = some (.nx [.val (webD top ps ts), .val (dG (gaF ps ts (cutsS ns) [])), s2', s3']) := by
    have hi : iS (mCb M_all_cuts (aCons (mV 0) aNil)) [.val (webD top ps ts), .own (.dict []), .no, .no] = some ((cutsS ns).map tupS) := by
      show (mCb _ _ _).bind seqD = _
      rw [x_cb rfl (all_cuts_ok W), cutsS_map]
      rfl
    show (iS (mCb M_all_cuts (aCons (mV 0) aNil)) [.val (webD top ps ts), .own (.dict []), .no, .no]).bind _ = _
    rw [hi]
    show (if ((cutsS ns).map tupS).length ≤ 1000 ∧ _ then _ else none) = _
    rw [if_pos ⟨hl, ⟨by show 2 < 4; decide, by show 3 < 4; decide⟩, rfl⟩]
    show (gaGo 2 3 (mCb M_line_of (aCons (mV 0) (aCons (mV 2) aNil))) ((cutsS ns).map tupS) [.val (webD top ps ts), .no, .no, .no] []).map _ = _
    rw [hg]
    rfl
  exact r_eq rfl (r_seq (x_setO rfl) (r_seq mg (r_ret rfl rfl)))
end
end K49

namespace K49
open PySem PySem.Spec PyProof.Rows L2 LB PM
section
variable {top : Int} {ns cs : List Str} {ps ts : List PyData}
abbrev Ln := Int × Int
def prK (k : Ln) : PyData := pr k.1 k.2
def ofK : List Key → Ln
  | [.inl a, .inl b] => (a, b)
  | _ => (0, 0)
def lnC (ps ts : List PyData) (c : List Str) : Ln := (bs ps ts c, le ps c)
/-- the lines of all cuts -/
structure LOk (ps ts : List PyData) (ns : List Str) (G : List (List Key × List PyData)) (ks : List Ln) : Prop where
  key : G.map (fun e => PyData.tuple (e.1.map keyD)) = ks.map prK
  src : ∀ k ∈ ks, ∃ c ∈ cutsF ns, lnC ps ts c = k
  all : ∀ c ∈ cutsF ns, lnC ps ts c ∈ ks
  few : ks.length ≤ 256
  get : ∀ k ∈ ks, ∃ d ds, oGetT (dG G) (prK k) = some (.list (d :: ds)) ∧ d :: ds = ((cutsS ns).filter fun c => decide (lnC ps ts c = k)).map tupS
  big : ∀ k ∈ ks, k.1.natAbs ≤ 100000 ∧ k.2.natAbs ≤ 100000
theorem kl_ln {c : List Str} {k : Ln} : kl ps ts c = [.inl k.1, .inl k.2] ↔ lnC ps ts c = k := by
  unfold kl lnC
  constructor
  · intro h
    injection h with h1 h2
    injection h2 with h2 _
    injection h1 with h1
    injection h2 with h2
    rw [h1, h2]
  · rintro rfl
    rfl
theorem nodup_few {α : Type} : ∀ {l m : List α}, l.Nodup → (∀ x ∈ l, x ∈ m) → l.length ≤ m.length
  | [], _, _, _ => Nat.zero_le _
  | x :: l, m, nd, h => by
    rw [List.nodup_cons] at nd
    obtain ⟨a, b, rfl⟩ := List.append_of_mem (h x List.mem_cons_self)
    have := nodup_few (m := a ++ b) nd.2 fun y hy => by
      have := h y (List.mem_cons_of_mem _ hy)
      rcases List.mem_append.mp this with h' | h'
      · exact List.mem_append_left _ h'
      · rcases List.mem_cons.mp h' with rfl | h'
        · exact absurd hy nd.1
        · exact List.mem_append_right _ h'
    rw [List.length_append] at this ⊢
    rw [List.length_cons, List.length_cons]
    omega
theorem lok (W : WebOk top ns ps ts) {G : List (List Key × List PyData)} (g : GOk ps ts (cutsS ns) G) : LOk ps ts ns G (G.map fun e => ofK e.1) := by
  have form : ∀ e ∈ G, e.1 = [.inl (ofK e.1).1, .inl (ofK e.1).2] := fun e he => by
    obtain ⟨c, _, h⟩ := g.src e he
    rw [← h]
    rfl
  have n8 := W.n8
  have few : (cutsF ns).length ≤ 256 := by
    rw [cutsF_len]
    have p8 : 2 ^ ns.length ≤ 2 ^ 8 := Nat.pow_le_pow_right (by decide) n8
    omega
  refine ⟨?_, fun k hk => ?_, fun c hc => ?_, ?_, fun k hk => ?_, fun k hk => ?_⟩
  · rw [List.map_map]
    refine List.map_congr_left fun e he => ?_
    show PyData.tuple (e.1.map keyD) = prK (ofK e.1)
    rw [form e he]
    rfl
  · obtain ⟨e, he, rfl⟩ := List.mem_map.mp hk
    obtain ⟨c, hc, h⟩ := g.src e he
    exact ⟨c, cutsS_mem.mp hc, by rw [← h]; rfl⟩
  · obtain ⟨e, he, h⟩ := g.all c (cutsS_mem.mpr hc)
    exact List.mem_map.mpr ⟨e, he, by rw [h]; rfl⟩
  · rw [List.length_map]
    have h1 : (G.map (·.1)).length ≤ ((cutsS ns).map (kl ps ts)).length := nodup_few g.nk fun x hx => by
      obtain ⟨e, he, rfl⟩ := List.mem_map.mp hx
      obtain ⟨c, hc, h⟩ := g.src e he
      exact List.mem_map.mpr ⟨c, hc, h⟩
    rw [List.length_map, List.length_map, (cutsS_perm ns).length_eq] at h1
    omega
  · obtain ⟨e, he, rfl⟩ := List.mem_map.mp hk
    have fe := form e he
    generalize hk' : ofK e.1 = k at fe ⊢
    have hfind : ∃ e', ((G.map fun e => ((PyData.tuple (e.1.map keyD), PyData.list e.2) : PyData × PyData)).find? fun x => decide (keyL x.1 = some [.inl k.1, .inl k.2])) = some (.tuple (e'.1.map keyD), .list e'.2) ∧ e' ∈ G ∧ e'.1 = [.inl k.1, .inl k.2] := by
      cases hf : ((G.map fun e => ((PyData.tuple (e.1.map keyD), PyData.list e.2) : PyData × PyData)).find? fun x => decide (keyL x.1 = some [.inl k.1, .inl k.2])) with
      | none =>
        have := List.find?_eq_none.mp hf (.tuple (e.1.map keyD), .list e.2) (List.mem_map.mpr ⟨e, he, rfl⟩)
        rw [show keyL (PyData.tuple (e.1.map keyD)) = some e.1 from keysK_of e.1, fe] at this
        simp at this
      | some x =>
        have h1 := List.mem_of_find?_eq_some hf
        have h2 : decide (keyL x.1 = some [.inl k.1, .inl k.2]) = true := List.find?_some (p := fun x : PyData × PyData => decide (keyL x.1 = some [.inl k.1, .inl k.2])) hf
        have h2 := of_decide_eq_true h2
        obtain ⟨e', he', rfl⟩ := List.mem_map.mp h1
        refine ⟨e', rfl, he', ?_⟩
        rw [show keyL (PyData.tuple (e'.1.map keyD)) = some e'.1 from keysK_of e'.1] at h2
        exact Option.some.inj h2
    obtain ⟨e', hf, he', h'⟩ := hfind
    have hl := g.lst e' he'
    have hc' : ∃ c ∈ cutsS ns, kl ps ts c = e'.1 := g.src e' he'
    rw [h'] at hl
    have ef : (fun c => decide (kl ps ts c = [.inl k.1, .inl k.2])) = fun c => decide (lnC ps ts c = k) := funext fun c => decide_eq_decide.mpr kl_ln
    rw [ef] at hl
    have hg : oGetT (dG G) (prK k) = some (.list e'.2) := by
      show getD (G.map fun e => ((PyData.tuple (e.1.map keyD), PyData.list e.2) : PyData × PyData)) [.inl k.1, .inl k.2] = _
      unfold getD
      rw [hf]
      rfl
    cases hx : e'.2 with
    | nil =>
      exfalso
      obtain ⟨c, hc, h2⟩ := hc'
      rw [hx] at hl
      have : tupS c ∈ ((cutsS ns).filter fun c => decide (lnC ps ts c = k)).map tupS := List.mem_map.mpr ⟨c, List.mem_filter.mpr ⟨hc, decide_eq_true (kl_ln.mp (h2.trans h'))⟩, rfl⟩
      rw [← hl] at this
      exact absurd this List.not_mem_nil
    | cons d ds =>
      rw [hx] at hg hl
      exact ⟨d, ds, hg, hl⟩
  · obtain ⟨e, he, rfl⟩ := List.mem_map.mp hk
    obtain ⟨c, hc, h⟩ := g.src e he
    rw [← h]
    exact base_b W c
/-! ### the least line -/
def lexle (a b : Ln) : Prop := a.1 < b.1 ∨ (a.1 = b.1 ∧ a.2 ≤ b.2)
theorem minK_ok : ∀ (kr : List Ln) (k0 : Ln), ∃ m ∈ k0 :: kr, PySem.W.minD (prK k0) (kr.map prK) = prK m ∧ ∀ k ∈ k0 :: kr, lexle m k
  | [], k0 => ⟨k0, List.mem_cons_self, rfl, fun k hk => by
    rw [List.mem_singleton.mp hk]
    exact .inr ⟨rfl, Int.le_refl _⟩⟩
  | y :: kr, k0 => by
    have e : PySem.W.minD (prK k0) ((y :: kr).map prK) = PySem.W.minD (if PySem.W.dataLt (prK y) (prK k0) = true then prK y else prK k0) (kr.map prK) := rfl
    have el : PySem.W.dataLt (prK y) (prK k0) = decide (y.1 < k0.1 ∨ (y.1 = k0.1 ∧ y.2 < k0.2)) := PySem.W.dataLt_ii _ _ _ _
    rw [e, el]
    by_cases h : y.1 < k0.1 ∨ (y.1 = k0.1 ∧ y.2 < k0.2)
    · rw [if_pos (decide_eq_true h)]
      obtain ⟨m, hm, h1, h2⟩ := minK_ok kr y
      refine ⟨m, List.mem_cons_of_mem _ hm, h1, fun k hk => ?_⟩
      rcases List.mem_cons.mp hk with rfl | hk
      · have := h2 y List.mem_cons_self
        unfold lexle at this ⊢
        omega
      · exact h2 k hk
    · rw [if_neg (by rw [decide_eq_false h]; exact Bool.false_ne_true)]
      obtain ⟨m, hm, h1, h2⟩ := minK_ok kr k0
      refine ⟨m, ?_, h1, fun k hk => ?_⟩
      · rcases List.mem_cons.mp hm with rfl | hm
        · exact List.mem_cons_self
        · exact List.mem_cons_of_mem _ (List.mem_cons_of_mem _ hm)
      · rcases List.mem_cons.mp hk with rfl | hk
        · exact h2 _ List.mem_cons_self
        rcases List.mem_cons.mp hk with rfl | hk
        · have := h2 k0 List.mem_cons_self
          unfold lexle at this ⊢
          omega
        · exact h2 k (List.mem_cons_of_mem _ hk)
theorem lay_lns : ∀ ks : List Ln, PyData.canLayAll0 (ks.map prK) = true ∧ PyData.depthAll (ks.map prK) ≤ 1
  | [] => ⟨rfl, Nat.zero_le _⟩
  | k :: ks => by
    obtain ⟨h1, h2⟩ := lay_lns ks
    constructor
    · show (PyData.canLay0 (prK k) && PyData.canLayAll0 (ks.map prK)) = true
      rw [h1]
      rfl
    · show max (PyData.depth (prK k)) (PyData.depthAll (ks.map prK)) ≤ 1
      have : PyData.depth (prK k) = 1 := rfl
      omega
theorem min_ok {ks : List Ln} (h0 : ks ≠ []) : ∃ m ∈ ks, oMinL [.list (ks.map prK)] = some (prK m) ∧ ∀ k ∈ ks, lexle m k := by
  cases ks with
  | nil => exact absurd rfl h0
  | cons k0 kr =>
    obtain ⟨m, hm, h1, h2⟩ := minK_ok kr k0
    obtain ⟨l1, l2⟩ := lay_lns (k0 :: kr)
    refine ⟨m, hm, ?_, h2⟩
    rw [← h1]
    refine x_minL l1 ⟨fun x hx y hy => ?_, fun x hx => ?_⟩ (Nat.le_trans l2 (by decide))
    · obtain ⟨a, _, rfl⟩ := List.mem_map.mp (show x ∈ (k0 :: kr).map prK from hx)
      obtain ⟨b, _, rfl⟩ := List.mem_map.mp (show y ∈ (k0 :: kr).map prK from hy)
      rfl
    · obtain ⟨a, _, rfl⟩ := List.mem_map.mp (show x ∈ (k0 :: kr).map prK from hx)
      exact fun z => nomatch z
/-! ### the line behind -/
/-- a is met by cur no later than b, and where they are met at once it leans no more -/
def lq (cur a b : Ln) : Prop := (a.1 - cur.1) * (cur.2 - b.2) < (b.1 - cur.1) * (cur.2 - a.2) ∨ ((a.1 - cur.1) * (cur.2 - b.2) = (b.1 - cur.1) * (cur.2 - a.2) ∧ a.2 ≤ b.2)
theorem lq_refl (cur a : Ln) : lq cur a a := .inr ⟨rfl, Int.le_refl _⟩
theorem lq_le {cur a b : Ln} (h : lq cur a b) : (a.1 - cur.1) * (cur.2 - b.2) ≤ (b.1 - cur.1) * (cur.2 - a.2) := by
  rcases h with h | h
  · exact Int.le_of_lt h
  · exact Int.le_of_eq h.1
theorem iratio {a b c d e f : Int} (hb : 0 < b) (hd : 0 < d) (hf : 0 < f) (h1 : a * d ≤ c * b) (h2 : c * f ≤ e * d) : a * f ≤ e * b := by
  have h : a * f * d ≤ e * b * d := by
    calc a * f * d = (a * d) * f := by ac_rfl
      _ ≤ (c * b) * f := Int.mul_le_mul_of_nonneg_right h1 (by omega)
      _ = (c * f) * b := by ac_rfl
      _ ≤ (e * d) * b := Int.mul_le_mul_of_nonneg_right h2 (by omega)
      _ = e * b * d := by ac_rfl
  exact Int.le_of_mul_le_mul_right h hd
theorem iratio1 {a b c d e f : Int} (hb : 0 < b) (hd : 0 < d) (hf : 0 < f) (h1 : a * d < c * b) (h2 : c * f ≤ e * d) : a * f < e * b := by
  have h : a * f * d < e * b * d := by
    calc a * f * d = (a * d) * f := by ac_rfl
      _ < (c * b) * f := Int.mul_lt_mul_of_pos_right h1 hf
      _ = (c * f) * b := by ac_rfl
      _ ≤ (e * d) * b := Int.mul_le_mul_of_nonneg_right h2 (by omega)
      _ = e * b * d := by ac_rfl
  exact Int.lt_of_mul_lt_mul_right h (by omega)
theorem iratio2 {a b c d e f : Int} (hb : 0 < b) (hd : 0 < d) (hf : 0 < f) (h1 : a * d ≤ c * b) (h2 : c * f < e * d) : a * f < e * b := by
  have h : a * f * d < e * b * d := by
    calc a * f * d = (a * d) * f := by ac_rfl
      _ ≤ (c * b) * f := Int.mul_le_mul_of_nonneg_right h1 (by omega)
      _ = (c * f) * b := by ac_rfl
      _ < (e * d) * b := Int.mul_lt_mul_of_pos_right h2 hb
      _ = e * b * d := by ac_rfl
  exact Int.lt_of_mul_lt_mul_right h (by omega)
theorem lq_trans {cur a b c : Ln} (ha : a.2 < cur.2) (hb : b.2 < cur.2) (hc : c.2 < cur.2) (h1 : lq cur a b) (h2 : lq cur b c) : lq cur a c := by
  have p1 : 0 < cur.2 - a.2 := by omega
  have p2 : 0 < cur.2 - b.2 := by omega
  have p3 : 0 < cur.2 - c.2 := by omega
  rcases h1 with h1 | ⟨h1, l1⟩
  · exact .inl (iratio1 p1 p2 p3 h1 (lq_le h2))
  · rcases h2 with h2 | ⟨h2, l2⟩
    · exact .inl (iratio2 p1 p2 p3 (Int.le_of_eq h1) h2)
    · exact .inr ⟨Int.le_antisymm (iratio p1 p2 p3 (Int.le_of_eq h1) (Int.le_of_eq h2)) (iratio p3 p2 p1 (Int.le_of_eq h2.symm) (Int.le_of_eq h1.symm)), Int.le_trans l1 l2⟩
theorem lq_anti {cur a b : Ln} (ha : a.2 < cur.2) (h1 : lq cur a b) (h2 : lq cur b a) : a = b := by
  have e1 := lq_le h1
  have e2 := lq_le h2
  have l : a.2 = b.2 := by
    rcases h1 with h1 | ⟨_, l1⟩
    · omega
    · rcases h2 with h2 | ⟨_, l2⟩
      · omega
      · omega
  rw [← l] at e1 e2
  have e3 := Int.le_of_mul_le_mul_right e1 (by omega)
  have e4 := Int.le_of_mul_le_mul_right e2 (by omega)
  exact Prod.ext (by omega) l
def Bg (k : Ln) : Prop := k.1.natAbs ≤ 100000 ∧ k.2.natAbs ≤ 100000
theorem meet_ok {cur o : Ln} (h : o.2 < cur.2) (b1 : Bg cur) (b2 : Bg o) : M_meeting [prK cur, prK o] = some (frD (o.1 - cur.1) (cur.2 - o.2)) := by
  obtain ⟨c1, c2⟩ := b1
  obtain ⟨d1, d2⟩ := b2
  exact r_eq rfl (r_ret (x_cb (x_cons (x_op (x_op rfl rfl (ix_t at0)) (x_op rfl rfl (ix_t at0)) rfl) (x_cons (x_op (x_op rfl rfl (ix_t at1)) (x_op rfl rfl (ix_t at1)) rfl) rfl)) (fraction_ok (by omega) (by omega))) rfl)
theorem x_morT {e f : ME} {ρ : Ev} (h : e ρ = some (.bool true)) : mOr e f ρ = some (.bool true) := by
  unfold mOr
  rw [h]
  rfl
theorem x_morF {e f : ME} {ρ : Ev} {d : PyData} (h : e ρ = some (.bool false)) (h2 : f ρ = some d) : mOr e f ρ = some d := by
  unfold mOr
  rw [h]
  exact h2
theorem met_ok {cur a b : Ln} (ha : a.2 < cur.2) (hb : b.2 < cur.2) (b1 : Bg cur) (b2 : Bg a) (b3 : Bg b) : ∃ c, M_is_met_first [prK cur, prK a, prK b] = some (.bool c) ∧ (c = true → lq cur a b) ∧ (c = false → lq cur b a) := by
  have m1 := meet_ok ha b1 b2
  have m2 := meet_ok hb b1 b3
  obtain ⟨c1, c2⟩ := b1
  obtain ⟨d1, d2⟩ := b2
  obtain ⟨e1, e2⟩ := b3
  have bl := below_ok (a := a.1 - cur.1) (b := cur.2 - a.2) (c := b.1 - cur.1) (d := cur.2 - b.2) (by omega) (by omega) (by omega) (by omega) (by omega) (by omega)
  have eq := eq_fr2 (a := a.1 - cur.1) (b := cur.2 - a.2) (c := b.1 - cur.1) (d := cur.2 - b.2) (by omega) (by omega)
  by_cases lt : (a.1 - cur.1) * (cur.2 - b.2) < (b.1 - cur.1) * (cur.2 - a.2)
  · rw [decide_eq_true lt] at bl
    exact ⟨true, r_eq rfl (r_seq (x_set (x_cb rfl m1)) (r_seq (x_set (x_cb rfl m2)) (r_ret (x_morT (x_cb rfl bl)) rfl))), fun _ => .inl lt, fun z => nomatch z⟩
  · rw [decide_eq_false lt] at bl
    by_cases he : (a.1 - cur.1) * (cur.2 - b.2) = (b.1 - cur.1) * (cur.2 - a.2)
    · rw [decide_eq_true he] at eq
      exact ⟨decide (a.2 < b.2), r_eq rfl (r_seq (x_set (x_cb rfl m1)) (r_seq (x_set (x_cb rfl m2)) (r_ret (x_morF (x_cb rfl bl) (x_mandT (x_op rfl rfl eq) (x_op (x_op rfl rfl (ix_t at1)) (x_op rfl rfl (ix_t at1)) rfl))) rfl))), fun z => .inr ⟨he, Int.le_of_lt (of_decide_eq_true z)⟩, fun z => .inr ⟨he.symm, Int.not_lt.mp (of_decide_eq_false z)⟩⟩
    · rw [decide_eq_false he] at eq
      exact ⟨false, r_eq rfl (r_seq (x_set (x_cb rfl m1)) (r_seq (x_set (x_cb rfl m2)) (r_ret (x_morF (x_cb rfl bl) (x_mandF (x_op rfl rfl eq))) rfl))), (fun z => nomatch z), fun _ => .inl (by omega)⟩
/-- what line_behind tells -/
def BH (ks : List Ln) (cur : Ln) (d : PyData) : Prop := (d = .none ∧ ∀ k ∈ ks, ¬ k.2 < cur.2) ∨ ∃ b ∈ ks, d = prK b ∧ b.2 < cur.2 ∧ ∀ k ∈ ks, k.2 < cur.2 → lq cur b k
theorem behind_ok {ks : List Ln} (hb : ∀ k ∈ ks, Bg k) {cur : Ln} (bc : Bg cur) : ∃ d, M_line_behind [.list (ks.map prK), prK cur] = some d ∧ BH ks cur d := by
  refine r_fn rfl (r_seq (x_set rfl) (r_for (ds := ks.map prK) (fun i ρ => ∃ s2 s3, ρ = [.val (.list (ks.map prK)), .val (prK cur), .val s2, s3] ∧ BH (ks.take i) cur s2) rfl ⟨_, _, rfl, .inl ⟨rfl, fun k hk => absurd hk List.not_mem_nil⟩⟩ ?_ ?_))
  · rintro i d ρ hd ⟨s2, s3, rfl, inv⟩
    rw [List.getElem?_map] at hd
    obtain ⟨k, hk, rfl⟩ := Option.map_eq_some_iff.mp hd
    have km := List.mem_of_getElem? hk
    have snoc : ks.take (i + 1) = ks.take i ++ [k] := by
      obtain ⟨hi, e⟩ := List.getElem?_eq_some_iff.mp hk
      rw [List.take_succ_eq_append_getElem hi, e]
    have hlt : oLt (.int k.2) (.int cur.2) = some (.bool (decide (k.2 < cur.2))) := rfl
    refine ⟨[.val (.list (ks.map prK)), .val (prK cur), .val s2, .val (prK k)], rfl, ?_⟩
    by_cases lt : k.2 < cur.2
    · rw [decide_eq_true lt] at hlt
      have t1 : qV (mOp oLt (mOp oIx (mW 3) (mC (.int 1))) (mOp oIx (mW 1) (mC (.int 1)))) [.val (.list (ks.map prK)), .val (prK cur), .val s2, .val (prK k)] = some true := x_qv (x_op (x_op rfl rfl (ix_t at1)) (x_op rfl rfl (ix_t at1)) hlt)
      rcases inv with ⟨rfl, none'⟩ | ⟨b, hbm, rfl, hbl, hq⟩
      · refine r_end (x_ifT (x_andT t1 (x_orT (x_qv (c := true) rfl))) (x_set rfl)) ⟨_, _, rfl, .inr ⟨k, ?_, rfl, lt, fun k' hk' l' => ?_⟩⟩
        · rw [snoc]
          exact List.mem_append_right _ (List.mem_singleton.mpr rfl)
        · rw [snoc] at hk'
          rcases List.mem_append.mp hk' with h | h
          · exact absurd l' (none' k' h)
          · rw [List.mem_singleton.mp h]
            exact lq_refl _ _
      · have bm := List.mem_of_mem_take hbm
        obtain ⟨c, hm, h1, h2⟩ := met_ok lt hbl bc (hb k km) (hb b bm)
        have t2 : qOr (qV (mOp oIsNo (mW 2) (mC .none))) (qV (mCb M_is_met_first (aCons (mV 1) (aCons (mV 3) (aCons (mV 2) aNil))))) [.val (.list (ks.map prK)), .val (prK cur), .val (prK b), .val (prK k)] = some c := x_orF (x_qv (c := false) rfl) (x_qv (x_cb rfl hm))
        cases c with
        | true =>
          have hkb := h1 rfl
          refine r_end (x_ifT (x_andT t1 t2) (x_set rfl)) ⟨_, _, rfl, .inr ⟨k, ?_, rfl, lt, fun k' hk' l' => ?_⟩⟩
          · rw [snoc]
            exact List.mem_append_right _ (List.mem_singleton.mpr rfl)
          · rw [snoc] at hk'
            rcases List.mem_append.mp hk' with h | h
            · exact lq_trans lt hbl l' hkb (hq k' h l')
            · rw [List.mem_singleton.mp h]
              exact lq_refl _ _
        | false =>
          have hbk := h2 rfl
          refine r_end (x_ifF (x_andT t1 t2) rfl) ⟨_, _, rfl, .inr ⟨b, ?_, rfl, hbl, fun k' hk' l' => ?_⟩⟩
          · rw [snoc]
            exact List.mem_append_left _ hbm
          · rw [snoc] at hk'
            rcases List.mem_append.mp hk' with h | h
            · exact hq k' h l'
            · rw [List.mem_singleton.mp h]
              exact hbk
    · rw [decide_eq_false lt] at hlt
      have t1 : qV (mOp oLt (mOp oIx (mW 3) (mC (.int 1))) (mOp oIx (mW 1) (mC (.int 1)))) [.val (.list (ks.map prK)), .val (prK cur), .val s2, .val (prK k)] = some false := x_qv (x_op (x_op rfl rfl (ix_t at1)) (x_op rfl rfl (ix_t at1)) hlt)
      refine r_end (x_ifF (x_andF t1) rfl) ⟨_, _, rfl, ?_⟩
      rw [snoc]
      rcases inv with ⟨rfl, none'⟩ | ⟨b, hbm, rfl, hbl, hq⟩
      · refine .inl ⟨rfl, fun k' hk' => ?_⟩
        rcases List.mem_append.mp hk' with h | h
        · exact none' k' h
        · rw [List.mem_singleton.mp h]
          exact lt
      · refine .inr ⟨b, List.mem_append_left _ hbm, rfl, hbl, fun k' hk' l' => ?_⟩
        rcases List.mem_append.mp hk' with h | h
        · exact hq k' h l'
        · rw [List.mem_singleton.mp h] at l'
          exact absurd l' lt
  · rintro ρ ⟨s2, s3, rfl, inv⟩
    rw [List.length_map, List.take_length] at inv
    exact r_ret rfl ⟨_, rfl, inv⟩
end
end K49

namespace K49
open PySem PySem.Spec PyProof.Rows L2 LB PM
section
variable {top : Int} {ns cs : List Str} {ps ts : List PyData} {G : List (List Key × List PyData)} {ks : List Ln}
/-- the first of the best -/
theorem best_hd {f : PyData → PyData → Bool} {good : PyData → Bool} {P : PyData → Prop} (h1 : ∀ a y, P a → P y → f y a = true → good a = false) (h2 : ∀ a y, P a → P y → f y a = false → good y = true → good a = true) : ∀ (ds : List PyData) (d : PyData), P d → (∀ x ∈ ds, P x) → (∃ x ∈ d :: ds, good x = true) → ((d :: ds).filter good).head? = some (bestL f d ds)
  | [], d, _, _, ⟨x, hx, hg⟩ => by
    rw [List.mem_singleton.mp hx] at hg
    rw [List.filter_cons_of_pos hg]
    rfl
  | y :: ds, d, pd, pds, ⟨x, hx, hg⟩ => by
    have py := pds y List.mem_cons_self
    have pr := fun z hz => pds z (List.mem_cons_of_mem _ hz)
    show _ = some (bestL f (if f y d = true then y else d) ds)
    cases hf : f y d with
    | true =>
      have gd := h1 d y pd py hf
      rw [if_pos rfl, List.filter_cons_of_neg (by rw [gd]; decide)]
      refine best_hd h1 h2 ds y py pr ⟨x, ?_, hg⟩
      rcases List.mem_cons.mp hx with rfl | hx
      · rw [gd] at hg
        cases hg
      · exact hx
    | false =>
      have gd := h2 d y pd py hf
      rw [if_neg (by decide)]
      have ih := best_hd h1 h2 ds d pd pr (by
        rcases List.mem_cons.mp hx with rfl | hx
        · exact ⟨x, List.mem_cons_self, hg⟩
        rcases List.mem_cons.mp hx with rfl | hx
        · exact ⟨d, List.mem_cons_self, gd hg⟩
        · exact ⟨x, List.mem_cons_of_mem _ hx, hg⟩)
      cases hd : good d with
      | true =>
        rw [List.filter_cons_of_pos hd] at ih ⊢
        exact ih
      | false =>
        have hy : good y = false := by
          cases hy : good y with
          | false => rfl
          | true =>
            rw [gd hy] at hd
            cases hd
        rw [List.filter_cons_of_neg (by rw [hd]; decide)] at ih ⊢
        rw [List.filter_cons_of_neg (by rw [hy]; decide)]
        exact ih
theorem lay_ints : ∀ ks : List Int, PyData.canLayAll0 (ks.map .int) = true ∧ PyData.depthAll (ks.map .int) ≤ 1
  | [] => ⟨rfl, Nat.zero_le _⟩
  | k :: ks => by
    obtain ⟨h1, h2⟩ := lay_ints ks
    constructor
    · show (PyData.canLay0 (.int k) && PyData.canLayAll0 (ks.map .int)) = true
      rw [h1]
      rfl
    · show max (PyData.depth (.int k)) (PyData.depthAll (ks.map .int)) ≤ 1
      have : PyData.depth (.int k) = 0 := rfl
      omega
theorem alike_ints (ks : List Int) : PySem.W.AlikeAll (ks.map .int) := by
  refine ⟨fun x hx y hy => ?_, fun x hx => ?_⟩
  · obtain ⟨a, _, rfl⟩ := List.mem_map.mp hx
    obtain ⟨b, _, rfl⟩ := List.mem_map.mp hy
    rfl
  · obtain ⟨a, _, rfl⟩ := List.mem_map.mp hx
    exact fun z => nomatch z
theorem fold_min : ∀ (l : List Int) (n : Int), l.foldl min n ∈ n :: l ∧ ∀ x ∈ n :: l, l.foldl min n ≤ x
  | [], n => ⟨List.mem_cons_self, fun x hx => by rw [List.mem_singleton.mp hx]; exact Int.le_refl _⟩
  | y :: l, n => by
    obtain ⟨h1, h2⟩ := fold_min l (min n y)
    rw [List.foldl_cons]
    have h0 := h2 _ List.mem_cons_self
    constructor
    · rcases List.mem_cons.mp h1 with h | h
      · rw [h]
        by_cases z : n ≤ y
        · rw [Int.min_eq_left z]
          exact List.mem_cons_self
        · rw [Int.min_eq_right (by omega)]
          exact List.mem_cons_of_mem _ List.mem_cons_self
      · exact List.mem_cons_of_mem _ (List.mem_cons_of_mem _ h)
    · intro x hx
      rcases List.mem_cons.mp hx with rfl | hx
      · omega
      rcases List.mem_cons.mp hx with rfl | hx
      · omega
      · exact h2 x (List.mem_cons_of_mem _ hx)
theorem fold_max : ∀ (l : List Int) (n : Int), l.foldl max n ∈ n :: l ∧ ∀ x ∈ n :: l, x ≤ l.foldl max n
  | [], n => ⟨List.mem_cons_self, fun x hx => by rw [List.mem_singleton.mp hx]; exact Int.le_refl _⟩
  | y :: l, n => by
    obtain ⟨h1, h2⟩ := fold_max l (max n y)
    rw [List.foldl_cons]
    have h0 := h2 _ List.mem_cons_self
    constructor
    · rcases List.mem_cons.mp h1 with h | h
      · rw [h]
        by_cases z : n ≤ y
        · rw [Int.max_eq_right z]
          exact List.mem_cons_of_mem _ List.mem_cons_self
        · rw [Int.max_eq_left (by omega)]
          exact List.mem_cons_self
      · exact List.mem_cons_of_mem _ (List.mem_cons_of_mem _ h)
    · intro x hx
      rcases List.mem_cons.mp hx with rfl | hx
      · omega
      rcases List.mem_cons.mp hx with rfl | hx
      · omega
      · exact h2 x (List.mem_cons_of_mem _ hx)
theorem min_ints (n : Int) (l : List Int) : ∃ m ∈ n :: l, oMinL [.list ((n :: l).map .int)] = some (.int m) ∧ ∀ x ∈ n :: l, m ≤ x := by
  obtain ⟨l1, l2⟩ := lay_ints (n :: l)
  refine ⟨_, (fold_min l n).1, ?_, (fold_min l n).2⟩
  rw [← PySem.W.minD_ints]
  exact x_minL l1 (alike_ints (n :: l)) (Nat.le_trans l2 (by decide))
theorem max_ints (n : Int) (l : List Int) : ∃ m ∈ n :: l, oMaxL [.list ((n :: l).map .int)] = some (.int m) ∧ ∀ x ∈ n :: l, x ≤ m := by
  obtain ⟨l1, l2⟩ := lay_ints (n :: l)
  refine ⟨_, (fold_max l n).1, ?_, (fold_max l n).2⟩
  rw [← PySem.W.maxD_ints]
  exact x_maxL l1 (alike_ints (n :: l)) (Nat.le_trans l2 (by decide))
theorem len_U {d : PyData} (h : isU d = true) : oLen [d] = some (.int (tlen d : Int)) := by
  cases d <;> first | rfl | cases h
theorem head_at {l : List PyData} {x : PyData} (h : l.head? = some x) : oIx (.list l) (.int 0) = some x := by
  cases l with
  | nil => cases h
  | cons y l =>
    cases h
    exact ix_l at0
end
end K49

namespace K49
open PySem PySem.Spec PyProof.Rows L2 LB PM
section
variable {top : Int} {ns cs : List Str} {ps ts : List PyData} {G : List (List Key × List PyData)} {ks : List Ln}
theorem best_short : ∀ (ds : List PyData) (d : PyData), bestL shorter d ds ∈ d :: ds ∧ ∀ x ∈ d :: ds, tlen (bestL shorter d ds) ≤ tlen x
  | [], d => ⟨List.mem_cons_self, fun x hx => by
    rw [List.mem_singleton.mp hx]
    exact Nat.le_refl _⟩
  | y :: ds, d => by
    show bestL shorter (if shorter y d = true then y else d) ds ∈ d :: y :: ds ∧ ∀ x ∈ d :: y :: ds, tlen (bestL shorter (if shorter y d = true then y else d) ds) ≤ tlen x
    obtain ⟨h1, h2⟩ := best_short ds (if shorter y d = true then y else d)
    have hle : tlen (if shorter y d = true then y else d) ≤ tlen y ∧ tlen (if shorter y d = true then y else d) ≤ tlen d := by
      unfold shorter
      by_cases h : tlen y < tlen d
      · rw [if_pos (decide_eq_true h)]
        exact ⟨Nat.le_refl _, Nat.le_of_lt h⟩
      · rw [if_neg (by rw [decide_eq_false h]; exact Bool.false_ne_true)]
        exact ⟨by omega, Nat.le_refl _⟩
    have h0 := h2 _ List.mem_cons_self
    constructor
    · rcases List.mem_cons.mp h1 with h | h
      · rw [h]
        split
        · exact List.mem_cons_of_mem _ List.mem_cons_self
        · exact List.mem_cons_self
      · exact List.mem_cons_of_mem _ (List.mem_cons_of_mem _ h)
    · intro x hx
      rcases List.mem_cons.mp hx with rfl | hx
      · omega
      rcases List.mem_cons.mp hx with rfl | hx
      · omega
      · exact h2 x (List.mem_cons_of_mem _ hx)
noncomputable def clD (ps ts : List PyData) (ns : List Str) (k : Ln) : List PyData := ((cutsS ns).filter fun c => decide (lnC ps ts c = k)).map tupS
def bestOf (f : PyData → PyData → Bool) : List PyData → PyData
  | [] => .none
  | d :: ds => bestL f d ds
noncomputable def bitD (ps ts : List PyData) (ns : List Str) (k : Ln) : PyData := .tuple [bestOf shorter (clD ps ts ns k), bestOf longer (clD ps ts ns k), .int k.1, .int k.2]
theorem cl_mem {k : Ln} {x : PyData} : x ∈ clD ps ts ns k ↔ ∃ c ∈ cutsF ns, lnC ps ts c = k ∧ x = tupS c := by
  unfold clD
  constructor
  · intro hx
    obtain ⟨c, hc, rfl⟩ := List.mem_map.mp hx
    obtain ⟨h3, h4⟩ := List.mem_filter.mp hc
    exact ⟨c, cutsS_mem.mp h3, of_decide_eq_true h4, rfl⟩
  · rintro ⟨c, h1, h2, rfl⟩
    exact List.mem_map.mpr ⟨c, List.mem_filter.mpr ⟨cutsS_mem.mpr h1, decide_eq_true h2⟩, rfl⟩
theorem bit_ok (W : WebOk top ns ps ts) (L : LOk ps ts ns G ks) {k : Ln} (hk : k ∈ ks) : ∃ v, oGetT (dG G) (prK k) = some v ∧ M_bit_of [v, prK k] = some (bitD ps ts ns k) := by
  obtain ⟨d, ds, h1, h2⟩ := L.get k hk
  have h2 : d :: ds = clD ps ts ns k := h2
  have hu : (d :: ds).all isU = true := by
    rw [List.all_eq_true]
    intro x hx
    rw [h2] at hx
    obtain ⟨c, _, _, rfl⟩ := cl_mem.mp hx
    rfl
  have hl : (d :: ds).length ≤ 1000 := by
    rw [h2]
    unfold clD
    rw [List.length_map]
    have e1 : ((cutsS ns).filter fun c => decide (lnC ps ts c = k)).length ≤ (cutsS ns).length := List.length_filter_le _ _
    have e2 := (cutsS_perm ns).length_eq
    have n8 := W.n8
    have p8 : 2 ^ ns.length ≤ 2 ^ 8 := Nat.pow_le_pow_right (by decide) n8
    rw [cutsF_len] at e2
    omega
  have m1 : ∀ {f : PyData → PyData → Bool}, mBest f (mW 0) [.val (.list (d :: ds)), .val (prK k)] = some (bestL f d ds) := fun {f} => by
    show (if (d :: ds).all isU = true then some (bestL f d ds) else none) = _
    rw [if_pos hu]
  refine ⟨_, h1, ?_⟩
  · unfold bitD
    rw [← h2]
    exact r_eq rfl (r_ret (x_tup (x_cons m1 (x_cons m1 (x_cons (x_op rfl rfl (ix_t at0)) (x_cons (x_op rfl rfl (ix_t at1)) rfl)))) (by show 4 ≤ 100000; decide)) rfl)
/-- the nearest cut of a line -/
theorem near_ok (L : LOk ps ts ns G ks) {k : Ln} (hk : k ∈ ks) : ∃ c ∈ cutsF ns, bestOf shorter (clD ps ts ns k) = tupS c ∧ lnC ps ts c = k ∧ ∀ c' ∈ cutsF ns, lnC ps ts c' = k → c.length ≤ c'.length := by
  obtain ⟨d, ds, h1, h2⟩ := L.get k hk
  have h2 : d :: ds = clD ps ts ns k := h2
  obtain ⟨b1, b2⟩ := best_short ds d
  rw [h2] at b1 b2
  obtain ⟨c, hc, hl, e⟩ := cl_mem.mp b1
  refine ⟨c, hc, by rw [← h2]; exact e, hl, fun c' hc' hl' => ?_⟩
  have := b2 _ (cl_mem.mpr ⟨c', hc', hl', rfl⟩)
  rw [e, tlen_S, tlen_S] at this
  exact this
/-! ### the lines of the stair -/
def Nxt (ks : List Ln) (top : Int) (cur b : Ln) : Prop := b ∈ ks ∧ b.2 < cur.2 ∧ b.1 - cur.1 < top * (cur.2 - b.2) ∧ ∀ k ∈ ks, k.2 < cur.2 → lq cur b k
inductive Chain (ks : List Ln) (top : Int) : Ln → List Ln → Prop
  | nil {cur : Ln} : (∀ k ∈ ks, k.2 < cur.2 → top * (cur.2 - k.2) ≤ k.1 - cur.1) → Chain ks top cur []
  | cons {cur b : Ln} {r : List Ln} : Nxt ks top cur b → Chain ks top b r → Chain ks top cur (b :: r)
def brkL : Ln → List Ln → List PyData
  | _, [] => []
  | cur, b :: r => frD (b.1 - cur.1) (cur.2 - b.2) :: brkL b r
def cnt (ks : List Ln) (cur : Ln) : Nat := (ks.filter fun k => decide (k.2 < cur.2)).length
theorem filt_lt {α : Type} {p q : α → Bool} : ∀ {l : List α}, (∀ x ∈ l, p x = true → q x = true) → (∃ x ∈ l, q x = true ∧ p x = false) → (l.filter p).length < (l.filter q).length := by
  have le : ∀ {l : List α}, (∀ x ∈ l, p x = true → q x = true) → (l.filter p).length ≤ (l.filter q).length := by
    intro l h
    induction l with
    | nil => exact Nat.le_refl _
    | cons x l ih =>
      have ih := ih fun y hy => h y (List.mem_cons_of_mem _ hy)
      rw [List.filter_cons, List.filter_cons]
      cases hp : p x
      · cases hq : q x <;> simp <;> omega
      · rw [h x List.mem_cons_self hp]
        simp
        omega
  intro l
  induction l with
  | nil => rintro _ ⟨x, hx, _⟩; exact absurd hx List.not_mem_nil
  | cons y l ih =>
    rintro h ⟨x, hx, h1, h2⟩
    have hl := le (l := l) fun z hz => h z (List.mem_cons_of_mem _ hz)
    rw [List.filter_cons, List.filter_cons]
    rcases List.mem_cons.mp hx with rfl | hx
    · rw [h1, h2]
      simp
      omega
    · have ih := ih (fun z hz => h z (List.mem_cons_of_mem _ hz)) ⟨x, hx, h1, h2⟩
      cases hp : p y
      · cases hq : q y <;> simp <;> omega
      · rw [h y List.mem_cons_self hp]
        simp
        omega
theorem cnt_lt {cur b : Ln} (hb : b ∈ ks) (h : b.2 < cur.2) : cnt ks b < cnt ks cur := filt_lt (fun x _ hx => decide_eq_true (by have := of_decide_eq_true hx; omega)) ⟨b, hb, decide_eq_true h, decide_eq_false (Int.lt_irrefl _)⟩
theorem far_of {cur b k : Ln} (hb : b.2 < cur.2) (hk : k.2 < cur.2) (h : lq cur b k) (h2 : ¬ b.1 - cur.1 < top * (cur.2 - b.2)) : top * (cur.2 - k.2) ≤ k.1 - cur.1 := by
  have := iratio (a := top) (b := 1) (c := b.1 - cur.1) (d := cur.2 - b.2) (e := k.1 - cur.1) (f := cur.2 - k.2) (by decide) (by omega) (by omega) (by omega) (lq_le h)
  omega
theorem near_of {cur b k : Ln} (hb : b.2 < cur.2) (hk : k.2 < cur.2) (h : lq cur b k) (h2 : k.1 - cur.1 < top * (cur.2 - k.2)) : b.1 - cur.1 < top * (cur.2 - b.2) := by
  by_cases z : b.1 - cur.1 < top * (cur.2 - b.2)
  · exact z
  · have := far_of hb hk h z
    omega
theorem chain_ex (big : ∀ k ∈ ks, Bg k) : ∀ (n : Nat) (cur : Ln), cur ∈ ks → cnt ks cur ≤ n → ∃ r, Chain ks top cur r ∧ r.length ≤ n := by
  intro n
  induction n with
  | zero =>
    intro cur hc hn
    refine ⟨[], .nil fun k hk lt => ?_, Nat.le_refl _⟩
    have := cnt_lt hk lt
    omega
  | succ n ih =>
    intro cur hc hn
    obtain ⟨d, _, bh⟩ := behind_ok big (big cur hc)
    rcases bh with ⟨_, none'⟩ | ⟨b, hb, _, lt, hq⟩
    · exact ⟨[], .nil fun k hk lt => absurd lt (none' k hk), Nat.zero_le _⟩
    · by_cases hlt : b.1 - cur.1 < top * (cur.2 - b.2)
      · have := cnt_lt hb lt
        obtain ⟨r, h1, h2⟩ := ih b hb (by omega)
        exact ⟨b :: r, .cons ⟨hb, lt, hlt, hq⟩ h1, by rw [List.length_cons]; omega⟩
      · exact ⟨[], .nil fun k hk l => far_of lt l (hq k hk l) hlt, Nat.zero_le _⟩
theorem prK_inj {b b' : Ln} (e : prK b = prK b') : b = b' := by
  have : PyData.tuple [.int b.1, .int b.2] = .tuple [.int b'.1, .int b'.2] := e
  injection this with this
  injection this with e1 e2
  injection e2 with e2 _
  injection e1 with e1
  injection e2 with e2
  exact Prod.ext e1 e2
noncomputable abbrev stT : MT := qAnd (qV (mOp oNotNo (mW 7) (mC .none))) (qV (mCb M_below (aCons (mCb M_meeting (aCons (mV 4) (aCons (mV 7) aNil))) (aCons (mV 3) aNil))))
noncomputable abbrev stB : MS := mSeq (mApp 6 (mCb M_meeting (aCons (mV 4) (aCons (mV 7) aNil)))) (mSeq (mApp 5 (mCb M_bit_of (aCons (mOp oGetT (mV 1) (mV 7)) (aCons (mV 7) aNil)))) (mSeq (mSet 4 (mV 7)) (mSet 7 (mCb M_line_behind (aCons (mV 2) (aCons (mV 4) aNil))))))
theorem loopA (W : WebOk top ns ps ts) (L : LOk ps ts ns G ks) {s0 : Sl} : ∀ (r : List Ln) (cur : Ln) (d : PyData) (bits brks : List PyData), cur ∈ ks → Chain ks top cur r → BH ks cur d → bits.length + r.length < 1000 → brks.length + r.length < 1000 →
    ∃ N cur' d', whGo stT stB N [s0, .val (dG G), .val (.list (ks.map prK)), .val (frD top 1), .val (prK cur), .own (.list bits), .own (.list brks), .val d] = some (.nx [s0, .val (dG G), .val (.list (ks.map prK)), .val (frD top 1), .val (prK cur'), .own (.list (bits ++ r.map (bitD ps ts ns))), .own (.list (brks ++ brkL cur r)), .val d']) := by
  have t1 := W.t1
  have t9 := W.t9
  have test : ∀ {cur b : Ln} {bits brks : List PyData}, cur ∈ ks → b ∈ ks → b.2 < cur.2 → stT [s0, .val (dG G), .val (.list (ks.map prK)), .val (frD top 1), .val (prK cur), .own (.list bits), .own (.list brks), .val (prK b)] = some (decide (b.1 - cur.1 < top * (cur.2 - b.2))) := fun {cur b bits brks} hc hb lt => by
    have bc := L.big cur hc
    have bb := L.big b hb
    have bl := below_ok (a := b.1 - cur.1) (b := cur.2 - b.2) (c := top) (d := 1) (by omega) (by decide) (by omega) (by omega) (by omega) (by decide)
    rw [Int.mul_one] at bl
    exact x_andT (x_qv (c := true) rfl) (x_qv (x_cb (x_cons (x_cb rfl (meet_ok lt bc bb)) rfl) bl))
  intro r
  induction r with
  | nil =>
    intro cur d bits brks hc ch bh _ _
    cases ch with
    | nil hno =>
      rw [List.map_nil, List.append_nil, show brkL cur [] = [] from rfl, List.append_nil]
      rcases bh with ⟨rfl, _⟩ | ⟨b, hb, rfl, lt, _⟩
      · exact ⟨1, cur, .none, wh_stop (x_andF (x_qv (c := false) rfl))⟩
      · refine ⟨1, cur, prK b, wh_stop ?_⟩
        rw [test hc hb lt, decide_eq_false]
        have := hno b hb lt
        omega
  | cons b r ih =>
    intro cur d bits brks hc ch bh l1 l2
    rw [List.length_cons] at l1 l2
    cases ch with
    | cons hn ch =>
      obtain ⟨hb, lt, hlt, hq⟩ := hn
      rcases bh with ⟨_, none'⟩ | ⟨b', hb', rfl, lt', hq'⟩
      · exact absurd lt (none' b hb)
      · have : b' = b := lq_anti lt' (hq' b hb lt) (hq b' hb' lt')
        subst this
        have bc := L.big cur hc
        have bb := L.big b' hb
        obtain ⟨v, g1, g2⟩ := bit_ok W L hb
        obtain ⟨d', hd', bh'⟩ := behind_ok (fun k hk => L.big k hk) bb
        obtain ⟨N, cur', d2, hN⟩ := ih b' d' (bits ++ [bitD ps ts ns b']) (brks ++ [frD (b'.1 - cur.1) (cur.2 - b'.2)]) hb ch bh' (by rw [List.length_append]; show bits.length + 1 + r.length < 1000; omega) (by rw [List.length_append]; show brks.length + 1 + r.length < 1000; omega)
        refine ⟨N + 1, cur', d2, ?_⟩
        rw [List.map_cons, List.append_cons bits, show brkL cur (b' :: r) = frD (b'.1 - cur.1) (cur.2 - b'.2) :: brkL b' r from rfl, List.append_cons brks]
        exact wh_step (by rw [test hc hb lt, decide_eq_true hlt]) (x_seq (x_app (x_cb rfl (meet_ok lt bc bb)) rfl (by omega)) (x_seq (x_app (x_cb (x_cons (x_op rfl rfl g1) rfl) g2) rfl (by omega)) (x_seq (x_set rfl) (x_set (x_cb rfl hd'))))) hN
end
end K49

namespace K49
open PySem PySem.Spec PyProof.Rows L2 LB PM
section
variable {top : Int} {ns cs : List Str} {ps ts : List PyData} {G : List (List Key × List PyData)} {ks : List Ln}
theorem key_hd (L : LOk ps ts ns G ks) : ∃ t v gs, dG G = .dict ((.tuple t, v) :: gs) ∧ PyData.tuple t :: gs.map (·.1) = ks.map prK := by
  rw [← L.key]
  cases G with
  | nil =>
    exfalso
    have h := L.all [] (nil_cut ns)
    have := L.key
    rw [List.map_nil] at this
    rw [List.map_eq_nil_iff.mp this.symm] at h
    exact absurd h List.not_mem_nil
  | cons e G =>
    refine ⟨_, _, _, rfl, ?_⟩
    show PyData.tuple (e.1.map keyD) :: (G.map fun e => ((PyData.tuple (e.1.map keyD), PyData.list e.2) : PyData × PyData)).map (·.1) = _
    rw [List.map_map]
    rfl
theorem idt_ok (L : LOk ps ts ns G ks) {m : ME} {ρ : Ev} (h : m ρ = some (dG G)) : iDT m ρ = some (ks.map prK) := by
  obtain ⟨t, v, gs, e1, e2⟩ := key_hd L
  unfold iDT
  rw [h, e1, ← e2]
  rfl
theorem keys_ok (L : LOk ps ts ns G ks) : oKeysT [dG G] = some (.list (ks.map prK)) := by
  obtain ⟨t, v, gs, e1, e2⟩ := key_hd L
  rw [e1, ← e2]
  rfl
/-! ### the law's next line -/
/-! ### the law's stair -/
noncomputable def stD (ps ts : List PyData) (ns : List Str) (m : Ln) (r : List Ln) : PyData := .tuple [.list ((m :: r).map (bitD ps ts ns)), .list (brkL m r)]
/-- both stairs are one -/
theorem stair_ok (W : WebOk top ns ps ts) : ∃ G ks m r, LOk ps ts ns G ks ∧ m ∈ ks ∧ (∀ k ∈ ks, lexle m k) ∧ Chain ks top m r ∧ r.length ≤ 256 ∧ M_stair_of [webD top ps ts] = some (stD ps ts ns m r) := by
  have hG : M_cuts_by_line [webD top ps ts] = some (dG (gaF ps ts (cutsS ns) [])) := by_line_eq W
  have g := gaF_ok (ps := ps) (ts := ts) (cutsS ns) [] [] ⟨List.nodup_nil, fun e he => absurd he List.not_mem_nil, fun e he => absurd he List.not_mem_nil, fun c hc => absurd hc List.not_mem_nil⟩
  have L : LOk ps ts ns (gaF ps ts (cutsS ns) []) _ := lok W g
  generalize gaF ps ts (cutsS ns) [] = G at hG L
  generalize (G.map fun e => ofK e.1) = ks at L
  have few := L.few
  have ne : ks ≠ [] := fun z => by
    have := L.all [] (nil_cut ns)
    rw [z] at this
    exact absurd this List.not_mem_nil
  obtain ⟨m, hm, hmin, mlow⟩ := min_ok ne
  obtain ⟨v, g1, g2⟩ := bit_ok W L hm
  have cm : cnt ks m ≤ 256 := Nat.le_trans (List.length_filter_le _ _) few
  obtain ⟨r, ch, rl⟩ := chain_ex (top := top) (fun k hk => L.big k hk) 256 m hm cm
  refine ⟨G, ks, m, r, L, hm, mlow, ch, rl, ?_⟩
  · obtain ⟨d, hd, bh⟩ := behind_ok (fun k hk => L.big k hk) (L.big m hm)
    obtain ⟨N, cur', d', hN⟩ := loopA W L (s0 := .val (webD top ps ts)) r m d [bitD ps ts ns m] [] hm ch bh (by show 1 + r.length < 1000; omega) (by show 0 + r.length < 1000; omega)
    have hfr : M_fraction [.int top, .int 1] = some (frD top 1) := fraction_ok (by decide) (by decide)
    refine r_eq rfl (r_seq (x_set (x_cb rfl hG)) (r_seq (x_set (x_cb rfl (keys_ok L))) (r_seq (x_set (x_cb (x_cons (x_op rfl rfl (ix_t at0)) rfl) hfr)) (r_seq (x_set (x_cb rfl hmin)) (r_seq (x_setO (x_lst (x_cons (x_cb (x_cons (x_op rfl rfl g1) rfl) g2) rfl) (by show 1 ≤ 100000; decide))) (r_seq (x_setO rfl) (r_seq (x_set (x_cb rfl hd)) (r_seq (x_while hN) ?_))))))))
    exact ⟨.rt (stD ps ts ns m r), rfl, rfl⟩
end
end K49

namespace K49
open PySem PySem.Spec PyProof.Rows L2 LB PM
section
variable {top : Int} {ns cs : List Str} {ps ts : List PyData} {G : List (List Key × List PyData)} {ks : List Ln} {p q : Int}
/-- cur is the least at p/q, and leans least of those -/
structure Env (ks : List Ln) (cur : Ln) (p q : Int) : Prop where
  q1 : 0 < q
  p0 : 0 ≤ p
  low : ∀ k ∈ ks, cur.1 * q + cur.2 * p ≤ k.1 * q + k.2 * p
  lean : ∀ k ∈ ks, cur.1 * q + cur.2 * p = k.1 * q + k.2 * p → cur.2 ≤ k.2
theorem env_first {m : Ln} (h : ∀ k ∈ ks, lexle m k) : Env ks m 0 1 := by
  refine ⟨by decide, by decide, fun k hk => ?_, fun k hk e => ?_⟩
  · rcases h k hk with h | h <;> omega
  · rcases h k hk with h | h <;> omega
theorem env_step {cur b : Ln} (E : Env ks cur p q) (N : Nxt ks top cur b) : Env ks b (b.1 - cur.1) (cur.2 - b.2) ∧ cur.1 * (cur.2 - b.2) + cur.2 * (b.1 - cur.1) = b.1 * (cur.2 - b.2) + b.2 * (b.1 - cur.1) := by
  obtain ⟨hb, lt, _, hq⟩ := N
  have meet : cur.1 * (cur.2 - b.2) + cur.2 * (b.1 - cur.1) = b.1 * (cur.2 - b.2) + b.2 * (b.1 - cur.1) := by
    simp only [Int.mul_sub]
    have e1 : cur.1 * cur.2 = cur.2 * cur.1 := Int.mul_comm _ _
    have e2 : b.1 * cur.2 = cur.2 * b.1 := Int.mul_comm _ _
    have e3 : cur.1 * b.2 = b.2 * cur.1 := Int.mul_comm _ _
    have e4 : b.1 * b.2 = b.2 * b.1 := Int.mul_comm _ _
    omega
  have q' : 0 < cur.2 - b.2 := by omega
  have h1 := E.low b hb
  -- p * q' ≤ p' * q
  have pq : p * (cur.2 - b.2) ≤ (b.1 - cur.1) * q := by
    rw [Int.mul_sub, Int.sub_mul]
    have e1 : p * cur.2 = cur.2 * p := Int.mul_comm _ _
    have e2 : p * b.2 = b.2 * p := Int.mul_comm _ _
    omega
  have p' : 0 ≤ b.1 - cur.1 := by
    have : 0 ≤ p * (cur.2 - b.2) := Int.mul_nonneg E.p0 (by omega)
    by_cases z : b.1 - cur.1 < 0
    · have : (b.1 - cur.1) * q < 0 := Int.mul_neg_of_neg_of_pos z E.q1
      omega
    · omega
  refine ⟨⟨q', p', fun k hk => ?_, fun k hk e => ?_⟩, meet⟩
  · rw [← meet]
    by_cases hl : k.2 < cur.2
    · have := lq_le (hq k hk hl)
      have e1 : (b.1 - cur.1) * (cur.2 - k.2) = cur.2 * (b.1 - cur.1) - k.2 * (b.1 - cur.1) := by
        rw [Int.mul_sub, Int.mul_comm _ cur.2, Int.mul_comm _ k.2]
      have e2 : (k.1 - cur.1) * (cur.2 - b.2) = k.1 * (cur.2 - b.2) - cur.1 * (cur.2 - b.2) := Int.sub_mul _ _ _
      omega
    · have h2 := E.low k hk
      have h3 : 0 ≤ (k.1 - cur.1) * q + (k.2 - cur.2) * p := by
        rw [Int.sub_mul, Int.sub_mul]
        omega
      have h4 : 0 ≤ ((k.1 - cur.1) * q + (k.2 - cur.2) * p) * (cur.2 - b.2) := Int.mul_nonneg h3 (by omega)
      have h5 : (k.2 - cur.2) * (p * (cur.2 - b.2)) ≤ (k.2 - cur.2) * ((b.1 - cur.1) * q) := Int.mul_le_mul_of_nonneg_left pq (by omega)
      have e1 : ((k.1 - cur.1) * q + (k.2 - cur.2) * p) * (cur.2 - b.2) = (k.1 - cur.1) * (cur.2 - b.2) * q + (k.2 - cur.2) * (p * (cur.2 - b.2)) := by
        rw [Int.add_mul]
        congr 1
        · ac_rfl
        · ac_rfl
      have e2 : (k.2 - cur.2) * ((b.1 - cur.1) * q) = (k.2 - cur.2) * (b.1 - cur.1) * q := by ac_rfl
      have h6 : 0 * q ≤ ((k.1 - cur.1) * (cur.2 - b.2) + (k.2 - cur.2) * (b.1 - cur.1)) * q := by
        rw [Int.add_mul]
        omega
      have h7 := Int.le_of_mul_le_mul_right h6 E.q1
      rw [Int.sub_mul, Int.sub_mul] at h7
      omega
  · by_cases hl : k.2 < cur.2
    · have h := hq k hk hl
      rcases h with h | ⟨_, h⟩
      · rw [← meet] at e
        have e1 : (b.1 - cur.1) * (cur.2 - k.2) = cur.2 * (b.1 - cur.1) - k.2 * (b.1 - cur.1) := by
          rw [Int.mul_sub, Int.mul_comm _ cur.2, Int.mul_comm _ k.2]
        have e2 : (k.1 - cur.1) * (cur.2 - b.2) = k.1 * (cur.2 - b.2) - cur.1 * (cur.2 - b.2) := Int.sub_mul _ _ _
        omega
      · exact h
    · omega
end
end K49

namespace K49
open PySem PySem.Spec PyProof.Rows L2 LB PM
section
variable {top : Int} {ns : List Str} {ps ts : List PyData} {G : List (List Key × List PyData)} {ks : List Ln} {p q : Int}
/-! ### the breaks, as pairs -/
abbrev Fr := Int × Int
def frP (x : Fr) : PyData := frD x.1 x.2
def brkP : Ln → List Ln → List Fr
  | _, [] => []
  | cur, b :: r => (b.1 - cur.1, cur.2 - b.2) :: brkP b r
theorem brkL_P : ∀ (r : List Ln) (cur : Ln), brkL cur r = (brkP cur r).map frP
  | [], _ => rfl
  | b :: r, cur => by
    show frD (b.1 - cur.1) (cur.2 - b.2) :: brkL b r = frP (b.1 - cur.1, cur.2 - b.2) :: (brkP b r).map frP
    rw [brkL_P r b]
    rfl
theorem brkP_len : ∀ (r : List Ln) (cur : Ln), (brkP cur r).length = r.length
  | [], _ => rfl
  | b :: r, cur => by
    show (brkP b r).length + 1 = r.length + 1
    rw [brkP_len r b]
def fLt (x y : Fr) : Prop := x.1 * y.2 < y.1 * x.2
def fLe (x y : Fr) : Prop := x.1 * y.2 ≤ y.1 * x.2
def fEq (x y : Fr) : Prop := x.1 * y.2 = y.1 * x.2
abbrev RiseF (Q : List Fr) : Prop := Q.Pairwise fLt
/-- the next break lies behind -/
theorem step_lt {cur b : Ln} (E : Env ks cur p q) (N : Nxt ks top cur b) : p * (cur.2 - b.2) < (b.1 - cur.1) * q := by
  obtain ⟨hb, lt, _, _⟩ := N
  have h1 := E.low b hb
  have h2 := E.lean b hb
  have e1 : p * (cur.2 - b.2) = cur.2 * p - b.2 * p := by
    rw [Int.mul_sub, Int.mul_comm p, Int.mul_comm p]
  have e2 : (b.1 - cur.1) * q = b.1 * q - cur.1 * q := Int.sub_mul _ _ _
  by_cases z : cur.1 * q + cur.2 * p = b.1 * q + b.2 * p
  · have := h2 z
    omega
  · omega
theorem brk_rise {cur : Ln} {r : List Ln} (ch : Chain ks top cur r) : ∀ {p q : Int}, Env ks cur p q → (∀ x ∈ brkP cur r, 0 < x.2 ∧ 0 ≤ x.1 ∧ p * x.2 < x.1 * q ∧ x.1 < top * x.2) ∧ RiseF (brkP cur r) := by
  induction ch with
  | nil _ => intro p q _; exact ⟨fun x hx => absurd hx List.not_mem_nil, List.Pairwise.nil⟩
  | @cons cur b r N ch ih =>
    intro p q E
    obtain ⟨E2, _⟩ := env_step E N
    obtain ⟨h1, h2⟩ := ih E2
    have s := step_lt E N
    have q1 := E.q1
    have q2 := E2.q1
    have p2 := E2.p0
    constructor
    · intro x hx
      rcases List.mem_cons.mp hx with rfl | hx
      · exact ⟨q2, p2, s, N.2.2.1⟩
      · obtain ⟨a1, a0, a2, a3⟩ := h1 x hx
        exact ⟨a1, a0, iratio1 (c := b.1 - cur.1) (d := cur.2 - b.2) q1 q2 a1 s (Int.le_of_lt a2), a3⟩
    · refine List.Pairwise.cons (fun x hx => ?_) h2
      exact (h1 x hx).2.2.1
/-! ### rising rows of fractions -/
theorem frP_eq {x y : Fr} (hx : 0 < x.2) (hy : 0 < y.2) (h : fEq x y) : frP x = frP y := frD_eq (by omega) (by omega) h
def lessN (Q : List Fr) (y : Fr) : Nat := (Q.filter fun x => decide (x.1 * y.2 < y.1 * x.2)).length
end
end K49

namespace K49
open PySem PySem.Spec PyProof.Rows L2 LB PM
open K01 (lowT lowB dvs gcd_fmod fmod_small gcd_pos dvs_ne dvs_nat gcd_le lowB_mul lowT_mul lowB_pos low_gcd low_id low_natAbs_t low_natAbs_b)
section
variable {top : Int} {ns cs : List Str} {ps ts : List PyData} {p q : Int}
theorem on_line_ok {base lean : Int} (hq : q ≠ 0) (h1 : base.natAbs < 2 ^ 99) (h2 : lean.natAbs < 2 ^ 99) (h3 : p.natAbs < 2 ^ 99) (h4 : q.natAbs < 2 ^ 99) : M_on_line [.int base, .int lean, frD p q] = some (frD (base * q + lean * p) q) := by
  have b1 := low_natAbs_t p hq
  have b2 := low_natAbs_b p hq
  have p1 := lowB_pos p hq
  have e : frD (base * lowB p q + lean * lowT p q) (lowB p q) = frD (base * q + lean * p) q := by
    refine frD_eq (by omega) hq ?_
    have c := low_cross p hq
    rw [Int.add_mul, Int.add_mul]
    have e1 : lean * lowT p q * q = lean * p * lowB p q := by rw [Int.mul_assoc, c, Int.mul_assoc]
    have e2 : base * lowB p q * q = base * q * lowB p q := by ac_rfl
    rw [e1, e2]
  rw [← e]
  exact r_eq rfl (r_ret (x_cb (x_cons (x_op (x_op rfl (x_op rfl rfl (ix_t at1)) (mul_ii (lt200 h1) (lt200 (by omega)))) (x_op rfl (x_op rfl rfl (ix_t at0)) (mul_ii (lt200 h2) (lt200 (by omega)))) rfl) (x_cons (x_op rfl rfl (ix_t at1)) rfl)) (fraction_ok (by omega) (lt200 (by omega)))) rfl)
theorem r_fnX {n N : Nat} {m : MS} {ds : List PyData} {r : Rs} (hl : ds.length = n) (h : Run m (evOf n N ds) fun q => outX q = some r) : fnX n N m ds = some r := by
  obtain ⟨q, h1, h2⟩ := h
  unfold fnX
  rw [if_pos hl, h1]
  exact h2
end
end K49

namespace K49
open PySem PySem.Spec PyProof.Rows L2 LB PM
open K01 (lowT lowB lowB_pos low_natAbs_t low_natAbs_b lowT_mul lowB_mul)
section
variable {top : Int} {ns cs : List Str} {ps ts : List PyData} {G : List (List Key × List PyData)} {ks : List Ln} {p q : Int}
theorem ne_of {d : PyData} (h : SeqAt.shaped d = true) : oNe d d = some (.bool false) := by
  unfold oNe
  rw [if_pos ⟨h, h⟩, PySem.SeqAt.eqv_refl _ (SeqAt.canLay_of_shaped h)]
  rfl
theorem eqv_fr {x y : Fr} (hx : 0 < x.2) (hy : 0 < y.2) : PyData.eqv (frP x) (frP y) = decide (x.1 * y.2 = y.1 * x.2) := by
  have h := eq_fr2 (a := x.1) (b := x.2) (c := y.1) (d := y.2) hx hy
  unfold oEq at h
  rw [if_pos ⟨rfl, rfl⟩] at h
  have h := Option.some.inj h
  injection h
theorem lay_fr : ∀ Q : List Fr, PyData.canLayAll0 (Q.map frP) = true ∧ PyData.depthAll (Q.map frP) ≤ 1
  | [] => ⟨rfl, Nat.zero_le _⟩
  | x :: Q => by
    obtain ⟨h1, h2⟩ := lay_fr Q
    constructor
    · show (PyData.canLay0 (frP x) && PyData.canLayAll0 (Q.map frP)) = true
      rw [h1]
      rfl
    · show max (PyData.depth (frP x)) (PyData.depthAll (Q.map frP)) ≤ 1
      have : PyData.depth (frP x) = 1 := rfl
      omega
theorem shaped_fr (Q : List Fr) : SeqAt.shaped (.list (Q.map frP)) = true := by
  obtain ⟨g1, g2⟩ := lay_fr Q
  unfold SeqAt.shaped PyData.canLay0 PyData.depth
  rw [g1, Bool.true_and]
  exact decide_eq_true (by omega)
theorem any_fr {y : Fr} (hy : 0 < y.2) {Q : List Fr} (h : ∀ x ∈ Q, 0 < x.2) : (((Q.map frP).any fun z => PyData.eqv z (frP y)) = true ↔ ∃ x ∈ Q, fEq x y) := by
  rw [List.any_map, List.any_eq_true]
  constructor
  · rintro ⟨x, hx, e⟩
    have e : PyData.eqv (frP x) (frP y) = true := e
    rw [eqv_fr (h x hx) hy] at e
    have e : x.1 * y.2 = y.1 * x.2 := of_decide_eq_true e
    exact ⟨x, hx, e⟩
  · rintro ⟨x, hx, e⟩
    refine ⟨x, hx, ?_⟩
    show PyData.eqv (frP x) (frP y) = true
    rw [eqv_fr (h x hx) hy]
    exact decide_eq_true (show x.1 * y.2 = y.1 * x.2 from e)
theorem in_fr {y : Fr} (hy : 0 < y.2) {Q : List Fr} (h : ∀ x ∈ Q, 0 < x.2) : ∃ c, oInZ (frP y) (.list (Q.map frP)) = some (.bool c) ∧ (c = true ↔ ∃ x ∈ Q, fEq x y) := by
  refine ⟨_, ?_, any_fr hy h⟩
  have e1 : oIn (frP y) (.list (Q.map frP)) = none := by
    show (if flD (frP y) = true ∧ (Q.map frP).all flD = true then some (PyData.bool ((Q.map frP).any fun z => PyData.eqv z (frP y))) else none) = none
    exact if_neg fun z => by cases z.1
  unfold oInZ oInY
  rw [e1]
  show (if SeqAt.shaped (frP y) = true ∧ SeqAt.shaped (.list (Q.map frP)) = true then _ else none) = _
  rw [if_pos ⟨rfl, shaped_fr Q⟩]
/-- each break is small -/
theorem brk_big (L : LOk ps ts ns G ks) {cur : Ln} {r : List Ln} (ch : Chain ks top cur r) : cur ∈ ks → ∀ x ∈ brkP cur r, x.1.natAbs ≤ 200000 ∧ x.2.natAbs ≤ 200000 := by
  induction ch with
  | nil _ => intro _ x hx; exact absurd hx List.not_mem_nil
  | @cons cur b r N ch ih =>
    intro hc x hx
    rcases List.mem_cons.mp hx with rfl | hx
    · have h1 := L.big cur hc
      have h2 := L.big b N.1
      exact ⟨by show (b.1 - cur.1).natAbs ≤ 200000; omega, by show (cur.2 - b.2).natAbs ≤ 200000; omega⟩
    · exact ih N.1 x hx
theorem r_forL {mi : MA} {gm : MG} {mb : MS} {ds : List PyData} {ρ : Ev} {Post : Out → Prop} (I : Nat → Ev → Prop) (hi : mi ρ = some ds) (h0 : I 0 ρ) (hs : ∀ i d ρ, ds[i]? = some d → I i ρ → ∃ ρ1, gm d ρ = some ρ1 ∧ PM.Run mb ρ1 (Nx (I (i + 1)))) (he : ∀ ρ', I ds.length ρ' → Post (.nx ρ')) : PM.Run (mFor mi gm mb) ρ Post := by
  obtain ⟨ρ', h1, h2⟩ := x_for I hi h0 fun i d ρ hd h => by
    obtain ⟨ρ1, h1, q, h2, h3⟩ := hs i d ρ hd h
    cases q with
    | nx ρ2 => exact ⟨ρ1, ρ2, h1, h2, h3⟩
    | rt d => exact h3.elim
    | rf d => exact h3.elim
    | bk d => exact h3.elim
    | ct d => exact h3.elim
    | er d ρ2 => exact h3.elim
  exact ⟨_, h1, he ρ' h2⟩
theorem chain_mem {cur : Ln} {r : List Ln} (ch : Chain ks top cur r) : cur ∈ ks → ∀ k ∈ cur :: r, k ∈ ks := by
  induction ch with
  | nil _ => intro h k hk; rw [List.mem_singleton.mp hk]; exact h
  | @cons cur b r N ch ih =>
    intro h k hk
    rcases List.mem_cons.mp hk with rfl | hk
    · exact h
    · exact ih N.1 k hk
end
end K49

namespace K49
open PySem PySem.Spec PyProof.Rows L2 LB PM
open K01 (lowT lowB lowB_pos low_natAbs_t low_natAbs_b lowT_mul lowB_mul)
section
variable {top : Int} {ns : List Str} {ps ts : List PyData} {G : List (List Key × List PyData)} {ks : List Ln} {p q : Int}
/-! ### the number of the bit at a price -/
def leN (Q : List Fr) (y : Fr) : Nat := (Q.filter fun x => decide (x.1 * y.2 ≤ y.1 * x.2)).length
theorem leN_ne {Q : List Fr} {y : Fr} (h : ¬ ∃ x ∈ Q, fEq x y) : leN Q y = lessN Q y := by
  unfold leN lessN
  refine congrArg List.length (List.filter_congr fun x hx => ?_)
  have : ¬ x.1 * y.2 = y.1 * x.2 := fun z => h ⟨x, hx, z⟩
  exact decide_eq_decide.mpr (by omega)
theorem leN_far {y : Fr} (y0 : 0 < y.2) {x : Fr} {Q : List Fr} (x0 : 0 < x.2) (r : ∀ z ∈ Q, fLt x z) (pos : ∀ z ∈ Q, 0 < z.2) (h : y.1 * x.2 ≤ x.1 * y.2) : leN Q y = 0 ∧ lessN Q y = 0 := by
  have gt : ∀ z ∈ Q, y.1 * z.2 < z.1 * y.2 := fun z hz => iratio2 (c := x.1) (d := x.2) y0 x0 (pos z hz) h (r z hz)
  constructor
  · unfold leN
    rw [List.length_eq_zero_iff, List.filter_eq_nil_iff]
    intro z hz w
    have := of_decide_eq_true w
    have := gt z hz
    omega
  · unfold lessN
    rw [List.length_eq_zero_iff, List.filter_eq_nil_iff]
    intro z hz w
    have := of_decide_eq_true w
    have := gt z hz
    omega
theorem leN_eq {y : Fr} (y0 : 0 < y.2) : ∀ {Q : List Fr}, RiseF Q → (∀ x ∈ Q, 0 < x.2) → (∃ x ∈ Q, fEq x y) → leN Q y = lessN Q y + 1
  | [], _, _, ⟨x, hx, _⟩ => absurd hx List.not_mem_nil
  | x :: Q, r, pos, ⟨z, hz, e⟩ => by
    have r := List.pairwise_cons.mp r
    have x0 := pos x List.mem_cons_self
    have posQ := fun z hz => pos z (List.mem_cons_of_mem _ hz)
    have e : z.1 * y.2 = y.1 * z.2 := e
    by_cases lt : x.1 * y.2 < y.1 * x.2
    · have hz' : z ∈ Q := by
        rcases List.mem_cons.mp hz with rfl | h
        · omega
        · exact h
      have ih := leN_eq y0 r.2 posQ ⟨z, hz', e⟩
      have e1 : leN (x :: Q) y = leN Q y + 1 := by
        unfold leN
        rw [List.filter_cons, if_pos (decide_eq_true (by omega)), List.length_cons]
      have e2 : lessN (x :: Q) y = lessN Q y + 1 := by
        unfold lessN
        rw [List.filter_cons, if_pos (decide_eq_true lt), List.length_cons]
      omega
    · have ge : y.1 * x.2 ≤ x.1 * y.2 := by omega
      obtain ⟨f1, f2⟩ := leN_far y0 x0 r.1 posQ ge
      by_cases eq : x.1 * y.2 = y.1 * x.2
      · have e1 : leN (x :: Q) y = leN Q y + 1 := by
          unfold leN
          rw [List.filter_cons, if_pos (decide_eq_true (by omega)), List.length_cons]
        have e2 : lessN (x :: Q) y = lessN Q y := by
          unfold lessN
          rw [List.filter_cons, if_neg (by rw [decide_eq_false lt]; decide)]
        omega
      · exfalso
        rcases List.mem_cons.mp hz with rfl | h
        · omega
        · have := iratio2 (a := y.1) (b := y.2) (c := x.1) (d := x.2) (e := z.1) (f := z.2) y0 x0 (posQ z h) ge (r.1 z h)
          omega
theorem below_fr {x y : Fr} (hx : 0 < x.2) (hy : 0 < y.2) (b1 : x.1.natAbs < 2 ^ 99) (b2 : x.2.natAbs < 2 ^ 99) (b3 : y.1.natAbs < 2 ^ 99) (b4 : y.2.natAbs < 2 ^ 99) : M_below [frP x, frP y] = some (.bool (decide (x.1 * y.2 < y.1 * x.2))) := below_ok hx hy b1 b2 b3 b4
noncomputable def belB (y d : PyData) : Bool := match M_below [d, y] with
  | some (.bool c) => c
  | _ => false
theorem belB_fr {x y : Fr} (hx : 0 < x.2) (hy : 0 < y.2) (b1 : x.1.natAbs < 2 ^ 99) (b2 : x.2.natAbs < 2 ^ 99) (b3 : y.1.natAbs < 2 ^ 99) (b4 : y.2.natAbs < 2 ^ 99) : belB (frP y) (frP x) = decide (x.1 * y.2 < y.1 * x.2) := by
  unfold belB
  rw [below_fr hx hy b1 b2 b3 b4]
def bdF (x : Fr) : Prop := 0 < x.2 ∧ x.1.natAbs < 2 ^ 99 ∧ x.2.natAbs < 2 ^ 99
theorem beside_ok {Q : List Fr} {y : Fr} (hy : bdF y) (hQ : ∀ x ∈ Q, bdF x) (r : RiseF Q) (few : Q.length ≤ 1000) : ∃ l, M_bits_beside [.list (Q.map frP), frP y] = some (.list l) ∧ atI l (-1) = some (.int (leN Q y : Int)) := by
  obtain ⟨y0, y1, y2⟩ := hy
  have hlc : mLc (iS (mW 0)) [3] (gN 3) (qV (mCb M_below (aCons (mV 3) (aCons (mV 1) aNil)))) (mV 3) [.val (.list (Q.map frP)), .val (frP y), .no, .no] = some (.list ((Q.filter fun x => decide (x.1 * y.2 < y.1 * x.2)).map frP)) := by
    refine x_lc (ds := Q.map frP) rfl (by rw [List.length_map]; omega) ?_
    rw [x_lcGo (belB (frP y)) id _ fun d hd => ?_, List.map_id, List.filter_map]
    · refine congrArg (fun z => some (z.map frP)) (List.filter_congr fun x hx => ?_)
      obtain ⟨a1, a2, a3⟩ := hQ x hx
      exact belB_fr a1 y0 a2 a3 y1 y2
    · obtain ⟨x, hx, rfl⟩ := List.mem_map.mp hd
      obtain ⟨a1, a2, a3⟩ := hQ x hx
      refine ⟨_, rfl, x_qv (x_cb rfl ?_), fun _ => rfl⟩
      rw [belB_fr a1 y0 a2 a3 y1 y2]
      exact below_fr a1 y0 a2 a3 y1 y2
  have hlen : mCb oLen (aCons (mLc (iS (mW 0)) [3] (gN 3) (qV (mCb M_below (aCons (mV 3) (aCons (mV 1) aNil)))) (mV 3)) aNil) [.val (.list (Q.map frP)), .val (frP y), .no, .no] = some (.int (lessN Q y : Int)) := by
    refine x_cb (x_cons hlc rfl) ?_
    show some (PyData.int ((((Q.filter fun x => decide (x.1 * y.2 < y.1 * x.2)).map frP).length : Nat) : Int)) = _
    rw [List.length_map]
    rfl
  obtain ⟨c, hc, hci⟩ := in_fr y0 (fun x hx => (hQ x hx).1)
  have t : qV (mOp oInZ (mW 1) (mW 0)) [.val (.list (Q.map frP)), .val (frP y), .val (.int (lessN Q y : Int)), .no] = some c := x_qv (x_op rfl rfl hc)
  cases c with
  | true =>
    refine ⟨[.int (lessN Q y : Int), .int ((lessN Q y : Int) + 1)], r_eq rfl (r_seq (x_set hlen) ⟨_, x_ret (x_ifT t (x_rt (x_lst (x_cons rfl (x_cons (x_op rfl rfl rfl) rfl)) (by show 2 ≤ 100000; decide)))), rfl⟩), ?_⟩
    rw [leN_eq y0 r (fun x hx => (hQ x hx).1) (hci.mp rfl)]
    rfl
  | false =>
    refine ⟨[.int (lessN Q y : Int)], r_eq rfl (r_seq (x_set hlen) (r_seq (x_ifF t rfl) (r_ret (x_lst rfl (by show 1 ≤ 100000; decide)) rfl))), ?_⟩
    rw [leN_ne fun z => by have := hci.mpr z; cases this]
    rfl
/-! ### the worth by the stair -/
theorem frD_low (p : Int) (hq : 0 < q) : frD p q = .tuple [.int (lowT p q), .int (lowB p q)] := rfl
theorem frD_idem (p : Int) (hq : 0 < q) : frD (lowT p q) (lowB p q) = frD p q := by
  have h := lowB_pos p (b := q) (by omega)
  exact frD_eq (by omega) (by omega) (low_cross p (by omega))
end
end K49

namespace K49
open PySem PySem.Spec PyProof.Rows L2 LB PM
open K01 (lowT lowB lowB_pos low_natAbs_t low_natAbs_b lowT_mul lowB_mul)
section
variable {top : Int} {ns : List Str} {ps ts : List PyData} {G : List (List Key × List PyData)} {ks : List Ln} {p q : Int}
/-! ### a stair, as beside reads it -/
structure Good (d : PyData) (ls : List Ln) (Q : List Fr) : Prop where
  eq : ∃ B : Ln → PyData, d = .tuple [.list (ls.map B), .list (Q.map frP)] ∧ ∀ k ∈ ls, ∃ x y, B k = .tuple [x, y, .int k.1, .int k.2]
  len : ls.length = Q.length + 1
  few : Q.length ≤ 256
  bg : ∀ k ∈ ls, Bg k
  bq : ∀ x ∈ Q, 0 < x.2 ∧ x.1.natAbs ≤ 200000 ∧ x.2.natAbs ≤ 200000
  rise : RiseF Q
theorem good_of (W : WebOk top ns ps ts) : ∃ d ls Q, Good d ls Q ∧ M_stair_of [webD top ps ts] = some d := by
  obtain ⟨G, ks, m, r, L, hm, mlow, ch, rl, hA⟩ := stair_ok W
  have E0 := env_first mlow
  obtain ⟨br1, br2⟩ := brk_rise ch E0
  have big := brk_big L ch hm
  refine ⟨_, m :: r, brkP m r, ⟨⟨bitD ps ts ns, by unfold stD; rw [brkL_P], fun k _ => ⟨_, _, rfl⟩⟩, by rw [brkP_len]; rfl, by rw [brkP_len]; exact rl, fun k hk => L.big k (chain_mem ch hm k hk), fun x hx => ⟨(br1 x hx).1, big x hx⟩, br2⟩, hA⟩
/-- a price that beside meets -/
def PrB (y : Fr) : Prop := 0 < y.2 ∧ y.1.natAbs < 2 ^ 60 ∧ y.2.natAbs < 2 ^ 60
/-- an end that beside meets -/
def EnB (y : Fr) : Prop := 0 < y.2 ∧ y.1.natAbs ≤ 200000 ∧ y.2.natAbs ≤ 200000
theorem EnB.pr {y : Fr} (h : EnB y) : PrB y := ⟨h.1, by have := h.2.1; omega, by have := h.2.2; omega⟩
theorem PrB.bd {y : Fr} (h : PrB y) : bdF y := ⟨h.1, by have := h.2.1; omega, by have := h.2.2; omega⟩
theorem leN_le (Q : List Fr) (y : Fr) : leN Q y ≤ Q.length := List.length_filter_le _ _
theorem on_ok {d : PyData} {ls : List Ln} {Q : List Fr} (g : Good d ls Q) {y : Fr} (hy : PrB y) : ∃ k ∈ ls, M_line_on [d, frP y] = some (prK k) := by
  obtain ⟨B, rfl, hB⟩ := g.eq
  obtain ⟨cc, hb1, hb2⟩ := beside_ok hy.bd (fun x hx => ⟨(g.bq x hx).1, by have := (g.bq x hx).2.1; omega, by have := (g.bq x hx).2.2; omega⟩) g.rise (by have := g.few; omega)
  have lt : leN Q y < ls.length := by
    have := leN_le Q y
    have := g.len
    omega
  have hk := List.getElem?_eq_getElem lt
  have mk := List.getElem_mem lt
  generalize ls[leN Q y] = k at hk mk
  obtain ⟨x, z, e⟩ := hB k mk
  refine ⟨k, mk, r_eq rfl (r_seq (ρ' := [.val (.tuple [.list (ls.map B), .list (Q.map frP)]), .val (frP y), .val (.list (ls.map B)), .val (.list (Q.map frP)), .no, .no, .no, .no]) (x_asg rfl rfl) (r_seq (ρ' := [.val (.tuple [.list (ls.map B), .list (Q.map frP)]), .val (frP y), .val (.list (ls.map B)), .val (.list (Q.map frP)), .val x, .val z, .val (.int k.1), .val (.int k.2)]) (x_asg (x_op rfl (x_op (x_cb rfl hb1) rfl (ix_l hb2)) (ix_l (d := B k) (atI_nat ?_))) (by rw [e]; rfl)) (r_ret (x_tup rfl (by show 2 ≤ 100000; decide)) rfl)))⟩
  rw [List.getElem?_map, hk]
  rfl
theorem nat_mul_lt {a b : Int} {m n : Nat} (h1 : a.natAbs ≤ m) (h2 : b.natAbs < n) (h3 : 0 < m) : (a * b).natAbs < m * n := by
  rw [Int.natAbs_mul]
  exact Nat.lt_of_le_of_lt (Nat.mul_le_mul_right _ h1) (Nat.mul_lt_mul_of_pos_left h2 h3)
theorem worth_on_ok {d : PyData} {ls : List Ln} {Q : List Fr} (g : Good d ls Q) {y : Fr} (hy : PrB y) : ∃ v : Fr, M_worth_on [d, frP y] = some (frP v) ∧ bdF v := by
  obtain ⟨k, hk, hline⟩ := on_ok g hy
  obtain ⟨y0, y1, y2⟩ := hy
  obtain ⟨b1, b2⟩ := g.bg k hk
  refine ⟨(k.1 * y.2 + k.2 * y.1, y.2), r_eq rfl (r_seq (ρ' := [.val d, .val (frP y), .val (.int k.1), .val (.int k.2)]) (x_asg (x_cb rfl hline) rfl) (r_ret (x_cb rfl (on_line_ok (by omega) (by omega) (by omega) (by omega) (by omega))) rfl)), y0, ?_, by show y.2.natAbs < 2 ^ 99; omega⟩
  show (k.1 * y.2 + k.2 * y.1).natAbs < 2 ^ 99
  have m1 := nat_mul_lt b1 y2 (by decide)
  have m2 := nat_mul_lt b2 y1 (by decide)
  have := Int.natAbs_add_le (k.1 * y.2) (k.2 * y.1)
  omega
theorem lc_two {gm : MG} {mt : MT} {me : ME} {ρ ρ1 ρ2 : Ev} {d0 d1 e0 e1 : PyData} (h1 : gm d0 ρ = some ρ1) (h2 : mt ρ1 = some true) (h3 : me ρ1 = some e0) (h4 : gm d1 ρ = some ρ2) (h5 : mt ρ2 = some true) (h6 : me ρ2 = some e1) : lcGo gm mt me ρ [d0, d1] = some [e0, e1] := by
  show (gm d0 ρ).bind _ = _
  rw [h1]
  show (mt ρ1).bind _ = _
  rw [h2]
  show (me ρ1).bind (fun e => (lcGo gm mt me ρ [d1]).map (e :: ·)) = _
  rw [h3]
  show ((gm d1 ρ).bind _).map _ = _
  rw [h4]
  show ((mt ρ2).bind _).map _ = _
  rw [h5]
  show ((me ρ2).bind (fun e => (lcGo gm mt me ρ []).map (e :: ·))).map _ = _
  rw [h6]
  rfl
def isW (w : Str) : Prop := w = "less" ∨ w = "more" ∨ w = "same"
theorem word_ok {d0 d1 : PyData} {ls0 ls1 : List Ln} {Q0 Q1 : List Fr} (g0 : Good d0 ls0 Q0) (g1 : Good d1 ls1 Q1) {y : Fr} (hy : PrB y) : ∃ w : Str, M_word_at [.list [d0, d1], frP y] = some (.str w) ∧ isW w ∧ (d0 = d1 → w = "same") := by
  obtain ⟨v0, h0, a0, a1, a2⟩ := worth_on_ok g0 hy
  obtain ⟨v1, h1, b0, b1, b2⟩ := worth_on_ok g1 hy
  have hl : mLc (iS (mW 0)) [4] (gN 4) qT (mCb M_worth_on (aCons (mV 4) (aCons (mV 1) aNil))) [.val (.list [d0, d1]), .val (frP y), .no, .no, .no] = some (.list [frP v0, frP v1]) := by
    refine x_lc (ds := [d0, d1]) rfl (by show 2 ≤ 100000; decide) ?_
    refine lc_two (ρ1 := [.val (.list [d0, d1]), .val (frP y), .no, .no, .val d0]) (ρ2 := [.val (.list [d0, d1]), .val (frP y), .no, .no, .val d1]) rfl rfl (x_cb rfl h0) rfl rfl (x_cb rfl h1)
  have t0 : qV (mCb M_below (aCons (mV 2) (aCons (mV 3) aNil))) [.val (.list [d0, d1]), .val (frP y), .val (frP v0), .val (frP v1), .no] = some (decide (v0.1 * v1.2 < v1.1 * v0.2)) := x_qv (x_cb rfl (below_fr a0 b0 a1 a2 b1 b2))
  have t1 : qV (mCb M_below (aCons (mV 3) (aCons (mV 2) aNil))) [.val (.list [d0, d1]), .val (frP y), .val (frP v0), .val (frP v1), .no] = some (decide (v1.1 * v0.2 < v0.1 * v1.2)) := x_qv (x_cb rfl (below_fr b0 a0 b1 b2 a1 a2))
  have st : ∀ {r : PyData}, Run (mSeq (mIfS (qV (mCb M_below (aCons (mV 2) (aCons (mV 3) aNil)))) (mRet (mC (.str "less"))) mNx)
      (mSeq (mIfS (qV (mCb M_below (aCons (mV 3) (aCons (mV 2) aNil)))) (mRet (mC (.str "more"))) mNx)
      (mRet (mC (.str "same"))))) [.val (.list [d0, d1]), .val (frP y), .val (frP v0), .val (frP v1), .no] (fun q => outR q = some r) → M_word_at [.list [d0, d1], frP y] = some r := fun h => r_eq rfl (r_seq (x_asg hl rfl) h)
  by_cases lt : v0.1 * v1.2 < v1.1 * v0.2
  · rw [decide_eq_true lt] at t0
    refine ⟨"less", st ⟨_, x_ret (x_ifT t0 rfl), rfl⟩, .inl rfl, fun e => ?_⟩
    subst e
    have : frP v0 = frP v1 := by
      rw [h0] at h1
      exact Option.some.inj h1
    have := frD_inj a0 b0 this
    omega
  · rw [decide_eq_false lt] at t0
    by_cases lt2 : v1.1 * v0.2 < v0.1 * v1.2
    · rw [decide_eq_true lt2] at t1
      refine ⟨"more", st (r_seq (x_ifF t0 rfl) ⟨_, x_ret (x_ifT t1 rfl), rfl⟩), .inr (.inl rfl), fun e => ?_⟩
      subst e
      have : frP v0 = frP v1 := by
        rw [h0] at h1
        exact Option.some.inj h1
      have := frD_inj a0 b0 this
      omega
    · rw [decide_eq_false lt2] at t1
      exact ⟨"same", st (r_seq (x_ifF t0 rfl) (r_seq (x_ifF t1 rfl) (r_ret rfl rfl))), .inr (.inr rfl), fun _ => rfl⟩
end
end K49

namespace K49
open PySem PySem.Spec PyProof.Rows L2 LB PM
open K01 (lowT lowB lowB_pos low_natAbs_t low_natAbs_b lowT_mul lowB_mul)
section
variable {top : Int} {ns : List Str} {ps ts : List PyData} {p q : Int}
/-! ### half way -/
theorem plus_ok {t b s c : Int} (hb : b ≠ 0) (hc : c ≠ 0) (h1 : t.natAbs < 2 ^ 99) (h2 : b.natAbs < 2 ^ 99) (h3 : s.natAbs < 2 ^ 99) (h4 : c.natAbs < 2 ^ 99) : M_plus [frD t b, frD s c] = some (frD (t * c + s * b) (b * c)) := by
  have b1 := low_natAbs_t t hb
  have b2 := low_natAbs_b t hb
  have b3 := low_natAbs_t s hc
  have b4 := low_natAbs_b s hc
  have p1 := lowB_pos t hb
  have p2 := lowB_pos s hc
  have p3 := Int.mul_pos p1 p2
  rw [← plus_low hb hc]
  exact r_eq rfl (r_ret (x_cb (x_cons (x_op (x_op (x_op rfl rfl (ix_t at0)) (x_op rfl rfl (ix_t at1)) (mul_ii (lt200 (by omega)) (lt200 (by omega)))) (x_op (x_op rfl rfl (ix_t at0)) (x_op rfl rfl (ix_t at1)) (mul_ii (lt200 (by omega)) (lt200 (by omega)))) rfl) (x_cons (x_op (x_op rfl rfl (ix_t at1)) (x_op rfl rfl (ix_t at1)) (mul_ii (lt200 (by omega)) (lt200 (by omega)))) rfl)) (fraction_ok (by omega) (mul_lt200 (by omega) (by omega)))) rfl)
theorem times_ok {t b s c : Int} (hb : b ≠ 0) (hc : c ≠ 0) (h1 : t.natAbs < 2 ^ 99) (h2 : b.natAbs < 2 ^ 99) (h3 : s.natAbs < 2 ^ 99) (h4 : c.natAbs < 2 ^ 99) : M_times [frD t b, frD s c] = some (frD (t * s) (b * c)) := by
  have b1 := low_natAbs_t t hb
  have b2 := low_natAbs_b t hb
  have b3 := low_natAbs_t s hc
  have b4 := low_natAbs_b s hc
  have p1 := lowB_pos t hb
  have p2 := lowB_pos s hc
  have p3 := Int.mul_pos p1 p2
  rw [← times_low hb hc]
  exact r_eq rfl (r_ret (x_cb (x_cons (x_op (x_op rfl rfl (ix_t at0)) (x_op rfl rfl (ix_t at0)) (mul_ii (lt200 (by omega)) (lt200 (by omega)))) (x_cons (x_op (x_op rfl rfl (ix_t at1)) (x_op rfl rfl (ix_t at1)) (mul_ii (lt200 (by omega)) (lt200 (by omega)))) rfl)) (fraction_ok (by omega) (mul_lt200 (by omega) (by omega)))) rfl)
def half (x y : Fr) : Fr := ((x.1 * y.2 + y.1 * x.2) * 1, (x.2 * y.2) * 2)
theorem half_ok {x y : Fr} (hx : EnB x) (hy : EnB y) : M_half_way [frP x, frP y] = some (frP (half x y)) ∧ PrB (half x y) := by
  obtain ⟨x0, x1, x2⟩ := hx
  obtain ⟨y0, y1, y2⟩ := hy
  have m1 := nat_mul_lt (n := 200001) x1 (show y.2.natAbs < 200001 by omega) (by decide)
  have m2 := nat_mul_lt (n := 200001) y1 (show x.2.natAbs < 200001 by omega) (by decide)
  have m3 := nat_mul_lt (n := 200001) x2 (show y.2.natAbs < 200001 by omega) (by decide)
  have ad := Int.natAbs_add_le (x.1 * y.2) (y.1 * x.2)
  have p0 := Int.mul_pos x0 y0
  have a1 : M_plus [frP x, frP y] = some (frD (x.1 * y.2 + y.1 * x.2) (x.2 * y.2)) := plus_ok (by omega) (by omega) (by omega) (by omega) (by omega) (by omega)
  have a2 : M_fraction [.int 1, .int 2] = some (frD 1 2) := fraction_ok (by decide) (by decide)
  refine ⟨r_eq rfl (r_ret (x_cb (x_cons (x_cb rfl a1) (x_cons (x_cb rfl a2) rfl)) (times_ok (by omega) (by decide) (by omega) (by omega) (by decide) (by decide))) rfl), ?_, ?_, ?_⟩
  · show 0 < (x.2 * y.2) * 2
    omega
  · show ((x.1 * y.2 + y.1 * x.2) * 1).natAbs < 2 ^ 60
    omega
  · show ((x.2 * y.2) * 2).natAbs < 2 ^ 60
    omega
/-! ### where two lines meet -/
def mt (a b : Ln) : Fr := if b.2 < a.2 then (b.1 - a.1, a.2 - b.2) else if a.2 < b.2 then (a.1 - b.1, b.2 - a.2) else (0, 1)
theorem mt_ok {a b : Ln} (ne : a.2 ≠ b.2) (ha : Bg a) (hb : Bg b) : M_meeting [prK a, prK b] = some (frP (mt a b)) ∧ EnB (mt a b) := by
  obtain ⟨a1, a2⟩ := ha
  obtain ⟨b1, b2⟩ := hb
  have h : M_meeting [prK a, prK b] = some (frD (b.1 - a.1) (a.2 - b.2)) := r_eq rfl (r_ret (x_cb (x_cons (x_op (x_op rfl rfl (ix_t at0)) (x_op rfl rfl (ix_t at0)) rfl) (x_cons (x_op (x_op rfl rfl (ix_t at1)) (x_op rfl rfl (ix_t at1)) rfl) rfl)) (fraction_ok (by omega) (by omega))) rfl)
  unfold mt
  by_cases lt : b.2 < a.2
  · rw [if_pos lt]
    refine ⟨h, ?_, ?_, ?_⟩
    · show 0 < a.2 - b.2
      omega
    · show (b.1 - a.1).natAbs ≤ 200000
      omega
    · show (a.2 - b.2).natAbs ≤ 200000
      omega
  · rw [if_neg lt, if_pos (by omega)]
    refine ⟨?_, ?_, ?_, ?_⟩
    · rw [h]
      refine congrArg some (frD_eq (by omega) (by omega) ?_)
      rw [← Int.neg_sub a.1 b.1, ← Int.neg_sub b.2 a.2, Int.neg_mul, Int.mul_neg]
    · show 0 < b.2 - a.2
      omega
    · show (a.1 - b.1).natAbs ≤ 200000
      omega
    · show (b.2 - a.2).natAbs ≤ 200000
      omega
theorem mt_en {a b : Ln} (ha : Bg a) (hb : Bg b) : EnB (mt a b) := by
  by_cases ne : a.2 = b.2
  · unfold mt
    rw [if_neg (by omega), if_neg (by omega)]
    exact ⟨by decide, by decide, by decide⟩
  · exact (mt_ok ne ha hb).2
/-! ### the next end -/
def allE (ls0 ls1 : List Ln) (Q0 Q1 : List Fr) (t : Fr) : List Fr := t :: (Q0 ++ Q1 ++ ls0.flatMap fun a => ls1.map fun b => mt a b)
theorem flt_trans {a b c : Fr} (hb : 0 < b.2) (ha : 0 < a.2) (hc : 0 < c.2) (h1 : fLt a b) (h2 : fLt b c) : fLt a c := iratio1 (c := b.1) (d := b.2) ha hb hc h1 (Int.le_of_lt h2)
/-- the first of the ends behind s, and before t -/
theorem first_ok {sd : PyData} {s t : Fr} (hs : EnB s) (ht : EnB t) {X : List Fr} (hX : ∀ x ∈ X, EnB x) {e6 e7 : PyData} (n1 : X.length ≤ 100000) :
    ∃ e, (e = t ∨ (e ∈ X ∧ fLt s e ∧ fLt e t)) ∧ Run (mSeq (mRel 3 (mFor (iS (mV 3)) (gN 5)
   (mIfS (qAnd (qV (mCb M_below (aCons (mV 1) (aCons (mV 5) aNil)))) (qV (mCb M_below (aCons (mV 5) (aCons (mV 4) aNil))))) (mSet 4 (mV 5)) mNx)))
  (mRet (mV 4))) [.val sd, .val (frP s), .val (frP t), .own (.list (X.map frP)), .val (frP t), .no, .val e6, .val e7, .no] (fun q => outR q = some (frP e)) := by
  have key : ∃ e, (e = t ∨ (e ∈ X ∧ fLt s e ∧ fLt e t)) ∧ Run (mSeq (mFor (iS (mV 3)) (gN 5)
   (mIfS (qAnd (qV (mCb M_below (aCons (mV 1) (aCons (mV 5) aNil)))) (qV (mCb M_below (aCons (mV 5) (aCons (mV 4) aNil))))) (mSet 4 (mV 5)) mNx))
  (mRet (mV 4))) [.val sd, .val (frP s), .val (frP t), .val (.list (X.map frP)), .val (frP t), .no, .val e6, .val e7, .no] (fun q => outR q = some (frP e)) := by
    have run : Run (mSeq (mFor (iS (mV 3)) (gN 5)
   (mIfS (qAnd (qV (mCb M_below (aCons (mV 1) (aCons (mV 5) aNil)))) (qV (mCb M_below (aCons (mV 5) (aCons (mV 4) aNil))))) (mSet 4 (mV 5)) mNx))
  (mRet (mV 4))) [.val sd, .val (frP s), .val (frP t), .val (.list (X.map frP)), .val (frP t), .no, .val e6, .val e7, .no] (fun q => ∃ e, (e = t ∨ (e ∈ X ∧ fLt s e ∧ fLt e t)) ∧ outR q = some (frP e)) := by
      refine r_for (ds := X.map frP) (fun i ρ => ∃ s5 e, ρ = [.val sd, .val (frP s), .val (frP t), .val (.list (X.map frP)), .val (frP e), s5, .val e6, .val e7, .no] ∧ (e = t ∨ (e ∈ X ∧ fLt s e ∧ fLt e t))) rfl ⟨_, t, rfl, .inl rfl⟩ ?_ ?_
      · rintro i d ρ hd ⟨s5, e, rfl, he⟩
        obtain ⟨x, hx, rfl⟩ := List.mem_map.mp (List.mem_of_getElem? hd)
        have bx := (hX x hx)
        have be : EnB e := by
          rcases he with rfl | h
          · exact ht
          · exact hX e h.1
        obtain ⟨x0, x1, x2⟩ := bx.pr.bd
        obtain ⟨z0, z1, z2⟩ := be.pr.bd
        obtain ⟨s0, s1, s2⟩ := hs.pr.bd
        have c1 : qV (mCb M_below (aCons (mV 1) (aCons (mV 5) aNil))) [.val sd, .val (frP s), .val (frP t), .val (.list (X.map frP)), .val (frP e), .val (frP x), .val e6, .val e7, .no] = some (decide (s.1 * x.2 < x.1 * s.2)) := x_qv (x_cb rfl (below_fr s0 x0 s1 s2 x1 x2))
        have c2 : qV (mCb M_below (aCons (mV 5) (aCons (mV 4) aNil))) [.val sd, .val (frP s), .val (frP t), .val (.list (X.map frP)), .val (frP e), .val (frP x), .val e6, .val e7, .no] = some (decide (x.1 * e.2 < e.1 * x.2)) := x_qv (x_cb rfl (below_fr x0 z0 x1 x2 z1 z2))
        refine ⟨[.val sd, .val (frP s), .val (frP t), .val (.list (X.map frP)), .val (frP e), .val (frP x), .val e6, .val e7, .no], rfl, ?_⟩
        by_cases l1 : fLt s x
        · rw [decide_eq_true (show s.1 * x.2 < x.1 * s.2 from l1)] at c1
          by_cases l2 : fLt x e
          · rw [decide_eq_true (show x.1 * e.2 < e.1 * x.2 from l2)] at c2
            refine ⟨_, x_ifT (by rw [x_andT c1 c2]) (x_set rfl), ⟨_, x, rfl, .inr ⟨hx, l1, ?_⟩⟩⟩
            rcases he with rfl | h
            · exact l2
            · exact flt_trans z0 x0 ht.1 l2 h.2.2
          · rw [decide_eq_false (show ¬ x.1 * e.2 < e.1 * x.2 from l2)] at c2
            exact ⟨_, x_ifF (by rw [x_andT c1 c2]) rfl, ⟨_, e, rfl, he⟩⟩
        · rw [decide_eq_false (show ¬ s.1 * x.2 < x.1 * s.2 from l1)] at c1
          exact ⟨_, x_ifF (by rw [x_andF c1]) rfl, ⟨_, e, rfl, he⟩⟩
      · rintro ρ ⟨s5, e, rfl, he⟩
        exact r_ret rfl ⟨e, he, rfl⟩
    obtain ⟨q, h1, e, h2, h3⟩ := run
    exact ⟨e, h2, q, h1, h3⟩
  obtain ⟨e, h1, h2⟩ := key
  exact ⟨e, h1, h2⟩
theorem end_ok {d0 d1 : PyData} {ls0 ls1 : List Ln} {Q0 Q1 : List Fr} (g0 : Good d0 ls0 Q0) (g1 : Good d1 ls1 Q1) {s t : Fr} (hs : EnB s) (ht : EnB t) (lt : fLt s t) : ∃ e, M_end_behind [.list [d0, d1], frP s, frP t] = some (frP e) ∧ EnB e ∧ e ∈ allE ls0 ls1 Q0 Q1 t ∧ fLt s e ∧ (e = t ∨ fLt e t) := by
  obtain ⟨k0, m0, h0⟩ := on_ok g0 hs.pr
  obtain ⟨k1, m1, h1⟩ := on_ok g1 hs.pr
  have f0 := g0.few
  have f1 := g1.few
  have u0 : mOp oIx (mOp oIx (mW 0) (mC (.int 0))) (mC (.int 1)) [.val (.list [d0, d1]), .val (frP s), .val (frP t), .no, .no, .no, .no, .no, .no] = some (.list (Q0.map frP)) := by
    obtain ⟨B, e, _⟩ := g0.eq
    rw [e]
    exact x_op (x_op rfl rfl (ix_l at0)) rfl (ix_t at1)
  have u1 : mOp oIx (mOp oIx (mW 0) (mC (.int 1))) (mC (.int 1)) [.val (.list [d0, d1]), .val (frP s), .val (frP t), .no, .no, .no, .no, .no, .no] = some (.list (Q1.map frP)) := by
    obtain ⟨B, e, _⟩ := g1.eq
    rw [e]
    exact x_op (x_op rfl rfl (ix_l at1)) rfl (ix_t at1)
  have cat : mOp oCat (mOp oIx (mOp oIx (mW 0) (mC (.int 0))) (mC (.int 1))) (mOp oIx (mOp oIx (mW 0) (mC (.int 1))) (mC (.int 1))) [.val (.list [d0, d1]), .val (frP s), .val (frP t), .no, .no, .no, .no, .no, .no] = some (.list ((Q0 ++ Q1).map frP)) := by
    rw [List.map_append]
    exact x_op u0 u1 (cat_ll (by rw [List.length_map, List.length_map]; omega))
  have hl : mLc (iS (mW 0)) [8] (gN 8) qT (mCb M_line_on (aCons (mV 8) (aCons (mV 1) aNil))) [.val (.list [d0, d1]), .val (frP s), .val (frP t), .own (.list ((Q0 ++ Q1).map frP)), .no, .no, .no, .no, .no] = some (.list [prK k0, prK k1]) := by
    refine x_lc (ds := [d0, d1]) rfl (by show 2 ≤ 100000; decide) ?_
    exact lc_two (ρ1 := [.val (.list [d0, d1]), .val (frP s), .val (frP t), .own (.list ((Q0 ++ Q1).map frP)), .no, .no, .no, .no, .val d0]) (ρ2 := [.val (.list [d0, d1]), .val (frP s), .val (frP t), .own (.list ((Q0 ++ Q1).map frP)), .no, .no, .no, .no, .val d1]) rfl rfl (x_cb rfl h0) rfl rfl (x_cb rfl h1)
  have bQ : ∀ x ∈ Q0 ++ Q1, EnB x := fun x hx => by
    rcases List.mem_append.mp hx with h | h
    · exact g0.bq x h
    · exact g1.bq x h
  have tst : qV (mOp oNe (mOp oIx (mW 6) (mC (.int 1))) (mOp oIx (mW 7) (mC (.int 1)))) [.val (.list [d0, d1]), .val (frP s), .val (frP t), .own (.list ((Q0 ++ Q1).map frP)), .no, .no, .val (prK k0), .val (prK k1), .no] = some (!decide (k0.2 = k1.2)) := by
    refine x_qv (x_op (x_op rfl rfl (ix_t at1)) (x_op rfl rfl (ix_t at1)) ?_)
    exact ne_ii _ _
  have fin : ∀ X : List Fr, X.length ≤ 1000 → (∀ x ∈ X, EnB x) → (∀ x ∈ X, x ∈ allE ls0 ls1 Q0 Q1 t) → mIfS (qV (mOp oNe (mOp oIx (mW 6) (mC (.int 1))) (mOp oIx (mW 7) (mC (.int 1))))) (mApp 3 (mCb M_meeting (aCons (mV 6) (aCons (mV 7) aNil)))) mNx [.val (.list [d0, d1]), .val (frP s), .val (frP t), .own (.list ((Q0 ++ Q1).map frP)), .no, .no, .val (prK k0), .val (prK k1), .no] = some (.nx [.val (.list [d0, d1]), .val (frP s), .val (frP t), .own (.list (X.map frP)), .no, .no, .val (prK k0), .val (prK k1), .no]) →
      ∃ e, M_end_behind [.list [d0, d1], frP s, frP t] = some (frP e) ∧ EnB e ∧ e ∈ allE ls0 ls1 Q0 Q1 t ∧ fLt s e ∧ (e = t ∨ fLt e t) := by
    intro X x1 xb xa hif
    obtain ⟨e, he, hrun⟩ := first_ok (sd := .list [d0, d1]) (e6 := prK k0) (e7 := prK k1) hs ht xb (by omega)
    refine ⟨e, r_eq rfl (r_seq (x_setO cat) (r_seq (x_asg hl rfl) (r_seq hif (r_seq (x_set rfl) hrun)))), ?_⟩
    rcases he with rfl | ⟨h1, h2, h3⟩
    · exact ⟨ht, List.mem_cons_self, lt, .inl rfl⟩
    · exact ⟨xb e h1, xa e h1, h2, .inr h3⟩
  by_cases ee : k0.2 = k1.2
  · rw [decide_eq_true ee] at tst
    refine fin (Q0 ++ Q1) (by rw [List.length_append]; omega) bQ (fun x hx => List.mem_cons_of_mem _ (List.mem_append_left _ hx)) (x_ifF tst rfl)
  · rw [decide_eq_false ee] at tst
    obtain ⟨mm, mb⟩ := mt_ok ee (g0.bg k0 m0) (g1.bg k1 m1)
    refine fin ((Q0 ++ Q1) ++ [mt k0 k1]) (by simp only [List.length_append, List.length_cons, List.length_nil]; omega) (fun x hx => ?_) (fun x hx => ?_) (x_ifT tst ?_)
    · rcases List.mem_append.mp hx with h | h
      · exact bQ x h
      · rw [List.mem_singleton.mp h]
        exact mb
    · rcases List.mem_append.mp hx with h | h
      · exact List.mem_cons_of_mem _ (List.mem_append_left _ h)
      · rw [List.mem_singleton.mp h]
        exact List.mem_cons_of_mem _ (List.mem_append_right _ (List.mem_flatMap.mpr ⟨k0, m0, List.mem_map.mpr ⟨k1, m1, rfl⟩⟩))
    · rw [List.map_append (l₁ := Q0 ++ Q1)]
      exact x_app (i := 3) (e := mCb M_meeting (aCons (mV 6) (aCons (mV 7) aNil))) (ρ := [.val (.list [d0, d1]), .val (frP s), .val (frP t), .own (.list ((Q0 ++ Q1).map frP)), .no, .no, .val (prK k0), .val (prK k1), .no]) (ds := (Q0 ++ Q1).map frP) (x_cb rfl mm) rfl (by rw [List.length_map, List.length_append]; omega)
end
end K49

namespace K49
open PySem PySem.Spec PyProof.Rows L2 LB PM
section
variable {top : Int} {ns : List Str} {ps ts : List PyData} {p q : Int}
/-! ### the stretches -/
def Tri (sm : Prop) (d : PyData) : Prop := ∃ (x y : Fr) (w : Str), d = .tuple [frP x, frP y, .str w] ∧ EnB x ∧ EnB y ∧ isW w ∧ (sm → w = "same")
structure Row (sm : Prop) (L : List PyData) (a b : PyData) : Prop where
  tri : ∀ d ∈ L, Tri sm d
  hd : ∃ y w K, L = .tuple [a, y, w] :: K
  la : ∃ x w K, L = K ++ [.tuple [x, b, w]]
def cntE (E : List Fr) (s : Fr) : Nat := (E.filter fun x => decide (s.1 * x.2 < x.1 * s.2)).length
theorem cntE_lt {E : List Fr} {s e : Fr} (hE : ∀ x ∈ E, 0 < x.2) (s0 : 0 < s.2) (he : e ∈ E) (lt : fLt s e) : cntE E e < cntE E s := by
  have e0 := hE e he
  exact filt_lt (fun x hx h => decide_eq_true (flt_trans e0 s0 (hE x hx) lt (show e.1 * x.2 < x.1 * e.2 from of_decide_eq_true h))) ⟨e, he, decide_eq_true lt, decide_eq_false (Int.lt_irrefl _)⟩
theorem flat_len {α β : Type} {f : α → List β} {m : Nat} : ∀ {l : List α}, (∀ a ∈ l, (f a).length ≤ m) → (l.flatMap f).length ≤ l.length * m
  | [], _ => by simp
  | a :: l, h => by
    have ih := flat_len (l := l) fun x hx => h x (List.mem_cons_of_mem _ hx)
    have h1 := h a List.mem_cons_self
    rw [List.flatMap_cons, List.length_append, List.length_cons, Nat.succ_mul]
    omega
theorem allE_len {d0 d1 : PyData} {ls0 ls1 : List Ln} {Q0 Q1 : List Fr} (g0 : Good d0 ls0 Q0) (g1 : Good d1 ls1 Q1) (t : Fr) : (allE ls0 ls1 Q0 Q1 t).length ≤ 67000 := by
  have f0 := g0.few
  have f1 := g1.few
  have n0 := g0.len
  have n1 := g1.len
  have fl : (ls0.flatMap fun a => ls1.map fun b => mt a b).length ≤ ls0.length * 257 := flat_len fun a _ => by
    rw [List.length_map]
    omega
  unfold allE
  rw [List.length_cons, List.length_append, List.length_append]
  omega
theorem allE_en {d0 d1 : PyData} {ls0 ls1 : List Ln} {Q0 Q1 : List Fr} (g0 : Good d0 ls0 Q0) (g1 : Good d1 ls1 Q1) {t : Fr} (ht : EnB t) : ∀ x ∈ allE ls0 ls1 Q0 Q1 t, EnB x := fun x hx => by
  rcases List.mem_cons.mp hx with rfl | hx
  · exact ht
  · rcases List.mem_append.mp hx with hx | hx
    · rcases List.mem_append.mp hx with hx | hx
      · exact g0.bq x hx
      · exact g1.bq x hx
    · obtain ⟨a, ha, hx⟩ := List.mem_flatMap.mp hx
      obtain ⟨b, hb, rfl⟩ := List.mem_map.mp hx
      exact mt_en (g0.bg a ha) (g1.bg b hb)
noncomputable abbrev bsC : MT := qV (mCb M_below (aCons (mV 4) (aCons (mV 3) aNil)))
noncomputable abbrev bsB : MS := mSeq (mSet 6 (mCb M_end_behind (aCons (mV 2) (aCons (mV 4) (aCons (mV 3) aNil)))))
  (mSeq (mApp 5 (mTup (aCons (mV 4) (aCons (mV 6) (aCons (mCb M_word_at (aCons (mV 2) (aCons (mCb M_half_way (aCons (mV 4) (aCons (mV 6) aNil))) aNil))) aNil)))))
  (mSet 4 (mV 6)))
theorem wh_go {mc : MT} {mb : MS} {n : Nat} {ρ ρ2 : Ev} {o : Out} (h1 : mc ρ = some true) (h2 : mb ρ = some (.nx ρ2)) (h3 : whGo mc mb n ρ2 = some o) : whGo mc mb (n + 1) ρ = some o := by
  show (mc ρ).bind _ = _
  rw [h1]
  show (mb ρ).bind _ = _
  rw [h2]
  exact h3
theorem wh_end {mc : MT} {mb : MS} {ρ : Ev} (h1 : mc ρ = some false) : whGo mc mb 1 ρ = some (.nx ρ) := by
  show (mc ρ).bind _ = _
  rw [h1]
  rfl
theorem loop_ok {d0 d1 w0 w1 : PyData} {ls0 ls1 : List Ln} {Q0 Q1 : List Fr} (g0 : Good d0 ls0 Q0) (g1 : Good d1 ls1 Q1) {t : Fr} (ht : EnB t) {a : PyData} : ∀ (n : Nat) (s : Fr) (L : List PyData) (s6 : Sl), EnB s → (fLt s t ∨ s = t) → cntE (allE ls0 ls1 Q0 Q1 t) s ≤ n → L.length + n ≤ 70000 → (L = [] ∧ frP s = a ∧ fLt s t ∨ Row (d0 = d1) L a (frP s)) →
    ∃ N L' s6', whGo bsC bsB N [.val w0, .val w1, .val (.list [d0, d1]), .val (frP t), .val (frP s), .own (.list L), s6] = some (.nx [.val w0, .val w1, .val (.list [d0, d1]), .val (frP t), .val (frP t), .own (.list L'), s6']) ∧ L'.length ≤ 70000 ∧ Row (d0 = d1) L' a (frP t)
  | n, s, L, s6, hs, hst, hn, hL, hR => by
    obtain ⟨s0, s1, s2⟩ := hs.pr.bd
    obtain ⟨t0, t1, t2⟩ := ht.pr.bd
    have c : bsC [.val w0, .val w1, .val (.list [d0, d1]), .val (frP t), .val (frP s), .own (.list L), s6] = some (decide (s.1 * t.2 < t.1 * s.2)) := x_qv (x_cb rfl (below_fr s0 t0 s1 s2 t1 t2))
    by_cases lt : fLt s t
    · rw [decide_eq_true (show s.1 * t.2 < t.1 * s.2 from lt)] at c
      obtain ⟨e, he, eb, em, el, et⟩ := end_ok g0 g1 hs ht lt
      obtain ⟨hh, hb⟩ := half_ok hs eb
      obtain ⟨w, hw, ww, ws⟩ := word_ok g0 g1 hb
      have less := cntE_lt (fun x hx => (allE_en g0 g1 ht x hx).1) s0 em el
      match n, hn with
      | 0, hn => omega
      | n + 1, hn =>
        have row : Row (d0 = d1) (L ++ [.tuple [frP s, frP e, .str w]]) a (frP e) := by
          refine ⟨fun d hd => ?_, ?_, ⟨_, _, L, rfl⟩⟩
          · rcases List.mem_append.mp hd with h | h
            · rcases hR with ⟨rfl, _⟩ | hR
              · exact absurd h List.not_mem_nil
              · exact hR.tri d h
            · rw [List.mem_singleton.mp h]
              exact ⟨s, e, w, rfl, hs, eb, ww, ws⟩
          · rcases hR with ⟨rfl, rfl, _⟩ | hR
            · exact ⟨_, _, [], rfl⟩
            · obtain ⟨y, w', K, rfl⟩ := hR.hd
              exact ⟨y, w', _, rfl⟩
        obtain ⟨N, L', s6', h1, h2, h3⟩ := loop_ok g0 g1 ht (w0 := w0) (w1 := w1) (a := a) n e (L ++ [.tuple [frP s, frP e, .str w]]) (.val (frP e)) eb (et.symm) (by omega) (by rw [List.length_append]; show L.length + 1 + n ≤ 70000; omega) (.inr row)
        refine ⟨N + 1, L', s6', wh_go c ?_ h1, h2, h3⟩
        refine x_seq (x_set (x_cb rfl he)) (x_seq (ρ' := [.val w0, .val w1, .val (.list [d0, d1]), .val (frP t), .val (frP s), .own (.list (L ++ [.tuple [frP s, frP e, .str w]])), .val (frP e)]) (x_app (ds := L) (x_tup (x_cons rfl (x_cons rfl (x_cons (x_cb (x_cons rfl (x_cons (x_cb rfl hh) rfl)) hw) rfl))) (by show 3 ≤ 100000; decide)) rfl (by omega)) (x_set rfl))
    · rw [decide_eq_false (show ¬ s.1 * t.2 < t.1 * s.2 from lt)] at c
      have e : s = t := hst.resolve_left lt
      subst e
      refine ⟨1, L, s6, wh_end c, by omega, ?_⟩
      rcases hR with ⟨_, _, h⟩ | hR
      · exact absurd h lt
      · exact hR
/-! ### the stretches joined -/
theorem ix_last {n : Nat} (h : 1 ≤ n) : ixN n (-1) = some (n - 1) := by
  unfold ixN
  rw [if_neg (by decide), if_pos (by omega)]
  congr 1
  omega
theorem at_end (K : List PyData) (z : PyData) : atI (K ++ [z]) (-1) = some z := by
  unfold atI
  rw [ix_last (by rw [List.length_append]; show 1 ≤ K.length + 1; omega), List.length_append]
  show (K ++ [z])[K.length + 1 - 1]? = _
  rw [Nat.add_sub_cancel, List.getElem?_append_right (Nat.le_refl _), Nat.sub_self]
  rfl
theorem x_setI {i : Nat} {a b : ME} {ρ : Ev} {d : PyData} {K : List PyData} {z : PyData} (h1 : b ρ = some d) (h2 : a ρ = some (.int (-1))) (h3 : ρ[i]? = some (.own (.list (K ++ [z])))) : mSetI i a b ρ = some (.nx (ρ.set i (.own (.list (K ++ [d]))))) := by
  unfold mSetI
  rw [h1]
  show (a ρ).bind _ = _
  rw [h2, h3]
  show (ixN (K ++ [z]).length (-1)).bind _ = _
  rw [ix_last (by rw [List.length_append]; show 1 ≤ K.length + 1; omega), List.length_append]
  show some (Out.nx (ρ.set i (.own (.list ((K ++ [z]).set (K.length + 1 - 1) d))))) = _
  rw [Nat.add_sub_cancel, List.set_append_right _ _ (Nat.le_refl _), Nat.sub_self]
  rfl
theorem shaped_w {w : Str} (h : isW w) : SeqAt.shaped (.str w) = true := by
  rcases h with rfl | rfl | rfl <;> decide +kernel
theorem eq_w {w v : Str} (hw : isW w) (hv : isW v) : oEq (.str w) (.str v) = some (.bool (decide (w = v))) := by
  unfold oEq
  rw [if_pos ⟨shaped_w hw, shaped_w hv⟩, eqv_str]
  congr 2
theorem joined_ok {d0 d1 : PyData} {ls0 ls1 : List Ln} {Q0 Q1 : List Fr} (g0 : Good d0 ls0 Q0) (g1 : Good d1 ls1 Q1) {L : List PyData} {a b : PyData} (hL : Row (d0 = d1) L a b) (few : L.length ≤ 70000) : ∃ R, M_joined [.list [d0, d1], .list L] = some (.list R) ∧ Row (d0 = d1) R a b ∧ (d0 = d1 → R = [.tuple [a, b, .str "same"]]) := by
  have run : Run m_joined (evOf 2 6 [.list [d0, d1], .list L]) (fun q => ∃ R, outR q = some (.list R) ∧ Row (d0 = d1) R a b ∧ (d0 = d1 → R = [.tuple [a, b, .str "same"]])) := by
    refine r_seq (ρ' := [.val (.list [d0, d1]), .val (.list L), .own (.list []), .no, .no, .no]) rfl (r_for (ds := L) (fun i ρ => ∃ s3 s4 s5 R, ρ = [.val (.list [d0, d1]), .val (.list L), .own (.list R), s3, s4, s5] ∧ R.length ≤ i ∧ ((i = 0 ∧ R = []) ∨ ∃ x y w, L[i - 1]? = some (.tuple [x, y, w]) ∧ 1 ≤ i ∧ Row (d0 = d1) R a y ∧ (d0 = d1 → R = [.tuple [a, y, .str "same"]]))) rfl ⟨_, _, _, [], rfl, Nat.le_refl _, .inl ⟨rfl, rfl⟩⟩ ?_ ?_)
    · rintro i d ρ hd ⟨s3, s4, s5, R, rfl, rl, hR⟩
      have hi : i < L.length := (List.getElem?_eq_some_iff.mp hd).1
      obtain ⟨x, y, w, rfl, bx, yb, ww, ws⟩ := hL.tri d (List.mem_of_getElem? hd)
      refine ⟨[.val (.list [d0, d1]), .val (.list L), .own (.list R), .val (frP x), .val (frP y), .val (.str w)], rfl, ?_⟩
      obtain ⟨v, hv, vw, vs⟩ := word_ok g0 g1 bx.pr
      rcases hR with ⟨rfl, rfl⟩ | ⟨x', y', w', hp, i1, row, sm⟩
      · have t : qAnd (qL (mW 2)) (qAnd (qV (mOp oEq (mOp oIx (mOp oIx (mW 2) (mUn oNeg (mC (.int 1)))) (mC (.int 2))) (mW 5))) (qV (mOp oEq (mCb M_word_at (aCons (mV 0) (aCons (mV 3) aNil))) (mW 5)))) [.val (.list [d0, d1]), .val (.list L), .own (.list []), .val (frP x), .val (frP y), .val (.str w)] = some false := x_andF rfl
        refine ⟨_, x_ifF t (x_app (ds := []) (x_tup rfl (by show 3 ≤ 100000; decide)) rfl (by decide)), ⟨_, _, _, [.tuple [frP x, frP y, .str w]], rfl, Nat.le_refl _, .inr ⟨_, _, _, hd, Nat.le_refl _, ⟨fun d hd => ?_, ?_, ⟨_, _, [], rfl⟩⟩, fun e => ?_⟩⟩⟩
        · rw [List.mem_singleton.mp hd]
          exact ⟨x, y, w, rfl, bx, yb, ww, ws⟩
        · obtain ⟨y2, w2, K, e⟩ := hL.hd
          rw [e] at hd
          have : PyData.tuple [a, y2, w2] = .tuple [frP x, frP y, .str w] := Option.some.inj hd
          injection this with this
          injection this with h1 _
          rw [h1]
          exact ⟨_, _, [], rfl⟩
        · obtain ⟨y2, w2, K, e2⟩ := hL.hd
          rw [e2] at hd
          have : PyData.tuple [a, y2, w2] = .tuple [frP x, frP y, .str w] := Option.some.inj hd
          injection this with this
          injection this with h1 _
          rw [h1, ws e]
      · obtain ⟨x2, w2, K, rfl⟩ := row.la
        obtain ⟨x3, y3, w3, e3, b3, c3, ww3, ws3⟩ := row.tri _ (List.mem_append_right _ List.mem_cons_self)
        injection e3 with e3
        injection e3 with e31 e3
        injection e3 with e32 e3
        injection e3 with e33 _
        subst e31 e32 e33
        have tri : Tri (d0 = d1) (.tuple [frP x, frP y, .str w]) := ⟨x, y, w, rfl, bx, yb, ww, ws⟩
        have c1 : qL (mW 2) [.val (.list [d0, d1]), .val (.list L), .own (.list (K ++ [.tuple [frP x3, frP y3, .str w3]])), .val (frP x), .val (frP y), .val (.str w)] = some true := by
          show some (!(K ++ [PyData.tuple [frP x3, frP y3, .str w3]]).isEmpty) = _
          cases K <;> rfl
        have la : mOp oIx (mW 2) (mUn oNeg (mC (.int 1))) [.val (.list [d0, d1]), .val (.list L), .own (.list (K ++ [.tuple [frP x3, frP y3, .str w3]])), .val (frP x), .val (frP y), .val (.str w)] = some (.tuple [frP x3, frP y3, .str w3]) := x_op rfl rfl (ix_l (at_end _ _))
        have c2 : qV (mOp oEq (mOp oIx (mOp oIx (mW 2) (mUn oNeg (mC (.int 1)))) (mC (.int 2))) (mW 5)) [.val (.list [d0, d1]), .val (.list L), .own (.list (K ++ [.tuple [frP x3, frP y3, .str w3]])), .val (frP x), .val (frP y), .val (.str w)] = some (decide (w3 = w)) := x_qv (x_op (x_op la rfl (ix_t at2)) rfl (eq_w ww3 ww))
        have c3' : qV (mOp oEq (mCb M_word_at (aCons (mV 0) (aCons (mV 3) aNil))) (mW 5)) [.val (.list [d0, d1]), .val (.list L), .own (.list (K ++ [.tuple [frP x3, frP y3, .str w3]])), .val (frP x), .val (frP y), .val (.str w)] = some (decide (v = w)) := x_qv (x_op (x_cb rfl hv) rfl (eq_w vw ww))
        have cc : qAnd (qL (mW 2)) (qAnd (qV (mOp oEq (mOp oIx (mOp oIx (mW 2) (mUn oNeg (mC (.int 1)))) (mC (.int 2))) (mW 5))) (qV (mOp oEq (mCb M_word_at (aCons (mV 0) (aCons (mV 3) aNil))) (mW 5)))) [.val (.list [d0, d1]), .val (.list L), .own (.list (K ++ [.tuple [frP x3, frP y3, .str w3]])), .val (frP x), .val (frP y), .val (.str w)] = some (decide (w3 = w ∧ v = w)) := by
          refine x_andT c1 ?_
          by_cases h : w3 = w
          · rw [decide_eq_true h] at c2
            rw [x_andT c2 c3']
            congr 1
            exact decide_eq_decide.mpr ⟨fun z => ⟨h, z⟩, fun z => z.2⟩
          · rw [decide_eq_false h] at c2
            rw [x_andF c2, decide_eq_false fun z => h z.1]
        have hl : (K ++ [PyData.tuple [frP x3, frP y3, .str w3]]).length = K.length + 1 := by
          rw [List.length_append]
          rfl
        rw [hl] at rl
        by_cases h : w3 = w ∧ v = w
        · rw [decide_eq_true h] at cc
          refine ⟨_, x_ifT cc (x_setI (x_tup (x_cons (x_op la rfl (ix_t at0)) rfl) (by show 3 ≤ 100000; decide)) rfl rfl), ⟨_, _, _, K ++ [.tuple [frP x3, frP y, .str w]], rfl, by rw [List.length_append]; show K.length + 1 ≤ i + 1; omega, .inr ⟨_, _, _, hd, by omega, ⟨fun d hd => ?_, ?_, ⟨_, _, K, rfl⟩⟩, fun e => ?_⟩⟩⟩
          · rcases List.mem_append.mp hd with hd | hd
            · exact row.tri d (List.mem_append_left _ hd)
            · rw [List.mem_singleton.mp hd]
              exact ⟨x3, y, w, rfl, b3, yb, ww, ws⟩
          · obtain ⟨y4, w4, K4, e4⟩ := row.hd
            cases K with
            | nil =>
              injection e4 with e4 _
              injection e4 with e4
              injection e4 with e4 _
              rw [← e4]
              exact ⟨_, _, [], rfl⟩
            | cons k K =>
              injection e4 with e4 _
              rw [e4]
              exact ⟨_, _, _, rfl⟩
          · have e5 := sm e
            cases K with
            | nil =>
              injection e5 with e5 _
              injection e5 with e5
              injection e5 with e5 _
              rw [e5, ws e]
              rfl
            | cons k K =>
              injection e5 with _ e5
              cases K <;> cases e5
        · rw [decide_eq_false h] at cc
          refine ⟨_, x_ifF cc (x_app (ds := K ++ [.tuple [frP x3, frP y3, .str w3]]) (x_tup rfl (by show 3 ≤ 100000; decide)) rfl (by rw [hl]; omega)), ⟨_, _, _, K ++ [.tuple [frP x3, frP y3, .str w3]] ++ [.tuple [frP x, frP y, .str w]], rfl, by rw [List.length_append, hl]; show K.length + 1 + 1 ≤ i + 1; omega, .inr ⟨_, _, _, hd, by omega, ⟨fun d hd => ?_, ?_, ⟨_, _, _, rfl⟩⟩, fun e => ?_⟩⟩⟩
          · rcases List.mem_append.mp hd with hd | hd
            · exact row.tri d hd
            · rw [List.mem_singleton.mp hd]
              exact tri
          · obtain ⟨y4, w4, K4, e4⟩ := row.hd
            rw [e4]
            exact ⟨_, _, _, rfl⟩
          · exact absurd ⟨by rw [ws3 e, ws e], by rw [vs e, ws e]⟩ h
    · rintro ρ ⟨s3, s4, s5, R, rfl, rl, hR⟩
      obtain ⟨x2, w2, K, e2⟩ := hL.la
      have hl : L.length = K.length + 1 := by
        rw [e2, List.length_append]
        rfl
      rcases hR with ⟨h, _⟩ | ⟨x, y, w, hp, i1, row, sm⟩
      · omega
      · have : L[L.length - 1]? = some (.tuple [x2, b, w2]) := by
          rw [hl, e2, Nat.add_sub_cancel, List.getElem?_append_right (Nat.le_refl _), Nat.sub_self]
          rfl
        rw [hp] at this
        have this := Option.some.inj this
        injection this with this
        injection this with _ this
        injection this with this _
        subst this
        exact ⟨_, rfl, R, rfl, row, sm⟩
  obtain ⟨q, h1, R, h2, h3, h4⟩ := run
  exact ⟨R, r_eq rfl ⟨q, h1, h2⟩, h3, h4⟩
end
end K49

namespace K49
open PySem PySem.Spec PyProof.Rows L2 LB PM
section
variable {top : Int} {ns ns' : List Str} {ps ts ps' ts' : List PyData} {p q : Int}
/-! ### beside -/
theorem top_en (t1 : 1 ≤ top) (t9 : top ≤ 9) : EnB (top, 1) := ⟨by show (0 : Int) < 1; decide, by show top.natAbs ≤ 200000; omega, by show (1 : Int).natAbs ≤ 200000; decide⟩
theorem bes_ok (W : WebOk top ns ps ts) (W' : WebOk top ns' ps' ts') : ∃ R, M_beside [webD top ps ts, webD top ps' ts'] = some (.ok (.list R)) ∧ (∃ sm, Row sm R (.tuple [.int 0, .int 1]) (.tuple [.int top, .int 1])) ∧ (ps = ps' → ts = ts' → R = [.tuple [.tuple [.int 0, .int 1], .tuple [.int top, .int 1], .str "same"]]) := by
  have t1 := W.t1
  have t9 := W.t9
  obtain ⟨d0, ls0, Q0, g0, h0⟩ := good_of W
  obtain ⟨d1, ls1, Q1, g1, h1⟩ := good_of W'
  have ht := top_en t1 t9
  have f0 : M_fraction [.int 0, .int 1] = some (frP (0, 1)) := fraction_ok (by decide) (by decide)
  have f1 : M_fraction [.int top, .int 1] = some (frP (top, 1)) := fraction_ok (by decide) (by decide)
  have e0 : frP (0, 1) = .tuple [.int 0, .int 1] := frD_one 0
  have e1 : frP (top, 1) = .tuple [.int top, .int 1] := frD_one top
  have lt : fLt (0, 1) (top, 1) := by
    show 0 * 1 < top * 1
    omega
  have cn : cntE (allE ls0 ls1 Q0 Q1 (top, 1)) (0, 1) ≤ 67000 := Nat.le_trans (List.length_filter_le _ _) (allE_len g0 g1 _)
  obtain ⟨N, L, s6, hN, hL, row⟩ := loop_ok (w0 := webD top ps ts) (w1 := webD top ps' ts') g0 g1 ht (a := frP (0, 1)) 67000 (0, 1) [] .no ⟨by decide, by decide, by decide⟩ (.inl lt) cn (by decide) (.inl ⟨rfl, rfl, lt⟩)
  obtain ⟨R, hR, rowR, sm⟩ := joined_ok g0 g1 row hL
  rw [e0, e1] at rowR sm
  refine ⟨R, r_fnX rfl (r_seq (x_ifF (x_qv (c := false) (x_op (x_op rfl rfl (ix_t at0)) (x_op rfl rfl (ix_t at0)) ((ne_ii _ _).trans (by rw [decide_eq_true rfl]; rfl)))) rfl) (r_seq (x_set (x_lst (x_cons (x_cb rfl h0) (x_cons (x_cb rfl h1) rfl)) (by show 2 ≤ 100000; decide))) (r_seq (x_set (x_cb (x_cons (x_op rfl rfl (ix_t at0)) rfl) f1)) (r_seq (x_set (x_cb rfl f0)) (r_seq (x_setO rfl) (r_seq (x_while hN) ?_)))))), ⟨_, rowR⟩, fun e2 e3 => sm ?_⟩
  · refine ⟨.rt (.list R), ?_, rfl⟩
    show mRet (mCb M_joined (aCons (mV 2) (aCons (mV 5) aNil))) [.val (webD top ps ts), .val (webD top ps' ts'), .val (.list [d0, d1]), .val (frP (top, 1)), .val (frP (top, 1)), .val (.list L), s6] = _
    exact x_rt (x_cb rfl hR)
  · subst e2 e3
    rw [h0] at h1
    exact Option.some.inj h1
theorem bes_no {t t' : Int} (h : t ≠ t') : M_beside [webD t ps ts, webD t' ps' ts'] = some (.error "NoTop") :=
  r_er rfl (x_erS (x_ifT (x_qv (c := true) (x_op (x_op rfl rfl (ix_t at0)) (x_op rfl rfl (ix_t at0)) ((ne_ii _ _).trans (by rw [decide_eq_false h]; rfl)))) rfl))
theorem refused_ok {t t' : Int} (h : t ≠ t') : M_L_refused [webD t ps ts, webD t' ps' ts'] = some (.bool true) := by
  have hx : mDropX (mCbX M_beside (aCons (mV 0) (aCons (mV 1) aNil))) [.val (webD t ps ts), .val (webD t' ps' ts'), .val .none, .no] = some (.er "NoTop" [.val (webD t ps ts), .val (webD t' ps' ts'), .val .none, .no]) := x_dropE rfl (bes_no h)
  refine r_eq rfl ⟨.rt (.bool true), ?_, rfl⟩
  show mStored 3 2 "NoTop" (.bool true) (mDropX (mCbX M_beside (aCons (mV 0) (aCons (mV 1) aNil)))) [.val (webD t ps ts), .val (webD t' ps' ts'), .no, .no] = _
  unfold mStored
  rw [if_pos ⟨by show 3 < 4; decide, by show 2 < 4; decide, by decide⟩, show [Sl.val (webD t ps ts), .val (webD t' ps' ts'), .no, .no].set 2 (.val .none) = [.val (webD t ps ts), .val (webD t' ps' ts'), .val .none, .no] from rfl, hx]
  show (if ("NoTop" : Str) = "NoTop" ∧ 3 < [Sl.val (webD t ps ts), .val (webD t' ps' ts'), .val .none, .no].length ∧ 2 < [Sl.val (webD t ps ts), .val (webD t' ps' ts'), .val .none, .no].length then some (Out.rt (.bool true)) else none) = _
  rw [if_pos ⟨rfl, by show 3 < 4; decide, by show 2 < 4; decide⟩]
/-! ### the second web with another top -/
def okB (t : Int) : PyData → Bool
  | .tuple [_, _, _, .int c, .int e] => decide (e * t ≤ c)
  | _ => false
theorem each_top {t : Int} : ∀ {ns : List Str} {ps : List PyData}, PySem.W.EachIs (PlaceOk top) ns ps → ps.all (okB t) = true → PySem.W.EachIs (PlaceOk t) ns ps
  | _, _, .nil, _ => .nil
  | _, _, .cons ⟨a, b, c, e, hd, h1, h2, h3, h4, h5⟩ r, h => by
    subst hd
    obtain ⟨k1, k2⟩ := Bool.and_eq_true_iff.mp h
    exact .cons ⟨a, b, c, e, rfl, h1, h2, h3, of_decide_eq_true k1, h5⟩ (each_top r k2)
theorem web_top {t : Int} (W : WebOk top ns ps ts) (t1 : 1 ≤ t) (t9 : t ≤ 9) (h : ps.all (okB t) = true) : WebOk t ns ps ts := ⟨t1, t9, W.n1, W.n8, W.rise, W.each, each_top W.pl h, W.tl, W.ti⟩
theorem bls_map (f : PyData → Bool) : ∀ l : List PyData, bls (l.map fun d => .bool (f d)) = some (l.map f)
  | [] => rfl
  | d :: l => by
    show (bls (l.map fun d => .bool (f d))).map _ = _
    rw [bls_map f l]
    rfl
theorem all_map (f : PyData → Bool) (l : List PyData) : oAll [.list (l.map fun d => .bool (f d))] = some (.bool (l.all f)) := by
  show (bls (l.map fun d => .bool (f d))).map (fun l => PyData.bool (l.all id)) = _
  rw [bls_map]
  show some (PyData.bool ((l.map f).all id)) = _
  rw [List.all_map]
  rfl
theorem lay_tri {sm : Prop} : ∀ R : List PyData, (∀ d ∈ R, Tri sm d) → PyData.canLayAll0 R = true ∧ PyData.depthAll R ≤ 2
  | [], _ => ⟨rfl, Nat.zero_le _⟩
  | d :: R, h => by
    obtain ⟨h1, h2⟩ := lay_tri R fun x hx => h x (List.mem_cons_of_mem _ hx)
    obtain ⟨x, y, w, rfl, _, _, ww, _⟩ := h _ List.mem_cons_self
    have wk : PyData.strOk w = true := by
      rcases ww with rfl | rfl | rfl <;> decide +kernel
    constructor
    · show (PyData.canLay0 (.tuple [frP x, frP y, .str w]) && PyData.canLayAll0 R) = true
      rw [h1, Bool.and_true]
      show (PyData.canLay0 (frP x) && (PyData.canLay0 (frP y) && (PyData.strOk w && true))) = true
      rw [wk]
      rfl
    · show max (PyData.depth (.tuple [frP x, frP y, .str w])) (PyData.depthAll R) ≤ 2
      have : PyData.depth (.tuple [frP x, frP y, .str w]) = 2 := rfl
      omega
theorem shaped_row {sm : Prop} {R : List PyData} (h : ∀ d ∈ R, Tri sm d) : SeqAt.shaped (.list R) = true := by
  obtain ⟨g1, g2⟩ := lay_tri R h
  unfold SeqAt.shaped PyData.canLay0 PyData.depth
  rw [g1, Bool.true_and]
  exact decide_eq_true (by omega)
noncomputable abbrev lawT : MT := qOr (qV (mOp oEq (mW 5) (mLst aNil))) (qOr (qV (mOp oNe (mOp oIx (mOp oIx (mW 5) (mC (.int 0))) (mC (.int 0))) (mTup (aCons (mC (.int 0)) (aCons (mC (.int 1)) aNil))))) (qV (mOp oNe (mOp oIx (mOp oIx (mW 5) (mUn oNeg (mC (.int 1)))) (mC (.int 1))) (mTup (aCons (mV 1) (aCons (mC (.int 1)) aNil))))))
theorem test_ok {sm : Prop} {R : List PyData} {t : Int} (h : Row sm R (.tuple [.int 0, .int 1]) (.tuple [.int t, .int 1])) {ρ : Ev} (h1 : mV 1 ρ = some (.int t)) (h5 : mW 5 ρ = some (.list R)) : lawT ρ = some false := by
  have sh := shaped_row h.tri
  have q1 : oEq (.list R) (.list []) = some (.bool false) := by
    unfold oEq
    rw [if_pos ⟨sh, rfl⟩]
    obtain ⟨y, w, K, e⟩ := h.hd
    rw [e]
    simp [PyData.eqv, PyData.eqvAll]
  obtain ⟨y, w, K, e⟩ := h.hd
  obtain ⟨x, v, K', e'⟩ := h.la
  have a0 : atI R 0 = some (.tuple [.tuple [.int 0, .int 1], y, w]) := by
    rw [e]
    exact at0
  have a1 : atI R (-1) = some (.tuple [x, .tuple [.int t, .int 1], v]) := by
    rw [e']
    exact at_end _ _
  have tt : mTup (aCons (mV 1) (aCons (mC (.int 1)) aNil)) ρ = some (.tuple [.int t, .int 1]) := x_tup (x_cons h1 rfl) (by show 2 ≤ 100000; decide)
  exact x_orF (x_qv (x_op h5 rfl q1)) (x_orF (x_qv (x_op (x_op (x_op h5 rfl (ix_l a0)) rfl (ix_t at0)) (x_tup rfl (by show 2 ≤ 100000; decide)) (ne_of rfl))) (x_qv (x_op (x_op (x_op h5 rfl (ix_l a1)) rfl (ix_t at1)) tt (ne_of rfl))))
theorem oks {f : List PyData → Option Rs} {as : List PyData} {d : PyData} (h : f as = some (.ok d)) : okF f as = some d := by
  unfold okF
  rw [h]
  rfl
theorem law_ok (script : List Int) (_ : script.length ≤ 63) : M_law [.list (script.map .int)] = some (.bool true) := by
  obtain ⟨top, ns, ps, ts, W, hw⟩ := drawn_ok script (at' := 0) (by decide)
  obtain ⟨top', ns', ps', ts', W', hw'⟩ := drawn_ok script (at' := 24) (by decide)
  have few : ps'.length ≤ 8 := by
    have := W'.n8
    rw [← W'.pl.length]
    exact this
  refine r_eq rfl (r_seq (x_par (x_cons (x_cb rfl hw) (x_cons (x_cb rfl hw') rfl))) (r_for (ds := [.int 1, .int 2, .int 3, .int 4, .int 5, .int 6, .int 7, .int 8, .int 9]) (fun i ρ => ∃ s1 s4 s5, ρ = [.val (.list (script.map .int)), s1, .val (webD top ps ts), .val (webD top' ps' ts'), s4, s5, .no]) rfl ⟨_, _, _, rfl⟩ ?_ ?_))
  · rintro i d ρ hd ⟨s1, s4, s5, rfl⟩
    obtain ⟨t, t1, t9, rfl⟩ : ∃ t : Int, 1 ≤ t ∧ t ≤ 9 ∧ d = .int t := by
      have := List.mem_of_getElem? hd
      simp only [List.mem_cons, List.not_mem_nil, or_false] at this
      rcases this with rfl | rfl | rfl | rfl | rfl | rfl | rfl | rfl | rfl <;> exact ⟨_, by decide, by decide, rfl⟩
    refine ⟨[.val (.list (script.map .int)), .val (.int t), .val (webD top ps ts), .val (webD top' ps' ts'), s4, s5, .no], rfl, ?_⟩
    have hall : mCb oAll (aCons (mLc (iS (mOp oIx (mW 3) (mC (.int 1)))) [6] (gN 6) qT (mOp oGe (mOp oIx (mW 6) (mC (.int 3))) (mOp oMul (mOp oIx (mW 6) (mC (.int 4))) (mW 1)))) aNil) [.val (.list (script.map .int)), .val (.int t), .val (webD top ps ts), .val (webD top' ps' ts'), s4, s5, .no] = some (.bool (ps'.all (okB t))) := by
      refine x_cb (x_cons (x_lc (ds := ps') (es := ps'.map fun d => .bool (okB t d)) (at1s rfl) (by omega) ?_) rfl) (all_map (okB t) ps')
      rw [x_lcGo (fun _ => true) (fun d => .bool (okB t d)) _ fun d hd => ?_, map_true]
      obtain ⟨x, a, b, c, e, hx, rfl, _, _, he, _⟩ := nmD_at W'.pl d hd
      exact ⟨[.val (.list (script.map .int)), .val (.int t), .val (webD top ps ts), .val (webD top' ps' ts'), s4, s5, .val (.tuple [.str x, .int a, .int b, .int c, .int e])], rfl, rfl, fun _ => x_op (x_op rfl rfl (ix_t rfl)) (x_op (x_op rfl rfl (ix_t rfl)) rfl (mul_ii (by omega) (by omega))) rfl⟩
    refine r_if (x_qv hall) (fun h => ?_) (fun _ => r_end rfl ⟨_, _, _, rfl⟩)
    have V := web_top W' t1 t9 h
    have put : mSet 4 (mTup (aCons (mV 1) (aCons (mOp oIx (mW 3) (mC (.int 1))) (aCons (mOp oIx (mW 3) (mC (.int 2))) aNil)))) [.val (.list (script.map .int)), .val (.int t), .val (webD top ps ts), .val (webD top' ps' ts'), s4, s5, .no] = some (.nx [.val (.list (script.map .int)), .val (.int t), .val (webD top ps ts), .val (webD top' ps' ts'), .val (webD t ps' ts'), s5, .no]) := x_set (x_tup (x_cons rfl (x_cons (x_op rfl rfl (ix_t at1)) (x_cons (x_op rfl rfl (ix_t at2)) rfl))) (by show 3 ≤ 100000; decide))
    refine r_seq put (r_if (x_qv (x_op rfl (x_op rfl rfl (ix_t at0)) (ne_ii _ _))) (fun ne => ?_) (fun eq => ?_))
    · have ne : t ≠ top := fun z => by
        rw [decide_eq_true z] at ne
        cases ne
      exact r_end (x_ifF (x_orF (x_not (x_qv (c := true) (x_cb rfl (refused_ok (Ne.symm ne))))) (x_not (x_qv (c := true) (x_cb rfl (refused_ok ne))))) rfl) ⟨_, _, _, rfl⟩
    · have eq : t = top := by
        by_cases z : t = top
        · exact z
        · rw [decide_eq_false z] at eq
          cases eq
      subst eq
      obtain ⟨R, h1, ⟨sm, row⟩, _⟩ := bes_ok W V
      exact r_seq (x_set (x_cb rfl (oks h1))) (r_end (x_ifF (test_ok row rfl rfl) rfl) ⟨_, _, _, rfl⟩)
  · rintro ρ ⟨s1, s4, s5, rfl⟩
    obtain ⟨R, h1, _, same⟩ := bes_ok W W
    rw [same rfl rfl] at h1
    refine r_ret (d := .bool true) (x_op (x_cb rfl (oks h1)) (x_lst (x_cons (x_tup (x_cons (x_tup rfl (by show 2 ≤ 100000; decide)) (x_cons (x_tup (x_cons (x_op rfl rfl (ix_t at0)) rfl) (by show 2 ≤ 100000; decide)) rfl)) (by show 3 ≤ 100000; decide)) rfl) (by show 1 ≤ 100000; decide)) ?_) rfl
    have sh : SeqAt.shaped (.list [.tuple [.tuple [.int 0, .int 1], .tuple [.int top, .int 1], .str "same"]]) = true := by
      have wk : PyData.strOk "same" = true := by decide +kernel
      unfold SeqAt.shaped
      show ((((true && (true && true)) && ((true && (true && true)) && (PyData.strOk "same" && true))) && true) && _) = true
      rw [wk]
      rfl
    unfold oEq
    rw [if_pos ⟨sh, sh⟩, PySem.SeqAt.eqv_refl _ (SeqAt.canLay_of_shaped sh)]
end
end K49

set_option maxHeartbeats 0

namespace K49
open PySem PySem.Spec PyProof.Rows L2
def d_common_divisor : He.DefD := ⟨("common_divisor", none), "common_divisor", "common_divisor", defArgs s_common_divisor, defBody s_common_divisor, defScope s_common_divisor, [], []⟩
def d_fraction : He.DefD := ⟨("fraction", none), "fraction", "fraction", defArgs s_fraction, defBody s_fraction, defScope s_fraction, [], []⟩
def d_plus : He.DefD := ⟨("plus", none), "plus", "plus", defArgs s_plus, defBody s_plus, defScope s_plus, [], []⟩
def d_times : He.DefD := ⟨("times", none), "times", "times", defArgs s_times, defBody s_times, defScope s_times, [], []⟩
def d_half_way : He.DefD := ⟨("half_way", none), "half_way", "half_way", defArgs s_half_way, defBody s_half_way, defScope s_half_way, [], []⟩
def d_below : He.DefD := ⟨("below", none), "below", "below", defArgs s_below, defBody s_below, defScope s_below, [], []⟩
def d_on_line : He.DefD := ⟨("on_line", none), "on_line", "on_line", defArgs s_on_line, defBody s_on_line, defScope s_on_line, [], []⟩
def d_is_rising : He.DefD := ⟨("is_rising", none), "is_rising", "is_rising", defArgs s_is_rising, defBody s_is_rising, defScope s_is_rising, [], []⟩
def d_names_of : He.DefD := ⟨("names_of", none), "names_of", "names_of", defArgs s_names_of, defBody s_names_of, defScope s_names_of, [], []⟩
def d_is_choice : He.DefD := ⟨("is_choice", none), "is_choice", "is_choice", defArgs s_is_choice, defBody s_is_choice, defScope s_is_choice, [], []⟩
def d_is_cut : He.DefD := ⟨("is_cut", none), "is_cut", "is_cut", defArgs s_is_cut, defBody s_is_cut, defScope s_is_cut, [], []⟩
def d_line_of : He.DefD := ⟨("line_of", none), "line_of", "line_of", defArgs s_line_of, defBody s_line_of, defScope s_line_of, [], []⟩
def d_choices_of : He.DefD := ⟨("choices_of", none), "choices_of", "choices_of", defArgs s_choices_of, defBody s_choices_of, defScope s_choices_of, [], []⟩
def d_all_cuts : He.DefD := ⟨("all_cuts", none), "all_cuts", "all_cuts", defArgs s_all_cuts, defBody s_all_cuts, defScope s_all_cuts, [], []⟩
def d_cuts_by_line : He.DefD := ⟨("cuts_by_line", none), "cuts_by_line", "cuts_by_line", defArgs s_cuts_by_line, defBody s_cuts_by_line, defScope s_cuts_by_line, [], []⟩
def d_meeting : He.DefD := ⟨("meeting", none), "meeting", "meeting", defArgs s_meeting, defBody s_meeting, defScope s_meeting, [], []⟩
def d_is_met_first : He.DefD := ⟨("is_met_first", none), "is_met_first", "is_met_first", defArgs s_is_met_first, defBody s_is_met_first, defScope s_is_met_first, [], []⟩
def d_line_behind : He.DefD := ⟨("line_behind", none), "line_behind", "line_behind", defArgs s_line_behind, defBody s_line_behind, defScope s_line_behind, [], []⟩
def d_bit_of : He.DefD := ⟨("bit_of", none), "bit_of", "bit_of", defArgs s_bit_of, defBody s_bit_of, defScope s_bit_of, [], []⟩
def d_stair_of : He.DefD := ⟨("stair_of", none), "stair_of", "stair_of", defArgs s_stair_of, defBody s_stair_of, defScope s_stair_of, [], []⟩
def d_bits_beside : He.DefD := ⟨("bits_beside", none), "bits_beside", "bits_beside", defArgs s_bits_beside, defBody s_bits_beside, defScope s_bits_beside, [], []⟩
def d_line_on : He.DefD := ⟨("line_on", none), "line_on", "line_on", defArgs s_line_on, defBody s_line_on, defScope s_line_on, [], []⟩
def d_worth_on : He.DefD := ⟨("worth_on", none), "worth_on", "worth_on", defArgs s_worth_on, defBody s_worth_on, defScope s_worth_on, [], []⟩
def d_word_at : He.DefD := ⟨("word_at", none), "word_at", "word_at", defArgs s_word_at, defBody s_word_at, defScope s_word_at, [], []⟩
def d_end_behind : He.DefD := ⟨("end_behind", none), "end_behind", "end_behind", defArgs s_end_behind, defBody s_end_behind, defScope s_end_behind, [], []⟩
def d_joined : He.DefD := ⟨("joined", none), "joined", "joined", defArgs s_joined, defBody s_joined, defScope s_joined, [], []⟩
def d_beside : He.DefD := ⟨("beside", none), "beside", "beside", defArgs s_beside, defBody s_beside, defScope s_beside, [], []⟩
def d_L_cell : He.DefD := ⟨("_law_cell", none), "_law_cell", "_law_cell", defArgs s_L_cell, defBody s_L_cell, defScope s_L_cell, [], []⟩
def d_L_numbers : He.DefD := ⟨("_law_numbers", none), "_law_numbers", "_law_numbers", defArgs s_L_numbers, defBody s_L_numbers, defScope s_L_numbers, [], []⟩
def d_L_names : He.DefD := ⟨("_law_names", none), "_law_names", "_law_names", defArgs s_L_names, defBody s_L_names, defScope s_L_names, [], []⟩
def d_L_place : He.DefD := ⟨("_law_place", none), "_law_place", "_law_place", defArgs s_L_place, defBody s_L_place, defScope s_L_place, [], []⟩
def d_L_ties : He.DefD := ⟨("_law_ties", none), "_law_ties", "_law_ties", defArgs s_L_ties, defBody s_L_ties, defScope s_L_ties, [], []⟩
def d_L_web : He.DefD := ⟨("_law_web", none), "_law_web", "_law_web", defArgs s_L_web, defBody s_L_web, defScope s_L_web, [], []⟩
def d_L_chain : He.DefD := ⟨("_law_chain", none), "_law_chain", "_law_chain", defArgs s_L_chain, defBody s_L_chain, defScope s_L_chain, [], []⟩
def d_L_drawn : He.DefD := ⟨("_law_drawn", none), "_law_drawn", "_law_drawn", defArgs s_L_drawn, defBody s_L_drawn, defScope s_L_drawn, [], []⟩
def d_L_only : He.DefD := ⟨("_law_only", none), "_law_only", "_law_only", defArgs s_L_only, defBody s_L_only, defScope s_L_only, [], []⟩
def d_L_refused : He.DefD := ⟨("_law_refused", none), "_law_refused", "_law_refused", defArgs s_L_refused, defBody s_L_refused, defScope s_L_refused, [], []⟩
def d_law : He.DefD := ⟨("law", none), "law", "law", defArgs s_law, defBody s_law, defScope s_law, [], []⟩
def fn : List He.DefD := [d_common_divisor, d_fraction, d_plus, d_times, d_half_way, d_below, d_on_line, d_is_rising, d_names_of, d_is_choice, d_is_cut, d_line_of, d_choices_of, d_all_cuts, d_cuts_by_line, d_meeting, d_is_met_first, d_line_behind, d_bit_of, d_stair_of, d_bits_beside, d_line_on, d_worth_on, d_word_at, d_end_behind, d_joined, d_beside, d_L_cell, d_L_numbers, d_L_names, d_L_place, d_L_ties, d_L_web, d_L_chain, d_L_drawn, d_L_only, d_L_refused, d_law]
def fa0 : List He.Fa := [.glo "StairError", .glo "NoText", .glo "NoNumber", .glo "NoCut", .glo "NoPrice", .glo "NoStream", .glo "NoName", .glo "NoFall", .glo "NoShare", .glo "NoPart", .glo "NoTop", .glo "NoPlace", .glo "NoTie", .glo "NoUndo", .glo "NoWeb", .glo "NoRow", .glo "common_divisor", .glo "fraction", .glo "plus", .glo "times", .glo "half_way", .glo "below", .glo "on_line", .glo "is_rising", .glo "names_of", .glo "is_choice", .glo "is_cut", .glo "line_of", .glo "choices_of", .glo "all_cuts"]
def fa1 : List He.Fa := [.glo "cuts_by_line", .glo "meeting", .glo "is_met_first", .glo "line_behind", .glo "bit_of", .glo "stair_of", .glo "bits_beside", .glo "line_on", .glo "worth_on", .glo "word_at", .glo "end_behind", .glo "joined", .glo "beside", .glo "_law_cell", .glo "_law_numbers", .glo "_law_names", .glo "_law_place", .glo "_law_ties", .glo "_law_web", .glo "_law_chain", .glo "_law_drawn", .glo "_law_only", .glo "_law_refused", .glo "law", .free "ValueError", .free "abs", .free "all", .free "int", .free "isinstance", .free "len"]
def fa2 : List He.Fa := [.free "list", .free "max", .free "min", .free "range", .free "sorted", .free "str", .free "super", .free "tuple", .free "zip", .keep "StairError", .keep "NoText", .keep "NoNumber", .keep "NoCut", .keep "NoPrice", .keep "NoStream", .keep "NoName", .keep "NoFall", .keep "NoShare", .keep "NoPart", .keep "NoTop", .keep "NoPlace", .keep "NoTie", .keep "NoUndo", .keep "NoWeb", .keep "NoRow", .exc "NoTop", .exm "NoTop" "StairError" true]
def fa : List He.Fa := fa0 ++ fa1 ++ fa2
def tf : List He.Defn := [("is_rising", none), ("names_of", none), ("is_choice", none)]
def loose0 : List Str := ["StairError", "NoText", "NoNumber", "NoCut", "NoPrice", "NoStream", "NoName", "NoFall", "NoShare", "NoPart", "NoTop", "NoPlace", "NoTie", "NoUndo", "NoWeb", "NoRow", "common_divisor", "fraction", "plus", "times", "half_way", "below", "on_line", "is_rising", "names_of", "is_choice", "is_cut", "line_of", "choices_of", "all_cuts"]
def loose1 : List Str := ["cuts_by_line", "meeting", "is_met_first", "line_behind", "bit_of", "stair_of", "bits_beside", "line_on", "worth_on", "word_at", "end_behind", "joined", "beside", "_law_cell", "_law_numbers", "_law_names", "_law_place", "_law_ties", "_law_web", "_law_chain", "_law_drawn", "_law_only", "_law_refused"]
def loose : List Str := loose0 ++ loose1
end K49

namespace K49
open PySem PySem.Spec PyProof.Rows L2
abbrev R : PySem.W.OpenRow := PySem.W.OpenLaw.row PySem.Challenge.rw_cutstairs_k49_webs_of_unlike_tops
abbrev hk : PySem.W.Hook := He.hookX 2 fa fn [] tf ex
def ob (s : PySem.W.SharedT) : He.AlX := He.obsX 2 fa fn [] tf ex (HandSHeadRun.getT s)
theorem ob_eq (s : PySem.W.SharedT) : ob s = hk.obs s.abs := He.obsX_eq (HandSHeadRun.getT_eq s)
theorem run (w : World) : HandSHeadRun.RunEq R (PySem.W.view R.prog [60]) hk ob 20000 loose w := by
  intro os
  kernel_rfl
end K49

namespace K49
open PySem PySem.Spec PyProof.Rows L2 LB
theorem txt_of {K : PySem.W.Frag} {w : World} {h : Heap} {mg : Str → Option Value} (X : K.In h) (G : h.Ns mainGlobals mg) (c : He.SaysX fa fn [] tf ex w h K) : Txt K mg where
  m_StairError := He.glo_ok X G (c.t.d.fact 0 (f := .glo "StairError") rfl)
  m_NoText := He.glo_ok X G (c.t.d.fact 1 (f := .glo "NoText") rfl)
  m_NoNumber := He.glo_ok X G (c.t.d.fact 2 (f := .glo "NoNumber") rfl)
  m_NoCut := He.glo_ok X G (c.t.d.fact 3 (f := .glo "NoCut") rfl)
  m_NoPrice := He.glo_ok X G (c.t.d.fact 4 (f := .glo "NoPrice") rfl)
  m_NoStream := He.glo_ok X G (c.t.d.fact 5 (f := .glo "NoStream") rfl)
  m_NoName := He.glo_ok X G (c.t.d.fact 6 (f := .glo "NoName") rfl)
  m_NoFall := He.glo_ok X G (c.t.d.fact 7 (f := .glo "NoFall") rfl)
  m_NoShare := He.glo_ok X G (c.t.d.fact 8 (f := .glo "NoShare") rfl)
  m_NoPart := He.glo_ok X G (c.t.d.fact 9 (f := .glo "NoPart") rfl)
  m_NoTop := He.glo_ok X G (c.t.d.fact 10 (f := .glo "NoTop") rfl)
  m_NoPlace := He.glo_ok X G (c.t.d.fact 11 (f := .glo "NoPlace") rfl)
  m_NoTie := He.glo_ok X G (c.t.d.fact 12 (f := .glo "NoTie") rfl)
  m_NoUndo := He.glo_ok X G (c.t.d.fact 13 (f := .glo "NoUndo") rfl)
  m_NoWeb := He.glo_ok X G (c.t.d.fact 14 (f := .glo "NoWeb") rfl)
  m_NoRow := He.glo_ok X G (c.t.d.fact 15 (f := .glo "NoRow") rfl)
  m_common_divisor := He.glo_ok X G (c.t.d.fact 16 (f := .glo "common_divisor") rfl)
  m_fraction := He.glo_ok X G (c.t.d.fact 17 (f := .glo "fraction") rfl)
  m_plus := He.glo_ok X G (c.t.d.fact 18 (f := .glo "plus") rfl)
  m_times := He.glo_ok X G (c.t.d.fact 19 (f := .glo "times") rfl)
  m_half_way := He.glo_ok X G (c.t.d.fact 20 (f := .glo "half_way") rfl)
  m_below := He.glo_ok X G (c.t.d.fact 21 (f := .glo "below") rfl)
  m_on_line := He.glo_ok X G (c.t.d.fact 22 (f := .glo "on_line") rfl)
  m_is_rising := He.glo_ok X G (c.t.d.fact 23 (f := .glo "is_rising") rfl)
  m_names_of := He.glo_ok X G (c.t.d.fact 24 (f := .glo "names_of") rfl)
  m_is_choice := He.glo_ok X G (c.t.d.fact 25 (f := .glo "is_choice") rfl)
  m_is_cut := He.glo_ok X G (c.t.d.fact 26 (f := .glo "is_cut") rfl)
  m_line_of := He.glo_ok X G (c.t.d.fact 27 (f := .glo "line_of") rfl)
  m_choices_of := He.glo_ok X G (c.t.d.fact 28 (f := .glo "choices_of") rfl)
  m_all_cuts := He.glo_ok X G (c.t.d.fact 29 (f := .glo "all_cuts") rfl)
  m_cuts_by_line := He.glo_ok X G (c.t.d.fact 30 (f := .glo "cuts_by_line") rfl)
  m_meeting := He.glo_ok X G (c.t.d.fact 31 (f := .glo "meeting") rfl)
  m_is_met_first := He.glo_ok X G (c.t.d.fact 32 (f := .glo "is_met_first") rfl)
  m_line_behind := He.glo_ok X G (c.t.d.fact 33 (f := .glo "line_behind") rfl)
  m_bit_of := He.glo_ok X G (c.t.d.fact 34 (f := .glo "bit_of") rfl)
  m_stair_of := He.glo_ok X G (c.t.d.fact 35 (f := .glo "stair_of") rfl)
  m_bits_beside := He.glo_ok X G (c.t.d.fact 36 (f := .glo "bits_beside") rfl)
  m_line_on := He.glo_ok X G (c.t.d.fact 37 (f := .glo "line_on") rfl)
  m_worth_on := He.glo_ok X G (c.t.d.fact 38 (f := .glo "worth_on") rfl)
  m_word_at := He.glo_ok X G (c.t.d.fact 39 (f := .glo "word_at") rfl)
  m_end_behind := He.glo_ok X G (c.t.d.fact 40 (f := .glo "end_behind") rfl)
  m_joined := He.glo_ok X G (c.t.d.fact 41 (f := .glo "joined") rfl)
  m_beside := He.glo_ok X G (c.t.d.fact 42 (f := .glo "beside") rfl)
  m_L_cell := He.glo_ok X G (c.t.d.fact 43 (f := .glo "_law_cell") rfl)
  m_L_numbers := He.glo_ok X G (c.t.d.fact 44 (f := .glo "_law_numbers") rfl)
  m_L_names := He.glo_ok X G (c.t.d.fact 45 (f := .glo "_law_names") rfl)
  m_L_place := He.glo_ok X G (c.t.d.fact 46 (f := .glo "_law_place") rfl)
  m_L_ties := He.glo_ok X G (c.t.d.fact 47 (f := .glo "_law_ties") rfl)
  m_L_web := He.glo_ok X G (c.t.d.fact 48 (f := .glo "_law_web") rfl)
  m_L_chain := He.glo_ok X G (c.t.d.fact 49 (f := .glo "_law_chain") rfl)
  m_L_drawn := He.glo_ok X G (c.t.d.fact 50 (f := .glo "_law_drawn") rfl)
  m_L_only := He.glo_ok X G (c.t.d.fact 51 (f := .glo "_law_only") rfl)
  m_L_refused := He.glo_ok X G (c.t.d.fact 52 (f := .glo "_law_refused") rfl)
  m_law := He.glo_ok X G (c.t.d.fact 53 (f := .glo "law") rfl)
  f_ValueError := He.free_ok X G (c.t.d.fact 54 (f := .free "ValueError") rfl)
  f_abs := He.free_ok X G (c.t.d.fact 55 (f := .free "abs") rfl)
  f_all := He.free_ok X G (c.t.d.fact 56 (f := .free "all") rfl)
  f_int := He.free_ok X G (c.t.d.fact 57 (f := .free "int") rfl)
  f_isinstance := He.free_ok X G (c.t.d.fact 58 (f := .free "isinstance") rfl)
  f_len := He.free_ok X G (c.t.d.fact 59 (f := .free "len") rfl)
  f_list := He.free_ok X G (c.t.d.fact 60 (f := .free "list") rfl)
  f_max := He.free_ok X G (c.t.d.fact 61 (f := .free "max") rfl)
  f_min := He.free_ok X G (c.t.d.fact 62 (f := .free "min") rfl)
  f_range := He.free_ok X G (c.t.d.fact 63 (f := .free "range") rfl)
  f_sorted := He.free_ok X G (c.t.d.fact 64 (f := .free "sorted") rfl)
  f_str := He.free_ok X G (c.t.d.fact 65 (f := .free "str") rfl)
  f_super := He.free_ok X G (c.t.d.fact 66 (f := .free "super") rfl)
  f_tuple := He.free_ok X G (c.t.d.fact 67 (f := .free "tuple") rfl)
  f_zip := He.free_ok X G (c.t.d.fact 68 (f := .free "zip") rfl)
  k_StairError := He.keep_ok (c.t.d.fact 69 (f := .keep "StairError") rfl)
  k_NoText := He.keep_ok (c.t.d.fact 70 (f := .keep "NoText") rfl)
  k_NoNumber := He.keep_ok (c.t.d.fact 71 (f := .keep "NoNumber") rfl)
  k_NoCut := He.keep_ok (c.t.d.fact 72 (f := .keep "NoCut") rfl)
  k_NoPrice := He.keep_ok (c.t.d.fact 73 (f := .keep "NoPrice") rfl)
  k_NoStream := He.keep_ok (c.t.d.fact 74 (f := .keep "NoStream") rfl)
  k_NoName := He.keep_ok (c.t.d.fact 75 (f := .keep "NoName") rfl)
  k_NoFall := He.keep_ok (c.t.d.fact 76 (f := .keep "NoFall") rfl)
  k_NoShare := He.keep_ok (c.t.d.fact 77 (f := .keep "NoShare") rfl)
  k_NoPart := He.keep_ok (c.t.d.fact 78 (f := .keep "NoPart") rfl)
  k_NoTop := He.keep_ok (c.t.d.fact 79 (f := .keep "NoTop") rfl)
  k_NoPlace := He.keep_ok (c.t.d.fact 80 (f := .keep "NoPlace") rfl)
  k_NoTie := He.keep_ok (c.t.d.fact 81 (f := .keep "NoTie") rfl)
  k_NoUndo := He.keep_ok (c.t.d.fact 82 (f := .keep "NoUndo") rfl)
  k_NoWeb := He.keep_ok (c.t.d.fact 83 (f := .keep "NoWeb") rfl)
  k_NoRow := He.keep_ok (c.t.d.fact 84 (f := .keep "NoRow") rfl)
  x_NoTop := (He.exc_ok (c.t.d.fact 85 (f := .exc "NoTop") rfl)).1
  b_NoTop := (He.exc_ok (c.t.d.fact 85 (f := .exc "NoTop") rfl)).2.2.1
  t_NoTop := (He.exc_ok (c.t.d.fact 85 (f := .exc "NoTop") rfl)).2.2.2
  e_NoTop := He.exm_ok (c.t.d.fact 86 (f := .exm "NoTop" "StairError" true) rfl)
  D_common_divisor := let ⟨fd, F⟩ := c.t.d.def_ 0 (d := d_common_divisor) rfl; ⟨fd, F, He.glo_ok X G (c.t.d.fact 16 (f := .glo "common_divisor") rfl)⟩
  D_fraction := let ⟨fd, F⟩ := c.t.d.def_ 1 (d := d_fraction) rfl; ⟨fd, F, He.glo_ok X G (c.t.d.fact 17 (f := .glo "fraction") rfl)⟩
  D_plus := let ⟨fd, F⟩ := c.t.d.def_ 2 (d := d_plus) rfl; ⟨fd, F, He.glo_ok X G (c.t.d.fact 18 (f := .glo "plus") rfl)⟩
  D_times := let ⟨fd, F⟩ := c.t.d.def_ 3 (d := d_times) rfl; ⟨fd, F, He.glo_ok X G (c.t.d.fact 19 (f := .glo "times") rfl)⟩
  D_half_way := let ⟨fd, F⟩ := c.t.d.def_ 4 (d := d_half_way) rfl; ⟨fd, F, He.glo_ok X G (c.t.d.fact 20 (f := .glo "half_way") rfl)⟩
  D_below := let ⟨fd, F⟩ := c.t.d.def_ 5 (d := d_below) rfl; ⟨fd, F, He.glo_ok X G (c.t.d.fact 21 (f := .glo "below") rfl)⟩
  D_on_line := let ⟨fd, F⟩ := c.t.d.def_ 6 (d := d_on_line) rfl; ⟨fd, F, He.glo_ok X G (c.t.d.fact 22 (f := .glo "on_line") rfl)⟩
  D_is_rising := let ⟨fd, F⟩ := c.t.d.def_ 7 (d := d_is_rising) rfl; ⟨fd, F, He.glo_ok X G (c.t.d.fact 23 (f := .glo "is_rising") rfl)⟩
  D_names_of := let ⟨fd, F⟩ := c.t.d.def_ 8 (d := d_names_of) rfl; ⟨fd, F, He.glo_ok X G (c.t.d.fact 24 (f := .glo "names_of") rfl)⟩
  D_is_choice := let ⟨fd, F⟩ := c.t.d.def_ 9 (d := d_is_choice) rfl; ⟨fd, F, He.glo_ok X G (c.t.d.fact 25 (f := .glo "is_choice") rfl)⟩
  D_is_cut := let ⟨fd, F⟩ := c.t.d.def_ 10 (d := d_is_cut) rfl; ⟨fd, F, He.glo_ok X G (c.t.d.fact 26 (f := .glo "is_cut") rfl)⟩
  D_line_of := let ⟨fd, F⟩ := c.t.d.def_ 11 (d := d_line_of) rfl; ⟨fd, F, He.glo_ok X G (c.t.d.fact 27 (f := .glo "line_of") rfl)⟩
  D_choices_of := let ⟨fd, F⟩ := c.t.d.def_ 12 (d := d_choices_of) rfl; ⟨fd, F, He.glo_ok X G (c.t.d.fact 28 (f := .glo "choices_of") rfl)⟩
  D_all_cuts := let ⟨fd, F⟩ := c.t.d.def_ 13 (d := d_all_cuts) rfl; ⟨fd, F, He.glo_ok X G (c.t.d.fact 29 (f := .glo "all_cuts") rfl)⟩
  D_cuts_by_line := let ⟨fd, F⟩ := c.t.d.def_ 14 (d := d_cuts_by_line) rfl; ⟨fd, F, He.glo_ok X G (c.t.d.fact 30 (f := .glo "cuts_by_line") rfl)⟩
  D_meeting := let ⟨fd, F⟩ := c.t.d.def_ 15 (d := d_meeting) rfl; ⟨fd, F, He.glo_ok X G (c.t.d.fact 31 (f := .glo "meeting") rfl)⟩
  D_is_met_first := let ⟨fd, F⟩ := c.t.d.def_ 16 (d := d_is_met_first) rfl; ⟨fd, F, He.glo_ok X G (c.t.d.fact 32 (f := .glo "is_met_first") rfl)⟩
  D_line_behind := let ⟨fd, F⟩ := c.t.d.def_ 17 (d := d_line_behind) rfl; ⟨fd, F, He.glo_ok X G (c.t.d.fact 33 (f := .glo "line_behind") rfl)⟩
  D_bit_of := let ⟨fd, F⟩ := c.t.d.def_ 18 (d := d_bit_of) rfl; ⟨fd, F, He.glo_ok X G (c.t.d.fact 34 (f := .glo "bit_of") rfl)⟩
  D_stair_of := let ⟨fd, F⟩ := c.t.d.def_ 19 (d := d_stair_of) rfl; ⟨fd, F, He.glo_ok X G (c.t.d.fact 35 (f := .glo "stair_of") rfl)⟩
  D_bits_beside := let ⟨fd, F⟩ := c.t.d.def_ 20 (d := d_bits_beside) rfl; ⟨fd, F, He.glo_ok X G (c.t.d.fact 36 (f := .glo "bits_beside") rfl)⟩
  D_line_on := let ⟨fd, F⟩ := c.t.d.def_ 21 (d := d_line_on) rfl; ⟨fd, F, He.glo_ok X G (c.t.d.fact 37 (f := .glo "line_on") rfl)⟩
  D_worth_on := let ⟨fd, F⟩ := c.t.d.def_ 22 (d := d_worth_on) rfl; ⟨fd, F, He.glo_ok X G (c.t.d.fact 38 (f := .glo "worth_on") rfl)⟩
  D_word_at := let ⟨fd, F⟩ := c.t.d.def_ 23 (d := d_word_at) rfl; ⟨fd, F, He.glo_ok X G (c.t.d.fact 39 (f := .glo "word_at") rfl)⟩
  D_end_behind := let ⟨fd, F⟩ := c.t.d.def_ 24 (d := d_end_behind) rfl; ⟨fd, F, He.glo_ok X G (c.t.d.fact 40 (f := .glo "end_behind") rfl)⟩
  D_joined := let ⟨fd, F⟩ := c.t.d.def_ 25 (d := d_joined) rfl; ⟨fd, F, He.glo_ok X G (c.t.d.fact 41 (f := .glo "joined") rfl)⟩
  D_beside := let ⟨fd, F⟩ := c.t.d.def_ 26 (d := d_beside) rfl; ⟨fd, F, He.glo_ok X G (c.t.d.fact 42 (f := .glo "beside") rfl)⟩
  D_L_cell := let ⟨fd, F⟩ := c.t.d.def_ 27 (d := d_L_cell) rfl; ⟨fd, F, He.glo_ok X G (c.t.d.fact 43 (f := .glo "_law_cell") rfl)⟩
  D_L_numbers := let ⟨fd, F⟩ := c.t.d.def_ 28 (d := d_L_numbers) rfl; ⟨fd, F, He.glo_ok X G (c.t.d.fact 44 (f := .glo "_law_numbers") rfl)⟩
  D_L_names := let ⟨fd, F⟩ := c.t.d.def_ 29 (d := d_L_names) rfl; ⟨fd, F, He.glo_ok X G (c.t.d.fact 45 (f := .glo "_law_names") rfl)⟩
  D_L_place := let ⟨fd, F⟩ := c.t.d.def_ 30 (d := d_L_place) rfl; ⟨fd, F, He.glo_ok X G (c.t.d.fact 46 (f := .glo "_law_place") rfl)⟩
  D_L_ties := let ⟨fd, F⟩ := c.t.d.def_ 31 (d := d_L_ties) rfl; ⟨fd, F, He.glo_ok X G (c.t.d.fact 47 (f := .glo "_law_ties") rfl)⟩
  D_L_web := let ⟨fd, F⟩ := c.t.d.def_ 32 (d := d_L_web) rfl; ⟨fd, F, He.glo_ok X G (c.t.d.fact 48 (f := .glo "_law_web") rfl)⟩
  D_L_chain := let ⟨fd, F⟩ := c.t.d.def_ 33 (d := d_L_chain) rfl; ⟨fd, F, He.glo_ok X G (c.t.d.fact 49 (f := .glo "_law_chain") rfl)⟩
  D_L_drawn := let ⟨fd, F⟩ := c.t.d.def_ 34 (d := d_L_drawn) rfl; ⟨fd, F, He.glo_ok X G (c.t.d.fact 50 (f := .glo "_law_drawn") rfl)⟩
  D_L_only := let ⟨fd, F⟩ := c.t.d.def_ 35 (d := d_L_only) rfl; ⟨fd, F, He.glo_ok X G (c.t.d.fact 51 (f := .glo "_law_only") rfl)⟩
  D_L_refused := let ⟨fd, F⟩ := c.t.d.def_ 36 (d := d_L_refused) rfl; ⟨fd, F, He.glo_ok X G (c.t.d.fact 52 (f := .glo "_law_refused") rfl)⟩
  D_law := let ⟨fd, F⟩ := c.t.d.def_ 37 (d := d_law) rfl; ⟨fd, F, He.glo_ok X G (c.t.d.fact 53 (f := .glo "law") rfl)⟩
end K49

namespace K49
open PySem PySem.Spec PyProof.Rows L2 LB PM
theorem tf_mem {x : Str} (h : x ∈ gens) : (x, none) ∈ tf := List.mem_map_of_mem (f := fun x : Str => ((x, none) : He.Defn)) h
theorem law_at {w : World} {K : PySem.W.Frag} {h : Heap} {mg : Str → Option Value} {f : Addr} (X : K.In h) (G : h.Ns mainGlobals mg) (hfa : mg ("law" : Str) = some (.ref f)) (c : He.SaysX fa fn [] tf ex w h K) :
    LamX.LawAtS PySem.Challenge.rw_cutstairs_k49_webs_of_unlike_tops w K (L2.CX (PySem.Challenge.rw_cutstairs_k49_webs_of_unlike_tops).prog w) 13 63 "_law_script" mg f h := by
  have T := txt_of X G c
  have Y := ext_of c.more
  obtain ⟨fd, F, hm⟩ := T.D_law
  have e := hfa.symm.trans hm
  cases e
  have b := FunD.bindsA (ps := ["_law_script"]) F fun _ _ _ _ _ _ us hl => match us, hl with | [_], _ => rfl
  refine ⟨fd, tf.map (He.cT K), spM K (tabs K) M_law, fun p hp => ?_, fun p hp => ?_, fun p hp => ?_, fun s u => b s [u] rfl, fun H a ns hn _ hT hS => ?_, fun base _ _ TB => ?_⟩
  · obtain ⟨q, hq, rfl⟩ := List.mem_map.mp hp
    exact c.empty q hq
  · obtain ⟨q, hq, rfl⟩ := List.mem_map.mp hp
    exact c.out q hq
  · obtain ⟨q, hq, rfl⟩ := List.mem_map.mp hp
    exact PySem.W.codeHd_of_K X (c.hd q hq)
  · have t : LamX.Tabs (tabs K) H := fun p hp => by
      obtain ⟨x, hx, rfl⟩ := List.mem_map.mp hp
      exact LamX.TabS.nil (hT _ (List.mem_map.mpr ⟨(x, none), tf_mem hx, rfl⟩))
    obtain ⟨P, rfl, hs⟩ := start_pr t hS
    refine ⟨P, [.list (ns.map .int)], .bool true, rfl, .cons (.lst hs (rp_ints ns)) .nil, law_ok ns hn, fun v P' _ r => ?_⟩
    cases r
    rfl
  · obtain ⟨oc, od, dV, kV, doc, pm, an, cdv, ct, osl, rfl, lk, _⟩ := F.ex
    exact (all_ok T Y fun x hx => TB _ (List.mem_map.mpr ⟨(x, none), tf_mem hx, rfl⟩)).at hm lk
end K49
open PySem PySem.W PySem.Calls PyProof.Rows
theorem PySem.Challenge.cw_cutstairs_k49_webs_of_unlike_tops_holds : PySem.Challenge.rw_cutstairs_k49_webs_of_unlike_tops.Holds := by
  w_on; o_law
  refine HandSHeadRun.head_any (r := OpenLaw.row PySem.Challenge.rw_cutstairs_k49_webs_of_unlike_tops) (q := view (OpenLaw.row PySem.Challenge.rw_cutstairs_k49_webs_of_unlike_tops).prog [60]) (H := K49.hk) (ob := K49.ob) (M := 20000) (loose := K49.loose) (d := HandSHeadRun.topDef (OpenLaw.row PySem.Challenge.rw_cutstairs_k49_webs_of_unlike_tops).prog 60) (kwd := []) K49.ob_eq
    (by kernel_rfl) (fun s => by kernel_rfl) K49.run (by kernel_rfl) (by kernel_rfl) (by kernel_rfl) (by rfl) (by first | assumption | decide +kernel) (by decide +kernel) ⟨rfl, rfl, rfl, rfl, rfl, by decide +kernel⟩ ?hw ?hc
  case hw => w_witness2
  case hc =>
    refine LamX.walk_ofTsE (l := PySem.Challenge.rw_cutstairs_k49_webs_of_unlike_tops) (n := 63) (k := 13) (x := "_law_script") (CX := fun w => L2.CX (PySem.Challenge.rw_cutstairs_k49_webs_of_unlike_tops).prog w) rfl (by decide) (by kernel_rfl) ⟨rfl, by decide, by decide⟩ ?F (fun _ _ _ _ _ z => ?z)
    case z =>
      obtain ⟨_, _, _, _, _, _, _, _, _, _, _, _, z⟩ := z
      exact z
    case F =>
      intro w mg fa h Y G hmg0
      obtain ⟨K, KX, c⟩ := Y
      have hmg : mg ("law" : PySem.Str) = some (.ref fa) := by
        have e : (HandSHeadRun.topDef (OpenLaw.row PySem.Challenge.rw_cutstairs_k49_webs_of_unlike_tops).prog 60).name = ("law" : PySem.Str) := by kernel_rfl
        rw [← e]
        exact hmg0
      exact ⟨K, KX, K49.law_at KX G hmg c⟩
